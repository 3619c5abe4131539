/-
  The program's numbers modulo L: a number, of as many as there are, modulo L.
  The program's numbers modulo L: a whole product, limb by limb.
  The program's numbers modulo L: sums.
  The program's numbers modulo L: products.
-/
import Derived.Test.YthaheekjmofgnaaDoorMas
namespace Go.Proofs.YthaheekjmofgnaaDoor
open Go.RowKit
namespace Sca

/-- The number that words are, the lowest first. -/
def numL : List Nat → Nat
  | [] => 0
  | x :: l => x + 18446744073709551616 * numL l
theorem numL_cons (x : Nat) (l : List Nat) : numL (x :: l) = x + 18446744073709551616 * numL l := rfl
theorem numL_lims {n : Nat} (h : n < big) : numL (lims n) = n := by
  have e := limbs_limb (n := n) h
  conv => rhs; rw [← e]
  unfold lims numL numL numL numL numL limbs
  omega
/-- What is left over of the highest k. -/
def tops (l : List Nat) (k : Nat) : Nat := numL (l.drop (l.length - k)) % LL
theorem tops_zero (l : List Nat) : tops l 0 = 0 := by
  unfold tops
  rw [Nat.sub_zero, List.drop_length]
  rfl
theorem tops_all (l : List Nat) : tops l l.length = numL l % LL := by
  unfold tops
  rw [Nat.sub_self, List.drop_zero]
theorem tops_lt (l : List Nat) (k : Nat) : tops l k < LL := Nat.mod_lt _ (by decide)
theorem tops_succ (l : List Nat) {k j : Nat} (hk : k < l.length) (hj : j = l.length - 1 - k) : Tt (Tt (tops l k) (l.getD j 0 / 4294967296) % LL) (l.getD j 0 % 4294967296) % LL = tops l (k + 1) := by
  subst hj
  unfold tops
  rw [show l.length - (k + 1) = l.length - 1 - k by omega]
  have hlt : l.length - 1 - k < l.length := by omega
  rw [List.drop_eq_getElem_cons hlt, show l.length - 1 - k + 1 = l.length - k by omega, List.getD_eq_getElem?_getD, List.getElem?_eq_getElem hlt, Option.getD_some]
  generalize l[l.length - 1 - k] = x
  rw [numL_cons]
  generalize numL (l.drop (l.length - k)) = v
  unfold Tt
  have hx := Nat.mod_add_div x 4294967296
  generalize x / 4294967296 = xh at *
  generalize x % 4294967296 = xl at *
  rw [Nat.add_mod (4294967296 * ((4294967296 * (v % LL) + xh) % LL)), Nat.mul_mod_mod, ← Nat.add_mod, Nat.mul_add, ← Nat.mul_assoc]
  rw [Nat.add_assoc, Nat.add_mod (4294967296 * 4294967296 * (v % LL)), Nat.mul_mod_mod, ← Nat.add_mod]
  congr 1
  omega

set_option maxRecDepth 100000 in
theorem division_any (w : World) :
    Calls Tryd.prog 68 #[] w fun e w' => e = .returned (.func (.func 74) #[] #[.pointer (some ⟨w.heap.size, 0, none⟩)]) ∧ w' = w.alloc (.cells #[.int .u64 0, .int .u64 0, .int .u64 0, .int .u64 0] 32) := by
  have hmf : ∀ (fn : Fn) (first cap : Array Value) (w : World), (Instr.makeFunc fn first cap).run Tryd.prog w = .ok (.func fn first cap) w := fun _ _ _ _ => rfl
  go_enter Tryd.func68, Tryd.ntmps68
  go_wp2
  go_ret
  exact ⟨rfl, rfl⟩

theorem and_part (a : Nat) (ha : a < 18446744073709551616) : bits .and .u64 (a : Int) 4294967295 = ((a % 4294967296 : Nat) : Int) := by
  have h := bits_and_u64_nat a 4294967295 ha (by omega)
  have e : a &&& 4294967295 = a % 4294967296 := Nat.and_two_pow_sub_one_eq_mod a 32
  rw [e] at h
  exact h

set_option maxRecDepth 100000 in
set_option maxHeartbeats 2000000 in
theorem below_any (l : List Nat) (n b : Nat) (ty : TypeId) (w : World) (hl : l.length = n) (hn : n ≤ 8) (hs : ∀ x ∈ l, x < 18446744073709551616) (hB : HoldsN w ty b l) (L0 : Laid w) :
    Calls Tryd.prog 51 #[.slice (some ⟨b, 0, none⟩) n n] w (GaveF w (numL l % LL)) := by
  have hsz := L0.size
  have hbw := hB.lt
  obtain ⟨z0, b0, e0⟩ := sc_start w 0 #[.int .u64 0, .int .u64 0, .int .u64 0, .int .u64 0] (by kernel_rfl)
  obtain ⟨r0, r1, r2, br, er⟩ := sc_start3 w 0 0 0 #[.int .u64 0, .int .u64 0, .int .u64 0, .int .u64 0] #[.int .u64 0, .int .u64 0, .int .u64 0, .int .u64 0] #[.int .u64 0, .int .u64 0, .int .u64 0, .int .u64 0] (by kernel_rfl) (by kernel_rfl) (by kernel_rfl)
  have STEP : Hid (∀ (v p : Nat) W, v < LL → p < 4294967296 → HoldsN W 32 (w.heap.size + 1) (lims v) → Below w.heap.size w W →
      Calls Tryd.prog 74 #[.int .u64 (p : Int), .pointer (some ⟨w.heap.size + 1, 0, none⟩)] W fun e w' => e = .returned (.agg ((lims (Tt v p % LL)).map nv).toArray) ∧ HoldsN w' 32 (w.heap.size + 1) (lims (Tt v p % LL)) ∧ Only (w.heap.size + 1) W w') :=
    Lib.hid fun v p W hv hp hG hb => step_any v p (w.heap.size + 1) W hv hp hG (L0.keep hb hsz) (by omega)
  have DV : Hid (∀ W, W.heap.size = w.heap.size + 1 → Calls Tryd.prog 68 #[] W fun e w' => e = .returned (.func (.func 74) #[] #[.pointer (some ⟨w.heap.size + 1, 0, none⟩)]) ∧ w' = W.alloc (.cells #[.int .u64 0, .int .u64 0, .int .u64 0, .int .u64 0] 32)) := Lib.hid fun W hW => by
    have := division_any W
    rwa [hW] at this
  have TZ : Hid (tops l 0 = 0) := Lib.hid (tops_zero l)
  have TA : Hid (tops l n = numL l % LL) := Lib.hid (by rw [← hl]; exact tops_all l)
  have TL : Hid (∀ k, tops l k < LL) := Lib.hid fun k => tops_lt l k
  have TS : Hid (∀ k j, k < n → j = n - 1 - k → Tt (Tt (tops l k) (l.getD j 0 / 4294967296) % LL) (l.getD j 0 % 4294967296) % LL = tops l (k + 1)) := Lib.hid fun k j hk hj => tops_succ l (by omega) (by omega)
  have XS : Hid (∀ j, l.getD j 0 < 18446744073709551616) := Lib.hid fun j => by
    rw [List.getD_eq_getElem?_getD]
    cases h : l[j]? with
    | none => simp
    | some x => exact hs x (List.mem_of_getElem? h)
  have tz : ∀ {W : World} {g : Nat}, HoldsN W 32 g (lims 0) → HoldsN W 32 g (lims (tops l 0)) := fun h => by rw [TZ.out]; exact h
  have r1' := tz r1
  have r2' := tz r2
  clear r1 r2 tz
  unfold GaveF
  rw [fev_eq]
  generalize numL l % LL = res at *
  have E0 := Lib.hid e0
  have HL := Lib.hid hl
  clear e0 er hl hs hsz z0 b0
  go_enter Tryd.func51, Tryd.ntmps51
  go_wp2_with (first
    | (go_at_call 68
       with_reducible refine (DV.out _ E0.out).mono ?_
       rintro e w1 ⟨rfl, rfl⟩)
    | fail)
  go_loopw [10] (fun vi wr => ∃ i : Nat, i ≤ n ∧ vi = .int .i64 (i : Int) ∧ HoldsN wr 32 w.heap.size (lims 0) ∧ HoldsN wr 32 (w.heap.size + 1) (lims (tops l i)) ∧ HoldsN wr 32 (w.heap.size + 2) (lims (tops l i)) ∧ Below w.heap.size w wr)
    (fun vi _ => n - (intOf vi).toNat)
  case atStart => exact ⟨0, Nat.zero_le _, rfl, r0, r1', r2', br⟩
  case round =>
    clear r0 r1' r2' br E0 DV
    obtain ⟨i, hi, rfl, hR, hG, hL, hb⟩ := hrel
    by_cases hlt : i < n
    · have hi2 : (i : Int) < (n : Int) := by omega
      obtain ⟨j, hj⟩ : ∃ j, j = n - 1 - i := ⟨_, rfl⟩
      have hjl : j < l.length := by rw [HL.out]; omega
      have hjn : (j : Int) < (n : Int) := by omega
      have cb := (hB.keep hb hbw).cell (j := j) hjl
      have hx := XS.out j
      have ts := TS.out i j hlt hj
      have w1 : IntKind.i64.wrap ((n : Int) - 1) = ((n - 1 : Nat) : Int) := by rw [IntKind.wrap_i64]; omega
      have w2 : IntKind.i64.wrap (((n - 1 : Nat) : Int) - (i : Int)) = (j : Int) := by rw [IntKind.wrap_i64]; omega
      generalize n - 1 = n1 at *
      generalize l.getD j 0 = x at *
      obtain ⟨xh, hxh⟩ : ∃ xh, xh = x / 4294967296 := ⟨_, rfl⟩
      obtain ⟨xl, hxl⟩ : ∃ xl, xl = x % 4294967296 := ⟨_, rfl⟩
      rw [← hxh, ← hxl] at ts
      have w3 : (x : Int) / 4294967296 = (xh : Int) := by omega
      have w4 : bits .and .u64 (x : Int) 4294967295 = (xl : Int) := by rw [hxl]; exact and_part x hx
      have S1 : Hid (∀ W, HoldsN W 32 (w.heap.size + 1) (lims (tops l i)) → Below w.heap.size w W → Calls Tryd.prog 74 #[.int .u64 (xh : Int), .pointer (some ⟨w.heap.size + 1, 0, none⟩)] W fun e w' => e = .returned (.agg ((lims (Tt (tops l i) xh % LL)).map nv).toArray) ∧ HoldsN w' 32 (w.heap.size + 1) (lims (Tt (tops l i) xh % LL)) ∧ Only (w.heap.size + 1) W w') := Lib.hid fun W hG hb => STEP.out (tops l i) xh W (TL.out i) (by omega) hG hb
      have S2 : Hid (∀ W, HoldsN W 32 (w.heap.size + 1) (lims (Tt (tops l i) xh % LL)) → Below w.heap.size w W → Calls Tryd.prog 74 #[.int .u64 (xl : Int), .pointer (some ⟨w.heap.size + 1, 0, none⟩)] W fun e w' => e = .returned (.agg ((lims (tops l (i + 1))).map nv).toArray) ∧ HoldsN w' 32 (w.heap.size + 1) (lims (tops l (i + 1))) ∧ Only (w.heap.size + 1) W w') := Lib.hid fun W hG hb => by
        have := STEP.out (Tt (tops l i) xh % LL) xl W (Nat.mod_lt _ (by decide)) (by omega) hG hb
        rwa [ts] at this
      clear ts hxh hxl hx hj STEP
      generalize Tt (tops l i) xh % LL = y at *
      generalize hz : tops l (i + 1) = z at *
      have HZ := Lib.hid hz
      clear hz
      generalize tops l i = v at *
      go_wp2_with (first
        | (go_at_call 74
           with_reducible refine (S1.out _ hG hb).mono ?_
           rintro e w3 ⟨rfl, hG3, hO3⟩
           have hL3 : HoldsN w3 32 (w.heap.size + 2) (lims v) := (hO3.other _ hL.lt (by omega)).trans hL
           have hR3 : HoldsN w3 32 w.heap.size (lims 0) := (hO3.other _ hR.lt (by omega)).trans hR
           have b3 := hb.trans (hO3.below.mono (Nat.le_succ _)))
        | (go_at_call 74
           with_reducible refine (S2.out _ hG3 b3).mono ?_
           rintro e w4 ⟨rfl, hG4, hO4⟩
           have hL4 : HoldsN w4 32 (w.heap.size + 2) (lims v) := (hO4.other _ hL3.lt (by omega)).trans hL3
           have hR4 : HoldsN w4 32 w.heap.size (lims 0) := (hO4.other _ hR3.lt (by omega)).trans hR3
           have b4 := b3.trans (hO4.below.mono (Nat.le_succ _)))
        | (with_reducible refine wpList_store_n rfl 32 (.tmp 4) (.tmp 28) rfl (w.heap.size + 2) (lims z) 4 rfl rfl rfl (lims v) hL4 Tryd.infoSc rfl w.heap.size w b4 (by omega) ?_
           intro w5 hL5 o5 s5 b5
           have hG5 := hG4.oth o5 (by omega)
           have hR5 := hR4.oth o5 (by omega)
           clear s5)
        | fail)
      go_roundw
      case rel => exact ⟨i + 1, by omega, by go_num, hR5, by rw [HZ.out]; exact hG5, by rw [HZ.out]; exact hL5, b5⟩
      case measure => simp [intOf]; omega
    · obtain rfl : i = n := by omega
      rw [TA.out] at hG hL
      clear STEP TS
      go_wp2_with (first
        | (with_reducible refine wpList_load_n rfl 32 (.tmp 4) rfl (w.heap.size + 2) rfl (lims res) 4 hL rfl Tryd.underlying32 Tryd.infoSc ?_)
        | (with_reducible refine wpList_store_n rfl 32 (.tmp 2) (.tmp 30) rfl w.heap.size (lims res) 4 rfl rfl rfl (lims 0) hR Tryd.infoSc rfl w.heap.size w hb (Nat.le_refl _) ?_; intro w7 Hg _ _ hb7)
        | fail)
      exact bodyPost_ret (results_cell_row rfl _ _ _ _ _ _ _ rfl Hg Tryd.underlying32 rfl (by rw [Tryd.infoSc]; rfl)) rfl ⟨rfl, hb7⟩
end Sca
end Go.Proofs.YthaheekjmofgnaaDoor

namespace Go.Proofs.YthaheekjmofgnaaDoor
open Go.RowKit
namespace Sca

theorem Tryd.infoProd : (Tryd.prog.info? 64).map (·.size) = some 8 := by kernel_rfl

/-- What the first i limbs of m make of n. -/
def rows (m n i : Nat) : Nat := m % 18446744073709551616 ^ i * n
theorem rows_zero (m n : Nat) : rows m n 0 = 0 := by unfold rows; rw [Nat.pow_zero, Nat.mod_one, Nat.zero_mul]
theorem rows_four {m : Nat} (hm : m < big) (n : Nat) : rows m n 4 = m * n := by unfold rows; rw [big_pow, Nat.mod_eq_of_lt hm]
theorem rows_succ (m n i : Nat) : rows m n (i + 1) = rows m n i + 18446744073709551616 ^ i * (limb m i * n) := by
  unfold rows
  rw [mod_limb, Nat.add_mul, Nat.mul_assoc]
/-- What stands from limb i on behind i rows. -/
def rest (m n i : Nat) : Nat := rows m n i / 18446744073709551616 ^ i
theorem rest_lt {m n : Nat} (hn : n < big) (i : Nat) : rest m n i < 18446744073709551616 ^ 4 := by
  unfold rest rows
  rw [Nat.div_lt_iff_lt_mul (wpos i), big_pow, Nat.mul_comm big]
  have h1 := Nat.mod_lt m (wpos i)
  rcases Nat.eq_zero_or_pos n with h | h
  · subst h; exact Nat.mul_pos (wpos i) (by decide)
  · exact Nat.lt_of_lt_of_le (Nat.mul_lt_mul_of_pos_right h1 h) (Nat.mul_le_mul_left _ (Nat.le_of_lt hn))
theorem rest_succ (m n i : Nat) : rows m n (i + 1) / 18446744073709551616 ^ i = limb m i * n + rest m n i + 0 := by
  rw [rows_succ, Nat.add_mul_div_left _ _ (wpos i)]
  unfold rest
  omega
theorem limb_div (n i j : Nat) : limb (n / 18446744073709551616 ^ i) j = limb n (i + j) := by
  unfold limb
  rw [Nat.div_div_eq_div_mul, ← Nat.pow_add]
theorem limb_of_lt {n i : Nat} (h : n < 18446744073709551616 ^ i) : limb n i = 0 := by
  unfold limb; rw [Nat.div_eq_of_lt h]
/-- The limbs below i stay. -/
theorem rows_low {m n i p : Nat} (h : p < i) : limb (rows m n (i + 1)) p = limb (rows m n i) p := by
  rw [rows_succ]
  unfold limb
  have e : 18446744073709551616 ^ i = 18446744073709551616 ^ p * (18446744073709551616 * 18446744073709551616 ^ (i - p - 1)) := by
    rw [← Nat.pow_succ', ← Nat.pow_add]; congr 1; omega
  rw [e, Nat.mul_assoc, Nat.mul_assoc, Nat.add_mul_div_left _ _ (wpos p), Nat.add_mul_mod_self_left]
/-- The limbs above stay 0. -/
theorem rows_lt {m n : Nat} (hn : n < big) (i : Nat) : rows m n i < 18446744073709551616 ^ (i + 4) := by
  have h := rest_lt (m := m) hn i
  unfold rest at h
  rw [Nat.div_lt_iff_lt_mul (wpos i), ← Nat.pow_add] at h
  rw [Nat.add_comm]; exact h
theorem rows_high {m n i p : Nat} (hn : n < big) (h : i + 5 ≤ p) : limb (rows m n (i + 1)) p = 0 ∧ limb (rows m n i) p = 0 := by
  have h1 := rows_lt (m := m) hn (i + 1)
  have h2 := rows_lt (m := m) hn i
  have mono : ∀ a, a ≤ p → 18446744073709551616 ^ a ≤ 18446744073709551616 ^ p := fun a ha => Nat.pow_le_pow_right (by omega) ha
  exact ⟨limb_of_lt (Nat.lt_of_lt_of_le h1 (mono _ (by omega))), limb_of_lt (Nat.lt_of_lt_of_le h2 (mono _ (by omega)))⟩
theorem rows_start {m n i : Nat} : mixL 8 (rows m n (i + 1)) (rows m n i) i = mixL 8 (rows m n i) 0 8 :=
  mixL_eq fun p hp => by
    by_cases h : p < i
    · rw [if_pos h, if_pos hp, rows_low h]
    · rw [if_neg h, if_pos hp]
theorem rows_end {m n i : Nat} (hn : n < big) : mixL 8 (rows m n (i + 1)) (rows m n i) (i + 5) = mixL 8 (rows m n (i + 1)) 0 8 :=
  mixL_eq fun p hp => by
    by_cases h : p < i + 5
    · rw [if_pos h, if_pos hp]
    · rw [if_neg h, if_pos hp, (rows_high hn (by omega)).1, (rows_high hn (by omega)).2]
/-- One step of a row. -/
theorem row_step (m n i j : Nat) : (limb m i * limb n j + limb (rows m n i) (i + j) + cy (limb m i) n (rest m n i) 0 j) % 18446744073709551616 = limb (rows m n (i + 1)) (i + j) ∧
    (limb m i * limb n j + limb (rows m n i) (i + j) + cy (limb m i) n (rest m n i) 0 j) / 18446744073709551616 = cy (limb m i) n (rest m n i) 0 (j + 1) := by
  have h1 := lin_limb (limb m i) n (rest m n i) 0 j
  have h2 := cy_succ (limb m i) n (rest m n i) 0 j
  rw [← rest_succ, limb_div] at h1
  have h3 : limb (rest m n i) j = limb (rows m n i) (i + j) := limb_div ..
  rw [h3] at h1 h2
  exact ⟨h1.symm, h2.symm⟩
theorem row_last {m n i : Nat} (hn : n < big) : cy (limb m i) n (rest m n i) 0 4 = limb (rows m n (i + 1)) (i + 4) := by
  rw [cy_whole (by rw [big_pow]; exact hn) (rest_lt hn i), ← rest_succ, ← limb_div]
  unfold limb
  refine (Nat.mod_eq_of_lt ?_).symm
  rw [rest_succ, Nat.div_lt_iff_lt_mul (wpos 4), big_pow]
  have h1 := limb_lt m i
  have h2 := rest_lt (m := m) hn i
  rw [big_pow] at h2
  unfold limb at *
  have h3 : m / 18446744073709551616 ^ i % 18446744073709551616 * n ≤ 18446744073709551615 * n := Nat.mul_le_mul_right _ (by omega)
  unfold big at *
  omega
/-- Eight limbs. -/
def lims8 (n : Nat) : List Nat := mixL 8 n 0 8
theorem lims8_length (n : Nat) : (lims8 n).length = 8 := mixL_length ..
theorem lims8_zero : List.replicate 8 0 = lims8 0 := by decide
theorem zeros8 : (#[.int .u64 0, .int .u64 0, .int .u64 0, .int .u64 0, .int .u64 0, .int .u64 0, .int .u64 0, .int .u64 0] : Array Value) = ((lims8 0).map nv).toArray := by rw [← lims8_zero]; rfl
theorem lims8_small (n : Nat) : ∀ x ∈ lims8 n, x < 18446744073709551616 := fun x hx => by
  unfold lims8 mixL at hx
  obtain ⟨p, _, rfl⟩ := List.mem_map.1 hx
  split <;> exact limb_lt _ _
theorem numL_lims8 {n : Nat} (h : n < big * big) : numL (lims8 n) = n := by
  have e : lims8 n = [limb n 0, limb n 1, limb n 2, limb n 3, limb n 4, limb n 5, limb n 6, limb n 7] := rfl
  rw [e]
  have hd : ∀ k, n / 18446744073709551616 ^ k = limb n k + 18446744073709551616 * (n / 18446744073709551616 ^ (k + 1)) := fun k => by
    rw [Nat.pow_succ, ← Nat.div_div_eq_div_mul]
    unfold limb
    exact (Nat.mod_add_div _ _).symm
  have e0 : n = n / 18446744073709551616 ^ 0 := by rw [Nat.pow_zero, Nat.div_one]
  have e8 : n / 18446744073709551616 ^ 8 = 0 := Nat.div_eq_of_lt (Nat.lt_of_lt_of_le h (by decide))
  conv => rhs; rw [e0, hd 0, hd 1, hd 2, hd 3, hd 4, hd 5, hd 6, hd 7, e8]
  rfl
end Sca
end Go.Proofs.YthaheekjmofgnaaDoor

namespace Go.Proofs.YthaheekjmofgnaaDoor
open Go.RowKit
namespace Sca

theorem Tryd.infoFive : (Tryd.prog.info? 59).map (·.size) = some 5 := by kernel_rfl
/-- The first k limbs of a sum, and what is carried. -/
def addT (m n k : Nat) : List Nat := mixL 4 (m + n) 0 k ++ [cy 1 m n 0 k]
theorem addT_length (m n k : Nat) : (addT m n k).length = 5 := by unfold addT; rw [List.length_append, mixL_length]; rfl
theorem addT_zero (m n : Nat) : addT m n 0 = [0, 0, 0, 0, 0] := by unfold addT; rw [cy_zero]; rfl
theorem addT_four (m n k : Nat) : (addT m n k).getD 4 0 = cy 1 m n 0 k := rfl
theorem addT_set {m n k : Nat} (hk : k < 4) : ((addT m n k).set k (limb (m + n) k)).set 4 (cy 1 m n 0 (k + 1)) = addT m n (k + 1) := by
  unfold addT
  rw [← mixL_set hk, List.set_append_left _ _ (by rw [mixL_length]; exact hk), List.set_append_right _ _ (by simp [mixL_length])]
  simp [mixL_length]
theorem addT_num {m n : Nat} (hm : m < big) (hn : n < big) : numL (addT m n 4) = m + n ∧ ∀ x ∈ addT m n 4, x < 18446744073709551616 := by
  have h := cy_whole (q := 1) (X := m) (Y := n) (c := 0) (k := 4) (by rw [big_pow]; exact hm) (by rw [big_pow]; exact hn)
  rw [big_pow, Nat.one_mul, Nat.add_zero] at h
  constructor
  · have hd : ∀ k, (m + n) / 18446744073709551616 ^ k = limb (m + n) k + 18446744073709551616 * ((m + n) / 18446744073709551616 ^ (k + 1)) := fun k => by
      rw [Nat.pow_succ, ← Nat.div_div_eq_div_mul]
      unfold limb
      exact (Nat.mod_add_div _ _).symm
    have e0 : m + n = (m + n) / 18446744073709551616 ^ 0 := by rw [Nat.pow_zero, Nat.div_one]
    have e : addT m n 4 = [limb (m + n) 0, limb (m + n) 1, limb (m + n) 2, limb (m + n) 3, cy 1 m n 0 4] := rfl
    rw [e, h, ← big_pow]
    conv => rhs; rw [e0, hd 0, hd 1, hd 2, hd 3]
    rfl
  · intro x hx
    have e : addT m n 4 = [limb (m + n) 0, limb (m + n) 1, limb (m + n) 2, limb (m + n) 3, cy 1 m n 0 4] := rfl
    rw [e] at hx
    simp only [List.mem_cons, List.not_mem_nil, or_false] at hx
    rcases hx with rfl | rfl | rfl | rfl | rfl
    · exact limb_lt _ _
    · exact limb_lt _ _
    · exact limb_lt _ _
    · exact limb_lt _ _
    · exact Nat.lt_of_le_of_lt (cy_bit (by omega) 4) (by decide)

theorem holds_drew {W : World} {ty g : Nat} {l : List Nat} (h : HoldsN W ty g l) : HoldsN W.drew ty g l := h
theorem tail_start (w : World) (ty : TypeId) (l : List Nat) (m n k : Nat) (c1 c2 c3 c4 : Array Value) (h1 : c1 = ((lims m).map nv).toArray) (h2 : c2 = ((lims n).map nv).toArray) (h3 : c3 = ((lims k).map nv).toArray) (h4 : c4 = (l.map nv).toArray) :
    HoldsN ((((w.alloc (.cells c1 32)).alloc (.cells c2 32)).alloc (.cells c3 32)).alloc (.cells c4 ty)) 32 w.heap.size (lims m) ∧
    HoldsN ((((w.alloc (.cells c1 32)).alloc (.cells c2 32)).alloc (.cells c3 32)).alloc (.cells c4 ty)) 32 (w.heap.size + 1) (lims n) ∧
    HoldsN ((((w.alloc (.cells c1 32)).alloc (.cells c2 32)).alloc (.cells c3 32)).alloc (.cells c4 ty)) 32 (w.heap.size + 1 + 1) (lims k) ∧
    HoldsN ((((w.alloc (.cells c1 32)).alloc (.cells c2 32)).alloc (.cells c3 32)).alloc (.cells c4 ty)) ty (w.heap.size + 1 + 1 + 1) l ∧
    Below w.heap.size w ((((w.alloc (.cells c1 32)).alloc (.cells c2 32)).alloc (.cells c3 32)).alloc (.cells c4 ty)) := by
  obtain ⟨a, a2, a3, b, e⟩ := sc_start3 w m n k c1 c2 c3 h1 h2 h3
  exact ⟨a.alloc _, a2.alloc _, a3.alloc _, holdsN_new _ _ _ _ _ e.symm h4, b.alloc (by omega) _⟩

set_option maxRecDepth 100000 in
set_option maxHeartbeats 2000000 in
theorem Add_any (m n : Nat) (w : World) (hm : m < big) (hn : n < big) (L0 : Laid w) :
    Calls Tryd.prog 24 #[fev m, fev n] w (GaveF w (toS m + toS n).val) := by
  obtain ⟨hA, hB, hC, hT, hb⟩ := tail_start w 59 (addT m n 0) m n 0 _ _ #[.int .u64 0, .int .u64 0, .int .u64 0, .int .u64 0] #[.int .u64 0, .int .u64 0, .int .u64 0, .int .u64 0, .int .u64 0] rfl rfl (by kernel_rfl) (by rw [addT_zero]; rfl)
  have hsz := L0.size
  have LS : Hid (∀ k, (limb m k + limb n k + cy 1 m n 0 k) % 18446744073709551616 = limb (m + n) k ∧ (limb m k + limb n k + cy 1 m n 0 k) / 18446744073709551616 = cy 1 m n 0 (k + 1)) := Lib.hid fun k => lin_add m n k
  have hbit : Hid (∀ k, cy 1 m n 0 k ≤ 1) := Lib.hid fun k => cy_bit (by omega) k
  have SET : Hid (∀ k, k < 4 → ((addT m n k).set k (limb (m + n) k)).set 4 (cy 1 m n 0 (k + 1)) = addT m n (k + 1)) := Lib.hid fun k hk => addT_set hk
  have LEN : Hid (∀ k, (addT m n k).length = 5) := Lib.hid fun k => addT_length m n k
  have FOUR : Hid (∀ k, (addT m n k).getD 4 0 = cy 1 m n 0 k) := Lib.hid fun k => addT_four m n k
  have BL : Hid (∀ W, HoldsN W 59 (w.heap.size + 1 + 1 + 1) (addT m n 4) → Below w.heap.size w W → Calls Tryd.prog 51 #[.slice (some ⟨w.heap.size + 1 + 1 + 1, 0, none⟩) 5 5] W fun e w' => e = .returned (.agg ((lims (toS m + toS n).val).map nv).toArray) ∧ Below W.heap.size W w') := Lib.hid fun W hW hbW => by
    have h := below_any (addT m n 4) 5 (w.heap.size + 1 + 1 + 1) 59 W (addT_length m n 4) (by omega) (addT_num hm hn).2 hW (L0.keep hbW hsz)
    rw [(addT_num hm hn).1] at h
    rw [← toS_add]
    exact h
  generalize (toS m + toS n).val = v at *
  generalize m + n = s at *
  generalize addT m n = T at *
  rw [fev_eq, fev_eq]
  clear hm hn
  go_enter Tryd.func24, Tryd.ntmps24
  go_wp2
  go_loopw [6, 7] (fun _ vi wr => ∃ k : Nat, k ≤ 4 ∧ vi = .int .i64 (k : Int) ∧ HoldsN wr 32 w.heap.size (lims m) ∧ HoldsN wr 32 (w.heap.size + 1) (lims n) ∧ HoldsN wr 32 (w.heap.size + 1 + 1) (lims 0) ∧ HoldsN wr 59 (w.heap.size + 1 + 1 + 1) (T k) ∧ Below w.heap.size w wr)
    (fun _ vi _ => 4 - (intOf vi).toNat)
  case atStart => exact ⟨0, Nat.zero_le _, rfl, hA, hB, hC, hT, hb⟩
  case round =>
    clear hA hB hC hT hb
    obtain ⟨k, hk, rfl, hA, hB, hC, hT, hb⟩ := hrel
    by_cases hlt : k < 4
    · have hj2 : (k : Int) < 4 := by omega
      have hj5 : (k : Int) < 5 := by omega
      have ca := hA.cell (j := k) (by rw [lims_length]; exact hlt)
      have cb := hB.cell (j := k) (by rw [lims_length]; exact hlt)
      have ct := hT.cell (j := 4) (by rw [LEN.out]; omega)
      have ck := hT.cell (j := k) (by rw [LEN.out]; omega)
      rw [lims_get _ hlt] at ca cb
      rw [FOUR.out] at ct
      have hf := hT.frozen k
      have hf4 := hT.frozen 4
      have hL := Lib.hid (SET.out k hlt)
      have AD : ∀ W, (callFunc 50 #[.int .u64 (limb m k : Int), .int .u64 (limb n k : Int), .int .u64 (cy 1 m n 0 k : Int)]).run Tryd.prog W = .ok (.value (.tuple #[.int .u64 (limb s k : Int), .int .u64 (cy 1 m n 0 (k + 1) : Int)])) W := fun W => by
        have := run_Add64 (limb m k) (limb n k) (cy 1 m n 0 k) (hbit.out k) W
        rw [(LS.out k).1, (LS.out k).2] at this
        exact this
      generalize limb s k = x at *
      generalize limb m k = y at *
      generalize limb n k = z at *
      generalize cy 1 m n 0 k = c at *
      generalize cy 1 m n 0 (k + 1) = c' at *
      go_wp2
      go_region
      all_goals
        go_wp2
        go_roundw
        case rel => exact ⟨k + 1, by omega, by go_num, holds_drew ((hA.setOther _ _ (by simp; omega)).setOther _ _ (by simp; omega)), holds_drew ((hB.setOther _ _ (by simp)).setOther _ _ (by simp)), holds_drew ((hC.setOther _ _ (by simp)).setOther _ _ (by simp)), by rw [← hL.out]; exact holds_drew ((hT.set k x).set 4 c'), ((hb.setCell (p := ⟨w.heap.size + 1 + 1 + 1, k, none⟩) (by simp; omega) _).setCell (p := ⟨w.heap.size + 1 + 1 + 1, 4, none⟩) (by simp; omega) _).drew⟩
        case measure => simp [intOf]; omega
    · rw [show (k : Int) = 4 by omega]
      obtain rfl : k = 4 := by omega
      clear hA hB
      generalize T 4 = t at *
      go_wp2_with (first
        | (go_at_call 51
           with_reducible refine (BL.out _ hT hb).mono ?_
           rintro e w3 ⟨rfl, hb3⟩
           have hC3 := hC.keep hb3 hC.lt
           have b3 := hb.trans (hb3.mono hb.size))
        | (with_reducible refine wpList_store_n rfl 32 (.tmp 4) (.tmp 27) rfl (w.heap.size + 1 + 1) (lims v) 4 rfl rfl rfl (lims 0) hC3 Tryd.infoSc rfl w.heap.size w b3 (by omega) ?_; intro w7 Hg _ _ hb7)
        | fail)
      exact bodyPost_ret (results_cell_row rfl _ _ _ _ _ _ _ rfl Hg Tryd.underlying32 rfl (by rw [Tryd.infoSc]; rfl)) rfl ⟨rfl, hb7⟩
end Sca
end Go.Proofs.YthaheekjmofgnaaDoor

namespace Go.Proofs.YthaheekjmofgnaaDoor
open Go.RowKit
namespace Sca

set_option maxRecDepth 100000 in
set_option maxHeartbeats 2000000 in
theorem Mul_any (m n : Nat) (w : World) (hm : m < big) (hn : n < big) (L0 : Laid w) :
    Calls Tryd.prog 25 #[fev m, fev n] w (GaveF w (toS m * toS n).val) := by
  have hsz := L0.size
  have BL : Hid (∀ W, HoldsN W 64 (w.heap.size + 1 + 1 + 1) (lims8 (m * n)) → Below w.heap.size w W → Calls Tryd.prog 51 #[.slice (some ⟨w.heap.size + 1 + 1 + 1, 0, none⟩) 8 8] W fun e w' => e = .returned (.agg ((lims (toS m * toS n).val).map nv).toArray) ∧ Below W.heap.size W w') := Lib.hid fun W hW hbW => by
    have h := below_any (lims8 (m * n)) 8 (w.heap.size + 1 + 1 + 1) 64 W (lims8_length _) (by omega) (lims8_small _) hW (L0.keep hbW hsz)
    rw [numL_lims8 (Nat.mul_lt_mul'' hm hn)] at h
    rw [← toS_mul]
    exact h
  have TP : Hid (∀ (i j : Nat) W, j < 4 → Calls Tryd.prog 52 #[.int .u64 (limb m i : Int), .int .u64 (limb n j : Int), .int .u64 (limb (rows m n i) (i + j) : Int), .int .u64 (cy (limb m i) n (rest m n i) 0 j : Int)] W fun e w' => e = .returned (.tuple #[.int .u64 (limb (rows m n (i + 1)) (i + j) : Int), .int .u64 (cy (limb m i) n (rest m n i) 0 (j + 1) : Int)]) ∧ w' = W) := Lib.hid fun i j W _ => by
    have h := timesPlus_any (limb m i) (limb n j) (limb (rows m n i) (i + j)) (cy (limb m i) n (rest m n i) 0 j) (limb_lt _ _) (limb_lt _ _) (limb_lt _ _) (cy_lt (limb_lt _ _) (by omega) _) W
    rw [(row_step m n i j).1, (row_step m n i j).2] at h
    exact h
  have RS : Hid (∀ i, mixL 8 (rows m n (i + 1)) (rows m n i) i = lims8 (rows m n i)) := Lib.hid fun i => rows_start
  have RE : Hid (∀ i, mixL 8 (rows m n (i + 1)) (rows m n i) (i + 5) = lims8 (rows m n (i + 1))) := Lib.hid fun i => rows_end hn
  have RL : Hid (∀ i, cy (limb m i) n (rest m n i) 0 4 = limb (rows m n (i + 1)) (i + 4)) := Lib.hid fun i => row_last hn
  have R0' : Hid (lims8 (rows m n 0) = lims8 0) := Lib.hid (by rw [rows_zero])
  have R4 : Hid (rows m n 4 = m * n) := Lib.hid (rows_four hm n)
  have C0 : Hid (∀ i, cy (limb m i) n (rest m n i) 0 0 = 0) := Lib.hid fun i => cy_zero _ _ _ _
  obtain ⟨hA, hB, hC, hD, hb⟩ := tail_start w 64 (lims8 0) m n 0 _ _ #[.int .u64 0, .int .u64 0, .int .u64 0, .int .u64 0] #[.int .u64 0, .int .u64 0, .int .u64 0, .int .u64 0, .int .u64 0, .int .u64 0, .int .u64 0, .int .u64 0] rfl rfl (by kernel_rfl) zeros8
  rw [← R0'.out] at hD
  clear hm hn
  generalize (toS m * toS n).val = v at *
  generalize m * n = mn at *
  rw [fev_eq, fev_eq]
  go_enter Tryd.func25, Tryd.ntmps25
  go_upto_region 2 with (fail)
  generalize (((w.alloc (.cells ((lims m).map nv).toArray 32)).alloc (.cells ((lims n).map nv).toArray 32)).alloc (.cells #[.int .u64 0, .int .u64 0, .int .u64 0, .int .u64 0] 32)).alloc (.cells #[.int .u64 0, .int .u64 0, .int .u64 0, .int .u64 0, .int .u64 0, .int .u64 0, .int .u64 0, .int .u64 0] 64) = wv at *
  go_wp2_with (first
    | (with_reducible refine wpList_load_n rfl 32 (.tmp 2) rfl w.heap.size rfl (lims m) 4 hA rfl Tryd.underlying32 Tryd.infoSc ?_)
    | fail)
  go_loopw [12] (fun vi wr => ∃ i : Nat, i ≤ 4 ∧ vi = .int .i64 (i : Int) ∧ HoldsN wr 32 (w.heap.size + 1) (lims n) ∧ HoldsN wr 32 (w.heap.size + 1 + 1) (lims 0) ∧ HoldsN wr 64 (w.heap.size + 1 + 1 + 1) (lims8 (rows m n i)) ∧ Below w.heap.size w wr)
    (fun vi _ => 4 - (intOf vi).toNat)
  case atStart => exact ⟨0, Nat.zero_le _, rfl, hB, hC, hD, hb⟩
  case round =>
    clear hA hB hC hD hb
    obtain ⟨i, hi, rfl, hB, hC, hD, hb⟩ := hrel
    by_cases hlt : i < 4
    · have hi2 : (i : Int) < 4 := by omega
      have ix := fun W => run_index_sc m i W hlt
      rw [← RS.out i] at hD
      go_wp2_with (first
        | (with_reducible refine wpList_load_n rfl 32 (.tmp 3) rfl (w.heap.size + 1) rfl (lims n) 4 hB rfl Tryd.underlying32 Tryd.infoSc ?_)
        | fail)
      go_loopw [8, 17] (fun vc vj wx => ∃ j : Nat, j ≤ 4 ∧ vj = .int .i64 (j : Int) ∧ vc = .int .u64 (cy (limb m i) n (rest m n i) 0 j : Int) ∧ HoldsN wx 32 (w.heap.size + 1) (lims n) ∧ HoldsN wx 32 (w.heap.size + 1 + 1) (lims 0) ∧ HoldsN wx 64 (w.heap.size + 1 + 1 + 1) (mixL 8 (rows m n (i + 1)) (rows m n i) (i + j)) ∧ Below w.heap.size w wx)
        (fun _ vj _ => 4 - (intOf vj).toNat)
      case atStart => exact ⟨0, Nat.zero_le _, rfl, by rw [C0.out]; rfl, hB, hC, hD, hb⟩
      case round =>
        clear hB hC hD hb
        obtain ⟨j, hj, rfl, rfl, hB, hC, hD, hb⟩ := hrel
        by_cases hjt : j < 4
        · have hj2 : (j : Int) < 4 := by omega
          have iy := fun W => run_index_sc n j W hjt
          have ij0 : (0 : Int) ≤ (i : Int) + (j : Int) := by omega
          have ij : IntKind.i64.wrap ((i : Int) + (j : Int)) = ((i + j : Nat) : Int) := by rw [IntKind.wrap_i64]; omega
          have ij8 : ((i + j : Nat) : Int) < 8 := by omega
          have hij : i + j < 8 := by omega
          have cd := hD.cell (j := i + j) (by rw [mixL_length]; exact hij)
          rw [mixL_get hij, if_neg (Nat.lt_irrefl _)] at cd
          have fd := hD.frozen (i + j)
          have hL := Lib.hid (mixL_set (S := rows m n (i + 1)) (M := rows m n i) hij)
          have TPx : Hid (∀ W, Calls Tryd.prog 52 #[.int .u64 (limb m i : Int), .int .u64 (limb n j : Int), .int .u64 (limb (rows m n i) (i + j) : Int), .int .u64 (cy (limb m i) n (rest m n i) 0 j : Int)] W fun e w' => e = .returned (.tuple #[.int .u64 (limb (rows m n (i + 1)) (i + j) : Int), .int .u64 (cy (limb m i) n (rest m n i) 0 (j + 1) : Int)]) ∧ w' = W) := Lib.hid fun W => TP.out i j W hjt
          generalize limb (rows m n (i + 1)) (i + j) = x at *
          generalize hc' : cy (limb m i) n (rest m n i) 0 (j + 1) = c' at *
          have HC := Lib.hid hc'
          clear hc'
          generalize cy (limb m i) n (rest m n i) 0 j = c at *
          generalize limb (rows m n i) (i + j) = y at *
          generalize limb n j = z at *
          generalize hij' : i + j = p at *
          have HP := Lib.hid hij'
          clear hij'
          go_wp2_with (first
            | (go_at_call 52
               with_reducible refine (TPx.out _).mono ?_
               rintro e w3 ⟨rfl, rfl⟩)
            | fail)
          go_roundw
          case rel => exact ⟨j + 1, by omega, by go_num, by rw [HC.out], hB.setOther _ _ (by simp), hC.setOther _ _ (by simp), by rw [show i + (j + 1) = p + 1 by have := HP.out; omega, ← hL.out]; exact hD.set p x, hb.setCell (p := ⟨w.heap.size + 1 + 1 + 1, p, none⟩) (by simp; omega) _⟩
          case measure => simp [intOf]; omega
        · rw [show (j : Int) = 4 by omega]
          obtain rfl : j = 4 := by omega
          have hL := Lib.hid (mixL_set (S := rows m n (i + 1)) (M := rows m n i) (show i + 4 < 8 by omega))
          have fd := hD.frozen (i + 4)
          have cd := hD.cell (j := i + 4) (by rw [mixL_length]; omega)
          rw [mixL_get (by omega), if_neg (Nat.lt_irrefl _)] at cd
          have hrl := RL.out i
          have i4 : IntKind.i64.wrap ((i : Int) + 4) = ((i + 4 : Nat) : Int) := by rw [IntKind.wrap_i64]; omega
          have i48 : ((i + 4 : Nat) : Int) < 8 := by omega
          have he := Lib.hid (RE.out i)
          generalize limb (rows m n (i + 1)) (i + 4) = x at *
          generalize cy (limb m i) n (rest m n i) 0 4 = c at *
          subst hrl
          generalize limb (rows m n i) (i + 4) = y at *
          generalize hip : i + 4 = p at *
          have HP := Lib.hid hip
          clear hip
          go_wp2
          go_roundw
          case rel => exact ⟨i + 1, by omega, by go_num, hB.setOther _ _ (by simp), hC.setOther _ _ (by simp), by rw [← he.out, show i + 5 = p + 1 by have := HP.out; omega, ← hL.out]; exact hD.set p c, hb.setCell (p := ⟨w.heap.size + 1 + 1 + 1, p, none⟩) (by simp; omega) _⟩
          case measure => simp [intOf]; omega
    · rw [show (i : Int) = 4 by omega]
      obtain rfl : i = 4 := by omega
      rw [R4.out] at hD
      clear hB
      generalize lims8 mn = t at *
      go_wp2_with (first
        | (go_at_call 51
           with_reducible refine (BL.out _ hD hb).mono ?_
           rintro e w3 ⟨rfl, hb3⟩
           have hC3 := hC.keep hb3 hC.lt
           have b3 := hb.trans (hb3.mono hb.size))
        | (with_reducible refine wpList_store_n rfl 32 (.tmp 4) (.tmp 44) rfl (w.heap.size + 1 + 1) (lims v) 4 rfl rfl rfl (lims 0) hC3 Tryd.infoSc rfl w.heap.size w b3 (by omega) ?_; intro w7 Hg _ _ hb7)
        | fail)
      exact bodyPost_ret (results_cell_row rfl _ _ _ _ _ _ _ rfl Hg Tryd.underlying32 rfl (by rw [Tryd.infoSc]; rfl)) rfl ⟨rfl, hb7⟩
end Sca
end Go.Proofs.YthaheekjmofgnaaDoor
