/-
  The program's numbers modulo L: a number, of as many as there are, modulo L.
-/
import Derived.Test.YthhcjknkmdaeeaaDoorSStepW
namespace Go.Proofs.YthhcjknkmdaeeaaDoor
open Go.RowKit
namespace Sca

/-- The number that words are, the lowest first. -/
def numL : List Nat → Nat
  | [] => 0
  | x :: l => x + 18446744073709551616 * numL l
theorem numL_cons (x : Nat) (l : List Nat) : numL (x :: l) = x + 18446744073709551616 * numL l := rfl
theorem numL_lims {n : Nat} (h : n < big) : numL (lims n) = n := by
  have e := limbs_limb (n := n) h
  conv => rhs; rw [← e]
  unfold lims numL numL numL numL numL limbs
  omega
/-- What is left over of the highest k. -/
def tops (l : List Nat) (k : Nat) : Nat := numL (l.drop (l.length - k)) % LL
theorem tops_zero (l : List Nat) : tops l 0 = 0 := by
  unfold tops
  rw [Nat.sub_zero, List.drop_length]
  rfl
theorem tops_all (l : List Nat) : tops l l.length = numL l % LL := by
  unfold tops
  rw [Nat.sub_self, List.drop_zero]
theorem tops_lt (l : List Nat) (k : Nat) : tops l k < LL := Nat.mod_lt _ (by decide)
theorem tops_succ (l : List Nat) {k j : Nat} (hk : k < l.length) (hj : j = l.length - 1 - k) : Tt (Tt (tops l k) (l.getD j 0 / 4294967296) % LL) (l.getD j 0 % 4294967296) % LL = tops l (k + 1) := by
  subst hj
  unfold tops
  rw [show l.length - (k + 1) = l.length - 1 - k by omega]
  have hlt : l.length - 1 - k < l.length := by omega
  rw [List.drop_eq_getElem_cons hlt, show l.length - 1 - k + 1 = l.length - k by omega, List.getD_eq_getElem?_getD, List.getElem?_eq_getElem hlt, Option.getD_some]
  generalize l[l.length - 1 - k] = x
  rw [numL_cons]
  generalize numL (l.drop (l.length - k)) = v
  unfold Tt
  have hx := Nat.mod_add_div x 4294967296
  generalize x / 4294967296 = xh at *
  generalize x % 4294967296 = xl at *
  rw [Nat.add_mod (4294967296 * ((4294967296 * (v % LL) + xh) % LL)), Nat.mul_mod_mod, ← Nat.add_mod, Nat.mul_add, ← Nat.mul_assoc]
  rw [Nat.add_assoc, Nat.add_mod (4294967296 * 4294967296 * (v % LL)), Nat.mul_mod_mod, ← Nat.add_mod]
  congr 1
  omega

set_option maxRecDepth 100000 in
theorem division_any (w : World) :
    Calls Tryd.prog 31 #[] w fun e w' => e = .returned (.func (.func 34) #[] #[.pointer (some ⟨w.heap.size, 0, none⟩)]) ∧ w' = w.alloc (.cells #[.int .u64 0, .int .u64 0, .int .u64 0, .int .u64 0] 24) := by
  have hmf : ∀ (fn : Fn) (first cap : Array Value) (w : World), (Instr.makeFunc fn first cap).run Tryd.prog w = .ok (.func fn first cap) w := fun _ _ _ _ => rfl
  go_enter Tryd.func31, Tryd.ntmps31
  go_wp2
  go_ret
  exact ⟨rfl, rfl⟩

theorem and_part (a : Nat) (ha : a < 18446744073709551616) : bits .and .u64 (a : Int) 4294967295 = ((a % 4294967296 : Nat) : Int) := by
  have h := bits_and_u64_nat a 4294967295 ha (by omega)
  have e : a &&& 4294967295 = a % 4294967296 := Nat.and_two_pow_sub_one_eq_mod a 32
  rw [e] at h
  exact h

set_option maxRecDepth 100000 in
set_option maxHeartbeats 2000000 in
theorem below_any (l : List Nat) (n b : Nat) (ty : TypeId) (w : World) (hl : l.length = n) (hn : n ≤ 8) (hs : ∀ x ∈ l, x < 18446744073709551616) (hB : HoldsN w ty b l) (L0 : Laid w) :
    Calls Tryd.prog 24 #[.slice (some ⟨b, 0, none⟩) n n] w (GaveF w (numL l % LL)) := by
  have hsz := L0.size
  have hbw := hB.lt
  obtain ⟨z0, b0, e0⟩ := sc_start w 0 #[.int .u64 0, .int .u64 0, .int .u64 0, .int .u64 0] (by kernel_rfl)
  obtain ⟨r0, r1, r2, br, er⟩ := sc_start3 w 0 0 0 #[.int .u64 0, .int .u64 0, .int .u64 0, .int .u64 0] #[.int .u64 0, .int .u64 0, .int .u64 0, .int .u64 0] #[.int .u64 0, .int .u64 0, .int .u64 0, .int .u64 0] (by kernel_rfl) (by kernel_rfl) (by kernel_rfl)
  have STEP : Hid (∀ (v p : Nat) W, v < LL → p < 4294967296 → HoldsN W 24 (w.heap.size + 1) (lims v) → Below w.heap.size w W →
      Calls Tryd.prog 34 #[.int .u64 (p : Int), .pointer (some ⟨w.heap.size + 1, 0, none⟩)] W fun e w' => e = .returned (.agg ((lims (Tt v p % LL)).map nv).toArray) ∧ HoldsN w' 24 (w.heap.size + 1) (lims (Tt v p % LL)) ∧ Only (w.heap.size + 1) W w') :=
    Lib.hid fun v p W hv hp hG hb => step_any v p (w.heap.size + 1) W hv hp hG (L0.keep hb hsz) (by omega)
  have DV : Hid (∀ W, W.heap.size = w.heap.size + 1 → Calls Tryd.prog 31 #[] W fun e w' => e = .returned (.func (.func 34) #[] #[.pointer (some ⟨w.heap.size + 1, 0, none⟩)]) ∧ w' = W.alloc (.cells #[.int .u64 0, .int .u64 0, .int .u64 0, .int .u64 0] 24)) := Lib.hid fun W hW => by
    have := division_any W
    rwa [hW] at this
  have TZ : Hid (tops l 0 = 0) := Lib.hid (tops_zero l)
  have TA : Hid (tops l n = numL l % LL) := Lib.hid (by rw [← hl]; exact tops_all l)
  have TL : Hid (∀ k, tops l k < LL) := Lib.hid fun k => tops_lt l k
  have TS : Hid (∀ k j, k < n → j = n - 1 - k → Tt (Tt (tops l k) (l.getD j 0 / 4294967296) % LL) (l.getD j 0 % 4294967296) % LL = tops l (k + 1)) := Lib.hid fun k j hk hj => tops_succ l (by omega) (by omega)
  have XS : Hid (∀ j, l.getD j 0 < 18446744073709551616) := Lib.hid fun j => by
    rw [List.getD_eq_getElem?_getD]
    cases h : l[j]? with
    | none => simp
    | some x => exact hs x (List.mem_of_getElem? h)
  have tz : ∀ {W : World} {g : Nat}, HoldsN W 24 g (lims 0) → HoldsN W 24 g (lims (tops l 0)) := fun h => by rw [TZ.out]; exact h
  have r1' := tz r1
  have r2' := tz r2
  clear r1 r2 tz
  unfold GaveF
  rw [fev_eq]
  generalize numL l % LL = res at *
  have E0 := Lib.hid e0
  have HL := Lib.hid hl
  clear e0 er hl hs hsz z0 b0
  go_enter Tryd.func24, Tryd.ntmps24
  go_wp2_with (first
    | (go_at_call 31
       with_reducible refine (DV.out _ E0.out).mono ?_
       rintro e w1 ⟨rfl, rfl⟩)
    | fail)
  go_loopw [10] (fun vi wr => ∃ i : Nat, i ≤ n ∧ vi = .int .i64 (i : Int) ∧ HoldsN wr 24 w.heap.size (lims 0) ∧ HoldsN wr 24 (w.heap.size + 1) (lims (tops l i)) ∧ HoldsN wr 24 (w.heap.size + 2) (lims (tops l i)) ∧ Below w.heap.size w wr)
    (fun vi _ => n - (intOf vi).toNat)
  case atStart => exact ⟨0, Nat.zero_le _, rfl, r0, r1', r2', br⟩
  case round =>
    clear r0 r1' r2' br E0 DV
    obtain ⟨i, hi, rfl, hR, hG, hL, hb⟩ := hrel
    by_cases hlt : i < n
    · have hi2 : (i : Int) < (n : Int) := by omega
      obtain ⟨j, hj⟩ : ∃ j, j = n - 1 - i := ⟨_, rfl⟩
      have hjl : j < l.length := by rw [HL.out]; omega
      have hjn : (j : Int) < (n : Int) := by omega
      have cb := (hB.keep hb hbw).cell (j := j) hjl
      have hx := XS.out j
      have ts := TS.out i j hlt hj
      have w1 : IntKind.i64.wrap ((n : Int) - 1) = ((n - 1 : Nat) : Int) := by rw [IntKind.wrap_i64]; omega
      have w2 : IntKind.i64.wrap (((n - 1 : Nat) : Int) - (i : Int)) = (j : Int) := by rw [IntKind.wrap_i64]; omega
      generalize n - 1 = n1 at *
      generalize l.getD j 0 = x at *
      obtain ⟨xh, hxh⟩ : ∃ xh, xh = x / 4294967296 := ⟨_, rfl⟩
      obtain ⟨xl, hxl⟩ : ∃ xl, xl = x % 4294967296 := ⟨_, rfl⟩
      rw [← hxh, ← hxl] at ts
      have w3 : (x : Int) / 4294967296 = (xh : Int) := by omega
      have w4 : bits .and .u64 (x : Int) 4294967295 = (xl : Int) := by rw [hxl]; exact and_part x hx
      have S1 : Hid (∀ W, HoldsN W 24 (w.heap.size + 1) (lims (tops l i)) → Below w.heap.size w W → Calls Tryd.prog 34 #[.int .u64 (xh : Int), .pointer (some ⟨w.heap.size + 1, 0, none⟩)] W fun e w' => e = .returned (.agg ((lims (Tt (tops l i) xh % LL)).map nv).toArray) ∧ HoldsN w' 24 (w.heap.size + 1) (lims (Tt (tops l i) xh % LL)) ∧ Only (w.heap.size + 1) W w') := Lib.hid fun W hG hb => STEP.out (tops l i) xh W (TL.out i) (by omega) hG hb
      have S2 : Hid (∀ W, HoldsN W 24 (w.heap.size + 1) (lims (Tt (tops l i) xh % LL)) → Below w.heap.size w W → Calls Tryd.prog 34 #[.int .u64 (xl : Int), .pointer (some ⟨w.heap.size + 1, 0, none⟩)] W fun e w' => e = .returned (.agg ((lims (tops l (i + 1))).map nv).toArray) ∧ HoldsN w' 24 (w.heap.size + 1) (lims (tops l (i + 1))) ∧ Only (w.heap.size + 1) W w') := Lib.hid fun W hG hb => by
        have := STEP.out (Tt (tops l i) xh % LL) xl W (Nat.mod_lt _ (by decide)) (by omega) hG hb
        rwa [ts] at this
      clear ts hxh hxl hx hj STEP
      generalize Tt (tops l i) xh % LL = y at *
      generalize hz : tops l (i + 1) = z at *
      have HZ := Lib.hid hz
      clear hz
      generalize tops l i = v at *
      go_wp2_with (first
        | (go_at_call 34
           with_reducible refine (S1.out _ hG hb).mono ?_
           rintro e w3 ⟨rfl, hG3, hO3⟩
           have hL3 : HoldsN w3 24 (w.heap.size + 2) (lims v) := (hO3.other _ hL.lt (by omega)).trans hL
           have hR3 : HoldsN w3 24 w.heap.size (lims 0) := (hO3.other _ hR.lt (by omega)).trans hR
           have b3 := hb.trans (hO3.below.mono (Nat.le_succ _)))
        | (go_at_call 34
           with_reducible refine (S2.out _ hG3 b3).mono ?_
           rintro e w4 ⟨rfl, hG4, hO4⟩
           have hL4 : HoldsN w4 24 (w.heap.size + 2) (lims v) := (hO4.other _ hL3.lt (by omega)).trans hL3
           have hR4 : HoldsN w4 24 w.heap.size (lims 0) := (hO4.other _ hR3.lt (by omega)).trans hR3
           have b4 := b3.trans (hO4.below.mono (Nat.le_succ _)))
        | (with_reducible refine wpList_store_n rfl 24 (.tmp 4) (.tmp 28) rfl (w.heap.size + 2) (lims z) 4 rfl rfl rfl (lims v) hL4 Tryd.infoSc rfl w.heap.size w b4 (by omega) ?_
           intro w5 hL5 o5 s5 b5
           have hG5 := hG4.oth o5 (by omega)
           have hR5 := hR4.oth o5 (by omega)
           clear s5)
        | fail)
      go_roundw
      case rel => exact ⟨i + 1, by omega, by go_num, hR5, by rw [HZ.out]; exact hG5, by rw [HZ.out]; exact hL5, b5⟩
      case measure => simp [intOf]; omega
    · obtain rfl : i = n := by omega
      rw [TA.out] at hG hL
      clear STEP TS
      go_wp2_with (first
        | (with_reducible refine wpList_load_n rfl 24 (.tmp 4) rfl (w.heap.size + 2) rfl (lims res) 4 hL rfl Tryd.underlying24 Tryd.infoSc ?_)
        | (with_reducible refine wpList_store_n rfl 24 (.tmp 2) (.tmp 30) rfl w.heap.size (lims res) 4 rfl rfl rfl (lims 0) hR Tryd.infoSc rfl w.heap.size w hb (Nat.le_refl _) ?_; intro w7 Hg _ _ hb7)
        | fail)
      exact bodyPost_ret (results_cell_row rfl _ _ _ _ _ _ _ rfl Hg Tryd.underlying24 rfl (by rw [Tryd.infoSc]; rfl)) rfl ⟨rfl, hb7⟩
end Sca
end Go.Proofs.YthhcjknkmdaeeaaDoor
