/-
  The program's numbers modulo L: a whole product, limb by limb.
  The program's numbers modulo L: sums.
  The program's numbers modulo L: products.
  The program's numbers modulo L: what is below 0; the number that bytes are.
  The program's numbers modulo L: the number that thirty-two bytes are; a number's bytes; which bytes are a number's.
  The program's curve: its variables; the field's functions said of numbers modulo P.
-/
import Derived.ChangeKeysEq
import Derived.Laws.CopyOwn
import Derived.Test.YtlfkohanfeejfaaDoorMac
import Derived.Test.YtlfkohanfeejfaaDoorMal
import Derived.Test.YtlfkohanfeejfaaDoorMam
import Derived.Test.YtlfkohanfeejfaaDoorMan
import Derived.Test.YtlfkohanfeejfaaDoorMao
import Derived.Test.YtlfkohanfeejfaaDoorMaq
import Derived.Test.YtlfkohanfeejfaaDoorMar
import Derived.Test.YtlfkohanfeejfaaDoorMau
import Derived.Test.YtlfkohanfeejfaaDoorMav
namespace Go.Proofs.YtlfkohanfeejfaaDoor
open Go.RowKit
namespace Sca

theorem Tryd.infoProd : (Tryd.prog.info? 78).map (·.size) = some 8 := by kernel_rfl

/-- What the first i limbs of m make of n. -/
def rows (m n i : Nat) : Nat := m % 18446744073709551616 ^ i * n
theorem rows_zero (m n : Nat) : rows m n 0 = 0 := by unfold rows; rw [Nat.pow_zero, Nat.mod_one, Nat.zero_mul]
theorem rows_four {m : Nat} (hm : m < big) (n : Nat) : rows m n 4 = m * n := by unfold rows; rw [big_pow, Nat.mod_eq_of_lt hm]
theorem rows_succ (m n i : Nat) : rows m n (i + 1) = rows m n i + 18446744073709551616 ^ i * (limb m i * n) := by
  unfold rows
  rw [mod_limb, Nat.add_mul, Nat.mul_assoc]
/-- What stands from limb i on behind i rows. -/
def rest (m n i : Nat) : Nat := rows m n i / 18446744073709551616 ^ i
theorem rest_lt {m n : Nat} (hn : n < big) (i : Nat) : rest m n i < 18446744073709551616 ^ 4 := by
  unfold rest rows
  rw [Nat.div_lt_iff_lt_mul (wpos i), big_pow, Nat.mul_comm big]
  have h1 := Nat.mod_lt m (wpos i)
  rcases Nat.eq_zero_or_pos n with h | h
  · subst h; exact Nat.mul_pos (wpos i) (by decide)
  · exact Nat.lt_of_lt_of_le (Nat.mul_lt_mul_of_pos_right h1 h) (Nat.mul_le_mul_left _ (Nat.le_of_lt hn))
theorem rest_succ (m n i : Nat) : rows m n (i + 1) / 18446744073709551616 ^ i = limb m i * n + rest m n i + 0 := by
  rw [rows_succ, Nat.add_mul_div_left _ _ (wpos i)]
  unfold rest
  omega
theorem limb_div (n i j : Nat) : limb (n / 18446744073709551616 ^ i) j = limb n (i + j) := by
  unfold limb
  rw [Nat.div_div_eq_div_mul, ← Nat.pow_add]
theorem limb_of_lt {n i : Nat} (h : n < 18446744073709551616 ^ i) : limb n i = 0 := by
  unfold limb; rw [Nat.div_eq_of_lt h]
/-- The limbs below i stay. -/
theorem rows_low {m n i p : Nat} (h : p < i) : limb (rows m n (i + 1)) p = limb (rows m n i) p := by
  rw [rows_succ]
  unfold limb
  have e : 18446744073709551616 ^ i = 18446744073709551616 ^ p * (18446744073709551616 * 18446744073709551616 ^ (i - p - 1)) := by
    rw [← Nat.pow_succ', ← Nat.pow_add]; congr 1; omega
  rw [e, Nat.mul_assoc, Nat.mul_assoc, Nat.add_mul_div_left _ _ (wpos p), Nat.add_mul_mod_self_left]
/-- The limbs above stay 0. -/
theorem rows_lt {m n : Nat} (hn : n < big) (i : Nat) : rows m n i < 18446744073709551616 ^ (i + 4) := by
  have h := rest_lt (m := m) hn i
  unfold rest at h
  rw [Nat.div_lt_iff_lt_mul (wpos i), ← Nat.pow_add] at h
  rw [Nat.add_comm]; exact h
theorem rows_high {m n i p : Nat} (hn : n < big) (h : i + 5 ≤ p) : limb (rows m n (i + 1)) p = 0 ∧ limb (rows m n i) p = 0 := by
  have h1 := rows_lt (m := m) hn (i + 1)
  have h2 := rows_lt (m := m) hn i
  have mono : ∀ a, a ≤ p → 18446744073709551616 ^ a ≤ 18446744073709551616 ^ p := fun a ha => Nat.pow_le_pow_right (by omega) ha
  exact ⟨limb_of_lt (Nat.lt_of_lt_of_le h1 (mono _ (by omega))), limb_of_lt (Nat.lt_of_lt_of_le h2 (mono _ (by omega)))⟩
theorem rows_start {m n i : Nat} : mixL 8 (rows m n (i + 1)) (rows m n i) i = mixL 8 (rows m n i) 0 8 :=
  mixL_eq fun p hp => by
    by_cases h : p < i
    · rw [if_pos h, if_pos hp, rows_low h]
    · rw [if_neg h, if_pos hp]
theorem rows_end {m n i : Nat} (hn : n < big) : mixL 8 (rows m n (i + 1)) (rows m n i) (i + 5) = mixL 8 (rows m n (i + 1)) 0 8 :=
  mixL_eq fun p hp => by
    by_cases h : p < i + 5
    · rw [if_pos h, if_pos hp]
    · rw [if_neg h, if_pos hp, (rows_high hn (by omega)).1, (rows_high hn (by omega)).2]
/-- One step of a row. -/
theorem row_step (m n i j : Nat) : (limb m i * limb n j + limb (rows m n i) (i + j) + cy (limb m i) n (rest m n i) 0 j) % 18446744073709551616 = limb (rows m n (i + 1)) (i + j) ∧
    (limb m i * limb n j + limb (rows m n i) (i + j) + cy (limb m i) n (rest m n i) 0 j) / 18446744073709551616 = cy (limb m i) n (rest m n i) 0 (j + 1) := by
  have h1 := lin_limb (limb m i) n (rest m n i) 0 j
  have h2 := cy_succ (limb m i) n (rest m n i) 0 j
  rw [← rest_succ, limb_div] at h1
  have h3 : limb (rest m n i) j = limb (rows m n i) (i + j) := limb_div ..
  rw [h3] at h1 h2
  exact ⟨h1.symm, h2.symm⟩
theorem row_last {m n i : Nat} (hn : n < big) : cy (limb m i) n (rest m n i) 0 4 = limb (rows m n (i + 1)) (i + 4) := by
  rw [cy_whole (by rw [big_pow]; exact hn) (rest_lt hn i), ← rest_succ, ← limb_div]
  unfold limb
  refine (Nat.mod_eq_of_lt ?_).symm
  rw [rest_succ, Nat.div_lt_iff_lt_mul (wpos 4), big_pow]
  have h1 := limb_lt m i
  have h2 := rest_lt (m := m) hn i
  rw [big_pow] at h2
  unfold limb at *
  have h3 : m / 18446744073709551616 ^ i % 18446744073709551616 * n ≤ 18446744073709551615 * n := Nat.mul_le_mul_right _ (by omega)
  unfold big at *
  omega
/-- Eight limbs. -/
def lims8 (n : Nat) : List Nat := mixL 8 n 0 8
theorem lims8_length (n : Nat) : (lims8 n).length = 8 := mixL_length ..
theorem lims8_zero : List.replicate 8 0 = lims8 0 := by decide
theorem zeros8 : (#[.int .u64 0, .int .u64 0, .int .u64 0, .int .u64 0, .int .u64 0, .int .u64 0, .int .u64 0, .int .u64 0] : Array Value) = ((lims8 0).map nv).toArray := by rw [← lims8_zero]; rfl
theorem lims8_small (n : Nat) : ∀ x ∈ lims8 n, x < 18446744073709551616 := fun x hx => by
  unfold lims8 mixL at hx
  obtain ⟨p, _, rfl⟩ := List.mem_map.1 hx
  split <;> exact limb_lt _ _
theorem numL_lims8 {n : Nat} (h : n < big * big) : numL (lims8 n) = n := by
  have e : lims8 n = [limb n 0, limb n 1, limb n 2, limb n 3, limb n 4, limb n 5, limb n 6, limb n 7] := rfl
  rw [e]
  have hd : ∀ k, n / 18446744073709551616 ^ k = limb n k + 18446744073709551616 * (n / 18446744073709551616 ^ (k + 1)) := fun k => by
    rw [Nat.pow_succ, ← Nat.div_div_eq_div_mul]
    unfold limb
    exact (Nat.mod_add_div _ _).symm
  have e0 : n = n / 18446744073709551616 ^ 0 := by rw [Nat.pow_zero, Nat.div_one]
  have e8 : n / 18446744073709551616 ^ 8 = 0 := Nat.div_eq_of_lt (Nat.lt_of_lt_of_le h (by decide))
  conv => rhs; rw [e0, hd 0, hd 1, hd 2, hd 3, hd 4, hd 5, hd 6, hd 7, e8]
  rfl
end Sca
end Go.Proofs.YtlfkohanfeejfaaDoor

namespace Go.Proofs.YtlfkohanfeejfaaDoor
open Go.RowKit
namespace Sca

theorem Tryd.infoFive : (Tryd.prog.info? 57).map (·.size) = some 5 := by kernel_rfl
/-- The first k limbs of a sum, and what is carried. -/
def addT (m n k : Nat) : List Nat := mixL 4 (m + n) 0 k ++ [cy 1 m n 0 k]
theorem addT_length (m n k : Nat) : (addT m n k).length = 5 := by unfold addT; rw [List.length_append, mixL_length]; rfl
theorem addT_zero (m n : Nat) : addT m n 0 = [0, 0, 0, 0, 0] := by unfold addT; rw [cy_zero]; rfl
theorem addT_four (m n k : Nat) : (addT m n k).getD 4 0 = cy 1 m n 0 k := rfl
theorem addT_set {m n k : Nat} (hk : k < 4) : ((addT m n k).set k (limb (m + n) k)).set 4 (cy 1 m n 0 (k + 1)) = addT m n (k + 1) := by
  unfold addT
  rw [← mixL_set hk, List.set_append_left _ _ (by rw [mixL_length]; exact hk), List.set_append_right _ _ (by simp [mixL_length])]
  simp [mixL_length]
theorem addT_num {m n : Nat} (hm : m < big) (hn : n < big) : numL (addT m n 4) = m + n ∧ ∀ x ∈ addT m n 4, x < 18446744073709551616 := by
  have h := cy_whole (q := 1) (X := m) (Y := n) (c := 0) (k := 4) (by rw [big_pow]; exact hm) (by rw [big_pow]; exact hn)
  rw [big_pow, Nat.one_mul, Nat.add_zero] at h
  constructor
  · have hd : ∀ k, (m + n) / 18446744073709551616 ^ k = limb (m + n) k + 18446744073709551616 * ((m + n) / 18446744073709551616 ^ (k + 1)) := fun k => by
      rw [Nat.pow_succ, ← Nat.div_div_eq_div_mul]
      unfold limb
      exact (Nat.mod_add_div _ _).symm
    have e0 : m + n = (m + n) / 18446744073709551616 ^ 0 := by rw [Nat.pow_zero, Nat.div_one]
    have e : addT m n 4 = [limb (m + n) 0, limb (m + n) 1, limb (m + n) 2, limb (m + n) 3, cy 1 m n 0 4] := rfl
    rw [e, h, ← big_pow]
    conv => rhs; rw [e0, hd 0, hd 1, hd 2, hd 3]
    rfl
  · intro x hx
    have e : addT m n 4 = [limb (m + n) 0, limb (m + n) 1, limb (m + n) 2, limb (m + n) 3, cy 1 m n 0 4] := rfl
    rw [e] at hx
    simp only [List.mem_cons, List.not_mem_nil, or_false] at hx
    rcases hx with rfl | rfl | rfl | rfl | rfl
    · exact limb_lt _ _
    · exact limb_lt _ _
    · exact limb_lt _ _
    · exact limb_lt _ _
    · exact Nat.lt_of_le_of_lt (cy_bit (by omega) 4) (by decide)

theorem holds_drew {W : World} {ty g : Nat} {l : List Nat} (h : HoldsN W ty g l) : HoldsN W.drew ty g l := h
theorem tail_start (w : World) (ty : TypeId) (l : List Nat) (m n k : Nat) (c1 c2 c3 c4 : Array Value) (h1 : c1 = ((lims m).map nv).toArray) (h2 : c2 = ((lims n).map nv).toArray) (h3 : c3 = ((lims k).map nv).toArray) (h4 : c4 = (l.map nv).toArray) :
    HoldsN ((((w.alloc (.cells c1 28)).alloc (.cells c2 28)).alloc (.cells c3 28)).alloc (.cells c4 ty)) 28 w.heap.size (lims m) ∧
    HoldsN ((((w.alloc (.cells c1 28)).alloc (.cells c2 28)).alloc (.cells c3 28)).alloc (.cells c4 ty)) 28 (w.heap.size + 1) (lims n) ∧
    HoldsN ((((w.alloc (.cells c1 28)).alloc (.cells c2 28)).alloc (.cells c3 28)).alloc (.cells c4 ty)) 28 (w.heap.size + 1 + 1) (lims k) ∧
    HoldsN ((((w.alloc (.cells c1 28)).alloc (.cells c2 28)).alloc (.cells c3 28)).alloc (.cells c4 ty)) ty (w.heap.size + 1 + 1 + 1) l ∧
    Below w.heap.size w ((((w.alloc (.cells c1 28)).alloc (.cells c2 28)).alloc (.cells c3 28)).alloc (.cells c4 ty)) := by
  obtain ⟨a, a2, a3, b, e⟩ := sc_start3 w m n k c1 c2 c3 h1 h2 h3
  exact ⟨a.alloc _, a2.alloc _, a3.alloc _, holdsN_new _ _ _ _ _ e.symm h4, b.alloc (by omega) _⟩

set_option maxRecDepth 100000 in
set_option maxHeartbeats 2000000 in
theorem Add_any (m n : Nat) (w : World) (hm : m < big) (hn : n < big) (L0 : Laid w) :
    Calls Tryd.prog 20 #[fev m, fev n] w (GaveF w (toS m + toS n).val) := by
  obtain ⟨hA, hB, hC, hT, hb⟩ := tail_start w 57 (addT m n 0) m n 0 _ _ #[.int .u64 0, .int .u64 0, .int .u64 0, .int .u64 0] #[.int .u64 0, .int .u64 0, .int .u64 0, .int .u64 0, .int .u64 0] rfl rfl (by kernel_rfl) (by rw [addT_zero]; rfl)
  have hsz := L0.size
  have LS : Hid (∀ k, (limb m k + limb n k + cy 1 m n 0 k) % 18446744073709551616 = limb (m + n) k ∧ (limb m k + limb n k + cy 1 m n 0 k) / 18446744073709551616 = cy 1 m n 0 (k + 1)) := Lib.hid fun k => lin_add m n k
  have hbit : Hid (∀ k, cy 1 m n 0 k ≤ 1) := Lib.hid fun k => cy_bit (by omega) k
  have SET : Hid (∀ k, k < 4 → ((addT m n k).set k (limb (m + n) k)).set 4 (cy 1 m n 0 (k + 1)) = addT m n (k + 1)) := Lib.hid fun k hk => addT_set hk
  have LEN : Hid (∀ k, (addT m n k).length = 5) := Lib.hid fun k => addT_length m n k
  have FOUR : Hid (∀ k, (addT m n k).getD 4 0 = cy 1 m n 0 k) := Lib.hid fun k => addT_four m n k
  have BL : Hid (∀ W, HoldsN W 57 (w.heap.size + 1 + 1 + 1) (addT m n 4) → Below w.heap.size w W → Calls Tryd.prog 51 #[.slice (some ⟨w.heap.size + 1 + 1 + 1, 0, none⟩) 5 5] W fun e w' => e = .returned (.agg ((lims (toS m + toS n).val).map nv).toArray) ∧ Below W.heap.size W w') := Lib.hid fun W hW hbW => by
    have h := below_any (addT m n 4) 5 (w.heap.size + 1 + 1 + 1) 57 W (addT_length m n 4) (by omega) (addT_num hm hn).2 hW (L0.keep hbW hsz)
    rw [(addT_num hm hn).1] at h
    rw [← toS_add]
    exact h
  generalize (toS m + toS n).val = v at *
  generalize m + n = s at *
  generalize addT m n = T at *
  rw [fev_eq, fev_eq]
  clear hm hn
  go_enter Tryd.func20, Tryd.ntmps20
  go_wp2
  go_loopw [6, 7] (fun _ vi wr => ∃ k : Nat, k ≤ 4 ∧ vi = .int .i64 (k : Int) ∧ HoldsN wr 28 w.heap.size (lims m) ∧ HoldsN wr 28 (w.heap.size + 1) (lims n) ∧ HoldsN wr 28 (w.heap.size + 1 + 1) (lims 0) ∧ HoldsN wr 57 (w.heap.size + 1 + 1 + 1) (T k) ∧ Below w.heap.size w wr)
    (fun _ vi _ => 4 - (intOf vi).toNat)
  case atStart => exact ⟨0, Nat.zero_le _, rfl, hA, hB, hC, hT, hb⟩
  case round =>
    clear hA hB hC hT hb
    obtain ⟨k, hk, rfl, hA, hB, hC, hT, hb⟩ := hrel
    by_cases hlt : k < 4
    · have hj2 : (k : Int) < 4 := by omega
      have hj5 : (k : Int) < 5 := by omega
      have ca := hA.cell (j := k) (by rw [lims_length]; exact hlt)
      have cb := hB.cell (j := k) (by rw [lims_length]; exact hlt)
      have ct := hT.cell (j := 4) (by rw [LEN.out]; omega)
      have ck := hT.cell (j := k) (by rw [LEN.out]; omega)
      rw [lims_get _ hlt] at ca cb
      rw [FOUR.out] at ct
      have hf := hT.frozen k
      have hf4 := hT.frozen 4
      have hL := Lib.hid (SET.out k hlt)
      have AD : ∀ W, (callFunc 50 #[.int .u64 (limb m k : Int), .int .u64 (limb n k : Int), .int .u64 (cy 1 m n 0 k : Int)]).run Tryd.prog W = .ok (.value (.tuple #[.int .u64 (limb s k : Int), .int .u64 (cy 1 m n 0 (k + 1) : Int)])) W := fun W => by
        have := run_Add64 (limb m k) (limb n k) (cy 1 m n 0 k) (hbit.out k) W
        rw [(LS.out k).1, (LS.out k).2] at this
        exact this
      generalize limb s k = x at *
      generalize limb m k = y at *
      generalize limb n k = z at *
      generalize cy 1 m n 0 k = c at *
      generalize cy 1 m n 0 (k + 1) = c' at *
      go_wp2
      go_region
      all_goals
        go_wp2
        go_roundw
        case rel => exact ⟨k + 1, by omega, by go_num, holds_drew ((hA.setOther _ _ (by simp; omega)).setOther _ _ (by simp; omega)), holds_drew ((hB.setOther _ _ (by simp)).setOther _ _ (by simp)), holds_drew ((hC.setOther _ _ (by simp)).setOther _ _ (by simp)), by rw [← hL.out]; exact holds_drew ((hT.set k x).set 4 c'), ((hb.setCell (p := ⟨w.heap.size + 1 + 1 + 1, k, none⟩) (by simp; omega) _).setCell (p := ⟨w.heap.size + 1 + 1 + 1, 4, none⟩) (by simp; omega) _).drew⟩
        case measure => simp [intOf]; omega
    · rw [show (k : Int) = 4 by omega]
      obtain rfl : k = 4 := by omega
      clear hA hB
      generalize T 4 = t at *
      go_wp2_with (first
        | (go_at_call 51
           with_reducible refine (BL.out _ hT hb).mono ?_
           rintro e w3 ⟨rfl, hb3⟩
           have hC3 := hC.keep hb3 hC.lt
           have b3 := hb.trans (hb3.mono hb.size))
        | (with_reducible refine wpList_store_n rfl 28 (.tmp 4) (.tmp 27) rfl (w.heap.size + 1 + 1) (lims v) 4 rfl rfl rfl (lims 0) hC3 Tryd.infoSc rfl w.heap.size w b3 (by omega) ?_; intro w7 Hg _ _ hb7)
        | fail)
      exact bodyPost_ret (results_cell_row rfl _ _ _ _ _ _ _ rfl Hg Tryd.underlying28 rfl (by rw [Tryd.infoSc]; rfl)) rfl ⟨rfl, hb7⟩
end Sca
end Go.Proofs.YtlfkohanfeejfaaDoor

namespace Go.Proofs.YtlfkohanfeejfaaDoor
open Go.RowKit
namespace Sca

end Sca
end Go.Proofs.YtlfkohanfeejfaaDoor

namespace Go.Proofs.YtlfkohanfeejfaaDoor
open Go.RowKit
namespace Sca

theorem neg_num (m : Nat) : (LL + big - m % LL) % big = LL - m % LL ∧ LL - m % LL < big := by
  have h : m % LL < LL := Nat.mod_lt _ (by decide)
  generalize m % LL = a at *
  unfold LL big at *
  omega

section
attribute [local go_sem ↓] load_sc

end

theorem lims8_get (n : Nat) {j : Nat} (h : j < 8) : (lims8 n).getD j 0 = limb n j := by unfold lims8; rw [mixL_get h, if_pos h]
theorem lims8_digit8 {N d i : Nat} (hN : N < 256 ^ i) (hd : d < 256) : (lims8 N).set (i / 8) (limb N (i / 8) + 2 ^ (8 * (i % 8)) * d) = lims8 (N + d * 256 ^ i) := by
  refine List.ext_getElem (by rw [List.length_set, lims8_length, lims8_length]) fun j h1 h2 => ?_
  have hj : j < 8 := by rw [lims8_length] at h2; exact h2
  have g : ∀ n, (lims8 n)[j]'(by rw [lims8_length]; exact hj) = limb n j := fun n => by
    have := lims8_get n hj
    rw [List.getD_eq_getElem?_getD, List.getElem?_eq_getElem (by rw [lims8_length]; exact hj), Option.getD_some] at this
    exact this
  rw [List.getElem_set, g (N + d * 256 ^ i)]
  split
  · next e => rw [← limb_digit8 hN hd, e]
  · next e => rw [g, limb_other8 hN hd (fun h => e h.symm)]
theorem Tryd.plainU8 : Tryd.prog.plainKey 5 = true := by kernel_rfl
end Sca
end Go.Proofs.YtlfkohanfeejfaaDoor

namespace Go.Proofs.YtlfkohanfeejfaaDoor
open Go.RowKit
namespace Sca

theorem Tryd.size8 : (Tryd.prog.info? 5).map (·.size) = some 1 := by kernel_rfl
theorem splice_cp (l : List UInt8) (h : l.length = 32) : splice ((List.replicate 64 (0 : UInt8)).map bv) 0 (l.map bv) = (cpL l 32).map bv := by
  unfold splice cpL
  rw [List.take_of_length_le (show l.length ≤ 32 by omega), List.map_append, List.length_map, h, ← List.map_drop, List.drop_replicate, List.take_zero, List.nil_append]
set_option maxRecDepth 100000 in
set_option maxHeartbeats 2000000 in
theorem Bytes_any (m : Nat) (w : World) (hm : m < big) (L0 : Laid w) :
    Calls Tryd.prog 67 #[fev m] w fun e w' => e = .returned (.agg ((leBytes (toS m).val 32).map bv).toArray) ∧ Below w.heap.size w w' := by
  have hsz := L0.size
  obtain ⟨hA, hC, hb⟩ := sbytes_start w m _ zb rfl rfl
  obtain ⟨a, ha⟩ : ∃ a, a = (toS m).val := ⟨_, rfl⟩
  have LM : Hid (∀ W, HoldsN W 28 w.heap.size (lims m) → Below w.heap.size w W → Calls Tryd.prog 51 #[.slice (some ⟨w.heap.size, 0, none⟩) 4 4] W fun e w' => e = .returned (.agg ((lims a).map nv).toArray) ∧ Below W.heap.size W w') := Lib.hid fun W hW hbW => by
    have h := below_any (lims m) 4 w.heap.size 28 W rfl (by omega) (lims_small m) hW (L0.keep hbW hsz)
    rw [numL_lims hm] at h
    rw [ha]; exact h
  rw [fev_eq, ← ha]
  clear ha L0 hsz
  go_enter Tryd.func67, Tryd.ntmps67
  go_upto_region 1 with (fail)
  have hA' : HoldsN ((w.alloc (.cells ((lims m).map nv).toArray 28)).alloc (.cells zb 27)) 28 w.heap.size (lims m) := hA
  go_wp2_with (first
    | (go_at_call 51
       (refine (LM.out _ (by with_unfolding_all exact hA) (by with_unfolding_all exact hb)).mono ?_)
       rintro e w3 ⟨rfl, hb3⟩
       have hA3 : HoldsN w3 28 w.heap.size (lims m) := hA.keep (by with_unfolding_all exact hb3) hA.lt
       have hC3 : HoldsB w3 27 (w.heap.size + 1) (List.replicate 32 0) := hC.keep (by with_unfolding_all exact hb3) hC.lt
       have b3 : Below w.heap.size w w3 := hb.trans (hb3.mono hb.size))
    | (with_reducible refine wpList_store_n rfl 28 (.tmp 1) (.tmp 6) rfl w.heap.size (lims a) 4 rfl rfl rfl (lims m) hA3 Tryd.infoSc rfl w.heap.size w b3 (Nat.le_refl _) ?_
       intro w4 hA4 o4 s4 b4
       clear s4
       have hC4 := hC3.oth o4 (by omega)
       have l4 := hC4.lt
       have z5 : HoldsB (w4.alloc (.cells zb 27)) 27 w4.heap.size (List.replicate 32 0) := holdsB_new w4 _ _ _ _ rfl rfl
       have b5 := b4.alloc b4.size (.cells zb 27)
       have hA5 := hA4.alloc (.cells zb 27)
       have hC5 := hC4.alloc (.cells zb 27))
    | fail)
  rw [← bytL_zero a] at z5
  clear hA hA' hC hb hA3 hC3 b3 hb3 hA4 hC4 b4 o4
  go_loopw [4, 7] (fun _ v wr => ∃ k : Nat, k ≤ 32 ∧ v = .int .i64 (k : Int) ∧ HoldsN wr 28 w.heap.size (lims a) ∧ HoldsB wr 27 (w.heap.size + 1) (List.replicate 32 0) ∧ HoldsB wr 27 w4.heap.size (bytL a k) ∧ Below w.heap.size w wr)
    (fun _ v _ => 32 - (intOf v).toNat)
  case atStart => exact ⟨0, Nat.zero_le _, rfl, by with_unfolding_all exact hA5, by with_unfolding_all exact hC5, by with_unfolding_all exact z5, by with_unfolding_all exact b5⟩
  case round =>
    clear hA5 hC5 z5 b5
    obtain ⟨k, hk, rfl, hA, hC, hD, hb⟩ := hrel
    by_cases hlt : k < 32
    · have hlt2 : (k : Int) < 32 := by omega
      have ca := hA.cell (j := k / 8) (by rw [lims_length]; omega)
      rw [lims_get _ (by omega)] at ca
      have hf := hD.frozen k
      have co := hD.cell (j := k) (by rw [bytL_length]; exact hlt)
      have hset := Lib.hid (bytL_set a k)
      have hbl := byte_limb a k
      have eq4 : (k : Int).tdiv 8 = ((k / 8 : Nat) : Int) := by rw [Int.tdiv_eq_ediv_of_nonneg (by omega)]; omega
      have em4 : (k : Int).tmod 8 = ((k % 8 : Nat) : Int) := by rw [Int.tmod_eq_emod_of_nonneg (by omega)]; omega
      have lq : ((k / 8 : Nat) : Int) < 4 := by omega
      have hr4 : k % 8 < 8 := by omega
      generalize limb a (k / 8) = x at *
      generalize k / 8 = qq at *
      generalize k % 8 = rr at *
      have lr : (rr : Int) < 8 := by omega
      have wr1 : IntKind.i64.wrap (8 * (rr : Int)) = 8 * rr := by simp only [IntKind.wrap, IntKind.bits, IntKind.signed]; simp; omega
      have wr2 : IntKind.u64.wrap (8 * (rr : Int)) = 8 * rr := by rw [IntKind.wrap_u64]; omega
      have lr3 : 8 * (rr : Int) < 64 := by omega
      have hv : (x : Int) / 2 ^ (8 * rr) % 256 = ((UInt8.ofNat (a / 256 ^ k)).toNat : Int) := by
        rw [show (2 : Int) ^ (8 * rr) = ((2 ^ (8 * rr) : Nat) : Int) from (Int.natCast_pow 2 _).symm, ← Int.natCast_ediv, UInt8.toNat_ofNat']
        exact (Int.natCast_emod _ 256).symm.trans (congrArg _ hbl)
      have Hv := Lib.hid hv
      clear hv hbl
      generalize UInt8.ofNat (a / 256 ^ k) = d at *
      go_wp2
      go_roundw
      case rel => exact ⟨k + 1, by omega, by go_num, hA.setOther _ _ (by simp; omega), hC.setOther _ _ (by simp; omega), by rw [Hv.out, ← hset.out]; exact hD.set k d, hb.setCell (by simp; omega) _⟩
      case measure => simp [intOf]; omega
    · rw [show (k : Int) = 32 by omega]
      obtain rfl : k = 32 := by omega
      rw [bytL_full] at hD
      go_wp2_with (first
        | (with_reducible refine wpList_load_b rfl 27 (.tmp 3) rfl w4.heap.size rfl (leBytes a 32) hD (leBytes_length _ _) Tryd.underlying27 Tryd.infoB32 ?_)
        | (with_reducible refine wpList_store_b rfl 27 (.tmp 2) (.tmp 22) rfl (w.heap.size + 1) (leBytes a 32) rfl rfl (leBytes_length _ _) _ hC Tryd.infoB32 (by simp) w.heap.size w hb (by omega) ?_; intro w7 Hg _ _ hb7))
      exact bodyPost_ret (results_cell_row rfl _ _ (w.heap.size + 1) _ _ _ _ rfl Hg Tryd.underlying27 rfl (by rw [Tryd.infoB32]; simp [leBytes_length])) rfl ⟨rfl, hb7⟩

theorem Tryd.cellsU8 : Tryd.prog.cellsOf 5 = 1 := by kernel_rfl
theorem Tryd.infoU8 : (Tryd.prog.info? 5).map (fun i => (i.zero, i.size, i.bytes)) = some (some (.int .u8 0), 1, 1) := by kernel_rfl
/-- Arrays of thirty-two bytes, compared. -/
theorem eq_bytes (a b : List UInt8) (ha : a.length = 32) (hb : b.length = 32) : (List.range 32).all (fun i => (a.map fun x : UInt8 => (x.toNat : Int)).getD i 0 == (b.map fun x : UInt8 => (x.toNat : Int)).getD i 0) = decide (a = b) := by
  rw [Bool.eq_iff_iff, List.all_eq_true, decide_eq_true_eq]
  constructor
  · intro h
    refine List.ext_getElem (by rw [ha, hb]) fun i h1 h2 => ?_
    have := h i (List.mem_range.2 (by omega))
    rw [List.getD_eq_getElem?_getD, List.getD_eq_getElem?_getD, List.getElem?_map, List.getElem?_map, List.getElem?_eq_getElem h1, List.getElem?_eq_getElem h2] at this
    simp only [Option.map_some, Option.getD_some, beq_iff_eq] at this
    exact UInt8.toNat_inj.1 (by omega)
  · rintro rfl i _
    simp
theorem run_eql_b (a b : List UInt8) (ha : a.length = 32) (hb : b.length = 32) (w : World) : (binOp .eql 27 (.agg (a.map bv).toArray) (.agg (b.map bv).toArray)).run Tryd.prog w = .ok (.bool (decide (a = b))) w := by
  obtain ⟨i, hi, _⟩ := info_parts Tryd.infoU8
  have em : ∀ l : List UInt8, l.map bv = (l.map fun x : UInt8 => (x.toNat : Int)).map (Value.int .u8) := fun l => by rw [List.map_map]; rfl
  rw [em, em]
  have h := run_equalIn_array (P := Tryd.prog) w 9999 ((a.map fun x : UInt8 => (x.toNat : Int)).map (Value.int .u8)).toArray ((b.map fun x : UInt8 => (x.toNat : Int)).map (Value.int .u8)).toArray Tryd.underlying27 hi
  rw [Tryd.cellsU8, eqItems_ints Tryd.underlying5 Tryd.plainU8 9998 _ _ _ (fun i hi => by simp only [List.length_map, ha, hb]; exact ⟨List.mem_range.1 hi, List.mem_range.1 hi⟩), eq_bytes a b ha hb] at h
  generalize ((a.map fun x : UInt8 => (x.toNat : Int)).map (Value.int .u8)).toArray = xs at *
  generalize ((b.map fun x : UInt8 => (x.toNat : Int)).map (Value.int .u8)).toArray = ys at *
  simp only [binOp]
  simp [Op.equal, Op.maxDepth, h]
theorem run_guard_b (x y : Operand) (a b : Array Value) (w : World) : (eqGuard .eql 27 x y (.agg a) (.agg b)).run Tryd.prog w = .ok () w := by
  simp [eqGuard]


/-- Bytes read out of their block, under a name that the walk does not open. -/
def loadBy (t : TypeId) (a : Addr) : Sem Value := loadVar t a
theorem load_by (a : Addr) : loadVar 27 a = loadBy 27 a := rfl
theorem run_loadBy {w : World} {g : Nat} {l : List UInt8} (hg : HoldsB w 27 g l) (hl : l.length = 32) : (loadBy 27 ⟨g, 0, none⟩).run Tryd.prog w = .ok (.agg (l.map bv).toArray) w :=
  run_loadVar_row w g 27 27 _ (0, 0) _ hg Tryd.underlying27 rfl (by rw [Tryd.infoB32]; simp [hl])
theorem leBytes_leNum (l : List UInt8) : leBytes (leNum l) l.length = l := by
  refine List.ext_getElem (leBytes_length _ _) fun i h1 h2 => ?_
  simp only [leBytes, List.getElem_map, List.getElem_range]
  refine UInt8.toNat_inj.1 ?_
  rw [UInt8.toNat_ofNat']
  exact leNum_at l i h2
/-- Bytes below L are those of their number, and no others are. -/
theorem back_iff (l : List UInt8) (hl : l.length = 32) : leBytes (toS (leNum l)).val 32 = l ↔ leNum l < LL := by
  constructor
  · intro h
    have e : (toS (leNum l)).val = leNum l := by
      have h2 := congrArg leNum h
      rw [leNum_leBytes, Nat.mod_eq_of_lt] at h2
      · exact h2
      · exact Nat.lt_trans (toS (leNum l)).isLt (by decide)
    rw [← e]
    exact (toS (leNum l)).isLt
  · intro h
    rw [toS_val, Nat.mod_eq_of_lt h, ← hl]
    exact leBytes_leNum l
/-- The blocks of a check. -/
structure Ck (w : World) (l : List UInt8) (W : World) : Prop where
  a : HoldsB W 27 w.heap.size l
  d : Below w.heap.size w W
theorem Ck.stay {w : World} {l : List UInt8} : ∀ W W', Ck w l W → Below W.heap.size W W' → Ck w l W' := fun _ _ h hb => ⟨h.a.keep hb h.a.lt, h.d.trans (hb.mono h.d.size)⟩

section
attribute [local go_sem ↓] load_by
end

end Sca
end Go.Proofs.YtlfkohanfeejfaaDoor

namespace Go.Proofs.YtlfkohanfeejfaaDoor
open Go.RowKit
namespace Crv

/-- The program's variables hold what its text lays in them. -/
def LaidD (W : World) : Prop := ∀ j, j < 4 → W.cell? ⟨0, j, none⟩ = some (.int .u64 (limb DEE j : Int))
theorem LaidD.size {W : World} (h : LaidD W) : 0 + 1 ≤ W.heap.size := by
  have h1 := World.block_lt_of_cell? _ _ (h 0 (by omega))
  simp only at h1
  omega
theorem LaidD.keep {W W' : World} (h : LaidD W) {D : Nat} (hb : Below D W W') (hD : 0 + 1 ≤ D) : LaidD W' :=
  fun j hj => by rw [hb.cell (show 0 < D by omega)]; exact h j hj
/-- All three. -/
structure Laid (W : World) : Prop where
  sc : Sca.Laid W
  fe : LaidP W
  d : LaidD W
/-- What lies ahead of the heap's end. -/
def lsz : Nat := max (max (3 + 1) (1 + 1)) (0 + 1)
theorem Laid.size {W : World} (h : Laid W) : lsz ≤ W.heap.size := by
  have h1 := h.sc.size
  have h2 := h.fe.size
  have h3 := h.d.size
  unfold lsz
  omega
theorem Laid.keep {W W' : World} (h : Laid W) {D : Nat} (hb : Below D W W') (hD : lsz ≤ D) : Laid W' := by
  unfold lsz at hD
  exact ⟨h.sc.keep hb (by omega), h.fe.keep hb (by omega), h.d.keep hb (by omega)⟩
theorem Laid.hid {w : World} (L0 : Laid w) : Hid (∀ W, Below w.heap.size w W → Laid W) := Lib.hid fun _ hb => L0.keep hb L0.size
theorem run_loadDee {W : World} (L : Laid W) : (loadFe 24 ⟨0, 0, none⟩).run Tryd.prog W = .ok (.agg ((lims dd.val).map nv).toArray) W := by
  have c0 := L.d 0 (by omega)
  have c1 := L.d 1 (by omega)
  have c2 := L.d 2 (by omega)
  have c3 := L.d 3 (by omega)
  unfold loadFe
  show _ = Result.ok (Value.agg #[.int .u64 (limb DEE 0 : Int), .int .u64 (limb DEE 1 : Int), .int .u64 (limb DEE 2 : Int), .int .u64 (limb DEE 3 : Int)]) W
  generalize limb DEE 0 = x0 at *
  generalize limb DEE 1 = x1 at *
  generalize limb DEE 2 = x2 at *
  generalize limb DEE 3 = x3 at *
  go_simp

/-! The field's functions. -/
abbrev GaveE (W : World) (x : F) (e : Ending) (w' : World) : Prop := e = .returned (.agg ((lims x.val).map nv).toArray) ∧ Below W.heap.size W w'
theorem fMul (x y : F) (W : World) : Calls Tryd.prog 43 #[.agg ((lims x.val).map nv).toArray, .agg ((lims y.val).map nv).toArray] W (GaveE W (x * y)) := by
  have h := Mul_any x.val y.val W (F.lt_big _) (F.lt_big _)
  rw [toF_of, toF_of] at h
  exact h
theorem fAdd (x y : F) (W : World) : Calls Tryd.prog 46 #[.agg ((lims x.val).map nv).toArray, .agg ((lims y.val).map nv).toArray] W (GaveE W (x + y)) := by
  have h := Add_any x.val y.val W (F.lt_big _) (F.lt_big _)
  rw [toF_of, toF_of] at h
  exact h
theorem fSub (x y : F) (W : World) (L : Laid W) : Calls Tryd.prog 45 #[.agg ((lims x.val).map nv).toArray, .agg ((lims y.val).map nv).toArray] W (GaveE W (x - y)) := by
  have h := SubP_any x.val y.val W (F.lt_big _) (F.lt_big _) L.fe
  rw [toF_of, toF_of] at h
  exact h
theorem fNeg (x : F) (W : World) (L : Laid W) : Calls Tryd.prog 49 #[.agg ((lims x.val).map nv).toArray] W (GaveE W (-x)) := by
  have h := NegP_any x.val W (F.lt_big _) L.fe
  rw [toF_of] at h
  exact h
theorem fInv (x : F) (W : World) : Calls Tryd.prog 75 #[.agg ((lims x.val).map nv).toArray] W (GaveE W (finv x)) := by
  have h := Inv_any x.val W (F.lt_big _)
  rw [toF_of] at h
  exact h
theorem fSmall (W : World) : Calls Tryd.prog 47 #[.int .u64 1] W (GaveE W 1) := Small_any 1 W (by decide)
/-- A number modulo P, below it. -/
theorem fLeast (m : Nat) (W : World) (hm : m < big) : Calls Tryd.prog 46 #[.agg ((lims m).map nv).toArray, .agg #[.int .u64 0, .int .u64 0, .int .u64 0, .int .u64 0]] W (GaveE W (toF m)) := by
  have h := Add_any m 0 W hm (by decide)
  rw [show toF m + toF 0 = toF m by rw [show toF 0 = 0 from rfl]; grind] at h
  exact h

/-! Points of three and of four numbers. -/
theorem Tryd.infoTr : (Tryd.prog.info? 63).map (·.size) = some 12 := by kernel_rfl
theorem Tryd.infoQd : (Tryd.prog.info? 65).map (·.size) = some 16 := by kernel_rfl
theorem Tryd.builtTr (x y z : Nat) : Tryd.prog.built 63 [(0, .agg ((lims x).map nv).toArray), (1, .agg ((lims y).map nv).toArray), (2, .agg ((lims z).map nv).toArray)] = some ((limsL [x, y, z]).map nv).toArray := by kernel_rfl
theorem Tryd.builtQd (x y z t : Nat) : Tryd.prog.built 65 [(0, .agg ((limsL [x, y, z]).map nv).toArray), (1, .agg ((lims t).map nv).toArray)] = some ((limsL [x, y, z, t]).map nv).toArray := by kernel_rfl
def qv (q : Qd) : Value := .agg ((limsL [q.1.val, q.2.1.val, q.2.2.1.val, q.2.2.2.val]).map nv).toArray
/-- What gives a point of four numbers. -/
def GaveR (w : World) (q : Qd) (e : Ending) (w' : World) : Prop := e = .returned (qv q) ∧ Below w.heap.size w w'
end Crv
end Go.Proofs.YtlfkohanfeejfaaDoor
