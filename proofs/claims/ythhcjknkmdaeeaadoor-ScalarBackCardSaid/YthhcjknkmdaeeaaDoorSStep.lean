/-
  The program's numbers modulo L: what is left over of a number, divided by L, part by part. The program's variable.
-/
import Derived.Test.YthhcjknkmdaeeaaDoorSLess
import Derived.Test.YthhcjknkmdaeeaaDoorBs
import Derived.Test.YthhcjknkmdaeeaaDoorRegion
namespace Go.Proofs.YthhcjknkmdaeeaaDoor
open Go.RowKit
namespace Sca

/-- The program's variable holds what its text lays in it. -/
def Laid (W : World) : Prop := ∀ j, j < 4 → W.cell? ⟨0, j, none⟩ = some (.int .u64 (limb LL j : Int))
theorem Laid.size {W : World} (h : Laid W) : 0 + 1 ≤ W.heap.size := by
  have h1 := World.block_lt_of_cell? _ _ (h 0 (by omega))
  simp only at h1
  omega
theorem Laid.keep {W W' : World} (h : Laid W) {D : Nat} (hb : Below D W W') (hD : 0 + 1 ≤ D) : Laid W' :=
  fun j hj => by rw [hb.cell (show 0 < D by omega)]; exact h j hj
theorem run_loadOrder {W : World} (L : Laid W) : (loadSc 24 ⟨0, 0, none⟩).run Tryd.prog W = .ok (.agg ((lims LL).map nv).toArray) W := by
  have c0 := L 0 (by omega)
  have c1 := L 1 (by omega)
  have c2 := L 2 (by omega)
  have c3 := L 3 (by omega)
  unfold loadSc
  show _ = Result.ok (Value.agg #[.int .u64 (limb LL 0 : Int), .int .u64 (limb LL 1 : Int), .int .u64 (limb LL 2 : Int), .int .u64 (limb LL 3 : Int)]) W
  generalize limb LL 0 = x0 at *
  generalize limb LL 1 = x1 at *
  generalize limb LL 2 = x2 at *
  generalize limb LL 3 = x3 at *
  go_simp

/-- Of what was there block g alone has turned. -/
structure Only (g : Nat) (w w' : World) : Prop where
  below : Below g w w'
  other : ∀ k, k < w.heap.size → k ≠ g → w'.heap[k]? = w.heap[k]?
section
variable {g : Nat} {w w1 w2 : World}
theorem Only.refl (g : Nat) (w : World) : Only g w w := ⟨Below.refl _ _, fun _ _ _ => rfl⟩
theorem Only.size (h : Only g w w1) : w.heap.size ≤ w1.heap.size := h.below.size
theorem Only.step (h : Only g w w1) {D : Nat} (hb : Below D w1 w2) (hg : g ≤ D) (hD : w.heap.size ≤ D) : Only g w w2 :=
  ⟨h.below.trans (hb.mono hg), fun k hk hn => (hb.block k (by omega)).trans (h.other k hk hn)⟩
theorem Only.oth (h : Only g w w1) (ho : ∀ k, k ≠ g → w2.heap[k]? = w1.heap[k]?) (hb : Below g w w2) : Only g w w2 :=
  ⟨hb, fun k hk hn => (ho k hn).trans (h.other k hk hn)⟩
theorem Only.othNew (h : Only g w w1) {q : Nat} (hq : w.heap.size ≤ q) (ho : ∀ k, k ≠ q → w2.heap[k]? = w1.heap[k]?) (hb : Below g w w2) : Only g w w2 :=
  ⟨hb, fun k hk hn => (ho k (by omega)).trans (h.other k hk hn)⟩
theorem Only.set (h : Only g w w1) {p : Addr} (hp : p.block = g) (u : Value) : Only g w (w1.setCell p u) :=
  ⟨h.below.setCell (by omega) u, fun k hk hn => (Below.heap_setCell _ _ _ _ (by omega)).trans (h.other k hk hn)⟩
theorem Only.drew (h : Only g w w1) : Only g w w1.drew := ⟨h.below.drew, h.other⟩
theorem Only.drewN (h : Only g w w1) (n : Nat) : Only g w (w1.drewN n) := ⟨below_drewN h.below n, h.other⟩
theorem Only.new (h : Only g w w1) (hg : g ≤ w1.heap.size) (o : Obj) : Only g w (w1.alloc o) :=
  ⟨h.below.alloc hg o, fun k hk hn => (Below.heap_alloc _ _ _ (Nat.lt_of_lt_of_le hk h.size)).trans (h.other k hk hn)⟩
theorem Only.trans (h : Only g w w1) (k : Only g w1 w2) : Only g w w2 :=
  ⟨h.below.trans k.below, fun i hi hn => (k.other i (Nat.lt_of_lt_of_le hi h.size) hn).trans (h.other i hi hn)⟩
end

/-! The arithmetic of a step. -/
/-- What is left over, and a further part. -/
def Tt (v p : Nat) : Nat := 4294967296 * v + p
theorem step_limb (v p k : Nat) (hp : p < 4294967296) : limb v k * 4294967296 % 18446744073709551616 + cy 4294967296 v 0 p k = limb (Tt v p) k ∧ limb v k / 4294967296 = cy 4294967296 v 0 p (k + 1) ∧ cy 4294967296 v 0 p k < 4294967296 := by
  have h1 := lin_limb 4294967296 v 0 p k
  have h2 := cy_succ 4294967296 v 0 p k
  rw [limb_zero, Nat.add_zero] at h1 h2
  have hc : cy 4294967296 v 0 p k < 4294967296 := by
    unfold cy
    have hw := wpos k
    have h3 := Nat.mod_lt v hw
    generalize v % 18446744073709551616 ^ k = x at *
    generalize 18446744073709551616 ^ k = B at *
    rw [Nat.zero_mod, Nat.div_lt_iff_lt_mul hw]
    have h4 : 4294967296 * x + 4294967296 ≤ 4294967296 * B := by omega
    omega
  have hl := limb_lt v k
  unfold Tt
  rw [h1, h2]
  generalize cy 4294967296 v 0 p k = c at *
  generalize limb v k = x at *
  refine ⟨?_, ?_, hc⟩ <;> omega
theorem tt_top {v p : Nat} (hv : v < LL) (hp : p < 4294967296) : cy 4294967296 v 0 p 4 * 16 + limb (Tt v p) 3 / 1152921504606846976 = Tt v p / 7237005577332262213973186563042994240829374041602535252466099000494570602496 ∧ cy 4294967296 v 0 p 4 < 536870912 ∧ limb (Tt v p) 3 / 1152921504606846976 < 16 := by
  have hl := limb_lt (Tt v p) 3
  have hvb : v < big := Nat.lt_trans hv (by decide)
  rw [cy_whole (by rw [big_pow]; exact hvb) (by rw [big_pow]; decide)]
  unfold LL at hv
  unfold limb Tt at *
  rw [show (18446744073709551616 : Nat) ^ 3 = 6277101735386680763835789423207666416102355444464034512896 by decide, show (18446744073709551616 : Nat) ^ 4 = 115792089237316195423570985008687907853269984665640564039457584007913129639936 by decide] at *
  omega
theorem limb3_mod (m : Nat) : (lims m).set 3 (limb m 3 % 1152921504606846976) = lims (m % 7237005577332262213973186563042994240829374041602535252466099000494570602496) := by
  unfold lims limb
  simp only [List.set_cons_succ, List.set_cons_zero, Nat.pow_zero, Nat.div_one, Nat.pow_one, show (18446744073709551616 : Nat) ^ 2 = 340282366920938463463374607431768211456 by decide, show (18446744073709551616 : Nat) ^ 3 = 6277101735386680763835789423207666416102355444464034512896 by decide]
  refine congr (congrArg _ ?_) (congr (congrArg _ ?_) (congr (congrArg _ ?_) (congrArg (fun x => [x]) ?_))) <;> omega
theorem LL_split : LL = 7237005577332262213973186563042994240829374041602535252466099000494570602496 + OV := by decide
/-- What is left over of T: its lower part, less so many times what L is over 2^252, and once L more if that is below 0. -/
theorem left_yes {T q r : Nat} (hq : q = T / 7237005577332262213973186563042994240829374041602535252466099000494570602496) (hr : r = T % 7237005577332262213973186563042994240829374041602535252466099000494570602496) (h : ¬ r < q * OV) : lims (r + big - q * OV) = lims (T % LL) := by
  have hd := Nat.mod_add_div T 7237005577332262213973186563042994240829374041602535252466099000494570602496
  rw [← hq, ← hr] at hd
  have hrl : r < 7237005577332262213973186563042994240829374041602535252466099000494570602496 := by rw [hr]; exact Nat.mod_lt _ (by decide)
  have e : T = (r - q * OV) + LL * q := by rw [LL_split]; unfold OV at *; omega
  have e2 : T % LL = r - q * OV := by
    rw [e, Nat.add_mul_mod_self_left, Nat.mod_eq_of_lt]
    unfold LL; omega
  rw [e2, lims_mod, show (r + big - q * OV) % big = (r - q * OV) % big by unfold big OV at *; omega, ← lims_mod]
theorem left_no {T q r : Nat} (hT : T < 124330809102446660538845562036705210025114037699336929360115994223289874253133343883264) (hq : q = T / 7237005577332262213973186563042994240829374041602535252466099000494570602496) (hr : r = T % 7237005577332262213973186563042994240829374041602535252466099000494570602496) (h : r < q * OV) : lims (r + big - q * OV + LL) = lims (T % LL) := by
  have hd := Nat.mod_add_div T 7237005577332262213973186563042994240829374041602535252466099000494570602496
  rw [← hq, ← hr] at hd
  have hrl : r < 7237005577332262213973186563042994240829374041602535252466099000494570602496 := by rw [hr]; exact Nat.mod_lt _ (by decide)
  have hql : q < 17179869184 := by
    rw [hq, Nat.div_lt_iff_lt_mul (by decide)]
    exact Nat.lt_of_lt_of_le hT (by decide)
  have hqo : q * OV < LL := by unfold OV LL; omega
  have hq1 : 0 < q := by
    rcases Nat.eq_zero_or_pos q with h0 | h0
    · rw [h0, Nat.zero_mul] at h; omega
    · exact h0
  obtain ⟨q', rfl⟩ : ∃ q', q = q' + 1 := ⟨q - 1, by omega⟩
  have e : T = (r + LL - (q' + 1) * OV) + LL * q' := by rw [LL_split] at *; unfold OV at *; omega
  have e2 : T % LL = r + LL - (q' + 1) * OV := by
    rw [e, Nat.add_mul_mod_self_left, Nat.mod_eq_of_lt]
    omega
  rw [e2, lims_mod, show (r + big - (q' + 1) * OV + LL) % big = (r + LL - (q' + 1) * OV) % big by unfold LL big OV at *; omega, ← lims_mod]
theorem or_part (a b : Nat) (ha : a % 4294967296 = 0) (ha2 : a < 18446744073709551616) (hb : b < 4294967296) : bits .or .u64 (a : Int) (b : Int) = ((a + b : Nat) : Int) := by
  have h := bits_or_u64_nat a b (by omega) (by omega)
  have e : a ||| b = a + b := by
    have := Nat.two_pow_add_eq_or_of_lt (i := 32) (b := b) (by omega) (a / 4294967296)
    rw [show (2 : Nat) ^ 32 * (a / 4294967296) = a by omega] at this
    exact this.symm
  rw [e] at h
  exact h
theorem or_four (a b : Nat) (ha : a < 1152921504606846976) (hb : b < 16) : bits .or .u64 ((a * 16 : Nat) : Int) (b : Int) = ((a * 16 + b : Nat) : Int) := by
  have h := bits_or_u64_nat (a * 16) b (by omega) (by omega)
  have e : a * 16 ||| b = a * 16 + b := by
    have := Nat.two_pow_add_eq_or_of_lt (i := 4) (b := b) (by omega) a
    rw [Nat.mul_comm a 16]; exact this.symm
  rw [e] at h
  exact h
theorem and_high (a : Nat) (ha : a < 18446744073709551616) : bits .and .u64 (a : Int) 1152921504606846975 = ((a % 1152921504606846976 : Nat) : Int) := by
  have h := bits_and_u64_nat a 1152921504606846975 ha (by omega)
  have e : a &&& 1152921504606846975 = a % 1152921504606846976 := Nat.and_two_pow_sub_one_eq_mod a 60
  rw [e] at h
  exact h
theorem run_index_sc (n k : Nat) (w : World) (h : k < 4) : (Instr.index 24 (.agg ((lims n).map nv).toArray) (.int .i64 (k : Int))).run Tryd.prog w = .ok (.int .u64 (limb n k : Int)) w := by
  match k, h with
  | 0, _ => simp [Instr.index, run_underlying Tryd.underlying24, asIntOf, go_sem, lims, nv]
  | 1, _ => simp [Instr.index, run_underlying Tryd.underlying24, asIntOf, go_sem, lims, nv]
  | 2, _ => simp [Instr.index, run_underlying Tryd.underlying24, asIntOf, go_sem, lims, nv]
  | 3, _ => simp [Instr.index, run_underlying Tryd.underlying24, asIntOf, go_sem, lims, nv]
end Sca
end Go.Proofs.YthhcjknkmdaeeaaDoor
