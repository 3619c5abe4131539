/-
  The document's numbers modulo L: L, which is less, differences, the least.
-/
import Derived.Test.YthhcjknkmdaeeaaDoorLims
import Derived.Test.YthhcjknkmdaeeaaDoorScal
namespace Go.Proofs.YthhcjknkmdaeeaaDoor
open Go.RowKit

theorem Tryd.infoSc : (Tryd.prog.info? 24).map (·.size) = some 4 := by kernel_rfl
theorem sc_start (w : World) (m : Nat) (c1 : Array Value) (h1 : c1 = ((lims m).map nv).toArray) : HoldsN (w.alloc (.cells c1 24)) 24 w.heap.size (lims m) ∧ Below w.heap.size w (w.alloc (.cells c1 24)) ∧ (w.alloc (.cells c1 24)).heap.size = w.heap.size + 1 := four_start w 24 m c1 h1
theorem sc_start2 (w : World) (m n : Nat) (c1 c2 : Array Value) (h1 : c1 = ((lims m).map nv).toArray) (h2 : c2 = ((lims n).map nv).toArray) :
    HoldsN ((w.alloc (.cells c1 24)).alloc (.cells c2 24)) 24 w.heap.size (lims m) ∧ HoldsN ((w.alloc (.cells c1 24)).alloc (.cells c2 24)) 24 (w.heap.size + 1) (lims n) ∧ Below w.heap.size w ((w.alloc (.cells c1 24)).alloc (.cells c2 24)) ∧ ((w.alloc (.cells c1 24)).alloc (.cells c2 24)).heap.size = w.heap.size + 2 := four_start2 w 24 m n c1 c2 h1 h2
theorem sc_start3 (w : World) (m n k : Nat) (c1 c2 c3 : Array Value) (h1 : c1 = ((lims m).map nv).toArray) (h2 : c2 = ((lims n).map nv).toArray) (h3 : c3 = ((lims k).map nv).toArray) :
    HoldsN (((w.alloc (.cells c1 24)).alloc (.cells c2 24)).alloc (.cells c3 24)) 24 w.heap.size (lims m) ∧ HoldsN (((w.alloc (.cells c1 24)).alloc (.cells c2 24)).alloc (.cells c3 24)) 24 (w.heap.size + 1) (lims n) ∧ HoldsN (((w.alloc (.cells c1 24)).alloc (.cells c2 24)).alloc (.cells c3 24)) 24 (w.heap.size + 2) (lims k) ∧ Below w.heap.size w (((w.alloc (.cells c1 24)).alloc (.cells c2 24)).alloc (.cells c3 24)) ∧ (((w.alloc (.cells c1 24)).alloc (.cells c2 24)).alloc (.cells c3 24)).heap.size = w.heap.size + 3 := four_start3 w 24 m n k c1 c2 c3 h1 h2 h3

set_option maxRecDepth 100000 in
theorem sorder_any (w : World) : Calls Tryd.prog 29 #[] w (GaveF w LL) := by
  obtain ⟨z0, b0, _⟩ := sc_start w 0 #[.int .u64 0, .int .u64 0, .int .u64 0, .int .u64 0] (by kernel_rfl)
  have hP : Hid (Value.agg #[.int .u64 6346243789798364141, .int .u64 1503914060200516822, .int .u64 0, .int .u64 1152921504606846976] = .agg ((lims LL).map nv).toArray) := Lib.hid (by kernel_rfl)
  go_enter Tryd.func29, Tryd.ntmps29
  go_wp2_with (with_reducible refine wpList_store_n rfl 24 (.tmp 0) (.tmp 1) rfl w.heap.size (lims LL) 4 rfl (by with_unfolding_all exact hP.out) rfl (lims 0) (by with_unfolding_all exact z0) Tryd.infoSc rfl w.heap.size w (by with_unfolding_all exact b0) (Nat.le_refl _) ?_; intro w2 Hg _ _ hb2)
  exact bodyPost_ret (results_cell_row rfl _ _ w.heap.size _ _ _ _ rfl Hg Tryd.underlying24 rfl (by rw [Tryd.infoSc]; rfl)) rfl ⟨rfl, hb2⟩

set_option maxRecDepth 100000 in
set_option maxHeartbeats 1000000 in
theorem sless_any (m n : Nat) (w : World) (hm : m < big) (hn : n < big) :
    Calls Tryd.prog 30 #[fev m, fev n] w fun e w' => e = .returned (.bool (decide (m < n))) ∧ Below w.heap.size w w' := by
  obtain ⟨hA, hB, hb, _⟩ := sc_start2 w m n _ _ rfl rfl
  rw [fev_eq, fev_eq]
  go_enter Tryd.func30, Tryd.ntmps30
  go_wp2
  go_loopw [5] (fun v wr => ∃ k : Nat, k ≤ 4 ∧ v = .int .i64 ((k : Int) - 1) ∧ m / 18446744073709551616 ^ k = n / 18446744073709551616 ^ k ∧ HoldsN wr 24 w.heap.size (lims m) ∧ HoldsN wr 24 (w.heap.size + 1) (lims n) ∧ Below w.heap.size w wr)
    (fun v _ => (intOf v + 1).toNat)
  case atStart => exact ⟨4, Nat.le_refl _, rfl, by rw [hi_top hm, hi_top hn], hA, hB, hb⟩
  case round =>
    clear hA hB hb
    obtain ⟨k, hk, rfl, hhi, hA, hB, hb⟩ := hrel
    rcases k with _ | j
    · rw [Nat.pow_zero, Nat.div_one, Nat.div_one] at hhi
      rw [show ((0 : Nat) : Int) - 1 = -1 from rfl]
      go_wp2
      go_ret
      exact ⟨by rw [decide_eq_false (by omega)]; rfl, hb⟩
    · rw [show ((j + 1 : Nat) : Int) - 1 = (j : Int) by omega]
      have hj : j < 4 := by omega
      have hj2 : (j : Int) < 4 := by omega
      have ca := hA.cell (j := j) (by rw [lims_length]; exact hj)
      have cb := hB.cell (j := j) (by rw [lims_length]; exact hj)
      rw [lims_get _ hj] at ca cb
      have hs := @same_at m n j hhi
      have hl := @less_at m n j hhi
      have hl' := @less_at n m j hhi.symm
      generalize limb m j = x at *
      generalize limb n j = y at *
      by_cases e : x = y
      · subst e
        go_wp2
        go_region
        go_wp2
        go_roundw
        case rel => exact ⟨j, by omega, by go_num, hs (by simp), hA, hB, hb.drew⟩
        case measure => simp [intOf]
      · have e' : ¬ (x : Int) = y := by omega
        go_wp2
        go_region
        go_wp2
        go_region
        go_wp2
        go_ret
        exact ⟨by
          rcases Nat.lt_or_gt_of_ne e with h | h
          · rw [decide_eq_true (hl h), decide_eq_true (by omega)]; rfl
          · rw [decide_eq_false (Nat.lt_asymm (hl' h)), decide_eq_false (by omega)]; rfl, hb.drew.drew⟩

end Go.Proofs.YthhcjknkmdaeeaaDoor
