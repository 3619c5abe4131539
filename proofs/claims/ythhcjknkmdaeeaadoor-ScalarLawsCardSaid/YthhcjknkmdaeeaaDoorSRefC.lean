/-
  The document's numbers modulo L: the least; what is below 0; sums.
-/
import Derived.Test.YthhcjknkmdaeeaaDoorSRefB
namespace Go.Proofs.YthhcjknkmdaeeaaDoor
open Go.RowKit

theorem less_LL {x : Nat} : ¬ x < LL → LL ≤ x ∧ x - LL < x ∧ toS (x - LL) = toS x := fun h => by
  have hp : 0 < LL := by decide
  refine ⟨by omega, by omega, ?_⟩
  rw [toS_eq]
  have e : x = (x - LL) + LL * 1 := by omega
  conv => rhs; rw [e, Nat.add_mul_mod_self_left]
theorem toS_small {x : Nat} (h : x < LL) : (toS x).val = x := Nat.mod_eq_of_lt h

set_option maxRecDepth 100000 in
set_option maxHeartbeats 1000000 in
theorem sLeast_any (m : Nat) (w : World) (hm : m < big) :
    Calls Tryd.prog 25 #[fev m] w (GaveF w (toS m).val) := by
  obtain ⟨hA, hC, hb, hsz⟩ := sc_start2 w m 0 _ #[.int .u64 0, .int .u64 0, .int .u64 0, .int .u64 0] rfl (by kernel_rfl)
  have LS : Hid (∀ (x : Nat) W, x < big → Calls Tryd.prog 30 #[.agg ((lims x).map nv).toArray, .agg ((lims LL).map nv).toArray] W fun e w' => e = .returned (.bool (decide (x < LL))) ∧ Below W.heap.size W w') := Lib.hid fun x W hx => sless_any x LL W hx (by decide)
  have TK : Hid (∀ (x : Nat) W, x < big → LL ≤ x → Calls Tryd.prog 28 #[.agg ((lims x).map nv).toArray, .agg ((lims LL).map nv).toArray] W fun e w' => e = .returned (.agg ((lims (x - LL)).map nv).toArray) ∧ Below W.heap.size W w') := Lib.hid fun x W hx hp => stake_any x LL W hx hp
  rw [fev_eq]
  go_enter Tryd.func25, Tryd.ntmps25
  go_wp2_with (first
    | (go_at_call 29
       refine (sorder_any _).mono ?_
       rintro e w1 ⟨rfl, hb1⟩
       have hA1 := hA.keep hb1 (by omega)
       have hC1 := hC.keep hb1 (by omega)
       have b1 := hb.trans (hb1.mono (by omega))
       have s1 := hb1.size
       obtain ⟨z1, _, sz1⟩ := sc_start w1 0 #[.int .u64 0, .int .u64 0, .int .u64 0, .int .u64 0] (by kernel_rfl)
       have b1a := b1.alloc b1.size (.cells #[.int .u64 0, .int .u64 0, .int .u64 0, .int .u64 0] 24)
       have hA1a := hA1.alloc (.cells #[.int .u64 0, .int .u64 0, .int .u64 0, .int .u64 0] 24)
       have hC1a := hC1.alloc (.cells #[.int .u64 0, .int .u64 0, .int .u64 0, .int .u64 0] 24))
    | (with_reducible refine wpList_store_n rfl 24 (.tmp 3) (.tmp 4) rfl w1.heap.size (lims LL) 4 rfl rfl rfl (lims 0) (by with_unfolding_all exact z1) Tryd.infoSc rfl w.heap.size w (by with_unfolding_all exact b1a) (by omega) ?_
       intro w2 hP o2 s2 b2
       have hA2 : HoldsN w2 24 w.heap.size (lims m) := (o2 _ (by omega)).trans (by with_unfolding_all exact hA1a)
       have hC2 : HoldsN w2 24 (w.heap.size + 1) (lims 0) := (o2 _ (by omega)).trans (by with_unfolding_all exact hC1a)))
  have s12 : w.heap.size + 2 ≤ w1.heap.size := by omega
  clear hA hC hb hsz hA1 hC1 hb1 b1 s1 z1 sz1 b1a hA1a hC1a o2 s2
  try dsimp only [Act.put]
  go_loopw [] (fun wr => ∃ x : Nat, x < big ∧ toS x = toS m ∧ HoldsN wr 24 w.heap.size (lims x) ∧ HoldsN wr 24 (w.heap.size + 1) (lims 0) ∧ HoldsN wr 24 w1.heap.size (lims LL) ∧ Below w.heap.size w wr)
    (fun wr => numAt wr w.heap.size)
  case atStart => exact ⟨m, hm, rfl, hA2, hC2, hP, b2⟩
  case round =>
    clear hA2 hC2 hP b2
    obtain ⟨x, hx, hxm, hA, hC, hP, hb⟩ := hrel
    have hnum := Lib.hid (numAt_of hA hx)
    by_cases hlt : x < LL
    · have hv := Lib.hid ((toS_small hlt).symm.trans (congrArg Fin.val hxm))
      have hd : decide (x < LL) = true := decide_eq_true hlt
      go_wp2_with (first
        | (with_reducible refine wpList_load_n rfl 24 (.tmp 1) rfl w.heap.size rfl (lims x) 4 hA rfl Tryd.underlying24 Tryd.infoSc ?_)
        | (with_reducible refine wpList_load_n rfl 24 (.tmp 3) rfl w1.heap.size rfl (lims LL) 4 hP rfl Tryd.underlying24 Tryd.infoSc ?_)
        | (go_at_call 30
           refine (LS.out x _ hx).mono ?_
           rintro e w3 ⟨rfl, hb3⟩
           rw [hd]
           have hA := hA.keep hb3 hA.lt
           have hC := hC.keep hb3 hC.lt
           have hb := hb.trans (hb3.mono hb.size))
        | (with_reducible refine wpList_store_n rfl 24 (.tmp 2) (.tmp 12) rfl (w.heap.size + 1) (lims x) 4 rfl rfl rfl (lims 0) hC Tryd.infoSc rfl w.heap.size w hb (by omega) ?_; intro w7 Hg _ _ hb7))
      rw [hv.out] at Hg
      exact bodyPost_ret (results_cell_row rfl _ _ _ _ _ _ _ rfl Hg Tryd.underlying24 rfl (by rw [Tryd.infoSc]; rfl)) rfl ⟨rfl, hb7⟩
    · obtain ⟨hp, hls, hto⟩ := less_LL hlt
      have hd : decide (x < LL) = false := decide_eq_false hlt
      go_wp2_with (first
        | (with_reducible refine wpList_load_n rfl 24 (.tmp 1) rfl w.heap.size rfl (lims x) 4 hA rfl Tryd.underlying24 Tryd.infoSc ?_)
        | (with_reducible refine wpList_load_n rfl 24 (.tmp 3) rfl w1.heap.size rfl (lims LL) 4 hP rfl Tryd.underlying24 Tryd.infoSc ?_)
        | (go_at_call 30
           refine (LS.out x _ hx).mono ?_
           rintro e w3 ⟨rfl, hb3⟩
           rw [hd]
           have hA := hA.keep hb3 hA.lt
           have hC := hC.keep hb3 hC.lt
           have hP := hP.keep hb3 hP.lt
           have hb := hb.trans (hb3.mono hb.size))
        | (go_at_call 28
           refine (TK.out x _ hx hp).mono ?_
           rintro e w4 ⟨rfl, hb4⟩
           have hA4 := hA.keep hb4 hA.lt
           have hC4 := hC.keep hb4 hC.lt
           have hP4 := hP.keep hb4 hP.lt
           have b4 := hb.trans (hb4.mono hb.size))
        | (with_reducible refine wpList_store_n rfl 24 (.tmp 1) (.tmp 11) rfl w.heap.size (lims (x - LL)) 4 rfl rfl rfl (lims x) hA4 Tryd.infoSc rfl w.heap.size w b4 (Nat.le_refl _) ?_
           intro w7 hA7 o7 s7 b7
           have hC7 := hC4.oth o7 (by omega)
           have hP7 := hP4.oth o7 (by omega)))
      try dsimp only [Act.put]
      go_roundw
      case rel => exact ⟨x - LL, by omega, hto.trans hxm, hA7, hC7, hP7, b7⟩
      case measure => rw [hnum.out, numAt_of hA7 (by omega)]; exact hls
end Go.Proofs.YthhcjknkmdaeeaaDoor
