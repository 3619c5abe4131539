/-
  The document's numbers modulo L: a difference, limb by limb.
-/
import Derived.Test.YthhcjknkmdaeeaaDoorSRefA
namespace Go.Proofs.YthhcjknkmdaeeaaDoor
open Go.RowKit

set_option maxRecDepth 100000 in
set_option maxHeartbeats 1000000 in
theorem stake_any (m n : Nat) (w : World) (hm : m < big) (hn : n ≤ m) :
    Calls Tryd.prog 28 #[fev m, fev n] w (GaveF w (m - n)) := by
  obtain ⟨hA, hB, hC, hb, _⟩ := sc_start3 w m n 0 _ _ #[.int .u64 0, .int .u64 0, .int .u64 0, .int .u64 0] rfl rfl (by kernel_rfl)
  have hwh := Lib.hid (tookL_whole hm hn)
  rw [fev_eq, fev_eq]
  go_enter Tryd.func28, Tryd.ntmps28
  go_wp2
  go_loopw [5, 6] (fun vb vi wr => ∃ k : Nat, k ≤ 4 ∧ vi = .int .i64 (k : Int) ∧ vb = .int .u64 (tookB m n k : Int) ∧ HoldsN wr 24 w.heap.size (tookL m n k) ∧ HoldsN wr 24 (w.heap.size + 1) (lims n) ∧ HoldsN wr 24 (w.heap.size + 2) (lims 0) ∧ Below w.heap.size w wr)
    (fun _ vi _ => 4 - (intOf vi).toNat)
  case atStart => exact ⟨0, Nat.zero_le _, rfl, rfl, hA, hB, hC, hb⟩
  case round =>
    clear hA hB hC hb
    obtain ⟨k, hk, rfl, rfl, hA, hB, hC, hb⟩ := hrel
    by_cases hlt : k < 4
    · have hj2 : (k : Int) < 4 := by omega
      have ca := hA.cell (j := k) (by rw [tookL_length m n hk]; exact hlt)
      have cb := hB.cell (j := k) (by rw [lims_length]; exact hlt)
      rw [tookL_get m n hlt] at ca
      rw [lims_get _ hlt] at cb
      have hf := hA.frozen k
      have hL := Lib.hid (tookL_succ m n hlt)
      have hBs := Lib.hid (tookB_succ m n hlt)
      have hw := Lib.hid (lost_wrap (limb_lt m k) (limb_lt n k) (tookB_bit m n k))
      generalize hx : limb m k = x at *
      generalize hy : limb n k = y at *
      generalize hc : tookB m n k = c at *
      generalize (x + 18446744073709551616 - (y + c)) % 18446744073709551616 = d at *
      go_wp2
      go_region
      rw [hw.out]
      have told : ∀ b : Nat, b = (if x < y ∨ (x = y ∧ c = 1) then 1 else 0) → tookB m n (k + 1) = b := fun b h => by rw [hBs.out, h]
      have Told := Lib.hid told
      clear told
      go_wp2
      by_cases h1 : x < y
      · have d1 : decide ((x : Int) < y) = true := decide_eq_true (by omega)
        go_quiet (fail)
        go_wp2
        go_roundw
        case rel => exact ⟨k + 1, by omega, by go_num, by rw [Told.out 1 (by rw [if_pos (Or.inl h1)])]; rfl, by rw [← hL.out]; exact (hA.drewN _).set k d, (hB.drewN _).setOther _ _ (by simp), (hC.drewN _).setOther _ _ (by simp), (below_drewN hb _).setCell (Nat.le_refl _) _⟩
        case measure => simp [intOf]; omega
      · have d1 : decide ((x : Int) < y) = false := decide_eq_false (by omega)
        by_cases h2 : x = y
        · have d2 : ((x : Int) == (y : Int)) = true := by simp [h2]
          by_cases h3 : c = 1
          · have d3 : ((c : Int) == 1) = true := by simp [h3]
            go_quiet (fail)
            go_wp2
            go_roundw
            case rel => exact ⟨k + 1, by omega, by go_num, by rw [Told.out 1 (by rw [if_pos (Or.inr ⟨h2, h3⟩)])]; rfl, by rw [← hL.out]; exact (hA.drewN _).set k d, (hB.drewN _).setOther _ _ (by simp), (hC.drewN _).setOther _ _ (by simp), (below_drewN hb _).setCell (Nat.le_refl _) _⟩
            case measure => simp [intOf]; omega
          · have d3 : ((c : Int) == 1) = false := by rw [beq_eq_false_iff_ne]; omega
            go_quiet (fail)
            go_wp2
            go_roundw
            case rel => exact ⟨k + 1, by omega, by go_num, by rw [Told.out 0 (by rw [if_neg (by omega)])]; rfl, by rw [← hL.out]; exact (hA.drewN _).set k d, (hB.drewN _).setOther _ _ (by simp), (hC.drewN _).setOther _ _ (by simp), (below_drewN hb _).setCell (Nat.le_refl _) _⟩
            case measure => simp [intOf]; omega
        · have d2 : ((x : Int) == (y : Int)) = false := by rw [beq_eq_false_iff_ne]; omega
          go_quiet (fail)
          go_wp2
          go_roundw
          case rel => exact ⟨k + 1, by omega, by go_num, by rw [Told.out 0 (by rw [if_neg (by omega)])]; rfl, by rw [← hL.out]; exact (hA.drewN _).set k d, (hB.drewN _).setOther _ _ (by simp), (hC.drewN _).setOther _ _ (by simp), (below_drewN hb _).setCell (Nat.le_refl _) _⟩
          case measure => simp [intOf]; omega
    · rw [show (k : Int) = 4 by omega]
      obtain rfl : k = 4 := by omega
      rw [hwh.out] at hA
      clear hB
      go_wp2_with (first
        | (with_reducible refine wpList_load_n rfl 24 (.tmp 2) rfl w.heap.size rfl (lims (m - n)) 4 hA rfl Tryd.underlying24 Tryd.infoSc ?_)
        | (with_reducible refine wpList_store_n rfl 24 (.tmp 4) (.tmp 44) rfl (w.heap.size + 2) (lims (m - n)) 4 rfl rfl rfl (lims 0) hC Tryd.infoSc rfl w.heap.size w hb (by omega) ?_; intro w7 Hg _ _ hb7))
      exact bodyPost_ret (results_cell_row rfl _ _ _ _ _ _ _ rfl Hg Tryd.underlying24 rfl (by rw [Tryd.infoSc]; rfl)) rfl ⟨rfl, hb7⟩
end Go.Proofs.YthhcjknkmdaeeaaDoor
