/-
  The document's words of a block.
-/
import Derived.Test.YtppaffamlfghjaaDoorWideHold
namespace Go.Proofs.YtppaffamlfghjaaDoor
open Go.RowKit

set_option maxRecDepth 100000 in
set_option maxHeartbeats 1000000 in
theorem words_any (A : Option Addr) (n c B : Nat) (l : List UInt8) (w : World) (h : Sees w B A n c (l.map bv)) (hB : B ≤ w.heap.size) (hn : 128 ≤ n) (hm : n ≤ 2147483647) :
    Calls Tryd.prog 55 #[.slice A n c] w fun e w' => e = .returned (.agg ((wsl l 80).map uv).toArray) ∧ Below w.heap.size w w' := by
  have hle := h.le
  have hmax := h.max
  obtain ⟨ab, ao, _, rfl, hab, _, _⟩ := h.cell (k := 0) (by omega)
  have e1 : ∀ o, (w.alloc o).heap.size = w.heap.size + 1 := fun o => World.size_alloc ..
  have z1 : HoldsW ((w.alloc (.cells (zcells 80) 81)).alloc (.cells (zcells 80) 81)) 81 (w.heap.size + 1) (List.replicate 80 0) := by have := holds_zero (w.alloc (.cells (zcells 80) 81)) 81 80; rwa [e1] at this
  have z0 : HoldsW ((w.alloc (.cells (zcells 80) 81)).alloc (.cells (zcells 80) 81)) 81 w.heap.size (List.replicate 80 0) := (holds_zero w _ 80).alloc _
  have bz : Below w.heap.size w ((w.alloc (.cells (zcells 80) 81)).alloc (.cells (zcells 80) 81)) := ((Below.refl _ w).alloc (Nat.le_refl _) _).alloc (by rw [e1]; omega) _
  go_enter Tryd.func55, Tryd.ntmps55
  go_wp2_with (first
    | (with_reducible refine wpList_buildTo rfl 81 #[] rfl (some 10) rfl (zcells 80) (by with_unfolding_all exact built64) ?_)
    | (with_reducible refine wpList_store_w rfl 81 (.tmp 3) (.tmp 10) rfl (w.heap.size + 1) (List.replicate 80 0) 80 rfl (by with_unfolding_all exact rfl) (by simp) (List.replicate 80 0) (by with_unfolding_all exact z1) Tryd.info64 (by simp) w.heap.size w (by with_unfolding_all exact bz) (by omega) ?_; intro w1 hW1 ho1 hs1 hb1))
  have hR1 : HoldsW w1 81 w.heap.size (List.replicate 80 0) := (ho1 w.heap.size (by omega)).trans (by with_unfolding_all exact z0)
  rw [← wsl_zero l] at hW1
  clear z0 z1 bz ho1 hs1
  go_loopw [4] (fun v wr => ∃ k : Nat, k ≤ 80 ∧ v = .int .i64 k ∧ HoldsW wr 81 w.heap.size (List.replicate 80 0) ∧ HoldsW wr 81 (w.heap.size + 1) (wsl l k) ∧ Below w.heap.size w wr)
    (fun v _ => 80 - (intOf v).toNat)
  case atStart => exact ⟨0, Nat.zero_le _, rfl, hR1, hW1, hb1⟩
  case round =>
    clear hR1 hW1 hb1
    obtain ⟨k, hk, rfl, hR, hW, hb⟩ := hrel
    by_cases hlt : k < 80
    · have hlt2 : (k : Int) < 80 := by omega
      by_cases hlow : k < 16
      · have hlow2 : (k : Int) < 16 := by omega
        go_wp2
        go_loopw [5] (fun v wr => ∃ q : Nat, q ≤ 8 ∧ v = .int .i64 q ∧ HoldsW wr 81 w.heap.size (List.replicate 80 0) ∧ HoldsW wr 81 (w.heap.size + 1) ((wsl l k).set k (UInt64.ofNat (beNum ((l.drop (8 * k)).take q)))) ∧ Below w.heap.size w wr)
          (fun v _ => 8 - (intOf v).toNat)
        case atStart => exact ⟨0, Nat.zero_le _, rfl, hR, by rw [List.take_zero, set_zero l hlt]; exact hW, hb⟩
        case round =>
          clear hR hW hb
          obtain ⟨q, hq, rfl, hR, hW, hb⟩ := hrel
          by_cases hltq : q < 8
          · have hltq2 : (q : Int) < 8 := by omega
            obtain ⟨_, _, u, e9, _, hu, hc⟩ := (h.upTo hb hB).cell (k := 8 * k + q) (by omega)
            obtain ⟨rfl, rfl⟩ : _ ∧ _ := by simpa using e9
            obtain ⟨hkq, rfl⟩ := bv_get hu
            unfold bv at hc
            have hin : (8 : Int) * k + q < n := by omega
            have cw := hW.cell (j := k) (by rw [List.length_set, wsl_length]; exact hlt)
            rw [set_at l hlt] at cw
            have fw := hW.frozen k
            have hnb := next_byte (l.drop (8 * k)) q (by rw [List.length_drop]; omega)
            rw [List.getElem_drop] at hnb
            have HNB := Lib.hid hnb
            clear hnb
            have hset : HoldsW (wr.setCell ⟨w.heap.size + 1, k, none⟩ (.int .u64 ((UInt64.ofNat (beNum ((l.drop (8 * k)).take (q + 1)))).toNat : Int))).drew 81 (w.heap.size + 1) ((wsl l k).set k (UInt64.ofNat (beNum ((l.drop (8 * k)).take (q + 1))))) := by
              have := hW.set k (UInt64.ofNat (beNum ((l.drop (8 * k)).take (q + 1))))
              rw [List.set_set] at this
              exact this
            go_wp2
            go_region
            go_wp2
            go_roundw
            case rel => exact ⟨q + 1, by omega, by go_num, hR.setOther _ _ (by simp), by rw [HNB.out]; exact hset, (hb.setCell (by simp) _).drew⟩
            case measure => simp [intOf]; omega
          · rw [show (q : Int) = 8 by omega]
            obtain rfl : q = 8 := by omega
            have hfull : HoldsW wr 81 (w.heap.size + 1) (wsl l (k + 1)) := by
              rw [← wsl_set, ww_low l hlow]; exact hW
            clear hW
            go_wp2
            go_roundw
            case rel => exact ⟨k + 1, by omega, by go_num, hR, hfull, hb⟩
            case measure => simp [intOf]; omega
      · have hlow2 : ¬ (k : Int) < 16 := by omega
        have c2 := hW.cell (j := k - 2) (by rw [wsl_length]; omega)
        have c7 := hW.cell (j := k - 7) (by rw [wsl_length]; omega)
        have c15 := hW.cell (j := k - 15) (by rw [wsl_length]; omega)
        have c16 := hW.cell (j := k - 16) (by rw [wsl_length]; omega)
        have ck := hW.cell (j := k) (by rw [wsl_length]; omega)
        rw [wsl_at l (by omega) (by omega)] at c2 c7 c15 c16
        have fk := hW.frozen k
        have hw := Lib.hid (ww_high l (n := k) (by omega))
        have hset := Lib.hid (wsl_set l k)
        generalize ww l (k - 2) = x2 at *
        generalize ww l (k - 7) = x7 at *
        generalize ww l (k - 15) = x15 at *
        generalize ww l (k - 16) = x16 at *
        have T1 : Hid (∀ W, Calls Tryd.prog 57 #[.int .u64 (x15.toNat : Int), .int .u64 1] W (GaveU W (rotr x15 1))) := Lib.hid fun W => turned_any x15 1 W (by omega) (by omega)
        have T2 : Hid (∀ W, Calls Tryd.prog 57 #[.int .u64 (x15.toNat : Int), .int .u64 8] W (GaveU W (rotr x15 8))) := Lib.hid fun W => turned_any x15 8 W (by omega) (by omega)
        have T3 : Hid (∀ W, Calls Tryd.prog 57 #[.int .u64 (x2.toNat : Int), .int .u64 19] W (GaveU W (rotr x2 19))) := Lib.hid fun W => turned_any x2 19 W (by omega) (by omega)
        have T4 : Hid (∀ W, Calls Tryd.prog 57 #[.int .u64 (x2.toNat : Int), .int .u64 61] W (GaveU W (rotr x2 61))) := Lib.hid fun W => turned_any x2 61 W (by omega) (by omega)
        go_wp2_with (go_at_call 57; (first | with_reducible refine (T1.out _).mono ?_ | with_reducible refine (T2.out _).mono ?_ | with_reducible refine (T3.out _).mono ?_ | with_reducible refine (T4.out _).mono ?_); rintro e w' ⟨rfl, rfl⟩)
        go_region
        simp only [u_xor, u_shr7, u_shr6, u_addw]
        have e5 : (rotr x2 19 ^^^ rotr x2 61 ^^^ shr x2 6) + x7 + (rotr x15 1 ^^^ rotr x15 8 ^^^ shr x15 7) + x16 = ww l k := hw.out.symm
        simp only [e5]
        go_wp2
        go_roundw
        case rel => exact ⟨k + 1, by omega, by go_num, hR.setOther _ _ (by simp), by rw [← hset.out]; exact hW.set k _, (hb.setCell (by simp) _).drew⟩
        case measure => simp [intOf]; omega
    · rw [show (k : Int) = 80 by omega]
      obtain rfl : k = 80 := by omega
      go_wp2_with (first
        | (with_reducible refine wpList_load_w rfl 81 (.tmp 3) rfl (w.heap.size + 1) rfl (wsl l 80) 80 hW (wsl_length l 80) Tryd.underlying81 Tryd.info64 ?_)
        | (with_reducible refine wpList_store_w rfl 81 (.tmp 2) (.tmp 75) rfl w.heap.size (wsl l 80) 80 rfl rfl (wsl_length l 80) _ hR Tryd.info64 (by simp) w.heap.size w hb (Nat.le_refl _) ?_; intro w2 Hg _ _ hb2))
      exact bodyPost_ret (results_cell_row rfl _ _ _ _ _ _ _ rfl Hg Tryd.underlying81 rfl (by rw [Tryd.info64]; simp [wsl_length])) rfl ⟨rfl, hb2⟩
end Go.Proofs.YtppaffamlfghjaaDoor
