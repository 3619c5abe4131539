/-
  The program's words of a block.
-/
import Derived.Test.YtppaffamlfghjaaDoorWideHold
import Derived.Test.YtppaffamlfghjaaDoorTake
import Derived.StillTailTactics
namespace Go.Proofs.YtppaffamlfghjaaDoor
open Go.RowKit

theorem be64_nat (l : List UInt8) : (beNum (l.take 8) : Int) = ((be64 l).toNat : Int) := by
  have h := beNum_lt (l.take 8)
  have h2 : 256 ^ (l.take 8).length ≤ 256 ^ 8 := Nat.pow_le_pow_right (by omega) (by rw [List.length_take]; omega)
  have h3 : (256 : Nat) ^ 8 = 18446744073709551616 := by decide
  unfold be64
  rw [u_of]
  omega

set_option maxRecDepth 100000 in
set_option maxHeartbeats 1000000 in
theorem mixed_any (A : Option Addr) (n c B : Nat) (l : List UInt8) (w : World) (h : Sees w B A n c (l.map bv)) (hB : B ≤ w.heap.size) (hn : 128 ≤ n) (hm : n ≤ 2147483647) :
    Calls Tryd.prog 64 #[.slice A n c] w fun e w' => e = .returned (.agg ((wsl l 80).map uv).toArray) ∧ Below w.heap.size w w' := by
  have hle := h.le
  have hmax := h.max
  have hll : l.length = n := by have := h.len; simpa using this
  have HLL := Lib.hid hll
  clear hll
  have e1 : ∀ o, (w.alloc o).heap.size = w.heap.size + 1 := fun o => World.size_alloc ..
  have z1 : HoldsW ((w.alloc (.cells (zcells 80) 81)).alloc (.cells (zcells 80) 81)) 81 (w.heap.size + 1) (List.replicate 80 0) := by have := holds_zero (w.alloc (.cells (zcells 80) 81)) 81 80; rwa [e1] at this
  have z0 : HoldsW ((w.alloc (.cells (zcells 80) 81)).alloc (.cells (zcells 80) 81)) 81 w.heap.size (List.replicate 80 0) := (holds_zero w _ 80).alloc _
  have bz : Below w.heap.size w ((w.alloc (.cells (zcells 80) 81)).alloc (.cells (zcells 80) 81)) := ((Below.refl _ w).alloc (Nat.le_refl _) _).alloc (by rw [e1]; omega) _
  rw [← wsl_zero l] at z1
  go_enter Tryd.func64, Tryd.ntmps64
  go_wp2
  go_loopw [6] (fun v wr => ∃ k : Nat, k ≤ 16 ∧ v = .int .i64 k ∧ HoldsW wr 81 w.heap.size (List.replicate 80 0) ∧ HoldsW wr 81 (w.heap.size + 1) (wsl l k) ∧ Below w.heap.size w wr)
    (fun v _ => 16 - (intOf v).toNat)
  case atStart => exact ⟨0, Nat.zero_le _, rfl, by with_unfolding_all exact z0, by with_unfolding_all exact z1, by with_unfolding_all exact bz⟩
  case round =>
    clear z0 z1 bz
    obtain ⟨k, hk, rfl, hR, hW, hb⟩ := hrel
    by_cases hlt : k < 16
    · have hlt2 : (k : Int) < 16 := by omega
      have hlow : k < 16 := hlt
      have h1 := (h.upTo hb hB).cut (lo := 8 * k) (hi := 8 * (k + 1)) (by omega) (by omega)
      rw [if_neg (by omega)] at h1
      have hpl : (l.drop (8 * k)).length = n - 8 * k := by rw [List.length_drop, HLL.out]
      have HV := Lib.hid (be64_nat (l.drop (8 * k)))
      have HT : Hid (((l.drop (8 * k)).take (8 * (k + 1) - 8 * k)).take 8 = (l.drop (8 * k)).take 8) := Lib.hid (by rw [List.take_take]; congr 1; omega)
      have HS := Lib.hid (wsl_set l k)
      have HL := Lib.hid (ww_low l hlow)
      rw [← List.map_drop, ← List.map_take] at h1
      clear hpl
      have hf := hW.frozen k
      go_wp2_with (go_at_call 67; (with_reducible refine (Take_ok _ _ _ B _ 8 _ h1 (Nat.le_trans hB hb.size) (by omega) (by omega) (by omega) (by omega)).mono ?_); rintro e w1 ⟨A1, c1, rfl, _, hb1⟩; have hW1 := hW.keep hb1 hW.lt; have hR1 := hR.keep hb1 hR.lt; have hf1 := hW1.frozen k; have hc1 := hW1.cell (j := k) (by rw [wsl_length]; omega); have hs1 := hb1.size; have B1 := hb.trans (hb1.mono hb.size))
      go_roundw
      case rel =>
        refine ⟨k + 1, by omega, by go_num, hR1.setOther _ _ (by simp), ?_, B1.setCell (by simp) _⟩
        have := hW1.set k (ww l k)
        rw [HS.out, HL.out, ← HV.out, ← HT.out] at this
        exact this
      case measure => simp [intOf]; omega
    · rw [show (k : Int) = 16 by omega]
      obtain rfl : k = 16 := by omega
      go_wp2
      go_loopw [5] (fun v wr => ∃ k : Nat, 16 ≤ k ∧ k ≤ 80 ∧ v = .int .i64 k ∧ HoldsW wr 81 w.heap.size (List.replicate 80 0) ∧ HoldsW wr 81 (w.heap.size + 1) (wsl l k) ∧ Below w.heap.size w wr)
        (fun v _ => 80 - (intOf v).toNat)
      case atStart => exact ⟨16, by omega, by omega, rfl, hR, hW, hb⟩
      case round =>
        clear hR hW hb
        obtain ⟨k, hk16, hk, rfl, hR, hW, hb⟩ := hrel
        by_cases hlt : k < 80
        · have hlt2 : (k : Int) < 80 := by omega
          have c2 := hW.cell (j := k - 2) (by rw [wsl_length]; omega)
          have c7 := hW.cell (j := k - 7) (by rw [wsl_length]; omega)
          have c15 := hW.cell (j := k - 15) (by rw [wsl_length]; omega)
          have c16 := hW.cell (j := k - 16) (by rw [wsl_length]; omega)
          have ck := hW.cell (j := k) (by rw [wsl_length]; omega)
          rw [wsl_at l (by omega) (by omega)] at c2 c7 c15 c16
          have fk := hW.frozen k
          have hw := Lib.hid (ww_high l (n := k) (by omega))
          have hset := Lib.hid (wsl_set l k)
          generalize ww l (k - 2) = x2 at *
          generalize ww l (k - 7) = x7 at *
          generalize ww l (k - 15) = x15 at *
          generalize ww l (k - 16) = x16 at *
          have M2 : Hid (∀ W, Calls Tryd.prog 68 #[.int .u64 (x2.toNat : Int), .int .i64 19, .int .i64 61, .int .i64 6] W (GaveQ W (smix x2 19 61 6))) := Lib.hid fun W => shiftedMix_any x2 19 61 6 W (by omega) (by omega) (by omega) (by omega) (by omega) (by omega)
          have M15 : Hid (∀ W, Calls Tryd.prog 68 #[.int .u64 (x15.toNat : Int), .int .i64 1, .int .i64 8, .int .i64 7] W (GaveQ W (smix x15 1 8 7))) := Lib.hid fun W => shiftedMix_any x15 1 8 7 W (by omega) (by omega) (by omega) (by omega) (by omega) (by omega)
          have i16 : (16 : Int) ≤ k := by omega
          have w2 : IntKind.i64.wrap ((k : Int) - 2) = k - 2 := by simp only [IntKind.wrap, IntKind.bits, IntKind.signed]; simp; omega
          have w7 : IntKind.i64.wrap ((k : Int) - 7) = k - 7 := by simp only [IntKind.wrap, IntKind.bits, IntKind.signed]; simp; omega
          have w15 : IntKind.i64.wrap ((k : Int) - 15) = k - 15 := by simp only [IntKind.wrap, IntKind.bits, IntKind.signed]; simp; omega
          have w16 : IntKind.i64.wrap ((k : Int) - 16) = k - 16 := by simp only [IntKind.wrap, IntKind.bits, IntKind.signed]; simp; omega
          have n2 : (2 : Int) ≤ (k : Int) := by omega
          have l2 : (k : Int) - 2 < 80 := by omega
          have t2 : ((k : Int) - 2).toNat = k - 2 := by omega
          have n7 : (7 : Int) ≤ (k : Int) := by omega
          have l7 : (k : Int) - 7 < 80 := by omega
          have t7 : ((k : Int) - 7).toNat = k - 7 := by omega
          have n15 : (15 : Int) ≤ (k : Int) := by omega
          have l15 : (k : Int) - 15 < 80 := by omega
          have t15 : ((k : Int) - 15).toNat = k - 15 := by omega
          have l16 : (k : Int) - 16 < 80 := by omega
          have t16 : ((k : Int) - 16).toNat = k - 16 := by omega
          go_wp2
          refine wp_region_noPanic ?_
          refine wp_region_held_drew (S := (fun W => W.cell? ⟨w.heap.size + 1, k - 2, none⟩ = some (.int .u64 (x2.toNat : Int)) ∧ W.cell? ⟨w.heap.size + 1, k - 7, none⟩ = some (.int .u64 (x7.toNat : Int)) ∧ W.cell? ⟨w.heap.size + 1, k - 15, none⟩ = some (.int .u64 (x15.toNat : Int)) ∧ W.cell? ⟨w.heap.size + 1, k - 16, none⟩ = some (.int .u64 (x16.toNat : Int)))) (by kernel_rfl) (by (try dsimp only); (first | exact ⟨c2, c7, c15, c16⟩ | (refine ⟨?_, ?_, ?_, ?_⟩ <;> (rw [World.cell?_setCell_other _ _ _ _ (by intro e; injection e with _ e2 _; omega)]; first | exact c2 | exact c7 | exact c15 | exact c16)))) (fun hHeld => ?_)
          refine wpAnyH_take (i := 0) (v := ?_) rfl (by kernel_rfl) (by kernel_rfl) (by kernel_rfl) (fun _ _ _ h => h) (Or.inl ⟨by rfl, ?_⟩) (by assumption) ?_
          rotate_left
          · intro w hSw; (try dsimp only at hSw); go_simp <;> with_reducible rfl
          try simp only [Act.put, List.getElem_toArray, List.getElem_cons_zero, List.setIfInBounds_toArray, List.set_cons_zero, List.set_cons_succ]
          refine wpAnyH_take (i := 1) (v := ?_) rfl (by kernel_rfl) (by kernel_rfl) (by kernel_rfl) (fun _ _ _ h => h) (Or.inl ⟨by rfl, ?_⟩) (by assumption) ?_
          rotate_left
          · intro w hSw; (try dsimp only at hSw); go_simp <;> with_reducible rfl
          try simp only [Act.put, List.getElem_toArray, List.getElem_cons_succ, List.getElem_cons_zero, List.setIfInBounds_toArray, List.set_cons_zero, List.set_cons_succ]
          refine wpAnyH_take (i := 2) (v := ?_) rfl (by kernel_rfl) (by kernel_rfl) (by kernel_rfl) (fun _ _ _ h => h) (Or.inl ⟨by rfl, ?_⟩) (by assumption) ?_
          rotate_left
          · intro w hSw; (try dsimp only at hSw); go_simp <;> with_reducible rfl
          try simp only [Act.put, List.getElem_toArray, List.getElem_cons_succ, List.getElem_cons_zero, List.setIfInBounds_toArray, List.set_cons_zero, List.set_cons_succ]
          refine wpAnyH_take (i := 3) (v := ?_) rfl (by kernel_rfl) (by kernel_rfl) (by kernel_rfl) (fun _ _ _ h => h) (Or.inl ⟨by rfl, ?_⟩) (by assumption) ?_
          rotate_left
          · intro w hSw; (try dsimp only at hSw); go_simp <;> with_reducible rfl
          try simp only [Act.put, List.getElem_toArray, List.getElem_cons_succ, List.getElem_cons_zero, List.setIfInBounds_toArray, List.set_cons_zero, List.set_cons_succ]
          refine wpAnyH_take (i := 4) (v := ?_) rfl (by kernel_rfl) (by kernel_rfl) (by kernel_rfl) (fun _ _ _ h => h) (Or.inl ⟨by rfl, ?_⟩) (by assumption) ?_
          rotate_left
          · intro w hSw; (try dsimp only at hSw); go_simp <;> with_reducible rfl
          try simp only [Act.put, List.getElem_toArray, List.getElem_cons_succ, List.getElem_cons_zero, List.setIfInBounds_toArray, List.set_cons_zero, List.set_cons_succ]
          refine wpAnyH_take (i := 6) (v := ?_) rfl (by kernel_rfl) (by kernel_rfl) (by kernel_rfl) (fun _ _ _ h => h) (Or.inl ⟨by rfl, ?_⟩) (by assumption) ?_
          rotate_left
          · intro w hSw; (try dsimp only at hSw); go_simp <;> with_reducible rfl
          try simp only [Act.put, List.getElem_toArray, List.getElem_cons_succ, List.getElem_cons_zero, List.setIfInBounds_toArray, List.set_cons_zero, List.set_cons_succ]
          refine wpAnyH_take (i := 7) (v := ?_) rfl (by kernel_rfl) (by kernel_rfl) (by kernel_rfl) (fun _ _ _ h => h) (Or.inl ⟨by rfl, ?_⟩) (by assumption) ?_
          rotate_left
          · intro w hSw; (try dsimp only at hSw); go_simp <;> with_reducible rfl
          try simp only [Act.put, List.getElem_toArray, List.getElem_cons_succ, List.getElem_cons_zero, List.setIfInBounds_toArray, List.set_cons_zero, List.set_cons_succ]
          refine wpAnyH_take (i := 8) (v := ?_) rfl (by kernel_rfl) (by kernel_rfl) (by kernel_rfl) (fun _ _ _ h => h) (Or.inl ⟨by rfl, ?_⟩) (by assumption) ?_
          rotate_left
          · intro w hSw; (try dsimp only at hSw); go_simp <;> with_reducible rfl
          try simp only [Act.put, List.getElem_toArray, List.getElem_cons_succ, List.getElem_cons_zero, List.setIfInBounds_toArray, List.set_cons_zero, List.set_cons_succ]
          refine wpAnyH_take (i := 9) (v := ?_) rfl (by kernel_rfl) (by kernel_rfl) (by kernel_rfl) (fun _ _ _ h => h) (Or.inl ⟨by rfl, ?_⟩) (by assumption) ?_
          rotate_left
          · intro w hSw; (try dsimp only at hSw); go_simp <;> with_reducible rfl
          try simp only [Act.put, List.getElem_toArray, List.getElem_cons_succ, List.getElem_cons_zero, List.setIfInBounds_toArray, List.set_cons_zero, List.set_cons_succ]
          refine wpAnyH_take (i := 11) (v := ?_) rfl (by kernel_rfl) (by kernel_rfl) (by kernel_rfl) (fun _ _ _ h => h) (Or.inl ⟨by rfl, ?_⟩) (by assumption) ?_
          rotate_left
          · intro w hSw; (try dsimp only at hSw); go_simp <;> with_reducible rfl
          try simp only [Act.put, List.getElem_toArray, List.getElem_cons_succ, List.getElem_cons_zero, List.setIfInBounds_toArray, List.set_cons_zero, List.set_cons_succ]
          refine wpAnyH_take (i := 12) (v := ?_) rfl (by kernel_rfl) (by kernel_rfl) (by kernel_rfl) (fun _ _ _ h => h) (Or.inl ⟨by rfl, ?_⟩) (by assumption) ?_
          rotate_left
          · intro w hSw; (try dsimp only at hSw); go_simp <;> with_reducible rfl
          try simp only [Act.put, List.getElem_toArray, List.getElem_cons_succ, List.getElem_cons_zero, List.setIfInBounds_toArray, List.set_cons_zero, List.set_cons_succ]
          refine wpAnyH_take (i := 13) (v := ?_) rfl (by kernel_rfl) (by kernel_rfl) (by kernel_rfl) (fun _ _ _ h => h) (Or.inl ⟨by rfl, ?_⟩) (by assumption) ?_
          rotate_left
          · intro w hSw; (try dsimp only at hSw); go_simp <;> with_reducible rfl
          try simp only [Act.put, List.getElem_toArray, List.getElem_cons_succ, List.getElem_cons_zero, List.setIfInBounds_toArray, List.set_cons_zero, List.set_cons_succ]
          refine wpAnyH_take (i := 14) (v := ?_) rfl (by kernel_rfl) (by kernel_rfl) (by kernel_rfl) (fun _ _ _ h => h) (Or.inl ⟨by rfl, ?_⟩) (by assumption) ?_
          rotate_left
          · intro w hSw; (try dsimp only at hSw); go_simp <;> with_reducible rfl
          try simp only [Act.put, List.getElem_toArray, List.getElem_cons_succ, List.getElem_cons_zero, List.setIfInBounds_toArray, List.set_cons_zero, List.set_cons_succ]
          refine wpAnyH_take (i := 17) (v := ?_) rfl (by kernel_rfl) (by kernel_rfl) (by kernel_rfl) (fun _ _ _ h => h) (Or.inl ⟨by rfl, ?_⟩) (by assumption) ?_
          rotate_left
          · intro w hSw; (try dsimp only at hSw); go_simp <;> with_reducible rfl
          try simp only [Act.put, List.getElem_toArray, List.getElem_cons_succ, List.getElem_cons_zero, List.setIfInBounds_toArray, List.set_cons_zero, List.set_cons_succ]
          refine wpAnyH_take (i := 18) (v := ?_) rfl (by kernel_rfl) (by kernel_rfl) (by kernel_rfl) (fun _ _ _ h => h) (Or.inl ⟨by rfl, ?_⟩) (by assumption) ?_
          rotate_left
          · intro w hSw; (try dsimp only at hSw); go_simp <;> with_reducible rfl
          try simp only [Act.put, List.getElem_toArray, List.getElem_cons_succ, List.getElem_cons_zero, List.setIfInBounds_toArray, List.set_cons_zero, List.set_cons_succ]
          refine wpAnyH_take (i := 19) (v := ?_) rfl (by kernel_rfl) (by kernel_rfl) (by kernel_rfl) (fun _ _ _ h => h) (Or.inl ⟨by rfl, ?_⟩) (by assumption) ?_
          rotate_left
          · intro w hSw; (try dsimp only at hSw); go_simp <;> with_reducible rfl
          try simp only [Act.put, List.getElem_toArray, List.getElem_cons_succ, List.getElem_cons_zero, List.setIfInBounds_toArray, List.set_cons_zero, List.set_cons_succ]
          refine wpAnyH_take (i := 20) (v := ?_) rfl (by kernel_rfl) (by kernel_rfl) (by kernel_rfl) (fun _ _ _ h => h) (Or.inl ⟨by rfl, ?_⟩) (by assumption) ?_
          rotate_left
          · intro w hSw; (try dsimp only at hSw); go_simp <;> with_reducible rfl
          try simp only [Act.put, List.getElem_toArray, List.getElem_cons_succ, List.getElem_cons_zero, List.setIfInBounds_toArray, List.set_cons_zero, List.set_cons_succ]
          refine wpAnyH_ready (rs := [5]) (by kernel_rfl) (by simp) ?_
          refine AllReadyH.cons rfl (fun K hK => ?_) AllReadyH.nil
          go_simp
          ((go_at_call 68; (first | with_reducible refine (M2.out _).mono ?_ | with_reducible refine (M15.out _).mono ?_); rintro e w' ⟨rfl, m, rfl⟩))
          go_wp2_with fail
          refine hK.out _ _ ?_ (fun hHeld => ?_)
          · (try dsimp only); (first | exact ⟨c2, c7, c15, c16⟩ | (refine ⟨?_, ?_, ?_, ?_⟩ <;> (rw [World.cell?_setCell_other _ _ _ _ (by intro e; injection e with _ e2 _; omega)]; first | exact c2 | exact c7 | exact c15 | exact c16)))
          clear hK K
          try simp only [Act.put, List.getElem_toArray, List.getElem_cons_succ, List.getElem_cons_zero, List.setIfInBounds_toArray, List.set_cons_zero, List.set_cons_succ]
          refine wpAnyH_take (i := 10) (v := ?_) rfl (by kernel_rfl) (by kernel_rfl) (by kernel_rfl) (fun _ _ _ h => h) (Or.inl ⟨by rfl, ?_⟩) (by assumption) ?_
          rotate_left
          · intro w hSw; (try dsimp only at hSw); go_simp <;> with_reducible rfl
          try simp only [Act.put, List.getElem_toArray, List.getElem_cons_succ, List.getElem_cons_zero, List.setIfInBounds_toArray, List.set_cons_zero, List.set_cons_succ]
          refine wpAnyH_ready (rs := [15]) (by kernel_rfl) (by simp) ?_
          refine AllReadyH.cons rfl (fun K hK => ?_) AllReadyH.nil
          go_simp
          ((go_at_call 68; (first | with_reducible refine (M2.out _).mono ?_ | with_reducible refine (M15.out _).mono ?_); rintro e w' ⟨rfl, m, rfl⟩))
          go_wp2_with fail
          refine hK.out _ _ ?_ (fun hHeld => ?_)
          · (try dsimp only); (first | exact ⟨c2, c7, c15, c16⟩ | (refine ⟨?_, ?_, ?_, ?_⟩ <;> (rw [World.cell?_setCell_other _ _ _ _ (by intro e; injection e with _ e2 _; omega)]; first | exact c2 | exact c7 | exact c15 | exact c16)))
          clear hK K
          try simp only [Act.put, List.getElem_toArray, List.getElem_cons_succ, List.getElem_cons_zero, List.setIfInBounds_toArray, List.set_cons_zero, List.set_cons_succ]
          refine wpAnyH_take (i := 16) (v := ?_) rfl (by kernel_rfl) (by kernel_rfl) (by kernel_rfl) (fun _ _ _ h => h) (Or.inl ⟨by rfl, ?_⟩) (by assumption) ?_
          rotate_left
          · intro w hSw; (try dsimp only at hSw); go_simp <;> with_reducible rfl
          try simp only [Act.put, List.getElem_toArray, List.getElem_cons_succ, List.getElem_cons_zero, List.setIfInBounds_toArray, List.set_cons_zero, List.set_cons_succ]
          refine wpAnyH_take (i := 21) (v := ?_) rfl (by kernel_rfl) (by kernel_rfl) (by kernel_rfl) (fun _ _ _ h => h) (Or.inl ⟨by rfl, ?_⟩) (by assumption) ?_
          rotate_left
          · intro w hSw; (try dsimp only at hSw); go_simp <;> with_reducible rfl
          try simp only [Act.put, List.getElem_toArray, List.getElem_cons_succ, List.getElem_cons_zero, List.setIfInBounds_toArray, List.set_cons_zero, List.set_cons_succ]
          refine wpAnyH_take (i := 22) (v := ?_) rfl (by kernel_rfl) (by kernel_rfl) (by kernel_rfl) (fun _ _ _ h => h) (Or.inl ⟨by rfl, ?_⟩) (by assumption) ?_
          rotate_left
          · intro w hSw; (try dsimp only at hSw); go_simp <;> with_reducible rfl
          try simp only [Act.put, List.getElem_toArray, List.getElem_cons_succ, List.getElem_cons_zero, List.setIfInBounds_toArray, List.set_cons_zero, List.set_cons_succ]
          refine wpAnyH_ready (rs := [23]) (by kernel_rfl) (by simp) ?_
          refine AllReadyH.cons rfl (fun K hK => ?_) AllReadyH.nil
          go_simp
          refine hK.out _ _ ?_ (fun hHeld => ?_)
          · (try dsimp only); (first | exact ⟨c2, c7, c15, c16⟩ | (refine ⟨?_, ?_, ?_, ?_⟩ <;> (rw [World.cell?_setCell_other _ _ _ _ (by intro e; injection e with _ e2 _; omega)]; first | exact c2 | exact c7 | exact c15 | exact c16)))
          clear hK K
          try simp only [Act.put, List.getElem_toArray, List.getElem_cons_succ, List.getElem_cons_zero, List.setIfInBounds_toArray, List.set_cons_zero, List.set_cons_succ]
          refine wpAnyH_done (by kernel_rfl) ?_ _
          refine NoPanic.normal ?_
          simp only [u_addw]
          have e5 : smix x2 19 61 6 + x7 + smix x15 1 8 7 + x16 = ww l k := hw.out.symm
          simp only [e5]
          go_wp2
          go_roundw
          case rel => exact ⟨k + 1, by omega, by omega, by go_num, HoldsW.setOther (by exact hR) _ _ (by simp), by rw [← hset.out]; exact HoldsW.set (by exact hW) k _, Below.setCell (below_drewN hb _) (by simp) _⟩
          case measure => simp [intOf]; omega
        · rw [show (k : Int) = 80 by omega]
          obtain rfl : k = 80 := by omega
          go_wp2_with (first
            | (with_reducible refine wpList_load_w rfl 81 (.tmp 3) rfl (w.heap.size + 1) rfl (wsl l 80) 80 hW (wsl_length l 80) Tryd.underlying81 Tryd.info64 ?_)
            | (with_reducible refine wpList_store_w rfl 81 (.tmp 2) (.tmp 51) rfl w.heap.size (wsl l 80) 80 rfl rfl (wsl_length l 80) _ hR Tryd.info64 (by simp) w.heap.size w hb (Nat.le_refl _) ?_; intro w2 Hg _ _ hb2))
          exact bodyPost_ret (results_cell_row rfl _ _ _ _ _ _ _ rfl Hg Tryd.underlying81 rfl (by rw [Tryd.info64]; simp [wsl_length])) rfl ⟨rfl, hb2⟩
end Go.Proofs.YtppaffamlfghjaaDoor
