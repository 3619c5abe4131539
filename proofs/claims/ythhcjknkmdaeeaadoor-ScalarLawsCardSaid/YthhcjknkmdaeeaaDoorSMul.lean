/-
  The program's numbers modulo L: products.
-/
import Derived.Test.YthhcjknkmdaeeaaDoorSAdd
namespace Go.Proofs.YthhcjknkmdaeeaaDoor
open Go.RowKit
namespace Sca

set_option maxRecDepth 100000 in
set_option maxHeartbeats 2000000 in
theorem Mul_any (m n : Nat) (w : World) (hm : m < big) (hn : n < big) (L0 : Laid w) :
    Calls Tryd.prog 10 #[fev m, fev n] w (GaveF w (toS m * toS n).val) := by
  have hsz := L0.size
  have BL : Hid (∀ W, HoldsN W 44 (w.heap.size + 1 + 1 + 1) (lims8 (m * n)) → Below w.heap.size w W → Calls Tryd.prog 24 #[.slice (some ⟨w.heap.size + 1 + 1 + 1, 0, none⟩) 8 8] W fun e w' => e = .returned (.agg ((lims (toS m * toS n).val).map nv).toArray) ∧ Below W.heap.size W w') := Lib.hid fun W hW hbW => by
    have h := below_any (lims8 (m * n)) 8 (w.heap.size + 1 + 1 + 1) 44 W (lims8_length _) (by omega) (lims8_small _) hW (L0.keep hbW hsz)
    rw [numL_lims8 (Nat.mul_lt_mul'' hm hn)] at h
    rw [← toS_mul]
    exact h
  have TP : Hid (∀ (i j : Nat) W, j < 4 → Calls Tryd.prog 26 #[.int .u64 (limb m i : Int), .int .u64 (limb n j : Int), .int .u64 (limb (rows m n i) (i + j) : Int), .int .u64 (cy (limb m i) n (rest m n i) 0 j : Int)] W fun e w' => e = .returned (.tuple #[.int .u64 (limb (rows m n (i + 1)) (i + j) : Int), .int .u64 (cy (limb m i) n (rest m n i) 0 (j + 1) : Int)]) ∧ w' = W) := Lib.hid fun i j W _ => by
    have h := timesPlus_any (limb m i) (limb n j) (limb (rows m n i) (i + j)) (cy (limb m i) n (rest m n i) 0 j) (limb_lt _ _) (limb_lt _ _) (limb_lt _ _) (cy_lt (limb_lt _ _) (by omega) _) W
    rw [(row_step m n i j).1, (row_step m n i j).2] at h
    exact h
  have RS : Hid (∀ i, mixL 8 (rows m n (i + 1)) (rows m n i) i = lims8 (rows m n i)) := Lib.hid fun i => rows_start
  have RE : Hid (∀ i, mixL 8 (rows m n (i + 1)) (rows m n i) (i + 5) = lims8 (rows m n (i + 1))) := Lib.hid fun i => rows_end hn
  have RL : Hid (∀ i, cy (limb m i) n (rest m n i) 0 4 = limb (rows m n (i + 1)) (i + 4)) := Lib.hid fun i => row_last hn
  have R0' : Hid (lims8 (rows m n 0) = lims8 0) := Lib.hid (by rw [rows_zero])
  have R4 : Hid (rows m n 4 = m * n) := Lib.hid (rows_four hm n)
  have C0 : Hid (∀ i, cy (limb m i) n (rest m n i) 0 0 = 0) := Lib.hid fun i => cy_zero _ _ _ _
  obtain ⟨hA, hB, hC, hD, hb⟩ := tail_start w 44 (lims8 0) m n 0 _ _ #[.int .u64 0, .int .u64 0, .int .u64 0, .int .u64 0] #[.int .u64 0, .int .u64 0, .int .u64 0, .int .u64 0, .int .u64 0, .int .u64 0, .int .u64 0, .int .u64 0] rfl rfl (by kernel_rfl) zeros8
  rw [← R0'.out] at hD
  clear hm hn
  generalize (toS m * toS n).val = v at *
  generalize m * n = mn at *
  rw [fev_eq, fev_eq]
  go_enter Tryd.func10, Tryd.ntmps10
  go_upto_region 2 with (fail)
  generalize (((w.alloc (.cells ((lims m).map nv).toArray 24)).alloc (.cells ((lims n).map nv).toArray 24)).alloc (.cells #[.int .u64 0, .int .u64 0, .int .u64 0, .int .u64 0] 24)).alloc (.cells #[.int .u64 0, .int .u64 0, .int .u64 0, .int .u64 0, .int .u64 0, .int .u64 0, .int .u64 0, .int .u64 0] 44) = wv at *
  go_wp2_with (first
    | (with_reducible refine wpList_load_n rfl 24 (.tmp 2) rfl w.heap.size rfl (lims m) 4 hA rfl Tryd.underlying24 Tryd.infoSc ?_)
    | fail)
  go_loopw [12] (fun vi wr => ∃ i : Nat, i ≤ 4 ∧ vi = .int .i64 (i : Int) ∧ HoldsN wr 24 (w.heap.size + 1) (lims n) ∧ HoldsN wr 24 (w.heap.size + 1 + 1) (lims 0) ∧ HoldsN wr 44 (w.heap.size + 1 + 1 + 1) (lims8 (rows m n i)) ∧ Below w.heap.size w wr)
    (fun vi _ => 4 - (intOf vi).toNat)
  case atStart => exact ⟨0, Nat.zero_le _, rfl, hB, hC, hD, hb⟩
  case round =>
    clear hA hB hC hD hb
    obtain ⟨i, hi, rfl, hB, hC, hD, hb⟩ := hrel
    by_cases hlt : i < 4
    · have hi2 : (i : Int) < 4 := by omega
      have ix := fun W => run_index_sc m i W hlt
      rw [← RS.out i] at hD
      go_wp2_with (first
        | (with_reducible refine wpList_load_n rfl 24 (.tmp 3) rfl (w.heap.size + 1) rfl (lims n) 4 hB rfl Tryd.underlying24 Tryd.infoSc ?_)
        | fail)
      go_loopw [8, 17] (fun vc vj wx => ∃ j : Nat, j ≤ 4 ∧ vj = .int .i64 (j : Int) ∧ vc = .int .u64 (cy (limb m i) n (rest m n i) 0 j : Int) ∧ HoldsN wx 24 (w.heap.size + 1) (lims n) ∧ HoldsN wx 24 (w.heap.size + 1 + 1) (lims 0) ∧ HoldsN wx 44 (w.heap.size + 1 + 1 + 1) (mixL 8 (rows m n (i + 1)) (rows m n i) (i + j)) ∧ Below w.heap.size w wx)
        (fun _ vj _ => 4 - (intOf vj).toNat)
      case atStart => exact ⟨0, Nat.zero_le _, rfl, by rw [C0.out]; rfl, hB, hC, hD, hb⟩
      case round =>
        clear hB hC hD hb
        obtain ⟨j, hj, rfl, rfl, hB, hC, hD, hb⟩ := hrel
        by_cases hjt : j < 4
        · have hj2 : (j : Int) < 4 := by omega
          have iy := fun W => run_index_sc n j W hjt
          have ij0 : (0 : Int) ≤ (i : Int) + (j : Int) := by omega
          have ij : IntKind.i64.wrap ((i : Int) + (j : Int)) = ((i + j : Nat) : Int) := by rw [IntKind.wrap_i64]; omega
          have ij8 : ((i + j : Nat) : Int) < 8 := by omega
          have hij : i + j < 8 := by omega
          have cd := hD.cell (j := i + j) (by rw [mixL_length]; exact hij)
          rw [mixL_get hij, if_neg (Nat.lt_irrefl _)] at cd
          have fd := hD.frozen (i + j)
          have hL := Lib.hid (mixL_set (S := rows m n (i + 1)) (M := rows m n i) hij)
          have TPx : Hid (∀ W, Calls Tryd.prog 26 #[.int .u64 (limb m i : Int), .int .u64 (limb n j : Int), .int .u64 (limb (rows m n i) (i + j) : Int), .int .u64 (cy (limb m i) n (rest m n i) 0 j : Int)] W fun e w' => e = .returned (.tuple #[.int .u64 (limb (rows m n (i + 1)) (i + j) : Int), .int .u64 (cy (limb m i) n (rest m n i) 0 (j + 1) : Int)]) ∧ w' = W) := Lib.hid fun W => TP.out i j W hjt
          generalize limb (rows m n (i + 1)) (i + j) = x at *
          generalize hc' : cy (limb m i) n (rest m n i) 0 (j + 1) = c' at *
          have HC := Lib.hid hc'
          clear hc'
          generalize cy (limb m i) n (rest m n i) 0 j = c at *
          generalize limb (rows m n i) (i + j) = y at *
          generalize limb n j = z at *
          generalize hij' : i + j = p at *
          have HP := Lib.hid hij'
          clear hij'
          go_wp2_with (first
            | (go_at_call 26
               with_reducible refine (TPx.out _).mono ?_
               rintro e w3 ⟨rfl, rfl⟩)
            | fail)
          go_roundw
          case rel => exact ⟨j + 1, by omega, by go_num, by rw [HC.out], hB.setOther _ _ (by simp), hC.setOther _ _ (by simp), by rw [show i + (j + 1) = p + 1 by have := HP.out; omega, ← hL.out]; exact hD.set p x, hb.setCell (p := ⟨w.heap.size + 1 + 1 + 1, p, none⟩) (by simp; omega) _⟩
          case measure => simp [intOf]; omega
        · rw [show (j : Int) = 4 by omega]
          obtain rfl : j = 4 := by omega
          have hL := Lib.hid (mixL_set (S := rows m n (i + 1)) (M := rows m n i) (show i + 4 < 8 by omega))
          have fd := hD.frozen (i + 4)
          have cd := hD.cell (j := i + 4) (by rw [mixL_length]; omega)
          rw [mixL_get (by omega), if_neg (Nat.lt_irrefl _)] at cd
          have hrl := RL.out i
          have i4 : IntKind.i64.wrap ((i : Int) + 4) = ((i + 4 : Nat) : Int) := by rw [IntKind.wrap_i64]; omega
          have i48 : ((i + 4 : Nat) : Int) < 8 := by omega
          have he := Lib.hid (RE.out i)
          generalize limb (rows m n (i + 1)) (i + 4) = x at *
          generalize cy (limb m i) n (rest m n i) 0 4 = c at *
          subst hrl
          generalize limb (rows m n i) (i + 4) = y at *
          generalize hip : i + 4 = p at *
          have HP := Lib.hid hip
          clear hip
          go_wp2
          go_roundw
          case rel => exact ⟨i + 1, by omega, by go_num, hB.setOther _ _ (by simp), hC.setOther _ _ (by simp), by rw [← he.out, show i + 5 = p + 1 by have := HP.out; omega, ← hL.out]; exact hD.set p c, hb.setCell (p := ⟨w.heap.size + 1 + 1 + 1, p, none⟩) (by simp; omega) _⟩
          case measure => simp [intOf]; omega
    · rw [show (i : Int) = 4 by omega]
      obtain rfl : i = 4 := by omega
      rw [R4.out] at hD
      clear hB
      generalize lims8 mn = t at *
      go_wp2_with (first
        | (go_at_call 24
           with_reducible refine (BL.out _ hD hb).mono ?_
           rintro e w3 ⟨rfl, hb3⟩
           have hC3 := hC.keep hb3 hC.lt
           have b3 := hb.trans (hb3.mono hb.size))
        | (with_reducible refine wpList_store_n rfl 24 (.tmp 4) (.tmp 44) rfl (w.heap.size + 1 + 1) (lims v) 4 rfl rfl rfl (lims 0) hC3 Tryd.infoSc rfl w.heap.size w b3 (by omega) ?_; intro w7 Hg _ _ hb7)
        | fail)
      exact bodyPost_ret (results_cell_row rfl _ _ _ _ _ _ _ rfl Hg Tryd.underlying24 rfl (by rw [Tryd.infoSc]; rfl)) rfl ⟨rfl, hb7⟩
end Sca
end Go.Proofs.YthhcjknkmdaeeaaDoor
