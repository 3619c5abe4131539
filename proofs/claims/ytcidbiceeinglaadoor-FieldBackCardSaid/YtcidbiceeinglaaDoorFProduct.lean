/-
  The program's numbers modulo P: the whole product of two, walked.
-/
import Derived.Test.YtcidbiceeinglaaDoorFProd
namespace Go.Proofs.YtcidbiceeinglaaDoor
open Go.RowKit

/-- Eight limbs. -/
def lims8 (n : Nat) : List Nat := mixL 8 n 0 8
theorem lims8_length (n : Nat) : (lims8 n).length = 8 := mixL_length ..
theorem lims8_zero : List.replicate 8 0 = lims8 0 := by decide
theorem run_index_fe (n k : Nat) (w : World) (h : k < 4) : (Instr.index 24 (.agg ((lims n).map nv).toArray) (.int .i64 (k : Int))).run Tryd.prog w = .ok (.int .u64 (limb n k : Int)) w := by
  match k, h with
  | 0, _ => simp [Instr.index, run_underlying Tryd.underlying24, asIntOf, go_sem, lims, nv]
  | 1, _ => simp [Instr.index, run_underlying Tryd.underlying24, asIntOf, go_sem, lims, nv]
  | 2, _ => simp [Instr.index, run_underlying Tryd.underlying24, asIntOf, go_sem, lims, nv]
  | 3, _ => simp [Instr.index, run_underlying Tryd.underlying24, asIntOf, go_sem, lims, nv]
theorem zeros8 : (#[.int .u64 0, .int .u64 0, .int .u64 0, .int .u64 0, .int .u64 0, .int .u64 0, .int .u64 0, .int .u64 0] : Array Value) = ((lims8 0).map nv).toArray := by rw [← lims8_zero]; rfl
theorem prod_start (w : World) (m n : Nat) (c1 c2 c3 c4 : Array Value) (h1 : c1 = ((lims m).map nv).toArray) (h2 : c2 = ((lims n).map nv).toArray) (h3 : c3 = ((lims8 0).map nv).toArray) (h4 : c4 = ((lims8 0).map nv).toArray) :
    HoldsN ((((w.alloc (.cells c1 24)).alloc (.cells c2 24)).alloc (.cells c3 42)).alloc (.cells c4 42)) 24 w.heap.size (lims m) ∧
    HoldsN ((((w.alloc (.cells c1 24)).alloc (.cells c2 24)).alloc (.cells c3 42)).alloc (.cells c4 42)) 24 (w.heap.size + 1) (lims n) ∧
    HoldsN ((((w.alloc (.cells c1 24)).alloc (.cells c2 24)).alloc (.cells c3 42)).alloc (.cells c4 42)) 42 (w.heap.size + 1 + 1) (lims8 0) ∧
    HoldsN ((((w.alloc (.cells c1 24)).alloc (.cells c2 24)).alloc (.cells c3 42)).alloc (.cells c4 42)) 42 (w.heap.size + 1 + 1 + 1) (lims8 0) ∧
    Below w.heap.size w ((((w.alloc (.cells c1 24)).alloc (.cells c2 24)).alloc (.cells c3 42)).alloc (.cells c4 42)) := by
  obtain ⟨a, a2, b, e⟩ := fe_start2 w m n c1 c2 h1 h2
  have e3 : (((w.alloc (.cells c1 24)).alloc (.cells c2 24)).alloc (.cells c3 42)).heap.size = w.heap.size + 1 + 1 + 1 := by rw [World.size_alloc, e]
  exact ⟨(a.alloc _).alloc _, (a2.alloc _).alloc _, (holdsN_new _ _ _ _ _ e.symm h3).alloc _, holdsN_new _ _ _ _ _ e3.symm h4, (b.alloc (by omega) _).alloc (by omega) _⟩

set_option maxRecDepth 100000 in
set_option maxHeartbeats 2000000 in
theorem product_any (m n : Nat) (w : World) (hm : m < big) (hn : n < big) :
    Calls Tryd.prog 36 #[fev m, fev n] w fun e w' => e = .returned (.agg ((lims8 (m * n)).map nv).toArray) ∧ Below w.heap.size w w' := by
  have TP : Hid (∀ (i j : Nat) W, j < 4 → Calls Tryd.prog 37 #[.int .u64 (limb m i : Int), .int .u64 (limb n j : Int), .int .u64 (limb (rows m n i) (i + j) : Int), .int .u64 (cy (limb m i) n (rest m n i) 0 j : Int)] W fun e w' => e = .returned (.tuple #[.int .u64 (limb (rows m n (i + 1)) (i + j) : Int), .int .u64 (cy (limb m i) n (rest m n i) 0 (j + 1) : Int)]) ∧ w' = W) := Lib.hid fun i j W _ => by
    have h := timesPlus_any (limb m i) (limb n j) (limb (rows m n i) (i + j)) (cy (limb m i) n (rest m n i) 0 j) (limb_lt _ _) (limb_lt _ _) (limb_lt _ _) (cy_lt (limb_lt _ _) (by omega) _) W
    rw [(row_step m n i j).1, (row_step m n i j).2] at h
    exact h
  have RS : Hid (∀ i, mixL 8 (rows m n (i + 1)) (rows m n i) i = lims8 (rows m n i)) := Lib.hid fun i => rows_start
  have RE : Hid (∀ i, mixL 8 (rows m n (i + 1)) (rows m n i) (i + 5) = lims8 (rows m n (i + 1))) := Lib.hid fun i => rows_end hn
  have RL : Hid (∀ i, cy (limb m i) n (rest m n i) 0 4 = limb (rows m n (i + 1)) (i + 4)) := Lib.hid fun i => row_last hn
  have R0' : Hid (lims8 (rows m n 0) = lims8 0) := Lib.hid (by rw [rows_zero])
  have R4 : Hid (rows m n 4 = m * n) := Lib.hid (rows_four hm n)
  have C0 : Hid (∀ i, cy (limb m i) n (rest m n i) 0 0 = 0) := Lib.hid fun i => cy_zero _ _ _ _
  obtain ⟨hA, hB, hC, hD, hb⟩ := prod_start w m n _ _ _ _ rfl rfl zeros8 zeros8
  rw [← R0'.out] at hD
  clear hm hn
  generalize m * n = mn at *
  rw [fev_eq, fev_eq]
  go_enter Tryd.func36, Tryd.ntmps36
  go_upto_region 2 with (fail)
  generalize (((w.alloc (.cells ((lims m).map nv).toArray 24)).alloc (.cells ((lims n).map nv).toArray 24)).alloc (.cells #[.int .u64 0, .int .u64 0, .int .u64 0, .int .u64 0, .int .u64 0, .int .u64 0, .int .u64 0, .int .u64 0] 42)).alloc (.cells #[.int .u64 0, .int .u64 0, .int .u64 0, .int .u64 0, .int .u64 0, .int .u64 0, .int .u64 0, .int .u64 0] 42) = wv at *
  go_wp2_with (first
    | (with_reducible refine wpList_load_n rfl 24 (.tmp 2) rfl w.heap.size rfl (lims m) 4 hA rfl Tryd.underlying24 Tryd.infoFe ?_)
    | fail)
  go_loopw [12] (fun vi wr => ∃ i : Nat, i ≤ 4 ∧ vi = .int .i64 (i : Int) ∧ HoldsN wr 24 (w.heap.size + 1) (lims n) ∧ HoldsN wr 42 (w.heap.size + 1 + 1) (lims8 0) ∧ HoldsN wr 42 (w.heap.size + 1 + 1 + 1) (lims8 (rows m n i)) ∧ Below w.heap.size w wr)
    (fun vi _ => 4 - (intOf vi).toNat)
  case atStart => exact ⟨0, Nat.zero_le _, rfl, hB, hC, hD, hb⟩
  case round =>
    clear hA hB hC hD hb
    obtain ⟨i, hi, rfl, hB, hC, hD, hb⟩ := hrel
    by_cases hlt : i < 4
    · have hi2 : (i : Int) < 4 := by omega
      have ix := fun W => run_index_fe m i W hlt
      rw [← RS.out i] at hD
      go_wp2_with (first
        | (with_reducible refine wpList_load_n rfl 24 (.tmp 3) rfl (w.heap.size + 1) rfl (lims n) 4 hB rfl Tryd.underlying24 Tryd.infoFe ?_)
        | fail)
      go_loopw [8, 17] (fun vc vj wx => ∃ j : Nat, j ≤ 4 ∧ vj = .int .i64 (j : Int) ∧ vc = .int .u64 (cy (limb m i) n (rest m n i) 0 j : Int) ∧ HoldsN wx 24 (w.heap.size + 1) (lims n) ∧ HoldsN wx 42 (w.heap.size + 1 + 1) (lims8 0) ∧ HoldsN wx 42 (w.heap.size + 1 + 1 + 1) (mixL 8 (rows m n (i + 1)) (rows m n i) (i + j)) ∧ Below w.heap.size w wx)
        (fun _ vj _ => 4 - (intOf vj).toNat)
      case atStart => exact ⟨0, Nat.zero_le _, rfl, by rw [C0.out]; rfl, hB, hC, hD, hb⟩
      case round =>
        clear hB hC hD hb
        obtain ⟨j, hj, rfl, rfl, hB, hC, hD, hb⟩ := hrel
        by_cases hjt : j < 4
        · have hj2 : (j : Int) < 4 := by omega
          have iy := fun W => run_index_fe n j W hjt
          have ij0 : (0 : Int) ≤ (i : Int) + (j : Int) := by omega
          have ij : IntKind.i64.wrap ((i : Int) + (j : Int)) = ((i + j : Nat) : Int) := by rw [IntKind.wrap_i64]; omega
          have ij8 : ((i + j : Nat) : Int) < 8 := by omega
          have hij : i + j < 8 := by omega
          have cd := hD.cell (j := i + j) (by rw [mixL_length]; exact hij)
          rw [mixL_get hij, if_neg (Nat.lt_irrefl _)] at cd
          have fd := hD.frozen (i + j)
          have hL := Lib.hid (mixL_set (S := rows m n (i + 1)) (M := rows m n i) hij)
          have TPx : Hid (∀ W, Calls Tryd.prog 37 #[.int .u64 (limb m i : Int), .int .u64 (limb n j : Int), .int .u64 (limb (rows m n i) (i + j) : Int), .int .u64 (cy (limb m i) n (rest m n i) 0 j : Int)] W fun e w' => e = .returned (.tuple #[.int .u64 (limb (rows m n (i + 1)) (i + j) : Int), .int .u64 (cy (limb m i) n (rest m n i) 0 (j + 1) : Int)]) ∧ w' = W) := Lib.hid fun W => TP.out i j W hjt
          generalize limb (rows m n (i + 1)) (i + j) = x at *
          generalize hc' : cy (limb m i) n (rest m n i) 0 (j + 1) = c' at *
          have HC := Lib.hid hc'
          clear hc'
          generalize cy (limb m i) n (rest m n i) 0 j = c at *
          generalize limb (rows m n i) (i + j) = y at *
          generalize limb n j = z at *
          generalize hij' : i + j = p at *
          have HP := Lib.hid hij'
          clear hij'
          go_wp2_with (first
            | (go_at_call 37
               with_reducible refine (TPx.out _).mono ?_
               rintro e w3 ⟨rfl, rfl⟩)
            | fail)
          go_roundw
          case rel => exact ⟨j + 1, by omega, by go_num, by rw [HC.out], hB.setOther _ _ (by simp), hC.setOther _ _ (by simp), by rw [show i + (j + 1) = p + 1 by have := HP.out; omega, ← hL.out]; exact hD.set p x, hb.setCell (p := ⟨w.heap.size + 1 + 1 + 1, p, none⟩) (by simp; omega) _⟩
          case measure => simp [intOf]; omega
        · rw [show (j : Int) = 4 by omega]
          obtain rfl : j = 4 := by omega
          have hL := Lib.hid (mixL_set (S := rows m n (i + 1)) (M := rows m n i) (show i + 4 < 8 by omega))
          have fd := hD.frozen (i + 4)
          have cd := hD.cell (j := i + 4) (by rw [mixL_length]; omega)
          rw [mixL_get (by omega), if_neg (Nat.lt_irrefl _)] at cd
          have hrl := RL.out i
          have i4 : IntKind.i64.wrap ((i : Int) + 4) = ((i + 4 : Nat) : Int) := by rw [IntKind.wrap_i64]; omega
          have i48 : ((i + 4 : Nat) : Int) < 8 := by omega
          have he := Lib.hid (RE.out i)
          generalize limb (rows m n (i + 1)) (i + 4) = x at *
          generalize cy (limb m i) n (rest m n i) 0 4 = c at *
          subst hrl
          generalize limb (rows m n i) (i + 4) = y at *
          generalize hip : i + 4 = p at *
          have HP := Lib.hid hip
          clear hip
          go_wp2
          go_roundw
          case rel => exact ⟨i + 1, by omega, by go_num, hB.setOther _ _ (by simp), hC.setOther _ _ (by simp), by rw [← he.out, show i + 5 = p + 1 by have := HP.out; omega, ← hL.out]; exact hD.set p c, hb.setCell (p := ⟨w.heap.size + 1 + 1 + 1, p, none⟩) (by simp; omega) _⟩
          case measure => simp [intOf]; omega
    · rw [show (i : Int) = 4 by omega]
      obtain rfl : i = 4 := by omega
      rw [R4.out] at hD
      clear hB
      go_wp2_with (first
        | (with_reducible refine wpList_load_n rfl 42 (.tmp 5) rfl (w.heap.size + 1 + 1 + 1) rfl (lims8 mn) 8 hD (lims8_length _) Tryd.underlying42 Tryd.infoProd ?_)
        | (with_reducible refine wpList_store_n rfl 42 (.tmp 4) (.tmp 43) rfl (w.heap.size + 1 + 1) (lims8 mn) 8 rfl rfl (lims8_length _) (lims8 0) hC Tryd.infoProd (lims8_length _) w.heap.size w hb (by omega) ?_; intro w7 Hg _ _ hb7)
        | fail)
      exact bodyPost_ret (results_cell_row rfl _ _ _ _ _ _ _ rfl Hg Tryd.underlying42 rfl (by rw [Tryd.infoProd]; simp [lims8_length])) rfl ⟨rfl, hb7⟩
end Go.Proofs.YtcidbiceeinglaaDoor
