/-
  The program's numbers modulo P: what is below 0; squares of squares.
-/
import Derived.Test.YtcidbiceeinglaaDoorFMul
namespace Go.Proofs.YtcidbiceeinglaaDoor
open Go.RowKit

theorem F.zero_sub (a : F) : toF 0 - a = -a := by
  have h : toF 0 = 0 := rfl
  rw [h]; grind
set_option maxRecDepth 100000 in
set_option maxHeartbeats 1000000 in
theorem Neg_any (m : Nat) (w : World) (hm : m < big) (L0 : Laid w) :
    Calls Tryd.prog 16 #[fev m] w (GaveF w (-toF m).val) := by
  obtain ⟨hA, hC, hb, hsz⟩ := fe_start2 w m 0 _ #[.int .u64 0, .int .u64 0, .int .u64 0, .int .u64 0] rfl (by kernel_rfl)
  have z0 : Value.agg #[.int .u64 0, .int .u64 0, .int .u64 0, .int .u64 0] = fev 0 := by kernel_rfl
  have SB : Hid (∀ W, Laid W → Calls Tryd.prog 12 #[.agg #[.int .u64 0, .int .u64 0, .int .u64 0, .int .u64 0], .agg ((lims m).map nv).toArray] W fun e w' => e = .returned (.agg ((lims (-toF m).val).map nv).toArray) ∧ Below W.heap.size W w') := Lib.hid fun W L => by rw [z0, ← F.zero_sub]; exact Sub_any 0 m W (by decide) hm L
  have L1 := L0.keep hb L0.size
  generalize (-toF m).val = v at *
  rw [fev_eq]
  clear hm z0
  go_enter Tryd.func16, Tryd.ntmps16
  go_upto_region 1 with (fail)
  generalize (w.alloc (.cells ((lims m).map nv).toArray 24)).alloc (.cells #[.int .u64 0, .int .u64 0, .int .u64 0, .int .u64 0] 24) = wv at *
  go_wp2_with (first
    | (with_reducible refine wpList_load_n rfl 24 (.tmp 1) rfl w.heap.size rfl (lims m) 4 hA rfl Tryd.underlying24 Tryd.infoFe ?_)
    | (go_at_call 12
       with_reducible refine (SB.out _ L1).mono ?_
       rintro e w3 ⟨rfl, hb3⟩
       have hC3 := hC.keep hb3 hC.lt
       have b3 := hb.trans (hb3.mono hb.size))
    | (with_reducible refine wpList_store_n rfl 24 (.tmp 2) (.tmp 5) rfl (w.heap.size + 1) (lims v) 4 rfl rfl rfl (lims 0) hC3 Tryd.infoFe rfl w.heap.size w b3 (by omega) ?_; intro w7 Hg _ _ hb7)
    | fail)
  exact bodyPost_ret (results_cell_row rfl _ _ _ _ _ _ _ rfl Hg Tryd.underlying24 rfl (by rw [Tryd.infoFe]; rfl)) rfl ⟨rfl, hb7⟩

/-- A number's square's square, and so on, as the program leaves it. -/
def sqd (m n : Nat) : Nat := if n = 0 then m else (fpow (toF m) (2 ^ n)).val
theorem toF_sqd (m n : Nat) : toF (sqd m n) = fpow (toF m) (2 ^ n) := by
  unfold sqd
  by_cases h : n = 0
  · rw [if_pos h, h, Nat.pow_zero, fpow_one]
  · rw [if_neg h, toF_of]
theorem sqd_lt {m : Nat} (hm : m < big) (n : Nat) : sqd m n < big := by
  unfold sqd
  split
  · exact hm
  · exact F.lt_big _
theorem sqd_zero (m : Nat) : sqd m 0 = m := rfl
theorem sqd_succ (m n : Nat) : (toF (sqd m n) * toF (sqd m n)).val = sqd m (n + 1) := by
  rw [toF_sqd, ← fpow_add, show 2 ^ n + 2 ^ n = 2 ^ (n + 1) by rw [Nat.pow_succ]; omega]
  rfl
theorem sqd_pos (m : Nat) {n : Nat} (h : 0 < n) : sqd m n = (fpow (toF m) (2 ^ n)).val := by
  unfold sqd; rw [if_neg (by omega)]

set_option maxRecDepth 100000 in
set_option maxHeartbeats 1000000 in
theorem squared_any (m n : Nat) (w : World) (hm : m < big) (hn : n < 1000000) :
    Calls Tryd.prog 43 #[fev m, .int .i64 (n : Int)] w (GaveF w (sqd m n)) := by
  obtain ⟨hA, hC, hb, hsz⟩ := fe_start2 w m 0 _ #[.int .u64 0, .int .u64 0, .int .u64 0, .int .u64 0] rfl (by kernel_rfl)
  have ML : Hid (∀ k W, Calls Tryd.prog 14 #[.agg ((lims (sqd m k)).map nv).toArray, .agg ((lims (sqd m k)).map nv).toArray] W fun e w' => e = .returned (.agg ((lims (sqd m (k + 1))).map nv).toArray) ∧ Below W.heap.size W w') := Lib.hid fun k W => by
    rw [← sqd_succ]; exact Mul_any (sqd m k) (sqd m k) W (sqd_lt hm k) (sqd_lt hm k)
  have S0 : Hid (sqd m 0 = m) := Lib.hid (sqd_zero m)
  rw [fev_eq]
  clear hm
  go_enter Tryd.func43, Tryd.ntmps43
  go_upto_region 1 with (fail)
  generalize (w.alloc (.cells ((lims m).map nv).toArray 24)).alloc (.cells #[.int .u64 0, .int .u64 0, .int .u64 0, .int .u64 0] 24) = wv at *
  rw [← S0.out] at hA
  go_wp2
  go_loopw [6] (fun vi wr => ∃ k : Nat, k ≤ n ∧ vi = .int .i64 (k : Int) ∧ HoldsN wr 24 w.heap.size (lims (sqd m k)) ∧ HoldsN wr 24 (w.heap.size + 1) (lims 0) ∧ Below w.heap.size w wr)
    (fun vi _ => n - (intOf vi).toNat)
  case atStart => exact ⟨0, Nat.zero_le _, rfl, hA, hC, hb⟩
  case round =>
    clear hA hC hb
    obtain ⟨k, hk, rfl, hA, hC, hb⟩ := hrel
    by_cases hlt : k < n
    · have hlt2 : (k : Int) < n := by omega
      have MLk := Lib.hid (ML.out k)
      generalize sqd m k = x at *
      generalize hy : sqd m (k + 1) = y at *
      have HY := Lib.hid hy
      clear hy
      go_wp2_with (first
        | (with_reducible refine wpList_load_n rfl 24 (.tmp 2) rfl w.heap.size rfl (lims x) 4 hA rfl Tryd.underlying24 Tryd.infoFe ?_)
        | (go_at_call 14
           with_reducible refine (MLk.out _).mono ?_
           rintro e w3 ⟨rfl, hb3⟩
           have hA3 := hA.keep hb3 hA.lt
           have hC3 := hC.keep hb3 hC.lt
           have b3 := hb.trans (hb3.mono hb.size))
        | (with_reducible refine wpList_store_n rfl 24 (.tmp 2) (.tmp 10) rfl w.heap.size (lims y) 4 rfl rfl rfl (lims x) hA3 Tryd.infoFe rfl w.heap.size w b3 (Nat.le_refl _) ?_
           intro w4 hA4 o4 s4 b4
           have hC4 := hC3.oth o4 (by omega))
        | fail)
      go_roundw
      case rel => exact ⟨k + 1, by omega, by go_num, by rw [HY.out]; exact hA4, hC4, b4⟩
      case measure => simp [intOf]; omega
    · obtain rfl : k = n := by omega
      generalize sqd m k = x at *
      go_wp2_with (first
        | (with_reducible refine wpList_load_n rfl 24 (.tmp 2) rfl w.heap.size rfl (lims x) 4 hA rfl Tryd.underlying24 Tryd.infoFe ?_)
        | (with_reducible refine wpList_store_n rfl 24 (.tmp 4) (.tmp 12) rfl (w.heap.size + 1) (lims x) 4 rfl rfl rfl (lims 0) hC Tryd.infoFe rfl w.heap.size w hb (by omega) ?_; intro w7 Hg _ _ hb7)
        | fail)
      exact bodyPost_ret (results_cell_row rfl _ _ _ _ _ _ _ rfl Hg Tryd.underlying24 rfl (by rw [Tryd.infoFe]; rfl)) rfl ⟨rfl, hb7⟩
end Go.Proofs.YtcidbiceeinglaaDoor
