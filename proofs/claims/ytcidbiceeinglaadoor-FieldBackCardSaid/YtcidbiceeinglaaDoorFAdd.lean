/-
  The program's numbers modulo P: sums.
-/
import Derived.Test.YtcidbiceeinglaaDoorFPlus
namespace Go.Proofs.YtcidbiceeinglaaDoor
open Go.RowKit

/-- A number that stands in four limbs, and how often 2^256 goes into it. -/
theorem toF_split (s : Nat) : toF (s % big + s / big * big) = toF s := by rw [Nat.mul_comm, Nat.mod_add_div]
theorem below_of (s : Nat) (c : Nat) (hs : s / big = c) (hc : c ≤ 144115188075855872) (w : World) :
    Calls Tryd.prog 33 #[.agg ((lims s).map nv).toArray, .int .u64 (c : Int)] w fun e w' => e = .returned (.agg ((lims (toF s).val).map nv).toArray) ∧ Below w.heap.size w w' := by
  have h := below_any (s % big) c w (Nat.mod_lt _ (by decide)) hc
  rw [← hs, toF_split, fev_eq, ← lims_mod, hs] at h
  exact h
theorem sum_big {m n : Nat} (hm : m < big) (hn : n < big) : (m + n) / big = cy 1 m n 0 4 ∧ cy 1 m n 0 4 ≤ 1 := by
  refine ⟨?_, cy_bit (by omega) 4⟩
  rw [cy_whole (by rw [big_pow]; exact hm) (by rw [big_pow]; exact hn), big_pow, Nat.one_mul, Nat.add_zero]

set_option maxRecDepth 100000 in
set_option maxHeartbeats 1000000 in
theorem Add_any (m n : Nat) (w : World) (hm : m < big) (hn : n < big) :
    Calls Tryd.prog 10 #[fev m, fev n] w (GaveF w (toF m + toF n).val) := by
  obtain ⟨hA, hB, hC, hb, hsz⟩ := fe_start3 w m n 0 _ _ #[.int .u64 0, .int .u64 0, .int .u64 0, .int .u64 0] rfl rfl (by kernel_rfl)
  have LS : Hid (∀ k, (limb m k + limb n k + cy 1 m n 0 k) % 18446744073709551616 = limb (m + n) k ∧ (limb m k + limb n k + cy 1 m n 0 k) / 18446744073709551616 = cy 1 m n 0 (k + 1)) := Lib.hid fun k => lin_add m n k
  have hstart := Lib.hid (cy_zero 1 m n 0)
  have hbit : Hid (∀ k, cy 1 m n 0 k ≤ 1) := Lib.hid fun k => cy_bit (by omega) k
  obtain ⟨h4, h41⟩ := sum_big hm hn
  have BL : Hid (∀ W, Calls Tryd.prog 33 #[.agg ((lims (m + n)).map nv).toArray, .int .u64 (cy 1 m n 0 4 : Int)] W fun e w' => e = .returned (.agg ((lims (toF m + toF n).val).map nv).toArray) ∧ Below W.heap.size W w') := Lib.hid fun W => by rw [← toF_add]; exact below_of _ _ h4 (by omega) W
  clear h4 h41 hm hn
  generalize m + n = s at *
  generalize (toF m + toF n).val = v at *
  rw [fev_eq, fev_eq]
  go_enter Tryd.func10, Tryd.ntmps10
  go_wp2
  go_loopw [5, 6, 7] (fun vc _ vi wr => ∃ k : Nat, k ≤ 4 ∧ vi = .int .i64 (k : Int) ∧ vc = .int .u64 (cy 1 m n 0 k : Int) ∧ HoldsN wr 24 w.heap.size (mixL 4 s m k) ∧ HoldsN wr 24 (w.heap.size + 1) (lims n) ∧ HoldsN wr 24 (w.heap.size + 2) (lims 0) ∧ Below w.heap.size w wr)
    (fun _ _ vi _ => 4 - (intOf vi).toNat)
  case atStart => exact ⟨0, Nat.zero_le _, rfl, by rw [hstart.out]; rfl, hA, hB, hC, hb⟩
  case round =>
    clear hA hB hC hb
    obtain ⟨k, hk, rfl, rfl, hA, hB, hC, hb⟩ := hrel
    by_cases hlt : k < 4
    · have hj2 : (k : Int) < 4 := by omega
      have ca := hA.cell (j := k) (by rw [mixL_length]; exact hlt)
      have cb := hB.cell (j := k) (by rw [lims_length]; exact hlt)
      rw [mixL_get hlt, if_neg (Nat.lt_irrefl k)] at ca
      rw [lims_get _ hlt] at cb
      have hf := hA.frozen k
      have hL := Lib.hid (mixL_set (S := s) (M := m) hlt)
      have AD : ∀ W, (callFunc 32 #[.int .u64 (limb m k : Int), .int .u64 (limb n k : Int), .int .u64 (cy 1 m n 0 k : Int)]).run Tryd.prog W = .ok (.value (.tuple #[.int .u64 (limb s k : Int), .int .u64 (cy 1 m n 0 (k + 1) : Int)])) W := fun W => by
        have := run_Add64 (limb m k) (limb n k) (cy 1 m n 0 k) (hbit.out k) W
        rw [(LS.out k).1, (LS.out k).2] at this
        exact this
      generalize limb s k = x at *
      generalize limb m k = y at *
      generalize limb n k = z at *
      generalize cy 1 m n 0 k = c at *
      generalize hc' : cy 1 m n 0 (k + 1) = c' at *
      have HC := Lib.hid hc'
      clear hc'
      go_wp2
      go_region
      go_wp2
      go_roundw
      case rel => exact ⟨k + 1, by omega, by go_num, by rw [HC.out], by rw [← hL.out]; exact (hA.drewN _).set k x, (hB.drewN _).setOther _ _ (by simp), (hC.drewN _).setOther _ _ (by simp), (below_drewN hb _).setCell (Nat.le_refl _) _⟩
      case measure => simp [intOf]; omega
    · rw [show (k : Int) = 4 by omega]
      obtain rfl : k = 4 := by omega
      rw [lims_mix4] at hA
      clear hB
      generalize cy 1 m n 0 4 = c at *
      go_wp2_with (first
        | (with_reducible refine wpList_load_n rfl 24 (.tmp 2) rfl w.heap.size rfl (lims s) 4 hA rfl Tryd.underlying24 Tryd.infoFe ?_)
        | (go_at_call 33
           with_reducible refine (BL.out _).mono ?_
           rintro e w3 ⟨rfl, hb3⟩
           have hC3 := hC.keep hb3 hC.lt
           have b3 := hb.trans (hb3.mono hb.size))
        | (with_reducible refine wpList_store_n rfl 24 (.tmp 4) (.tmp 26) rfl (w.heap.size + 2) (lims v) 4 rfl rfl rfl (lims 0) hC3 Tryd.infoFe rfl w.heap.size w b3 (by omega) ?_; intro w7 Hg _ _ hb7))
      exact bodyPost_ret (results_cell_row rfl _ _ _ _ _ _ _ rfl Hg Tryd.underlying24 rfl (by rw [Tryd.infoFe]; rfl)) rfl ⟨rfl, hb7⟩
end Go.Proofs.YtcidbiceeinglaaDoor
