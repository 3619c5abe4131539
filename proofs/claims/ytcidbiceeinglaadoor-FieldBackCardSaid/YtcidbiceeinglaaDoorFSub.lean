/-
  The program's numbers modulo P: differences; what is below 0. The program's two variables.
-/
import Derived.Test.YtcidbiceeinglaaDoorFAdd
namespace Go.Proofs.YtcidbiceeinglaaDoor
open Go.RowKit

/-- P four times, less 2^256; a root of -1. -/
def FP4 : Nat := 115792089237316195423570985008687907853269984665640564039457584007913129639860
def RM : Nat := 19681161376707505956807079304988542015446066515923890162744021073123829784752

/-- The program's variables hold what its text lays in them. -/
def Laid (W : World) : Prop := (∀ j, j < 4 → W.cell? ⟨0, j, none⟩ = some (.int .u64 (limb FP4 j : Int))) ∧ (∀ j, j < 4 → W.cell? ⟨1, j, none⟩ = some (.int .u64 (limb RM j : Int)))
theorem Laid.size {W : World} (h : Laid W) : 2 ≤ W.heap.size := by
  have h1 := World.block_lt_of_cell? _ _ (h.1 0 (by omega))
  have h2 := World.block_lt_of_cell? _ _ (h.2 0 (by omega))
  simp only at h1 h2
  omega
theorem Laid.keep {W W' : World} (h : Laid W) {D : Nat} (hb : Below D W W') (hD : 2 ≤ D) : Laid W' :=
  ⟨fun j hj => by rw [hb.cell (show 0 < D by omega)]; exact h.1 j hj, fun j hj => by rw [hb.cell (show 1 < D by omega)]; exact h.2 j hj⟩

def dif (n : Nat) : Nat := FP4 + big - n
theorem toF_dif {n : Nat} (m : Nat) (hn : n < big) : toF (m + dif n) = toF m - toF n := by
  have h : dif n + n = FP4 + big := by unfold dif FP4; omega
  have h1 : toF (dif n) + toF n = 0 := by
    rw [← toF_add, h, toF_zero]
    exact ⟨4, by decide⟩
  rw [toF_add]
  generalize toF (dif n) = x at *
  generalize toF n = y at *
  generalize toF m = z at *
  grind
theorem dif_big {m n : Nat} (hm : m < big) (hn : n < big) : (m + dif n) / big = 1 - bw FP4 n 4 + cy 1 m (dif n) 0 4 ∧ bw FP4 n 4 ≤ 1 ∧ cy 1 m (dif n) 0 4 ≤ 1 := by
  refine ⟨?_, bw_bit _ _ _, cy_bit (by omega) 4⟩
  have hb : FP4 < big := by decide
  unfold bw cy
  rw [big_pow, Nat.mod_eq_of_lt hb, Nat.mod_eq_of_lt hn, Nat.mod_eq_of_lt hm]
  unfold dif at *
  unfold big at *
  split <;> omega

set_option maxRecDepth 100000 in
set_option maxHeartbeats 1000000 in
theorem Sub_any (m n : Nat) (w : World) (hm : m < big) (hn : n < big) (L0 : Laid w) :
    Calls Tryd.prog 12 #[fev m, fev n] w (GaveF w (toF m - toF n).val) := by
  obtain ⟨hA, hB, hC, hb, hsz⟩ := fe_start3 w m n 0 _ _ #[.int .u64 0, .int .u64 0, .int .u64 0, .int .u64 0] rfl rfl (by kernel_rfl)
  have LD : Hid (∀ k, k < 4 → (limb FP4 k + 18446744073709551616 - limb n k - bw FP4 n k) % 18446744073709551616 = limb (dif n) k ∧ (if limb FP4 k < limb n k + bw FP4 n k then 1 else 0) = bw FP4 n (k + 1)) := Lib.hid fun k hk => ⟨(dif_limb hn hk).symm, (bw_succ FP4 n k).symm⟩
  have hsz0 := L0.size
  have hbw : Hid (∀ k, bw FP4 n k ≤ 1) := Lib.hid fun k => bw_bit _ _ _
  have hbw0 : Hid (bw FP4 n 0 = 0) := Lib.hid (by unfold bw; rw [Nat.pow_zero, Nat.mod_one, Nat.mod_one]; rfl)
  obtain ⟨h4, h41, h42⟩ := dif_big hm hn
  have hd := toF_dif m hn
  generalize dif n = d at *
  have LS : Hid (∀ k, (limb m k + limb d k + cy 1 m d 0 k) % 18446744073709551616 = limb (m + d) k ∧ (limb m k + limb d k + cy 1 m d 0 k) / 18446744073709551616 = cy 1 m d 0 (k + 1)) := Lib.hid fun k => lin_add m d k
  have hstart := Lib.hid (cy_zero 1 m d 0)
  have hbit : Hid (∀ k, cy 1 m d 0 k ≤ 1) := Lib.hid fun k => cy_bit (by omega) k
  have BL : Hid (∀ W, Calls Tryd.prog 33 #[.agg ((lims (m + d)).map nv).toArray, .int .u64 ((1 - bw FP4 n 4 + cy 1 m d 0 4 : Nat) : Int)] W fun e w' => e = .returned (.agg ((lims (toF m - toF n).val).map nv).toArray) ∧ Below W.heap.size W w') := Lib.hid fun W => by rw [← hd]; exact below_of _ _ h4 (by omega) W
  have w4 : IntKind.u64.wrap (IntKind.u64.wrap (1 - (bw FP4 n 4 : Int)) + (cy 1 m d 0 4 : Int)) = ((1 - bw FP4 n 4 + cy 1 m d 0 4 : Nat) : Int) := by rw [IntKind.wrap_u64, IntKind.wrap_u64]; omega
  have W4 := Lib.hid w4
  clear h4 h41 h42 hd hm hn w4
  generalize m + d = s at *
  generalize (toF m - toF n).val = v at *
  rw [fev_eq, fev_eq]
  go_enter Tryd.func12, Tryd.ntmps12
  go_wp2
  go_loopw [5, 6, 7, 8] (fun vb vc _ vi wr => ∃ k : Nat, k ≤ 4 ∧ vi = .int .i64 (k : Int) ∧ vb = .int .u64 (bw FP4 n k : Int) ∧ vc = .int .u64 (cy 1 m d 0 k : Int) ∧ HoldsN wr 24 w.heap.size (mixL 4 s m k) ∧ HoldsN wr 24 (w.heap.size + 1) (mixL 4 d n k) ∧ HoldsN wr 24 (w.heap.size + 2) (lims 0) ∧ Below w.heap.size w wr)
    (fun _ _ _ vi _ => 4 - (intOf vi).toNat)
  case atStart => exact ⟨0, Nat.zero_le _, rfl, by rw [hbw0.out]; rfl, by rw [hstart.out]; rfl, hA, hB, hC, hb⟩
  case round =>
    clear hA hB hC hb
    obtain ⟨k, hk, rfl, rfl, rfl, hA, hB, hC, hb⟩ := hrel
    by_cases hlt : k < 4
    · have hj2 : (k : Int) < 4 := by omega
      have ca := hA.cell (j := k) (by rw [mixL_length]; exact hlt)
      have cb := hB.cell (j := k) (by rw [mixL_length]; exact hlt)
      rw [mixL_get hlt, if_neg (Nat.lt_irrefl k)] at ca cb
      have cp := (L0.keep hb hsz0).1 k hlt
      have hf := hA.frozen k
      have hg := hB.frozen k
      have hL := Lib.hid (mixL_set (S := s) (M := m) hlt)
      have hL2 := Lib.hid (mixL_set (S := d) (M := n) hlt)
      have AD : ∀ W, (callFunc 32 #[.int .u64 (limb m k : Int), .int .u64 (limb d k : Int), .int .u64 (cy 1 m d 0 k : Int)]).run Tryd.prog W = .ok (.value (.tuple #[.int .u64 (limb s k : Int), .int .u64 (cy 1 m d 0 (k + 1) : Int)])) W := fun W => by
        have := run_Add64 (limb m k) (limb d k) (cy 1 m d 0 k) (hbit.out k) W
        rw [(LS.out k).1, (LS.out k).2] at this
        exact this
      have SB : ∀ W, (callFunc 35 #[.int .u64 (limb FP4 k : Int), .int .u64 (limb n k : Int), .int .u64 (bw FP4 n k : Int)]).run Tryd.prog W = .ok (.value (.tuple #[.int .u64 (limb d k : Int), .int .u64 (bw FP4 n (k + 1) : Int)])) W := fun W => by
        have := run_Sub64 (limb FP4 k) (limb n k) (bw FP4 n k) (hbw.out k) W
        rw [(LD.out k hlt).1, (LD.out k hlt).2] at this
        exact this
      generalize limb s k = x at *
      generalize limb m k = y at *
      generalize limb n k = z at *
      generalize limb FP4 k = p at *
      generalize limb d k = q at *
      generalize cy 1 m d 0 k = c at *
      generalize hc' : cy 1 m d 0 (k + 1) = c' at *
      have HC := Lib.hid hc'
      clear hc'
      generalize bw FP4 n k = b at *
      generalize hb' : bw FP4 n (k + 1) = b' at *
      have HB := Lib.hid hb'
      clear hb'
      go_wp2
      go_region
      go_wp2
      go_region
      go_wp2
      go_roundw
      case rel => exact ⟨k + 1, by omega, by go_num, by rw [HB.out], by rw [HC.out], by rw [← hL.out]; exact (((hA.drewN _).setOther _ _ (by simp)).drewN _).set k x, by rw [← hL2.out]; exact (((hB.drewN _).set k q).drewN _).setOther _ _ (by simp), (((hC.drewN _).setOther _ _ (by simp)).drewN _).setOther _ _ (by simp), (below_drewN ((below_drewN hb _).setCell (p := ⟨w.heap.size + 1, k, none⟩) (Nat.le_succ _) _) _).setCell (p := ⟨w.heap.size, k, none⟩) (Nat.le_refl _) _⟩
      case measure => simp [intOf]; omega
    · rw [show (k : Int) = 4 by omega]
      obtain rfl : k = 4 := by omega
      rw [lims_mix4] at hA
      clear hB
      generalize bw FP4 n 4 = b at *
      generalize cy 1 m d 0 4 = c at *
      generalize (1 - b + c) = bc at *
      have w4 := W4.out
      go_wp2_with (first
        | (with_reducible refine wpList_load_n rfl 24 (.tmp 2) rfl w.heap.size rfl (lims s) 4 hA rfl Tryd.underlying24 Tryd.infoFe ?_)
        | (go_at_call 33
           with_reducible refine (BL.out _).mono ?_
           rintro e w3 ⟨rfl, hb3⟩
           have hC3 := hC.keep hb3 hC.lt
           have b3 := hb.trans (hb3.mono hb.size))
        | (with_reducible refine wpList_store_n rfl 24 (.tmp 4) (.tmp 43) rfl (w.heap.size + 2) (lims v) 4 rfl rfl rfl (lims 0) hC3 Tryd.infoFe rfl w.heap.size w b3 (by omega) ?_; intro w7 Hg _ _ hb7))
      exact bodyPost_ret (results_cell_row rfl _ _ _ _ _ _ _ rfl Hg Tryd.underlying24 rfl (by rw [Tryd.infoFe]; rfl)) rfl ⟨rfl, hb7⟩
end Go.Proofs.YtcidbiceeinglaaDoor
