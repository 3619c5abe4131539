/-
  The program's numbers modulo L: differences and sums modulo 2^256; so many times what L is over 2^252.
-/
import Derived.Test.YthhcjknkmdaeeaaDoorSOps
import Derived.Test.YthhcjknkmdaeeaaDoorSRefN
import Derived.Deep.DeepCutAuto
namespace Go.Proofs.YthhcjknkmdaeeaaDoor
open Go.RowKit
namespace Sca

theorem results_cell_slot {P : Program} {fn : Func} {p q : Tmp} {ty : TypeId} (h : fn.results = #[.cell p ty, .tmp q]) (tmps : Array Value) (w : World) (g : Nat) (t : TypeId) (cs : Array Value) (fr : Nat × Nat) (d : TypeDesc)
    (hp : tmps.getD p undef = .pointer (some ⟨g, 0, none⟩)) (hg : w.heap[g]? = some (.cells cs t fr))
    (hu : P.underlying ty = some d) (hd : (match d with | .struct _ | .array _ _ => true | _ => false) = true) (hi : (P.info? ty).map (·.size) = some cs.size) :
    (results fn tmps).run P w = .ok (.tuple #[.agg cs, tmps.getD q undef]) w := by
  have hp' : tmps[p]?.getD undef = .pointer (some ⟨g, 0, none⟩) := by simpa using hp
  simp [results, h, hp', asAddr, run_loadVar_row w g t ty cs fr d hg hu hd hi]

set_option maxRecDepth 100000 in
set_option maxHeartbeats 1000000 in
theorem plus_any (m n : Nat) (w : World) :
    Calls Tryd.prog 36 #[fev m, fev n] w (GaveF w (m + n)) := by
  obtain ⟨hA, hB, hC, hb, hsz⟩ := sc_start3 w m n 0 _ _ #[.int .u64 0, .int .u64 0, .int .u64 0, .int .u64 0] rfl rfl (by kernel_rfl)
  have LS : Hid (∀ k, (limb m k + limb n k + cy 1 m n 0 k) % 18446744073709551616 = limb (m + n) k ∧ (limb m k + limb n k + cy 1 m n 0 k) / 18446744073709551616 = cy 1 m n 0 (k + 1)) := Lib.hid fun k => lin_add m n k
  have hstart := Lib.hid (cy_zero 1 m n 0)
  have hbit : Hid (∀ k, cy 1 m n 0 k ≤ 1) := Lib.hid fun k => cy_bit (by omega) k
  generalize m + n = s at *
  rw [fev_eq, fev_eq]
  go_enter Tryd.func36, Tryd.ntmps36
  go_wp2
  go_loopw [5, 6, 7] (fun vc _ vi wr => ∃ k : Nat, k ≤ 4 ∧ vi = .int .i64 (k : Int) ∧ vc = .int .u64 (cy 1 m n 0 k : Int) ∧ HoldsN wr 24 w.heap.size (mixL 4 s m k) ∧ HoldsN wr 24 (w.heap.size + 1) (lims n) ∧ HoldsN wr 24 (w.heap.size + 2) (lims 0) ∧ Below w.heap.size w wr)
    (fun _ _ vi _ => 4 - (intOf vi).toNat)
  case atStart => exact ⟨0, Nat.zero_le _, rfl, by rw [hstart.out]; rfl, hA, hB, hC, hb⟩
  case round =>
    clear hA hB hC hb
    obtain ⟨k, hk, rfl, rfl, hA, hB, hC, hb⟩ := hrel
    by_cases hlt : k < 4
    · have hj2 : (k : Int) < 4 := by omega
      have ca := hA.cell (j := k) (by rw [mixL_length]; exact hlt)
      have cb := hB.cell (j := k) (by rw [lims_length]; exact hlt)
      rw [mixL_get hlt, if_neg (Nat.lt_irrefl k)] at ca
      rw [lims_get _ hlt] at cb
      have hf := hA.frozen k
      have hL := Lib.hid (mixL_set (S := s) (M := m) hlt)
      have AD : ∀ W, (callFunc 23 #[.int .u64 (limb m k : Int), .int .u64 (limb n k : Int), .int .u64 (cy 1 m n 0 k : Int)]).run Tryd.prog W = .ok (.value (.tuple #[.int .u64 (limb s k : Int), .int .u64 (cy 1 m n 0 (k + 1) : Int)])) W := fun W => by
        have := run_Add64 (limb m k) (limb n k) (cy 1 m n 0 k) (hbit.out k) W
        rw [(LS.out k).1, (LS.out k).2] at this
        exact this
      generalize limb s k = x at *
      generalize limb m k = y at *
      generalize limb n k = z at *
      generalize cy 1 m n 0 k = c at *
      generalize hc' : cy 1 m n 0 (k + 1) = c' at *
      have HC := Lib.hid hc'
      clear hc'
      go_wp2
      go_region
      go_wp2
      go_roundw
      case rel => exact ⟨k + 1, by omega, by go_num, by rw [HC.out], by rw [← hL.out]; exact (hA.drewN _).set k x, (hB.drewN _).setOther _ _ (by simp), (hC.drewN _).setOther _ _ (by simp), (below_drewN hb _).setCell (Nat.le_refl _) _⟩
      case measure => simp [intOf]; omega
    · rw [show (k : Int) = 4 by omega]
      obtain rfl : k = 4 := by omega
      rw [lims_mix4] at hA
      clear hB
      generalize cy 1 m n 0 4 = c at *
      go_wp2_with (first
        | (with_reducible refine wpList_load_n rfl 24 (.tmp 2) rfl w.heap.size rfl (lims s) 4 hA rfl Tryd.underlying24 Tryd.infoSc ?_)
        | (with_reducible refine wpList_store_n rfl 24 (.tmp 4) (.tmp 24) rfl (w.heap.size + 2) (lims s) 4 rfl rfl rfl (lims 0) hC Tryd.infoSc rfl w.heap.size w hb (by omega) ?_; intro w7 Hg _ _ hb7))
      exact bodyPost_ret (results_cell_row rfl _ _ _ _ _ _ _ rfl Hg Tryd.underlying24 rfl (by rw [Tryd.infoSc]; rfl)) rfl ⟨rfl, hb7⟩

set_option maxRecDepth 100000 in
set_option maxHeartbeats 1000000 in
theorem less_any (m n : Nat) (w : World) (hm : m < big) (hn : n < big) :
    Calls Tryd.prog 27 #[fev m, fev n] w fun e w' => e = .returned (.tuple #[fev (m + big - n), .bool (decide (m < n))]) ∧ Below w.heap.size w w' := by
  obtain ⟨hA, hB, hC, hb, hsz⟩ := sc_start3 w m n 0 _ _ #[.int .u64 0, .int .u64 0, .int .u64 0, .int .u64 0] rfl rfl (by kernel_rfl)
  have LD : Hid (∀ k, k < 4 → (limb m k + 18446744073709551616 - limb n k - bw m n k) % 18446744073709551616 = limb (m + big - n) k ∧ (if limb m k < limb n k + bw m n k then 1 else 0) = bw m n (k + 1)) := Lib.hid fun k hk => ⟨(dif_limb hn hk).symm, (bw_succ m n k).symm⟩
  have hbw : Hid (∀ k, bw m n k ≤ 1) := Lib.hid fun k => bw_bit _ _ _
  have hbw0 : Hid (bw m n 0 = 0) := Lib.hid (by unfold bw; rw [Nat.pow_zero, Nat.mod_one, Nat.mod_one]; rfl)
  have hend : Hid (((bw m n 4 : Nat) : Int) = if m < n then 1 else 0) := Lib.hid (by
    unfold bw
    rw [big_pow, Nat.mod_eq_of_lt hm, Nat.mod_eq_of_lt hn]
    split <;> rfl)
  generalize hbl : decide (m < n) = bl
  have hend2 : Hid ((((bw m n 4 : Nat) : Int) == 1) = bl) := Lib.hid (by
    rw [hend.out, ← hbl]
    by_cases h : m < n
    · rw [if_pos h, decide_eq_true h]; rfl
    · rw [if_neg h, decide_eq_false h]; rfl)
  clear hend hbl hm hn
  generalize m + big - n = d at *
  rw [fev_eq, fev_eq, fev_eq]
  go_enter Tryd.func27, Tryd.ntmps27
  go_wp2
  go_loopw [6, 7, 8] (fun vb _ vi wr => ∃ k : Nat, k ≤ 4 ∧ vi = .int .i64 (k : Int) ∧ vb = .int .u64 (bw m n k : Int) ∧ HoldsN wr 24 w.heap.size (mixL 4 d m k) ∧ HoldsN wr 24 (w.heap.size + 1) (lims n) ∧ HoldsN wr 24 (w.heap.size + 2) (lims 0) ∧ Below w.heap.size w wr)
    (fun _ _ vi _ => 4 - (intOf vi).toNat)
  case atStart => exact ⟨0, Nat.zero_le _, rfl, by rw [hbw0.out]; rfl, hA, hB, hC, hb⟩
  case round =>
    clear hA hB hC hb
    obtain ⟨k, hk, rfl, rfl, hA, hB, hC, hb⟩ := hrel
    by_cases hlt : k < 4
    · have hj2 : (k : Int) < 4 := by omega
      have ca := hA.cell (j := k) (by rw [mixL_length]; exact hlt)
      have cb := hB.cell (j := k) (by rw [lims_length]; exact hlt)
      rw [mixL_get hlt, if_neg (Nat.lt_irrefl k)] at ca
      rw [lims_get _ hlt] at cb
      have hf := hA.frozen k
      have hL := Lib.hid (mixL_set (S := d) (M := m) hlt)
      have SB : ∀ W, (callFunc 33 #[.int .u64 (limb m k : Int), .int .u64 (limb n k : Int), .int .u64 (bw m n k : Int)]).run Tryd.prog W = .ok (.value (.tuple #[.int .u64 (limb d k : Int), .int .u64 (bw m n (k + 1) : Int)])) W := fun W => by
        have := run_Sub64 (limb m k) (limb n k) (bw m n k) (hbw.out k) W
        rw [(LD.out k hlt).1, (LD.out k hlt).2] at this
        exact this
      generalize limb d k = x at *
      generalize limb m k = y at *
      generalize limb n k = z at *
      clear hend2
      generalize bw m n k = c at *
      generalize hc' : bw m n (k + 1) = c' at *
      have HC := Lib.hid hc'
      clear hc'
      go_wp2
      go_region
      go_wp2
      go_roundw
      case rel => exact ⟨k + 1, by omega, by go_num, by rw [HC.out], by rw [← hL.out]; exact (hA.drewN _).set k x, (hB.drewN _).setOther _ _ (by simp), (hC.drewN _).setOther _ _ (by simp), (below_drewN hb _).setCell (Nat.le_refl _) _⟩
      case measure => simp [intOf]; omega
    · rw [show (k : Int) = 4 by omega]
      obtain rfl : k = 4 := by omega
      rw [lims_mix4] at hA
      clear hB
      generalize bw m n 4 = c at *
      have hE := hend2.out
      go_wp2_with (first
        | (with_reducible refine wpList_load_n rfl 24 (.tmp 2) rfl w.heap.size rfl (lims d) 4 hA rfl Tryd.underlying24 Tryd.infoSc ?_)
        | (with_reducible refine wpList_store_n rfl 24 (.tmp 4) (.tmp 25) rfl (w.heap.size + 2) (lims d) 4 rfl rfl rfl (lims 0) hC Tryd.infoSc rfl w.heap.size w hb (by omega) ?_; intro w7 Hg _ _ hb7))
      exact bodyPost_ret (results_cell_slot rfl _ _ _ _ _ _ _ rfl Hg Tryd.underlying24 rfl (by rw [Tryd.infoSc]; rfl)) rfl ⟨rfl, hb7⟩

/-- L, less 2^252. -/
def OV : Nat := 27742317777372353535851937790883648493
theorem ov_limbs (n : Nat) (hn : n < 18446744073709551616) :
    [n * 6346243789798364141 % 18446744073709551616, (n * 1503914060200516822 + n * 6346243789798364141 / 18446744073709551616) % 18446744073709551616, (n * 1503914060200516822 + n * 6346243789798364141 / 18446744073709551616) / 18446744073709551616, 0] = lims (n * OV) := by
  have e : n * OV = limbs (n * 6346243789798364141 % 18446744073709551616) ((n * 1503914060200516822 + n * 6346243789798364141 / 18446744073709551616) % 18446744073709551616) ((n * 1503914060200516822 + n * 6346243789798364141 / 18446744073709551616) / 18446744073709551616) 0 := by
    unfold limbs OV; omega
  rw [e, lims_limbs (Nat.mod_lt _ (by decide)) (Nat.mod_lt _ (by decide)) (by omega) (by decide)]

set_option maxRecDepth 100000 in
set_option maxHeartbeats 1000000 in
theorem overTimes_any (n : Nat) (w : World) (hn : n < 18446744073709551616) :
    Calls Tryd.prog 35 #[.int .u64 (n : Int)] w (GaveF w (n * OV)) := by
  obtain ⟨hC, hb, hsz⟩ := sc_start w 0 #[.int .u64 0, .int .u64 0, .int .u64 0, .int .u64 0] (by kernel_rfl)
  have hov := ov_limbs n hn
  obtain ⟨k, hk⟩ : ∃ k, k = n * 6346243789798364141 / 18446744073709551616 := ⟨_, rfl⟩
  obtain ⟨a, ha⟩ : ∃ a, a = n * 6346243789798364141 % 18446744073709551616 := ⟨_, rfl⟩
  rw [← ha, ← hk] at hov
  obtain ⟨b, hb1⟩ : ∃ b, b = (n * 1503914060200516822 + k) % 18446744073709551616 := ⟨_, rfl⟩
  obtain ⟨c, hc1⟩ : ∃ c, c = (n * 1503914060200516822 + k) / 18446744073709551616 := ⟨_, rfl⟩
  rw [← hb1, ← hc1] at hov
  have T1 := fun W => timesPlus_any n 6346243789798364141 0 0 hn (by decide) (by decide) (by decide) W
  simp only [Nat.add_zero] at T1
  rw [← ha, ← hk] at T1
  have T2 := fun W => timesPlus_any n 1503914060200516822 k 0 hn (by decide) (by omega) (by decide) W
  simp only [Nat.add_zero] at T2
  rw [← hb1, ← hc1] at T2
  clear ha hk hb1 hc1
  have H1 : Hid (∀ W, Calls Tryd.prog 26 #[.int .u64 (n : Int), .int .u64 6346243789798364141, .int .u64 0, .int .u64 0] W fun e w' => e = .returned (.tuple #[.int .u64 (a : Int), .int .u64 (k : Int)]) ∧ w' = W) := Lib.hid T1
  have H2 : Hid (∀ W, Calls Tryd.prog 26 #[.int .u64 (n : Int), .int .u64 1503914060200516822, .int .u64 (k : Int), .int .u64 0] W fun e w' => e = .returned (.tuple #[.int .u64 (b : Int), .int .u64 (c : Int)]) ∧ w' = W) := Lib.hid T2
  have HV : Hid (Value.agg #[.int .u64 (a : Int), .int .u64 (b : Int), .int .u64 (c : Int), .int .u64 0] = .agg ((lims (n * OV)).map nv).toArray) := Lib.hid (by rw [← hov]; rfl)
  clear T1 T2 hov hsz
  unfold GaveF
  rw [fev_eq]
  generalize n * OV = s at *
  go_enter Tryd.func35, Tryd.ntmps35
  go_wp2_with (first
    | (go_at_call 26
       with_reducible refine (H1.out _).mono ?_
       rintro e w2 ⟨rfl, rfl⟩)
    | (go_at_call 26
       with_reducible refine (H2.out _).mono ?_
       rintro e w2 ⟨rfl, rfl⟩)
    | (with_reducible refine wpList_store_n rfl 24 (.tmp 2) (.tmp 20) rfl w.heap.size (lims s) 4 rfl (by with_unfolding_all exact HV.out) rfl (lims 0) (by with_unfolding_all exact hC) Tryd.infoSc rfl w.heap.size w (by with_unfolding_all exact hb) (Nat.le_refl _) ?_; intro w7 Hg _ _ hb7)
    | fail)
  exact bodyPost_ret (results_cell_row rfl _ _ _ _ _ _ _ rfl Hg Tryd.underlying24 rfl (by rw [Tryd.infoSc]; rfl)) rfl ⟨rfl, hb7⟩
end Sca
end Go.Proofs.YthhcjknkmdaeeaaDoor
