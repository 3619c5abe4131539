/-
  The program's numbers modulo P: the number that bytes are; a number's bytes; a small number; which are one; which are odd.
-/
import Derived.Test.YtcidbiceeinglaaDoorFInv
import Derived.Test.YtcidbiceeinglaaDoorFRefK
namespace Go.Proofs.YtcidbiceeinglaaDoor
open Go.RowKit

theorem Tryd.plainU8 : Tryd.prog.plainKey 5 = true := by kernel_rfl
theorem Tryd.cellsU8 : Tryd.prog.cellsOf 5 = 1 := by kernel_rfl
theorem Tryd.infoU8 : (Tryd.prog.info? 5).map (fun i => (i.zero, i.size, i.bytes)) = some (some (.int .u8 0), 1, 1) := by kernel_rfl
theorem run_index_b (l : List UInt8) (k : Nat) (w : World) (hk : k < l.length) (hl : l.length = 32) : (Instr.index 25 (.agg (l.map bv).toArray) (.int .i64 (k : Int))).run Tryd.prog w = .ok (.int .u8 (l[k].toNat : Int)) w := by
  have h2 : k < 32 := by omega
  have h3 : l[k]? = some l[k] := List.getElem?_eq_getElem hk
  simp [Instr.index, run_underlying Tryd.underlying25, asIntOf, go_sem, h2, h3, bv]

set_option maxRecDepth 100000 in
set_option maxHeartbeats 1000000 in
theorem Of_any (l : List UInt8) (w : World) (hl : l.length = 32) :
    Calls Tryd.prog 18 #[.agg (l.map bv).toArray] w (GaveF w (toF (leNum l)).val) := by
  obtain ⟨hA, hC, hD, hb⟩ := of_start w l _ #[.int .u64 0, .int .u64 0, .int .u64 0, .int .u64 0] #[.int .u64 0, .int .u64 0, .int .u64 0, .int .u64 0] rfl (by kernel_rfl) (by kernel_rfl)
  have hl0 : lims 0 = lims (leNum (l.take 0)) := rfl
  have Hl := Lib.hid hl
  clear hl
  go_enter Tryd.func18, Tryd.ntmps18
  go_upto_region 2 with (fail)
  generalize ((w.alloc (.cells (l.map bv).toArray 25)).alloc (.cells #[.int .u64 0, .int .u64 0, .int .u64 0, .int .u64 0] 24)).alloc (.cells #[.int .u64 0, .int .u64 0, .int .u64 0, .int .u64 0] 24) = wv at *
  go_wp2_with (first
    | (with_reducible refine wpList_load_b rfl 25 (.tmp 1) rfl w.heap.size rfl l hA Hl.out Tryd.underlying25 Tryd.infoB32 ?_)
    | fail)
  rw [hl0] at hD
  clear hl0 hA
  go_loopw [7] (fun v wr => ∃ k : Nat, k ≤ 32 ∧ v = .int .i64 (k : Int) ∧ HoldsN wr 24 (w.heap.size + 1) (lims 0) ∧ HoldsN wr 24 (w.heap.size + 1 + 1) (lims (leNum (l.take k))) ∧ Below w.heap.size w wr)
    (fun v _ => 32 - (intOf v).toNat)
  case atStart => exact ⟨0, Nat.zero_le _, rfl, hC, hD, hb⟩
  case round =>
    clear hC hD hb
    obtain ⟨k, hk, rfl, hC, hO, hb⟩ := hrel
    by_cases hltk : k < 32
    · have hltk2 : (k : Int) < 32 := by omega
      have hkl : k < l.length := by rw [Hl.out]; exact hltk
      have ix := fun W => run_index_b l k W hkl Hl.out
      have cO := hO.cell (j := k / 8) (by rw [lims_length]; omega)
      rw [lims_get _ (by omega)] at cO
      have fO := hO.frozen (k / 8)
      have eq4 : (k : Int).tdiv 8 = ((k / 8 : Nat) : Int) := by rw [Int.tdiv_eq_ediv_of_nonneg (by omega)]; omega
      have em4 : (k : Int).tmod 8 = ((k % 8 : Nat) : Int) := by rw [Int.tmod_eq_emod_of_nonneg (by omega)]; omega
      have lq : ((k / 8 : Nat) : Int) < 4 := by omega
      have hr4 : k % 8 < 8 := by omega
      have hd : l[k].toNat < 256 := l[k].toNat_lt
      have hN : leNum (l.take k) < 256 ^ k := by
        have := leNum_lt (l.take k)
        rwa [List.length_take, Hl.out, Nat.min_eq_left hk] at this
      have hnx := Lib.hid (leNum_take l hkl)
      have hset := Lib.hid (lims_digit8 hN hd)
      have hor := Lib.hid (or_digit8 (limb_top8 hN).2 hd hr4)
      rw [hnx.out] at hset
      clear hN hnx
      generalize l[k].toNat = d at *
      generalize limb (leNum (l.take k)) (k / 8) = x at *
      generalize k / 8 = qq at *
      generalize k % 8 = rr at *
      have lr : (rr : Int) < 8 := by omega
      have wr1 : IntKind.i64.wrap (8 * (rr : Int)) = 8 * rr := by simp only [IntKind.wrap, IntKind.bits, IntKind.signed]; simp; omega
      have wr2 : IntKind.u64.wrap (8 * (rr : Int)) = 8 * rr := by rw [IntKind.wrap_u64]; omega
      have lr3 : 8 * (rr : Int) < 64 := by omega
      have hs : IntKind.u64.wrap (d : Int) = (d : Int) := by rw [IntKind.wrap_u64]; omega
      go_wp2
      go_region
      rw [hor.out]
      go_wp2
      go_roundw
      case rel => exact ⟨k + 1, by omega, by go_num, hC.setOther _ _ (by simp), by rw [← hset.out]; exact hO.set qq _, (hb.setCell (by simp; omega) _).drew⟩
      case measure => simp [intOf]; omega
    · rw [show (k : Int) = 32 by omega]
      obtain rfl : k = 32 := by omega
      rw [List.take_of_length_le (by rw [Hl.out]; omega)] at hO
      have LS : Hid (∀ W, Calls Tryd.prog 33 #[.agg ((lims (leNum l)).map nv).toArray, .int .u64 0] W fun e w' => e = .returned (.agg ((lims (toF (leNum l)).val).map nv).toArray) ∧ Below W.heap.size W w') := Lib.hid fun W => by
        have h := leNum_lt l
        rw [Hl.out] at h
        have h2 : leNum l < big := Nat.lt_of_lt_of_le h (by decide)
        have := below_any (leNum l) 0 W h2 (by omega)
        rw [Nat.zero_mul, Nat.add_zero] at this
        exact this
      generalize (toF (leNum l)).val = r at *
      generalize leNum l = n at *
      go_wp2_with (first
        | (with_reducible refine wpList_load_n rfl 24 (.tmp 3) rfl (w.heap.size + 1 + 1) rfl (lims n) 4 hO rfl Tryd.underlying24 Tryd.infoFe ?_)
        | (go_at_call 33
           with_reducible refine (LS.out _).mono ?_
           rintro e w3 ⟨rfl, hb3⟩
           have hC3 := hC.keep hb3 hC.lt
           have b3 := hb.trans (hb3.mono hb.size))
        | (with_reducible refine wpList_store_n rfl 24 (.tmp 2) (.tmp 25) rfl (w.heap.size + 1) (lims r) 4 rfl rfl rfl (lims 0) hC3 Tryd.infoFe rfl w.heap.size w b3 (by omega) ?_; intro w7 Hg _ _ hb7))
      exact bodyPost_ret (results_cell_row rfl _ _ _ _ _ _ _ rfl Hg Tryd.underlying24 rfl (by rw [Tryd.infoFe]; rfl)) rfl ⟨rfl, hb7⟩

set_option maxRecDepth 100000 in
set_option maxHeartbeats 1000000 in
theorem Bytes_any (m : Nat) (w : World) (hm : m < big) :
    Calls Tryd.prog 20 #[fev m] w fun e w' => e = .returned (.agg ((leBytes (toF m).val 32).map bv).toArray) ∧ Below w.heap.size w w' := by
  obtain ⟨hA, hC, hb⟩ := bytes_start w m _ zb rfl rfl
  obtain ⟨a, ha⟩ : ∃ a, a = (toF m).val := ⟨_, rfl⟩
  have LM : Hid (∀ W, Calls Tryd.prog 33 #[.agg ((lims m).map nv).toArray, .int .u64 0] W fun e w' => e = .returned (.agg ((lims a).map nv).toArray) ∧ Below W.heap.size W w') := Lib.hid fun W => by
    have := below_any m 0 W hm (by omega)
    rw [Nat.zero_mul, Nat.add_zero] at this
    rw [ha]; exact this
  rw [fev_eq, ← ha]
  clear ha
  go_enter Tryd.func20, Tryd.ntmps20
  go_wp2_with (first
    | (with_reducible refine wpList_load_n rfl 24 (.tmp 1) rfl w.heap.size rfl (lims m) 4 (by with_unfolding_all exact hA) rfl Tryd.underlying24 Tryd.infoFe ?_)
    | (go_at_call 33
       (with_reducible refine (LM.out _).mono ?_)
       rintro e w3 ⟨rfl, hb3⟩
       have hA3 := hA.keep hb3 hA.lt
       have hC3 := hC.keep hb3 hC.lt
       have b3 := hb.trans (hb3.mono hb.size))
    | (with_reducible refine wpList_store_n rfl 24 (.tmp 1) (.tmp 6) rfl w.heap.size (lims a) 4 rfl rfl rfl (lims m) hA3 Tryd.infoFe rfl w.heap.size w b3 (Nat.le_refl _) ?_
       intro w4 hA4 o4 s4 b4
       clear s4
       have hC4 := hC3.oth o4 (by omega)
       have l4 := hC4.lt
       have z5 : HoldsB (w4.alloc (.cells zb 25)) 25 w4.heap.size (List.replicate 32 0) := holdsB_new w4 _ _ _ _ rfl rfl
       have b5 := b4.alloc b4.size (.cells zb 25)
       have hA5 := hA4.alloc (.cells zb 25)
       have hC5 := hC4.alloc (.cells zb 25)))
  rw [← bytL_zero a] at z5
  clear hA hC hb hA3 hC3 b3 hb3 hA4 hC4 b4 o4
  go_loopw [4, 7] (fun _ v wr => ∃ k : Nat, k ≤ 32 ∧ v = .int .i64 (k : Int) ∧ HoldsN wr 24 w.heap.size (lims a) ∧ HoldsB wr 25 (w.heap.size + 1) (List.replicate 32 0) ∧ HoldsB wr 25 w4.heap.size (bytL a k) ∧ Below w.heap.size w wr)
    (fun _ v _ => 32 - (intOf v).toNat)
  case atStart => exact ⟨0, Nat.zero_le _, rfl, by with_unfolding_all exact hA5, by with_unfolding_all exact hC5, by with_unfolding_all exact z5, by with_unfolding_all exact b5⟩
  case round =>
    clear hA5 hC5 z5 b5
    obtain ⟨k, hk, rfl, hA, hC, hD, hb⟩ := hrel
    by_cases hlt : k < 32
    · have hlt2 : (k : Int) < 32 := by omega
      have ca := hA.cell (j := k / 8) (by rw [lims_length]; omega)
      rw [lims_get _ (by omega)] at ca
      have hf := hD.frozen k
      have co := hD.cell (j := k) (by rw [bytL_length]; exact hlt)
      have hset := Lib.hid (bytL_set a k)
      have hbl := byte_limb a k
      have eq4 : (k : Int).tdiv 8 = ((k / 8 : Nat) : Int) := by rw [Int.tdiv_eq_ediv_of_nonneg (by omega)]; omega
      have em4 : (k : Int).tmod 8 = ((k % 8 : Nat) : Int) := by rw [Int.tmod_eq_emod_of_nonneg (by omega)]; omega
      have lq : ((k / 8 : Nat) : Int) < 4 := by omega
      have hr4 : k % 8 < 8 := by omega
      generalize limb a (k / 8) = x at *
      generalize k / 8 = qq at *
      generalize k % 8 = rr at *
      have lr : (rr : Int) < 8 := by omega
      have wr1 : IntKind.i64.wrap (8 * (rr : Int)) = 8 * rr := by simp only [IntKind.wrap, IntKind.bits, IntKind.signed]; simp; omega
      have wr2 : IntKind.u64.wrap (8 * (rr : Int)) = 8 * rr := by rw [IntKind.wrap_u64]; omega
      have lr3 : 8 * (rr : Int) < 64 := by omega
      have hv : (x : Int) / 2 ^ (8 * rr) % 256 = ((UInt8.ofNat (a / 256 ^ k)).toNat : Int) := by
        rw [show (2 : Int) ^ (8 * rr) = ((2 ^ (8 * rr) : Nat) : Int) from (Int.natCast_pow 2 _).symm, ← Int.natCast_ediv, UInt8.toNat_ofNat']
        exact (Int.natCast_emod _ 256).symm.trans (congrArg _ hbl)
      have Hv := Lib.hid hv
      clear hv hbl
      generalize UInt8.ofNat (a / 256 ^ k) = d at *
      go_wp2
      go_roundw
      case rel => exact ⟨k + 1, by omega, by go_num, hA.setOther _ _ (by simp; omega), hC.setOther _ _ (by simp; omega), by rw [Hv.out, ← hset.out]; exact hD.set k d, hb.setCell (by simp; omega) _⟩
      case measure => simp [intOf]; omega
    · rw [show (k : Int) = 32 by omega]
      obtain rfl : k = 32 := by omega
      rw [bytL_full] at hD
      go_wp2_with (first
        | (with_reducible refine wpList_load_b rfl 25 (.tmp 3) rfl w4.heap.size rfl (leBytes a 32) hD (leBytes_length _ _) Tryd.underlying25 Tryd.infoB32 ?_)
        | (with_reducible refine wpList_store_b rfl 25 (.tmp 2) (.tmp 22) rfl (w.heap.size + 1) (leBytes a 32) rfl rfl (leBytes_length _ _) _ hC Tryd.infoB32 (by simp) w.heap.size w hb (by omega) ?_; intro w7 Hg _ _ hb7))
      exact bodyPost_ret (results_cell_row rfl _ _ (w.heap.size + 1) _ _ _ _ rfl Hg Tryd.underlying25 rfl (by rw [Tryd.infoB32]; simp [leBytes_length])) rfl ⟨rfl, hb7⟩
end Go.Proofs.YtcidbiceeinglaaDoor
