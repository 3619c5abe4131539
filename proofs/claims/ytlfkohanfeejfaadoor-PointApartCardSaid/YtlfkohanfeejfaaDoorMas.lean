/-
  The document's numbers modulo P: the number that bytes are; a number's bytes.
  The program's numbers modulo P: the number that bytes are; a number's bytes; a small number; which are one; which are odd.
-/
import Derived.Test.YtlfkohanfeejfaaDoorMai
import Derived.Test.YtlfkohanfeejfaaDoorMar
namespace Go.Proofs.YtlfkohanfeejfaaDoor
open Go.RowKit

theorem of_start (w : World) (l : List UInt8) (c1 c2 c3 : Array Value) (h1 : c1 = (l.map bv).toArray) (h2 : c2 = ((lims 0).map nv).toArray) (h3 : c3 = ((lims 0).map nv).toArray) :
    HoldsB (((w.alloc (.cells c1 27)).alloc (.cells c2 24)).alloc (.cells c3 24)) 27 w.heap.size l ∧ HoldsN (((w.alloc (.cells c1 27)).alloc (.cells c2 24)).alloc (.cells c3 24)) 24 (w.heap.size + 1) (lims 0) ∧
    HoldsN (((w.alloc (.cells c1 27)).alloc (.cells c2 24)).alloc (.cells c3 24)) 24 (w.heap.size + 2) (lims 0) ∧ Below w.heap.size w (((w.alloc (.cells c1 27)).alloc (.cells c2 24)).alloc (.cells c3 24)) := by
  have e1 : (w.alloc (.cells c1 27)).heap.size = w.heap.size + 1 := World.size_alloc ..
  have e2 : ((w.alloc (.cells c1 27)).alloc (.cells c2 24)).heap.size = w.heap.size + 2 := by rw [World.size_alloc, e1]
  exact ⟨((holdsB_new w _ _ c1 l rfl h1).alloc _).alloc _, (holdsN_new _ _ _ c2 _ e1.symm h2).alloc _, holdsN_new _ _ _ c3 _ e2.symm h3, (((Below.refl _ w).alloc (Nat.le_refl _) _).alloc (by omega) _).alloc (by omega) _⟩

set_option maxRecDepth 100000 in
set_option maxHeartbeats 1000000 in
theorem rOf_any (l : List UInt8) (w : World) (hl : l.length = 32) :
    Calls Tryd.prog 25 #[.agg (l.map bv).toArray] w (GaveF w (toF (leNum l)).val) := by
  obtain ⟨hA, hC, hD, hb⟩ := of_start w l _ #[.int .u64 0, .int .u64 0, .int .u64 0, .int .u64 0] #[.int .u64 0, .int .u64 0, .int .u64 0, .int .u64 0] rfl (by kernel_rfl) (by kernel_rfl)
  have hl0 : lims 0 = lims (leNum (l.take 0)) := rfl
  have Hl := Lib.hid hl
  clear hl
  go_enter Tryd.func25, Tryd.ntmps25
  go_wp2_with (with_reducible refine wpList_store_n rfl 24 (.tmp 3) (.tmp 5) rfl (w.heap.size + 2) (lims 0) 4 (by with_unfolding_all rfl) (by with_unfolding_all rfl) rfl (lims 0) (by with_unfolding_all exact hD) Tryd.infoFe rfl w.heap.size w (by with_unfolding_all exact hb) (by omega) ?_
               intro w2 hD2 o2 s2 b2
               have hA2 : HoldsB w2 27 w.heap.size l := (o2 _ (by omega)).trans (by with_unfolding_all exact hA)
               have hC2 : HoldsN w2 24 (w.heap.size + 1) (lims 0) := (o2 _ (by omega)).trans (by with_unfolding_all exact hC))
  clear hA hC hD hb o2 s2
  rw [hl0] at hD2
  clear hl0
  go_loopw [4] (fun v wr => ∃ k : Nat, k ≤ 32 ∧ v = .int .i64 (k : Int) ∧ HoldsB wr 27 w.heap.size l ∧ HoldsN wr 24 (w.heap.size + 1) (lims 0) ∧ HoldsN wr 24 (w.heap.size + 2) (lims (leNum (l.take k))) ∧ Below w.heap.size w wr)
    (fun v _ => 32 - (intOf v).toNat)
  case atStart => exact ⟨0, Nat.zero_le _, rfl, hA2, hC2, hD2, b2⟩
  case round =>
    clear hA2 hC2 hD2 b2
    obtain ⟨k, hk, rfl, hA, hC, hO, hb⟩ := hrel
    by_cases hltk : k < 32
    · have hltk2 : (k : Int) < 32 := by omega
      have hkl : k < l.length := by rw [Hl.out]; exact hltk
      have cA := hA.cell (j := k) hkl
      have cO := hO.cell (j := k / 8) (by rw [lims_length]; omega)
      rw [lims_get _ (by omega)] at cO
      have fO := hO.frozen (k / 8)
      have eq4 : (k : Int).tdiv 8 = ((k / 8 : Nat) : Int) := by rw [Int.tdiv_eq_ediv_of_nonneg (by omega)]; omega
      have em4 : (k : Int).tmod 8 = ((k % 8 : Nat) : Int) := by rw [Int.tmod_eq_emod_of_nonneg (by omega)]; omega
      have lq : ((k / 8 : Nat) : Int) < 4 := by omega
      have hr4 : k % 8 < 8 := by omega
      have hd : l[k].toNat < 256 := l[k].toNat_lt
      have hN : leNum (l.take k) < 256 ^ k := by
        have := leNum_lt (l.take k)
        rwa [List.length_take, Hl.out, Nat.min_eq_left hk] at this
      have hnx := Lib.hid (leNum_take l hkl)
      have hset := Lib.hid (lims_digit8 hN hd)
      have hor := Lib.hid (or_digit8 (limb_top8 hN).2 hd hr4)
      rw [hnx.out] at hset
      clear hN hnx
      generalize l[k].toNat = d at *
      generalize limb (leNum (l.take k)) (k / 8) = x at *
      generalize k / 8 = qq at *
      generalize k % 8 = rr at *
      have lr : (rr : Int) < 8 := by omega
      have wr1 : IntKind.i64.wrap (8 * (rr : Int)) = 8 * rr := by simp only [IntKind.wrap, IntKind.bits, IntKind.signed]; simp; omega
      have wr2 : IntKind.u64.wrap (8 * (rr : Int)) = 8 * rr := by rw [IntKind.wrap_u64]; omega
      have lr3 : 8 * (rr : Int) < 64 := by omega
      have hs : IntKind.u64.wrap (d : Int) = (d : Int) := by rw [IntKind.wrap_u64]; omega
      go_wp2
      go_region
      rw [hor.out]
      go_wp2
      go_roundw
      case rel => exact ⟨k + 1, by omega, by go_num, hA.setOther _ _ (by simp; omega), hC.setOther _ _ (by simp), by rw [← hset.out]; exact hO.set qq _, (hb.setCell (by simp; omega) _).drew⟩
      case measure => simp [intOf]; omega
    · rw [show (k : Int) = 32 by omega]
      obtain rfl : k = 32 := by omega
      rw [List.take_of_length_le (by rw [Hl.out]; omega)] at hO
      have LS : Hid (∀ W, Calls Tryd.prog 57 #[.agg ((lims (leNum l)).map nv).toArray] W fun e w' => e = .returned (.agg ((lims (toF (leNum l)).val).map nv).toArray) ∧ Below W.heap.size W w') := Lib.hid fun W => by
        refine rLeast_any _ W ?_
        have := leNum_lt l
        rw [Hl.out] at this
        exact Nat.lt_of_lt_of_le this (by decide)
      generalize (toF (leNum l)).val = r at *
      generalize leNum l = n at *
      clear hA
      go_wp2_with (first
        | (with_reducible refine wpList_load_n rfl 24 (.tmp 3) rfl (w.heap.size + 2) rfl (lims n) 4 hO rfl Tryd.underlying24 Tryd.infoFe ?_)
        | (go_at_call 57
           with_reducible refine (LS.out _).mono ?_
           rintro e w3 ⟨rfl, hb3⟩
           have hC3 := hC.keep hb3 hC.lt
           have b3 := hb.trans (hb3.mono hb.size))
        | (with_reducible refine wpList_store_n rfl 24 (.tmp 2) (.tmp 28) rfl (w.heap.size + 1) (lims r) 4 rfl rfl rfl (lims 0) hC3 Tryd.infoFe rfl w.heap.size w b3 (by omega) ?_; intro w7 Hg _ _ hb7))
      exact bodyPost_ret (results_cell_row rfl _ _ _ _ _ _ _ rfl Hg Tryd.underlying24 rfl (by rw [Tryd.infoFe]; rfl)) rfl ⟨rfl, hb7⟩


theorem bytes_start (w : World) (m : Nat) (c1 c2 : Array Value) (h1 : c1 = ((lims m).map nv).toArray) (h2 : c2 = zb) :
    HoldsN ((w.alloc (.cells c1 24)).alloc (.cells c2 27)) 24 w.heap.size (lims m) ∧ HoldsB ((w.alloc (.cells c1 24)).alloc (.cells c2 27)) 27 (w.heap.size + 1) (List.replicate 32 0) ∧ Below w.heap.size w ((w.alloc (.cells c1 24)).alloc (.cells c2 27)) := by
  obtain ⟨a, b, e⟩ := fe_start w m c1 h1
  exact ⟨a.alloc _, holdsB_new _ _ _ _ _ e.symm h2, b.alloc (by omega) _⟩

set_option maxRecDepth 100000 in
set_option maxHeartbeats 1000000 in
theorem rBytes_any (m : Nat) (w : World) (hm : m < big) :
    Calls Tryd.prog 36 #[fev m] w fun e w' => e = .returned (.agg ((leBytes (toF m).val 32).map bv).toArray) ∧ Below w.heap.size w w' := by
  obtain ⟨hA, hC, hb⟩ := bytes_start w m _ zb rfl rfl
  obtain ⟨a, ha⟩ : ∃ a, a = (toF m).val := ⟨_, rfl⟩
  have LM : Hid (∀ W, Calls Tryd.prog 57 #[.agg ((lims m).map nv).toArray] W fun e w' => e = .returned (.agg ((lims a).map nv).toArray) ∧ Below W.heap.size W w') := Lib.hid fun W => by rw [ha]; exact rLeast_any m W hm
  rw [fev_eq, ← ha]
  clear ha
  go_enter Tryd.func36, Tryd.ntmps36
  go_wp2_with (first
    | (with_reducible refine wpList_load_n rfl 24 (.tmp 1) rfl w.heap.size rfl (lims m) 4 (by with_unfolding_all exact hA) rfl Tryd.underlying24 Tryd.infoFe ?_)
    | (go_at_call 57
       (with_reducible refine (LM.out _).mono ?_)
       rintro e w3 ⟨rfl, hb3⟩
       have hA3 := hA.keep hb3 hA.lt
       have hC3 := hC.keep hb3 hC.lt
       have b3 := hb.trans (hb3.mono hb.size))
    | (with_reducible refine wpList_store_n rfl 24 (.tmp 1) (.tmp 6) rfl w.heap.size (lims a) 4 rfl rfl rfl (lims m) hA3 Tryd.infoFe rfl w.heap.size w b3 (Nat.le_refl _) ?_
       intro w4 hA4 o4 s4 b4
       clear s4
       have hC4 := hC3.oth o4 (by omega)
       have l4 := hC4.lt
       have z5 : HoldsB (w4.alloc (.cells zb 27)) 27 w4.heap.size (List.replicate 32 0) := holdsB_new w4 _ _ _ _ rfl rfl
       have b5 := b4.alloc b4.size (.cells zb 27)
       have hA5 := hA4.alloc (.cells zb 27)
       have hC5 := hC4.alloc (.cells zb 27))
    | (with_reducible refine wpList_buildTo rfl 27 #[] rfl (some 7) rfl zb (by with_unfolding_all exact Tryd.builtB32) ?_)
    | (with_reducible refine wpList_store_b rfl 27 (.tmp 3) (.tmp 7) rfl w4.heap.size (List.replicate 32 0) rfl (by with_unfolding_all exact rfl) (by simp) (List.replicate 32 0) (by with_unfolding_all exact z5) Tryd.infoB32 (by simp) w.heap.size w (by with_unfolding_all exact b5) (by omega) ?_
       intro w6 hD6 o6 s6 b6
       have hA6 : HoldsN w6 24 w.heap.size (lims a) := (o6 _ (by omega)).trans (by with_unfolding_all exact hA5)
       have hC6 : HoldsB w6 27 (w.heap.size + 1) (List.replicate 32 0) := (o6 _ (by omega)).trans (by with_unfolding_all exact hC5)))
  clear hA hC hb hA3 hC3 b3 hb3 hA4 hC4 b4 o4 z5 b5 hA5 hC5 o6 s6
  rw [← bytL_zero a] at hD6
  generalize w4.heap.size = g at *
  go_loopw [4] (fun v wr => ∃ k : Nat, k ≤ 32 ∧ v = .int .i64 (k : Int) ∧ HoldsN wr 24 w.heap.size (lims a) ∧ HoldsB wr 27 (w.heap.size + 1) (List.replicate 32 0) ∧ HoldsB wr 27 g (bytL a k) ∧ Below w.heap.size w wr)
    (fun v _ => 32 - (intOf v).toNat)
  case atStart => exact ⟨0, Nat.zero_le _, rfl, hA6, hC6, hD6, b6⟩
  case round =>
    clear hA6 hC6 hD6 b6
    obtain ⟨k, hk, rfl, hA, hC, hD, hb⟩ := hrel
    by_cases hlt : k < 32
    · have hlt2 : (k : Int) < 32 := by omega
      have ca := hA.cell (j := k / 8) (by rw [lims_length]; omega)
      rw [lims_get _ (by omega)] at ca
      have hf := hD.frozen k
      have co := hD.cell (j := k) (by rw [bytL_length]; exact hlt)
      have hset := Lib.hid (bytL_set a k)
      have hbl := byte_limb a k
      have eq4 : (k : Int).tdiv 8 = ((k / 8 : Nat) : Int) := by rw [Int.tdiv_eq_ediv_of_nonneg (by omega)]; omega
      have em4 : (k : Int).tmod 8 = ((k % 8 : Nat) : Int) := by rw [Int.tmod_eq_emod_of_nonneg (by omega)]; omega
      have lq : ((k / 8 : Nat) : Int) < 4 := by omega
      have hr4 : k % 8 < 8 := by omega
      generalize limb a (k / 8) = x at *
      generalize k / 8 = qq at *
      generalize k % 8 = rr at *
      have lr : (rr : Int) < 8 := by omega
      have wr1 : IntKind.i64.wrap (8 * (rr : Int)) = 8 * rr := by simp only [IntKind.wrap, IntKind.bits, IntKind.signed]; simp; omega
      have wr2 : IntKind.u64.wrap (8 * (rr : Int)) = 8 * rr := by rw [IntKind.wrap_u64]; omega
      have lr3 : 8 * (rr : Int) < 64 := by omega
      have hv : (x : Int) / 2 ^ (8 * rr) % 256 = ((UInt8.ofNat (a / 256 ^ k)).toNat : Int) := by
        rw [show (2 : Int) ^ (8 * rr) = ((2 ^ (8 * rr) : Nat) : Int) from (Int.natCast_pow 2 _).symm, ← Int.natCast_ediv, UInt8.toNat_ofNat']
        exact (Int.natCast_emod _ 256).symm.trans (congrArg _ hbl)
      have Hv := Lib.hid hv
      clear hv hbl
      generalize UInt8.ofNat (a / 256 ^ k) = d at *
      go_wp2
      go_roundw
      case rel => exact ⟨k + 1, by omega, by go_num, hA.setOther _ _ (by simp; omega), hC.setOther _ _ (by simp; omega), by rw [Hv.out, ← hset.out]; exact hD.set k d, hb.setCell (by simp; omega) _⟩
      case measure => simp [intOf]; omega
    · rw [show (k : Int) = 32 by omega]
      obtain rfl : k = 32 := by omega
      rw [bytL_full] at hD
      go_wp2_with (first
        | (with_reducible refine wpList_load_b rfl 27 (.tmp 3) rfl g rfl (leBytes a 32) hD (leBytes_length _ _) Tryd.underlying27 Tryd.infoB32 ?_)
        | (with_reducible refine wpList_store_b rfl 27 (.tmp 2) (.tmp 24) rfl (w.heap.size + 1) (leBytes a 32) rfl rfl (leBytes_length _ _) _ hC Tryd.infoB32 (by simp) w.heap.size w hb (by omega) ?_; intro w7 Hg _ _ hb7))
      exact bodyPost_ret (results_cell_row rfl _ _ (w.heap.size + 1) _ _ _ _ rfl Hg Tryd.underlying27 rfl (by rw [Tryd.infoB32]; simp [leBytes_length])) rfl ⟨rfl, hb7⟩
end Go.Proofs.YtlfkohanfeejfaaDoor

namespace Go.Proofs.YtlfkohanfeejfaaDoor
open Go.RowKit

theorem Tryd.plainU8 : Tryd.prog.plainKey 5 = true := by kernel_rfl
theorem Tryd.cellsU8 : Tryd.prog.cellsOf 5 = 1 := by kernel_rfl
theorem Tryd.infoU8 : (Tryd.prog.info? 5).map (fun i => (i.zero, i.size, i.bytes)) = some (some (.int .u8 0), 1, 1) := by kernel_rfl
theorem run_index_b (l : List UInt8) (k : Nat) (w : World) (hk : k < l.length) (hl : l.length = 32) : (Instr.index 27 (.agg (l.map bv).toArray) (.int .i64 (k : Int))).run Tryd.prog w = .ok (.int .u8 (l[k].toNat : Int)) w := by
  have h2 : k < 32 := by omega
  have h3 : l[k]? = some l[k] := List.getElem?_eq_getElem hk
  simp [Instr.index, run_underlying Tryd.underlying27, asIntOf, go_sem, h2, h3, bv]

set_option maxRecDepth 100000 in
set_option maxHeartbeats 1000000 in
theorem Of_any (l : List UInt8) (w : World) (hl : l.length = 32) :
    Calls Tryd.prog 24 #[.agg (l.map bv).toArray] w (GaveF w (toF (leNum l)).val) := by
  obtain ⟨hA, hC, hD, hb⟩ := of_start w l _ #[.int .u64 0, .int .u64 0, .int .u64 0, .int .u64 0] #[.int .u64 0, .int .u64 0, .int .u64 0, .int .u64 0] rfl (by kernel_rfl) (by kernel_rfl)
  have hl0 : lims 0 = lims (leNum (l.take 0)) := rfl
  have Hl := Lib.hid hl
  clear hl
  go_enter Tryd.func24, Tryd.ntmps24
  go_upto_region 2 with (fail)
  generalize ((w.alloc (.cells (l.map bv).toArray 27)).alloc (.cells #[.int .u64 0, .int .u64 0, .int .u64 0, .int .u64 0] 24)).alloc (.cells #[.int .u64 0, .int .u64 0, .int .u64 0, .int .u64 0] 24) = wv at *
  go_wp2_with (first
    | (with_reducible refine wpList_load_b rfl 27 (.tmp 1) rfl w.heap.size rfl l hA Hl.out Tryd.underlying27 Tryd.infoB32 ?_)
    | fail)
  rw [hl0] at hD
  clear hl0 hA
  go_loopw [7] (fun v wr => ∃ k : Nat, k ≤ 32 ∧ v = .int .i64 (k : Int) ∧ HoldsN wr 24 (w.heap.size + 1) (lims 0) ∧ HoldsN wr 24 (w.heap.size + 1 + 1) (lims (leNum (l.take k))) ∧ Below w.heap.size w wr)
    (fun v _ => 32 - (intOf v).toNat)
  case atStart => exact ⟨0, Nat.zero_le _, rfl, hC, hD, hb⟩
  case round =>
    clear hC hD hb
    obtain ⟨k, hk, rfl, hC, hO, hb⟩ := hrel
    by_cases hltk : k < 32
    · have hltk2 : (k : Int) < 32 := by omega
      have hkl : k < l.length := by rw [Hl.out]; exact hltk
      have ix := fun W => run_index_b l k W hkl Hl.out
      have cO := hO.cell (j := k / 8) (by rw [lims_length]; omega)
      rw [lims_get _ (by omega)] at cO
      have fO := hO.frozen (k / 8)
      have eq4 : (k : Int).tdiv 8 = ((k / 8 : Nat) : Int) := by rw [Int.tdiv_eq_ediv_of_nonneg (by omega)]; omega
      have em4 : (k : Int).tmod 8 = ((k % 8 : Nat) : Int) := by rw [Int.tmod_eq_emod_of_nonneg (by omega)]; omega
      have lq : ((k / 8 : Nat) : Int) < 4 := by omega
      have hr4 : k % 8 < 8 := by omega
      have hd : l[k].toNat < 256 := l[k].toNat_lt
      have hN : leNum (l.take k) < 256 ^ k := by
        have := leNum_lt (l.take k)
        rwa [List.length_take, Hl.out, Nat.min_eq_left hk] at this
      have hnx := Lib.hid (leNum_take l hkl)
      have hset := Lib.hid (lims_digit8 hN hd)
      have hor := Lib.hid (or_digit8 (limb_top8 hN).2 hd hr4)
      rw [hnx.out] at hset
      clear hN hnx
      generalize l[k].toNat = d at *
      generalize limb (leNum (l.take k)) (k / 8) = x at *
      generalize k / 8 = qq at *
      generalize k % 8 = rr at *
      have lr : (rr : Int) < 8 := by omega
      have wr1 : IntKind.i64.wrap (8 * (rr : Int)) = 8 * rr := by simp only [IntKind.wrap, IntKind.bits, IntKind.signed]; simp; omega
      have wr2 : IntKind.u64.wrap (8 * (rr : Int)) = 8 * rr := by rw [IntKind.wrap_u64]; omega
      have lr3 : 8 * (rr : Int) < 64 := by omega
      have hs : IntKind.u64.wrap (d : Int) = (d : Int) := by rw [IntKind.wrap_u64]; omega
      go_wp2
      go_region
      rw [hor.out]
      go_wp2
      go_roundw
      case rel => exact ⟨k + 1, by omega, by go_num, hC.setOther _ _ (by simp), by rw [← hset.out]; exact hO.set qq _, (hb.setCell (by simp; omega) _).drew⟩
      case measure => simp [intOf]; omega
    · rw [show (k : Int) = 32 by omega]
      obtain rfl : k = 32 := by omega
      rw [List.take_of_length_le (by rw [Hl.out]; omega)] at hO
      have LS : Hid (∀ W, Calls Tryd.prog 56 #[.agg ((lims (leNum l)).map nv).toArray, .int .u64 0] W fun e w' => e = .returned (.agg ((lims (toF (leNum l)).val).map nv).toArray) ∧ Below W.heap.size W w') := Lib.hid fun W => by
        have h := leNum_lt l
        rw [Hl.out] at h
        have h2 : leNum l < big := Nat.lt_of_lt_of_le h (by decide)
        have := below_any (leNum l) 0 W h2 (by omega)
        rw [Nat.zero_mul, Nat.add_zero] at this
        exact this
      generalize (toF (leNum l)).val = r at *
      generalize leNum l = n at *
      go_wp2_with (first
        | (with_reducible refine wpList_load_n rfl 24 (.tmp 3) rfl (w.heap.size + 1 + 1) rfl (lims n) 4 hO rfl Tryd.underlying24 Tryd.infoFe ?_)
        | (go_at_call 56
           with_reducible refine (LS.out _).mono ?_
           rintro e w3 ⟨rfl, hb3⟩
           have hC3 := hC.keep hb3 hC.lt
           have b3 := hb.trans (hb3.mono hb.size))
        | (with_reducible refine wpList_store_n rfl 24 (.tmp 2) (.tmp 25) rfl (w.heap.size + 1) (lims r) 4 rfl rfl rfl (lims 0) hC3 Tryd.infoFe rfl w.heap.size w b3 (by omega) ?_; intro w7 Hg _ _ hb7))
      exact bodyPost_ret (results_cell_row rfl _ _ _ _ _ _ _ rfl Hg Tryd.underlying24 rfl (by rw [Tryd.infoFe]; rfl)) rfl ⟨rfl, hb7⟩

set_option maxRecDepth 100000 in
set_option maxHeartbeats 1000000 in
theorem Bytes_any (m : Nat) (w : World) (hm : m < big) :
    Calls Tryd.prog 33 #[fev m] w fun e w' => e = .returned (.agg ((leBytes (toF m).val 32).map bv).toArray) ∧ Below w.heap.size w w' := by
  obtain ⟨hA, hC, hb⟩ := bytes_start w m _ zb rfl rfl
  obtain ⟨a, ha⟩ : ∃ a, a = (toF m).val := ⟨_, rfl⟩
  have LM : Hid (∀ W, Calls Tryd.prog 56 #[.agg ((lims m).map nv).toArray, .int .u64 0] W fun e w' => e = .returned (.agg ((lims a).map nv).toArray) ∧ Below W.heap.size W w') := Lib.hid fun W => by
    have := below_any m 0 W hm (by omega)
    rw [Nat.zero_mul, Nat.add_zero] at this
    rw [ha]; exact this
  rw [fev_eq, ← ha]
  clear ha
  go_enter Tryd.func33, Tryd.ntmps33
  go_wp2_with (first
    | (with_reducible refine wpList_load_n rfl 24 (.tmp 1) rfl w.heap.size rfl (lims m) 4 (by with_unfolding_all exact hA) rfl Tryd.underlying24 Tryd.infoFe ?_)
    | (go_at_call 56
       (with_reducible refine (LM.out _).mono ?_)
       rintro e w3 ⟨rfl, hb3⟩
       have hA3 := hA.keep hb3 hA.lt
       have hC3 := hC.keep hb3 hC.lt
       have b3 := hb.trans (hb3.mono hb.size))
    | (with_reducible refine wpList_store_n rfl 24 (.tmp 1) (.tmp 6) rfl w.heap.size (lims a) 4 rfl rfl rfl (lims m) hA3 Tryd.infoFe rfl w.heap.size w b3 (Nat.le_refl _) ?_
       intro w4 hA4 o4 s4 b4
       clear s4
       have hC4 := hC3.oth o4 (by omega)
       have l4 := hC4.lt
       have z5 : HoldsB (w4.alloc (.cells zb 27)) 27 w4.heap.size (List.replicate 32 0) := holdsB_new w4 _ _ _ _ rfl rfl
       have b5 := b4.alloc b4.size (.cells zb 27)
       have hA5 := hA4.alloc (.cells zb 27)
       have hC5 := hC4.alloc (.cells zb 27)))
  rw [← bytL_zero a] at z5
  clear hA hC hb hA3 hC3 b3 hb3 hA4 hC4 b4 o4
  go_loopw [4, 7] (fun _ v wr => ∃ k : Nat, k ≤ 32 ∧ v = .int .i64 (k : Int) ∧ HoldsN wr 24 w.heap.size (lims a) ∧ HoldsB wr 27 (w.heap.size + 1) (List.replicate 32 0) ∧ HoldsB wr 27 w4.heap.size (bytL a k) ∧ Below w.heap.size w wr)
    (fun _ v _ => 32 - (intOf v).toNat)
  case atStart => exact ⟨0, Nat.zero_le _, rfl, by with_unfolding_all exact hA5, by with_unfolding_all exact hC5, by with_unfolding_all exact z5, by with_unfolding_all exact b5⟩
  case round =>
    clear hA5 hC5 z5 b5
    obtain ⟨k, hk, rfl, hA, hC, hD, hb⟩ := hrel
    by_cases hlt : k < 32
    · have hlt2 : (k : Int) < 32 := by omega
      have ca := hA.cell (j := k / 8) (by rw [lims_length]; omega)
      rw [lims_get _ (by omega)] at ca
      have hf := hD.frozen k
      have co := hD.cell (j := k) (by rw [bytL_length]; exact hlt)
      have hset := Lib.hid (bytL_set a k)
      have hbl := byte_limb a k
      have eq4 : (k : Int).tdiv 8 = ((k / 8 : Nat) : Int) := by rw [Int.tdiv_eq_ediv_of_nonneg (by omega)]; omega
      have em4 : (k : Int).tmod 8 = ((k % 8 : Nat) : Int) := by rw [Int.tmod_eq_emod_of_nonneg (by omega)]; omega
      have lq : ((k / 8 : Nat) : Int) < 4 := by omega
      have hr4 : k % 8 < 8 := by omega
      generalize limb a (k / 8) = x at *
      generalize k / 8 = qq at *
      generalize k % 8 = rr at *
      have lr : (rr : Int) < 8 := by omega
      have wr1 : IntKind.i64.wrap (8 * (rr : Int)) = 8 * rr := by simp only [IntKind.wrap, IntKind.bits, IntKind.signed]; simp; omega
      have wr2 : IntKind.u64.wrap (8 * (rr : Int)) = 8 * rr := by rw [IntKind.wrap_u64]; omega
      have lr3 : 8 * (rr : Int) < 64 := by omega
      have hv : (x : Int) / 2 ^ (8 * rr) % 256 = ((UInt8.ofNat (a / 256 ^ k)).toNat : Int) := by
        rw [show (2 : Int) ^ (8 * rr) = ((2 ^ (8 * rr) : Nat) : Int) from (Int.natCast_pow 2 _).symm, ← Int.natCast_ediv, UInt8.toNat_ofNat']
        exact (Int.natCast_emod _ 256).symm.trans (congrArg _ hbl)
      have Hv := Lib.hid hv
      clear hv hbl
      generalize UInt8.ofNat (a / 256 ^ k) = d at *
      go_wp2
      go_roundw
      case rel => exact ⟨k + 1, by omega, by go_num, hA.setOther _ _ (by simp; omega), hC.setOther _ _ (by simp; omega), by rw [Hv.out, ← hset.out]; exact hD.set k d, hb.setCell (by simp; omega) _⟩
      case measure => simp [intOf]; omega
    · rw [show (k : Int) = 32 by omega]
      obtain rfl : k = 32 := by omega
      rw [bytL_full] at hD
      go_wp2_with (first
        | (with_reducible refine wpList_load_b rfl 27 (.tmp 3) rfl w4.heap.size rfl (leBytes a 32) hD (leBytes_length _ _) Tryd.underlying27 Tryd.infoB32 ?_)
        | (with_reducible refine wpList_store_b rfl 27 (.tmp 2) (.tmp 22) rfl (w.heap.size + 1) (leBytes a 32) rfl rfl (leBytes_length _ _) _ hC Tryd.infoB32 (by simp) w.heap.size w hb (by omega) ?_; intro w7 Hg _ _ hb7))
      exact bodyPost_ret (results_cell_row rfl _ _ (w.heap.size + 1) _ _ _ _ rfl Hg Tryd.underlying27 rfl (by rw [Tryd.infoB32]; simp [leBytes_length])) rfl ⟨rfl, hb7⟩
end Go.Proofs.YtlfkohanfeejfaaDoor
