/-
  The program's numbers modulo L: what is below 0; the number that bytes are.
-/
import Derived.Test.YthhcjknkmdaeeaaDoorSMul
namespace Go.Proofs.YthhcjknkmdaeeaaDoor
open Go.RowKit
namespace Sca

theorem neg_num (m : Nat) : (LL + big - m % LL) % big = LL - m % LL ∧ LL - m % LL < big := by
  have h : m % LL < LL := Nat.mod_lt _ (by decide)
  generalize m % LL = a at *
  unfold LL big at *
  omega

section
attribute [local go_sem ↓] load_sc

set_option maxRecDepth 100000 in
set_option maxHeartbeats 2000000 in
theorem Neg_any (m : Nat) (w : World) (hm : m < big) (L0 : Laid w) :
    Calls Tryd.prog 12 #[fev m] w (GaveF w (-toS m).val) := by
  have hsz := L0.size
  obtain ⟨hA, hC, hb, _⟩ := sc_start2 w m 0 _ #[.int .u64 0, .int .u64 0, .int .u64 0, .int .u64 0] rfl (by kernel_rfl)
  have LK : Hid (∀ W, Below w.heap.size w W → Laid W) := Lib.hid fun W h => L0.keep h hsz
  have B1 : Hid (∀ W, HoldsN W 24 w.heap.size (lims m) → Below w.heap.size w W → Calls Tryd.prog 24 #[.slice (some ⟨w.heap.size, 0, none⟩) 4 4] W fun e w' => e = .returned (.agg ((lims (m % LL)).map nv).toArray) ∧ Below W.heap.size W w') := Lib.hid fun W hW hbW => by
    have h := below_any (lims m) 4 w.heap.size 24 W rfl (by omega) (lims_small m) hW (L0.keep hbW hsz)
    rw [numL_lims hm] at h
    exact h
  have LS : Hid (∀ W, Calls Tryd.prog 27 #[.agg ((lims LL).map nv).toArray, .agg ((lims (m % LL)).map nv).toArray] W fun e w' => e = .returned (.tuple #[.agg ((lims (LL - m % LL)).map nv).toArray, .bool (decide (LL < m % LL))]) ∧ Below W.heap.size W w') := Lib.hid fun W => by
    have h := less_any LL (m % LL) W (by decide) (Nat.lt_trans (Nat.mod_lt _ (by decide)) (by decide))
    have e : fev (LL + big - m % LL) = fev (LL - m % LL) := by rw [fev_eq, fev_eq, lims_mod (LL + big - m % LL), (neg_num m).1]
    rw [e] at h
    exact h
  have B2 : Hid (∀ (g : Nat) W, HoldsN W 24 g (lims (LL - m % LL)) → Below w.heap.size w W → Calls Tryd.prog 24 #[.slice (some ⟨g, 0, none⟩) 4 4] W fun e w' => e = .returned (.agg ((lims (-toS m).val).map nv).toArray) ∧ Below W.heap.size W w') := Lib.hid fun g W hW hbW => by
    have h := below_any (lims (LL - m % LL)) 4 g 24 W rfl (by omega) (lims_small _) hW (L0.keep hbW hsz)
    rw [numL_lims (neg_num m).2] at h
    rw [Sn.val_neg, toS_val]
    exact h
  clear hm
  rw [fev_eq]
  generalize (-toS m).val = v at *
  generalize LL - m % LL = d at *
  generalize decide (LL < m % LL) = bl at *
  generalize m % LL = r at *
  have F0 : Bs w (w.heap.size + 1 + 1) [(w.heap.size, 24, ((lims m).map nv).toArray), (w.heap.size + 1, 24, ((lims 0).map nv).toArray)] _ := ⟨fun p hp => by
    simp only [List.mem_cons, List.not_mem_nil, or_false] at hp
    rcases hp with rfl | rfl
    · exact ⟨by simp only; omega, hA⟩
    · exact ⟨by simp only; omega, hC⟩, hC.lt, by omega, hb⟩
  clear hA hC hb
  go_enter Tryd.func12, Tryd.ntmps12
  go_upto_region 1 with (fail)
  generalize (w.alloc (.cells ((lims m).map nv).toArray 24)).alloc (.cells #[.int .u64 0, .int .u64 0, .int .u64 0, .int .u64 0] 24) = wv at *
  go_cut [3] (fun vp wx => ∃ g, vp = .pointer (some ⟨g, 0, none⟩) ∧ Bs w (g + 1) [(g, 24, ((lims d).map nv).toArray), (w.heap.size, 24, ((lims m).map nv).toArray), (w.heap.size + 1, 24, ((lims 0).map nv).toArray)] wx)
  case first =>
    refine wp_region_lexS 9 8 7 3 (MadeT 24 zs (w.heap.size + 1 + 1) 0) (HeldT 24 ((lims d).map nv).toArray (w.heap.size + 1 + 1)) (Bs w (w.heap.size + 1 + 1) [(w.heap.size, 24, ((lims m).map nv).toArray), (w.heap.size + 1, 24, ((lims 0).map nv).toArray)]) (by kernel_rfl) (by kernel_rfl) F0.drew Bs.stay MadeT.stayS HeldT.stay (made_tS run_alloc_sc Bs.size rfl) ?_
    simp only [List.take_succ_cons, List.take_zero, List.drop_succ_cons, List.drop_zero]
    refine lexS_value (v := ?_) (by rfl) (by rfl) (by rfl) (fun W hW => ?_) ?_
    rotate_left
    · have l1 := run_loadOrder (LK.out _ hW.below); go_simp <;> with_reducible rfl
    simp only [Act.put, List.setIfInBounds_toArray, List.set_cons_zero, List.set_cons_succ]
    refine lexS_value (v := ?_) (by rfl) (by rfl) (by rfl) (fun W hW => ?_) ?_
    rotate_left
    · skip; go_simp <;> with_reducible rfl
    simp only [Act.put, List.setIfInBounds_toArray, List.set_cons_zero, List.set_cons_succ]
    refine' lexS_call (by rfl) (by rfl) (by rfl) (fun W hW => ?_) (fun W hW => ?_) ?_
    rotate_left 3
    · go_simp <;> first | with_reducible rfl | exact ⟨rfl, rfl⟩
    · with_reducible exact B1.out W (hW.getN (by simp)) hW.below
    simp only [Act.put, List.setIfInBounds_toArray, List.set_cons_zero, List.set_cons_succ]
    refine' lexS_call (by rfl) (by rfl) (by rfl) (fun W hW => ?_) (fun W hW => ?_) ?_
    rotate_left 3
    · go_simp <;> first | with_reducible rfl | exact ⟨rfl, rfl⟩
    · with_reducible exact LS.out W
    simp only [Act.put, List.setIfInBounds_toArray, List.set_cons_zero, List.set_cons_succ]
    refine lexS_value (v := ?_) (by rfl) (by rfl) (by rfl) (fun W hW => ?_) ?_
    rotate_left
    · skip; go_simp <;> with_reducible rfl
    simp only [Act.put, List.setIfInBounds_toArray, List.set_cons_zero, List.set_cons_succ]
    refine lexS_value (v := ?_) (by rfl) (by rfl) (by rfl) (fun W hW => ?_) ?_
    rotate_left
    · skip; go_simp <;> with_reducible rfl
    simp only [Act.put, List.setIfInBounds_toArray, List.set_cons_zero, List.set_cons_succ]
    refine lexS_value (v := ?_) (by rfl) (by rfl) (by rfl) (fun W hW => ?_) ?_
    rotate_left
    · skip; go_simp <;> with_reducible rfl
    simp only [Act.put, List.setIfInBounds_toArray, List.set_cons_zero, List.set_cons_succ]
    refine lexS_free (by rfl) ?_
    refine lexS_store (by rfl) (by rfl) (stores_t rfl (by rfl) (by simp) (by rfl) (by rw [Tryd.infoSc]; simp [lims_length]) (by simp [zs, lims_length]) (n_one _)) ?_
    simp only [Act.put]
    refine lexS_nil (fun W8 v8 F8 E8 => ?_)
    obtain ⟨g2, rfl, hg2, hX⟩ := E8
    simp only [List.setIfInBounds_toArray, List.set_cons_zero, List.set_cons_succ]
    go_wp2_with fail
    go_meet
    exact ⟨g2, rfl, F8.addHeld hg2 hX⟩
  case rest =>
    obtain ⟨g, rfl, F1⟩ := hcut
    have hgb := (F1.hold _ (List.mem_cons_self ..)).1
    have hD : HoldsN wc 24 g (lims d) := F1.getN (by simp)
    have hC : HoldsN wc 24 (w.heap.size + 1) (lims 0) := F1.getN (by simp)
    have hb := F1.below
    go_wp2_with (first
      | (go_at_call 24
         with_reducible refine (B2.out g _ hD hb).mono ?_
         rintro e w3 ⟨rfl, hb3⟩
         have hC3 := hC.keep hb3 hC.lt
         have b3 := hb.trans (hb3.mono hb.size))
      | (with_reducible refine wpList_store_n rfl 24 (.tmp 2) (.tmp 13) rfl (w.heap.size + 1) (lims v) 4 rfl rfl rfl (lims 0) hC3 Tryd.infoSc rfl w.heap.size w b3 (by omega) ?_; intro w7 Hg _ _ hb7)
      | fail)
    exact bodyPost_ret (results_cell_row rfl _ _ _ _ _ _ _ rfl Hg Tryd.underlying24 rfl (by rw [Tryd.infoSc]; rfl)) rfl ⟨rfl, hb7⟩
end

theorem lims8_get (n : Nat) {j : Nat} (h : j < 8) : (lims8 n).getD j 0 = limb n j := by unfold lims8; rw [mixL_get h, if_pos h]
theorem lims8_digit8 {N d i : Nat} (hN : N < 256 ^ i) (hd : d < 256) : (lims8 N).set (i / 8) (limb N (i / 8) + 2 ^ (8 * (i % 8)) * d) = lims8 (N + d * 256 ^ i) := by
  refine List.ext_getElem (by rw [List.length_set, lims8_length, lims8_length]) fun j h1 h2 => ?_
  have hj : j < 8 := by rw [lims8_length] at h2; exact h2
  have g : ∀ n, (lims8 n)[j]'(by rw [lims8_length]; exact hj) = limb n j := fun n => by
    have := lims8_get n hj
    rw [List.getD_eq_getElem?_getD, List.getElem?_eq_getElem (by rw [lims8_length]; exact hj), Option.getD_some] at this
    exact this
  rw [List.getElem_set, g (N + d * 256 ^ i)]
  split
  · next e => rw [← limb_digit8 hN hd, e]
  · next e => rw [g, limb_other8 hN hd (fun h => e h.symm)]
theorem Tryd.plainU8 : Tryd.prog.plainKey 5 = true := by kernel_rfl
theorem run_index_b64 (l : List UInt8) (k : Nat) (w : World) (hk : k < l.length) (hl : l.length = 64) : (Instr.index 25 (.agg (l.map bv).toArray) (.int .i64 (k : Int))).run Tryd.prog w = .ok (.int .u8 (l[k].toNat : Int)) w := by
  have h2 : k < 64 := by omega
  have h3 : l[k]? = some l[k] := List.getElem?_eq_getElem hk
  simp [Instr.index, run_underlying Tryd.underlying25, asIntOf, go_sem, h2, h3, bv]
theorem of64_start (w : World) (l : List UInt8) (c1 c2 c3 : Array Value) (h1 : c1 = (l.map bv).toArray) (h2 : c2 = ((lims 0).map nv).toArray) (h3 : c3 = ((lims8 0).map nv).toArray) :
    HoldsB (((w.alloc (.cells c1 25)).alloc (.cells c2 24)).alloc (.cells c3 44)) 25 w.heap.size l ∧ HoldsN (((w.alloc (.cells c1 25)).alloc (.cells c2 24)).alloc (.cells c3 44)) 24 (w.heap.size + 1) (lims 0) ∧
    HoldsN (((w.alloc (.cells c1 25)).alloc (.cells c2 24)).alloc (.cells c3 44)) 44 (w.heap.size + 1 + 1) (lims8 0) ∧ Below w.heap.size w (((w.alloc (.cells c1 25)).alloc (.cells c2 24)).alloc (.cells c3 44)) := by
  have e1 : (w.alloc (.cells c1 25)).heap.size = w.heap.size + 1 := World.size_alloc ..
  have e2 : ((w.alloc (.cells c1 25)).alloc (.cells c2 24)).heap.size = w.heap.size + 1 + 1 := by rw [World.size_alloc, e1]
  exact ⟨((holdsB_new w _ _ c1 l rfl h1).alloc _).alloc _, (holdsN_new _ _ _ c2 _ e1.symm h2).alloc _, holdsN_new _ _ _ c3 _ e2.symm h3, (((Below.refl _ w).alloc (Nat.le_refl _) _).alloc (by omega) _).alloc (by omega) _⟩

set_option maxRecDepth 100000 in
set_option maxHeartbeats 2000000 in
theorem Of_any (l : List UInt8) (w : World) (hl : l.length = 64) (L0 : Laid w) :
    Calls Tryd.prog 14 #[.agg (l.map bv).toArray] w (GaveF w (toS (leNum l)).val) := by
  have hsz := L0.size
  obtain ⟨hA, hC, hD, hb⟩ := of64_start w l _ #[.int .u64 0, .int .u64 0, .int .u64 0, .int .u64 0] #[.int .u64 0, .int .u64 0, .int .u64 0, .int .u64 0, .int .u64 0, .int .u64 0, .int .u64 0, .int .u64 0] rfl (by kernel_rfl) zeros8
  have BL : Hid (∀ W, HoldsN W 44 (w.heap.size + 1 + 1) (lims8 (leNum l)) → Below w.heap.size w W → Calls Tryd.prog 24 #[.slice (some ⟨w.heap.size + 1 + 1, 0, none⟩) 8 8] W fun e w' => e = .returned (.agg ((lims (toS (leNum l)).val).map nv).toArray) ∧ Below W.heap.size W w') := Lib.hid fun W hW hbW => by
    have h := below_any (lims8 (leNum l)) 8 (w.heap.size + 1 + 1) 44 W (lims8_length _) (by omega) (lims8_small _) hW (L0.keep hbW hsz)
    have hlt := leNum_lt l
    rw [hl] at hlt
    rw [numL_lims8 (Nat.lt_of_lt_of_le hlt (by decide))] at h
    exact h
  have hl0 : lims8 0 = lims8 (leNum (l.take 0)) := rfl
  have Hl := Lib.hid hl
  clear hl
  go_enter Tryd.func14, Tryd.ntmps14
  go_upto_region 2 with (fail)
  generalize ((w.alloc (.cells (l.map bv).toArray 25)).alloc (.cells #[.int .u64 0, .int .u64 0, .int .u64 0, .int .u64 0] 24)).alloc (.cells #[.int .u64 0, .int .u64 0, .int .u64 0, .int .u64 0, .int .u64 0, .int .u64 0, .int .u64 0, .int .u64 0] 44) = wv at *
  go_wp2_with (first
    | (with_reducible refine wpList_load_bn 64 rfl 25 (.tmp 1) rfl w.heap.size rfl l hA Hl.out Tryd.underlying25 Tryd.infoB64 ?_)
    | fail)
  rw [hl0] at hD
  clear hl0 hA
  go_loopw [7] (fun v wr => ∃ k : Nat, k ≤ 64 ∧ v = .int .i64 (k : Int) ∧ HoldsN wr 24 (w.heap.size + 1) (lims 0) ∧ HoldsN wr 44 (w.heap.size + 1 + 1) (lims8 (leNum (l.take k))) ∧ Below w.heap.size w wr)
    (fun v _ => 64 - (intOf v).toNat)
  case atStart => exact ⟨0, Nat.zero_le _, rfl, hC, hD, hb⟩
  case round =>
    clear hC hD hb
    obtain ⟨k, hk, rfl, hC, hO, hb⟩ := hrel
    by_cases hltk : k < 64
    · have hltk2 : (k : Int) < 64 := by omega
      have hkl : k < l.length := by rw [Hl.out]; exact hltk
      have ix := fun W => run_index_b64 l k W hkl Hl.out
      have cO := hO.cell (j := k / 8) (by rw [lims8_length]; omega)
      rw [lims8_get _ (by omega)] at cO
      have fO := hO.frozen (k / 8)
      have eq4 : (k : Int).tdiv 8 = ((k / 8 : Nat) : Int) := by rw [Int.tdiv_eq_ediv_of_nonneg (by omega)]; omega
      have em4 : (k : Int).tmod 8 = ((k % 8 : Nat) : Int) := by rw [Int.tmod_eq_emod_of_nonneg (by omega)]; omega
      have lq : ((k / 8 : Nat) : Int) < 8 := by omega
      have hr4 : k % 8 < 8 := by omega
      have hd : l[k].toNat < 256 := l[k].toNat_lt
      have hN : leNum (l.take k) < 256 ^ k := by
        have := leNum_lt (l.take k)
        rwa [List.length_take, Hl.out, Nat.min_eq_left hk] at this
      have hnx := Lib.hid (leNum_take l hkl)
      have hset := Lib.hid (lims8_digit8 hN hd)
      have hor := Lib.hid (or_digit8 (limb_top8 hN).2 hd hr4)
      rw [hnx.out] at hset
      clear hN hnx
      generalize l[k].toNat = d at *
      generalize limb (leNum (l.take k)) (k / 8) = x at *
      generalize k / 8 = qq at *
      generalize k % 8 = rr at *
      have lr : (rr : Int) < 8 := by omega
      have wr1 : IntKind.i64.wrap (8 * (rr : Int)) = 8 * rr := by simp only [IntKind.wrap, IntKind.bits, IntKind.signed]; simp; omega
      have wr2 : IntKind.u64.wrap (8 * (rr : Int)) = 8 * rr := by rw [IntKind.wrap_u64]; omega
      have lr3 : 8 * (rr : Int) < 64 := by omega
      have hs : IntKind.u64.wrap (d : Int) = (d : Int) := by rw [IntKind.wrap_u64]; omega
      go_wp2
      go_region
      rw [hor.out]
      go_wp2
      go_roundw
      case rel => exact ⟨k + 1, by omega, by go_num, hC.setOther _ _ (by simp), by rw [← hset.out]; exact hO.set qq _, (hb.setCell (by simp; omega) _).drew⟩
      case measure => simp [intOf]; omega
    · rw [show (k : Int) = 64 by omega]
      obtain rfl : k = 64 := by omega
      rw [List.take_of_length_le (by rw [Hl.out]; omega)] at hO
      generalize (toS (leNum l)).val = r at *
      generalize lims8 (leNum l) = t at *
      go_wp2_with (first
        | (go_at_call 24
           with_reducible refine (BL.out _ hO hb).mono ?_
           rintro e w3 ⟨rfl, hb3⟩
           have hC3 := hC.keep hb3 hC.lt
           have b3 := hb.trans (hb3.mono hb.size))
        | (with_reducible refine wpList_store_n rfl 24 (.tmp 2) (.tmp 25) rfl (w.heap.size + 1) (lims r) 4 rfl rfl rfl (lims 0) hC3 Tryd.infoSc rfl w.heap.size w b3 (by omega) ?_; intro w7 Hg _ _ hb7)
        | fail)
      exact bodyPost_ret (results_cell_row rfl _ _ _ _ _ _ _ rfl Hg Tryd.underlying24 rfl (by rw [Tryd.infoSc]; rfl)) rfl ⟨rfl, hb7⟩
end Sca
end Go.Proofs.YthhcjknkmdaeeaaDoor
