/-
  The program's numbers modulo L: a step of what is left over, walked.
-/
import Derived.Test.YthhcjknkmdaeeaaDoorSStep
import Derived.Test.YthhcjknkmdaeeaaDoorBsS
namespace Go.Proofs.YthhcjknkmdaeeaaDoor
open Go.RowKit
namespace Sca

def zs : Array Value := #[.int .u64 0, .int .u64 0, .int .u64 0, .int .u64 0]
theorem zs_eq : zs = ((lims 0).map nv).toArray := by kernel_rfl
theorem run_alloc_sc (f : Operand → Value) (o : Oper) (w : World) (ho : o.op = .alloc 24) :
    (execOp f o).run Tryd.prog w = .ok (.value (.pointer (some ⟨w.heap.size, 0, none⟩))) (w.alloc (.cells zs 24)) := by
  obtain ⟨dst, op, type, pos, after, guard⟩ := o
  obtain rfl : op = .alloc 24 := ho
  go_simp
  rfl

section
attribute [local go_sem ↓] load_sc

set_option maxRecDepth 100000 in
set_option maxHeartbeats 2000000 in
theorem step_any (v p g : Nat) (w : World) (hv : v < LL) (hp : p < 4294967296) (hG : HoldsN w 24 g (lims v)) (L0 : Laid w) (hg0 : 0 < g) :
    Calls Tryd.prog 34 #[.int .u64 (p : Int), .pointer (some ⟨g, 0, none⟩)] w fun e w' => e = .returned (fev (Tt v p % LL)) ∧ HoldsN w' 24 g (lims (Tt v p % LL)) ∧ Only g w w' := by
  have hR : HoldsN (w.alloc (.cells #[.int .u64 0, .int .u64 0, .int .u64 0, .int .u64 0] 24)) 24 w.heap.size (lims 0) := holdsN_new w _ _ _ _ rfl (by kernel_rfl)
  have hG1 := hG.alloc (.cells #[.int .u64 0, .int .u64 0, .int .u64 0, .int .u64 0] 24)
  have O1 := (Only.refl g w).new (Nat.le_of_lt hG.lt) (.cells #[.int .u64 0, .int .u64 0, .int .u64 0, .int .u64 0] 24)
  have hgw := hG.lt
  have LK : Hid (∀ W, Only g w W → Laid W) := Lib.hid fun W h => fun j hj => by
    have hb := h.other 0 (by have := L0.size; omega) (by omega)
    rw [show W.cell? ⟨0, j, none⟩ = w.cell? ⟨0, j, none⟩ from World.cell?_of_block (w := w) hb]
    exact L0 j hj
  have ST : Hid (∀ k, limb v k * 4294967296 % 18446744073709551616 + cy 4294967296 v 0 p k = limb (Tt v p) k ∧ limb v k / 4294967296 = cy 4294967296 v 0 p (k + 1) ∧ cy 4294967296 v 0 p k < 4294967296) := Lib.hid fun k => step_limb v p k hp
  have C0 : Hid (cy 4294967296 v 0 p 0 = p) := Lib.hid (cy_zero _ _ _ _)
  obtain ⟨tt1, tt2, tt3⟩ := tt_top hv hp
  have hTT : Tt v p < 124330809102446660538845562036705210025114037699336929360115994223289874253133343883264 := by unfold Tt; unfold LL at hv; omega
  have HL := Lib.hid (limb3_mod (Tt v p))
  have hy := limb_lt (Tt v p) 3
  obtain ⟨q, hq⟩ : ∃ q, q = Tt v p / 7237005577332262213973186563042994240829374041602535252466099000494570602496 := ⟨_, rfl⟩
  obtain ⟨r, hr⟩ : ∃ r, r = Tt v p % 7237005577332262213973186563042994240829374041602535252466099000494570602496 := ⟨_, rfl⟩
  have YES := Lib.hid (left_yes hq hr)
  have NO := Lib.hid (left_no hTT hq hr)
  have hqb : q < 18446744073709551616 := by rw [hq]; omega
  have hrb : r < big := by rw [hr]; exact Nat.lt_of_lt_of_le (Nat.mod_lt _ (by decide)) (by decide)
  have hqo : q * OV < big := by unfold OV big; omega
  rw [← hr] at HL
  rw [← hq] at tt1
  have OT : Hid (∀ W, Calls Tryd.prog 35 #[.int .u64 (q : Int)] W fun e w' => e = .returned (.agg ((lims (q * OV)).map nv).toArray) ∧ Below W.heap.size W w') := Lib.hid fun W => overTimes_any q W hqb
  have LS : Hid (∀ W, Calls Tryd.prog 27 #[.agg ((lims r).map nv).toArray, .agg ((lims (q * OV)).map nv).toArray] W fun e w' => e = .returned (.tuple #[.agg ((lims (r + big - q * OV)).map nv).toArray, .bool (decide (r < q * OV))]) ∧ Below W.heap.size W w') := Lib.hid fun W => less_any r (q * OV) W hrb hqo
  have PL : Hid (∀ W, Calls Tryd.prog 36 #[.agg ((lims (r + big - q * OV)).map nv).toArray, .agg ((lims LL).map nv).toArray] W fun e w' => e = .returned (.agg ((lims (r + big - q * OV + LL)).map nv).toArray) ∧ Below W.heap.size W w') := Lib.hid fun W => plus_any _ LL W
  clear hq hr hTT hrb hqo hqb hv hp
  rw [fev_eq]
  generalize q * OV = qo at *
  generalize r + big - qo = d at *
  generalize hdl : d + LL = dl at *
  clear hdl
  generalize Tt v p % LL = res at *
  go_enter Tryd.func34, Tryd.ntmps34
  go_wp2_with (first
    | (with_reducible refine wpList_load_n rfl 24 (.tmp 1) rfl g rfl (lims v) 4 (by with_unfolding_all exact hG1) rfl Tryd.underlying24 Tryd.infoSc ?_)
    | fail)
  go_loopw [0, 10] (fun vp vi wr => ∃ k : Nat, k ≤ 4 ∧ vi = .int .i64 (k : Int) ∧ vp = .int .u64 (cy 4294967296 v 0 p k : Int) ∧ HoldsN wr 24 g (mixL 4 (Tt v p) v k) ∧ HoldsN wr 24 w.heap.size (lims 0) ∧ Only g w wr)
    (fun _ vi _ => 4 - (intOf vi).toNat)
  case atStart => exact ⟨0, Nat.zero_le _, rfl, by rw [C0.out], hG1, hR, O1⟩
  case round =>
    clear hG hG1 hR O1
    obtain ⟨k, hk, rfl, rfl, hA, hR, hO⟩ := hrel
    by_cases hlt : k < 4
    · have hj2 : (k : Int) < 4 := by omega
      have ix := fun W => run_index_sc v k W hlt
      have ca := hA.cell (j := k) (by rw [mixL_length]; exact hlt)
      rw [mixL_get hlt, if_neg (Nat.lt_irrefl k)] at ca
      have hf := hA.frozen k
      have hL := Lib.hid (mixL_set (S := Tt v p) (M := v) hlt)
      obtain ⟨s1, s2, s3⟩ := ST.out k
      have hx := limb_lt v k
      clear tt1 tt2 tt3 hy
      generalize limb (Tt v p) k = s at *
      generalize limb v k = x at *
      generalize hc' : cy 4294967296 v 0 p (k + 1) = c' at *
      have HC := Lib.hid hc'
      clear hc'
      generalize cy 4294967296 v 0 p k = c at *
      obtain ⟨y, hy⟩ : ∃ y, y = x * 4294967296 % 18446744073709551616 := ⟨_, rfl⟩
      have w1 : IntKind.u64.wrap ((x : Int) * 4294967296) = (y : Int) := by rw [IntKind.wrap_u64]; omega
      have w2 : bits .or .u64 (y : Int) (c : Int) = (s : Int) := by
        rw [or_part y c (by omega) (by omega) s3, ← s1, hy]
      have w3 : (x : Int) / 4294967296 = (c' : Int) := by omega
      clear s1 s2 s3 hx hy
      go_wp2
      go_roundw
      case rel => exact ⟨k + 1, by omega, by go_num, by rw [HC.out], by rw [← hL.out]; exact hA.set k s, hR.setOther _ _ (by simp; omega), hO.set rfl _⟩
      case measure => simp [intOf]; omega
    · rw [show (k : Int) = 4 by omega]
      obtain rfl : k = 4 := by omega
      rw [lims_mix4] at hA
      have ca := hA.cell (j := 3) (by rw [lims_length]; omega)
      rw [lims_get _ (by omega)] at ca
      have hf := hA.frozen 3
      generalize limb (Tt v p) 3 = y at *
      generalize cy 4294967296 v 0 p 4 = c at *
      obtain ⟨yh, hyh⟩ : ∃ yh, yh = y / 1152921504606846976 := ⟨_, rfl⟩
      obtain ⟨yl, hyl⟩ : ∃ yl, yl = y % 1152921504606846976 := ⟨_, rfl⟩
      rw [← hyh] at tt1 tt3
      rw [← hyl] at HL
      have w0 : (y : Int) / 1152921504606846976 = (yh : Int) := by omega
      have w1 : IntKind.u64.wrap ((c : Int) * 16) = ((c * 16 : Nat) : Int) := by rw [IntKind.wrap_u64]; omega
      have w2 : bits .or .u64 ((c * 16 : Nat) : Int) (yh : Int) = (q : Int) := by rw [or_four c yh (by omega) tt3, tt1]
      have w3 : bits .and .u64 (y : Int) 1152921504606846975 = (yl : Int) := by rw [hyl]; exact and_high y hy
      clear tt1 tt2 tt3 hyh hyl hy
      generalize c * 16 = c16 at *
      go_upto_region 7 with (fail)
      go_cut [4] (fun vt wx => vt = .int .u64 (q : Int) ∧ HoldsN wx 24 g (lims r) ∧ HoldsN wx 24 w.heap.size (lims 0) ∧ Only g w wx)
      case first =>
        go_region
        go_wp2_with fail
        go_meet
        exact ⟨rfl, by rw [← HL.out]; exact (hA.drewN _).set 3 yl, (hR.drewN _).setOther _ _ (by simp; omega), (hO.drewN _).set rfl _⟩
      case rest =>
        obtain ⟨rfl, hA, hR, hO⟩ := hcut
        obtain ⟨w1, hw1⟩ : ∃ x, x = wc := ⟨_, rfl⟩
        subst hw1
        have F0 : Bs w1 w1.heap.size [(g, 24, ((lims r).map nv).toArray)] w1 := ⟨fun p hp => by
          obtain rfl : p = (g, 24, ((lims r).map nv).toArray) := by simpa using hp
          exact ⟨hA.lt, hA⟩, Nat.le_refl _, Nat.le_refl _, Below.refl _ _⟩
        go_upto_region 8 with (fail)
        go_cut [7, 8] (fun vp vb wx => ∃ g2, vp = .pointer (some ⟨g2, 0, none⟩) ∧ vb = .bool (decide (r < qo)) ∧ w1.heap.size ≤ g2 ∧ HoldsN wx 24 g2 (lims d) ∧ Below w1.heap.size w1 wx)
        case first =>
          refine wp_region_lexS 9 8 7 7 (MadeT 24 zs w1.heap.size 0) (HeldT 24 ((lims d).map nv).toArray w1.heap.size) (Bs w1 w1.heap.size [(g, 24, ((lims r).map nv).toArray)]) (by kernel_rfl) (by kernel_rfl) F0.drew Bs.stay MadeT.stayS HeldT.stay (made_tS run_alloc_sc Bs.size rfl) ?_
          simp only [List.take_succ_cons, List.take_zero, List.drop_succ_cons, List.drop_zero]
          refine lexS_value (v := ?_) (by rfl) (by rfl) (by rfl) (fun W hW => ?_) ?_
          rotate_left
          · have l1 := run_loadSc (hW.getN (g := g) (l := lims r) (by simp)); go_simp <;> with_reducible rfl
          simp only [Act.put, List.setIfInBounds_toArray, List.set_cons_zero, List.set_cons_succ]
          refine lexS_value (v := ?_) (by rfl) (by rfl) (by rfl) (fun W hW => ?_) ?_
          rotate_left
          · skip; go_simp <;> with_reducible rfl
          simp only [Act.put, List.setIfInBounds_toArray, List.set_cons_zero, List.set_cons_succ]
          refine' lexS_call (by rfl) (by rfl) (by rfl) (fun W hW => ?_) (fun W hW => ?_) ?_
          rotate_left 3
          · go_simp <;> first | with_reducible rfl | exact ⟨rfl, rfl⟩
          · with_reducible exact OT.out W
          simp only [Act.put, List.setIfInBounds_toArray, List.set_cons_zero, List.set_cons_succ]
          refine' lexS_call (by rfl) (by rfl) (by rfl) (fun W hW => ?_) (fun W hW => ?_) ?_
          rotate_left 3
          · go_simp <;> first | with_reducible rfl | exact ⟨rfl, rfl⟩
          · with_reducible exact LS.out W
          simp only [Act.put, List.setIfInBounds_toArray, List.set_cons_zero, List.set_cons_succ]
          refine lexS_value (v := ?_) (by rfl) (by rfl) (by rfl) (fun W hW => ?_) ?_
          rotate_left
          · skip; go_simp <;> with_reducible rfl
          simp only [Act.put, List.setIfInBounds_toArray, List.set_cons_zero, List.set_cons_succ]
          refine lexS_value (v := ?_) (by rfl) (by rfl) (by rfl) (fun W hW => ?_) ?_
          rotate_left
          · skip; go_simp <;> with_reducible rfl
          simp only [Act.put, List.setIfInBounds_toArray, List.set_cons_zero, List.set_cons_succ]
          refine lexS_value (v := ?_) (by rfl) (by rfl) (by rfl) (fun W hW => ?_) ?_
          rotate_left
          · skip; go_simp <;> with_reducible rfl
          simp only [Act.put, List.setIfInBounds_toArray, List.set_cons_zero, List.set_cons_succ]
          refine lexS_free (by rfl) ?_
          refine lexS_store (by rfl) (by rfl) (stores_t rfl (by rfl) (by simp) (by rfl) (by rw [Tryd.infoSc]; simp [lims_length]) (by simp [zs, lims_length]) (n_one _)) ?_
          simp only [Act.put]
          refine lexS_nil (fun W8 v8 F8 E8 => ?_)
          obtain ⟨g2, rfl, hg2, hX⟩ := E8
          simp only [List.setIfInBounds_toArray, List.set_cons_zero, List.set_cons_succ]
          go_wp2_with fail
          go_meet
          exact ⟨g2, rfl, rfl, hg2, hX, F8.below⟩
        case rest =>
          obtain ⟨g2, rfl, rfl, hg2, HD, b2⟩ := hcut
          obtain ⟨w2, hw2⟩ : ∃ x, x = wc := ⟨_, rfl⟩
          subst hw2
          have hA2 := hA.keep b2 hA.lt
          have hR2 := hR.keep b2 hR.lt
          have hO2 := hO.step b2 (Nat.le_of_lt hA.lt) hO.size
          have LO := run_loadOrder (LK.out w2 hO2)
          have hgn : g ≠ w.heap.size := by omega
          have hg2n : g < g2 := Nat.lt_of_lt_of_le hA.lt hg2
          have hg2r : w.heap.size < g2 := Nat.lt_of_lt_of_le hR.lt hg2
          clear F0 hA hR hO b2 OT LS
          by_cases h : r < qo
          · rw [decide_eq_true h]
            have hN := Lib.hid (NO.out h)
            rw [hN.out] at PL
            clear YES NO h hN
            go_wp2_with (first
              | (with_reducible refine wpList_load_n rfl 24 (.tmp 7) rfl g2 rfl (lims d) 4 HD rfl Tryd.underlying24 Tryd.infoSc ?_)
              | (go_at_call 36
                 with_reducible refine (PL.out _).mono ?_
                 rintro e w3 ⟨rfl, hb3⟩
                 have hA3 := hA2.keep hb3 hA2.lt
                 have hR3 := hR2.keep hb3 hR2.lt
                 have HD3 := HD.keep hb3 HD.lt
                 have hO3 := hO2.step hb3 (Nat.le_of_lt hA2.lt) hO2.size)
              | (with_reducible refine wpList_store_n rfl 24 (.tmp 7) (.tmp 43) rfl g2 (lims res) 4 rfl rfl rfl (lims d) HD3 Tryd.infoSc rfl g w hO3.below (Nat.le_of_lt hg2n) ?_
                 intro w4 HD4 o4 s4 b4
                 have hA4 := hA3.oth o4 (by omega)
                 have hR4 := hR3.oth o4 (by omega)
                 have hO4 := hO3.othNew (Nat.le_of_lt hg2r) o4 b4
                 clear s4)
              | (with_reducible refine wpList_load_n rfl 24 (.tmp 7) rfl g2 rfl (lims res) 4 HD4 rfl Tryd.underlying24 Tryd.infoSc ?_)
              | (with_reducible refine wpList_store_n rfl 24 (.tmp 1) (.tmp 44) rfl g (lims res) 4 rfl rfl rfl (lims r) hA4 Tryd.infoSc rfl g w hO4.below (Nat.le_refl _) ?_
                 intro w5 hA5 o5 s5 b5
                 have hR5 := hR4.oth o5 (by omega)
                 have hO5 := hO4.oth o5 b5
                 clear s5)
              | (with_reducible refine wpList_load_n rfl 24 (.tmp 1) rfl g rfl (lims res) 4 hA5 rfl Tryd.underlying24 Tryd.infoSc ?_)
              | (with_reducible refine wpList_store_n rfl 24 (.tmp 3) (.tmp 45) rfl w.heap.size (lims res) 4 rfl rfl rfl (lims 0) hR5 Tryd.infoSc rfl g w hO5.below (by omega) ?_
                 intro w6 hR6 o6 s6 b6
                 have hA6 := hA5.oth o6 (by omega)
                 have hO6 := hO5.othNew (Nat.le_refl _) o6 b6
                 clear s6)
              | fail)
            exact bodyPost_ret (results_cell_row rfl _ _ _ _ _ _ _ rfl hR6 Tryd.underlying24 rfl (by rw [Tryd.infoSc]; rfl)) rfl ⟨rfl, hA6, hO6⟩
          · rw [decide_eq_false h]
            have hN := Lib.hid (YES.out h)
            rw [hN.out] at HD
            clear YES NO h hN PL
            go_wp2_with (first
              | (with_reducible refine wpList_load_n rfl 24 (.tmp 7) rfl g2 rfl (lims res) 4 HD rfl Tryd.underlying24 Tryd.infoSc ?_)
              | (with_reducible refine wpList_store_n rfl 24 (.tmp 1) (.tmp 44) rfl g (lims res) 4 rfl rfl rfl (lims r) hA2 Tryd.infoSc rfl g w hO2.below (Nat.le_refl _) ?_
                 intro w5 hA5 o5 s5 b5
                 have hR5 := hR2.oth o5 (by omega)
                 have hO5 := hO2.oth o5 b5
                 clear s5)
              | (with_reducible refine wpList_load_n rfl 24 (.tmp 1) rfl g rfl (lims res) 4 hA5 rfl Tryd.underlying24 Tryd.infoSc ?_)
              | (with_reducible refine wpList_store_n rfl 24 (.tmp 3) (.tmp 45) rfl w.heap.size (lims res) 4 rfl rfl rfl (lims 0) hR5 Tryd.infoSc rfl g w hO5.below (by omega) ?_
                 intro w6 hR6 o6 s6 b6
                 have hA6 := hA5.oth o6 (by omega)
                 have hO6 := hO5.othNew (Nat.le_refl _) o6 b6
                 clear s6)
              | fail)
            exact bodyPost_ret (results_cell_row rfl _ _ _ _ _ _ _ rfl hR6 Tryd.underlying24 rfl (by rw [Tryd.infoSc]; rfl)) rfl ⟨rfl, hA6, hO6⟩
end
end Sca
end Go.Proofs.YthhcjknkmdaeeaaDoor
