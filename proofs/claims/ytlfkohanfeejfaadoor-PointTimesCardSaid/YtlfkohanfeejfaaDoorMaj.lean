/-
  The document's curve: the sum of two points of three numbers.
-/
import Derived.Test.YtlfkohanfeejfaaDoorMai
namespace Go.Proofs.YtlfkohanfeejfaaDoor
open Go.RowKit

theorem Tryd.infoWd : (Tryd.prog.info? 76).map (·.size) = some 12 := by kernel_rfl
theorem Tryd.builtWd (x y z : Nat) : Tryd.prog.built 76 [(0, .agg ((lims x).map nv).toArray), (1, .agg ((lims y).map nv).toArray), (2, .agg ((lims z).map nv).toArray)] = some ((limsL [x, y, z]).map nv).toArray := by kernel_rfl
/-- A point of three numbers. -/
def wdv (t : Wd) : Value := .agg ((limsL [t.1.val, t.2.1.val, t.2.2.val]).map nv).toArray
theorem toF_one : toF 1 = 1 := rfl

section
attribute [local go_sem ↓] load_fe

set_option maxRecDepth 100000 in
set_option maxHeartbeats 8000000 in
theorem rsum_el (x1 y1 z1 x2 y2 z2 : F) (w : World) :
    Calls Tryd.prog 69 #[.agg ((limsL [x1.val, y1.val, z1.val]).map nv).toArray, .agg ((limsL [x2.val, y2.val, z2.val]).map nv).toArray] w fun e w' => e = .returned (wdv (wsum (x1, y1, z1) (x2, y2, z2))) ∧ Below w.heap.size w w' := by
  obtain ⟨e1, he1⟩ : ∃ zz : F, zz = z1 * z2 := ⟨_, rfl⟩
  obtain ⟨e2, he2⟩ : ∃ zz : F, zz = e1 * e1 := ⟨_, rfl⟩
  obtain ⟨e3, he3⟩ : ∃ zz : F, zz = x1 * x2 := ⟨_, rfl⟩
  obtain ⟨e4, he4⟩ : ∃ zz : F, zz = y1 * y2 := ⟨_, rfl⟩
  obtain ⟨e6, he6⟩ : ∃ zz : F, zz = e3 * e4 := ⟨_, rfl⟩
  obtain ⟨e7, he7⟩ : ∃ zz : F, zz = dd * e6 := ⟨_, rfl⟩
  obtain ⟨e8, he8⟩ : ∃ zz : F, zz = e2 - e7 := ⟨_, rfl⟩
  obtain ⟨e9, he9⟩ : ∃ zz : F, zz = e2 + e7 := ⟨_, rfl⟩
  obtain ⟨e10, he10⟩ : ∃ zz : F, zz = x1 * y2 := ⟨_, rfl⟩
  obtain ⟨e11, he11⟩ : ∃ zz : F, zz = y1 * x2 := ⟨_, rfl⟩
  obtain ⟨e12, he12⟩ : ∃ zz : F, zz = e10 + e11 := ⟨_, rfl⟩
  obtain ⟨e13, he13⟩ : ∃ zz : F, zz = e4 + e3 := ⟨_, rfl⟩
  obtain ⟨e14, he14⟩ : ∃ zz : F, zz = e12 * e8 := ⟨_, rfl⟩
  obtain ⟨e15, he15⟩ : ∃ zz : F, zz = e1 * e14 := ⟨_, rfl⟩
  obtain ⟨e16, he16⟩ : ∃ zz : F, zz = e13 * e9 := ⟨_, rfl⟩
  obtain ⟨e17, he17⟩ : ∃ zz : F, zz = e1 * e16 := ⟨_, rfl⟩
  obtain ⟨e18, he18⟩ : ∃ zz : F, zz = e8 * e9 := ⟨_, rfl⟩
  have hgoal : wsum (x1, y1, z1) (x2, y2, z2) = (e15, e17, e18) := by
    subst he1 he2 he3 he4 he6 he7 he8 he9 he10 he11 he12 he13 he14 he15 he16 he17 he18
    rfl
  have K1 : Hid (∀ W, Calls Tryd.prog 26 #[.agg ((lims z1.val).map nv).toArray, .agg ((lims z2.val).map nv).toArray] W fun e w' => e = .returned (.agg ((lims e1.val).map nv).toArray) ∧ Below W.heap.size W w') := Lib.hid fun W => by
    have h := rMul_any z1.val z2.val W (F.lt_big _) (F.lt_big _)
    simp only [toF_of] at h
    rw [← he1] at h
    exact h
  have K2 : Hid (∀ W, Calls Tryd.prog 26 #[.agg ((lims e1.val).map nv).toArray, .agg ((lims e1.val).map nv).toArray] W fun e w' => e = .returned (.agg ((lims e2.val).map nv).toArray) ∧ Below W.heap.size W w') := Lib.hid fun W => by
    have h := rMul_any e1.val e1.val W (F.lt_big _) (F.lt_big _)
    simp only [toF_of] at h
    rw [← he2] at h
    exact h
  have K3 : Hid (∀ W, Calls Tryd.prog 26 #[.agg ((lims x1.val).map nv).toArray, .agg ((lims x2.val).map nv).toArray] W fun e w' => e = .returned (.agg ((lims e3.val).map nv).toArray) ∧ Below W.heap.size W w') := Lib.hid fun W => by
    have h := rMul_any x1.val x2.val W (F.lt_big _) (F.lt_big _)
    simp only [toF_of] at h
    rw [← he3] at h
    exact h
  have K4 : Hid (∀ W, Calls Tryd.prog 26 #[.agg ((lims y1.val).map nv).toArray, .agg ((lims y2.val).map nv).toArray] W fun e w' => e = .returned (.agg ((lims e4.val).map nv).toArray) ∧ Below W.heap.size W w') := Lib.hid fun W => by
    have h := rMul_any y1.val y2.val W (F.lt_big _) (F.lt_big _)
    simp only [toF_of] at h
    rw [← he4] at h
    exact h
  have K5 : Hid (∀ W, Calls Tryd.prog 30 #[] W fun e w' => e = .returned (.agg ((lims dd.val).map nv).toArray) ∧ Below W.heap.size W w') := Lib.hid fun W => rDee_any W
  have K6 : Hid (∀ W, Calls Tryd.prog 26 #[.agg ((lims e3.val).map nv).toArray, .agg ((lims e4.val).map nv).toArray] W fun e w' => e = .returned (.agg ((lims e6.val).map nv).toArray) ∧ Below W.heap.size W w') := Lib.hid fun W => by
    have h := rMul_any e3.val e4.val W (F.lt_big _) (F.lt_big _)
    simp only [toF_of] at h
    rw [← he6] at h
    exact h
  have K7 : Hid (∀ W, Calls Tryd.prog 26 #[.agg ((lims dd.val).map nv).toArray, .agg ((lims e6.val).map nv).toArray] W fun e w' => e = .returned (.agg ((lims e7.val).map nv).toArray) ∧ Below W.heap.size W w') := Lib.hid fun W => by
    have h := rMul_any dd.val e6.val W (F.lt_big _) (F.lt_big _)
    simp only [toF_of] at h
    rw [← he7] at h
    exact h
  have K8 : Hid (∀ W, Calls Tryd.prog 28 #[.agg ((lims e2.val).map nv).toArray, .agg ((lims e7.val).map nv).toArray] W fun e w' => e = .returned (.agg ((lims e8.val).map nv).toArray) ∧ Below W.heap.size W w') := Lib.hid fun W => by
    have h := rSub_any e2.val e7.val W (F.lt_big _) (F.lt_big _)
    simp only [toF_of] at h
    rw [← he8] at h
    exact h
  have K9 : Hid (∀ W, Calls Tryd.prog 29 #[.agg ((lims e2.val).map nv).toArray, .agg ((lims e7.val).map nv).toArray] W fun e w' => e = .returned (.agg ((lims e9.val).map nv).toArray) ∧ Below W.heap.size W w') := Lib.hid fun W => by
    have h := rAdd_any e2.val e7.val W (F.lt_big _) (F.lt_big _)
    simp only [toF_of] at h
    rw [← he9] at h
    exact h
  have K10 : Hid (∀ W, Calls Tryd.prog 26 #[.agg ((lims x1.val).map nv).toArray, .agg ((lims y2.val).map nv).toArray] W fun e w' => e = .returned (.agg ((lims e10.val).map nv).toArray) ∧ Below W.heap.size W w') := Lib.hid fun W => by
    have h := rMul_any x1.val y2.val W (F.lt_big _) (F.lt_big _)
    simp only [toF_of] at h
    rw [← he10] at h
    exact h
  have K11 : Hid (∀ W, Calls Tryd.prog 26 #[.agg ((lims y1.val).map nv).toArray, .agg ((lims x2.val).map nv).toArray] W fun e w' => e = .returned (.agg ((lims e11.val).map nv).toArray) ∧ Below W.heap.size W w') := Lib.hid fun W => by
    have h := rMul_any y1.val x2.val W (F.lt_big _) (F.lt_big _)
    simp only [toF_of] at h
    rw [← he11] at h
    exact h
  have K12 : Hid (∀ W, Calls Tryd.prog 29 #[.agg ((lims e10.val).map nv).toArray, .agg ((lims e11.val).map nv).toArray] W fun e w' => e = .returned (.agg ((lims e12.val).map nv).toArray) ∧ Below W.heap.size W w') := Lib.hid fun W => by
    have h := rAdd_any e10.val e11.val W (F.lt_big _) (F.lt_big _)
    simp only [toF_of] at h
    rw [← he12] at h
    exact h
  have K13 : Hid (∀ W, Calls Tryd.prog 29 #[.agg ((lims e4.val).map nv).toArray, .agg ((lims e3.val).map nv).toArray] W fun e w' => e = .returned (.agg ((lims e13.val).map nv).toArray) ∧ Below W.heap.size W w') := Lib.hid fun W => by
    have h := rAdd_any e4.val e3.val W (F.lt_big _) (F.lt_big _)
    simp only [toF_of] at h
    rw [← he13] at h
    exact h
  have K14 : Hid (∀ W, Calls Tryd.prog 26 #[.agg ((lims e12.val).map nv).toArray, .agg ((lims e8.val).map nv).toArray] W fun e w' => e = .returned (.agg ((lims e14.val).map nv).toArray) ∧ Below W.heap.size W w') := Lib.hid fun W => by
    have h := rMul_any e12.val e8.val W (F.lt_big _) (F.lt_big _)
    simp only [toF_of] at h
    rw [← he14] at h
    exact h
  have K15 : Hid (∀ W, Calls Tryd.prog 26 #[.agg ((lims e1.val).map nv).toArray, .agg ((lims e14.val).map nv).toArray] W fun e w' => e = .returned (.agg ((lims e15.val).map nv).toArray) ∧ Below W.heap.size W w') := Lib.hid fun W => by
    have h := rMul_any e1.val e14.val W (F.lt_big _) (F.lt_big _)
    simp only [toF_of] at h
    rw [← he15] at h
    exact h
  have K16 : Hid (∀ W, Calls Tryd.prog 26 #[.agg ((lims e13.val).map nv).toArray, .agg ((lims e9.val).map nv).toArray] W fun e w' => e = .returned (.agg ((lims e16.val).map nv).toArray) ∧ Below W.heap.size W w') := Lib.hid fun W => by
    have h := rMul_any e13.val e9.val W (F.lt_big _) (F.lt_big _)
    simp only [toF_of] at h
    rw [← he16] at h
    exact h
  have K17 : Hid (∀ W, Calls Tryd.prog 26 #[.agg ((lims e1.val).map nv).toArray, .agg ((lims e16.val).map nv).toArray] W fun e w' => e = .returned (.agg ((lims e17.val).map nv).toArray) ∧ Below W.heap.size W w') := Lib.hid fun W => by
    have h := rMul_any e1.val e16.val W (F.lt_big _) (F.lt_big _)
    simp only [toF_of] at h
    rw [← he17] at h
    exact h
  have K18 : Hid (∀ W, Calls Tryd.prog 26 #[.agg ((lims e8.val).map nv).toArray, .agg ((lims e9.val).map nv).toArray] W fun e w' => e = .returned (.agg ((lims e18.val).map nv).toArray) ∧ Below W.heap.size W w') := Lib.hid fun W => by
    have h := rMul_any e8.val e9.val W (F.lt_big _) (F.lt_big _)
    simp only [toF_of] at h
    rw [← he18] at h
    exact h
  rw [hgoal]
  unfold wdv
  clear hgoal he18 he17 he16 he15 he14 he13 he12 he11 he10 he9 he8 he7 he6 he4 he3 he2 he1
  generalize dd = dd at *
  have hbuilt := Lib.hid (Tryd.builtWd e15.val e17.val e18.val)
  have F1 : Bs w (w.heap.size + 1 + 1 + 1) [(w.heap.size + 1 + 1, 76, ((limsL [0, 0, 0]).map nv).toArray), (w.heap.size + 1, 76, ((limsL [x2.val, y2.val, z2.val]).map nv).toArray), (w.heap.size, 76, ((limsL [x1.val, y1.val, z1.val]).map nv).toArray)] (((w.alloc (.cells ((limsL [x1.val, y1.val, z1.val]).map nv).toArray 76)).alloc (.cells ((limsL [x2.val, y2.val, z2.val]).map nv).toArray 76)).alloc (.cells #[.int .u64 0, .int .u64 0, .int .u64 0, .int .u64 0, .int .u64 0, .int .u64 0, .int .u64 0, .int .u64 0, .int .u64 0, .int .u64 0, .int .u64 0, .int .u64 0] 76)) :=
    ((Bs.nil.alloc rfl).alloc (World.size_alloc ..).symm).alloc (by rw [World.size_alloc, World.size_alloc])
  go_enter Tryd.func69, Tryd.ntmps69
  go_upto_region 1 with (fail)
  generalize (((w.alloc (.cells ((limsL [x1.val, y1.val, z1.val]).map nv).toArray 76)).alloc (.cells ((limsL [x2.val, y2.val, z2.val]).map nv).toArray 76)).alloc (.cells #[.int .u64 0, .int .u64 0, .int .u64 0, .int .u64 0, .int .u64 0, .int .u64 0, .int .u64 0, .int .u64 0, .int .u64 0, .int .u64 0, .int .u64 0, .int .u64 0] 76)) = wv at *
  have hL1 : wv.rangeAt (w.heap.size) 8 ((lims z1.val).map nv) := range_at (F1.getN (g := w.heap.size) (l := limsL [x1.val, y1.val, z1.val]) (by repeat (first | exact List.mem_cons_self .. | refine List.mem_cons_of_mem _ ?_))) 2 (by simp)
  have hL3 : wv.rangeAt (w.heap.size + 1) 8 ((lims z2.val).map nv) := range_at (F1.getN (g := w.heap.size + 1) (l := limsL [x2.val, y2.val, z2.val]) (by repeat (first | exact List.mem_cons_self .. | refine List.mem_cons_of_mem _ ?_))) 2 (by simp)
  go_upto_region 2 with (first
    | (with_reducible refine wpList_load_mid rfl 24 (.tmp 14) rfl (w.heap.size) 8 rfl ((lims z1.val).map nv) _ hL1 Tryd.underlying24 rfl (by rw [Tryd.infoFe, List.length_map, lims_length]) ?_)
    | (with_reducible refine wpList_load_mid rfl 24 (.tmp 16) rfl (w.heap.size + 1) 8 rfl ((lims z2.val).map nv) _ hL3 Tryd.underlying24 rfl (by rw [Tryd.infoFe, List.length_map, lims_length]) ?_)
    | (go_at_call 26
       with_reducible refine (K1.out _).mono ?_
       rintro e w2 ⟨rfl, hb2⟩
       have F2 := Bs.stay _ _ F1 hb2
       have F2a := Bs.stay _ _ F2 ((Below.refl _ w2).alloc (Nat.le_refl _) (.cells #[.int .u64 0, .int .u64 0, .int .u64 0, .int .u64 0] 24))
       have z2 := fe_new w2)
    | (with_reducible refine wpList_store_n rfl 24 (.tmp 5) (.tmp 18) rfl w2.heap.size (lims e1.val) 4 rfl rfl rfl (lims 0) (by with_unfolding_all exact z2) Tryd.infoFe rfl w.heap.size w (by with_unfolding_all exact F2a.below) F2.below.size ?_
       intro w3 H3 o3 s3 b3
       have F3 := Bs.add (by with_unfolding_all exact F2a) F2.len H3 o3 b3
       clear s3)
    | fail)
  have hg2 := F2.len
  clear hL1 hL3 hb2 F1 F2a z2 o3 H3 b3 F2
  generalize w2.heap.size = g5 at *
  have hL0 := F3.getN (g := g5) (l := lims e1.val) (by repeat (first | exact List.mem_cons_self .. | refine List.mem_cons_of_mem _ ?_))
  go_upto_region 3 with (first
    | (with_reducible refine wpList_load_n rfl 24 (.tmp 5) rfl g5 rfl (lims e1.val) 4 hL0 rfl Tryd.underlying24 Tryd.infoFe ?_)
    | (go_at_call 26
       with_reducible refine (K2.out _).mono ?_
       rintro e w4 ⟨rfl, hb4⟩
       have F4 := Bs.stay _ _ F3 hb4
       have F4a := Bs.stay _ _ F4 ((Below.refl _ w4).alloc (Nat.le_refl _) (.cells #[.int .u64 0, .int .u64 0, .int .u64 0, .int .u64 0] 24))
       have z4 := fe_new w4)
    | (with_reducible refine wpList_store_n rfl 24 (.tmp 6) (.tmp 21) rfl w4.heap.size (lims e2.val) 4 rfl rfl rfl (lims 0) (by with_unfolding_all exact z4) Tryd.infoFe rfl w.heap.size w (by with_unfolding_all exact F4a.below) F4.below.size ?_
       intro w5 H5 o5 s5 b5
       have F5 := Bs.add (by with_unfolding_all exact F4a) F4.len H5 o5 b5
       clear s5)
    | fail)
  have hg4 := F4.len
  clear hL0 hb4 F3 F4a z4 o5 H5 b5 F4
  generalize w4.heap.size = g6 at *
  have hL1 : w5.rangeAt (w.heap.size) 0 ((lims x1.val).map nv) := range_at (F5.getN (g := w.heap.size) (l := limsL [x1.val, y1.val, z1.val]) (by repeat (first | exact List.mem_cons_self .. | refine List.mem_cons_of_mem _ ?_))) 0 (by simp)
  have hL3 : w5.rangeAt (w.heap.size + 1) 0 ((lims x2.val).map nv) := range_at (F5.getN (g := w.heap.size + 1) (l := limsL [x2.val, y2.val, z2.val]) (by repeat (first | exact List.mem_cons_self .. | refine List.mem_cons_of_mem _ ?_))) 0 (by simp)
  go_upto_region 4 with (first
    | (with_reducible refine wpList_load_mid rfl 24 (.tmp 22) rfl (w.heap.size) 0 rfl ((lims x1.val).map nv) _ hL1 Tryd.underlying24 rfl (by rw [Tryd.infoFe, List.length_map, lims_length]) ?_)
    | (with_reducible refine wpList_load_mid rfl 24 (.tmp 24) rfl (w.heap.size + 1) 0 rfl ((lims x2.val).map nv) _ hL3 Tryd.underlying24 rfl (by rw [Tryd.infoFe, List.length_map, lims_length]) ?_)
    | (go_at_call 26
       with_reducible refine (K3.out _).mono ?_
       rintro e w6 ⟨rfl, hb6⟩
       have F6 := Bs.stay _ _ F5 hb6
       have F6a := Bs.stay _ _ F6 ((Below.refl _ w6).alloc (Nat.le_refl _) (.cells #[.int .u64 0, .int .u64 0, .int .u64 0, .int .u64 0] 24))
       have z6 := fe_new w6)
    | (with_reducible refine wpList_store_n rfl 24 (.tmp 7) (.tmp 26) rfl w6.heap.size (lims e3.val) 4 rfl rfl rfl (lims 0) (by with_unfolding_all exact z6) Tryd.infoFe rfl w.heap.size w (by with_unfolding_all exact F6a.below) F6.below.size ?_
       intro w7 H7 o7 s7 b7
       have F7 := Bs.add (by with_unfolding_all exact F6a) F6.len H7 o7 b7
       clear s7)
    | fail)
  have hg6 := F6.len
  clear hL1 hL3 hb6 F5 F6a z6 o7 H7 b7 F6
  generalize w6.heap.size = g7 at *
  have hL1 : w7.rangeAt (w.heap.size) 4 ((lims y1.val).map nv) := range_at (F7.getN (g := w.heap.size) (l := limsL [x1.val, y1.val, z1.val]) (by repeat (first | exact List.mem_cons_self .. | refine List.mem_cons_of_mem _ ?_))) 1 (by simp)
  have hL3 : w7.rangeAt (w.heap.size + 1) 4 ((lims y2.val).map nv) := range_at (F7.getN (g := w.heap.size + 1) (l := limsL [x2.val, y2.val, z2.val]) (by repeat (first | exact List.mem_cons_self .. | refine List.mem_cons_of_mem _ ?_))) 1 (by simp)
  go_upto_region 5 with (first
    | (with_reducible refine wpList_load_mid rfl 24 (.tmp 27) rfl (w.heap.size) 4 rfl ((lims y1.val).map nv) _ hL1 Tryd.underlying24 rfl (by rw [Tryd.infoFe, List.length_map, lims_length]) ?_)
    | (with_reducible refine wpList_load_mid rfl 24 (.tmp 29) rfl (w.heap.size + 1) 4 rfl ((lims y2.val).map nv) _ hL3 Tryd.underlying24 rfl (by rw [Tryd.infoFe, List.length_map, lims_length]) ?_)
    | (go_at_call 26
       with_reducible refine (K4.out _).mono ?_
       rintro e w8 ⟨rfl, hb8⟩
       have F8 := Bs.stay _ _ F7 hb8
       have F8a := Bs.stay _ _ F8 ((Below.refl _ w8).alloc (Nat.le_refl _) (.cells #[.int .u64 0, .int .u64 0, .int .u64 0, .int .u64 0] 24))
       have z8 := fe_new w8)
    | (with_reducible refine wpList_store_n rfl 24 (.tmp 8) (.tmp 31) rfl w8.heap.size (lims e4.val) 4 rfl rfl rfl (lims 0) (by with_unfolding_all exact z8) Tryd.infoFe rfl w.heap.size w (by with_unfolding_all exact F8a.below) F8.below.size ?_
       intro w9 H9 o9 s9 b9
       have F9 := Bs.add (by with_unfolding_all exact F8a) F8.len H9 o9 b9
       clear s9)
    | fail)
  have hg8 := F8.len
  clear hL1 hL3 hb8 F7 F8a z8 o9 H9 b9 F8
  generalize w8.heap.size = g8 at *
  try dsimp only [Act.put]
  go_cut [9] (fun vp wx => ∃ g, vp = .pointer (some ⟨g, 0, none⟩) ∧ Bs w (g + 1) [(g, 24, ((lims e7.val).map nv).toArray), (g8, 24, ((lims e4.val).map nv).toArray), (g7, 24, ((lims e3.val).map nv).toArray), (g6, 24, ((lims e2.val).map nv).toArray), (g5, 24, ((lims e1.val).map nv).toArray), (w.heap.size + 1 + 1, 76, ((limsL [0, 0, 0]).map nv).toArray), (w.heap.size + 1, 76, ((limsL [x2.val, y2.val, z2.val]).map nv).toArray), (w.heap.size, 76, ((limsL [x1.val, y1.val, z1.val]).map nv).toArray)] wx)
  case first =>
    refine wp_region_lex 6 (fun k => k == 5) (MadeT 24 #[.int .u64 0, .int .u64 0, .int .u64 0, .int .u64 0] (g8 + 1)) (Bs w (g8 + 1) [(g8, 24, ((lims e4.val).map nv).toArray), (g7, 24, ((lims e3.val).map nv).toArray), (g6, 24, ((lims e2.val).map nv).toArray), (g5, 24, ((lims e1.val).map nv).toArray), (w.heap.size + 1 + 1, 76, ((limsL [0, 0, 0]).map nv).toArray), (w.heap.size + 1, 76, ((limsL [x2.val, y2.val, z2.val]).map nv).toArray), (w.heap.size, 76, ((limsL [x1.val, y1.val, z1.val]).map nv).toArray)]) (by kernel_rfl) (by kernel_rfl) F9.drew Bs.stay MadeT.stay (made_t run_alloc_fe' Bs.size rfl) ?_
    simp only [List.take_succ_cons, List.take_zero, List.drop_succ_cons, List.drop_zero]
    refine' lexW_call (by rfl) (by rfl) (fun W hW => ?_) (fun W hW => ?_) ?_
    rotate_left 3
    · go_simp <;> first | with_reducible rfl | exact ⟨rfl, rfl⟩
    · with_reducible exact K5.out W
    simp only [Act.put, List.setIfInBounds_toArray, List.set_cons_zero, List.set_cons_succ]
    refine lexW_value (v := ?_) (by rfl) (by rfl) (fun W hW => ?_) ?_
    rotate_left
    · have l1 := run_loadFe (hW.getN (g := g7) (l := lims e3.val) (by repeat (first | exact List.mem_cons_self .. | refine List.mem_cons_of_mem _ ?_))); go_simp <;> with_reducible rfl
    simp only [Act.put, List.setIfInBounds_toArray, List.set_cons_zero, List.set_cons_succ]
    refine lexW_value (v := ?_) (by rfl) (by rfl) (fun W hW => ?_) ?_
    rotate_left
    · have l1 := run_loadFe (hW.getN (g := g8) (l := lims e4.val) (by repeat (first | exact List.mem_cons_self .. | refine List.mem_cons_of_mem _ ?_))); go_simp <;> with_reducible rfl
    simp only [Act.put, List.setIfInBounds_toArray, List.set_cons_zero, List.set_cons_succ]
    refine' lexW_call (by rfl) (by rfl) (fun W hW => ?_) (fun W hW => ?_) ?_
    rotate_left 3
    · go_simp <;> first | with_reducible rfl | exact ⟨rfl, rfl⟩
    · with_reducible exact K6.out W
    simp only [Act.put, List.setIfInBounds_toArray, List.set_cons_zero, List.set_cons_succ]
    refine' lexW_call (by rfl) (by rfl) (fun W hW => ?_) (fun W hW => ?_) ?_
    rotate_left 3
    · go_simp <;> first | with_reducible rfl | exact ⟨rfl, rfl⟩
    · with_reducible exact K7.out W
    simp only [Act.put, List.setIfInBounds_toArray, List.set_cons_zero, List.set_cons_succ]
    refine lexW_free (by rfl) ?_
    refine lexW_nil (fun b8 W8 F8x E8 => ?_)
    obtain ⟨_, ⟨g, rfl, hg, hZ⟩, rfl⟩ := lexEnd_one (j := 5) (d := 9) (by kernel_rfl) E8
    have hp8 := F8x.pos
    have hZ : HoldsN W8 24 g (lims 0) := hZ
    simp only [Act.put, List.setIfInBounds_toArray, List.set_cons_zero, List.set_cons_succ]
    go_wp2_with (with_reducible refine wpList_store_n rfl 24 (.tmp 9) (.tmp 36) rfl g (lims e7.val) 4 rfl rfl rfl (lims 0) hZ Tryd.infoFe rfl w.heap.size w F8x.below (by omega) ?_; intro w9x H9 o9 _ b9)
    go_meet
    exact ⟨g, rfl, F8x.add hg H9 o9 b9⟩
  case rest =>
    obtain ⟨g9, rfl, F10⟩ := hcut
    have hg9x := F10.pos
    clear F9
    go_upto_region 6 with (fail)
    have hL0 := F10.getN (g := g6) (l := lims e2.val) (by repeat (first | exact List.mem_cons_self .. | refine List.mem_cons_of_mem _ ?_))
    have hL1 := F10.getN (g := g9) (l := lims e7.val) (by repeat (first | exact List.mem_cons_self .. | refine List.mem_cons_of_mem _ ?_))
    go_upto_region 7 with (first
      | (with_reducible refine wpList_load_n rfl 24 (.tmp 6) rfl g6 rfl (lims e2.val) 4 hL0 rfl Tryd.underlying24 Tryd.infoFe ?_)
      | (with_reducible refine wpList_load_n rfl 24 (.tmp 9) rfl g9 rfl (lims e7.val) 4 hL1 rfl Tryd.underlying24 Tryd.infoFe ?_)
      | (go_at_call 28
         with_reducible refine (K8.out _).mono ?_
         rintro e w11 ⟨rfl, hb11⟩
         have F11 := Bs.stay _ _ F10 hb11
         have F11a := Bs.stay _ _ F11 ((Below.refl _ w11).alloc (Nat.le_refl _) (.cells #[.int .u64 0, .int .u64 0, .int .u64 0, .int .u64 0] 24))
         have z11 := fe_new w11)
      | (with_reducible refine wpList_store_n rfl 24 (.tmp 10) (.tmp 39) rfl w11.heap.size (lims e8.val) 4 rfl rfl rfl (lims 0) (by with_unfolding_all exact z11) Tryd.infoFe rfl w.heap.size w (by with_unfolding_all exact F11a.below) F11.below.size ?_
         intro w12 H12 o12 s12 b12
         have F12 := Bs.add (by with_unfolding_all exact F11a) F11.len H12 o12 b12
         clear s12)
      | fail)
    have hg11 := F11.len
    clear hL0 hL1 hb11 F10 F11a z11 o12 H12 b12 F11
    generalize w11.heap.size = g10 at *
    have hL0 := F12.getN (g := g6) (l := lims e2.val) (by repeat (first | exact List.mem_cons_self .. | refine List.mem_cons_of_mem _ ?_))
    have hL1 := F12.getN (g := g9) (l := lims e7.val) (by repeat (first | exact List.mem_cons_self .. | refine List.mem_cons_of_mem _ ?_))
    go_upto_region 8 with (first
      | (with_reducible refine wpList_load_n rfl 24 (.tmp 6) rfl g6 rfl (lims e2.val) 4 hL0 rfl Tryd.underlying24 Tryd.infoFe ?_)
      | (with_reducible refine wpList_load_n rfl 24 (.tmp 9) rfl g9 rfl (lims e7.val) 4 hL1 rfl Tryd.underlying24 Tryd.infoFe ?_)
      | (go_at_call 29
         with_reducible refine (K9.out _).mono ?_
         rintro e w13 ⟨rfl, hb13⟩
         have F13 := Bs.stay _ _ F12 hb13
         have F13a := Bs.stay _ _ F13 ((Below.refl _ w13).alloc (Nat.le_refl _) (.cells #[.int .u64 0, .int .u64 0, .int .u64 0, .int .u64 0] 24))
         have z13 := fe_new w13)
      | (with_reducible refine wpList_store_n rfl 24 (.tmp 11) (.tmp 42) rfl w13.heap.size (lims e9.val) 4 rfl rfl rfl (lims 0) (by with_unfolding_all exact z13) Tryd.infoFe rfl w.heap.size w (by with_unfolding_all exact F13a.below) F13.below.size ?_
         intro w14 H14 o14 s14 b14
         have F14 := Bs.add (by with_unfolding_all exact F13a) F13.len H14 o14 b14
         clear s14)
      | fail)
    have hg13 := F13.len
    clear hL0 hL1 hb13 F12 F13a z13 o14 H14 b14 F13
    generalize w13.heap.size = g11 at *
    try dsimp only [Act.put]
    go_cut [12] (fun vp wx => ∃ g, vp = .pointer (some ⟨g, 0, none⟩) ∧ Bs w (g + 1) [(g, 24, ((lims e12.val).map nv).toArray), (g11, 24, ((lims e9.val).map nv).toArray), (g10, 24, ((lims e8.val).map nv).toArray), (g9, 24, ((lims e7.val).map nv).toArray), (g8, 24, ((lims e4.val).map nv).toArray), (g7, 24, ((lims e3.val).map nv).toArray), (g6, 24, ((lims e2.val).map nv).toArray), (g5, 24, ((lims e1.val).map nv).toArray), (w.heap.size + 1 + 1, 76, ((limsL [0, 0, 0]).map nv).toArray), (w.heap.size + 1, 76, ((limsL [x2.val, y2.val, z2.val]).map nv).toArray), (w.heap.size, 76, ((limsL [x1.val, y1.val, z1.val]).map nv).toArray)] wx)
    case first =>
      refine wp_region_lex 12 (fun k => k == 11) (MadeT 24 #[.int .u64 0, .int .u64 0, .int .u64 0, .int .u64 0] (g11 + 1)) (Bs w (g11 + 1) [(g11, 24, ((lims e9.val).map nv).toArray), (g10, 24, ((lims e8.val).map nv).toArray), (g9, 24, ((lims e7.val).map nv).toArray), (g8, 24, ((lims e4.val).map nv).toArray), (g7, 24, ((lims e3.val).map nv).toArray), (g6, 24, ((lims e2.val).map nv).toArray), (g5, 24, ((lims e1.val).map nv).toArray), (w.heap.size + 1 + 1, 76, ((limsL [0, 0, 0]).map nv).toArray), (w.heap.size + 1, 76, ((limsL [x2.val, y2.val, z2.val]).map nv).toArray), (w.heap.size, 76, ((limsL [x1.val, y1.val, z1.val]).map nv).toArray)]) (by kernel_rfl) (by kernel_rfl) F14.drew Bs.stay MadeT.stay (made_t run_alloc_fe' Bs.size rfl) ?_
      simp only [List.take_succ_cons, List.take_zero, List.drop_succ_cons, List.drop_zero]
      refine lexW_value (v := ?_) (by rfl) (by rfl) (fun W hW => ?_) ?_
      rotate_left
      · skip; go_simp <;> with_reducible rfl
      simp only [Act.put, List.setIfInBounds_toArray, List.set_cons_zero, List.set_cons_succ]
      refine lexW_value (v := ?_) (by rfl) (by rfl) (fun W hW => ?_) ?_
      rotate_left
      · have l1 : (loadFe 24 ⟨w.heap.size, 0, none⟩).run Tryd.prog W = .ok (.agg ((lims x1.val).map nv).toArray) W := run_loadFe_at (hW.getN (g := w.heap.size) (l := limsL [x1.val, y1.val, z1.val]) (by repeat (first | exact List.mem_cons_self .. | refine List.mem_cons_of_mem _ ?_))) 0 (by simp); go_simp <;> with_reducible rfl
      simp only [Act.put, List.setIfInBounds_toArray, List.set_cons_zero, List.set_cons_succ]
      refine lexW_value (v := ?_) (by rfl) (by rfl) (fun W hW => ?_) ?_
      rotate_left
      · skip; go_simp <;> with_reducible rfl
      simp only [Act.put, List.setIfInBounds_toArray, List.set_cons_zero, List.set_cons_succ]
      refine lexW_value (v := ?_) (by rfl) (by rfl) (fun W hW => ?_) ?_
      rotate_left
      · have l1 : (loadFe 24 ⟨w.heap.size + 1, 4, none⟩).run Tryd.prog W = .ok (.agg ((lims y2.val).map nv).toArray) W := run_loadFe_at (hW.getN (g := w.heap.size + 1) (l := limsL [x2.val, y2.val, z2.val]) (by repeat (first | exact List.mem_cons_self .. | refine List.mem_cons_of_mem _ ?_))) 1 (by simp); go_simp <;> with_reducible rfl
      simp only [Act.put, List.setIfInBounds_toArray, List.set_cons_zero, List.set_cons_succ]
      refine' lexW_call (by rfl) (by rfl) (fun W hW => ?_) (fun W hW => ?_) ?_
      rotate_left 3
      · go_simp <;> first | with_reducible rfl | exact ⟨rfl, rfl⟩
      · with_reducible exact K10.out W
      simp only [Act.put, List.setIfInBounds_toArray, List.set_cons_zero, List.set_cons_succ]
      refine lexW_value (v := ?_) (by rfl) (by rfl) (fun W hW => ?_) ?_
      rotate_left
      · skip; go_simp <;> with_reducible rfl
      simp only [Act.put, List.setIfInBounds_toArray, List.set_cons_zero, List.set_cons_succ]
      refine lexW_value (v := ?_) (by rfl) (by rfl) (fun W hW => ?_) ?_
      rotate_left
      · have l1 : (loadFe 24 ⟨w.heap.size, 4, none⟩).run Tryd.prog W = .ok (.agg ((lims y1.val).map nv).toArray) W := run_loadFe_at (hW.getN (g := w.heap.size) (l := limsL [x1.val, y1.val, z1.val]) (by repeat (first | exact List.mem_cons_self .. | refine List.mem_cons_of_mem _ ?_))) 1 (by simp); go_simp <;> with_reducible rfl
      simp only [Act.put, List.setIfInBounds_toArray, List.set_cons_zero, List.set_cons_succ]
      refine lexW_value (v := ?_) (by rfl) (by rfl) (fun W hW => ?_) ?_
      rotate_left
      · skip; go_simp <;> with_reducible rfl
      simp only [Act.put, List.setIfInBounds_toArray, List.set_cons_zero, List.set_cons_succ]
      refine lexW_value (v := ?_) (by rfl) (by rfl) (fun W hW => ?_) ?_
      rotate_left
      · have l1 : (loadFe 24 ⟨w.heap.size + 1, 0, none⟩).run Tryd.prog W = .ok (.agg ((lims x2.val).map nv).toArray) W := run_loadFe_at (hW.getN (g := w.heap.size + 1) (l := limsL [x2.val, y2.val, z2.val]) (by repeat (first | exact List.mem_cons_self .. | refine List.mem_cons_of_mem _ ?_))) 0 (by simp); go_simp <;> with_reducible rfl
      simp only [Act.put, List.setIfInBounds_toArray, List.set_cons_zero, List.set_cons_succ]
      refine' lexW_call (by rfl) (by rfl) (fun W hW => ?_) (fun W hW => ?_) ?_
      rotate_left 3
      · go_simp <;> first | with_reducible rfl | exact ⟨rfl, rfl⟩
      · with_reducible exact K11.out W
      simp only [Act.put, List.setIfInBounds_toArray, List.set_cons_zero, List.set_cons_succ]
      refine' lexW_call (by rfl) (by rfl) (fun W hW => ?_) (fun W hW => ?_) ?_
      rotate_left 3
      · go_simp <;> first | with_reducible rfl | exact ⟨rfl, rfl⟩
      · with_reducible exact K12.out W
      simp only [Act.put, List.setIfInBounds_toArray, List.set_cons_zero, List.set_cons_succ]
      refine lexW_free (by rfl) ?_
      refine lexW_nil (fun b8 W8 F8x E8 => ?_)
      obtain ⟨_, ⟨g, rfl, hg, hZ⟩, rfl⟩ := lexEnd_one (j := 11) (d := 12) (by kernel_rfl) E8
      have hp8 := F8x.pos
      have hZ : HoldsN W8 24 g (lims 0) := hZ
      simp only [Act.put, List.setIfInBounds_toArray, List.set_cons_zero, List.set_cons_succ]
      go_wp2_with (with_reducible refine wpList_store_n rfl 24 (.tmp 12) (.tmp 53) rfl g (lims e12.val) 4 rfl rfl rfl (lims 0) hZ Tryd.infoFe rfl w.heap.size w F8x.below (by omega) ?_; intro w9x H9 o9 _ b9)
      go_meet
      exact ⟨g, rfl, F8x.add hg H9 o9 b9⟩
    case rest =>
      obtain ⟨g12, rfl, F15⟩ := hcut
      have hg12x := F15.pos
      clear F14
      go_upto_region 9 with (fail)
      have hL0 := F15.getN (g := g8) (l := lims e4.val) (by repeat (first | exact List.mem_cons_self .. | refine List.mem_cons_of_mem _ ?_))
      have hL1 := F15.getN (g := g7) (l := lims e3.val) (by repeat (first | exact List.mem_cons_self .. | refine List.mem_cons_of_mem _ ?_))
      go_upto_region 10 with (first
        | (with_reducible refine wpList_load_n rfl 24 (.tmp 8) rfl g8 rfl (lims e4.val) 4 hL0 rfl Tryd.underlying24 Tryd.infoFe ?_)
        | (with_reducible refine wpList_load_n rfl 24 (.tmp 7) rfl g7 rfl (lims e3.val) 4 hL1 rfl Tryd.underlying24 Tryd.infoFe ?_)
        | (go_at_call 29
           with_reducible refine (K13.out _).mono ?_
           rintro e w16 ⟨rfl, hb16⟩
           have F16 := Bs.stay _ _ F15 hb16
           have F16a := Bs.stay _ _ F16 ((Below.refl _ w16).alloc (Nat.le_refl _) (.cells #[.int .u64 0, .int .u64 0, .int .u64 0, .int .u64 0] 24))
           have z16 := fe_new w16)
        | (with_reducible refine wpList_store_n rfl 24 (.tmp 13) (.tmp 56) rfl w16.heap.size (lims e13.val) 4 rfl rfl rfl (lims 0) (by with_unfolding_all exact z16) Tryd.infoFe rfl w.heap.size w (by with_unfolding_all exact F16a.below) F16.below.size ?_
           intro w17 H17 o17 s17 b17
           have F17 := Bs.add (by with_unfolding_all exact F16a) F16.len H17 o17 b17
           clear s17)
        | fail)
      have hg16 := F16.len
      clear hL0 hL1 hb16 F15 F16a z16 o17 H17 b17 F16
      generalize w16.heap.size = g13 at *
      try dsimp only [Act.put]
      refine wp_region_lex 14 (fun _ => false) (fun _ _ _ => True) (Bs w (g13 + 1) [(g13, 24, ((lims e13.val).map nv).toArray), (g12, 24, ((lims e12.val).map nv).toArray), (g11, 24, ((lims e9.val).map nv).toArray), (g10, 24, ((lims e8.val).map nv).toArray), (g9, 24, ((lims e7.val).map nv).toArray), (g8, 24, ((lims e4.val).map nv).toArray), (g7, 24, ((lims e3.val).map nv).toArray), (g6, 24, ((lims e2.val).map nv).toArray), (g5, 24, ((lims e1.val).map nv).toArray), (w.heap.size + 1 + 1, 76, ((limsL [0, 0, 0]).map nv).toArray), (w.heap.size + 1, 76, ((limsL [x2.val, y2.val, z2.val]).map nv).toArray), (w.heap.size, 76, ((limsL [x1.val, y1.val, z1.val]).map nv).toArray)]) (by kernel_rfl) (by kernel_rfl) F17.drew Bs.stay (fun _ _ _ _ _ _ => trivial) lex_none ?_
      simp only [List.take_succ_cons, List.take_zero, List.drop_succ_cons, List.drop_zero]
      refine lexW_value (v := ?_) (by rfl) (by rfl) (fun W hW => ?_) ?_
      rotate_left
      · have l1 := run_loadFe (hW.getN (g := g5) (l := lims e1.val) (by repeat (first | exact List.mem_cons_self .. | refine List.mem_cons_of_mem _ ?_))); go_simp <;> with_reducible rfl
      simp only [Act.put, List.setIfInBounds_toArray, List.set_cons_zero, List.set_cons_succ]
      refine lexW_value (v := ?_) (by rfl) (by rfl) (fun W hW => ?_) ?_
      rotate_left
      · have l1 := run_loadFe (hW.getN (g := g12) (l := lims e12.val) (by repeat (first | exact List.mem_cons_self .. | refine List.mem_cons_of_mem _ ?_))); go_simp <;> with_reducible rfl
      simp only [Act.put, List.setIfInBounds_toArray, List.set_cons_zero, List.set_cons_succ]
      refine lexW_value (v := ?_) (by rfl) (by rfl) (fun W hW => ?_) ?_
      rotate_left
      · have l1 := run_loadFe (hW.getN (g := g10) (l := lims e8.val) (by repeat (first | exact List.mem_cons_self .. | refine List.mem_cons_of_mem _ ?_))); go_simp <;> with_reducible rfl
      simp only [Act.put, List.setIfInBounds_toArray, List.set_cons_zero, List.set_cons_succ]
      refine' lexW_call (by rfl) (by rfl) (fun W hW => ?_) (fun W hW => ?_) ?_
      rotate_left 3
      · go_simp <;> first | with_reducible rfl | exact ⟨rfl, rfl⟩
      · with_reducible exact K14.out W
      simp only [Act.put, List.setIfInBounds_toArray, List.set_cons_zero, List.set_cons_succ]
      refine' lexW_call (by rfl) (by rfl) (fun W hW => ?_) (fun W hW => ?_) ?_
      rotate_left 3
      · go_simp <;> first | with_reducible rfl | exact ⟨rfl, rfl⟩
      · with_reducible exact K15.out W
      simp only [Act.put, List.setIfInBounds_toArray, List.set_cons_zero, List.set_cons_succ]
      refine lexW_value (v := ?_) (by rfl) (by rfl) (fun W hW => ?_) ?_
      rotate_left
      · have l1 := run_loadFe (hW.getN (g := g5) (l := lims e1.val) (by repeat (first | exact List.mem_cons_self .. | refine List.mem_cons_of_mem _ ?_))); go_simp <;> with_reducible rfl
      simp only [Act.put, List.setIfInBounds_toArray, List.set_cons_zero, List.set_cons_succ]
      refine lexW_value (v := ?_) (by rfl) (by rfl) (fun W hW => ?_) ?_
      rotate_left
      · have l1 := run_loadFe (hW.getN (g := g13) (l := lims e13.val) (by repeat (first | exact List.mem_cons_self .. | refine List.mem_cons_of_mem _ ?_))); go_simp <;> with_reducible rfl
      simp only [Act.put, List.setIfInBounds_toArray, List.set_cons_zero, List.set_cons_succ]
      refine lexW_value (v := ?_) (by rfl) (by rfl) (fun W hW => ?_) ?_
      rotate_left
      · have l1 := run_loadFe (hW.getN (g := g11) (l := lims e9.val) (by repeat (first | exact List.mem_cons_self .. | refine List.mem_cons_of_mem _ ?_))); go_simp <;> with_reducible rfl
      simp only [Act.put, List.setIfInBounds_toArray, List.set_cons_zero, List.set_cons_succ]
      refine' lexW_call (by rfl) (by rfl) (fun W hW => ?_) (fun W hW => ?_) ?_
      rotate_left 3
      · go_simp <;> first | with_reducible rfl | exact ⟨rfl, rfl⟩
      · with_reducible exact K16.out W
      simp only [Act.put, List.setIfInBounds_toArray, List.set_cons_zero, List.set_cons_succ]
      refine' lexW_call (by rfl) (by rfl) (fun W hW => ?_) (fun W hW => ?_) ?_
      rotate_left 3
      · go_simp <;> first | with_reducible rfl | exact ⟨rfl, rfl⟩
      · with_reducible exact K17.out W
      simp only [Act.put, List.setIfInBounds_toArray, List.set_cons_zero, List.set_cons_succ]
      refine lexW_value (v := ?_) (by rfl) (by rfl) (fun W hW => ?_) ?_
      rotate_left
      · have l1 := run_loadFe (hW.getN (g := g10) (l := lims e8.val) (by repeat (first | exact List.mem_cons_self .. | refine List.mem_cons_of_mem _ ?_))); go_simp <;> with_reducible rfl
      simp only [Act.put, List.setIfInBounds_toArray, List.set_cons_zero, List.set_cons_succ]
      refine lexW_value (v := ?_) (by rfl) (by rfl) (fun W hW => ?_) ?_
      rotate_left
      · have l1 := run_loadFe (hW.getN (g := g11) (l := lims e9.val) (by repeat (first | exact List.mem_cons_self .. | refine List.mem_cons_of_mem _ ?_))); go_simp <;> with_reducible rfl
      simp only [Act.put, List.setIfInBounds_toArray, List.set_cons_zero, List.set_cons_succ]
      refine' lexW_call (by rfl) (by rfl) (fun W hW => ?_) (fun W hW => ?_) ?_
      rotate_left 3
      · go_simp <;> first | with_reducible rfl | exact ⟨rfl, rfl⟩
      · with_reducible exact K18.out W
      simp only [Act.put, List.setIfInBounds_toArray, List.set_cons_zero, List.set_cons_succ]
      refine lexW_value (v := .agg ((limsL [e15.val, e17.val, e18.val]).map nv).toArray) (by rfl) (by rfl) (fun W hW => exec_build _ _ 76 #[(0, .tmp 61), (1, .tmp 66), (2, .tmp 69)] rfl _ (by with_unfolding_all exact hbuilt.out) W) ?_
      simp only [Act.put, List.setIfInBounds_toArray, List.set_cons_zero, List.set_cons_succ]
      refine lexW_nil (fun b8 W8 F8x E8 => ?_)
      obtain rfl := lexEnd_none E8
      have hR := F8x.getN (g := w.heap.size + 1 + 1) (l := limsL [0, 0, 0]) (by repeat (first | exact List.mem_cons_self .. | refine List.mem_cons_of_mem _ ?_))
      go_wp2_with (with_reducible refine wpList_store_n rfl 76 (.tmp 4) (.tmp 70) rfl (w.heap.size + 1 + 1) (limsL [e15.val, e17.val, e18.val]) 12 rfl rfl rfl (limsL [0, 0, 0]) hR Tryd.infoWd rfl w.heap.size w F8x.below (by omega) ?_; intro w9x Hg _ _ b9)
      exact bodyPost_ret (results_cell_row rfl _ _ _ _ _ _ _ rfl Hg Tryd.underlying76 rfl (by rw [Tryd.infoWd]; rfl)) rfl ⟨rfl, b9⟩
end
end Go.Proofs.YtlfkohanfeejfaaDoor
