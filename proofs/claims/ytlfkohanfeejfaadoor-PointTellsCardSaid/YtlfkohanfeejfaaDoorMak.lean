/-
  The document's curve: the sum of two points.
  The document's curve: what is below none.
  Points compared as they lie: two numbers of four limbs.
-/
import Derived.Laws.StructEq
import Derived.Test.YtlfkohanfeejfaaDoorMag
import Derived.Test.YtlfkohanfeejfaaDoorMaj
namespace Go.Proofs.YtlfkohanfeejfaaDoor
open Go.RowKit

theorem padd_eq (p q : F × F) : padd p q = ((p.1 * q.2 + p.2 * q.1) * finv (1 + dd * (p.1 * q.1 * (p.2 * q.2))), (p.2 * q.2 + p.1 * q.1) * finv (1 - dd * (p.1 * q.1 * (p.2 * q.2)))) := by
  unfold padd
  rw [show dd * p.1 * q.1 * p.2 * q.2 = dd * (p.1 * q.1 * (p.2 * q.2)) by grind]

section
attribute [local go_sem ↓] load_fe

set_option maxRecDepth 100000 in
set_option maxHeartbeats 8000000 in
theorem rAdd_pt (x1 y1 x2 y2 : Nat) (w : World) (hx1 : x1 < big) (hy1 : y1 < big) (hx2 : x2 < big) (hy2 : y2 < big) :
    Calls Tryd.prog 66 #[ptv x1 y1, ptv x2 y2] w (GaveQ w (padd (pOf x1 y1) (pOf x2 y2))) := by
  obtain ⟨p, hp⟩ : ∃ p, p = pOf x1 y1 := ⟨_, rfl⟩
  obtain ⟨q, hq⟩ : ∃ q, q = pOf x2 y2 := ⟨_, rfl⟩
  have L1 : Hid (∀ W, Calls Tryd.prog 35 #[.agg ((limsL [x1, y1]).map nv).toArray] W fun e w' => e = .returned (.agg ((limsL [p.1.val, p.2.val]).map nv).toArray) ∧ Below W.heap.size W w') := Lib.hid fun W => by rw [hp]; exact rLeast_pt x1 y1 W hx1 hy1
  have L2 : Hid (∀ W, Calls Tryd.prog 35 #[.agg ((limsL [x2, y2]).map nv).toArray] W fun e w' => e = .returned (.agg ((limsL [q.1.val, q.2.val]).map nv).toArray) ∧ Below W.heap.size W w') := Lib.hid fun W => by rw [hq]; exact rLeast_pt x2 y2 W hx2 hy2
  rw [← hp, ← hq]
  clear hp hq hx1 hy1 hx2 hy2
  obtain ⟨px, py⟩ := p
  obtain ⟨qx, qy⟩ := q
  simp only at L1 L2
  obtain ⟨e1, he1⟩ : ∃ zz : F, zz = px * qx := ⟨_, rfl⟩
  obtain ⟨e2, he2⟩ : ∃ zz : F, zz = py * qy := ⟨_, rfl⟩
  obtain ⟨e4, he4⟩ : ∃ zz : F, zz = e1 * e2 := ⟨_, rfl⟩
  obtain ⟨e5, he5⟩ : ∃ zz : F, zz = dd * e4 := ⟨_, rfl⟩
  obtain ⟨e6, he6⟩ : ∃ zz : F, zz = px * qy := ⟨_, rfl⟩
  obtain ⟨e7, he7⟩ : ∃ zz : F, zz = py * qx := ⟨_, rfl⟩
  obtain ⟨e8, he8⟩ : ∃ zz : F, zz = e6 + e7 := ⟨_, rfl⟩
  obtain ⟨e9, he9⟩ : ∃ zz : F, zz = e2 + e1 := ⟨_, rfl⟩
  obtain ⟨e10, he10⟩ : ∃ zz : F, zz = 1 + e5 := ⟨_, rfl⟩
  obtain ⟨e11, he11⟩ : ∃ zz : F, zz = finv e10 := ⟨_, rfl⟩
  obtain ⟨e12, he12⟩ : ∃ zz : F, zz = 1 - e5 := ⟨_, rfl⟩
  obtain ⟨e13, he13⟩ : ∃ zz : F, zz = finv e12 := ⟨_, rfl⟩
  obtain ⟨e14, he14⟩ : ∃ zz : F, zz = e8 * e11 := ⟨_, rfl⟩
  obtain ⟨e15, he15⟩ : ∃ zz : F, zz = e9 * e13 := ⟨_, rfl⟩
  have hgoal : padd (px, py) (qx, qy) = (e14, e15) := by
    have h := padd_eq (px, py) (qx, qy)
    simp only at h
    rw [h, he15, he14, he13, he12, he11, he10, he9, he8, he7, he6, he5, he4, he2, he1]
  have K1 : Hid (∀ W, Calls Tryd.prog 26 #[.agg ((lims px.val).map nv).toArray, .agg ((lims qx.val).map nv).toArray] W fun e w' => e = .returned (.agg ((lims e1.val).map nv).toArray) ∧ Below W.heap.size W w') := Lib.hid fun W => by
    have h := rMul_any px.val qx.val W (F.lt_big _) (F.lt_big _)
    simp only [toF_of] at h
    rw [← he1] at h
    exact h
  have K2 : Hid (∀ W, Calls Tryd.prog 26 #[.agg ((lims py.val).map nv).toArray, .agg ((lims qy.val).map nv).toArray] W fun e w' => e = .returned (.agg ((lims e2.val).map nv).toArray) ∧ Below W.heap.size W w') := Lib.hid fun W => by
    have h := rMul_any py.val qy.val W (F.lt_big _) (F.lt_big _)
    simp only [toF_of] at h
    rw [← he2] at h
    exact h
  have K3 : Hid (∀ W, Calls Tryd.prog 30 #[] W fun e w' => e = .returned (.agg ((lims dd.val).map nv).toArray) ∧ Below W.heap.size W w') := Lib.hid fun W => rDee_any W
  have K4 : Hid (∀ W, Calls Tryd.prog 26 #[.agg ((lims e1.val).map nv).toArray, .agg ((lims e2.val).map nv).toArray] W fun e w' => e = .returned (.agg ((lims e4.val).map nv).toArray) ∧ Below W.heap.size W w') := Lib.hid fun W => by
    have h := rMul_any e1.val e2.val W (F.lt_big _) (F.lt_big _)
    simp only [toF_of] at h
    rw [← he4] at h
    exact h
  have K5 : Hid (∀ W, Calls Tryd.prog 26 #[.agg ((lims dd.val).map nv).toArray, .agg ((lims e4.val).map nv).toArray] W fun e w' => e = .returned (.agg ((lims e5.val).map nv).toArray) ∧ Below W.heap.size W w') := Lib.hid fun W => by
    have h := rMul_any dd.val e4.val W (F.lt_big _) (F.lt_big _)
    simp only [toF_of] at h
    rw [← he5] at h
    exact h
  have K6 : Hid (∀ W, Calls Tryd.prog 26 #[.agg ((lims px.val).map nv).toArray, .agg ((lims qy.val).map nv).toArray] W fun e w' => e = .returned (.agg ((lims e6.val).map nv).toArray) ∧ Below W.heap.size W w') := Lib.hid fun W => by
    have h := rMul_any px.val qy.val W (F.lt_big _) (F.lt_big _)
    simp only [toF_of] at h
    rw [← he6] at h
    exact h
  have K7 : Hid (∀ W, Calls Tryd.prog 26 #[.agg ((lims py.val).map nv).toArray, .agg ((lims qx.val).map nv).toArray] W fun e w' => e = .returned (.agg ((lims e7.val).map nv).toArray) ∧ Below W.heap.size W w') := Lib.hid fun W => by
    have h := rMul_any py.val qx.val W (F.lt_big _) (F.lt_big _)
    simp only [toF_of] at h
    rw [← he7] at h
    exact h
  have K8 : Hid (∀ W, Calls Tryd.prog 29 #[.agg ((lims e6.val).map nv).toArray, .agg ((lims e7.val).map nv).toArray] W fun e w' => e = .returned (.agg ((lims e8.val).map nv).toArray) ∧ Below W.heap.size W w') := Lib.hid fun W => by
    have h := rAdd_any e6.val e7.val W (F.lt_big _) (F.lt_big _)
    simp only [toF_of] at h
    rw [← he8] at h
    exact h
  have K9 : Hid (∀ W, Calls Tryd.prog 29 #[.agg ((lims e2.val).map nv).toArray, .agg ((lims e1.val).map nv).toArray] W fun e w' => e = .returned (.agg ((lims e9.val).map nv).toArray) ∧ Below W.heap.size W w') := Lib.hid fun W => by
    have h := rAdd_any e2.val e1.val W (F.lt_big _) (F.lt_big _)
    simp only [toF_of] at h
    rw [← he9] at h
    exact h
  have K10 : Hid (∀ W, Calls Tryd.prog 29 #[.agg #[.int .u64 1, .int .u64 0, .int .u64 0, .int .u64 0], .agg ((lims e5.val).map nv).toArray] W fun e w' => e = .returned (.agg ((lims e10.val).map nv).toArray) ∧ Below W.heap.size W w') := Lib.hid fun W => by
    have h := rAdd_any 1 e5.val W (by decide) (F.lt_big _)
    simp only [toF_one, toF_of] at h
    rw [← he10, ← lit_one] at h
    exact h
  have K11 : Hid (∀ W, Calls Tryd.prog 59 #[.agg ((lims e10.val).map nv).toArray] W fun e w' => e = .returned (.agg ((lims e11.val).map nv).toArray) ∧ Below W.heap.size W w') := Lib.hid fun W => by
    have h := rInv_any e10.val W (F.lt_big _)
    simp only [toF_of] at h
    rw [← he11] at h
    exact h
  have K12 : Hid (∀ W, Calls Tryd.prog 28 #[.agg #[.int .u64 1, .int .u64 0, .int .u64 0, .int .u64 0], .agg ((lims e5.val).map nv).toArray] W fun e w' => e = .returned (.agg ((lims e12.val).map nv).toArray) ∧ Below W.heap.size W w') := Lib.hid fun W => by
    have h := rSub_any 1 e5.val W (by decide) (F.lt_big _)
    simp only [toF_one, toF_of] at h
    rw [← he12, ← lit_one] at h
    exact h
  have K13 : Hid (∀ W, Calls Tryd.prog 59 #[.agg ((lims e12.val).map nv).toArray] W fun e w' => e = .returned (.agg ((lims e13.val).map nv).toArray) ∧ Below W.heap.size W w') := Lib.hid fun W => by
    have h := rInv_any e12.val W (F.lt_big _)
    simp only [toF_of] at h
    rw [← he13] at h
    exact h
  have K14 : Hid (∀ W, Calls Tryd.prog 26 #[.agg ((lims e8.val).map nv).toArray, .agg ((lims e11.val).map nv).toArray] W fun e w' => e = .returned (.agg ((lims e14.val).map nv).toArray) ∧ Below W.heap.size W w') := Lib.hid fun W => by
    have h := rMul_any e8.val e11.val W (F.lt_big _) (F.lt_big _)
    simp only [toF_of] at h
    rw [← he14] at h
    exact h
  have K15 : Hid (∀ W, Calls Tryd.prog 26 #[.agg ((lims e9.val).map nv).toArray, .agg ((lims e13.val).map nv).toArray] W fun e w' => e = .returned (.agg ((lims e15.val).map nv).toArray) ∧ Below W.heap.size W w') := Lib.hid fun W => by
    have h := rMul_any e9.val e13.val W (F.lt_big _) (F.lt_big _)
    simp only [toF_of] at h
    rw [← he15] at h
    exact h
  rw [hgoal]
  unfold GaveQ ptv
  clear hgoal he15 he14 he13 he12 he11 he10 he9 he8 he7 he6 he5 he4 he2 he1
  generalize dd = dd at *
  have hbuilt := Lib.hid (Tryd.builtPt e14.val e15.val)
  have F1 : Bs w (w.heap.size + 1 + 1 + 1) [(w.heap.size + 1 + 1, 26, ((limsL [0, 0]).map nv).toArray), (w.heap.size + 1, 26, ((limsL [x2, y2]).map nv).toArray), (w.heap.size, 26, ((limsL [x1, y1]).map nv).toArray)] (((w.alloc (.cells ((limsL [x1, y1]).map nv).toArray 26)).alloc (.cells ((limsL [x2, y2]).map nv).toArray 26)).alloc (.cells #[.int .u64 0, .int .u64 0, .int .u64 0, .int .u64 0, .int .u64 0, .int .u64 0, .int .u64 0, .int .u64 0] 26)) :=
    ((Bs.nil.alloc rfl).alloc (World.size_alloc ..).symm).alloc (by rw [World.size_alloc, World.size_alloc])
  go_enter Tryd.func66, Tryd.ntmps66
  go_upto_region 1 with (fail)
  generalize (((w.alloc (.cells ((limsL [x1, y1]).map nv).toArray 26)).alloc (.cells ((limsL [x2, y2]).map nv).toArray 26)).alloc (.cells #[.int .u64 0, .int .u64 0, .int .u64 0, .int .u64 0, .int .u64 0, .int .u64 0, .int .u64 0, .int .u64 0] 26)) = wv at *
  have hP2 := F1.getN (g := w.heap.size) (l := limsL [x1, y1]) (by repeat (first | exact List.mem_cons_self .. | refine List.mem_cons_of_mem _ ?_))
  go_upto_region 2 with (first
    | (with_reducible refine wpList_load_pt rfl 26 (.tmp 2) rfl (w.heap.size) rfl (limsL [x1, y1]) 8 hP2 rfl Tryd.underlying26 Tryd.infoPt ?_)
    | (go_at_call 35
       with_reducible refine (L1.out _).mono ?_
       rintro e w2 ⟨rfl, hb2⟩
       have F2 := Bs.stay _ _ F1 hb2
       have hQ2 := F2.getN (g := w.heap.size) (l := limsL [x1, y1]) (by repeat (first | exact List.mem_cons_self .. | refine List.mem_cons_of_mem _ ?_)))
    | (with_reducible refine wpList_store_n rfl 26 (.tmp 2) (.tmp 13) rfl (w.heap.size) (limsL [px.val, py.val]) 8 rfl rfl rfl (limsL [x1, y1]) hQ2 Tryd.infoPt rfl w.heap.size w F2.below (by omega) ?_
       intro w3 H3 o3 s3 b3
       have F3 : Bs w (w.heap.size + 1 + 1 + 1) [(w.heap.size + 1 + 1, 26, ((limsL [0, 0]).map nv).toArray), (w.heap.size + 1, 26, ((limsL [x2, y2]).map nv).toArray), (w.heap.size, 26, ((limsL [px.val, py.val]).map nv).toArray)] w3 := F2.turnAt (by omega) H3 o3 (Nat.le_of_eq s3.symm) b3 (by
         intro p hp
         simp only [List.mem_cons, List.not_mem_nil, or_false] at hp
         rcases hp with rfl | rfl | rfl <;> first | exact Or.inl rfl | exact Or.inr ⟨(by repeat (first | exact List.mem_cons_self .. | refine List.mem_cons_of_mem _ ?_)), by dsimp only; omega⟩)
       clear s3)
    | fail)
  clear hP2 hQ2 o3 H3 b3 hb2 F1 F2
  have hP4 := F3.getN (g := w.heap.size + 1) (l := limsL [x2, y2]) (by repeat (first | exact List.mem_cons_self .. | refine List.mem_cons_of_mem _ ?_))
  go_upto_region 3 with (first
    | (with_reducible refine wpList_load_pt rfl 26 (.tmp 3) rfl (w.heap.size + 1) rfl (limsL [x2, y2]) 8 hP4 rfl Tryd.underlying26 Tryd.infoPt ?_)
    | (go_at_call 35
       with_reducible refine (L2.out _).mono ?_
       rintro e w4 ⟨rfl, hb4⟩
       have F4 := Bs.stay _ _ F3 hb4
       have hQ4 := F4.getN (g := w.heap.size + 1) (l := limsL [x2, y2]) (by repeat (first | exact List.mem_cons_self .. | refine List.mem_cons_of_mem _ ?_)))
    | (with_reducible refine wpList_store_n rfl 26 (.tmp 3) (.tmp 15) rfl (w.heap.size + 1) (limsL [qx.val, qy.val]) 8 rfl rfl rfl (limsL [x2, y2]) hQ4 Tryd.infoPt rfl w.heap.size w F4.below (by omega) ?_
       intro w5 H5 o5 s5 b5
       have F5 : Bs w (w.heap.size + 1 + 1 + 1) [(w.heap.size + 1 + 1, 26, ((limsL [0, 0]).map nv).toArray), (w.heap.size + 1, 26, ((limsL [qx.val, qy.val]).map nv).toArray), (w.heap.size, 26, ((limsL [px.val, py.val]).map nv).toArray)] w5 := F4.turnAt (by omega) H5 o5 (Nat.le_of_eq s5.symm) b5 (by
         intro p hp
         simp only [List.mem_cons, List.not_mem_nil, or_false] at hp
         rcases hp with rfl | rfl | rfl <;> first | exact Or.inl rfl | exact Or.inr ⟨(by repeat (first | exact List.mem_cons_self .. | refine List.mem_cons_of_mem _ ?_)), by dsimp only; omega⟩)
       clear s5)
    | fail)
  clear hP4 hQ4 o5 H5 b5 hb4 F3 F4
  have hL1 : w5.rangeAt (w.heap.size) 0 ((lims px.val).map nv) := range_at (F5.getN (g := w.heap.size) (l := limsL [px.val, py.val]) (by repeat (first | exact List.mem_cons_self .. | refine List.mem_cons_of_mem _ ?_))) 0 (by simp)
  have hL3 : w5.rangeAt (w.heap.size + 1) 0 ((lims qx.val).map nv) := range_at (F5.getN (g := w.heap.size + 1) (l := limsL [qx.val, qy.val]) (by repeat (first | exact List.mem_cons_self .. | refine List.mem_cons_of_mem _ ?_))) 0 (by simp)
  go_upto_region 4 with (first
    | (with_reducible refine wpList_load_mid rfl 24 (.tmp 16) rfl (w.heap.size) 0 rfl ((lims px.val).map nv) _ hL1 Tryd.underlying24 rfl (by rw [Tryd.infoFe, List.length_map, lims_length]) ?_)
    | (with_reducible refine wpList_load_mid rfl 24 (.tmp 18) rfl (w.heap.size + 1) 0 rfl ((lims qx.val).map nv) _ hL3 Tryd.underlying24 rfl (by rw [Tryd.infoFe, List.length_map, lims_length]) ?_)
    | (go_at_call 26
       with_reducible refine (K1.out _).mono ?_
       rintro e w6 ⟨rfl, hb6⟩
       have F6 := Bs.stay _ _ F5 hb6
       have F6a := Bs.stay _ _ F6 ((Below.refl _ w6).alloc (Nat.le_refl _) (.cells #[.int .u64 0, .int .u64 0, .int .u64 0, .int .u64 0] 24))
       have z6 := fe_new w6)
    | (with_reducible refine wpList_store_n rfl 24 (.tmp 5) (.tmp 20) rfl w6.heap.size (lims e1.val) 4 rfl rfl rfl (lims 0) (by with_unfolding_all exact z6) Tryd.infoFe rfl w.heap.size w (by with_unfolding_all exact F6a.below) F6.below.size ?_
       intro w7 H7 o7 s7 b7
       have F7 := Bs.add (by with_unfolding_all exact F6a) F6.len H7 o7 b7
       clear s7)
    | fail)
  have hg6 := F6.len
  clear hL1 hL3 hb6 F5 F6a z6 o7 H7 b7 F6
  generalize w6.heap.size = g5 at *
  have hL1 : w7.rangeAt (w.heap.size) 4 ((lims py.val).map nv) := range_at (F7.getN (g := w.heap.size) (l := limsL [px.val, py.val]) (by repeat (first | exact List.mem_cons_self .. | refine List.mem_cons_of_mem _ ?_))) 1 (by simp)
  have hL3 : w7.rangeAt (w.heap.size + 1) 4 ((lims qy.val).map nv) := range_at (F7.getN (g := w.heap.size + 1) (l := limsL [qx.val, qy.val]) (by repeat (first | exact List.mem_cons_self .. | refine List.mem_cons_of_mem _ ?_))) 1 (by simp)
  go_upto_region 5 with (first
    | (with_reducible refine wpList_load_mid rfl 24 (.tmp 21) rfl (w.heap.size) 4 rfl ((lims py.val).map nv) _ hL1 Tryd.underlying24 rfl (by rw [Tryd.infoFe, List.length_map, lims_length]) ?_)
    | (with_reducible refine wpList_load_mid rfl 24 (.tmp 23) rfl (w.heap.size + 1) 4 rfl ((lims qy.val).map nv) _ hL3 Tryd.underlying24 rfl (by rw [Tryd.infoFe, List.length_map, lims_length]) ?_)
    | (go_at_call 26
       with_reducible refine (K2.out _).mono ?_
       rintro e w8 ⟨rfl, hb8⟩
       have F8 := Bs.stay _ _ F7 hb8
       have F8a := Bs.stay _ _ F8 ((Below.refl _ w8).alloc (Nat.le_refl _) (.cells #[.int .u64 0, .int .u64 0, .int .u64 0, .int .u64 0] 24))
       have z8 := fe_new w8)
    | (with_reducible refine wpList_store_n rfl 24 (.tmp 6) (.tmp 25) rfl w8.heap.size (lims e2.val) 4 rfl rfl rfl (lims 0) (by with_unfolding_all exact z8) Tryd.infoFe rfl w.heap.size w (by with_unfolding_all exact F8a.below) F8.below.size ?_
       intro w9 H9 o9 s9 b9
       have F9 := Bs.add (by with_unfolding_all exact F8a) F8.len H9 o9 b9
       clear s9)
    | fail)
  have hg8 := F8.len
  clear hL1 hL3 hb8 F7 F8a z8 o9 H9 b9 F8
  generalize w8.heap.size = g6 at *
  try dsimp only [Act.put]
  go_cut [7] (fun vp wx => ∃ g, vp = .pointer (some ⟨g, 0, none⟩) ∧ Bs w (g + 1) [(g, 24, ((lims e5.val).map nv).toArray), (g6, 24, ((lims e2.val).map nv).toArray), (g5, 24, ((lims e1.val).map nv).toArray), (w.heap.size + 1 + 1, 26, ((limsL [0, 0]).map nv).toArray), (w.heap.size + 1, 26, ((limsL [qx.val, qy.val]).map nv).toArray), (w.heap.size, 26, ((limsL [px.val, py.val]).map nv).toArray)] wx)
  case first =>
    refine wp_region_lex 6 (fun k => k == 5) (MadeT 24 #[.int .u64 0, .int .u64 0, .int .u64 0, .int .u64 0] (g6 + 1)) (Bs w (g6 + 1) [(g6, 24, ((lims e2.val).map nv).toArray), (g5, 24, ((lims e1.val).map nv).toArray), (w.heap.size + 1 + 1, 26, ((limsL [0, 0]).map nv).toArray), (w.heap.size + 1, 26, ((limsL [qx.val, qy.val]).map nv).toArray), (w.heap.size, 26, ((limsL [px.val, py.val]).map nv).toArray)]) (by kernel_rfl) (by kernel_rfl) F9.drew Bs.stay MadeT.stay (made_t run_alloc_fe' Bs.size rfl) ?_
    simp only [List.take_succ_cons, List.take_zero, List.drop_succ_cons, List.drop_zero]
    refine' lexW_call (by rfl) (by rfl) (fun W hW => ?_) (fun W hW => ?_) ?_
    rotate_left 3
    · go_simp <;> first | with_reducible rfl | exact ⟨rfl, rfl⟩
    · with_reducible exact K3.out W
    simp only [Act.put, List.setIfInBounds_toArray, List.set_cons_zero, List.set_cons_succ]
    refine lexW_value (v := ?_) (by rfl) (by rfl) (fun W hW => ?_) ?_
    rotate_left
    · have l1 := run_loadFe (hW.getN (g := g5) (l := lims e1.val) (by repeat (first | exact List.mem_cons_self .. | refine List.mem_cons_of_mem _ ?_))); go_simp <;> with_reducible rfl
    simp only [Act.put, List.setIfInBounds_toArray, List.set_cons_zero, List.set_cons_succ]
    refine lexW_value (v := ?_) (by rfl) (by rfl) (fun W hW => ?_) ?_
    rotate_left
    · have l1 := run_loadFe (hW.getN (g := g6) (l := lims e2.val) (by repeat (first | exact List.mem_cons_self .. | refine List.mem_cons_of_mem _ ?_))); go_simp <;> with_reducible rfl
    simp only [Act.put, List.setIfInBounds_toArray, List.set_cons_zero, List.set_cons_succ]
    refine' lexW_call (by rfl) (by rfl) (fun W hW => ?_) (fun W hW => ?_) ?_
    rotate_left 3
    · go_simp <;> first | with_reducible rfl | exact ⟨rfl, rfl⟩
    · with_reducible exact K4.out W
    simp only [Act.put, List.setIfInBounds_toArray, List.set_cons_zero, List.set_cons_succ]
    refine' lexW_call (by rfl) (by rfl) (fun W hW => ?_) (fun W hW => ?_) ?_
    rotate_left 3
    · go_simp <;> first | with_reducible rfl | exact ⟨rfl, rfl⟩
    · with_reducible exact K5.out W
    simp only [Act.put, List.setIfInBounds_toArray, List.set_cons_zero, List.set_cons_succ]
    refine lexW_free (by rfl) ?_
    refine lexW_nil (fun b8 W8 F8x E8 => ?_)
    obtain ⟨_, ⟨g, rfl, hg, hZ⟩, rfl⟩ := lexEnd_one (j := 5) (d := 7) (by kernel_rfl) E8
    have hp8 := F8x.pos
    have hZ : HoldsN W8 24 g (lims 0) := hZ
    simp only [Act.put, List.setIfInBounds_toArray, List.set_cons_zero, List.set_cons_succ]
    go_wp2_with (with_reducible refine wpList_store_n rfl 24 (.tmp 7) (.tmp 30) rfl g (lims e5.val) 4 rfl rfl rfl (lims 0) hZ Tryd.infoFe rfl w.heap.size w F8x.below (by omega) ?_; intro w9x H9 o9 _ b9)
    go_meet
    exact ⟨g, rfl, F8x.add hg H9 o9 b9⟩
  case rest =>
    obtain ⟨g7, rfl, F10⟩ := hcut
    have hg7x := F10.pos
    clear F9
    go_upto_region 6 with (fail)
    try dsimp only [Act.put]
    go_cut [8] (fun vp wx => ∃ g, vp = .pointer (some ⟨g, 0, none⟩) ∧ Bs w (g + 1) [(g, 24, ((lims e8.val).map nv).toArray), (g7, 24, ((lims e5.val).map nv).toArray), (g6, 24, ((lims e2.val).map nv).toArray), (g5, 24, ((lims e1.val).map nv).toArray), (w.heap.size + 1 + 1, 26, ((limsL [0, 0]).map nv).toArray), (w.heap.size + 1, 26, ((limsL [qx.val, qy.val]).map nv).toArray), (w.heap.size, 26, ((limsL [px.val, py.val]).map nv).toArray)] wx)
    case first =>
      refine wp_region_lex 12 (fun k => k == 11) (MadeT 24 #[.int .u64 0, .int .u64 0, .int .u64 0, .int .u64 0] (g7 + 1)) (Bs w (g7 + 1) [(g7, 24, ((lims e5.val).map nv).toArray), (g6, 24, ((lims e2.val).map nv).toArray), (g5, 24, ((lims e1.val).map nv).toArray), (w.heap.size + 1 + 1, 26, ((limsL [0, 0]).map nv).toArray), (w.heap.size + 1, 26, ((limsL [qx.val, qy.val]).map nv).toArray), (w.heap.size, 26, ((limsL [px.val, py.val]).map nv).toArray)]) (by kernel_rfl) (by kernel_rfl) F10.drew Bs.stay MadeT.stay (made_t run_alloc_fe' Bs.size rfl) ?_
      simp only [List.take_succ_cons, List.take_zero, List.drop_succ_cons, List.drop_zero]
      refine lexW_value (v := ?_) (by rfl) (by rfl) (fun W hW => ?_) ?_
      rotate_left
      · skip; go_simp <;> with_reducible rfl
      simp only [Act.put, List.setIfInBounds_toArray, List.set_cons_zero, List.set_cons_succ]
      refine lexW_value (v := ?_) (by rfl) (by rfl) (fun W hW => ?_) ?_
      rotate_left
      · have l1 : (loadFe 24 ⟨w.heap.size, 0, none⟩).run Tryd.prog W = .ok (.agg ((lims px.val).map nv).toArray) W := run_loadFe_at (hW.getN (g := w.heap.size) (l := limsL [px.val, py.val]) (by repeat (first | exact List.mem_cons_self .. | refine List.mem_cons_of_mem _ ?_))) 0 (by simp); go_simp <;> with_reducible rfl
      simp only [Act.put, List.setIfInBounds_toArray, List.set_cons_zero, List.set_cons_succ]
      refine lexW_value (v := ?_) (by rfl) (by rfl) (fun W hW => ?_) ?_
      rotate_left
      · skip; go_simp <;> with_reducible rfl
      simp only [Act.put, List.setIfInBounds_toArray, List.set_cons_zero, List.set_cons_succ]
      refine lexW_value (v := ?_) (by rfl) (by rfl) (fun W hW => ?_) ?_
      rotate_left
      · have l1 : (loadFe 24 ⟨w.heap.size + 1, 4, none⟩).run Tryd.prog W = .ok (.agg ((lims qy.val).map nv).toArray) W := run_loadFe_at (hW.getN (g := w.heap.size + 1) (l := limsL [qx.val, qy.val]) (by repeat (first | exact List.mem_cons_self .. | refine List.mem_cons_of_mem _ ?_))) 1 (by simp); go_simp <;> with_reducible rfl
      simp only [Act.put, List.setIfInBounds_toArray, List.set_cons_zero, List.set_cons_succ]
      refine' lexW_call (by rfl) (by rfl) (fun W hW => ?_) (fun W hW => ?_) ?_
      rotate_left 3
      · go_simp <;> first | with_reducible rfl | exact ⟨rfl, rfl⟩
      · with_reducible exact K6.out W
      simp only [Act.put, List.setIfInBounds_toArray, List.set_cons_zero, List.set_cons_succ]
      refine lexW_value (v := ?_) (by rfl) (by rfl) (fun W hW => ?_) ?_
      rotate_left
      · skip; go_simp <;> with_reducible rfl
      simp only [Act.put, List.setIfInBounds_toArray, List.set_cons_zero, List.set_cons_succ]
      refine lexW_value (v := ?_) (by rfl) (by rfl) (fun W hW => ?_) ?_
      rotate_left
      · have l1 : (loadFe 24 ⟨w.heap.size, 4, none⟩).run Tryd.prog W = .ok (.agg ((lims py.val).map nv).toArray) W := run_loadFe_at (hW.getN (g := w.heap.size) (l := limsL [px.val, py.val]) (by repeat (first | exact List.mem_cons_self .. | refine List.mem_cons_of_mem _ ?_))) 1 (by simp); go_simp <;> with_reducible rfl
      simp only [Act.put, List.setIfInBounds_toArray, List.set_cons_zero, List.set_cons_succ]
      refine lexW_value (v := ?_) (by rfl) (by rfl) (fun W hW => ?_) ?_
      rotate_left
      · skip; go_simp <;> with_reducible rfl
      simp only [Act.put, List.setIfInBounds_toArray, List.set_cons_zero, List.set_cons_succ]
      refine lexW_value (v := ?_) (by rfl) (by rfl) (fun W hW => ?_) ?_
      rotate_left
      · have l1 : (loadFe 24 ⟨w.heap.size + 1, 0, none⟩).run Tryd.prog W = .ok (.agg ((lims qx.val).map nv).toArray) W := run_loadFe_at (hW.getN (g := w.heap.size + 1) (l := limsL [qx.val, qy.val]) (by repeat (first | exact List.mem_cons_self .. | refine List.mem_cons_of_mem _ ?_))) 0 (by simp); go_simp <;> with_reducible rfl
      simp only [Act.put, List.setIfInBounds_toArray, List.set_cons_zero, List.set_cons_succ]
      refine' lexW_call (by rfl) (by rfl) (fun W hW => ?_) (fun W hW => ?_) ?_
      rotate_left 3
      · go_simp <;> first | with_reducible rfl | exact ⟨rfl, rfl⟩
      · with_reducible exact K7.out W
      simp only [Act.put, List.setIfInBounds_toArray, List.set_cons_zero, List.set_cons_succ]
      refine' lexW_call (by rfl) (by rfl) (fun W hW => ?_) (fun W hW => ?_) ?_
      rotate_left 3
      · go_simp <;> first | with_reducible rfl | exact ⟨rfl, rfl⟩
      · with_reducible exact K8.out W
      simp only [Act.put, List.setIfInBounds_toArray, List.set_cons_zero, List.set_cons_succ]
      refine lexW_free (by rfl) ?_
      refine lexW_nil (fun b8 W8 F8x E8 => ?_)
      obtain ⟨_, ⟨g, rfl, hg, hZ⟩, rfl⟩ := lexEnd_one (j := 11) (d := 8) (by kernel_rfl) E8
      have hp8 := F8x.pos
      have hZ : HoldsN W8 24 g (lims 0) := hZ
      simp only [Act.put, List.setIfInBounds_toArray, List.set_cons_zero, List.set_cons_succ]
      go_wp2_with (with_reducible refine wpList_store_n rfl 24 (.tmp 8) (.tmp 41) rfl g (lims e8.val) 4 rfl rfl rfl (lims 0) hZ Tryd.infoFe rfl w.heap.size w F8x.below (by omega) ?_; intro w9x H9 o9 _ b9)
      go_meet
      exact ⟨g, rfl, F8x.add hg H9 o9 b9⟩
    case rest =>
      obtain ⟨g8, rfl, F11⟩ := hcut
      have hg8x := F11.pos
      clear F10
      go_upto_region 7 with (fail)
      have hL0 := F11.getN (g := g6) (l := lims e2.val) (by repeat (first | exact List.mem_cons_self .. | refine List.mem_cons_of_mem _ ?_))
      have hL1 := F11.getN (g := g5) (l := lims e1.val) (by repeat (first | exact List.mem_cons_self .. | refine List.mem_cons_of_mem _ ?_))
      go_upto_region 8 with (first
        | (with_reducible refine wpList_load_n rfl 24 (.tmp 6) rfl g6 rfl (lims e2.val) 4 hL0 rfl Tryd.underlying24 Tryd.infoFe ?_)
        | (with_reducible refine wpList_load_n rfl 24 (.tmp 5) rfl g5 rfl (lims e1.val) 4 hL1 rfl Tryd.underlying24 Tryd.infoFe ?_)
        | (go_at_call 29
           with_reducible refine (K9.out _).mono ?_
           rintro e w12 ⟨rfl, hb12⟩
           have F12 := Bs.stay _ _ F11 hb12
           have F12a := Bs.stay _ _ F12 ((Below.refl _ w12).alloc (Nat.le_refl _) (.cells #[.int .u64 0, .int .u64 0, .int .u64 0, .int .u64 0] 24))
           have z12 := fe_new w12)
        | (with_reducible refine wpList_store_n rfl 24 (.tmp 9) (.tmp 44) rfl w12.heap.size (lims e9.val) 4 rfl rfl rfl (lims 0) (by with_unfolding_all exact z12) Tryd.infoFe rfl w.heap.size w (by with_unfolding_all exact F12a.below) F12.below.size ?_
           intro w13 H13 o13 s13 b13
           have F13 := Bs.add (by with_unfolding_all exact F12a) F12.len H13 o13 b13
           clear s13)
        | fail)
      have hg12 := F12.len
      clear hL0 hL1 hb12 F11 F12a z12 o13 H13 b13 F12
      generalize w12.heap.size = g9 at *
      have hL1 := F13.getN (g := g7) (l := lims e5.val) (by repeat (first | exact List.mem_cons_self .. | refine List.mem_cons_of_mem _ ?_))
      go_upto_region 9 with (first
        | (with_reducible refine wpList_load_n rfl 24 (.tmp 7) rfl g7 rfl (lims e5.val) 4 hL1 rfl Tryd.underlying24 Tryd.infoFe ?_)
        | (go_at_call 29
           with_reducible refine (K10.out _).mono ?_
           rintro e w14 ⟨rfl, hb14⟩
           have F14 := Bs.stay _ _ F13 hb14)
        | (go_at_call 59
           with_reducible refine (K11.out _).mono ?_
           rintro e w15 ⟨rfl, hb15⟩
           have F15 := Bs.stay _ _ F14 hb15
           have F15a := Bs.stay _ _ F15 ((Below.refl _ w15).alloc (Nat.le_refl _) (.cells #[.int .u64 0, .int .u64 0, .int .u64 0, .int .u64 0] 24))
           have z15 := fe_new w15)
        | (with_reducible refine wpList_store_n rfl 24 (.tmp 10) (.tmp 48) rfl w15.heap.size (lims e11.val) 4 rfl rfl rfl (lims 0) (by with_unfolding_all exact z15) Tryd.infoFe rfl w.heap.size w (by with_unfolding_all exact F15a.below) F15.below.size ?_
           intro w16 H16 o16 s16 b16
           have F16 := Bs.add (by with_unfolding_all exact F15a) F15.len H16 o16 b16
           clear s16)
        | fail)
      have hg15 := F15.len
      clear hL1 hb14 F13 hb15 F14 F15a z15 o16 H16 b16 F15
      generalize w15.heap.size = g10 at *
      have hL1 := F16.getN (g := g7) (l := lims e5.val) (by repeat (first | exact List.mem_cons_self .. | refine List.mem_cons_of_mem _ ?_))
      go_upto_region 10 with (first
        | (with_reducible refine wpList_load_n rfl 24 (.tmp 7) rfl g7 rfl (lims e5.val) 4 hL1 rfl Tryd.underlying24 Tryd.infoFe ?_)
        | (go_at_call 28
           with_reducible refine (K12.out _).mono ?_
           rintro e w17 ⟨rfl, hb17⟩
           have F17 := Bs.stay _ _ F16 hb17)
        | (go_at_call 59
           with_reducible refine (K13.out _).mono ?_
           rintro e w18 ⟨rfl, hb18⟩
           have F18 := Bs.stay _ _ F17 hb18
           have F18a := Bs.stay _ _ F18 ((Below.refl _ w18).alloc (Nat.le_refl _) (.cells #[.int .u64 0, .int .u64 0, .int .u64 0, .int .u64 0] 24))
           have z18 := fe_new w18)
        | (with_reducible refine wpList_store_n rfl 24 (.tmp 11) (.tmp 52) rfl w18.heap.size (lims e13.val) 4 rfl rfl rfl (lims 0) (by with_unfolding_all exact z18) Tryd.infoFe rfl w.heap.size w (by with_unfolding_all exact F18a.below) F18.below.size ?_
           intro w19 H19 o19 s19 b19
           have F19 := Bs.add (by with_unfolding_all exact F18a) F18.len H19 o19 b19
           clear s19)
        | fail)
      have hg18 := F18.len
      clear hL1 hb17 F16 hb18 F17 F18a z18 o19 H19 b19 F18
      generalize w18.heap.size = g11 at *
      try dsimp only [Act.put]
      refine wp_region_lex 7 (fun _ => false) (fun _ _ _ => True) (Bs w (g11 + 1) [(g11, 24, ((lims e13.val).map nv).toArray), (g10, 24, ((lims e11.val).map nv).toArray), (g9, 24, ((lims e9.val).map nv).toArray), (g8, 24, ((lims e8.val).map nv).toArray), (g7, 24, ((lims e5.val).map nv).toArray), (g6, 24, ((lims e2.val).map nv).toArray), (g5, 24, ((lims e1.val).map nv).toArray), (w.heap.size + 1 + 1, 26, ((limsL [0, 0]).map nv).toArray), (w.heap.size + 1, 26, ((limsL [qx.val, qy.val]).map nv).toArray), (w.heap.size, 26, ((limsL [px.val, py.val]).map nv).toArray)]) (by kernel_rfl) (by kernel_rfl) F19.drew Bs.stay (fun _ _ _ _ _ _ => trivial) lex_none ?_
      simp only [List.take_succ_cons, List.take_zero, List.drop_succ_cons, List.drop_zero]
      refine lexW_value (v := ?_) (by rfl) (by rfl) (fun W hW => ?_) ?_
      rotate_left
      · have l1 := run_loadFe (hW.getN (g := g8) (l := lims e8.val) (by repeat (first | exact List.mem_cons_self .. | refine List.mem_cons_of_mem _ ?_))); go_simp <;> with_reducible rfl
      simp only [Act.put, List.setIfInBounds_toArray, List.set_cons_zero, List.set_cons_succ]
      refine lexW_value (v := ?_) (by rfl) (by rfl) (fun W hW => ?_) ?_
      rotate_left
      · have l1 := run_loadFe (hW.getN (g := g10) (l := lims e11.val) (by repeat (first | exact List.mem_cons_self .. | refine List.mem_cons_of_mem _ ?_))); go_simp <;> with_reducible rfl
      simp only [Act.put, List.setIfInBounds_toArray, List.set_cons_zero, List.set_cons_succ]
      refine' lexW_call (by rfl) (by rfl) (fun W hW => ?_) (fun W hW => ?_) ?_
      rotate_left 3
      · go_simp <;> first | with_reducible rfl | exact ⟨rfl, rfl⟩
      · with_reducible exact K14.out W
      simp only [Act.put, List.setIfInBounds_toArray, List.set_cons_zero, List.set_cons_succ]
      refine lexW_value (v := ?_) (by rfl) (by rfl) (fun W hW => ?_) ?_
      rotate_left
      · have l1 := run_loadFe (hW.getN (g := g9) (l := lims e9.val) (by repeat (first | exact List.mem_cons_self .. | refine List.mem_cons_of_mem _ ?_))); go_simp <;> with_reducible rfl
      simp only [Act.put, List.setIfInBounds_toArray, List.set_cons_zero, List.set_cons_succ]
      refine lexW_value (v := ?_) (by rfl) (by rfl) (fun W hW => ?_) ?_
      rotate_left
      · have l1 := run_loadFe (hW.getN (g := g11) (l := lims e13.val) (by repeat (first | exact List.mem_cons_self .. | refine List.mem_cons_of_mem _ ?_))); go_simp <;> with_reducible rfl
      simp only [Act.put, List.setIfInBounds_toArray, List.set_cons_zero, List.set_cons_succ]
      refine' lexW_call (by rfl) (by rfl) (fun W hW => ?_) (fun W hW => ?_) ?_
      rotate_left 3
      · go_simp <;> first | with_reducible rfl | exact ⟨rfl, rfl⟩
      · with_reducible exact K15.out W
      simp only [Act.put, List.setIfInBounds_toArray, List.set_cons_zero, List.set_cons_succ]
      refine lexW_value (v := .agg ((limsL [e14.val, e15.val]).map nv).toArray) (by rfl) (by rfl) (fun W hW => exec_build _ _ 26 #[(0, .tmp 55), (1, .tmp 58)] rfl _ (by with_unfolding_all exact hbuilt.out) W) ?_
      simp only [Act.put, List.setIfInBounds_toArray, List.set_cons_zero, List.set_cons_succ]
      refine lexW_nil (fun b8 W8 F8x E8 => ?_)
      obtain rfl := lexEnd_none E8
      have hR := F8x.getN (g := w.heap.size + 1 + 1) (l := limsL [0, 0]) (by repeat (first | exact List.mem_cons_self .. | refine List.mem_cons_of_mem _ ?_))
      go_wp2_with (with_reducible refine wpList_store_n rfl 26 (.tmp 4) (.tmp 59) rfl (w.heap.size + 1 + 1) (limsL [e14.val, e15.val]) 8 rfl rfl rfl (limsL [0, 0]) hR Tryd.infoPt rfl w.heap.size w F8x.below (by omega) ?_; intro w9x Hg _ _ b9)
      exact bodyPost_ret (results_cell_row rfl _ _ _ _ _ _ _ rfl Hg Tryd.underlying26 rfl (by rw [Tryd.infoPt]; rfl)) rfl ⟨rfl, b9⟩
end
end Go.Proofs.YtlfkohanfeejfaaDoor

namespace Go.Proofs.YtlfkohanfeejfaaDoor
open Go.RowKit

section
attribute [local go_sem ↓] load_fe

end
end Go.Proofs.YtlfkohanfeejfaaDoor

namespace Go.Proofs.YtlfkohanfeejfaaDoor
open Go.RowKit

theorem Tryd.fieldsPt : (Tryd.prog.fieldsOf 26).toList.map (fun f => (f.name, f.type, f.offset)) = [("X", 24, 0), ("Y", 24, 4)] := by kernel_rfl
theorem Tryd.structPt : Tryd.prog.underlying 26 = some (.struct (Tryd.prog.fieldsOf 26)) := by kernel_rfl
theorem Tryd.stoodPt : Tryd.prog.stoodInHeld 26 = false := by kernel_rfl
theorem Tryd.twoPt : ∃ f g : Field, (Tryd.prog.fieldsOf 26).toList = [f, g] ∧ f.name = "X" ∧ f.type = 24 ∧ f.offset = 0 ∧ g.name = "Y" ∧ g.type = 24 ∧ g.offset = 4 := by
  have h := Tryd.fieldsPt
  obtain ⟨f, l1, hl, hf, h⟩ := List.map_eq_cons_iff.1 h
  obtain ⟨g, l2, hl2, hg, h⟩ := List.map_eq_cons_iff.1 h
  obtain rfl := List.map_eq_nil_iff.1 h
  subst hl2
  simp only [Prod.mk.injEq] at hf hg
  exact ⟨f, g, hl, hf.1, hf.2.1, hf.2.2, hg.1, hg.2.1, hg.2.2⟩
theorem run_part_fe (xs : Array Value) (off : Nat) (n : Nat) (w : World) (h : xs.extract off (off + 4) = ((lims n).map nv).toArray) : (part 24 xs off).run Tryd.prog w = .ok (.agg ((lims n).map nv).toArray) w := by
  simp [part, isAgg, run_underlying Tryd.underlying24, go_sem]
  exact h
theorem run_equalIn_fe (d m n : Nat) (w : World) (hm : m < big) (hn : n < big) : (Op.equalIn (d + 2) 24 (.agg ((lims m).map nv).toArray) (.agg ((lims n).map nv).toArray)).run Tryd.prog w = .ok (decide (m = n)) w := by
  obtain ⟨i, hi, _⟩ := info_parts Tryd.infoU64
  have em : ∀ k : Nat, (lims k).map nv = ((lims k).map fun x : Nat => (x : Int)).map (Value.int .u64) := fun k => by rw [List.map_map]; rfl
  rw [em, em]
  have h := run_equalIn_array (P := Tryd.prog) w (d + 1) (((lims m).map fun x : Nat => (x : Int)).map (Value.int .u64)).toArray (((lims n).map fun x : Nat => (x : Int)).map (Value.int .u64)).toArray Tryd.underlying24 hi
  rw [Tryd.cellsU64, eqItems_ints Tryd.underlying22 Tryd.plainU64 d _ _ _ (fun i hi => by simp only [List.length_map, lims_length]; exact ⟨List.mem_range.1 hi, List.mem_range.1 hi⟩), lims_eq] at h
  have hd : decide (lims m = lims n) = decide (m = n) := by
    by_cases e : m = n
    · rw [decide_eq_true e, decide_eq_true (by rw [e])]
    · rw [decide_eq_false e, decide_eq_false (fun h => e (lims_inj hm hn h))]
  rw [hd] at h
  exact h
theorem run_eql_pt (x y u v : Nat) (w : World) (hx : x < big) (hy : y < big) (hu : u < big) (hv : v < big) :
    (binOp .eql 26 (.agg ((limsL [x, y]).map nv).toArray) (.agg ((limsL [u, v]).map nv).toArray)).run Tryd.prog w = .ok (.bool (decide (x = u ∧ y = v))) w := by
  obtain ⟨f, g, hl, f1, f2, f3, g1, g2, g3⟩ := Tryd.twoPt
  have px : ∀ a b : Nat, (((limsL [a, b]).map nv).toArray).extract 0 (0 + 4) = ((lims a).map nv).toArray := fun a b => rfl
  have py : ∀ a b : Nat, (((limsL [a, b]).map nv).toArray).extract 4 (4 + 4) = ((lims b).map nv).toArray := fun a b => rfl
  have h := run_equalIn_struct (P := Tryd.prog) w 9999 26 ((limsL [x, y]).map nv).toArray ((limsL [u, v]).map nv).toArray Tryd.structPt Tryd.stoodPt
  have hE : (Op.eqFields 9999 ((limsL [x, y]).map nv).toArray ((limsL [u, v]).map nv).toArray (Tryd.prog.fieldsOf 26).toList).run Tryd.prog w = .ok (decide (x = u ∧ y = v)) w := by
    rw [hl]
    have nX : ("X" : String) ≠ "_" := by decide
    have nY : ("Y" : String) ≠ "_" := by decide
    have q1 := run_part_fe _ 0 x w (px x y)
    have q2 := run_part_fe _ 0 u w (px u v)
    have q3 := run_part_fe _ 4 y w (py x y)
    have q4 := run_part_fe _ 4 v w (py u v)
    have e1 : (Op.equalIn 9999 24 (.agg ((lims x).map nv).toArray) (.agg ((lims u).map nv).toArray)).run Tryd.prog w = _ := run_equalIn_fe 9997 x u w hx hu
    have e2 : (Op.equalIn 9999 24 (.agg ((lims y).map nv).toArray) (.agg ((lims v).map nv).toArray)).run Tryd.prog w = _ := run_equalIn_fe 9997 y v w hy hv
    simp only [Op.eqFields, f1, f2, f3, g1, g2, g3, ne_eq, nX, nY, not_false_eq_true, if_true, Sem.run_bind, Sem.run_ite, Sem.run_pure, q1, q2, q3, q4, e1, e2, Result.andThen_ok]
    by_cases h1 : x = u
    · by_cases h2 : y = v
      · simp [h1, h2]
      · simp [h1, h2]
    · simp [h1]
  rw [hE] at h
  generalize ((limsL [x, y]).map nv).toArray = xs at *
  generalize ((limsL [u, v]).map nv).toArray = ys at *
  simp only [binOp]
  simp [Op.equal, Op.maxDepth, h]
theorem run_guard_pt (x y : Operand) (a b : Array Value) (w : World) : (eqGuard .eql 26 x y (.agg a) (.agg b)).run Tryd.prog w = .ok () w := by
  simp [eqGuard]
/-- Two points of the curve, compared as they lie. -/
theorem run_eql_P (p q : F × F) (w : World) : (binOp .eql 26 (.agg ((limsL [p.1.val, p.2.val]).map nv).toArray) (.agg ((limsL [q.1.val, q.2.val]).map nv).toArray)).run Tryd.prog w = .ok (.bool (decide (p = q))) w := by
  have h := run_eql_pt p.1.val p.2.val q.1.val q.2.val w (F.lt_big _) (F.lt_big _) (F.lt_big _) (F.lt_big _)
  rw [show decide (p.1.val = q.1.val ∧ p.2.val = q.2.val) = decide (p = q) by
    by_cases e : p = q
    · rw [decide_eq_true e, decide_eq_true ⟨congrArg (fun z : F × F => z.1.val) e, congrArg (fun z : F × F => z.2.val) e⟩]
    · rw [decide_eq_false e, decide_eq_false (fun h => e (Prod.ext (Fin.ext h.1) (Fin.ext h.2)))]] at h
  exact h
end Go.Proofs.YtlfkohanfeejfaaDoor
