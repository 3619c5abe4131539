/-
  The program's curve: a point, and the same once more.
-/
import Derived.Test.YtlfkohanfeejfaaDoorMax
namespace Go.Proofs.YtlfkohanfeejfaaDoor
open Go.RowKit
namespace Crv

section
attribute [local go_sem ↓] load_fe

set_option maxRecDepth 100000 in
set_option maxHeartbeats 8000000 in
theorem twice_el (x y z : F) (w : World) (L0 : Laid w) :
    Calls Tryd.prog 65 #[.agg ((limsL [x.val, y.val, z.val]).map nv).toArray] w (GaveR w (qtwice (x, y, z))) := by
  have LK := L0.hid
  obtain ⟨e1, he1⟩ : ∃ zz : F, zz = x * x := ⟨_, rfl⟩
  obtain ⟨e2, he2⟩ : ∃ zz : F, zz = y * y := ⟨_, rfl⟩
  obtain ⟨e3, he3⟩ : ∃ zz : F, zz = z * z := ⟨_, rfl⟩
  obtain ⟨e4, he4⟩ : ∃ zz : F, zz = x + y := ⟨_, rfl⟩
  obtain ⟨e5, he5⟩ : ∃ zz : F, zz = e1 + e2 := ⟨_, rfl⟩
  obtain ⟨e6, he6⟩ : ∃ zz : F, zz = e4 * e4 := ⟨_, rfl⟩
  obtain ⟨e7, he7⟩ : ∃ zz : F, zz = e6 - e5 := ⟨_, rfl⟩
  obtain ⟨e8, he8⟩ : ∃ zz : F, zz = e2 - e1 := ⟨_, rfl⟩
  obtain ⟨e9, he9⟩ : ∃ zz : F, zz = e3 + e3 := ⟨_, rfl⟩
  obtain ⟨e10, he10⟩ : ∃ zz : F, zz = e9 - e8 := ⟨_, rfl⟩
  obtain ⟨j1, hj1⟩ : ∃ zz : F, zz = e7 * e10 := ⟨_, rfl⟩
  obtain ⟨j2, hj2⟩ : ∃ zz : F, zz = e5 * e8 := ⟨_, rfl⟩
  obtain ⟨j3, hj3⟩ : ∃ zz : F, zz = e8 * e10 := ⟨_, rfl⟩
  obtain ⟨j4, hj4⟩ : ∃ zz : F, zz = e7 * e5 := ⟨_, rfl⟩
  have hgoal : qtwice (x, y, z) = (j1, j2, j3, j4) := by
    first
    | (rw [hj4, hj3, hj2, hj1, he10, he9, he8, he7, he6, he5, he4, he3, he2, he1]; done)
    | (subst he1 he2 he3 he4 he5 he6 he7 he8 he9 he10 hj1 hj2 hj3 hj4; rfl)
  have K1 : Hid (∀ W, Below w.heap.size w W → Calls Tryd.prog 43 #[.agg ((lims x.val).map nv).toArray, .agg ((lims x.val).map nv).toArray] W (GaveE W e1)) := Lib.hid fun W _ => by rw [he1]; exact fMul x x W
  have K2 : Hid (∀ W, Below w.heap.size w W → Calls Tryd.prog 43 #[.agg ((lims y.val).map nv).toArray, .agg ((lims y.val).map nv).toArray] W (GaveE W e2)) := Lib.hid fun W _ => by rw [he2]; exact fMul y y W
  have K3 : Hid (∀ W, Below w.heap.size w W → Calls Tryd.prog 43 #[.agg ((lims z.val).map nv).toArray, .agg ((lims z.val).map nv).toArray] W (GaveE W e3)) := Lib.hid fun W _ => by rw [he3]; exact fMul z z W
  have K4 : Hid (∀ W, Below w.heap.size w W → Calls Tryd.prog 46 #[.agg ((lims x.val).map nv).toArray, .agg ((lims y.val).map nv).toArray] W (GaveE W e4)) := Lib.hid fun W _ => by rw [he4]; exact fAdd x y W
  have K5 : Hid (∀ W, Below w.heap.size w W → Calls Tryd.prog 46 #[.agg ((lims e1.val).map nv).toArray, .agg ((lims e2.val).map nv).toArray] W (GaveE W e5)) := Lib.hid fun W _ => by rw [he5]; exact fAdd e1 e2 W
  have K6 : Hid (∀ W, Below w.heap.size w W → Calls Tryd.prog 43 #[.agg ((lims e4.val).map nv).toArray, .agg ((lims e4.val).map nv).toArray] W (GaveE W e6)) := Lib.hid fun W _ => by rw [he6]; exact fMul e4 e4 W
  have K7 : Hid (∀ W, Below w.heap.size w W → Calls Tryd.prog 45 #[.agg ((lims e6.val).map nv).toArray, .agg ((lims e5.val).map nv).toArray] W (GaveE W e7)) := Lib.hid fun W hb => by rw [he7]; exact fSub e6 e5 W (LK.out W hb)
  have K8 : Hid (∀ W, Below w.heap.size w W → Calls Tryd.prog 45 #[.agg ((lims e2.val).map nv).toArray, .agg ((lims e1.val).map nv).toArray] W (GaveE W e8)) := Lib.hid fun W hb => by rw [he8]; exact fSub e2 e1 W (LK.out W hb)
  have K9 : Hid (∀ W, Below w.heap.size w W → Calls Tryd.prog 46 #[.agg ((lims e3.val).map nv).toArray, .agg ((lims e3.val).map nv).toArray] W (GaveE W e9)) := Lib.hid fun W _ => by rw [he9]; exact fAdd e3 e3 W
  have K10 : Hid (∀ W, Below w.heap.size w W → Calls Tryd.prog 45 #[.agg ((lims e9.val).map nv).toArray, .agg ((lims e8.val).map nv).toArray] W (GaveE W e10)) := Lib.hid fun W hb => by rw [he10]; exact fSub e9 e8 W (LK.out W hb)
  have K11 : Hid (∀ W, Below w.heap.size w W → Calls Tryd.prog 74 #[.agg ((lims e7.val).map nv).toArray, .agg ((lims e8.val).map nv).toArray, .agg ((lims e5.val).map nv).toArray, .agg ((lims e10.val).map nv).toArray] W fun e w' => e = .returned (.agg ((limsL [j1.val, j2.val, j3.val, j4.val]).map nv).toArray) ∧ Below W.heap.size W w') := Lib.hid fun W _ => by
    have h := joined_el e7 e8 e5 e10 W
    unfold qjoin GaveR qv at h
    rw [← hj1, ← hj2, ← hj3, ← hj4] at h
    exact h
  rw [hgoal]
  unfold GaveR qv
  clear hgoal hj4 hj3 hj2 hj1 he10 he9 he8 he7 he6 he5 he4 he3 he2 he1 L0
  have F1 : Bs w (w.heap.size + 1 + 1) [(w.heap.size + 1, 65, ((limsL [0, 0, 0, 0]).map nv).toArray), (w.heap.size, 63, ((limsL [x.val, y.val, z.val]).map nv).toArray)] ((w.alloc (.cells ((limsL [x.val, y.val, z.val]).map nv).toArray 63)).alloc (.cells #[.int .u64 0, .int .u64 0, .int .u64 0, .int .u64 0, .int .u64 0, .int .u64 0, .int .u64 0, .int .u64 0, .int .u64 0, .int .u64 0, .int .u64 0, .int .u64 0, .int .u64 0, .int .u64 0, .int .u64 0, .int .u64 0] 65)) :=
    (Bs.nil.alloc rfl).alloc (by simp only [World.size_alloc])
  go_enter Tryd.func65, Tryd.ntmps65
  go_upto_region 1 with (fail)
  generalize ((w.alloc (.cells ((limsL [x.val, y.val, z.val]).map nv).toArray 63)).alloc (.cells #[.int .u64 0, .int .u64 0, .int .u64 0, .int .u64 0, .int .u64 0, .int .u64 0, .int .u64 0, .int .u64 0, .int .u64 0, .int .u64 0, .int .u64 0, .int .u64 0, .int .u64 0, .int .u64 0, .int .u64 0, .int .u64 0] 65)) = wv at *
  try dsimp only [Act.put]
  go_cut [3, 4, 5] (fun v1 v2 v3 wx => ∃ g1 g2 g3 D, v1 = .pointer (some ⟨g1, 0, none⟩) ∧ v2 = .pointer (some ⟨g2, 0, none⟩) ∧ v3 = .pointer (some ⟨g3, 0, none⟩) ∧ Bs w D [(g3, 24, ((lims e3.val).map nv).toArray), (g2, 24, ((lims e2.val).map nv).toArray), (g1, 24, ((lims e1.val).map nv).toArray), (w.heap.size + 1, 65, ((limsL [0, 0, 0, 0]).map nv).toArray), (w.heap.size, 63, ((limsL [x.val, y.val, z.val]).map nv).toArray)] wx)
  case first =>
    refine wp_region_lexD 18 (fun k => k == 15 || k == 16 || k == 17) (MadeT 24 #[.int .u64 0, .int .u64 0, .int .u64 0, .int .u64 0] (w.heap.size + 1 + 1)) (Bs w (w.heap.size + 1 + 1) [(w.heap.size + 1, 65, ((limsL [0, 0, 0, 0]).map nv).toArray), (w.heap.size, 63, ((limsL [x.val, y.val, z.val]).map nv).toArray)]) (by kernel_rfl) (by kernel_rfl) F1.drew Bs.stay MadeT.stay (made_tD run_alloc_fe' Bs.size [15, 16, 17] (fun k hk => by simpa [or_assoc] using hk) (fun j hj => by simp only [List.mem_cons, List.not_mem_nil, or_false] at hj; rcases hj with rfl | rfl | rfl <;> rfl)) ?_
    simp only [List.take_succ_cons, List.take_zero, List.drop_succ_cons, List.drop_zero]
    refine lexW_value (v := ?_) (by rfl) (by rfl) (fun W hW => ?_) ?_
    rotate_left
    · skip; go_simp <;> with_reducible rfl
    simp only [Act.put, List.setIfInBounds_toArray, List.set_cons_zero, List.set_cons_succ]
    refine lexW_value (v := ?_) (by rfl) (by rfl) (fun W hW => ?_) ?_
    rotate_left
    · have l1 : (loadFe 24 ⟨w.heap.size, 0, none⟩).run Tryd.prog W = .ok (.agg ((lims x.val).map nv).toArray) W := run_loadFe_at (hW.getN (g := w.heap.size) (l := limsL [x.val, y.val, z.val]) (by repeat (first | exact List.mem_cons_self .. | refine List.mem_cons_of_mem _ ?_))) 0 (by simp); go_simp <;> with_reducible rfl
    simp only [Act.put, List.setIfInBounds_toArray, List.set_cons_zero, List.set_cons_succ]
    refine lexW_value (v := ?_) (by rfl) (by rfl) (fun W hW => ?_) ?_
    rotate_left
    · skip; go_simp <;> with_reducible rfl
    simp only [Act.put, List.setIfInBounds_toArray, List.set_cons_zero, List.set_cons_succ]
    refine lexW_value (v := ?_) (by rfl) (by rfl) (fun W hW => ?_) ?_
    rotate_left
    · have l1 : (loadFe 24 ⟨w.heap.size, 0, none⟩).run Tryd.prog W = .ok (.agg ((lims x.val).map nv).toArray) W := run_loadFe_at (hW.getN (g := w.heap.size) (l := limsL [x.val, y.val, z.val]) (by repeat (first | exact List.mem_cons_self .. | refine List.mem_cons_of_mem _ ?_))) 0 (by simp); go_simp <;> with_reducible rfl
    simp only [Act.put, List.setIfInBounds_toArray, List.set_cons_zero, List.set_cons_succ]
    refine' lexW_call (by rfl) (by rfl) (fun W hW => ?_) (fun W hW => ?_) ?_
    rotate_left 3
    · go_simp <;> first | with_reducible rfl | exact ⟨rfl, rfl⟩
    · with_reducible exact K1.out W hW.below
    simp only [Act.put, List.setIfInBounds_toArray, List.set_cons_zero, List.set_cons_succ]
    refine lexW_value (v := ?_) (by rfl) (by rfl) (fun W hW => ?_) ?_
    rotate_left
    · skip; go_simp <;> with_reducible rfl
    simp only [Act.put, List.setIfInBounds_toArray, List.set_cons_zero, List.set_cons_succ]
    refine lexW_value (v := ?_) (by rfl) (by rfl) (fun W hW => ?_) ?_
    rotate_left
    · have l1 : (loadFe 24 ⟨w.heap.size, 4, none⟩).run Tryd.prog W = .ok (.agg ((lims y.val).map nv).toArray) W := run_loadFe_at (hW.getN (g := w.heap.size) (l := limsL [x.val, y.val, z.val]) (by repeat (first | exact List.mem_cons_self .. | refine List.mem_cons_of_mem _ ?_))) 1 (by simp); go_simp <;> with_reducible rfl
    simp only [Act.put, List.setIfInBounds_toArray, List.set_cons_zero, List.set_cons_succ]
    refine lexW_value (v := ?_) (by rfl) (by rfl) (fun W hW => ?_) ?_
    rotate_left
    · skip; go_simp <;> with_reducible rfl
    simp only [Act.put, List.setIfInBounds_toArray, List.set_cons_zero, List.set_cons_succ]
    refine lexW_value (v := ?_) (by rfl) (by rfl) (fun W hW => ?_) ?_
    rotate_left
    · have l1 : (loadFe 24 ⟨w.heap.size, 4, none⟩).run Tryd.prog W = .ok (.agg ((lims y.val).map nv).toArray) W := run_loadFe_at (hW.getN (g := w.heap.size) (l := limsL [x.val, y.val, z.val]) (by repeat (first | exact List.mem_cons_self .. | refine List.mem_cons_of_mem _ ?_))) 1 (by simp); go_simp <;> with_reducible rfl
    simp only [Act.put, List.setIfInBounds_toArray, List.set_cons_zero, List.set_cons_succ]
    refine' lexW_call (by rfl) (by rfl) (fun W hW => ?_) (fun W hW => ?_) ?_
    rotate_left 3
    · go_simp <;> first | with_reducible rfl | exact ⟨rfl, rfl⟩
    · with_reducible exact K2.out W hW.below
    simp only [Act.put, List.setIfInBounds_toArray, List.set_cons_zero, List.set_cons_succ]
    refine lexW_value (v := ?_) (by rfl) (by rfl) (fun W hW => ?_) ?_
    rotate_left
    · skip; go_simp <;> with_reducible rfl
    simp only [Act.put, List.setIfInBounds_toArray, List.set_cons_zero, List.set_cons_succ]
    refine lexW_value (v := ?_) (by rfl) (by rfl) (fun W hW => ?_) ?_
    rotate_left
    · have l1 : (loadFe 24 ⟨w.heap.size, 8, none⟩).run Tryd.prog W = .ok (.agg ((lims z.val).map nv).toArray) W := run_loadFe_at (hW.getN (g := w.heap.size) (l := limsL [x.val, y.val, z.val]) (by repeat (first | exact List.mem_cons_self .. | refine List.mem_cons_of_mem _ ?_))) 2 (by simp); go_simp <;> with_reducible rfl
    simp only [Act.put, List.setIfInBounds_toArray, List.set_cons_zero, List.set_cons_succ]
    refine lexW_value (v := ?_) (by rfl) (by rfl) (fun W hW => ?_) ?_
    rotate_left
    · skip; go_simp <;> with_reducible rfl
    simp only [Act.put, List.setIfInBounds_toArray, List.set_cons_zero, List.set_cons_succ]
    refine lexW_value (v := ?_) (by rfl) (by rfl) (fun W hW => ?_) ?_
    rotate_left
    · have l1 : (loadFe 24 ⟨w.heap.size, 8, none⟩).run Tryd.prog W = .ok (.agg ((lims z.val).map nv).toArray) W := run_loadFe_at (hW.getN (g := w.heap.size) (l := limsL [x.val, y.val, z.val]) (by repeat (first | exact List.mem_cons_self .. | refine List.mem_cons_of_mem _ ?_))) 2 (by simp); go_simp <;> with_reducible rfl
    simp only [Act.put, List.setIfInBounds_toArray, List.set_cons_zero, List.set_cons_succ]
    refine' lexW_call (by rfl) (by rfl) (fun W hW => ?_) (fun W hW => ?_) ?_
    rotate_left 3
    · go_simp <;> first | with_reducible rfl | exact ⟨rfl, rfl⟩
    · with_reducible exact K3.out W hW.below
    simp only [Act.put, List.setIfInBounds_toArray, List.set_cons_zero, List.set_cons_succ]
    refine lexW_free (by rfl) ?_
    refine lexW_free (by rfl) ?_
    refine lexW_free (by rfl) ?_
    refine lexW_nil (fun b8 W8 F8x E8 => ?_)
    obtain ⟨_, _, _, ⟨g1, rfl, hg1x, hZ1⟩, ⟨g2, rfl, hg2x, hZ2⟩, ⟨g3, rfl, hg3x, hZ3⟩, ⟨n12, n13, n23⟩, rfl⟩ := lexEndD_three (j1 := 15) (j2 := 16) (j3 := 17) (d1 := 3) (d2 := 4) (d3 := 5) (by kernel_rfl) (by kernel_rfl) (by kernel_rfl) rfl (by simp) (by simp) (by simp) E8
    have hp8 := F8x.pos
    have hZ1 : HoldsN W8 24 g1 (lims 0) := hZ1
    have hZ2 : HoldsN W8 24 g2 (lims 0) := hZ2
    have hZ3 : HoldsN W8 24 g3 (lims 0) := hZ3
    have n12 := ptr_ne n12
    have n13 := ptr_ne n13
    have n23 := ptr_ne n23
    simp only [Act.put, List.setIfInBounds_toArray, List.set_cons_zero, List.set_cons_succ]
    go_wp2_with (first
      | (with_reducible refine wpList_store_n rfl 24 (.tmp 3) (.tmp 15) rfl g1 (lims e1.val) 4 rfl rfl rfl (lims 0) hZ1 Tryd.infoFe rfl w.heap.size w F8x.below (by omega) ?_
         intro ya1 H1 o1 s1 b1
         have q12 : HoldsN ya1 24 g2 (lims 0) := (o1 g2 (Ne.symm n12)).trans hZ2
         have q13 : HoldsN ya1 24 g3 (lims 0) := (o1 g3 (Ne.symm n13)).trans hZ3)
      | (with_reducible refine wpList_store_n rfl 24 (.tmp 4) (.tmp 20) rfl g2 (lims e2.val) 4 rfl rfl rfl (lims 0) q12 Tryd.infoFe rfl w.heap.size w b1 (by omega) ?_
         intro ya2 H2 o2 s2 b2
         have q21 : HoldsN ya2 24 g1 (lims e1.val) := (o2 g1 n12).trans H1
         have q23 : HoldsN ya2 24 g3 (lims 0) := (o2 g3 (Ne.symm n23)).trans q13)
      | (with_reducible refine wpList_store_n rfl 24 (.tmp 5) (.tmp 25) rfl g3 (lims e3.val) 4 rfl rfl rfl (lims 0) q23 Tryd.infoFe rfl w.heap.size w b2 (by omega) ?_
         intro ya3 H3 o3 s3 b3
         have q31 : HoldsN ya3 24 g1 (lims e1.val) := (o3 g1 n13).trans q21
         have q32 : HoldsN ya3 24 g2 (lims e2.val) := (o3 g2 n23).trans H2)
      | fail)
    go_meet
    exact ⟨g1, g2, g3, _, rfl, rfl, rfl, F8x.add3 q31 q32 H3 (fun k hk => (o3 k (by omega)).trans ((o2 k (by omega)).trans ((o1 k (by omega))))) (by omega) b3⟩
  case rest =>
    obtain ⟨g3, g4, g5, D2, rfl, rfl, rfl, F2⟩ := hcut
    have hg2x := F2.pos
    clear F1
    go_upto_region 2 with (fail)
    have hL1 : World.rangeAt _ (w.heap.size) 0 ((lims x.val).map nv) := range_at (F2.getN (g := w.heap.size) (l := limsL [x.val, y.val, z.val]) (by repeat (first | exact List.mem_cons_self .. | refine List.mem_cons_of_mem _ ?_))) 0 (by simp)
    have hL3 : World.rangeAt _ (w.heap.size) 4 ((lims y.val).map nv) := range_at (F2.getN (g := w.heap.size) (l := limsL [x.val, y.val, z.val]) (by repeat (first | exact List.mem_cons_self .. | refine List.mem_cons_of_mem _ ?_))) 1 (by simp)
    go_upto_region 3 with (first
      | (with_reducible refine wpList_load_mid rfl 24 (.tmp 26) rfl (w.heap.size) 0 rfl ((lims x.val).map nv) _ hL1 Tryd.underlying24 rfl (by rw [Tryd.infoFe, List.length_map, lims_length]) ?_)
      | (with_reducible refine wpList_load_mid rfl 24 (.tmp 28) rfl (w.heap.size) 4 rfl ((lims y.val).map nv) _ hL3 Tryd.underlying24 rfl (by rw [Tryd.infoFe, List.length_map, lims_length]) ?_)
      | (go_at_call 46
         with_reducible refine (K4.out _ F2.below).mono ?_
         rintro e w3 ⟨rfl, hb3⟩
         have F3 := Bs.stay _ _ F2 hb3
         have F3a := Bs.stay _ _ F3 ((Below.refl _ w3).alloc (Nat.le_refl _) (.cells #[.int .u64 0, .int .u64 0, .int .u64 0, .int .u64 0] 24))
         have z3 := fe_new w3)
      | (with_reducible refine wpList_store_n rfl 24 (.tmp 6) (.tmp 30) rfl w3.heap.size (lims e4.val) 4 rfl rfl rfl (lims 0) (by with_unfolding_all exact z3) Tryd.infoFe rfl w.heap.size w (by with_unfolding_all exact F3a.below) F3.below.size ?_
         intro w4 H4 o4 s4 b4
         have F4 := Bs.add (by with_unfolding_all exact F3a) F3.len H4 o4 b4
         clear s4)
      | fail)
    have hg3 := F3.len
    clear hL1 hL3 hb3 F2 F3a z3 o4 H4 b4 F3
    generalize w3.heap.size = g6 at *
    have hL0 := F4.getN (g := g3) (l := lims e1.val) (by repeat (first | exact List.mem_cons_self .. | refine List.mem_cons_of_mem _ ?_))
    have hL1 := F4.getN (g := g4) (l := lims e2.val) (by repeat (first | exact List.mem_cons_self .. | refine List.mem_cons_of_mem _ ?_))
    go_upto_region 4 with (first
      | (with_reducible refine wpList_load_n rfl 24 (.tmp 3) rfl (g3) rfl (lims e1.val) 4 hL0 rfl Tryd.underlying24 Tryd.infoFe ?_)
      | (with_reducible refine wpList_load_n rfl 24 (.tmp 4) rfl (g4) rfl (lims e2.val) 4 hL1 rfl Tryd.underlying24 Tryd.infoFe ?_)
      | (go_at_call 46
         with_reducible refine (K5.out _ F4.below).mono ?_
         rintro e w5 ⟨rfl, hb5⟩
         have F5 := Bs.stay _ _ F4 hb5
         have F5a := Bs.stay _ _ F5 ((Below.refl _ w5).alloc (Nat.le_refl _) (.cells #[.int .u64 0, .int .u64 0, .int .u64 0, .int .u64 0] 24))
         have z5 := fe_new w5)
      | (with_reducible refine wpList_store_n rfl 24 (.tmp 7) (.tmp 33) rfl w5.heap.size (lims e5.val) 4 rfl rfl rfl (lims 0) (by with_unfolding_all exact z5) Tryd.infoFe rfl w.heap.size w (by with_unfolding_all exact F5a.below) F5.below.size ?_
         intro w6 H6 o6 s6 b6
         have F6 := Bs.add (by with_unfolding_all exact F5a) F5.len H6 o6 b6
         clear s6)
      | fail)
    have hg5 := F5.len
    clear hL0 hL1 hb5 F4 F5a z5 o6 H6 b6 F5
    generalize w5.heap.size = g7 at *
    try dsimp only [Act.put]
    go_cut [8] (fun vp wx => ∃ g, vp = .pointer (some ⟨g, 0, none⟩) ∧ Bs w (g + 1) [(g, 24, ((lims e7.val).map nv).toArray), (g7, 24, ((lims e5.val).map nv).toArray), (g6, 24, ((lims e4.val).map nv).toArray), (g5, 24, ((lims e3.val).map nv).toArray), (g4, 24, ((lims e2.val).map nv).toArray), (g3, 24, ((lims e1.val).map nv).toArray), (w.heap.size + 1, 65, ((limsL [0, 0, 0, 0]).map nv).toArray), (w.heap.size, 63, ((limsL [x.val, y.val, z.val]).map nv).toArray)] wx)
    case first =>
      refine wp_region_lex 6 (fun k => k == 5) (MadeT 24 #[.int .u64 0, .int .u64 0, .int .u64 0, .int .u64 0] (g7 + 1)) (Bs w (g7 + 1) [(g7, 24, ((lims e5.val).map nv).toArray), (g6, 24, ((lims e4.val).map nv).toArray), (g5, 24, ((lims e3.val).map nv).toArray), (g4, 24, ((lims e2.val).map nv).toArray), (g3, 24, ((lims e1.val).map nv).toArray), (w.heap.size + 1, 65, ((limsL [0, 0, 0, 0]).map nv).toArray), (w.heap.size, 63, ((limsL [x.val, y.val, z.val]).map nv).toArray)]) (by kernel_rfl) (by kernel_rfl) F6.drew Bs.stay MadeT.stay (made_t run_alloc_fe' Bs.size rfl) ?_
      simp only [List.take_succ_cons, List.take_zero, List.drop_succ_cons, List.drop_zero]
      refine lexW_value (v := ?_) (by rfl) (by rfl) (fun W hW => ?_) ?_
      rotate_left
      · have l1 := run_loadFe (hW.getN (g := g6) (l := lims e4.val) (by repeat (first | exact List.mem_cons_self .. | refine List.mem_cons_of_mem _ ?_))); go_simp <;> with_reducible rfl
      simp only [Act.put, List.setIfInBounds_toArray, List.set_cons_zero, List.set_cons_succ]
      refine lexW_value (v := ?_) (by rfl) (by rfl) (fun W hW => ?_) ?_
      rotate_left
      · have l1 := run_loadFe (hW.getN (g := g6) (l := lims e4.val) (by repeat (first | exact List.mem_cons_self .. | refine List.mem_cons_of_mem _ ?_))); go_simp <;> with_reducible rfl
      simp only [Act.put, List.setIfInBounds_toArray, List.set_cons_zero, List.set_cons_succ]
      refine' lexW_call (by rfl) (by rfl) (fun W hW => ?_) (fun W hW => ?_) ?_
      rotate_left 3
      · go_simp <;> first | with_reducible rfl | exact ⟨rfl, rfl⟩
      · with_reducible exact K6.out W hW.below
      simp only [Act.put, List.setIfInBounds_toArray, List.set_cons_zero, List.set_cons_succ]
      refine lexW_value (v := ?_) (by rfl) (by rfl) (fun W hW => ?_) ?_
      rotate_left
      · have l1 := run_loadFe (hW.getN (g := g7) (l := lims e5.val) (by repeat (first | exact List.mem_cons_self .. | refine List.mem_cons_of_mem _ ?_))); go_simp <;> with_reducible rfl
      simp only [Act.put, List.setIfInBounds_toArray, List.set_cons_zero, List.set_cons_succ]
      refine' lexW_call (by rfl) (by rfl) (fun W hW => ?_) (fun W hW => ?_) ?_
      rotate_left 3
      · go_simp <;> first | with_reducible rfl | exact ⟨rfl, rfl⟩
      · with_reducible exact K7.out W hW.below
      simp only [Act.put, List.setIfInBounds_toArray, List.set_cons_zero, List.set_cons_succ]
      refine lexW_free (by rfl) ?_
      refine lexW_nil (fun b8 W8 F8x E8 => ?_)
      obtain ⟨_, ⟨g, rfl, hg, hZ⟩, rfl⟩ := lexEnd_one (j := 5) (d := 8) (by kernel_rfl) E8
      have hp8 := F8x.pos
      have hZ : HoldsN W8 24 g (lims 0) := hZ
      simp only [Act.put, List.setIfInBounds_toArray, List.set_cons_zero, List.set_cons_succ]
      go_wp2_with (with_reducible refine wpList_store_n rfl 24 (.tmp 8) (.tmp 38) rfl g (lims e7.val) 4 rfl rfl rfl (lims 0) hZ Tryd.infoFe rfl w.heap.size w F8x.below (by omega) ?_; intro w9x H9 o9 _ b9)
      go_meet
      exact ⟨g, rfl, F8x.add hg H9 o9 b9⟩
    case rest =>
      obtain ⟨g8, rfl, F7⟩ := hcut
      have hg8x := F7.pos
      clear F6
      go_upto_region 5 with (fail)
      have hL0 := F7.getN (g := g4) (l := lims e2.val) (by repeat (first | exact List.mem_cons_self .. | refine List.mem_cons_of_mem _ ?_))
      have hL1 := F7.getN (g := g3) (l := lims e1.val) (by repeat (first | exact List.mem_cons_self .. | refine List.mem_cons_of_mem _ ?_))
      go_upto_region 6 with (first
        | (with_reducible refine wpList_load_n rfl 24 (.tmp 4) rfl (g4) rfl (lims e2.val) 4 hL0 rfl Tryd.underlying24 Tryd.infoFe ?_)
        | (with_reducible refine wpList_load_n rfl 24 (.tmp 3) rfl (g3) rfl (lims e1.val) 4 hL1 rfl Tryd.underlying24 Tryd.infoFe ?_)
        | (go_at_call 45
           with_reducible refine (K8.out _ F7.below).mono ?_
           rintro e w8 ⟨rfl, hb8⟩
           have F8 := Bs.stay _ _ F7 hb8
           have F8a := Bs.stay _ _ F8 ((Below.refl _ w8).alloc (Nat.le_refl _) (.cells #[.int .u64 0, .int .u64 0, .int .u64 0, .int .u64 0] 24))
           have z8 := fe_new w8)
        | (with_reducible refine wpList_store_n rfl 24 (.tmp 9) (.tmp 41) rfl w8.heap.size (lims e8.val) 4 rfl rfl rfl (lims 0) (by with_unfolding_all exact z8) Tryd.infoFe rfl w.heap.size w (by with_unfolding_all exact F8a.below) F8.below.size ?_
           intro w9 H9 o9 s9 b9
           have F9 := Bs.add (by with_unfolding_all exact F8a) F8.len H9 o9 b9
           clear s9)
        | fail)
      have hg8 := F8.len
      clear hL0 hL1 hb8 F7 F8a z8 o9 H9 b9 F8
      generalize w8.heap.size = g9 at *
      try dsimp only [Act.put]
      go_cut [10] (fun vp wx => ∃ g, vp = .pointer (some ⟨g, 0, none⟩) ∧ Bs w (g + 1) [(g, 24, ((lims e10.val).map nv).toArray), (g9, 24, ((lims e8.val).map nv).toArray), (g8, 24, ((lims e7.val).map nv).toArray), (g7, 24, ((lims e5.val).map nv).toArray), (g6, 24, ((lims e4.val).map nv).toArray), (g5, 24, ((lims e3.val).map nv).toArray), (g4, 24, ((lims e2.val).map nv).toArray), (g3, 24, ((lims e1.val).map nv).toArray), (w.heap.size + 1, 65, ((limsL [0, 0, 0, 0]).map nv).toArray), (w.heap.size, 63, ((limsL [x.val, y.val, z.val]).map nv).toArray)] wx)
      case first =>
        refine wp_region_lex 6 (fun k => k == 5) (MadeT 24 #[.int .u64 0, .int .u64 0, .int .u64 0, .int .u64 0] (g9 + 1)) (Bs w (g9 + 1) [(g9, 24, ((lims e8.val).map nv).toArray), (g8, 24, ((lims e7.val).map nv).toArray), (g7, 24, ((lims e5.val).map nv).toArray), (g6, 24, ((lims e4.val).map nv).toArray), (g5, 24, ((lims e3.val).map nv).toArray), (g4, 24, ((lims e2.val).map nv).toArray), (g3, 24, ((lims e1.val).map nv).toArray), (w.heap.size + 1, 65, ((limsL [0, 0, 0, 0]).map nv).toArray), (w.heap.size, 63, ((limsL [x.val, y.val, z.val]).map nv).toArray)]) (by kernel_rfl) (by kernel_rfl) F9.drew Bs.stay MadeT.stay (made_t run_alloc_fe' Bs.size rfl) ?_
        simp only [List.take_succ_cons, List.take_zero, List.drop_succ_cons, List.drop_zero]
        refine lexW_value (v := ?_) (by rfl) (by rfl) (fun W hW => ?_) ?_
        rotate_left
        · have l1 := run_loadFe (hW.getN (g := g5) (l := lims e3.val) (by repeat (first | exact List.mem_cons_self .. | refine List.mem_cons_of_mem _ ?_))); go_simp <;> with_reducible rfl
        simp only [Act.put, List.setIfInBounds_toArray, List.set_cons_zero, List.set_cons_succ]
        refine lexW_value (v := ?_) (by rfl) (by rfl) (fun W hW => ?_) ?_
        rotate_left
        · have l1 := run_loadFe (hW.getN (g := g5) (l := lims e3.val) (by repeat (first | exact List.mem_cons_self .. | refine List.mem_cons_of_mem _ ?_))); go_simp <;> with_reducible rfl
        simp only [Act.put, List.setIfInBounds_toArray, List.set_cons_zero, List.set_cons_succ]
        refine' lexW_call (by rfl) (by rfl) (fun W hW => ?_) (fun W hW => ?_) ?_
        rotate_left 3
        · go_simp <;> first | with_reducible rfl | exact ⟨rfl, rfl⟩
        · with_reducible exact K9.out W hW.below
        simp only [Act.put, List.setIfInBounds_toArray, List.set_cons_zero, List.set_cons_succ]
        refine lexW_value (v := ?_) (by rfl) (by rfl) (fun W hW => ?_) ?_
        rotate_left
        · have l1 := run_loadFe (hW.getN (g := g9) (l := lims e8.val) (by repeat (first | exact List.mem_cons_self .. | refine List.mem_cons_of_mem _ ?_))); go_simp <;> with_reducible rfl
        simp only [Act.put, List.setIfInBounds_toArray, List.set_cons_zero, List.set_cons_succ]
        refine' lexW_call (by rfl) (by rfl) (fun W hW => ?_) (fun W hW => ?_) ?_
        rotate_left 3
        · go_simp <;> first | with_reducible rfl | exact ⟨rfl, rfl⟩
        · with_reducible exact K10.out W hW.below
        simp only [Act.put, List.setIfInBounds_toArray, List.set_cons_zero, List.set_cons_succ]
        refine lexW_free (by rfl) ?_
        refine lexW_nil (fun b8 W8 F8x E8 => ?_)
        obtain ⟨_, ⟨g, rfl, hg, hZ⟩, rfl⟩ := lexEnd_one (j := 5) (d := 10) (by kernel_rfl) E8
        have hp8 := F8x.pos
        have hZ : HoldsN W8 24 g (lims 0) := hZ
        simp only [Act.put, List.setIfInBounds_toArray, List.set_cons_zero, List.set_cons_succ]
        go_wp2_with (with_reducible refine wpList_store_n rfl 24 (.tmp 10) (.tmp 46) rfl g (lims e10.val) 4 rfl rfl rfl (lims 0) hZ Tryd.infoFe rfl w.heap.size w F8x.below (by omega) ?_; intro w9x H9 o9 _ b9)
        go_meet
        exact ⟨g, rfl, F8x.add hg H9 o9 b9⟩
      case rest =>
        obtain ⟨g10, rfl, F10⟩ := hcut
        have hg10x := F10.pos
        clear F9
        go_upto_region 7 with (fail)
        have hL0 := F10.getN (g := g8) (l := lims e7.val) (by repeat (first | exact List.mem_cons_self .. | refine List.mem_cons_of_mem _ ?_))
        have hL1 := F10.getN (g := g9) (l := lims e8.val) (by repeat (first | exact List.mem_cons_self .. | refine List.mem_cons_of_mem _ ?_))
        have hL2 := F10.getN (g := g7) (l := lims e5.val) (by repeat (first | exact List.mem_cons_self .. | refine List.mem_cons_of_mem _ ?_))
        have hL3 := F10.getN (g := g10) (l := lims e10.val) (by repeat (first | exact List.mem_cons_self .. | refine List.mem_cons_of_mem _ ?_))
        go_wp2_with (first
          | (with_reducible refine wpList_load_n rfl 24 (.tmp 8) rfl (g8) rfl (lims e7.val) 4 hL0 rfl Tryd.underlying24 Tryd.infoFe ?_)
          | (with_reducible refine wpList_load_n rfl 24 (.tmp 9) rfl (g9) rfl (lims e8.val) 4 hL1 rfl Tryd.underlying24 Tryd.infoFe ?_)
          | (with_reducible refine wpList_load_n rfl 24 (.tmp 7) rfl (g7) rfl (lims e5.val) 4 hL2 rfl Tryd.underlying24 Tryd.infoFe ?_)
          | (with_reducible refine wpList_load_n rfl 24 (.tmp 10) rfl (g10) rfl (lims e10.val) 4 hL3 rfl Tryd.underlying24 Tryd.infoFe ?_)
          | (go_at_call 74
             with_reducible refine (K11.out _ F10.below).mono ?_
             rintro e w11 ⟨rfl, hb11⟩
             have F11 := Bs.stay _ _ F10 hb11
             have hR := F11.getN (g := w.heap.size + 1) (l := limsL [0, 0, 0, 0]) (by repeat (first | exact List.mem_cons_self .. | refine List.mem_cons_of_mem _ ?_)))
          | (with_reducible refine wpList_store_n rfl 65 (.tmp 2) (.tmp 51) rfl (w.heap.size + 1) (limsL [j1.val, j2.val, j3.val, j4.val]) 16 rfl rfl rfl (limsL [0, 0, 0, 0]) hR Tryd.infoQd rfl w.heap.size w F11.below (by omega) ?_; intro w9x Hg _ _ b9)
          | fail)
        exact bodyPost_ret (results_cell_row rfl _ _ _ _ _ _ _ rfl Hg Tryd.underlying65 rfl (by rw [Tryd.infoQd]; rfl)) rfl ⟨rfl, b9⟩
end
end Crv
end Go.Proofs.YtlfkohanfeejfaaDoor
