/-
  The program's curve: a sum of two points of four numbers.
-/
import Derived.Test.YtlfkohanfeejfaaDoorMax
namespace Go.Proofs.YtlfkohanfeejfaaDoor
open Go.RowKit
namespace Crv

section
attribute [local go_sem ↓] load_fe

set_option maxRecDepth 100000 in
set_option maxHeartbeats 8000000 in
theorem plus_el (x1 y1 z1 t1 x2 y2 z2 t2 : F) (w : World) (L0 : Laid w) :
    Calls Tryd.prog 53 #[.agg ((limsL [x1.val, y1.val, z1.val, t1.val]).map nv).toArray, .agg ((limsL [x2.val, y2.val, z2.val, t2.val]).map nv).toArray] w (GaveR w (qplus (x1, y1, z1, t1) (x2, y2, z2, t2))) := by
  have LK := L0.hid
  obtain ⟨e1, he1⟩ : ∃ zz : F, zz = x1 * x2 := ⟨_, rfl⟩
  obtain ⟨e2, he2⟩ : ∃ zz : F, zz = y1 * y2 := ⟨_, rfl⟩
  obtain ⟨e3, he3⟩ : ∃ zz : F, zz = z1 * z2 := ⟨_, rfl⟩
  obtain ⟨e4, he4⟩ : ∃ zz : F, zz = t1 * t2 := ⟨_, rfl⟩
  obtain ⟨e5, he5⟩ : ∃ zz : F, zz = dd * e4 := ⟨_, rfl⟩
  obtain ⟨e6, he6⟩ : ∃ zz : F, zz = x1 + y1 := ⟨_, rfl⟩
  obtain ⟨e7, he7⟩ : ∃ zz : F, zz = x2 + y2 := ⟨_, rfl⟩
  obtain ⟨e8, he8⟩ : ∃ zz : F, zz = e6 * e7 := ⟨_, rfl⟩
  obtain ⟨e9, he9⟩ : ∃ zz : F, zz = e1 + e2 := ⟨_, rfl⟩
  obtain ⟨e10, he10⟩ : ∃ zz : F, zz = e8 - e9 := ⟨_, rfl⟩
  obtain ⟨e11, he11⟩ : ∃ zz : F, zz = e3 + e5 := ⟨_, rfl⟩
  obtain ⟨e12, he12⟩ : ∃ zz : F, zz = e2 + e1 := ⟨_, rfl⟩
  obtain ⟨e13, he13⟩ : ∃ zz : F, zz = e3 - e5 := ⟨_, rfl⟩
  obtain ⟨j1, hj1⟩ : ∃ zz : F, zz = e10 * e13 := ⟨_, rfl⟩
  obtain ⟨j2, hj2⟩ : ∃ zz : F, zz = e12 * e11 := ⟨_, rfl⟩
  obtain ⟨j3, hj3⟩ : ∃ zz : F, zz = e11 * e13 := ⟨_, rfl⟩
  obtain ⟨j4, hj4⟩ : ∃ zz : F, zz = e10 * e12 := ⟨_, rfl⟩
  have hgoal : qplus (x1, y1, z1, t1) (x2, y2, z2, t2) = (j1, j2, j3, j4) := by
    first
    | (rw [hj4, hj3, hj2, hj1, he13, he12, he11, he10, he9, he8, he7, he6, he5, he4, he3, he2, he1]; done)
    | (subst he1 he2 he3 he4 he5 he6 he7 he8 he9 he10 he11 he12 he13 hj1 hj2 hj3 hj4; rfl)
  have K1 : Hid (∀ W, Below w.heap.size w W → Calls Tryd.prog 43 #[.agg ((lims x1.val).map nv).toArray, .agg ((lims x2.val).map nv).toArray] W (GaveE W e1)) := Lib.hid fun W _ => by rw [he1]; exact fMul x1 x2 W
  have K2 : Hid (∀ W, Below w.heap.size w W → Calls Tryd.prog 43 #[.agg ((lims y1.val).map nv).toArray, .agg ((lims y2.val).map nv).toArray] W (GaveE W e2)) := Lib.hid fun W _ => by rw [he2]; exact fMul y1 y2 W
  have K3 : Hid (∀ W, Below w.heap.size w W → Calls Tryd.prog 43 #[.agg ((lims z1.val).map nv).toArray, .agg ((lims z2.val).map nv).toArray] W (GaveE W e3)) := Lib.hid fun W _ => by rw [he3]; exact fMul z1 z2 W
  have K4 : Hid (∀ W, Below w.heap.size w W → Calls Tryd.prog 43 #[.agg ((lims t1.val).map nv).toArray, .agg ((lims t2.val).map nv).toArray] W (GaveE W e4)) := Lib.hid fun W _ => by rw [he4]; exact fMul t1 t2 W
  have K5 : Hid (∀ W, Below w.heap.size w W → Calls Tryd.prog 43 #[.agg ((lims dd.val).map nv).toArray, .agg ((lims e4.val).map nv).toArray] W (GaveE W e5)) := Lib.hid fun W _ => by rw [he5]; exact fMul dd e4 W
  have K6 : Hid (∀ W, Below w.heap.size w W → Calls Tryd.prog 46 #[.agg ((lims x1.val).map nv).toArray, .agg ((lims y1.val).map nv).toArray] W (GaveE W e6)) := Lib.hid fun W _ => by rw [he6]; exact fAdd x1 y1 W
  have K7 : Hid (∀ W, Below w.heap.size w W → Calls Tryd.prog 46 #[.agg ((lims x2.val).map nv).toArray, .agg ((lims y2.val).map nv).toArray] W (GaveE W e7)) := Lib.hid fun W _ => by rw [he7]; exact fAdd x2 y2 W
  have K8 : Hid (∀ W, Below w.heap.size w W → Calls Tryd.prog 43 #[.agg ((lims e6.val).map nv).toArray, .agg ((lims e7.val).map nv).toArray] W (GaveE W e8)) := Lib.hid fun W _ => by rw [he8]; exact fMul e6 e7 W
  have K9 : Hid (∀ W, Below w.heap.size w W → Calls Tryd.prog 46 #[.agg ((lims e1.val).map nv).toArray, .agg ((lims e2.val).map nv).toArray] W (GaveE W e9)) := Lib.hid fun W _ => by rw [he9]; exact fAdd e1 e2 W
  have K10 : Hid (∀ W, Below w.heap.size w W → Calls Tryd.prog 45 #[.agg ((lims e8.val).map nv).toArray, .agg ((lims e9.val).map nv).toArray] W (GaveE W e10)) := Lib.hid fun W hb => by rw [he10]; exact fSub e8 e9 W (LK.out W hb)
  have K11 : Hid (∀ W, Below w.heap.size w W → Calls Tryd.prog 46 #[.agg ((lims e3.val).map nv).toArray, .agg ((lims e5.val).map nv).toArray] W (GaveE W e11)) := Lib.hid fun W _ => by rw [he11]; exact fAdd e3 e5 W
  have K12 : Hid (∀ W, Below w.heap.size w W → Calls Tryd.prog 46 #[.agg ((lims e2.val).map nv).toArray, .agg ((lims e1.val).map nv).toArray] W (GaveE W e12)) := Lib.hid fun W _ => by rw [he12]; exact fAdd e2 e1 W
  have K13 : Hid (∀ W, Below w.heap.size w W → Calls Tryd.prog 45 #[.agg ((lims e3.val).map nv).toArray, .agg ((lims e5.val).map nv).toArray] W (GaveE W e13)) := Lib.hid fun W hb => by rw [he13]; exact fSub e3 e5 W (LK.out W hb)
  have K14 : Hid (∀ W, Below w.heap.size w W → Calls Tryd.prog 74 #[.agg ((lims e10.val).map nv).toArray, .agg ((lims e11.val).map nv).toArray, .agg ((lims e12.val).map nv).toArray, .agg ((lims e13.val).map nv).toArray] W fun e w' => e = .returned (.agg ((limsL [j1.val, j2.val, j3.val, j4.val]).map nv).toArray) ∧ Below W.heap.size W w') := Lib.hid fun W _ => by
    have h := joined_el e10 e11 e12 e13 W
    unfold qjoin GaveR qv at h
    rw [← hj1, ← hj2, ← hj3, ← hj4] at h
    exact h
  rw [hgoal]
  unfold GaveR qv
  clear hgoal hj4 hj3 hj2 hj1 he13 he12 he11 he10 he9 he8 he7 he6 he5 he4 he3 he2 he1 L0
  have DL : Hid (∀ W, Below w.heap.size w W → (loadFe 24 ⟨0, 0, none⟩).run Tryd.prog W = .ok (.agg ((lims dd.val).map nv).toArray) W) := Lib.hid fun W hb => run_loadDee (LK.out W hb)
  generalize dd = dd at *
  have F1 : Bs w (w.heap.size + 1 + 1 + 1) [(w.heap.size + 1 + 1, 65, ((limsL [0, 0, 0, 0]).map nv).toArray), (w.heap.size + 1, 65, ((limsL [x2.val, y2.val, z2.val, t2.val]).map nv).toArray), (w.heap.size, 65, ((limsL [x1.val, y1.val, z1.val, t1.val]).map nv).toArray)] (((w.alloc (.cells ((limsL [x1.val, y1.val, z1.val, t1.val]).map nv).toArray 65)).alloc (.cells ((limsL [x2.val, y2.val, z2.val, t2.val]).map nv).toArray 65)).alloc (.cells #[.int .u64 0, .int .u64 0, .int .u64 0, .int .u64 0, .int .u64 0, .int .u64 0, .int .u64 0, .int .u64 0, .int .u64 0, .int .u64 0, .int .u64 0, .int .u64 0, .int .u64 0, .int .u64 0, .int .u64 0, .int .u64 0] 65)) :=
    ((Bs.nil.alloc rfl).alloc (by simp only [World.size_alloc])).alloc (by simp only [World.size_alloc])
  go_enter Tryd.func53, Tryd.ntmps53
  go_upto_region 1 with (fail)
  generalize (((w.alloc (.cells ((limsL [x1.val, y1.val, z1.val, t1.val]).map nv).toArray 65)).alloc (.cells ((limsL [x2.val, y2.val, z2.val, t2.val]).map nv).toArray 65)).alloc (.cells #[.int .u64 0, .int .u64 0, .int .u64 0, .int .u64 0, .int .u64 0, .int .u64 0, .int .u64 0, .int .u64 0, .int .u64 0, .int .u64 0, .int .u64 0, .int .u64 0, .int .u64 0, .int .u64 0, .int .u64 0, .int .u64 0] 65)) = wv at *
  try dsimp only [Act.put]
  go_cut [5, 6, 7] (fun v1 v2 v3 wx => ∃ g1 g2 g3 D, v1 = .pointer (some ⟨g1, 0, none⟩) ∧ v2 = .pointer (some ⟨g2, 0, none⟩) ∧ v3 = .pointer (some ⟨g3, 0, none⟩) ∧ Bs w D [(g3, 24, ((lims e3.val).map nv).toArray), (g2, 24, ((lims e2.val).map nv).toArray), (g1, 24, ((lims e1.val).map nv).toArray), (w.heap.size + 1 + 1, 65, ((limsL [0, 0, 0, 0]).map nv).toArray), (w.heap.size + 1, 65, ((limsL [x2.val, y2.val, z2.val, t2.val]).map nv).toArray), (w.heap.size, 65, ((limsL [x1.val, y1.val, z1.val, t1.val]).map nv).toArray)] wx)
  case first =>
    refine wp_region_lexD 24 (fun k => k == 21 || k == 22 || k == 23) (MadeT 24 #[.int .u64 0, .int .u64 0, .int .u64 0, .int .u64 0] (w.heap.size + 1 + 1 + 1)) (Bs w (w.heap.size + 1 + 1 + 1) [(w.heap.size + 1 + 1, 65, ((limsL [0, 0, 0, 0]).map nv).toArray), (w.heap.size + 1, 65, ((limsL [x2.val, y2.val, z2.val, t2.val]).map nv).toArray), (w.heap.size, 65, ((limsL [x1.val, y1.val, z1.val, t1.val]).map nv).toArray)]) (by kernel_rfl) (by kernel_rfl) F1.drew Bs.stay MadeT.stay (made_tD run_alloc_fe' Bs.size [21, 22, 23] (fun k hk => by simpa [or_assoc] using hk) (fun j hj => by simp only [List.mem_cons, List.not_mem_nil, or_false] at hj; rcases hj with rfl | rfl | rfl <;> rfl)) ?_
    simp only [List.take_succ_cons, List.take_zero, List.drop_succ_cons, List.drop_zero]
    refine lexW_value (v := ?_) (by rfl) (by rfl) (fun W hW => ?_) ?_
    rotate_left
    · skip; go_simp <;> with_reducible rfl
    simp only [Act.put, List.setIfInBounds_toArray, List.set_cons_zero, List.set_cons_succ]
    refine lexW_value (v := ?_) (by rfl) (by rfl) (fun W hW => ?_) ?_
    rotate_left
    · skip; go_simp <;> with_reducible rfl
    simp only [Act.put, List.setIfInBounds_toArray, List.set_cons_zero, List.set_cons_succ]
    refine lexW_value (v := ?_) (by rfl) (by rfl) (fun W hW => ?_) ?_
    rotate_left
    · have l1 : (loadFe 24 ⟨w.heap.size, 0, none⟩).run Tryd.prog W = .ok (.agg ((lims x1.val).map nv).toArray) W := run_loadFe_at (hW.getN (g := w.heap.size) (l := limsL [x1.val, y1.val, z1.val, t1.val]) (by repeat (first | exact List.mem_cons_self .. | refine List.mem_cons_of_mem _ ?_))) 0 (by simp); go_simp <;> with_reducible rfl
    simp only [Act.put, List.setIfInBounds_toArray, List.set_cons_zero, List.set_cons_succ]
    refine lexW_value (v := ?_) (by rfl) (by rfl) (fun W hW => ?_) ?_
    rotate_left
    · skip; go_simp <;> with_reducible rfl
    simp only [Act.put, List.setIfInBounds_toArray, List.set_cons_zero, List.set_cons_succ]
    refine lexW_value (v := ?_) (by rfl) (by rfl) (fun W hW => ?_) ?_
    rotate_left
    · skip; go_simp <;> with_reducible rfl
    simp only [Act.put, List.setIfInBounds_toArray, List.set_cons_zero, List.set_cons_succ]
    refine lexW_value (v := ?_) (by rfl) (by rfl) (fun W hW => ?_) ?_
    rotate_left
    · have l1 : (loadFe 24 ⟨w.heap.size + 1, 0, none⟩).run Tryd.prog W = .ok (.agg ((lims x2.val).map nv).toArray) W := run_loadFe_at (hW.getN (g := w.heap.size + 1) (l := limsL [x2.val, y2.val, z2.val, t2.val]) (by repeat (first | exact List.mem_cons_self .. | refine List.mem_cons_of_mem _ ?_))) 0 (by simp); go_simp <;> with_reducible rfl
    simp only [Act.put, List.setIfInBounds_toArray, List.set_cons_zero, List.set_cons_succ]
    refine' lexW_call (by rfl) (by rfl) (fun W hW => ?_) (fun W hW => ?_) ?_
    rotate_left 3
    · go_simp <;> first | with_reducible rfl | exact ⟨rfl, rfl⟩
    · with_reducible exact K1.out W hW.below
    simp only [Act.put, List.setIfInBounds_toArray, List.set_cons_zero, List.set_cons_succ]
    refine lexW_value (v := ?_) (by rfl) (by rfl) (fun W hW => ?_) ?_
    rotate_left
    · skip; go_simp <;> with_reducible rfl
    simp only [Act.put, List.setIfInBounds_toArray, List.set_cons_zero, List.set_cons_succ]
    refine lexW_value (v := ?_) (by rfl) (by rfl) (fun W hW => ?_) ?_
    rotate_left
    · skip; go_simp <;> with_reducible rfl
    simp only [Act.put, List.setIfInBounds_toArray, List.set_cons_zero, List.set_cons_succ]
    refine lexW_value (v := ?_) (by rfl) (by rfl) (fun W hW => ?_) ?_
    rotate_left
    · have l1 : (loadFe 24 ⟨w.heap.size, 4, none⟩).run Tryd.prog W = .ok (.agg ((lims y1.val).map nv).toArray) W := run_loadFe_at (hW.getN (g := w.heap.size) (l := limsL [x1.val, y1.val, z1.val, t1.val]) (by repeat (first | exact List.mem_cons_self .. | refine List.mem_cons_of_mem _ ?_))) 1 (by simp); go_simp <;> with_reducible rfl
    simp only [Act.put, List.setIfInBounds_toArray, List.set_cons_zero, List.set_cons_succ]
    refine lexW_value (v := ?_) (by rfl) (by rfl) (fun W hW => ?_) ?_
    rotate_left
    · skip; go_simp <;> with_reducible rfl
    simp only [Act.put, List.setIfInBounds_toArray, List.set_cons_zero, List.set_cons_succ]
    refine lexW_value (v := ?_) (by rfl) (by rfl) (fun W hW => ?_) ?_
    rotate_left
    · skip; go_simp <;> with_reducible rfl
    simp only [Act.put, List.setIfInBounds_toArray, List.set_cons_zero, List.set_cons_succ]
    refine lexW_value (v := ?_) (by rfl) (by rfl) (fun W hW => ?_) ?_
    rotate_left
    · have l1 : (loadFe 24 ⟨w.heap.size + 1, 4, none⟩).run Tryd.prog W = .ok (.agg ((lims y2.val).map nv).toArray) W := run_loadFe_at (hW.getN (g := w.heap.size + 1) (l := limsL [x2.val, y2.val, z2.val, t2.val]) (by repeat (first | exact List.mem_cons_self .. | refine List.mem_cons_of_mem _ ?_))) 1 (by simp); go_simp <;> with_reducible rfl
    simp only [Act.put, List.setIfInBounds_toArray, List.set_cons_zero, List.set_cons_succ]
    refine' lexW_call (by rfl) (by rfl) (fun W hW => ?_) (fun W hW => ?_) ?_
    rotate_left 3
    · go_simp <;> first | with_reducible rfl | exact ⟨rfl, rfl⟩
    · with_reducible exact K2.out W hW.below
    simp only [Act.put, List.setIfInBounds_toArray, List.set_cons_zero, List.set_cons_succ]
    refine lexW_value (v := ?_) (by rfl) (by rfl) (fun W hW => ?_) ?_
    rotate_left
    · skip; go_simp <;> with_reducible rfl
    simp only [Act.put, List.setIfInBounds_toArray, List.set_cons_zero, List.set_cons_succ]
    refine lexW_value (v := ?_) (by rfl) (by rfl) (fun W hW => ?_) ?_
    rotate_left
    · skip; go_simp <;> with_reducible rfl
    simp only [Act.put, List.setIfInBounds_toArray, List.set_cons_zero, List.set_cons_succ]
    refine lexW_value (v := ?_) (by rfl) (by rfl) (fun W hW => ?_) ?_
    rotate_left
    · have l1 : (loadFe 24 ⟨w.heap.size, 8, none⟩).run Tryd.prog W = .ok (.agg ((lims z1.val).map nv).toArray) W := run_loadFe_at (hW.getN (g := w.heap.size) (l := limsL [x1.val, y1.val, z1.val, t1.val]) (by repeat (first | exact List.mem_cons_self .. | refine List.mem_cons_of_mem _ ?_))) 2 (by simp); go_simp <;> with_reducible rfl
    simp only [Act.put, List.setIfInBounds_toArray, List.set_cons_zero, List.set_cons_succ]
    refine lexW_value (v := ?_) (by rfl) (by rfl) (fun W hW => ?_) ?_
    rotate_left
    · skip; go_simp <;> with_reducible rfl
    simp only [Act.put, List.setIfInBounds_toArray, List.set_cons_zero, List.set_cons_succ]
    refine lexW_value (v := ?_) (by rfl) (by rfl) (fun W hW => ?_) ?_
    rotate_left
    · skip; go_simp <;> with_reducible rfl
    simp only [Act.put, List.setIfInBounds_toArray, List.set_cons_zero, List.set_cons_succ]
    refine lexW_value (v := ?_) (by rfl) (by rfl) (fun W hW => ?_) ?_
    rotate_left
    · have l1 : (loadFe 24 ⟨w.heap.size + 1, 8, none⟩).run Tryd.prog W = .ok (.agg ((lims z2.val).map nv).toArray) W := run_loadFe_at (hW.getN (g := w.heap.size + 1) (l := limsL [x2.val, y2.val, z2.val, t2.val]) (by repeat (first | exact List.mem_cons_self .. | refine List.mem_cons_of_mem _ ?_))) 2 (by simp); go_simp <;> with_reducible rfl
    simp only [Act.put, List.setIfInBounds_toArray, List.set_cons_zero, List.set_cons_succ]
    refine' lexW_call (by rfl) (by rfl) (fun W hW => ?_) (fun W hW => ?_) ?_
    rotate_left 3
    · go_simp <;> first | with_reducible rfl | exact ⟨rfl, rfl⟩
    · with_reducible exact K3.out W hW.below
    simp only [Act.put, List.setIfInBounds_toArray, List.set_cons_zero, List.set_cons_succ]
    refine lexW_free (by rfl) ?_
    refine lexW_free (by rfl) ?_
    refine lexW_free (by rfl) ?_
    refine lexW_nil (fun b8 W8 F8x E8 => ?_)
    obtain ⟨_, _, _, ⟨g1, rfl, hg1x, hZ1⟩, ⟨g2, rfl, hg2x, hZ2⟩, ⟨g3, rfl, hg3x, hZ3⟩, ⟨n12, n13, n23⟩, rfl⟩ := lexEndD_three (j1 := 21) (j2 := 22) (j3 := 23) (d1 := 5) (d2 := 6) (d3 := 7) (by kernel_rfl) (by kernel_rfl) (by kernel_rfl) rfl (by simp) (by simp) (by simp) E8
    have hp8 := F8x.pos
    have hZ1 : HoldsN W8 24 g1 (lims 0) := hZ1
    have hZ2 : HoldsN W8 24 g2 (lims 0) := hZ2
    have hZ3 : HoldsN W8 24 g3 (lims 0) := hZ3
    have n12 := ptr_ne n12
    have n13 := ptr_ne n13
    have n23 := ptr_ne n23
    simp only [Act.put, List.setIfInBounds_toArray, List.set_cons_zero, List.set_cons_succ]
    go_wp2_with (first
      | (with_reducible refine wpList_store_n rfl 24 (.tmp 5) (.tmp 16) rfl g1 (lims e1.val) 4 rfl rfl rfl (lims 0) hZ1 Tryd.infoFe rfl w.heap.size w F8x.below (by omega) ?_
         intro ya1 H1 o1 s1 b1
         have q12 : HoldsN ya1 24 g2 (lims 0) := (o1 g2 (Ne.symm n12)).trans hZ2
         have q13 : HoldsN ya1 24 g3 (lims 0) := (o1 g3 (Ne.symm n13)).trans hZ3)
      | (with_reducible refine wpList_store_n rfl 24 (.tmp 6) (.tmp 23) rfl g2 (lims e2.val) 4 rfl rfl rfl (lims 0) q12 Tryd.infoFe rfl w.heap.size w b1 (by omega) ?_
         intro ya2 H2 o2 s2 b2
         have q21 : HoldsN ya2 24 g1 (lims e1.val) := (o2 g1 n12).trans H1
         have q23 : HoldsN ya2 24 g3 (lims 0) := (o2 g3 (Ne.symm n23)).trans q13)
      | (with_reducible refine wpList_store_n rfl 24 (.tmp 7) (.tmp 30) rfl g3 (lims e3.val) 4 rfl rfl rfl (lims 0) q23 Tryd.infoFe rfl w.heap.size w b2 (by omega) ?_
         intro ya3 H3 o3 s3 b3
         have q31 : HoldsN ya3 24 g1 (lims e1.val) := (o3 g1 n13).trans q21
         have q32 : HoldsN ya3 24 g2 (lims e2.val) := (o3 g2 n23).trans H2)
      | fail)
    go_meet
    exact ⟨g1, g2, g3, _, rfl, rfl, rfl, F8x.add3 q31 q32 H3 (fun k hk => (o3 k (by omega)).trans ((o2 k (by omega)).trans ((o1 k (by omega))))) (by omega) b3⟩
  case rest =>
    obtain ⟨g5, g6, g7, D2, rfl, rfl, rfl, F2⟩ := hcut
    have hg2x := F2.pos
    clear F1
    go_upto_region 2 with (fail)
    try dsimp only [Act.put]
    go_cut [8] (fun vp wx => ∃ g, vp = .pointer (some ⟨g, 0, none⟩) ∧ Bs w (g + 1) [(g, 24, ((lims e5.val).map nv).toArray), (g7, 24, ((lims e3.val).map nv).toArray), (g6, 24, ((lims e2.val).map nv).toArray), (g5, 24, ((lims e1.val).map nv).toArray), (w.heap.size + 1 + 1, 65, ((limsL [0, 0, 0, 0]).map nv).toArray), (w.heap.size + 1, 65, ((limsL [x2.val, y2.val, z2.val, t2.val]).map nv).toArray), (w.heap.size, 65, ((limsL [x1.val, y1.val, z1.val, t1.val]).map nv).toArray)] wx)
    case first =>
      refine wp_region_lex 8 (fun k => k == 7) (MadeT 24 #[.int .u64 0, .int .u64 0, .int .u64 0, .int .u64 0] D2) (Bs w D2 [(g7, 24, ((lims e3.val).map nv).toArray), (g6, 24, ((lims e2.val).map nv).toArray), (g5, 24, ((lims e1.val).map nv).toArray), (w.heap.size + 1 + 1, 65, ((limsL [0, 0, 0, 0]).map nv).toArray), (w.heap.size + 1, 65, ((limsL [x2.val, y2.val, z2.val, t2.val]).map nv).toArray), (w.heap.size, 65, ((limsL [x1.val, y1.val, z1.val, t1.val]).map nv).toArray)]) (by kernel_rfl) (by kernel_rfl) F2.drew Bs.stay MadeT.stay (made_t run_alloc_fe' Bs.size rfl) ?_
      simp only [List.take_succ_cons, List.take_zero, List.drop_succ_cons, List.drop_zero]
      refine lexW_value (v := ?_) (by rfl) (by rfl) (fun W hW => ?_) ?_
      rotate_left
      · have l1 := DL.out W hW.below; go_simp <;> with_reducible rfl
      simp only [Act.put, List.setIfInBounds_toArray, List.set_cons_zero, List.set_cons_succ]
      refine lexW_value (v := ?_) (by rfl) (by rfl) (fun W hW => ?_) ?_
      rotate_left
      · skip; go_simp <;> with_reducible rfl
      simp only [Act.put, List.setIfInBounds_toArray, List.set_cons_zero, List.set_cons_succ]
      refine lexW_value (v := ?_) (by rfl) (by rfl) (fun W hW => ?_) ?_
      rotate_left
      · have l1 : (loadFe 24 ⟨w.heap.size, 12, none⟩).run Tryd.prog W = .ok (.agg ((lims t1.val).map nv).toArray) W := run_loadFe_at (hW.getN (g := w.heap.size) (l := limsL [x1.val, y1.val, z1.val, t1.val]) (by repeat (first | exact List.mem_cons_self .. | refine List.mem_cons_of_mem _ ?_))) 3 (by simp); go_simp <;> with_reducible rfl
      simp only [Act.put, List.setIfInBounds_toArray, List.set_cons_zero, List.set_cons_succ]
      refine lexW_value (v := ?_) (by rfl) (by rfl) (fun W hW => ?_) ?_
      rotate_left
      · skip; go_simp <;> with_reducible rfl
      simp only [Act.put, List.setIfInBounds_toArray, List.set_cons_zero, List.set_cons_succ]
      refine lexW_value (v := ?_) (by rfl) (by rfl) (fun W hW => ?_) ?_
      rotate_left
      · have l1 : (loadFe 24 ⟨w.heap.size + 1, 12, none⟩).run Tryd.prog W = .ok (.agg ((lims t2.val).map nv).toArray) W := run_loadFe_at (hW.getN (g := w.heap.size + 1) (l := limsL [x2.val, y2.val, z2.val, t2.val]) (by repeat (first | exact List.mem_cons_self .. | refine List.mem_cons_of_mem _ ?_))) 3 (by simp); go_simp <;> with_reducible rfl
      simp only [Act.put, List.setIfInBounds_toArray, List.set_cons_zero, List.set_cons_succ]
      refine' lexW_call (by rfl) (by rfl) (fun W hW => ?_) (fun W hW => ?_) ?_
      rotate_left 3
      · go_simp <;> first | with_reducible rfl | exact ⟨rfl, rfl⟩
      · with_reducible exact K4.out W hW.below
      simp only [Act.put, List.setIfInBounds_toArray, List.set_cons_zero, List.set_cons_succ]
      refine' lexW_call (by rfl) (by rfl) (fun W hW => ?_) (fun W hW => ?_) ?_
      rotate_left 3
      · go_simp <;> first | with_reducible rfl | exact ⟨rfl, rfl⟩
      · with_reducible exact K5.out W hW.below
      simp only [Act.put, List.setIfInBounds_toArray, List.set_cons_zero, List.set_cons_succ]
      refine lexW_free (by rfl) ?_
      refine lexW_nil (fun b8 W8 F8x E8 => ?_)
      obtain ⟨_, ⟨g, rfl, hg, hZ⟩, rfl⟩ := lexEnd_one (j := 7) (d := 8) (by kernel_rfl) E8
      have hp8 := F8x.pos
      have hZ : HoldsN W8 24 g (lims 0) := hZ
      simp only [Act.put, List.setIfInBounds_toArray, List.set_cons_zero, List.set_cons_succ]
      go_wp2_with (with_reducible refine wpList_store_n rfl 24 (.tmp 8) (.tmp 37) rfl g (lims e5.val) 4 rfl rfl rfl (lims 0) hZ Tryd.infoFe rfl w.heap.size w F8x.below (by omega) ?_; intro w9x H9 o9 _ b9)
      go_meet
      exact ⟨g, rfl, F8x.add hg H9 o9 b9⟩
    case rest =>
      obtain ⟨g8, rfl, F3⟩ := hcut
      have hg8x := F3.pos
      clear F2
      go_upto_region 3 with (fail)
      try dsimp only [Act.put]
      go_cut [9] (fun vp wx => ∃ g, vp = .pointer (some ⟨g, 0, none⟩) ∧ Bs w (g + 1) [(g, 24, ((lims e10.val).map nv).toArray), (g8, 24, ((lims e5.val).map nv).toArray), (g7, 24, ((lims e3.val).map nv).toArray), (g6, 24, ((lims e2.val).map nv).toArray), (g5, 24, ((lims e1.val).map nv).toArray), (w.heap.size + 1 + 1, 65, ((limsL [0, 0, 0, 0]).map nv).toArray), (w.heap.size + 1, 65, ((limsL [x2.val, y2.val, z2.val, t2.val]).map nv).toArray), (w.heap.size, 65, ((limsL [x1.val, y1.val, z1.val, t1.val]).map nv).toArray)] wx)
      case first =>
        refine wp_region_lex 20 (fun k => k == 19) (MadeT 24 #[.int .u64 0, .int .u64 0, .int .u64 0, .int .u64 0] (g8 + 1)) (Bs w (g8 + 1) [(g8, 24, ((lims e5.val).map nv).toArray), (g7, 24, ((lims e3.val).map nv).toArray), (g6, 24, ((lims e2.val).map nv).toArray), (g5, 24, ((lims e1.val).map nv).toArray), (w.heap.size + 1 + 1, 65, ((limsL [0, 0, 0, 0]).map nv).toArray), (w.heap.size + 1, 65, ((limsL [x2.val, y2.val, z2.val, t2.val]).map nv).toArray), (w.heap.size, 65, ((limsL [x1.val, y1.val, z1.val, t1.val]).map nv).toArray)]) (by kernel_rfl) (by kernel_rfl) F3.drew Bs.stay MadeT.stay (made_t run_alloc_fe' Bs.size rfl) ?_
        simp only [List.take_succ_cons, List.take_zero, List.drop_succ_cons, List.drop_zero]
        refine lexW_value (v := ?_) (by rfl) (by rfl) (fun W hW => ?_) ?_
        rotate_left
        · skip; go_simp <;> with_reducible rfl
        simp only [Act.put, List.setIfInBounds_toArray, List.set_cons_zero, List.set_cons_succ]
        refine lexW_value (v := ?_) (by rfl) (by rfl) (fun W hW => ?_) ?_
        rotate_left
        · skip; go_simp <;> with_reducible rfl
        simp only [Act.put, List.setIfInBounds_toArray, List.set_cons_zero, List.set_cons_succ]
        refine lexW_value (v := ?_) (by rfl) (by rfl) (fun W hW => ?_) ?_
        rotate_left
        · have l1 : (loadFe 24 ⟨w.heap.size, 0, none⟩).run Tryd.prog W = .ok (.agg ((lims x1.val).map nv).toArray) W := run_loadFe_at (hW.getN (g := w.heap.size) (l := limsL [x1.val, y1.val, z1.val, t1.val]) (by repeat (first | exact List.mem_cons_self .. | refine List.mem_cons_of_mem _ ?_))) 0 (by simp); go_simp <;> with_reducible rfl
        simp only [Act.put, List.setIfInBounds_toArray, List.set_cons_zero, List.set_cons_succ]
        refine lexW_value (v := ?_) (by rfl) (by rfl) (fun W hW => ?_) ?_
        rotate_left
        · skip; go_simp <;> with_reducible rfl
        simp only [Act.put, List.setIfInBounds_toArray, List.set_cons_zero, List.set_cons_succ]
        refine lexW_value (v := ?_) (by rfl) (by rfl) (fun W hW => ?_) ?_
        rotate_left
        · skip; go_simp <;> with_reducible rfl
        simp only [Act.put, List.setIfInBounds_toArray, List.set_cons_zero, List.set_cons_succ]
        refine lexW_value (v := ?_) (by rfl) (by rfl) (fun W hW => ?_) ?_
        rotate_left
        · have l1 : (loadFe 24 ⟨w.heap.size, 4, none⟩).run Tryd.prog W = .ok (.agg ((lims y1.val).map nv).toArray) W := run_loadFe_at (hW.getN (g := w.heap.size) (l := limsL [x1.val, y1.val, z1.val, t1.val]) (by repeat (first | exact List.mem_cons_self .. | refine List.mem_cons_of_mem _ ?_))) 1 (by simp); go_simp <;> with_reducible rfl
        simp only [Act.put, List.setIfInBounds_toArray, List.set_cons_zero, List.set_cons_succ]
        refine' lexW_call (by rfl) (by rfl) (fun W hW => ?_) (fun W hW => ?_) ?_
        rotate_left 3
        · go_simp <;> first | with_reducible rfl | exact ⟨rfl, rfl⟩
        · with_reducible exact K6.out W hW.below
        simp only [Act.put, List.setIfInBounds_toArray, List.set_cons_zero, List.set_cons_succ]
        refine lexW_value (v := ?_) (by rfl) (by rfl) (fun W hW => ?_) ?_
        rotate_left
        · skip; go_simp <;> with_reducible rfl
        simp only [Act.put, List.setIfInBounds_toArray, List.set_cons_zero, List.set_cons_succ]
        refine lexW_value (v := ?_) (by rfl) (by rfl) (fun W hW => ?_) ?_
        rotate_left
        · skip; go_simp <;> with_reducible rfl
        simp only [Act.put, List.setIfInBounds_toArray, List.set_cons_zero, List.set_cons_succ]
        refine lexW_value (v := ?_) (by rfl) (by rfl) (fun W hW => ?_) ?_
        rotate_left
        · have l1 : (loadFe 24 ⟨w.heap.size + 1, 0, none⟩).run Tryd.prog W = .ok (.agg ((lims x2.val).map nv).toArray) W := run_loadFe_at (hW.getN (g := w.heap.size + 1) (l := limsL [x2.val, y2.val, z2.val, t2.val]) (by repeat (first | exact List.mem_cons_self .. | refine List.mem_cons_of_mem _ ?_))) 0 (by simp); go_simp <;> with_reducible rfl
        simp only [Act.put, List.setIfInBounds_toArray, List.set_cons_zero, List.set_cons_succ]
        refine lexW_value (v := ?_) (by rfl) (by rfl) (fun W hW => ?_) ?_
        rotate_left
        · skip; go_simp <;> with_reducible rfl
        simp only [Act.put, List.setIfInBounds_toArray, List.set_cons_zero, List.set_cons_succ]
        refine lexW_value (v := ?_) (by rfl) (by rfl) (fun W hW => ?_) ?_
        rotate_left
        · skip; go_simp <;> with_reducible rfl
        simp only [Act.put, List.setIfInBounds_toArray, List.set_cons_zero, List.set_cons_succ]
        refine lexW_value (v := ?_) (by rfl) (by rfl) (fun W hW => ?_) ?_
        rotate_left
        · have l1 : (loadFe 24 ⟨w.heap.size + 1, 4, none⟩).run Tryd.prog W = .ok (.agg ((lims y2.val).map nv).toArray) W := run_loadFe_at (hW.getN (g := w.heap.size + 1) (l := limsL [x2.val, y2.val, z2.val, t2.val]) (by repeat (first | exact List.mem_cons_self .. | refine List.mem_cons_of_mem _ ?_))) 1 (by simp); go_simp <;> with_reducible rfl
        simp only [Act.put, List.setIfInBounds_toArray, List.set_cons_zero, List.set_cons_succ]
        refine' lexW_call (by rfl) (by rfl) (fun W hW => ?_) (fun W hW => ?_) ?_
        rotate_left 3
        · go_simp <;> first | with_reducible rfl | exact ⟨rfl, rfl⟩
        · with_reducible exact K7.out W hW.below
        simp only [Act.put, List.setIfInBounds_toArray, List.set_cons_zero, List.set_cons_succ]
        refine' lexW_call (by rfl) (by rfl) (fun W hW => ?_) (fun W hW => ?_) ?_
        rotate_left 3
        · go_simp <;> first | with_reducible rfl | exact ⟨rfl, rfl⟩
        · with_reducible exact K8.out W hW.below
        simp only [Act.put, List.setIfInBounds_toArray, List.set_cons_zero, List.set_cons_succ]
        refine lexW_value (v := ?_) (by rfl) (by rfl) (fun W hW => ?_) ?_
        rotate_left
        · have l1 := run_loadFe (hW.getN (g := g5) (l := lims e1.val) (by repeat (first | exact List.mem_cons_self .. | refine List.mem_cons_of_mem _ ?_))); go_simp <;> with_reducible rfl
        simp only [Act.put, List.setIfInBounds_toArray, List.set_cons_zero, List.set_cons_succ]
        refine lexW_value (v := ?_) (by rfl) (by rfl) (fun W hW => ?_) ?_
        rotate_left
        · have l1 := run_loadFe (hW.getN (g := g6) (l := lims e2.val) (by repeat (first | exact List.mem_cons_self .. | refine List.mem_cons_of_mem _ ?_))); go_simp <;> with_reducible rfl
        simp only [Act.put, List.setIfInBounds_toArray, List.set_cons_zero, List.set_cons_succ]
        refine' lexW_call (by rfl) (by rfl) (fun W hW => ?_) (fun W hW => ?_) ?_
        rotate_left 3
        · go_simp <;> first | with_reducible rfl | exact ⟨rfl, rfl⟩
        · with_reducible exact K9.out W hW.below
        simp only [Act.put, List.setIfInBounds_toArray, List.set_cons_zero, List.set_cons_succ]
        refine' lexW_call (by rfl) (by rfl) (fun W hW => ?_) (fun W hW => ?_) ?_
        rotate_left 3
        · go_simp <;> first | with_reducible rfl | exact ⟨rfl, rfl⟩
        · with_reducible exact K10.out W hW.below
        simp only [Act.put, List.setIfInBounds_toArray, List.set_cons_zero, List.set_cons_succ]
        refine lexW_free (by rfl) ?_
        refine lexW_nil (fun b8 W8 F8x E8 => ?_)
        obtain ⟨_, ⟨g, rfl, hg, hZ⟩, rfl⟩ := lexEnd_one (j := 19) (d := 9) (by kernel_rfl) E8
        have hp8 := F8x.pos
        have hZ : HoldsN W8 24 g (lims 0) := hZ
        simp only [Act.put, List.setIfInBounds_toArray, List.set_cons_zero, List.set_cons_succ]
        go_wp2_with (with_reducible refine wpList_store_n rfl 24 (.tmp 9) (.tmp 56) rfl g (lims e10.val) 4 rfl rfl rfl (lims 0) hZ Tryd.infoFe rfl w.heap.size w F8x.below (by omega) ?_; intro w9x H9 o9 _ b9)
        go_meet
        exact ⟨g, rfl, F8x.add hg H9 o9 b9⟩
      case rest =>
        obtain ⟨g9, rfl, F4⟩ := hcut
        have hg9x := F4.pos
        clear F3
        go_upto_region 4 with (fail)
        try dsimp only [Act.put]
        refine wp_region_lex 11 (fun _ => false) (fun _ _ _ => True) (Bs w (g9 + 1) [(g9, 24, ((lims e10.val).map nv).toArray), (g8, 24, ((lims e5.val).map nv).toArray), (g7, 24, ((lims e3.val).map nv).toArray), (g6, 24, ((lims e2.val).map nv).toArray), (g5, 24, ((lims e1.val).map nv).toArray), (w.heap.size + 1 + 1, 65, ((limsL [0, 0, 0, 0]).map nv).toArray), (w.heap.size + 1, 65, ((limsL [x2.val, y2.val, z2.val, t2.val]).map nv).toArray), (w.heap.size, 65, ((limsL [x1.val, y1.val, z1.val, t1.val]).map nv).toArray)]) (by kernel_rfl) (by kernel_rfl) F4.drew Bs.stay (fun _ _ _ _ _ _ => trivial) lex_none ?_
        simp only [List.take_succ_cons, List.take_zero, List.drop_succ_cons, List.drop_zero]
        refine lexW_value (v := ?_) (by rfl) (by rfl) (fun W hW => ?_) ?_
        rotate_left
        · have l1 := run_loadFe (hW.getN (g := g9) (l := lims e10.val) (by repeat (first | exact List.mem_cons_self .. | refine List.mem_cons_of_mem _ ?_))); go_simp <;> with_reducible rfl
        simp only [Act.put, List.setIfInBounds_toArray, List.set_cons_zero, List.set_cons_succ]
        refine lexW_value (v := ?_) (by rfl) (by rfl) (fun W hW => ?_) ?_
        rotate_left
        · have l1 := run_loadFe (hW.getN (g := g7) (l := lims e3.val) (by repeat (first | exact List.mem_cons_self .. | refine List.mem_cons_of_mem _ ?_))); go_simp <;> with_reducible rfl
        simp only [Act.put, List.setIfInBounds_toArray, List.set_cons_zero, List.set_cons_succ]
        refine lexW_value (v := ?_) (by rfl) (by rfl) (fun W hW => ?_) ?_
        rotate_left
        · have l1 := run_loadFe (hW.getN (g := g8) (l := lims e5.val) (by repeat (first | exact List.mem_cons_self .. | refine List.mem_cons_of_mem _ ?_))); go_simp <;> with_reducible rfl
        simp only [Act.put, List.setIfInBounds_toArray, List.set_cons_zero, List.set_cons_succ]
        refine' lexW_call (by rfl) (by rfl) (fun W hW => ?_) (fun W hW => ?_) ?_
        rotate_left 3
        · go_simp <;> first | with_reducible rfl | exact ⟨rfl, rfl⟩
        · with_reducible exact K11.out W hW.below
        simp only [Act.put, List.setIfInBounds_toArray, List.set_cons_zero, List.set_cons_succ]
        refine lexW_value (v := ?_) (by rfl) (by rfl) (fun W hW => ?_) ?_
        rotate_left
        · have l1 := run_loadFe (hW.getN (g := g6) (l := lims e2.val) (by repeat (first | exact List.mem_cons_self .. | refine List.mem_cons_of_mem _ ?_))); go_simp <;> with_reducible rfl
        simp only [Act.put, List.setIfInBounds_toArray, List.set_cons_zero, List.set_cons_succ]
        refine lexW_value (v := ?_) (by rfl) (by rfl) (fun W hW => ?_) ?_
        rotate_left
        · have l1 := run_loadFe (hW.getN (g := g5) (l := lims e1.val) (by repeat (first | exact List.mem_cons_self .. | refine List.mem_cons_of_mem _ ?_))); go_simp <;> with_reducible rfl
        simp only [Act.put, List.setIfInBounds_toArray, List.set_cons_zero, List.set_cons_succ]
        refine' lexW_call (by rfl) (by rfl) (fun W hW => ?_) (fun W hW => ?_) ?_
        rotate_left 3
        · go_simp <;> first | with_reducible rfl | exact ⟨rfl, rfl⟩
        · with_reducible exact K12.out W hW.below
        simp only [Act.put, List.setIfInBounds_toArray, List.set_cons_zero, List.set_cons_succ]
        refine lexW_value (v := ?_) (by rfl) (by rfl) (fun W hW => ?_) ?_
        rotate_left
        · have l1 := run_loadFe (hW.getN (g := g7) (l := lims e3.val) (by repeat (first | exact List.mem_cons_self .. | refine List.mem_cons_of_mem _ ?_))); go_simp <;> with_reducible rfl
        simp only [Act.put, List.setIfInBounds_toArray, List.set_cons_zero, List.set_cons_succ]
        refine lexW_value (v := ?_) (by rfl) (by rfl) (fun W hW => ?_) ?_
        rotate_left
        · have l1 := run_loadFe (hW.getN (g := g8) (l := lims e5.val) (by repeat (first | exact List.mem_cons_self .. | refine List.mem_cons_of_mem _ ?_))); go_simp <;> with_reducible rfl
        simp only [Act.put, List.setIfInBounds_toArray, List.set_cons_zero, List.set_cons_succ]
        refine' lexW_call (by rfl) (by rfl) (fun W hW => ?_) (fun W hW => ?_) ?_
        rotate_left 3
        · go_simp <;> first | with_reducible rfl | exact ⟨rfl, rfl⟩
        · with_reducible exact K13.out W hW.below
        simp only [Act.put, List.setIfInBounds_toArray, List.set_cons_zero, List.set_cons_succ]
        refine' lexW_call (by rfl) (by rfl) (fun W hW => ?_) (fun W hW => ?_) ?_
        rotate_left 3
        · go_simp <;> first | with_reducible rfl | exact ⟨rfl, rfl⟩
        · with_reducible exact K14.out W hW.below
        simp only [Act.put, List.setIfInBounds_toArray, List.set_cons_zero, List.set_cons_succ]
        refine lexW_nil (fun b8 W8 F8x E8 => ?_)
        obtain rfl := lexEnd_none E8
        have hR := F8x.getN (g := w.heap.size + 1 + 1) (l := limsL [0, 0, 0, 0]) (by repeat (first | exact List.mem_cons_self .. | refine List.mem_cons_of_mem _ ?_))
        go_wp2_with (with_reducible refine wpList_store_n rfl 65 (.tmp 4) (.tmp 67) rfl (w.heap.size + 1 + 1) (limsL [j1.val, j2.val, j3.val, j4.val]) 16 rfl rfl rfl (limsL [0, 0, 0, 0]) hR Tryd.infoQd rfl w.heap.size w F8x.below (by omega) ?_; intro w9x Hg _ _ b9)
        exact bodyPost_ret (results_cell_row rfl _ _ _ _ _ _ _ rfl Hg Tryd.underlying65 rfl (by rw [Tryd.infoQd]; rfl)) rfl ⟨rfl, b9⟩
end
end Crv
end Go.Proofs.YtlfkohanfeejfaaDoor
