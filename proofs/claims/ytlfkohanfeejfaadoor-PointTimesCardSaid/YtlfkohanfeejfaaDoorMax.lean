/-
  The program's curve: a point of both of its numbers; a point in two numbers.
-/
import Derived.Test.YtlfkohanfeejfaaDoorMaw
namespace Go.Proofs.YtlfkohanfeejfaaDoor
open Go.RowKit
namespace Crv

section
attribute [local go_sem ↓] load_fe

set_option maxRecDepth 100000 in
set_option maxHeartbeats 8000000 in
theorem joined_el (x xb y yb : F) (w : World) :
    Calls Tryd.prog 74 #[.agg ((lims x.val).map nv).toArray, .agg ((lims xb.val).map nv).toArray, .agg ((lims y.val).map nv).toArray, .agg ((lims yb.val).map nv).toArray] w (GaveR w (qjoin x xb y yb)) := by
  obtain ⟨e1, he1⟩ : ∃ zz : F, zz = x * yb := ⟨_, rfl⟩
  obtain ⟨e2, he2⟩ : ∃ zz : F, zz = y * xb := ⟨_, rfl⟩
  obtain ⟨e3, he3⟩ : ∃ zz : F, zz = xb * yb := ⟨_, rfl⟩
  obtain ⟨e4, he4⟩ : ∃ zz : F, zz = x * y := ⟨_, rfl⟩
  have hgoal : qjoin x xb y yb = (e1, e2, e3, e4) := by
    first
    | (rw [he4, he3, he2, he1]; done)
    | (subst he1 he2 he3 he4; rfl)
  have K1 : Hid (∀ W, Below w.heap.size w W → Calls Tryd.prog 43 #[.agg ((lims x.val).map nv).toArray, .agg ((lims yb.val).map nv).toArray] W (GaveE W e1)) := Lib.hid fun W _ => by rw [he1]; exact fMul x yb W
  have K2 : Hid (∀ W, Below w.heap.size w W → Calls Tryd.prog 43 #[.agg ((lims y.val).map nv).toArray, .agg ((lims xb.val).map nv).toArray] W (GaveE W e2)) := Lib.hid fun W _ => by rw [he2]; exact fMul y xb W
  have K3 : Hid (∀ W, Below w.heap.size w W → Calls Tryd.prog 43 #[.agg ((lims xb.val).map nv).toArray, .agg ((lims yb.val).map nv).toArray] W (GaveE W e3)) := Lib.hid fun W _ => by rw [he3]; exact fMul xb yb W
  have K4 : Hid (∀ W, Below w.heap.size w W → Calls Tryd.prog 43 #[.agg ((lims x.val).map nv).toArray, .agg ((lims y.val).map nv).toArray] W (GaveE W e4)) := Lib.hid fun W _ => by rw [he4]; exact fMul x y W
  rw [hgoal]
  unfold GaveR qv
  clear hgoal he4 he3 he2 he1
  have hbuilt1 := Lib.hid (Tryd.builtTr e1.val e2.val e3.val)
  have hbuilt2 := Lib.hid (Tryd.builtQd e1.val e2.val e3.val e4.val)
  have F1 : Bs w (w.heap.size + 1 + 1 + 1 + 1 + 1) [(w.heap.size + 1 + 1 + 1 + 1, 65, ((limsL [0, 0, 0, 0]).map nv).toArray), (w.heap.size + 1 + 1 + 1, 24, ((lims yb.val).map nv).toArray), (w.heap.size + 1 + 1, 24, ((lims y.val).map nv).toArray), (w.heap.size + 1, 24, ((lims xb.val).map nv).toArray), (w.heap.size, 24, ((lims x.val).map nv).toArray)] (((((w.alloc (.cells ((lims x.val).map nv).toArray 24)).alloc (.cells ((lims xb.val).map nv).toArray 24)).alloc (.cells ((lims y.val).map nv).toArray 24)).alloc (.cells ((lims yb.val).map nv).toArray 24)).alloc (.cells #[.int .u64 0, .int .u64 0, .int .u64 0, .int .u64 0, .int .u64 0, .int .u64 0, .int .u64 0, .int .u64 0, .int .u64 0, .int .u64 0, .int .u64 0, .int .u64 0, .int .u64 0, .int .u64 0, .int .u64 0, .int .u64 0] 65)) :=
    ((((Bs.nil.alloc rfl).alloc (by simp only [World.size_alloc])).alloc (by simp only [World.size_alloc])).alloc (by simp only [World.size_alloc])).alloc (by simp only [World.size_alloc])
  go_enter Tryd.func74, Tryd.ntmps74
  go_upto_region 1 with (fail)
  generalize (((((w.alloc (.cells ((lims x.val).map nv).toArray 24)).alloc (.cells ((lims xb.val).map nv).toArray 24)).alloc (.cells ((lims y.val).map nv).toArray 24)).alloc (.cells ((lims yb.val).map nv).toArray 24)).alloc (.cells #[.int .u64 0, .int .u64 0, .int .u64 0, .int .u64 0, .int .u64 0, .int .u64 0, .int .u64 0, .int .u64 0, .int .u64 0, .int .u64 0, .int .u64 0, .int .u64 0, .int .u64 0, .int .u64 0, .int .u64 0, .int .u64 0] 65)) = wv at *
  try dsimp only [Act.put]
  refine wp_region_lex 14 (fun _ => false) (fun _ _ _ => True) (Bs w (w.heap.size + 1 + 1 + 1 + 1 + 1) [(w.heap.size + 1 + 1 + 1 + 1, 65, ((limsL [0, 0, 0, 0]).map nv).toArray), (w.heap.size + 1 + 1 + 1, 24, ((lims yb.val).map nv).toArray), (w.heap.size + 1 + 1, 24, ((lims y.val).map nv).toArray), (w.heap.size + 1, 24, ((lims xb.val).map nv).toArray), (w.heap.size, 24, ((lims x.val).map nv).toArray)]) (by kernel_rfl) (by kernel_rfl) F1.drew Bs.stay (fun _ _ _ _ _ _ => trivial) lex_none ?_
  simp only [List.take_succ_cons, List.take_zero, List.drop_succ_cons, List.drop_zero]
  refine lexW_value (v := ?_) (by rfl) (by rfl) (fun W hW => ?_) ?_
  rotate_left
  · have l1 := run_loadFe (hW.getN (g := w.heap.size) (l := lims x.val) (by repeat (first | exact List.mem_cons_self .. | refine List.mem_cons_of_mem _ ?_))); go_simp <;> with_reducible rfl
  simp only [Act.put, List.setIfInBounds_toArray, List.set_cons_zero, List.set_cons_succ]
  refine lexW_value (v := ?_) (by rfl) (by rfl) (fun W hW => ?_) ?_
  rotate_left
  · have l1 := run_loadFe (hW.getN (g := w.heap.size + 1 + 1 + 1) (l := lims yb.val) (by repeat (first | exact List.mem_cons_self .. | refine List.mem_cons_of_mem _ ?_))); go_simp <;> with_reducible rfl
  simp only [Act.put, List.setIfInBounds_toArray, List.set_cons_zero, List.set_cons_succ]
  refine' lexW_call (by rfl) (by rfl) (fun W hW => ?_) (fun W hW => ?_) ?_
  rotate_left 3
  · go_simp <;> first | with_reducible rfl | exact ⟨rfl, rfl⟩
  · with_reducible exact K1.out W hW.below
  simp only [Act.put, List.setIfInBounds_toArray, List.set_cons_zero, List.set_cons_succ]
  refine lexW_value (v := ?_) (by rfl) (by rfl) (fun W hW => ?_) ?_
  rotate_left
  · have l1 := run_loadFe (hW.getN (g := w.heap.size + 1 + 1) (l := lims y.val) (by repeat (first | exact List.mem_cons_self .. | refine List.mem_cons_of_mem _ ?_))); go_simp <;> with_reducible rfl
  simp only [Act.put, List.setIfInBounds_toArray, List.set_cons_zero, List.set_cons_succ]
  refine lexW_value (v := ?_) (by rfl) (by rfl) (fun W hW => ?_) ?_
  rotate_left
  · have l1 := run_loadFe (hW.getN (g := w.heap.size + 1) (l := lims xb.val) (by repeat (first | exact List.mem_cons_self .. | refine List.mem_cons_of_mem _ ?_))); go_simp <;> with_reducible rfl
  simp only [Act.put, List.setIfInBounds_toArray, List.set_cons_zero, List.set_cons_succ]
  refine' lexW_call (by rfl) (by rfl) (fun W hW => ?_) (fun W hW => ?_) ?_
  rotate_left 3
  · go_simp <;> first | with_reducible rfl | exact ⟨rfl, rfl⟩
  · with_reducible exact K2.out W hW.below
  simp only [Act.put, List.setIfInBounds_toArray, List.set_cons_zero, List.set_cons_succ]
  refine lexW_value (v := ?_) (by rfl) (by rfl) (fun W hW => ?_) ?_
  rotate_left
  · have l1 := run_loadFe (hW.getN (g := w.heap.size + 1) (l := lims xb.val) (by repeat (first | exact List.mem_cons_self .. | refine List.mem_cons_of_mem _ ?_))); go_simp <;> with_reducible rfl
  simp only [Act.put, List.setIfInBounds_toArray, List.set_cons_zero, List.set_cons_succ]
  refine lexW_value (v := ?_) (by rfl) (by rfl) (fun W hW => ?_) ?_
  rotate_left
  · have l1 := run_loadFe (hW.getN (g := w.heap.size + 1 + 1 + 1) (l := lims yb.val) (by repeat (first | exact List.mem_cons_self .. | refine List.mem_cons_of_mem _ ?_))); go_simp <;> with_reducible rfl
  simp only [Act.put, List.setIfInBounds_toArray, List.set_cons_zero, List.set_cons_succ]
  refine' lexW_call (by rfl) (by rfl) (fun W hW => ?_) (fun W hW => ?_) ?_
  rotate_left 3
  · go_simp <;> first | with_reducible rfl | exact ⟨rfl, rfl⟩
  · with_reducible exact K3.out W hW.below
  simp only [Act.put, List.setIfInBounds_toArray, List.set_cons_zero, List.set_cons_succ]
  refine lexW_value (v := .agg ((limsL [e1.val, e2.val, e3.val]).map nv).toArray) (by rfl) (by rfl) (fun W hW => exec_build _ _ 63 #[(0, .tmp 11), (1, .tmp 14), (2, .tmp 17)] rfl _ (by with_unfolding_all exact hbuilt1.out) W) ?_
  simp only [Act.put, List.setIfInBounds_toArray, List.set_cons_zero, List.set_cons_succ]
  refine lexW_value (v := ?_) (by rfl) (by rfl) (fun W hW => ?_) ?_
  rotate_left
  · have l1 := run_loadFe (hW.getN (g := w.heap.size) (l := lims x.val) (by repeat (first | exact List.mem_cons_self .. | refine List.mem_cons_of_mem _ ?_))); go_simp <;> with_reducible rfl
  simp only [Act.put, List.setIfInBounds_toArray, List.set_cons_zero, List.set_cons_succ]
  refine lexW_value (v := ?_) (by rfl) (by rfl) (fun W hW => ?_) ?_
  rotate_left
  · have l1 := run_loadFe (hW.getN (g := w.heap.size + 1 + 1) (l := lims y.val) (by repeat (first | exact List.mem_cons_self .. | refine List.mem_cons_of_mem _ ?_))); go_simp <;> with_reducible rfl
  simp only [Act.put, List.setIfInBounds_toArray, List.set_cons_zero, List.set_cons_succ]
  refine' lexW_call (by rfl) (by rfl) (fun W hW => ?_) (fun W hW => ?_) ?_
  rotate_left 3
  · go_simp <;> first | with_reducible rfl | exact ⟨rfl, rfl⟩
  · with_reducible exact K4.out W hW.below
  simp only [Act.put, List.setIfInBounds_toArray, List.set_cons_zero, List.set_cons_succ]
  refine lexW_value (v := .agg ((limsL [e1.val, e2.val, e3.val, e4.val]).map nv).toArray) (by rfl) (by rfl) (fun W hW => exec_build _ _ 65 #[(0, .tmp 18), (1, .tmp 21)] rfl _ (by with_unfolding_all exact hbuilt2.out) W) ?_
  simp only [Act.put, List.setIfInBounds_toArray, List.set_cons_zero, List.set_cons_succ]
  refine lexW_nil (fun b8 W8 F8x E8 => ?_)
  obtain rfl := lexEnd_none E8
  have hR := F8x.getN (g := w.heap.size + 1 + 1 + 1 + 1) (l := limsL [0, 0, 0, 0]) (by repeat (first | exact List.mem_cons_self .. | refine List.mem_cons_of_mem _ ?_))
  go_wp2_with (with_reducible refine wpList_store_n rfl 65 (.tmp 8) (.tmp 22) rfl (w.heap.size + 1 + 1 + 1 + 1) (limsL [e1.val, e2.val, e3.val, e4.val]) 16 rfl rfl rfl (limsL [0, 0, 0, 0]) hR Tryd.infoQd rfl w.heap.size w F8x.below (by omega) ?_; intro w9x Hg _ _ b9)
  exact bodyPost_ret (results_cell_row rfl _ _ _ _ _ _ _ rfl Hg Tryd.underlying65 rfl (by rw [Tryd.infoQd]; rfl)) rfl ⟨rfl, b9⟩
set_option maxRecDepth 100000 in
set_option maxHeartbeats 8000000 in
theorem point_el (x y z : F) (w : World) :
    Calls Tryd.prog 54 #[.agg ((limsL [x.val, y.val, z.val]).map nv).toArray] w (GaveQ w (x * finv z, y * finv z)) := by
  obtain ⟨e1, he1⟩ : ∃ zz : F, zz = finv z := ⟨_, rfl⟩
  obtain ⟨e2, he2⟩ : ∃ zz : F, zz = x * e1 := ⟨_, rfl⟩
  obtain ⟨e3, he3⟩ : ∃ zz : F, zz = y * e1 := ⟨_, rfl⟩
  have hgoal : (x * finv z, y * finv z) = (e2, e3) := by
    first
    | (rw [he3, he2, he1]; done)
    | (subst he1 he2 he3; rfl)
  have K1 : Hid (∀ W, Below w.heap.size w W → Calls Tryd.prog 75 #[.agg ((lims z.val).map nv).toArray] W (GaveE W e1)) := Lib.hid fun W _ => by rw [he1]; exact fInv z W
  have K2 : Hid (∀ W, Below w.heap.size w W → Calls Tryd.prog 43 #[.agg ((lims x.val).map nv).toArray, .agg ((lims e1.val).map nv).toArray] W (GaveE W e2)) := Lib.hid fun W _ => by rw [he2]; exact fMul x e1 W
  have K3 : Hid (∀ W, Below w.heap.size w W → Calls Tryd.prog 43 #[.agg ((lims y.val).map nv).toArray, .agg ((lims e1.val).map nv).toArray] W (GaveE W e3)) := Lib.hid fun W _ => by rw [he3]; exact fMul y e1 W
  rw [hgoal]
  unfold GaveQ ptv
  clear hgoal he3 he2 he1
  have hbuilt1 := Lib.hid (Tryd.builtPt e2.val e3.val)
  have F1 : Bs w (w.heap.size + 1 + 1) [(w.heap.size + 1, 26, ((limsL [0, 0]).map nv).toArray), (w.heap.size, 63, ((limsL [x.val, y.val, z.val]).map nv).toArray)] ((w.alloc (.cells ((limsL [x.val, y.val, z.val]).map nv).toArray 63)).alloc (.cells #[.int .u64 0, .int .u64 0, .int .u64 0, .int .u64 0, .int .u64 0, .int .u64 0, .int .u64 0, .int .u64 0] 26)) :=
    (Bs.nil.alloc rfl).alloc (by simp only [World.size_alloc])
  go_enter Tryd.func54, Tryd.ntmps54
  go_upto_region 1 with (fail)
  generalize ((w.alloc (.cells ((limsL [x.val, y.val, z.val]).map nv).toArray 63)).alloc (.cells #[.int .u64 0, .int .u64 0, .int .u64 0, .int .u64 0, .int .u64 0, .int .u64 0, .int .u64 0, .int .u64 0] 26)) = wv at *
  have hL1 : wv.rangeAt (w.heap.size) 8 ((lims z.val).map nv) := range_at (F1.getN (g := w.heap.size) (l := limsL [x.val, y.val, z.val]) (by repeat (first | exact List.mem_cons_self .. | refine List.mem_cons_of_mem _ ?_))) 2 (by simp)
  go_upto_region 2 with (first
    | (with_reducible refine wpList_load_mid rfl 24 (.tmp 4) rfl (w.heap.size) 8 rfl ((lims z.val).map nv) _ hL1 Tryd.underlying24 rfl (by rw [Tryd.infoFe, List.length_map, lims_length]) ?_)
    | (go_at_call 75
       with_reducible refine (K1.out _ F1.below).mono ?_
       rintro e w2 ⟨rfl, hb2⟩
       have F2 := Bs.stay _ _ F1 hb2
       have F2a := Bs.stay _ _ F2 ((Below.refl _ w2).alloc (Nat.le_refl _) (.cells #[.int .u64 0, .int .u64 0, .int .u64 0, .int .u64 0] 24))
       have z2 := fe_new w2)
    | (with_reducible refine wpList_store_n rfl 24 (.tmp 3) (.tmp 6) rfl w2.heap.size (lims e1.val) 4 rfl rfl rfl (lims 0) (by with_unfolding_all exact z2) Tryd.infoFe rfl w.heap.size w (by with_unfolding_all exact F2a.below) F2.below.size ?_
       intro w3 H3 o3 s3 b3
       have F3 := Bs.add (by with_unfolding_all exact F2a) F2.len H3 o3 b3
       clear s3)
    | fail)
  have hg2 := F2.len
  clear hL1 hb2 F1 F2a z2 o3 H3 b3 F2
  generalize w2.heap.size = g3 at *
  try dsimp only [Act.put]
  refine wp_region_lex 9 (fun _ => false) (fun _ _ _ => True) (Bs w (g3 + 1) [(g3, 24, ((lims e1.val).map nv).toArray), (w.heap.size + 1, 26, ((limsL [0, 0]).map nv).toArray), (w.heap.size, 63, ((limsL [x.val, y.val, z.val]).map nv).toArray)]) (by kernel_rfl) (by kernel_rfl) F3.drew Bs.stay (fun _ _ _ _ _ _ => trivial) lex_none ?_
  simp only [List.take_succ_cons, List.take_zero, List.drop_succ_cons, List.drop_zero]
  refine lexW_value (v := ?_) (by rfl) (by rfl) (fun W hW => ?_) ?_
  rotate_left
  · skip; go_simp <;> with_reducible rfl
  simp only [Act.put, List.setIfInBounds_toArray, List.set_cons_zero, List.set_cons_succ]
  refine lexW_value (v := ?_) (by rfl) (by rfl) (fun W hW => ?_) ?_
  rotate_left
  · have l1 : (loadFe 24 ⟨w.heap.size, 0, none⟩).run Tryd.prog W = .ok (.agg ((lims x.val).map nv).toArray) W := run_loadFe_at (hW.getN (g := w.heap.size) (l := limsL [x.val, y.val, z.val]) (by repeat (first | exact List.mem_cons_self .. | refine List.mem_cons_of_mem _ ?_))) 0 (by simp); go_simp <;> with_reducible rfl
  simp only [Act.put, List.setIfInBounds_toArray, List.set_cons_zero, List.set_cons_succ]
  refine lexW_value (v := ?_) (by rfl) (by rfl) (fun W hW => ?_) ?_
  rotate_left
  · have l1 := run_loadFe (hW.getN (g := g3) (l := lims e1.val) (by repeat (first | exact List.mem_cons_self .. | refine List.mem_cons_of_mem _ ?_))); go_simp <;> with_reducible rfl
  simp only [Act.put, List.setIfInBounds_toArray, List.set_cons_zero, List.set_cons_succ]
  refine' lexW_call (by rfl) (by rfl) (fun W hW => ?_) (fun W hW => ?_) ?_
  rotate_left 3
  · go_simp <;> first | with_reducible rfl | exact ⟨rfl, rfl⟩
  · with_reducible exact K2.out W hW.below
  simp only [Act.put, List.setIfInBounds_toArray, List.set_cons_zero, List.set_cons_succ]
  refine lexW_value (v := ?_) (by rfl) (by rfl) (fun W hW => ?_) ?_
  rotate_left
  · skip; go_simp <;> with_reducible rfl
  simp only [Act.put, List.setIfInBounds_toArray, List.set_cons_zero, List.set_cons_succ]
  refine lexW_value (v := ?_) (by rfl) (by rfl) (fun W hW => ?_) ?_
  rotate_left
  · have l1 : (loadFe 24 ⟨w.heap.size, 4, none⟩).run Tryd.prog W = .ok (.agg ((lims y.val).map nv).toArray) W := run_loadFe_at (hW.getN (g := w.heap.size) (l := limsL [x.val, y.val, z.val]) (by repeat (first | exact List.mem_cons_self .. | refine List.mem_cons_of_mem _ ?_))) 1 (by simp); go_simp <;> with_reducible rfl
  simp only [Act.put, List.setIfInBounds_toArray, List.set_cons_zero, List.set_cons_succ]
  refine lexW_value (v := ?_) (by rfl) (by rfl) (fun W hW => ?_) ?_
  rotate_left
  · have l1 := run_loadFe (hW.getN (g := g3) (l := lims e1.val) (by repeat (first | exact List.mem_cons_self .. | refine List.mem_cons_of_mem _ ?_))); go_simp <;> with_reducible rfl
  simp only [Act.put, List.setIfInBounds_toArray, List.set_cons_zero, List.set_cons_succ]
  refine' lexW_call (by rfl) (by rfl) (fun W hW => ?_) (fun W hW => ?_) ?_
  rotate_left 3
  · go_simp <;> first | with_reducible rfl | exact ⟨rfl, rfl⟩
  · with_reducible exact K3.out W hW.below
  simp only [Act.put, List.setIfInBounds_toArray, List.set_cons_zero, List.set_cons_succ]
  refine lexW_value (v := .agg ((limsL [e2.val, e3.val]).map nv).toArray) (by rfl) (by rfl) (fun W hW => exec_build _ _ 26 #[(0, .tmp 10), (1, .tmp 14)] rfl _ (by with_unfolding_all exact hbuilt1.out) W) ?_
  simp only [Act.put, List.setIfInBounds_toArray, List.set_cons_zero, List.set_cons_succ]
  refine lexW_nil (fun b8 W8 F8x E8 => ?_)
  obtain rfl := lexEnd_none E8
  have hR := F8x.getN (g := w.heap.size + 1) (l := limsL [0, 0]) (by repeat (first | exact List.mem_cons_self .. | refine List.mem_cons_of_mem _ ?_))
  go_wp2_with (with_reducible refine wpList_store_n rfl 26 (.tmp 2) (.tmp 15) rfl (w.heap.size + 1) (limsL [e2.val, e3.val]) 8 rfl rfl rfl (limsL [0, 0]) hR Tryd.infoPt rfl w.heap.size w F8x.below (by omega) ?_; intro w9x Hg _ _ b9)
  exact bodyPost_ret (results_cell_row rfl _ _ _ _ _ _ _ rfl Hg Tryd.underlying26 rfl (by rw [Tryd.infoPt]; rfl)) rfl ⟨rfl, b9⟩
end
end Crv
end Go.Proofs.YtlfkohanfeejfaaDoor
