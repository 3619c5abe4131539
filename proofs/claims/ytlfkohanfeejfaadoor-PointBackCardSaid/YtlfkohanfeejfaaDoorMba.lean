/-
  The program's curve: none, Base; is it a point?
  The program's curve: the point of the curve that one is taken as; a point in four numbers; what is below none.
-/
import Derived.Test.YtlfkohanfeejfaaDoorMay
import Derived.Test.YtlfkohanfeejfaaDoorMaz
namespace Go.Proofs.YtlfkohanfeejfaaDoor
open Go.RowKit
namespace Crv

section
attribute [local go_sem ↓] load_fe

theorem Tryd.builtYz (y : Nat) : Tryd.prog.built 26 [(1, .agg ((lims y).map nv).toArray)] = some ((limsL [0, y]).map nv).toArray := by kernel_rfl
set_option maxRecDepth 100000 in
theorem Zero_any (w : World) (_ : Laid w) : Calls Tryd.prog 18 #[] w (GaveP w 0 1) := by
  have z0 := pt_new w
  have b0 := (Below.refl w.heap.size w).alloc (Nat.le_refl _) (.cells ptz 26)
  have hY := Lib.hid (Tryd.builtYz (1 : F).val)
  have S1 : Hid (∀ W, Calls Tryd.prog 47 #[.int .u64 1] W (GaveE W 1)) := Lib.hid fun W => fSmall W
  have e1 : ptv 0 1 = .agg ((limsL [0, (1 : F).val]).map nv).toArray := rfl
  unfold GaveP
  rw [e1]
  generalize (1 : F) = f1 at *
  go_enter Tryd.func18, Tryd.ntmps18
  go_wp2_with (first
    | (go_at_call 47
       with_reducible refine (S1.out _).mono ?_
       rintro e w3 ⟨rfl, hb3⟩
       have z3 : HoldsN w3 26 w.heap.size (limsL [0, 0]) := HoldsN.keep (by with_unfolding_all exact z0) hb3 (by with_unfolding_all exact z0.lt)
       have b3 := (show Below w.heap.size w _ from (by with_unfolding_all exact b0)).trans (hb3.mono (show w.heap.size ≤ _ from (by with_unfolding_all exact b0.size))))
    | (with_reducible refine wpList_buildTo rfl 26 #[(1, .tmp 1)] rfl (some 2) rfl ((limsL [0, f1.val]).map nv).toArray (by with_unfolding_all exact hY.out) ?_)
    | (with_reducible refine wpList_store_n rfl 26 (.tmp 0) (.tmp 2) rfl w.heap.size (limsL [0, f1.val]) 8 rfl rfl rfl (limsL [0, 0]) z3 Tryd.infoPt rfl w.heap.size w b3 (Nat.le_refl _) ?_; intro w2 Hg _ _ hb2)
    | fail)
  exact bodyPost_ret (results_cell_row rfl _ _ w.heap.size _ _ _ _ rfl Hg Tryd.underlying26 rfl (by rw [Tryd.infoPt]; rfl)) rfl ⟨rfl, hb2⟩
set_option maxRecDepth 100000 in
theorem Base_any (w : World) (_ : Laid w) : Calls Tryd.prog 22 #[] w (GaveP w BX BY) := by
  have z0 := pt_new w
  have b0 := (Below.refl w.heap.size w).alloc (Nat.le_refl _) (.cells ptz 26)
  have hb := Lib.hid Tryd.builtBase
  generalize BX = bx at *
  generalize BY = by' at *
  go_enter Tryd.func22, Tryd.ntmps22
  go_wp2_with (first
    | (with_reducible refine wpList_buildTo rfl 26 #[(0, .tmp 1), (1, .tmp 2)] rfl (some 3) rfl ((limsL [bx, by']).map nv).toArray (by with_unfolding_all exact hb.out) ?_)
    | (with_reducible refine wpList_store_n rfl 26 (.tmp 0) (.tmp 3) rfl w.heap.size (limsL [bx, by']) 8 rfl rfl rfl (limsL [0, 0]) (by with_unfolding_all exact z0) Tryd.infoPt rfl w.heap.size w (by with_unfolding_all exact b0) (Nat.le_refl _) ?_; intro w2 Hg _ _ hb2))
  exact bodyPost_ret (results_cell_row rfl _ _ w.heap.size _ _ _ _ rfl Hg Tryd.underlying26 rfl (by rw [Tryd.infoPt]; rfl)) rfl ⟨rfl, hb2⟩
theorem fMulN (m n : Nat) (W : World) (hm : m < big) (hn : n < big) : Calls Tryd.prog 43 #[.agg ((lims m).map nv).toArray, .agg ((lims n).map nv).toArray] W (GaveE W (toF m * toF n)) := Mul_any m n W hm hn
theorem fSame (x y : F) (W : World) : Calls Tryd.prog 44 #[.agg ((lims x.val).map nv).toArray, .agg ((lims y.val).map nv).toArray] W fun e w' => e = .returned (.bool (decide (x = y))) ∧ Below W.heap.size W w' := by
  have h := Same_any x.val y.val W (F.lt_big _) (F.lt_big _)
  rw [toF_of, toF_of] at h
  exact h

set_option maxRecDepth 100000 in
set_option maxHeartbeats 8000000 in
theorem Check_any (x y : Nat) (w : World) (hx : x < big) (hy : y < big) (L0 : Laid w) :
    Calls Tryd.prog 16 #[ptv x y] w fun e w' => e = .returned (.bool (decide (On (toF x, toF y)))) ∧ Below w.heap.size w w' := by
  have LK := L0.hid
  obtain ⟨e1, he1⟩ : ∃ zz : F, zz = toF x * toF x := ⟨_, rfl⟩
  obtain ⟨e2, he2⟩ : ∃ zz : F, zz = toF y * toF y := ⟨_, rfl⟩
  obtain ⟨e3, he3⟩ : ∃ zz : F, zz = e2 - e1 := ⟨_, rfl⟩
  obtain ⟨e4, he4⟩ : ∃ zz : F, zz = 1 := ⟨_, rfl⟩
  obtain ⟨e5, he5⟩ : ∃ zz : F, zz = e1 * e2 := ⟨_, rfl⟩
  obtain ⟨e6, he6⟩ : ∃ zz : F, zz = dd * e5 := ⟨_, rfl⟩
  obtain ⟨e7, he7⟩ : ∃ zz : F, zz = e4 + e6 := ⟨_, rfl⟩
  obtain ⟨ans, hans⟩ : ∃ b, b = decide (e3 = e7) := ⟨_, rfl⟩
  have hgoal : decide (On (toF x, toF y)) = ans := by
    rw [hans]
    subst he1 he2 he3 he4 he5 he6 he7
    rfl
  have K1 : Hid (∀ W, Below w.heap.size w W → Calls Tryd.prog 43 #[.agg ((lims x).map nv).toArray, .agg ((lims x).map nv).toArray] W (GaveE W e1)) := Lib.hid fun W _ => by rw [he1]; exact fMulN x x W hx hx
  have K2 : Hid (∀ W, Below w.heap.size w W → Calls Tryd.prog 43 #[.agg ((lims y).map nv).toArray, .agg ((lims y).map nv).toArray] W (GaveE W e2)) := Lib.hid fun W _ => by rw [he2]; exact fMulN y y W hy hy
  have K3 : Hid (∀ W, Below w.heap.size w W → Calls Tryd.prog 45 #[.agg ((lims e2.val).map nv).toArray, .agg ((lims e1.val).map nv).toArray] W (GaveE W e3)) := Lib.hid fun W hb => by rw [he3]; exact fSub e2 e1 W (LK.out W hb)
  have K4 : Hid (∀ W, Below w.heap.size w W → Calls Tryd.prog 47 #[.int .u64 1] W (GaveE W e4)) := Lib.hid fun W _ => by rw [he4]; exact fSmall W
  have K5 : Hid (∀ W, Below w.heap.size w W → Calls Tryd.prog 43 #[.agg ((lims e1.val).map nv).toArray, .agg ((lims e2.val).map nv).toArray] W (GaveE W e5)) := Lib.hid fun W _ => by rw [he5]; exact fMul e1 e2 W
  have K6 : Hid (∀ W, Below w.heap.size w W → Calls Tryd.prog 43 #[.agg ((lims dd.val).map nv).toArray, .agg ((lims e5.val).map nv).toArray] W (GaveE W e6)) := Lib.hid fun W _ => by rw [he6]; exact fMul dd e5 W
  have K7 : Hid (∀ W, Below w.heap.size w W → Calls Tryd.prog 46 #[.agg ((lims e4.val).map nv).toArray, .agg ((lims e6.val).map nv).toArray] W (GaveE W e7)) := Lib.hid fun W _ => by rw [he7]; exact fAdd e4 e6 W
  have SM : Hid (∀ W, Calls Tryd.prog 44 #[.agg ((lims e3.val).map nv).toArray, .agg ((lims e7.val).map nv).toArray] W fun e w' => e = .returned (.bool ans) ∧ Below W.heap.size W w') := Lib.hid fun W => by rw [hans]; exact fSame e3 e7 W
  rw [hgoal]
  unfold ptv
  clear hgoal hans he7 he6 he5 he4 he3 he2 he1 L0 hx hy
  have DL : Hid (∀ W, Below w.heap.size w W → (loadFe 24 ⟨0, 0, none⟩).run Tryd.prog W = .ok (.agg ((lims dd.val).map nv).toArray) W) := Lib.hid fun W hb => run_loadDee (LK.out W hb)
  generalize dd = dd at *
  have F1 : Bs w (w.heap.size + 1) [(w.heap.size, 26, ((limsL [x, y]).map nv).toArray)] (w.alloc (.cells ((limsL [x, y]).map nv).toArray 26)) := Bs.nil.alloc rfl
  go_enter Tryd.func16, Tryd.ntmps16
  go_upto_region 1 with (fail)
  generalize (w.alloc (.cells ((limsL [x, y]).map nv).toArray 26)) = wv at *
  try dsimp only [Act.put]
  go_cut [3, 4] (fun v1 v2 wx => ∃ g1 g2 D, v1 = .pointer (some ⟨g1, 0, none⟩) ∧ v2 = .pointer (some ⟨g2, 0, none⟩) ∧ Bs w D [(g2, 24, ((lims e2.val).map nv).toArray), (g1, 24, ((lims e1.val).map nv).toArray), (w.heap.size, 26, ((limsL [x, y]).map nv).toArray)] wx)
  case first =>
    refine wp_region_lexD 12 (fun k => k == 10 || k == 11) (MadeT 24 #[.int .u64 0, .int .u64 0, .int .u64 0, .int .u64 0] (w.heap.size + 1)) (Bs w (w.heap.size + 1) [(w.heap.size, 26, ((limsL [x, y]).map nv).toArray)]) (by kernel_rfl) (by kernel_rfl) F1.drew Bs.stay MadeT.stay (made_tD run_alloc_fe' Bs.size [10, 11] (fun k hk => by simpa [or_assoc] using hk) (fun j hj => by simp only [List.mem_cons, List.not_mem_nil, or_false] at hj; rcases hj with rfl | rfl <;> rfl)) ?_
    simp only [List.take_succ_cons, List.take_zero, List.drop_succ_cons, List.drop_zero]
    refine lexW_value (v := ?_) (by rfl) (by rfl) (fun W hW => ?_) ?_
    rotate_left
    · skip; go_simp <;> with_reducible rfl
    simp only [Act.put, List.setIfInBounds_toArray, List.set_cons_zero, List.set_cons_succ]
    refine lexW_value (v := ?_) (by rfl) (by rfl) (fun W hW => ?_) ?_
    rotate_left
    · have l1 : (loadFe 24 ⟨w.heap.size, 0, none⟩).run Tryd.prog W = .ok (.agg ((lims x).map nv).toArray) W := run_loadFe_at (hW.getN (g := w.heap.size) (l := limsL [x, y]) (by repeat (first | exact List.mem_cons_self .. | refine List.mem_cons_of_mem _ ?_))) 0 (by simp); go_simp <;> with_reducible rfl
    simp only [Act.put, List.setIfInBounds_toArray, List.set_cons_zero, List.set_cons_succ]
    refine lexW_value (v := ?_) (by rfl) (by rfl) (fun W hW => ?_) ?_
    rotate_left
    · skip; go_simp <;> with_reducible rfl
    simp only [Act.put, List.setIfInBounds_toArray, List.set_cons_zero, List.set_cons_succ]
    refine lexW_value (v := ?_) (by rfl) (by rfl) (fun W hW => ?_) ?_
    rotate_left
    · have l1 : (loadFe 24 ⟨w.heap.size, 0, none⟩).run Tryd.prog W = .ok (.agg ((lims x).map nv).toArray) W := run_loadFe_at (hW.getN (g := w.heap.size) (l := limsL [x, y]) (by repeat (first | exact List.mem_cons_self .. | refine List.mem_cons_of_mem _ ?_))) 0 (by simp); go_simp <;> with_reducible rfl
    simp only [Act.put, List.setIfInBounds_toArray, List.set_cons_zero, List.set_cons_succ]
    refine' lexW_call (by rfl) (by rfl) (fun W hW => ?_) (fun W hW => ?_) ?_
    rotate_left 3
    · go_simp <;> first | with_reducible rfl | exact ⟨rfl, rfl⟩
    · with_reducible exact K1.out W hW.below
    simp only [Act.put, List.setIfInBounds_toArray, List.set_cons_zero, List.set_cons_succ]
    refine lexW_value (v := ?_) (by rfl) (by rfl) (fun W hW => ?_) ?_
    rotate_left
    · skip; go_simp <;> with_reducible rfl
    simp only [Act.put, List.setIfInBounds_toArray, List.set_cons_zero, List.set_cons_succ]
    refine lexW_value (v := ?_) (by rfl) (by rfl) (fun W hW => ?_) ?_
    rotate_left
    · have l1 : (loadFe 24 ⟨w.heap.size, 4, none⟩).run Tryd.prog W = .ok (.agg ((lims y).map nv).toArray) W := run_loadFe_at (hW.getN (g := w.heap.size) (l := limsL [x, y]) (by repeat (first | exact List.mem_cons_self .. | refine List.mem_cons_of_mem _ ?_))) 1 (by simp); go_simp <;> with_reducible rfl
    simp only [Act.put, List.setIfInBounds_toArray, List.set_cons_zero, List.set_cons_succ]
    refine lexW_value (v := ?_) (by rfl) (by rfl) (fun W hW => ?_) ?_
    rotate_left
    · skip; go_simp <;> with_reducible rfl
    simp only [Act.put, List.setIfInBounds_toArray, List.set_cons_zero, List.set_cons_succ]
    refine lexW_value (v := ?_) (by rfl) (by rfl) (fun W hW => ?_) ?_
    rotate_left
    · have l1 : (loadFe 24 ⟨w.heap.size, 4, none⟩).run Tryd.prog W = .ok (.agg ((lims y).map nv).toArray) W := run_loadFe_at (hW.getN (g := w.heap.size) (l := limsL [x, y]) (by repeat (first | exact List.mem_cons_self .. | refine List.mem_cons_of_mem _ ?_))) 1 (by simp); go_simp <;> with_reducible rfl
    simp only [Act.put, List.setIfInBounds_toArray, List.set_cons_zero, List.set_cons_succ]
    refine' lexW_call (by rfl) (by rfl) (fun W hW => ?_) (fun W hW => ?_) ?_
    rotate_left 3
    · go_simp <;> first | with_reducible rfl | exact ⟨rfl, rfl⟩
    · with_reducible exact K2.out W hW.below
    simp only [Act.put, List.setIfInBounds_toArray, List.set_cons_zero, List.set_cons_succ]
    refine lexW_free (by rfl) ?_
    refine lexW_free (by rfl) ?_
    refine lexW_nil (fun b8 W8 F8x E8 => ?_)
    obtain ⟨_, _, ⟨g1, rfl, hg1x, hZ1⟩, ⟨g2, rfl, hg2x, hZ2⟩, n12, rfl⟩ := lexEndD_two (j1 := 10) (j2 := 11) (d1 := 3) (d2 := 4) (by kernel_rfl) (by kernel_rfl) rfl (by simp) (by simp) E8
    have hp8 := F8x.pos
    have hZ1 : HoldsN W8 24 g1 (lims 0) := hZ1
    have hZ2 : HoldsN W8 24 g2 (lims 0) := hZ2
    have n12 := ptr_ne n12
    simp only [Act.put, List.setIfInBounds_toArray, List.set_cons_zero, List.set_cons_succ]
    go_wp2_with (first
      | (with_reducible refine wpList_store_n rfl 24 (.tmp 3) (.tmp 9) rfl g1 (lims e1.val) 4 rfl rfl rfl (lims 0) hZ1 Tryd.infoFe rfl w.heap.size w F8x.below (by omega) ?_
         intro ya1 H1 o1 s1 b1
         have q12 : HoldsN ya1 24 g2 (lims 0) := (o1 g2 (Ne.symm n12)).trans hZ2)
      | (with_reducible refine wpList_store_n rfl 24 (.tmp 4) (.tmp 14) rfl g2 (lims e2.val) 4 rfl rfl rfl (lims 0) q12 Tryd.infoFe rfl w.heap.size w b1 (by omega) ?_
         intro ya2 H2 o2 s2 b2
         have q21 : HoldsN ya2 24 g1 (lims e1.val) := (o2 g1 n12).trans H1)
      | fail)
    go_meet
    exact ⟨g1, g2, _, rfl, rfl, F8x.add2 q21 H2 (fun k hk => (o2 k (by omega)).trans ((o1 k (by omega)))) (by omega) b2⟩
  case rest =>
    obtain ⟨g3, g4, D2, rfl, rfl, F2⟩ := hcut
    have hg2x := F2.pos
    clear F1
    go_upto_region 2 with (fail)
    try dsimp only [Act.put]
    refine wp_region_lex 11 (fun _ => false) (fun _ _ _ => True) (Bs w D2 [(g4, 24, ((lims e2.val).map nv).toArray), (g3, 24, ((lims e1.val).map nv).toArray), (w.heap.size, 26, ((limsL [x, y]).map nv).toArray)]) (by kernel_rfl) (by kernel_rfl) F2.drew Bs.stay (fun _ _ _ _ _ _ => trivial) lex_none ?_
    simp only [List.take_succ_cons, List.take_zero, List.drop_succ_cons, List.drop_zero]
    refine lexW_value (v := ?_) (by rfl) (by rfl) (fun W hW => ?_) ?_
    rotate_left
    · have l1 := run_loadFe (hW.getN (g := g4) (l := lims e2.val) (by repeat (first | exact List.mem_cons_self .. | refine List.mem_cons_of_mem _ ?_))); go_simp <;> with_reducible rfl
    simp only [Act.put, List.setIfInBounds_toArray, List.set_cons_zero, List.set_cons_succ]
    refine lexW_value (v := ?_) (by rfl) (by rfl) (fun W hW => ?_) ?_
    rotate_left
    · have l1 := run_loadFe (hW.getN (g := g3) (l := lims e1.val) (by repeat (first | exact List.mem_cons_self .. | refine List.mem_cons_of_mem _ ?_))); go_simp <;> with_reducible rfl
    simp only [Act.put, List.setIfInBounds_toArray, List.set_cons_zero, List.set_cons_succ]
    refine' lexW_call (by rfl) (by rfl) (fun W hW => ?_) (fun W hW => ?_) ?_
    rotate_left 3
    · go_simp <;> first | with_reducible rfl | exact ⟨rfl, rfl⟩
    · with_reducible exact K3.out W hW.below
    simp only [Act.put, List.setIfInBounds_toArray, List.set_cons_zero, List.set_cons_succ]
    refine' lexW_call (by rfl) (by rfl) (fun W hW => ?_) (fun W hW => ?_) ?_
    rotate_left 3
    · go_simp <;> first | with_reducible rfl | exact ⟨rfl, rfl⟩
    · with_reducible exact K4.out W hW.below
    simp only [Act.put, List.setIfInBounds_toArray, List.set_cons_zero, List.set_cons_succ]
    refine lexW_value (v := ?_) (by rfl) (by rfl) (fun W hW => ?_) ?_
    rotate_left
    · have l1 := DL.out W hW.below; go_simp <;> with_reducible rfl
    simp only [Act.put, List.setIfInBounds_toArray, List.set_cons_zero, List.set_cons_succ]
    refine lexW_value (v := ?_) (by rfl) (by rfl) (fun W hW => ?_) ?_
    rotate_left
    · have l1 := run_loadFe (hW.getN (g := g3) (l := lims e1.val) (by repeat (first | exact List.mem_cons_self .. | refine List.mem_cons_of_mem _ ?_))); go_simp <;> with_reducible rfl
    simp only [Act.put, List.setIfInBounds_toArray, List.set_cons_zero, List.set_cons_succ]
    refine lexW_value (v := ?_) (by rfl) (by rfl) (fun W hW => ?_) ?_
    rotate_left
    · have l1 := run_loadFe (hW.getN (g := g4) (l := lims e2.val) (by repeat (first | exact List.mem_cons_self .. | refine List.mem_cons_of_mem _ ?_))); go_simp <;> with_reducible rfl
    simp only [Act.put, List.setIfInBounds_toArray, List.set_cons_zero, List.set_cons_succ]
    refine' lexW_call (by rfl) (by rfl) (fun W hW => ?_) (fun W hW => ?_) ?_
    rotate_left 3
    · go_simp <;> first | with_reducible rfl | exact ⟨rfl, rfl⟩
    · with_reducible exact K5.out W hW.below
    simp only [Act.put, List.setIfInBounds_toArray, List.set_cons_zero, List.set_cons_succ]
    refine' lexW_call (by rfl) (by rfl) (fun W hW => ?_) (fun W hW => ?_) ?_
    rotate_left 3
    · go_simp <;> first | with_reducible rfl | exact ⟨rfl, rfl⟩
    · with_reducible exact K6.out W hW.below
    simp only [Act.put, List.setIfInBounds_toArray, List.set_cons_zero, List.set_cons_succ]
    refine' lexW_call (by rfl) (by rfl) (fun W hW => ?_) (fun W hW => ?_) ?_
    rotate_left 3
    · go_simp <;> first | with_reducible rfl | exact ⟨rfl, rfl⟩
    · with_reducible exact K7.out W hW.below
    simp only [Act.put, List.setIfInBounds_toArray, List.set_cons_zero, List.set_cons_succ]
    refine' lexW_call (by rfl) (by rfl) (fun W hW => ?_) (fun W hW => ?_) ?_
    rotate_left 3
    · go_simp <;> first | with_reducible rfl | exact ⟨rfl, rfl⟩
    · with_reducible exact SM.out W
    simp only [Act.put, List.setIfInBounds_toArray, List.set_cons_zero, List.set_cons_succ]
    refine lexW_nil (fun b10 W10 F10 E10 => ?_)
    obtain rfl := lexEnd_none E10
    go_wp2
    go_ret
    exact ⟨rfl, F10.below⟩
end
end Crv
end Go.Proofs.YtlfkohanfeejfaaDoor

namespace Go.Proofs.YtlfkohanfeejfaaDoor
open Go.RowKit
namespace Crv

section
attribute [local go_sem ↓] load_fe


/-- The first of two blocks turns. -/
theorem turn0 {w W W' : World} {c0 c1 c : Array Value} {t0 t1 : TypeId} (h : Bs w (w.heap.size + 1 + 1) [(w.heap.size + 1, t1, c1), (w.heap.size, t0, c0)] W) (hn : W'.heap[w.heap.size]? = some (.cells c t0 (0, 0))) (ho : ∀ k, k ≠ w.heap.size → W'.heap[k]? = W.heap[k]?) (hs : W'.heap.size = W.heap.size) (hb : Below w.heap.size w W') :
    Bs w (w.heap.size + 1 + 1) [(w.heap.size + 1, t1, c1), (w.heap.size, t0, c)] W' := h.turnAt (by omega) hn ho (Nat.le_of_eq hs.symm) hb (by
  intro p hp
  simp only [List.mem_cons, List.not_mem_nil, or_false] at hp
  rcases hp with rfl | rfl
  · exact Or.inr ⟨by simp, by dsimp only; omega⟩
  · exact Or.inl rfl)

set_option maxRecDepth 100000 in
set_option maxHeartbeats 8000000 in
theorem taken_any (x y : Nat) (w : World) (hx : x < big) (hy : y < big) (L0 : Laid w) :
    Calls Tryd.prog 48 #[ptv x y] w (GaveQ w (pOf x y)) := by
  have LK := L0.hid
  have C1 : Hid (∀ W, Below w.heap.size w W → Calls Tryd.prog 16 #[.agg ((limsL [x, y]).map nv).toArray] W fun e w' => e = .returned (.bool (decide (On (toF x, toF y)))) ∧ Below W.heap.size W w') := Lib.hid fun W hb => Check_any x y W hx hy (LK.out W hb)
  have Z1 : Hid (∀ W, Below w.heap.size w W → Calls Tryd.prog 18 #[] W fun e w' => e = .returned (.agg ((limsL [(0 : F).val, (1 : F).val]).map nv).toArray) ∧ Below W.heap.size W w') := Lib.hid fun W hb => Zero_any W (LK.out W hb)
  have F0 := pt_start w x y
  unfold ptv
  by_cases hon : On (toF x, toF y)
  · have hp : pOf x y = (toF x, toF y) := if_pos hon
    rw [decide_eq_true hon] at C1
    rw [hp]
    obtain ⟨e1, he1⟩ : ∃ zz : F, zz = toF x := ⟨_, rfl⟩
    obtain ⟨e2, he2⟩ : ∃ zz : F, zz = toF y := ⟨_, rfl⟩
    have K1 : Hid (∀ W, Below w.heap.size w W → Calls Tryd.prog 46 #[.agg ((lims x).map nv).toArray, .agg #[.int .u64 0, .int .u64 0, .int .u64 0, .int .u64 0]] W (GaveE W e1)) := Lib.hid fun W _ => by rw [he1]; exact fLeast x W hx
    have K2 : Hid (∀ W, Below w.heap.size w W → Calls Tryd.prog 46 #[.agg ((lims y).map nv).toArray, .agg #[.int .u64 0, .int .u64 0, .int .u64 0, .int .u64 0]] W (GaveE W e2)) := Lib.hid fun W _ => by rw [he2]; exact fLeast y W hy
    rw [show (toF x, toF y) = (e1, e2) by rw [he1, he2]]
    unfold GaveQ ptv
    clear hp hon hx hy he1 he2 L0 Z1
    have hbuilt1 := Lib.hid (Tryd.builtPt e1.val e2.val)
    go_enter Tryd.func48, Tryd.ntmps48
    go_upto_region 1 with (fail)
    generalize (w.alloc (.cells ((limsL [x, y]).map nv).toArray 26)).alloc (.cells #[.int .u64 0, .int .u64 0, .int .u64 0, .int .u64 0, .int .u64 0, .int .u64 0, .int .u64 0, .int .u64 0] 26) = wv at *
    have hP := F0.getN (g := w.heap.size) (l := limsL [x, y]) (by repeat (first | exact List.mem_cons_self .. | refine List.mem_cons_of_mem _ ?_))
    go_upto_region 3 with (first
      | (with_reducible refine wpList_load_pt rfl 26 (.tmp 1) rfl w.heap.size rfl (limsL [x, y]) 8 hP rfl Tryd.underlying26 Tryd.infoPt ?_)
      | (go_at_call 16
         with_reducible refine (C1.out _ F0.below).mono ?_
         rintro e w2 ⟨rfl, hb2⟩
         have F2 := Bs.stay _ _ F0 hb2)
      | fail)
    clear F0 hP hb2
    try dsimp only [Act.put]
    refine wp_region_lex 9 (fun _ => false) (fun _ _ _ => True) (Bs w (w.heap.size + 1 + 1) [(w.heap.size + 1, 26, ((limsL [0, 0]).map nv).toArray), (w.heap.size, 26, ((limsL [x, y]).map nv).toArray)]) (by kernel_rfl) (by kernel_rfl) F2.drew Bs.stay (fun _ _ _ _ _ _ => trivial) lex_none ?_
    simp only [List.take_succ_cons, List.take_zero, List.drop_succ_cons, List.drop_zero]
    refine lexW_value (v := ?_) (by rfl) (by rfl) (fun W hW => ?_) ?_
    rotate_left
    · skip; go_simp <;> with_reducible rfl
    simp only [Act.put, List.setIfInBounds_toArray, List.set_cons_zero, List.set_cons_succ]
    refine lexW_value (v := ?_) (by rfl) (by rfl) (fun W hW => ?_) ?_
    rotate_left
    · have l1 : (loadFe 24 ⟨w.heap.size, 0, none⟩).run Tryd.prog W = .ok (.agg ((lims x).map nv).toArray) W := run_loadFe_at (hW.getN (g := w.heap.size) (l := limsL [x, y]) (by repeat (first | exact List.mem_cons_self .. | refine List.mem_cons_of_mem _ ?_))) 0 (by simp); go_simp <;> with_reducible rfl
    simp only [Act.put, List.setIfInBounds_toArray, List.set_cons_zero, List.set_cons_succ]
    refine lexW_value (v := ?_) (by rfl) (by rfl) (fun W hW => ?_) ?_
    rotate_left
    · skip; go_simp <;> with_reducible rfl
    simp only [Act.put, List.setIfInBounds_toArray, List.set_cons_zero, List.set_cons_succ]
    refine' lexW_call (by rfl) (by rfl) (fun W hW => ?_) (fun W hW => ?_) ?_
    rotate_left 3
    · go_simp <;> first | with_reducible rfl | exact ⟨rfl, rfl⟩
    · with_reducible exact K1.out W hW.below
    simp only [Act.put, List.setIfInBounds_toArray, List.set_cons_zero, List.set_cons_succ]
    refine lexW_value (v := ?_) (by rfl) (by rfl) (fun W hW => ?_) ?_
    rotate_left
    · skip; go_simp <;> with_reducible rfl
    simp only [Act.put, List.setIfInBounds_toArray, List.set_cons_zero, List.set_cons_succ]
    refine lexW_value (v := ?_) (by rfl) (by rfl) (fun W hW => ?_) ?_
    rotate_left
    · have l1 : (loadFe 24 ⟨w.heap.size, 4, none⟩).run Tryd.prog W = .ok (.agg ((lims y).map nv).toArray) W := run_loadFe_at (hW.getN (g := w.heap.size) (l := limsL [x, y]) (by repeat (first | exact List.mem_cons_self .. | refine List.mem_cons_of_mem _ ?_))) 1 (by simp); go_simp <;> with_reducible rfl
    simp only [Act.put, List.setIfInBounds_toArray, List.set_cons_zero, List.set_cons_succ]
    refine lexW_value (v := ?_) (by rfl) (by rfl) (fun W hW => ?_) ?_
    rotate_left
    · skip; go_simp <;> with_reducible rfl
    simp only [Act.put, List.setIfInBounds_toArray, List.set_cons_zero, List.set_cons_succ]
    refine' lexW_call (by rfl) (by rfl) (fun W hW => ?_) (fun W hW => ?_) ?_
    rotate_left 3
    · go_simp <;> first | with_reducible rfl | exact ⟨rfl, rfl⟩
    · with_reducible exact K2.out W hW.below
    simp only [Act.put, List.setIfInBounds_toArray, List.set_cons_zero, List.set_cons_succ]
    refine lexW_value (v := .agg ((limsL [e1.val, e2.val]).map nv).toArray) (by rfl) (by rfl) (fun W hW => exec_build _ _ 26 #[(0, .tmp 10), (1, .tmp 14)] rfl _ (by with_unfolding_all exact hbuilt1.out) W) ?_
    simp only [Act.put, List.setIfInBounds_toArray, List.set_cons_zero, List.set_cons_succ]
    refine lexW_nil (fun b8 W8 F8x E8 => ?_)
    obtain rfl := lexEnd_none E8
    have hR := F8x.getN (g := w.heap.size + 1) (l := limsL [0, 0]) (by repeat (first | exact List.mem_cons_self .. | refine List.mem_cons_of_mem _ ?_))
    go_wp2_with (with_reducible refine wpList_store_n rfl 26 (.tmp 2) (.tmp 15) rfl (w.heap.size + 1) (limsL [e1.val, e2.val]) 8 rfl rfl rfl (limsL [0, 0]) hR Tryd.infoPt rfl w.heap.size w F8x.below (by omega) ?_; intro w9x Hg _ _ b9)
    exact bodyPost_ret (results_cell_row rfl _ _ _ _ _ _ _ rfl Hg Tryd.underlying26 rfl (by rw [Tryd.infoPt]; rfl)) rfl ⟨rfl, b9⟩
  · have hp : pOf x y = (0, 1) := if_neg hon
    rw [decide_eq_false hon] at C1
    rw [hp]
    clear hp hon hx hy L0
    go_enter Tryd.func48, Tryd.ntmps48
    go_upto_region 1 with (fail)
    generalize (w.alloc (.cells ((limsL [x, y]).map nv).toArray 26)).alloc (.cells #[.int .u64 0, .int .u64 0, .int .u64 0, .int .u64 0, .int .u64 0, .int .u64 0, .int .u64 0, .int .u64 0] 26) = wv at *
    have hP := F0.getN (g := w.heap.size) (l := limsL [x, y]) (by repeat (first | exact List.mem_cons_self .. | refine List.mem_cons_of_mem _ ?_))
    generalize (0 : F) = f0 at *
    generalize (1 : F) = f1 at *
    go_wp2_with (first
      | (with_reducible refine wpList_load_pt rfl 26 (.tmp 1) rfl w.heap.size rfl (limsL [x, y]) 8 hP rfl Tryd.underlying26 Tryd.infoPt ?_)
      | (go_at_call 16
         with_reducible refine (C1.out _ F0.below).mono ?_
         rintro e w2 ⟨rfl, hb2⟩
         have F2 := Bs.stay _ _ F0 hb2)
      | (go_at_call 18
         with_reducible refine (Z1.out _ F2.below).mono ?_
         rintro e w3 ⟨rfl, hb3⟩
         have F3 := Bs.stay _ _ F2 hb3
         have hR := F3.getN (g := w.heap.size + 1) (l := limsL [0, 0]) (by repeat (first | exact List.mem_cons_self .. | refine List.mem_cons_of_mem _ ?_)))
      | (with_reducible refine wpList_store_n rfl 26 (.tmp 2) (.tmp 6) rfl (w.heap.size + 1) (limsL [f0.val, f1.val]) 8 rfl rfl rfl (limsL [0, 0]) hR Tryd.infoPt rfl w.heap.size w F3.below (by omega) ?_; intro w9 Hg _ _ b9)
      | fail)
    exact bodyPost_ret (results_cell_row rfl _ _ _ _ _ _ _ rfl Hg Tryd.underlying26 rfl (by rw [Tryd.infoPt]; rfl)) rfl ⟨rfl, b9⟩

set_option maxRecDepth 100000 in
set_option maxHeartbeats 8000000 in
theorem spread_any (x y : Nat) (w : World) (hx : x < big) (hy : y < big) (L0 : Laid w) :
    Calls Tryd.prog 52 #[ptv x y] w (GaveR w (qspread (pOf x y))) := by
  have LK := L0.hid
  obtain ⟨p, hp⟩ : ∃ p, p = pOf x y := ⟨_, rfl⟩
  have T1 : Hid (∀ W, Below w.heap.size w W → Calls Tryd.prog 48 #[.agg ((limsL [x, y]).map nv).toArray] W fun e w' => e = .returned (.agg ((limsL [p.1.val, p.2.val]).map nv).toArray) ∧ Below W.heap.size W w') := Lib.hid fun W hb => by rw [hp]; exact taken_any x y W hx hy (LK.out W hb)
  rw [← hp]
  clear hp hx hy
  obtain ⟨px, py⟩ := p
  simp only at T1
  obtain ⟨e1, he1⟩ : ∃ zz : F, zz = 1 := ⟨_, rfl⟩
  obtain ⟨e2, he2⟩ : ∃ zz : F, zz = px * py := ⟨_, rfl⟩
  have hgoal : qspread (px, py) = (px, py, e1, e2) := by
    subst he1 he2
    rfl
  have K1 : Hid (∀ W, Below w.heap.size w W → Calls Tryd.prog 47 #[.int .u64 1] W (GaveE W e1)) := Lib.hid fun W _ => by rw [he1]; exact fSmall W
  have K2 : Hid (∀ W, Below w.heap.size w W → Calls Tryd.prog 43 #[.agg ((lims px.val).map nv).toArray, .agg ((lims py.val).map nv).toArray] W (GaveE W e2)) := Lib.hid fun W _ => by rw [he2]; exact fMul px py W
  rw [hgoal]
  unfold GaveR qv ptv
  clear hgoal he1 he2 L0
  have F1 : Bs w (w.heap.size + 1 + 1) [(w.heap.size + 1, 65, ((limsL [0, 0, 0, 0]).map nv).toArray), (w.heap.size, 26, ((limsL [x, y]).map nv).toArray)] ((w.alloc (.cells ((limsL [x, y]).map nv).toArray 26)).alloc (.cells #[.int .u64 0, .int .u64 0, .int .u64 0, .int .u64 0, .int .u64 0, .int .u64 0, .int .u64 0, .int .u64 0, .int .u64 0, .int .u64 0, .int .u64 0, .int .u64 0, .int .u64 0, .int .u64 0, .int .u64 0, .int .u64 0] 65)) :=
    (Bs.nil.alloc rfl).alloc (by simp only [World.size_alloc])
  go_enter Tryd.func52, Tryd.ntmps52
  go_upto_region 1 with (fail)
  generalize ((w.alloc (.cells ((limsL [x, y]).map nv).toArray 26)).alloc (.cells #[.int .u64 0, .int .u64 0, .int .u64 0, .int .u64 0, .int .u64 0, .int .u64 0, .int .u64 0, .int .u64 0, .int .u64 0, .int .u64 0, .int .u64 0, .int .u64 0, .int .u64 0, .int .u64 0, .int .u64 0, .int .u64 0] 65)) = wv at *
  have hP := F1.getN (g := w.heap.size) (l := limsL [x, y]) (by repeat (first | exact List.mem_cons_self .. | refine List.mem_cons_of_mem _ ?_))
  go_upto_region 2 with (first
    | (with_reducible refine wpList_load_pt rfl 26 (.tmp 1) rfl w.heap.size rfl (limsL [x, y]) 8 hP rfl Tryd.underlying26 Tryd.infoPt ?_)
    | (go_at_call 48
       with_reducible refine (T1.out _ F1.below).mono ?_
       rintro e w2 ⟨rfl, hb2⟩
       have F2 := Bs.stay _ _ F1 hb2
       have hP2 := F2.getN (g := w.heap.size) (l := limsL [x, y]) (by repeat (first | exact List.mem_cons_self .. | refine List.mem_cons_of_mem _ ?_)))
    | (with_reducible refine wpList_store_n rfl 26 (.tmp 1) (.tmp 4) rfl w.heap.size (limsL [px.val, py.val]) 8 rfl rfl rfl (limsL [x, y]) hP2 Tryd.infoPt rfl w.heap.size w F2.below (Nat.le_refl _) ?_
       intro w3 H3 o3 s3 b3
       have F3 := turn0 F2 H3 o3 s3 b3
       clear s3)
    | fail)
  clear hP hP2 o3 H3 b3 hb2 F1 F2 T1
  have hbuilt1 := Lib.hid (Tryd.builtTr px.val py.val e1.val)
  have hbuilt2 := Lib.hid (Tryd.builtQd px.val py.val e1.val e2.val)
  try dsimp only [Act.put]
  refine wp_region_lex 12 (fun _ => false) (fun _ _ _ => True) (Bs w (w.heap.size + 1 + 1) [(w.heap.size + 1, 65, ((limsL [0, 0, 0, 0]).map nv).toArray), (w.heap.size, 26, ((limsL [px.val, py.val]).map nv).toArray)]) (by kernel_rfl) (by kernel_rfl) F3.drew Bs.stay (fun _ _ _ _ _ _ => trivial) lex_none ?_
  simp only [List.take_succ_cons, List.take_zero, List.drop_succ_cons, List.drop_zero]
  refine lexW_value (v := ?_) (by rfl) (by rfl) (fun W hW => ?_) ?_
  rotate_left
  · skip; go_simp <;> with_reducible rfl
  simp only [Act.put, List.setIfInBounds_toArray, List.set_cons_zero, List.set_cons_succ]
  refine lexW_value (v := ?_) (by rfl) (by rfl) (fun W hW => ?_) ?_
  rotate_left
  · have l1 : (loadFe 24 ⟨w.heap.size, 0, none⟩).run Tryd.prog W = .ok (.agg ((lims px.val).map nv).toArray) W := run_loadFe_at (hW.getN (g := w.heap.size) (l := limsL [px.val, py.val]) (by repeat (first | exact List.mem_cons_self .. | refine List.mem_cons_of_mem _ ?_))) 0 (by simp); go_simp <;> with_reducible rfl
  simp only [Act.put, List.setIfInBounds_toArray, List.set_cons_zero, List.set_cons_succ]
  refine lexW_value (v := ?_) (by rfl) (by rfl) (fun W hW => ?_) ?_
  rotate_left
  · skip; go_simp <;> with_reducible rfl
  simp only [Act.put, List.setIfInBounds_toArray, List.set_cons_zero, List.set_cons_succ]
  refine lexW_value (v := ?_) (by rfl) (by rfl) (fun W hW => ?_) ?_
  rotate_left
  · have l1 : (loadFe 24 ⟨w.heap.size, 4, none⟩).run Tryd.prog W = .ok (.agg ((lims py.val).map nv).toArray) W := run_loadFe_at (hW.getN (g := w.heap.size) (l := limsL [px.val, py.val]) (by repeat (first | exact List.mem_cons_self .. | refine List.mem_cons_of_mem _ ?_))) 1 (by simp); go_simp <;> with_reducible rfl
  simp only [Act.put, List.setIfInBounds_toArray, List.set_cons_zero, List.set_cons_succ]
  refine' lexW_call (by rfl) (by rfl) (fun W hW => ?_) (fun W hW => ?_) ?_
  rotate_left 3
  · go_simp <;> first | with_reducible rfl | exact ⟨rfl, rfl⟩
  · with_reducible exact K1.out W hW.below
  simp only [Act.put, List.setIfInBounds_toArray, List.set_cons_zero, List.set_cons_succ]
  refine lexW_value (v := .agg ((limsL [px.val, py.val, e1.val]).map nv).toArray) (by rfl) (by rfl) (fun W hW => exec_build _ _ 63 #[(0, .tmp 6), (1, .tmp 8), (2, .tmp 9)] rfl _ (by with_unfolding_all exact hbuilt1.out) W) ?_
  simp only [Act.put, List.setIfInBounds_toArray, List.set_cons_zero, List.set_cons_succ]
  refine lexW_value (v := ?_) (by rfl) (by rfl) (fun W hW => ?_) ?_
  rotate_left
  · skip; go_simp <;> with_reducible rfl
  simp only [Act.put, List.setIfInBounds_toArray, List.set_cons_zero, List.set_cons_succ]
  refine lexW_value (v := ?_) (by rfl) (by rfl) (fun W hW => ?_) ?_
  rotate_left
  · have l1 : (loadFe 24 ⟨w.heap.size, 0, none⟩).run Tryd.prog W = .ok (.agg ((lims px.val).map nv).toArray) W := run_loadFe_at (hW.getN (g := w.heap.size) (l := limsL [px.val, py.val]) (by repeat (first | exact List.mem_cons_self .. | refine List.mem_cons_of_mem _ ?_))) 0 (by simp); go_simp <;> with_reducible rfl
  simp only [Act.put, List.setIfInBounds_toArray, List.set_cons_zero, List.set_cons_succ]
  refine lexW_value (v := ?_) (by rfl) (by rfl) (fun W hW => ?_) ?_
  rotate_left
  · skip; go_simp <;> with_reducible rfl
  simp only [Act.put, List.setIfInBounds_toArray, List.set_cons_zero, List.set_cons_succ]
  refine lexW_value (v := ?_) (by rfl) (by rfl) (fun W hW => ?_) ?_
  rotate_left
  · have l1 : (loadFe 24 ⟨w.heap.size, 4, none⟩).run Tryd.prog W = .ok (.agg ((lims py.val).map nv).toArray) W := run_loadFe_at (hW.getN (g := w.heap.size) (l := limsL [px.val, py.val]) (by repeat (first | exact List.mem_cons_self .. | refine List.mem_cons_of_mem _ ?_))) 1 (by simp); go_simp <;> with_reducible rfl
  simp only [Act.put, List.setIfInBounds_toArray, List.set_cons_zero, List.set_cons_succ]
  refine' lexW_call (by rfl) (by rfl) (fun W hW => ?_) (fun W hW => ?_) ?_
  rotate_left 3
  · go_simp <;> first | with_reducible rfl | exact ⟨rfl, rfl⟩
  · with_reducible exact K2.out W hW.below
  simp only [Act.put, List.setIfInBounds_toArray, List.set_cons_zero, List.set_cons_succ]
  refine lexW_value (v := .agg ((limsL [px.val, py.val, e1.val, e2.val]).map nv).toArray) (by rfl) (by rfl) (fun W hW => exec_build _ _ 65 #[(0, .tmp 10), (1, .tmp 15)] rfl _ (by with_unfolding_all exact hbuilt2.out) W) ?_
  simp only [Act.put, List.setIfInBounds_toArray, List.set_cons_zero, List.set_cons_succ]
  refine lexW_nil (fun b8 W8 F8x E8 => ?_)
  obtain rfl := lexEnd_none E8
  have hR := F8x.getN (g := w.heap.size + 1) (l := limsL [0, 0, 0, 0]) (by repeat (first | exact List.mem_cons_self .. | refine List.mem_cons_of_mem _ ?_))
  go_wp2_with (with_reducible refine wpList_store_n rfl 65 (.tmp 2) (.tmp 16) rfl (w.heap.size + 1) (limsL [px.val, py.val, e1.val, e2.val]) 16 rfl rfl rfl (limsL [0, 0, 0, 0]) hR Tryd.infoQd rfl w.heap.size w F8x.below (by omega) ?_; intro w9x Hg _ _ b9)
  exact bodyPost_ret (results_cell_row rfl _ _ _ _ _ _ _ rfl Hg Tryd.underlying65 rfl (by rw [Tryd.infoQd]; rfl)) rfl ⟨rfl, b9⟩

set_option maxRecDepth 100000 in
set_option maxHeartbeats 8000000 in
theorem Neg_any (x y : Nat) (w : World) (hx : x < big) (hy : y < big) (L0 : Laid w) :
    Calls Tryd.prog 19 #[ptv x y] w (GaveQ w (pneg (pOf x y))) := by
  have LK := L0.hid
  obtain ⟨p, hp⟩ : ∃ p, p = pOf x y := ⟨_, rfl⟩
  have T1 : Hid (∀ W, Below w.heap.size w W → Calls Tryd.prog 48 #[.agg ((limsL [x, y]).map nv).toArray] W fun e w' => e = .returned (.agg ((limsL [p.1.val, p.2.val]).map nv).toArray) ∧ Below W.heap.size W w') := Lib.hid fun W hb => by rw [hp]; exact taken_any x y W hx hy (LK.out W hb)
  rw [← hp]
  clear hp hx hy
  obtain ⟨px, py⟩ := p
  simp only at T1
  obtain ⟨e1, he1⟩ : ∃ zz : F, zz = -px := ⟨_, rfl⟩
  have hgoal : pneg (px, py) = (e1, py) := by
    subst he1
    rfl
  have K1 : Hid (∀ W, Below w.heap.size w W → Calls Tryd.prog 49 #[.agg ((lims px.val).map nv).toArray] W (GaveE W e1)) := Lib.hid fun W hb => by rw [he1]; exact fNeg px W (LK.out W hb)
  rw [hgoal]
  unfold GaveQ ptv
  clear hgoal he1 L0
  have F1 : Bs w (w.heap.size + 1 + 1) [(w.heap.size + 1, 26, ((limsL [0, 0]).map nv).toArray), (w.heap.size, 26, ((limsL [x, y]).map nv).toArray)] ((w.alloc (.cells ((limsL [x, y]).map nv).toArray 26)).alloc (.cells #[.int .u64 0, .int .u64 0, .int .u64 0, .int .u64 0, .int .u64 0, .int .u64 0, .int .u64 0, .int .u64 0] 26)) :=
    (Bs.nil.alloc rfl).alloc (by simp only [World.size_alloc])
  go_enter Tryd.func19, Tryd.ntmps19
  go_upto_region 1 with (fail)
  generalize ((w.alloc (.cells ((limsL [x, y]).map nv).toArray 26)).alloc (.cells #[.int .u64 0, .int .u64 0, .int .u64 0, .int .u64 0, .int .u64 0, .int .u64 0, .int .u64 0, .int .u64 0] 26)) = wv at *
  have hP := F1.getN (g := w.heap.size) (l := limsL [x, y]) (by repeat (first | exact List.mem_cons_self .. | refine List.mem_cons_of_mem _ ?_))
  go_upto_region 2 with (first
    | (with_reducible refine wpList_load_pt rfl 26 (.tmp 1) rfl w.heap.size rfl (limsL [x, y]) 8 hP rfl Tryd.underlying26 Tryd.infoPt ?_)
    | (go_at_call 48
       with_reducible refine (T1.out _ F1.below).mono ?_
       rintro e w2 ⟨rfl, hb2⟩
       have F2 := Bs.stay _ _ F1 hb2
       have hP2 := F2.getN (g := w.heap.size) (l := limsL [x, y]) (by repeat (first | exact List.mem_cons_self .. | refine List.mem_cons_of_mem _ ?_)))
    | (with_reducible refine wpList_store_n rfl 26 (.tmp 1) (.tmp 4) rfl w.heap.size (limsL [px.val, py.val]) 8 rfl rfl rfl (limsL [x, y]) hP2 Tryd.infoPt rfl w.heap.size w F2.below (Nat.le_refl _) ?_
       intro w3 H3 o3 s3 b3
       have F3 := turn0 F2 H3 o3 s3 b3
       clear s3)
    | fail)
  clear hP hP2 o3 H3 b3 hb2 F1 F2 T1
  have hbuilt1 := Lib.hid (Tryd.builtPt e1.val py.val)
  try dsimp only [Act.put]
  refine wp_region_lex 6 (fun _ => false) (fun _ _ _ => True) (Bs w (w.heap.size + 1 + 1) [(w.heap.size + 1, 26, ((limsL [0, 0]).map nv).toArray), (w.heap.size, 26, ((limsL [px.val, py.val]).map nv).toArray)]) (by kernel_rfl) (by kernel_rfl) F3.drew Bs.stay (fun _ _ _ _ _ _ => trivial) lex_none ?_
  simp only [List.take_succ_cons, List.take_zero, List.drop_succ_cons, List.drop_zero]
  refine lexW_value (v := ?_) (by rfl) (by rfl) (fun W hW => ?_) ?_
  rotate_left
  · skip; go_simp <;> with_reducible rfl
  simp only [Act.put, List.setIfInBounds_toArray, List.set_cons_zero, List.set_cons_succ]
  refine lexW_value (v := ?_) (by rfl) (by rfl) (fun W hW => ?_) ?_
  rotate_left
  · have l1 : (loadFe 24 ⟨w.heap.size, 0, none⟩).run Tryd.prog W = .ok (.agg ((lims px.val).map nv).toArray) W := run_loadFe_at (hW.getN (g := w.heap.size) (l := limsL [px.val, py.val]) (by repeat (first | exact List.mem_cons_self .. | refine List.mem_cons_of_mem _ ?_))) 0 (by simp); go_simp <;> with_reducible rfl
  simp only [Act.put, List.setIfInBounds_toArray, List.set_cons_zero, List.set_cons_succ]
  refine' lexW_call (by rfl) (by rfl) (fun W hW => ?_) (fun W hW => ?_) ?_
  rotate_left 3
  · go_simp <;> first | with_reducible rfl | exact ⟨rfl, rfl⟩
  · with_reducible exact K1.out W hW.below
  simp only [Act.put, List.setIfInBounds_toArray, List.set_cons_zero, List.set_cons_succ]
  refine lexW_value (v := ?_) (by rfl) (by rfl) (fun W hW => ?_) ?_
  rotate_left
  · skip; go_simp <;> with_reducible rfl
  simp only [Act.put, List.setIfInBounds_toArray, List.set_cons_zero, List.set_cons_succ]
  refine lexW_value (v := ?_) (by rfl) (by rfl) (fun W hW => ?_) ?_
  rotate_left
  · have l1 : (loadFe 24 ⟨w.heap.size, 4, none⟩).run Tryd.prog W = .ok (.agg ((lims py.val).map nv).toArray) W := run_loadFe_at (hW.getN (g := w.heap.size) (l := limsL [px.val, py.val]) (by repeat (first | exact List.mem_cons_self .. | refine List.mem_cons_of_mem _ ?_))) 1 (by simp); go_simp <;> with_reducible rfl
  simp only [Act.put, List.setIfInBounds_toArray, List.set_cons_zero, List.set_cons_succ]
  refine lexW_value (v := .agg ((limsL [e1.val, py.val]).map nv).toArray) (by rfl) (by rfl) (fun W hW => exec_build _ _ 26 #[(0, .tmp 7), (1, .tmp 9)] rfl _ (by with_unfolding_all exact hbuilt1.out) W) ?_
  simp only [Act.put, List.setIfInBounds_toArray, List.set_cons_zero, List.set_cons_succ]
  refine lexW_nil (fun b8 W8 F8x E8 => ?_)
  obtain rfl := lexEnd_none E8
  have hR := F8x.getN (g := w.heap.size + 1) (l := limsL [0, 0]) (by repeat (first | exact List.mem_cons_self .. | refine List.mem_cons_of_mem _ ?_))
  go_wp2_with (with_reducible refine wpList_store_n rfl 26 (.tmp 2) (.tmp 10) rfl (w.heap.size + 1) (limsL [e1.val, py.val]) 8 rfl rfl rfl (limsL [0, 0]) hR Tryd.infoPt rfl w.heap.size w F8x.below (by omega) ?_; intro w9x Hg _ _ b9)
  exact bodyPost_ret (results_cell_row rfl _ _ _ _ _ _ _ rfl Hg Tryd.underlying26 rfl (by rw [Tryd.infoPt]; rfl)) rfl ⟨rfl, b9⟩
end
end Crv
end Go.Proofs.YtlfkohanfeejfaaDoor
