/-
  ScalarNegs: what is below 0 of what is below 0; products by what is below 1; sums less one of both. Whatever both numbers are.
-/
import Derived.Test.YthhcjknkmdaeeaaDoorSAwake
namespace Go.Proofs.YthhcjknkmdaeeaaDoor
open Go.RowKit

section
attribute [local go_sem ↓] load_sc load_by load_bq

set_option maxRecDepth 100000 in
set_option maxHeartbeats 4000000 in
theorem ScalarNegs_any (a b : Nat) (w : World) (ha : a < big) (hb : b < big) (L0 : Laid w) :
    Calls Tryd.prog 6 #[fev a, fev b] w fun e w' => e = .returned (.bool true) ∧ Below w.heap.size w w' := by
  have hsz0 := L0.size
  have LK : Hid (∀ W, Below w.heap.size w W → Laid W) := Lib.hid fun W hb => L0.keep hb hsz0
  have AW : Hid (∀ W, Laid W → Calls Tryd.prog 7 #[] W fun e w' => e = .returned (.bool true) ∧ Below W.heap.size W w') := Lib.hid fun W L => awake_any W L
  obtain ⟨fa, hfa⟩ : ∃ f, f = toS a := ⟨_, rfl⟩
  obtain ⟨fb, hfb⟩ : ∃ f, f = toS b := ⟨_, rfl⟩
  obtain ⟨n, hn⟩ : ∃ zz : Sn, zz = -1 := ⟨_, rfl⟩
  obtain ⟨x, hx⟩ : ∃ zz : Sn, zz = -fa := ⟨_, rfl⟩
  obtain ⟨s, hs⟩ : ∃ zz : Sn, zz = fa + fb := ⟨_, rfl⟩
  obtain ⟨z, hz⟩ : ∃ zz : Sn, zz = -fb := ⟨_, rfl⟩
  obtain ⟨t, ht⟩ : ∃ zz : Sn, zz = -s := ⟨_, rfl⟩
  obtain ⟨i, hi⟩ : ∃ zz : Sn, zz = 1 := ⟨_, rfl⟩
  obtain ⟨y, hy⟩ : ∃ x : Sn, x = fa := ⟨_, rfl⟩
  have K1 : Hid (∀ W, Laid W → Calls Tryd.prog 12 #[.agg #[.int .u64 1, .int .u64 0, .int .u64 0, .int .u64 0]] W fun e w' => e = .returned (.agg ((lims n.val).map nv).toArray) ∧ Below W.heap.size W w') := Lib.hid fun W L => by
    have h := Neg_any 1 W (by decide) L
    simp only [toS_one'] at h
    rw [show -1 = n by grind, ← lit_e1] at h
    exact h
  have K2 : Hid (∀ W, Laid W → Calls Tryd.prog 12 #[.agg ((lims a).map nv).toArray] W fun e w' => e = .returned (.agg ((lims x.val).map nv).toArray) ∧ Below W.heap.size W w') := Lib.hid fun W L => by
    have h := Neg_any a W ha L
    simp only [← hfa] at h
    rw [show -fa = x by grind] at h
    exact h
  have K3 : Hid (∀ W, Laid W → Calls Tryd.prog 12 #[.agg ((lims x.val).map nv).toArray] W fun e w' => e = .returned (.agg ((lims y.val).map nv).toArray) ∧ Below W.heap.size W w') := Lib.hid fun W L => by
    have h := Neg_any x.val W (Sn.lt_big _) L
    simp only [toS_of] at h
    rw [show -x = y by grind] at h
    exact h
  have K4 : Hid (∀ W, Laid W → Calls Tryd.prog 8 #[.agg ((lims a).map nv).toArray, .agg #[.int .u64 0, .int .u64 0, .int .u64 0, .int .u64 0]] W fun e w' => e = .returned (.agg ((lims y.val).map nv).toArray) ∧ Below W.heap.size W w') := Lib.hid fun W L => by
    have h := Add_any a 0 W ha (by decide) L
    simp only [toS_zero', ← hfa] at h
    rw [show fa + 0 = y by grind, ← lit_e0] at h
    exact h
  have M1 : Hid (∀ W, Laid W → Calls Tryd.prog 10 #[.agg ((lims n.val).map nv).toArray, .agg ((lims a).map nv).toArray] W fun e w' => e = .returned (.agg ((lims x.val).map nv).toArray) ∧ Below W.heap.size W w') := Lib.hid fun W L => by
    have h := Mul_any n.val a W (Sn.lt_big _) ha L
    simp only [toS_of, ← hfa] at h
    rw [show n * fa = x by grind] at h
    exact h
  have K5 : Hid (∀ W, Laid W → Calls Tryd.prog 8 #[.agg ((lims a).map nv).toArray, .agg ((lims b).map nv).toArray] W fun e w' => e = .returned (.agg ((lims s.val).map nv).toArray) ∧ Below W.heap.size W w') := Lib.hid fun W L => by
    have h := Add_any a b W ha hb L
    simp only [← hfa, ← hfb] at h
    rw [show fa + fb = s by grind] at h
    exact h
  have K6 : Hid (∀ W, Laid W → Calls Tryd.prog 12 #[.agg ((lims b).map nv).toArray] W fun e w' => e = .returned (.agg ((lims z.val).map nv).toArray) ∧ Below W.heap.size W w') := Lib.hid fun W L => by
    have h := Neg_any b W hb L
    simp only [← hfb] at h
    rw [show -fb = z by grind] at h
    exact h
  have K7 : Hid (∀ W, Laid W → Calls Tryd.prog 8 #[.agg ((lims s.val).map nv).toArray, .agg ((lims z.val).map nv).toArray] W fun e w' => e = .returned (.agg ((lims y.val).map nv).toArray) ∧ Below W.heap.size W w') := Lib.hid fun W L => by
    have h := Add_any s.val z.val W (Sn.lt_big _) (Sn.lt_big _) L
    simp only [toS_of] at h
    rw [show s + z = y by grind] at h
    exact h
  have M2 : Hid (∀ W, Laid W → Calls Tryd.prog 10 #[.agg ((lims n.val).map nv).toArray, .agg ((lims n.val).map nv).toArray] W fun e w' => e = .returned (.agg ((lims i.val).map nv).toArray) ∧ Below W.heap.size W w') := Lib.hid fun W L => by
    have h := Mul_any n.val n.val W (Sn.lt_big _) (Sn.lt_big _) L
    simp only [toS_of] at h
    rw [show n * n = i by grind] at h
    exact h
  have K8 : Hid (∀ W, Laid W → Calls Tryd.prog 12 #[.agg ((lims s.val).map nv).toArray] W fun e w' => e = .returned (.agg ((lims t.val).map nv).toArray) ∧ Below W.heap.size W w') := Lib.hid fun W L => by
    have h := Neg_any s.val W (Sn.lt_big _) L
    simp only [toS_of] at h
    rw [show -s = t by grind] at h
    exact h
  have K9 : Hid (∀ W, Laid W → Calls Tryd.prog 8 #[.agg ((lims x.val).map nv).toArray, .agg ((lims z.val).map nv).toArray] W fun e w' => e = .returned (.agg ((lims t.val).map nv).toArray) ∧ Below W.heap.size W w') := Lib.hid fun W L => by
    have h := Add_any x.val z.val W (Sn.lt_big _) (Sn.lt_big _) L
    simp only [toS_of] at h
    rw [show x + z = t by grind] at h
    exact h
  have qo := fun W => eql_one i W
  rw [decide_eq_true hi] at qo
  clear L0 hsz0 hfa hfb ha hb hn hx hs hz ht hi hy
  obtain ⟨bA, bB, bb, _⟩ := sc_start2 w a b _ _ rfl rfl
  have F0 := Bl.two bA bB bb
  clear bA bB bb
  rw [fev_eq, fev_eq]
  go_enter Tryd.func6, Tryd.ntmps6
  go_upto_region 1 with (fail)
  generalize ((w.alloc (.cells ((lims a).map nv).toArray 24)).alloc (.cells ((lims b).map nv).toArray 24)) = wv at *
  have qs := fun x W => eql_same x W
  have gf := fun x y c d W => run_guard_sc x y c d W
  go_upto_region 2 with (first
    | (go_at_call 7
       with_reducible refine (AW.out _ (LK.out _ F0.below)).mono ?_
       rintro e w1 ⟨rfl, hb1⟩
       have F1 := Bl.stay _ _ F0 hb1)
    | fail)
  clear F0 hb1
  go_upto_region 3 with (first
    | (go_at_call 12
       with_reducible refine (K1.out _ (LK.out _ F1.below)).mono ?_
       rintro e w2 ⟨rfl, hb2⟩
       have F2 := Bl.stay _ _ F1 hb2
       have F2a := Bl.stay _ _ F2 ((Below.refl _ w2).alloc (Nat.le_refl _) (.cells #[.int .u64 0, .int .u64 0, .int .u64 0, .int .u64 0] 24))
       have z2 := zero_new w2)
    | (with_reducible refine wpList_store_n rfl 24 (.tmp 6) (.tmp 9) rfl w2.heap.size (lims n.val) 4 rfl rfl rfl (lims 0) (by with_unfolding_all exact z2) Tryd.infoSc rfl w.heap.size w (by with_unfolding_all exact F2a.below) F2.below.size ?_
       intro w3 H3 o3 s3 b3
       have F3 := Bl.add (by with_unfolding_all exact F2a) F2.len H3 o3 b3
       clear s3)
    | fail)
  have hg2 := F2.len
  clear F2a z2 o3 H3 b3 hb2 F1 F2
  generalize w2.heap.size = g6 at *
  refine wp_region_lex 49 (fun _ => false) (fun _ _ _ => True) (Bl w (g6 + 1) [(g6, n.val), (w.heap.size, a), (w.heap.size + 1, b)]) (by kernel_rfl) (by kernel_rfl) F3.drew Bl.stay (fun _ _ _ _ _ _ => trivial) lex_none ?_
  simp only [List.take_succ_cons, List.take_zero, List.drop_succ_cons, List.drop_zero]
  refine lexW_value (v := ?_) (by rfl) (by rfl) (fun W hW => ?_) ?_
  rotate_left
  · skip; go_simp <;> with_reducible rfl
  simp only [Act.put, List.setIfInBounds_toArray, List.set_cons_zero, List.set_cons_succ]
  refine lexW_value (v := ?_) (by rfl) (by rfl) (fun W hW => ?_) ?_
  rotate_left
  · skip; go_simp <;> with_reducible rfl
  simp only [Act.put, List.setIfInBounds_toArray, List.set_cons_zero, List.set_cons_succ]
  refine lexW_value (v := ?_) (by rfl) (by rfl) (fun W hW => ?_) ?_
  rotate_left
  · have l1 := run_loadSc (hW.get (g := w.heap.size) (x := a) (by simp)); go_simp <;> with_reducible rfl
  simp only [Act.put, List.setIfInBounds_toArray, List.set_cons_zero, List.set_cons_succ]
  refine' lexW_call (by rfl) (by rfl) (fun W hW => ?_) (fun W hW => ?_) ?_
  rotate_left 3
  · go_simp <;> first | with_reducible rfl | exact ⟨rfl, rfl⟩
  · with_reducible exact K2.out W (LK.out _ hW.below)
  simp only [Act.put, List.setIfInBounds_toArray, List.set_cons_zero, List.set_cons_succ]
  refine' lexW_call (by rfl) (by rfl) (fun W hW => ?_) (fun W hW => ?_) ?_
  rotate_left 3
  · go_simp <;> first | with_reducible rfl | exact ⟨rfl, rfl⟩
  · with_reducible exact K3.out W (LK.out _ hW.below)
  simp only [Act.put, List.setIfInBounds_toArray, List.set_cons_zero, List.set_cons_succ]
  refine lexW_value (v := ?_) (by rfl) (by rfl) (fun W hW => ?_) ?_
  rotate_left
  · have l1 := run_loadSc (hW.get (g := w.heap.size) (x := a) (by simp)); go_simp <;> with_reducible rfl
  simp only [Act.put, List.setIfInBounds_toArray, List.set_cons_zero, List.set_cons_succ]
  refine lexW_value (v := ?_) (by rfl) (by rfl) (fun W hW => ?_) ?_
  rotate_left
  · skip; go_simp <;> with_reducible rfl
  simp only [Act.put, List.setIfInBounds_toArray, List.set_cons_zero, List.set_cons_succ]
  refine' lexW_call (by rfl) (by rfl) (fun W hW => ?_) (fun W hW => ?_) ?_
  rotate_left 3
  · go_simp <;> first | with_reducible rfl | exact ⟨rfl, rfl⟩
  · with_reducible exact K4.out W (LK.out _ hW.below)
  simp only [Act.put, List.setIfInBounds_toArray, List.set_cons_zero, List.set_cons_succ]
  refine lexW_value (v := ?_) (by rfl) (by rfl) (fun W hW => ?_) ?_
  rotate_left
  · skip; go_simp <;> with_reducible rfl
  simp only [Act.put, List.setIfInBounds_toArray, List.set_cons_zero, List.set_cons_succ]
  refine lexW_value (v := ?_) (by rfl) (by rfl) (fun W hW => ?_) ?_
  rotate_left
  · skip; go_simp <;> with_reducible rfl
  simp only [Act.put, List.setIfInBounds_toArray, List.set_cons_zero, List.set_cons_succ]
  refine lexW_value (v := ?_) (by rfl) (by rfl) (fun W hW => ?_) ?_
  rotate_left
  · skip; go_simp <;> with_reducible rfl
  simp only [Act.put, List.setIfInBounds_toArray, List.set_cons_zero, List.set_cons_succ]
  refine lexW_value (v := ?_) (by rfl) (by rfl) (fun W hW => ?_) ?_
  rotate_left
  · have l1 := run_loadSc (hW.get (g := g6) (x := n.val) (by simp)); go_simp <;> with_reducible rfl
  simp only [Act.put, List.setIfInBounds_toArray, List.set_cons_zero, List.set_cons_succ]
  refine lexW_value (v := ?_) (by rfl) (by rfl) (fun W hW => ?_) ?_
  rotate_left
  · have l1 := run_loadSc (hW.get (g := w.heap.size) (x := a) (by simp)); go_simp <;> with_reducible rfl
  simp only [Act.put, List.setIfInBounds_toArray, List.set_cons_zero, List.set_cons_succ]
  refine' lexW_call (by rfl) (by rfl) (fun W hW => ?_) (fun W hW => ?_) ?_
  rotate_left 3
  · go_simp <;> first | with_reducible rfl | exact ⟨rfl, rfl⟩
  · with_reducible exact M1.out W (LK.out _ hW.below)
  simp only [Act.put, List.setIfInBounds_toArray, List.set_cons_zero, List.set_cons_succ]
  refine lexW_value (v := ?_) (by rfl) (by rfl) (fun W hW => ?_) ?_
  rotate_left
  · have l1 := run_loadSc (hW.get (g := w.heap.size) (x := a) (by simp)); go_simp <;> with_reducible rfl
  simp only [Act.put, List.setIfInBounds_toArray, List.set_cons_zero, List.set_cons_succ]
  refine' lexW_call (by rfl) (by rfl) (fun W hW => ?_) (fun W hW => ?_) ?_
  rotate_left 3
  · go_simp <;> first | with_reducible rfl | exact ⟨rfl, rfl⟩
  · with_reducible exact K2.out W (LK.out _ hW.below)
  simp only [Act.put, List.setIfInBounds_toArray, List.set_cons_zero, List.set_cons_succ]
  refine lexW_value (v := ?_) (by rfl) (by rfl) (fun W hW => ?_) ?_
  rotate_left
  · skip; go_simp <;> with_reducible rfl
  simp only [Act.put, List.setIfInBounds_toArray, List.set_cons_zero, List.set_cons_succ]
  refine lexW_value (v := ?_) (by rfl) (by rfl) (fun W hW => ?_) ?_
  rotate_left
  · skip; go_simp <;> with_reducible rfl
  simp only [Act.put, List.setIfInBounds_toArray, List.set_cons_zero, List.set_cons_succ]
  refine lexW_value (v := ?_) (by rfl) (by rfl) (fun W hW => ?_) ?_
  rotate_left
  · skip; go_simp <;> with_reducible rfl
  simp only [Act.put, List.setIfInBounds_toArray, List.set_cons_zero, List.set_cons_succ]
  refine lexW_value (v := ?_) (by rfl) (by rfl) (fun W hW => ?_) ?_
  rotate_left
  · have l1 := run_loadSc (hW.get (g := w.heap.size) (x := a) (by simp)); go_simp <;> with_reducible rfl
  simp only [Act.put, List.setIfInBounds_toArray, List.set_cons_zero, List.set_cons_succ]
  refine lexW_value (v := ?_) (by rfl) (by rfl) (fun W hW => ?_) ?_
  rotate_left
  · have l1 := run_loadSc (hW.get (g := w.heap.size + 1) (x := b) (by simp)); go_simp <;> with_reducible rfl
  simp only [Act.put, List.setIfInBounds_toArray, List.set_cons_zero, List.set_cons_succ]
  refine' lexW_call (by rfl) (by rfl) (fun W hW => ?_) (fun W hW => ?_) ?_
  rotate_left 3
  · go_simp <;> first | with_reducible rfl | exact ⟨rfl, rfl⟩
  · with_reducible exact K5.out W (LK.out _ hW.below)
  simp only [Act.put, List.setIfInBounds_toArray, List.set_cons_zero, List.set_cons_succ]
  refine lexW_value (v := ?_) (by rfl) (by rfl) (fun W hW => ?_) ?_
  rotate_left
  · have l1 := run_loadSc (hW.get (g := w.heap.size + 1) (x := b) (by simp)); go_simp <;> with_reducible rfl
  simp only [Act.put, List.setIfInBounds_toArray, List.set_cons_zero, List.set_cons_succ]
  refine' lexW_call (by rfl) (by rfl) (fun W hW => ?_) (fun W hW => ?_) ?_
  rotate_left 3
  · go_simp <;> first | with_reducible rfl | exact ⟨rfl, rfl⟩
  · with_reducible exact K6.out W (LK.out _ hW.below)
  simp only [Act.put, List.setIfInBounds_toArray, List.set_cons_zero, List.set_cons_succ]
  refine' lexW_call (by rfl) (by rfl) (fun W hW => ?_) (fun W hW => ?_) ?_
  rotate_left 3
  · go_simp <;> first | with_reducible rfl | exact ⟨rfl, rfl⟩
  · with_reducible exact K7.out W (LK.out _ hW.below)
  simp only [Act.put, List.setIfInBounds_toArray, List.set_cons_zero, List.set_cons_succ]
  refine lexW_value (v := ?_) (by rfl) (by rfl) (fun W hW => ?_) ?_
  rotate_left
  · have l1 := run_loadSc (hW.get (g := w.heap.size) (x := a) (by simp)); go_simp <;> with_reducible rfl
  simp only [Act.put, List.setIfInBounds_toArray, List.set_cons_zero, List.set_cons_succ]
  refine lexW_value (v := ?_) (by rfl) (by rfl) (fun W hW => ?_) ?_
  rotate_left
  · skip; go_simp <;> with_reducible rfl
  simp only [Act.put, List.setIfInBounds_toArray, List.set_cons_zero, List.set_cons_succ]
  refine' lexW_call (by rfl) (by rfl) (fun W hW => ?_) (fun W hW => ?_) ?_
  rotate_left 3
  · go_simp <;> first | with_reducible rfl | exact ⟨rfl, rfl⟩
  · with_reducible exact K4.out W (LK.out _ hW.below)
  simp only [Act.put, List.setIfInBounds_toArray, List.set_cons_zero, List.set_cons_succ]
  refine lexW_value (v := ?_) (by rfl) (by rfl) (fun W hW => ?_) ?_
  rotate_left
  · skip; go_simp <;> with_reducible rfl
  simp only [Act.put, List.setIfInBounds_toArray, List.set_cons_zero, List.set_cons_succ]
  refine lexW_value (v := ?_) (by rfl) (by rfl) (fun W hW => ?_) ?_
  rotate_left
  · skip; go_simp <;> with_reducible rfl
  simp only [Act.put, List.setIfInBounds_toArray, List.set_cons_zero, List.set_cons_succ]
  refine lexW_value (v := ?_) (by rfl) (by rfl) (fun W hW => ?_) ?_
  rotate_left
  · skip; go_simp <;> with_reducible rfl
  simp only [Act.put, List.setIfInBounds_toArray, List.set_cons_zero, List.set_cons_succ]
  refine lexW_value (v := ?_) (by rfl) (by rfl) (fun W hW => ?_) ?_
  rotate_left
  · have l1 := run_loadSc (hW.get (g := g6) (x := n.val) (by simp)); go_simp <;> with_reducible rfl
  simp only [Act.put, List.setIfInBounds_toArray, List.set_cons_zero, List.set_cons_succ]
  refine lexW_value (v := ?_) (by rfl) (by rfl) (fun W hW => ?_) ?_
  rotate_left
  · have l1 := run_loadSc (hW.get (g := g6) (x := n.val) (by simp)); go_simp <;> with_reducible rfl
  simp only [Act.put, List.setIfInBounds_toArray, List.set_cons_zero, List.set_cons_succ]
  refine' lexW_call (by rfl) (by rfl) (fun W hW => ?_) (fun W hW => ?_) ?_
  rotate_left 3
  · go_simp <;> first | with_reducible rfl | exact ⟨rfl, rfl⟩
  · with_reducible exact M2.out W (LK.out _ hW.below)
  simp only [Act.put, List.setIfInBounds_toArray, List.set_cons_zero, List.set_cons_succ]
  refine lexW_value (v := ?_) (by rfl) (by rfl) (fun W hW => ?_) ?_
  rotate_left
  · skip; go_simp <;> with_reducible rfl
  simp only [Act.put, List.setIfInBounds_toArray, List.set_cons_zero, List.set_cons_succ]
  refine lexW_value (v := ?_) (by rfl) (by rfl) (fun W hW => ?_) ?_
  rotate_left
  · skip; go_simp <;> with_reducible rfl
  simp only [Act.put, List.setIfInBounds_toArray, List.set_cons_zero, List.set_cons_succ]
  refine lexW_value (v := ?_) (by rfl) (by rfl) (fun W hW => ?_) ?_
  rotate_left
  · skip; go_simp <;> with_reducible rfl
  simp only [Act.put, List.setIfInBounds_toArray, List.set_cons_zero, List.set_cons_succ]
  refine lexW_value (v := ?_) (by rfl) (by rfl) (fun W hW => ?_) ?_
  rotate_left
  · skip; go_simp <;> with_reducible rfl
  simp only [Act.put, List.setIfInBounds_toArray, List.set_cons_zero, List.set_cons_succ]
  refine lexW_value (v := ?_) (by rfl) (by rfl) (fun W hW => ?_) ?_
  rotate_left
  · have l1 := run_loadSc (hW.get (g := w.heap.size) (x := a) (by simp)); go_simp <;> with_reducible rfl
  simp only [Act.put, List.setIfInBounds_toArray, List.set_cons_zero, List.set_cons_succ]
  refine lexW_value (v := ?_) (by rfl) (by rfl) (fun W hW => ?_) ?_
  rotate_left
  · have l1 := run_loadSc (hW.get (g := w.heap.size + 1) (x := b) (by simp)); go_simp <;> with_reducible rfl
  simp only [Act.put, List.setIfInBounds_toArray, List.set_cons_zero, List.set_cons_succ]
  refine' lexW_call (by rfl) (by rfl) (fun W hW => ?_) (fun W hW => ?_) ?_
  rotate_left 3
  · go_simp <;> first | with_reducible rfl | exact ⟨rfl, rfl⟩
  · with_reducible exact K5.out W (LK.out _ hW.below)
  simp only [Act.put, List.setIfInBounds_toArray, List.set_cons_zero, List.set_cons_succ]
  refine' lexW_call (by rfl) (by rfl) (fun W hW => ?_) (fun W hW => ?_) ?_
  rotate_left 3
  · go_simp <;> first | with_reducible rfl | exact ⟨rfl, rfl⟩
  · with_reducible exact K8.out W (LK.out _ hW.below)
  simp only [Act.put, List.setIfInBounds_toArray, List.set_cons_zero, List.set_cons_succ]
  refine lexW_value (v := ?_) (by rfl) (by rfl) (fun W hW => ?_) ?_
  rotate_left
  · have l1 := run_loadSc (hW.get (g := w.heap.size) (x := a) (by simp)); go_simp <;> with_reducible rfl
  simp only [Act.put, List.setIfInBounds_toArray, List.set_cons_zero, List.set_cons_succ]
  refine' lexW_call (by rfl) (by rfl) (fun W hW => ?_) (fun W hW => ?_) ?_
  rotate_left 3
  · go_simp <;> first | with_reducible rfl | exact ⟨rfl, rfl⟩
  · with_reducible exact K2.out W (LK.out _ hW.below)
  simp only [Act.put, List.setIfInBounds_toArray, List.set_cons_zero, List.set_cons_succ]
  refine lexW_value (v := ?_) (by rfl) (by rfl) (fun W hW => ?_) ?_
  rotate_left
  · have l1 := run_loadSc (hW.get (g := w.heap.size + 1) (x := b) (by simp)); go_simp <;> with_reducible rfl
  simp only [Act.put, List.setIfInBounds_toArray, List.set_cons_zero, List.set_cons_succ]
  refine' lexW_call (by rfl) (by rfl) (fun W hW => ?_) (fun W hW => ?_) ?_
  rotate_left 3
  · go_simp <;> first | with_reducible rfl | exact ⟨rfl, rfl⟩
  · with_reducible exact K6.out W (LK.out _ hW.below)
  simp only [Act.put, List.setIfInBounds_toArray, List.set_cons_zero, List.set_cons_succ]
  refine' lexW_call (by rfl) (by rfl) (fun W hW => ?_) (fun W hW => ?_) ?_
  rotate_left 3
  · go_simp <;> first | with_reducible rfl | exact ⟨rfl, rfl⟩
  · with_reducible exact K9.out W (LK.out _ hW.below)
  simp only [Act.put, List.setIfInBounds_toArray, List.set_cons_zero, List.set_cons_succ]
  refine lexW_value (v := ?_) (by rfl) (by rfl) (fun W hW => ?_) ?_
  rotate_left
  · skip; go_simp <;> with_reducible rfl
  simp only [Act.put, List.setIfInBounds_toArray, List.set_cons_zero, List.set_cons_succ]
  refine lexW_value (v := ?_) (by rfl) (by rfl) (fun W hW => ?_) ?_
  rotate_left
  · skip; go_simp <;> with_reducible rfl
  simp only [Act.put, List.setIfInBounds_toArray, List.set_cons_zero, List.set_cons_succ]
  refine lexW_nil (fun b4 W4 F4 E4 => ?_)
  obtain rfl := lexEnd_none E4
  go_wp2
  go_ret
  exact ⟨rfl, F4.below⟩
end
end Go.Proofs.YthhcjknkmdaeeaaDoor
