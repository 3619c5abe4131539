/-
  FieldRoots: what a number is multiplied by to be 1, and the even root of one divided by another, are what the document says. Whatever both are.
-/
import Derived.Test.YtcidbiceeinglaaDoorFLaw
namespace Go.Proofs.YtcidbiceeinglaaDoor
open Go.RowKit

section
attribute [local go_sem ↓] load_fe

set_option maxRecDepth 100000 in
set_option maxHeartbeats 4000000 in
theorem FieldRoots_any (a b : Nat) (w : World) (ha : a < big) (hb : b < big) (L0 : Laid w) :
    Calls Tryd.prog 4 #[fev a, fev b] w fun e w' => e = .returned (.bool true) ∧ Below w.heap.size w w' := by
  have hsz0 := L0.size
  have LK : Hid (∀ W, Below w.heap.size w W → Laid W) := Lib.hid fun W hb => L0.keep hb hsz0
  have AW : Hid (∀ W, Laid W → Calls Tryd.prog 9 #[] W fun e w' => e = .returned (.bool true) ∧ Below W.heap.size W w') := Lib.hid fun W L => awake_any W L
  obtain ⟨fa, hfa⟩ : ∃ f, f = toF a := ⟨_, rfl⟩
  obtain ⟨fb, hfb⟩ : ∃ f, f = toF b := ⟨_, rfl⟩
  obtain ⟨i, hi⟩ : ∃ x : F, x = finv fa := ⟨_, rfl⟩
  have K1 : Hid (∀ W, Calls Tryd.prog 29 #[.agg ((lims a).map nv).toArray] W fun e w' => e = .returned (.agg ((lims i.val).map nv).toArray) ∧ Below W.heap.size W w') := Lib.hid fun W => by
    have h := Inv_any a W ha
    simp only [← hfa] at h
    rw [show finv fa = i by rw [hi]] at h
    exact h
  have R1 : Hid (∀ W, Calls Tryd.prog 30 #[.agg ((lims a).map nv).toArray] W fun e w' => e = .returned (.agg ((lims i.val).map nv).toArray) ∧ Below W.heap.size W w') := Lib.hid fun W => by
    have h := rInv_any a W ha
    simp only [← hfa] at h
    rw [show finv fa = i by rw [hi]] at h
    exact h
  obtain ⟨r, hr⟩ : ∃ r : F, r = (froot fa fb).1 := ⟨_, rfl⟩
  obtain ⟨ok, hok⟩ : ∃ ok, ok = (froot fa fb).2 := ⟨_, rfl⟩
  have K2 : Hid (∀ W, Laid W → Calls Tryd.prog 27 #[.agg ((lims a).map nv).toArray, .agg ((lims b).map nv).toArray] W fun e w' => e = .returned (.tuple #[.agg ((lims r.val).map nv).toArray, .bool ok]) ∧ Below W.heap.size W w') := Lib.hid fun W L => by
    have h := Root_any a b W ha hb L
    rw [← hfa, ← hfb, ← hr, ← hok] at h
    exact h
  have R2 : Hid (∀ W, Calls Tryd.prog 28 #[.agg ((lims a).map nv).toArray, .agg ((lims b).map nv).toArray] W fun e w' => e = .returned (.tuple #[.agg ((lims r.val).map nv).toArray, .bool ok]) ∧ Below W.heap.size W w') := Lib.hid fun W => by
    have h := rRoot_any a b W ha hb
    rw [← hfa, ← hfb, ← hr, ← hok] at h
    exact h
  clear L0 hsz0 hfa hfb ha hb hi hr hok
  obtain ⟨bA, bB, bb, _⟩ := fe_start2 w a b _ _ rfl rfl
  have F0 := Bl.two bA bB bb
  clear bA bB bb
  rw [fev_eq, fev_eq]
  go_enter Tryd.func4, Tryd.ntmps4
  go_upto_region 1 with (fail)
  generalize ((w.alloc (.cells ((lims a).map nv).toArray 24)).alloc (.cells ((lims b).map nv).toArray 24)) = wv at *
  have qs := fun x W => eql_same x W
  have gf := fun x y c d W => run_guard_fe x y c d W
  go_upto_region 2 with (first
    | (go_at_call 9
       with_reducible refine (AW.out _ (LK.out _ F0.below)).mono ?_
       rintro e w1 ⟨rfl, hb1⟩
       have F1 := Bl.stay _ _ F0 hb1)
    | fail)
  clear F0 hb1
  have hA := F1.get (g := w.heap.size) (x := a) (by simp)
  have hB := F1.get (g := w.heap.size + 1) (x := b) (by simp)
  go_upto_region 3 with (first
    | (with_reducible refine wpList_load_n rfl 24 (.tmp 2) rfl w.heap.size rfl (lims a) 4 hA rfl Tryd.underlying24 Tryd.infoFe ?_)
    | (with_reducible refine wpList_load_n rfl 24 (.tmp 3) rfl (w.heap.size + 1) rfl (lims b) 4 hB rfl Tryd.underlying24 Tryd.infoFe ?_)
    | (go_at_call 27
       with_reducible refine (K2.out _ (LK.out _ F1.below)).mono ?_
       rintro e w2 ⟨rfl, hb2⟩
       have F2 := Bl.stay _ _ F1 hb2
       have F2a := Bl.stay _ _ F2 ((Below.refl _ w2).alloc (Nat.le_refl _) (.cells #[.int .u64 0, .int .u64 0, .int .u64 0, .int .u64 0] 24))
       have z2 := zero_new w2)
    | (with_reducible refine wpList_store_n rfl 24 (.tmp 6) (.tmp 15) rfl w2.heap.size (lims r.val) 4 rfl rfl rfl (lims 0) (by with_unfolding_all exact z2) Tryd.infoFe rfl w.heap.size w (by with_unfolding_all exact F2a.below) F2.below.size ?_
       intro w3 H3 o3 s3 b3
       have F3 := Bl.add (by with_unfolding_all exact F2a) F2.len H3 o3 b3
       clear s3)
    | fail)
  have hg2 := F2.len
  clear hA hB F2a z2 o3 H3 b3 hb2 F1 F2 K2
  generalize w2.heap.size = g at *
  have hA := F3.get (g := w.heap.size) (x := a) (by simp)
  have hB := F3.get (g := w.heap.size + 1) (x := b) (by simp)
  go_upto_region 4 with (first
    | (with_reducible refine wpList_load_n rfl 24 (.tmp 2) rfl w.heap.size rfl (lims a) 4 hA rfl Tryd.underlying24 Tryd.infoFe ?_)
    | (with_reducible refine wpList_load_n rfl 24 (.tmp 3) rfl (w.heap.size + 1) rfl (lims b) 4 hB rfl Tryd.underlying24 Tryd.infoFe ?_)
    | (go_at_call 28
       with_reducible refine (R2.out _).mono ?_
       rintro e w4 ⟨rfl, hb4⟩
       have F4 := Bl.stay _ _ F3 hb4
       have F4a := Bl.stay _ _ F4 ((Below.refl _ w4).alloc (Nat.le_refl _) (.cells #[.int .u64 0, .int .u64 0, .int .u64 0, .int .u64 0] 24))
       have z4 := zero_new w4)
    | (with_reducible refine wpList_store_n rfl 24 (.tmp 8) (.tmp 21) rfl w4.heap.size (lims r.val) 4 rfl rfl rfl (lims 0) (by with_unfolding_all exact z4) Tryd.infoFe rfl w.heap.size w (by with_unfolding_all exact F4a.below) F4.below.size ?_
       intro w5 H5 o5 s5 b5
       have F5 := Bl.add (by with_unfolding_all exact F4a) F4.len H5 o5 b5
       clear s5)
    | fail)
  have hg4 := F4.len
  clear hA hB F4a z4 o5 H5 b5 hb4 F3 F4 R2
  generalize w4.heap.size = g2 at *
  refine wp_region_lex 18 (fun _ => false) (MadeFe 0) (Bl w (g2 + 1) [(g2, r.val), (g, r.val), (w.heap.size, a), (w.heap.size + 1, b)]) (by kernel_rfl) (by kernel_rfl) F5.drew Bl.stay MadeFe.stay lex_none ?_
  simp only [List.take_succ_cons, List.take_zero, List.drop_succ_cons, List.drop_zero]
  refine lexW_value (v := ?_) (by rfl) (by rfl) (fun W hW => ?_) ?_
  rotate_left
  · skip; go_simp <;> with_reducible rfl
  simp only [Act.put, List.setIfInBounds_toArray, List.set_cons_zero, List.set_cons_succ]
  refine lexW_value (v := ?_) (by rfl) (by rfl) (fun W hW => ?_) ?_
  rotate_left
  · skip; go_simp <;> with_reducible rfl
  simp only [Act.put, List.setIfInBounds_toArray, List.set_cons_zero, List.set_cons_succ]
  refine lexW_value (v := ?_) (by rfl) (by rfl) (fun W hW => ?_) ?_
  rotate_left
  · have l1 := run_loadFe (hW.get (g := w.heap.size) (x := a) (by simp)); go_simp <;> with_reducible rfl
  simp only [Act.put, List.setIfInBounds_toArray, List.set_cons_zero, List.set_cons_succ]
  refine' lexW_call (by rfl) (by rfl) (fun W hW => ?_) (fun W hW => ?_) ?_
  rotate_left 3
  · go_simp <;> first | with_reducible rfl | exact ⟨rfl, rfl⟩
  · with_reducible exact K1.out W
  simp only [Act.put, List.setIfInBounds_toArray, List.set_cons_zero, List.set_cons_succ]
  refine lexW_value (v := ?_) (by rfl) (by rfl) (fun W hW => ?_) ?_
  rotate_left
  · have l1 := run_loadFe (hW.get (g := w.heap.size) (x := a) (by simp)); go_simp <;> with_reducible rfl
  simp only [Act.put, List.setIfInBounds_toArray, List.set_cons_zero, List.set_cons_succ]
  refine' lexW_call (by rfl) (by rfl) (fun W hW => ?_) (fun W hW => ?_) ?_
  rotate_left 3
  · go_simp <;> first | with_reducible rfl | exact ⟨rfl, rfl⟩
  · with_reducible exact R1.out W
  simp only [Act.put, List.setIfInBounds_toArray, List.set_cons_zero, List.set_cons_succ]
  refine lexW_value (v := ?_) (by rfl) (by rfl) (fun W hW => ?_) ?_
  rotate_left
  · skip; go_simp <;> with_reducible rfl
  simp only [Act.put, List.setIfInBounds_toArray, List.set_cons_zero, List.set_cons_succ]
  refine lexW_value (v := ?_) (by rfl) (by rfl) (fun W hW => ?_) ?_
  rotate_left
  · skip; go_simp <;> with_reducible rfl
  simp only [Act.put, List.setIfInBounds_toArray, List.set_cons_zero, List.set_cons_succ]
  refine lexW_value (v := ?_) (by rfl) (by rfl) (fun W hW => ?_) ?_
  rotate_left
  · skip; go_simp <;> with_reducible rfl
  simp only [Act.put, List.setIfInBounds_toArray, List.set_cons_zero, List.set_cons_succ]
  refine lexW_value (v := ?_) (by rfl) (by rfl) (fun W hW => ?_) ?_
  rotate_left
  · have l1 := run_loadFe (hW.get (g := g) (x := r.val) (by simp)); go_simp <;> with_reducible rfl
  simp only [Act.put, List.setIfInBounds_toArray, List.set_cons_zero, List.set_cons_succ]
  refine lexW_value (v := ?_) (by rfl) (by rfl) (fun W hW => ?_) ?_
  rotate_left
  · have l1 := run_loadFe (hW.get (g := g2) (x := r.val) (by simp)); go_simp <;> with_reducible rfl
  simp only [Act.put, List.setIfInBounds_toArray, List.set_cons_zero, List.set_cons_succ]
  refine lexW_value (v := ?_) (by rfl) (by rfl) (fun W hW => ?_) ?_
  rotate_left
  · skip; go_simp <;> with_reducible rfl
  simp only [Act.put, List.setIfInBounds_toArray, List.set_cons_zero, List.set_cons_succ]
  refine lexW_value (v := ?_) (by rfl) (by rfl) (fun W hW => ?_) ?_
  rotate_left
  · skip; go_simp <;> with_reducible rfl
  simp only [Act.put, List.setIfInBounds_toArray, List.set_cons_zero, List.set_cons_succ]
  refine lexW_value (v := ?_) (by rfl) (by rfl) (fun W hW => ?_) ?_
  rotate_left
  · skip; go_simp <;> with_reducible rfl
  simp only [Act.put, List.setIfInBounds_toArray, List.set_cons_zero, List.set_cons_succ]
  refine lexW_value (v := ?_) (by rfl) (by rfl) (fun W hW => ?_) ?_
  rotate_left
  · skip; go_simp <;> with_reducible rfl
  simp only [Act.put, List.setIfInBounds_toArray, List.set_cons_zero, List.set_cons_succ]
  refine lexW_value (v := ?_) (by rfl) (by rfl) (fun W hW => ?_) ?_
  rotate_left
  · skip; go_simp <;> with_reducible rfl
  simp only [Act.put, List.setIfInBounds_toArray, List.set_cons_zero, List.set_cons_succ]
  refine lexW_value (v := ?_) (by rfl) (by rfl) (fun W hW => ?_) ?_
  rotate_left
  · skip; go_simp <;> with_reducible rfl
  simp only [Act.put, List.setIfInBounds_toArray, List.set_cons_zero, List.set_cons_succ]
  refine lexW_value (v := ?_) (by rfl) (by rfl) (fun W hW => ?_) ?_
  rotate_left
  · skip; go_simp <;> with_reducible rfl
  simp only [Act.put, List.setIfInBounds_toArray, List.set_cons_zero, List.set_cons_succ]
  refine lexW_nil (fun b6 W6 F6 E6 => ?_)
  obtain rfl := lexEnd_none E6
  go_wp2
  go_ret
  exact ⟨rfl, F6.below⟩
end
end Go.Proofs.YtcidbiceeinglaaDoor
