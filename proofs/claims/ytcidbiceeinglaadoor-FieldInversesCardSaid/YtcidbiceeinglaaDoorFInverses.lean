/-
  FieldInverses: the inverse of an inverse is the number, that of a product the product of both, and products are 0 only if one is. Whatever both are.
-/
import Derived.Test.YtcidbiceeinglaaDoorFLaw
namespace Go.Proofs.YtcidbiceeinglaaDoor
open Go.RowKit

section
attribute [local go_sem ↓] load_fe

set_option maxRecDepth 100000 in
set_option maxHeartbeats 4000000 in
theorem FieldInverses_any (a b : Nat) (w : World) (ha : a < big) (hb : b < big) (L0 : Laid w) :
    Calls Tryd.prog 7 #[fev a, fev b] w fun e w' => e = .returned (.bool true) ∧ Below w.heap.size w w' := by
  have hsz0 := L0.size
  have LK : Hid (∀ W, Below w.heap.size w W → Laid W) := Lib.hid fun W hb => L0.keep hb hsz0
  have AW : Hid (∀ W, Laid W → Calls Tryd.prog 9 #[] W fun e w' => e = .returned (.bool true) ∧ Below W.heap.size W w') := Lib.hid fun W L => awake_any W L
  obtain ⟨fa, hfa⟩ : ∃ f, f = toF a := ⟨_, rfl⟩
  obtain ⟨fb, hfb⟩ : ∃ f, f = toF b := ⟨_, rfl⟩
  obtain ⟨x, hx⟩ : ∃ zz : F, zz = finv fa := ⟨_, rfl⟩
  obtain ⟨y, hy⟩ : ∃ zz : F, zz = finv fb := ⟨_, rfl⟩
  obtain ⟨p, hp⟩ : ∃ zz : F, zz = fa * fb := ⟨_, rfl⟩
  obtain ⟨q, hq⟩ : ∃ zz : F, zz = x * y := ⟨_, rfl⟩
  obtain ⟨i, hi⟩ : ∃ zz : F, zz = fa := ⟨_, rfl⟩
  have K1 : Hid (∀ W, Calls Tryd.prog 29 #[.agg ((lims a).map nv).toArray] W fun e w' => e = .returned (.agg ((lims x.val).map nv).toArray) ∧ Below W.heap.size W w') := Lib.hid fun W => by
    have h := Inv_any a W ha
    simp only [← hfa] at h
    rw [show finv fa = x by rw [hx]] at h
    exact h
  have K2 : Hid (∀ W, Calls Tryd.prog 29 #[.agg ((lims b).map nv).toArray] W fun e w' => e = .returned (.agg ((lims y.val).map nv).toArray) ∧ Below W.heap.size W w') := Lib.hid fun W => by
    have h := Inv_any b W hb
    simp only [← hfb] at h
    rw [show finv fb = y by rw [hy]] at h
    exact h
  have K3 : Hid (∀ W, Calls Tryd.prog 29 #[.agg ((lims x.val).map nv).toArray] W fun e w' => e = .returned (.agg ((lims i.val).map nv).toArray) ∧ Below W.heap.size W w') := Lib.hid fun W => by
    have h := Inv_any x.val W (F.lt_big _)
    simp only [toF_of] at h
    rw [show finv x = i by rw [hx, finv_finv, hi]] at h
    exact h
  have K5 : Hid (∀ W, Calls Tryd.prog 14 #[.agg ((lims a).map nv).toArray, .agg ((lims b).map nv).toArray] W fun e w' => e = .returned (.agg ((lims p.val).map nv).toArray) ∧ Below W.heap.size W w') := Lib.hid fun W => by
    have h := Mul_any a b W ha hb
    simp only [← hfa, ← hfb] at h
    rw [show fa * fb = p by grind] at h
    exact h
  have K6 : Hid (∀ W, Calls Tryd.prog 29 #[.agg ((lims p.val).map nv).toArray] W fun e w' => e = .returned (.agg ((lims q.val).map nv).toArray) ∧ Below W.heap.size W w') := Lib.hid fun W => by
    have h := Inv_any p.val W (F.lt_big _)
    simp only [toF_of] at h
    rw [show finv p = q by rw [hp, finv_mul, hq, hx, hy]] at h
    exact h
  have K7 : Hid (∀ W, Calls Tryd.prog 14 #[.agg ((lims x.val).map nv).toArray, .agg ((lims y.val).map nv).toArray] W fun e w' => e = .returned (.agg ((lims q.val).map nv).toArray) ∧ Below W.heap.size W w') := Lib.hid fun W => by
    have h := Mul_any x.val y.val W (F.lt_big _) (F.lt_big _)
    simp only [toF_of] at h
    rw [show x * y = q by grind] at h
    exact h
  have K4 : Hid (∀ W, Calls Tryd.prog 23 #[.agg ((lims i.val).map nv).toArray, .agg ((lims a).map nv).toArray] W fun e w' => e = .returned (.bool true) ∧ Below W.heap.size W w') := Lib.hid fun W => by
    have h := Same_any i.val a W (F.lt_big _) ha
    rw [toF_of, ← hfa, decide_eq_true hi] at h
    exact h
  have S1 : ∀ W, Calls Tryd.prog 23 #[.agg ((lims a).map nv).toArray, .agg #[.int .u64 0, .int .u64 0, .int .u64 0, .int .u64 0]] W fun e w' => e = .returned (.bool (decide (fa = 0))) ∧ Below W.heap.size W w' := fun W => by
    have h := Same_any a 0 W ha (by decide)
    rw [toF_zero', ← hfa, ← lit_e0] at h
    exact h
  have S2 : ∀ W, Calls Tryd.prog 23 #[.agg ((lims b).map nv).toArray, .agg #[.int .u64 0, .int .u64 0, .int .u64 0, .int .u64 0]] W fun e w' => e = .returned (.bool (decide (fb = 0))) ∧ Below W.heap.size W w' := fun W => by
    have h := Same_any b 0 W hb (by decide)
    rw [toF_zero', ← hfb, ← lit_e0] at h
    exact h
  have qz := fun W => eql_zero p W
  have hpz : Hid (p = fa * fb) := Lib.hid hp
  clear L0 hsz0 hfa hfb ha hb hx hy hp hq hi
  obtain ⟨bA, bB, bb, _⟩ := fe_start2 w a b _ _ rfl rfl
  have F0 := Bl.two bA bB bb
  clear bA bB bb
  rw [fev_eq, fev_eq]
  go_enter Tryd.func7, Tryd.ntmps7
  go_upto_region 1 with (fail)
  generalize ((w.alloc (.cells ((lims a).map nv).toArray 24)).alloc (.cells ((lims b).map nv).toArray 24)) = wv at *
  have qs := fun x W => eql_same x W
  have gf := fun x y c d W => run_guard_fe x y c d W
  go_upto_region 2 with (first
    | (go_at_call 9
       with_reducible refine (AW.out _ (LK.out _ F0.below)).mono ?_
       rintro e w1 ⟨rfl, hb1⟩
       have F1 := Bl.stay _ _ F0 hb1)
    | fail)
  clear F0 hb1
  have hL0 := F1.get (g := w.heap.size) (x := a) (by simp)
  go_upto_region 3 with (first
    | (with_reducible refine wpList_load_n rfl 24 (.tmp 2) rfl w.heap.size rfl (lims a) 4 hL0 rfl Tryd.underlying24 Tryd.infoFe ?_)
    | (go_at_call 29
       with_reducible refine (K1.out _).mono ?_
       rintro e w2 ⟨rfl, hb2⟩
       have F2 := Bl.stay _ _ F1 hb2
       have F2a := Bl.stay _ _ F2 ((Below.refl _ w2).alloc (Nat.le_refl _) (.cells #[.int .u64 0, .int .u64 0, .int .u64 0, .int .u64 0] 24))
       have z2 := zero_new w2)
    | (with_reducible refine wpList_store_n rfl 24 (.tmp 6) (.tmp 11) rfl w2.heap.size (lims x.val) 4 rfl rfl rfl (lims 0) (by with_unfolding_all exact z2) Tryd.infoFe rfl w.heap.size w (by with_unfolding_all exact F2a.below) F2.below.size ?_
       intro w3 H3 o3 s3 b3
       have F3 := Bl.add (by with_unfolding_all exact F2a) F2.len H3 o3 b3
       clear s3)
    | fail)
  have hg2 := F2.len
  clear hL0 F2a z2 o3 H3 b3 hb2 F1 F2
  generalize w2.heap.size = g6 at *
  have hL0 := F3.get (g := w.heap.size + 1) (x := b) (by simp)
  go_upto_region 4 with (first
    | (with_reducible refine wpList_load_n rfl 24 (.tmp 3) rfl (w.heap.size + 1) rfl (lims b) 4 hL0 rfl Tryd.underlying24 Tryd.infoFe ?_)
    | (go_at_call 29
       with_reducible refine (K2.out _).mono ?_
       rintro e w4 ⟨rfl, hb4⟩
       have F4 := Bl.stay _ _ F3 hb4
       have F4a := Bl.stay _ _ F4 ((Below.refl _ w4).alloc (Nat.le_refl _) (.cells #[.int .u64 0, .int .u64 0, .int .u64 0, .int .u64 0] 24))
       have z4 := zero_new w4)
    | (with_reducible refine wpList_store_n rfl 24 (.tmp 7) (.tmp 13) rfl w4.heap.size (lims y.val) 4 rfl rfl rfl (lims 0) (by with_unfolding_all exact z4) Tryd.infoFe rfl w.heap.size w (by with_unfolding_all exact F4a.below) F4.below.size ?_
       intro w5 H5 o5 s5 b5
       have F5 := Bl.add (by with_unfolding_all exact F4a) F4.len H5 o5 b5
       clear s5)
    | fail)
  have hg4 := F4.len
  clear hL0 F4a z4 o5 H5 b5 hb4 F3 F4
  generalize w4.heap.size = g7 at *
  by_cases hza : fa = 0
  · have hp0 : p = 0 := by rw [hpz.out, hza]; exact F.zmul _
    simp only [decide_eq_true hza] at S1
    simp only [decide_eq_true hp0] at qz
    clear hza hp0 hpz
    have T1 := Lib.hid S1
    clear S1
    have T2 := Lib.hid S2
    clear S2
    have hA := F5.get (g := w.heap.size) (x := a) (by simp)
    have hB := F5.get (g := w.heap.size + 1) (x := b) (by simp)
    have e1 : Value.bool true = Value.bool true := rfl
    clear e1
    go_upto_region 5 with (first
      | (with_reducible refine wpList_load_n rfl 24 (.tmp 2) rfl w.heap.size rfl (lims a) 4 hA rfl Tryd.underlying24 Tryd.infoFe ?_)
      | (go_at_call 23
         with_reducible refine (T1.out _).mono ?_
         rintro e w6 ⟨rfl, hb6⟩
         have F6 := Bl.stay _ _ F5 hb6
         clear hb6)
      | fail)
    refine wp_region_lex 26 (fun _ => false) (MadeFe 0) (Bl w (g7 + 1) [(g7, y.val), (g6, x.val), (w.heap.size, a), (w.heap.size + 1, b)]) (by kernel_rfl) (by kernel_rfl) F6.drew Bl.stay MadeFe.stay lex_none ?_
    simp only [List.take_succ_cons, List.take_zero, List.drop_succ_cons, List.drop_zero]
    refine lexW_value (v := ?_) (by rfl) (by rfl) (fun W hW => ?_) ?_
    rotate_left
    · skip; go_simp <;> with_reducible rfl
    simp only [Act.put, List.setIfInBounds_toArray, List.set_cons_zero, List.set_cons_succ]
    refine lexW_value (v := ?_) (by rfl) (by rfl) (fun W hW => ?_) ?_
    rotate_left
    · skip; go_simp <;> with_reducible rfl
    simp only [Act.put, List.setIfInBounds_toArray, List.set_cons_zero, List.set_cons_succ]
    refine lexW_value (v := ?_) (by rfl) (by rfl) (fun W hW => ?_) ?_
    rotate_left
    · have l1 := run_loadFe (hW.get (g := g6) (x := x.val) (by simp)); go_simp <;> with_reducible rfl
    simp only [Act.put, List.setIfInBounds_toArray, List.set_cons_zero, List.set_cons_succ]
    refine' lexW_call (by rfl) (by rfl) (fun W hW => ?_) (fun W hW => ?_) ?_
    rotate_left 3
    · go_simp <;> first | with_reducible rfl | exact ⟨rfl, rfl⟩
    · with_reducible exact K3.out W
    simp only [Act.put, List.setIfInBounds_toArray, List.set_cons_zero, List.set_cons_succ]
    refine lexW_value (v := ?_) (by rfl) (by rfl) (fun W hW => ?_) ?_
    rotate_left
    · have l1 := run_loadFe (hW.get (g := w.heap.size) (x := a) (by simp)); go_simp <;> with_reducible rfl
    simp only [Act.put, List.setIfInBounds_toArray, List.set_cons_zero, List.set_cons_succ]
    refine' lexW_call (by rfl) (by rfl) (fun W hW => ?_) (fun W hW => ?_) ?_
    rotate_left 3
    · go_simp <;> first | with_reducible rfl | exact ⟨rfl, rfl⟩
    · with_reducible exact K4.out W
    simp only [Act.put, List.setIfInBounds_toArray, List.set_cons_zero, List.set_cons_succ]
    refine lexW_value (v := ?_) (by rfl) (by rfl) (fun W hW => ?_) ?_
    rotate_left
    · skip; go_simp <;> with_reducible rfl
    simp only [Act.put, List.setIfInBounds_toArray, List.set_cons_zero, List.set_cons_succ]
    refine lexW_value (v := ?_) (by rfl) (by rfl) (fun W hW => ?_) ?_
    rotate_left
    · skip; go_simp <;> with_reducible rfl
    simp only [Act.put, List.setIfInBounds_toArray, List.set_cons_zero, List.set_cons_succ]
    refine lexW_value (v := ?_) (by rfl) (by rfl) (fun W hW => ?_) ?_
    rotate_left
    · have l1 := run_loadFe (hW.get (g := w.heap.size) (x := a) (by simp)); go_simp <;> with_reducible rfl
    simp only [Act.put, List.setIfInBounds_toArray, List.set_cons_zero, List.set_cons_succ]
    refine lexW_value (v := ?_) (by rfl) (by rfl) (fun W hW => ?_) ?_
    rotate_left
    · have l1 := run_loadFe (hW.get (g := w.heap.size + 1) (x := b) (by simp)); go_simp <;> with_reducible rfl
    simp only [Act.put, List.setIfInBounds_toArray, List.set_cons_zero, List.set_cons_succ]
    refine' lexW_call (by rfl) (by rfl) (fun W hW => ?_) (fun W hW => ?_) ?_
    rotate_left 3
    · go_simp <;> first | with_reducible rfl | exact ⟨rfl, rfl⟩
    · with_reducible exact K5.out W
    simp only [Act.put, List.setIfInBounds_toArray, List.set_cons_zero, List.set_cons_succ]
    refine' lexW_call (by rfl) (by rfl) (fun W hW => ?_) (fun W hW => ?_) ?_
    rotate_left 3
    · go_simp <;> first | with_reducible rfl | exact ⟨rfl, rfl⟩
    · with_reducible exact K6.out W
    simp only [Act.put, List.setIfInBounds_toArray, List.set_cons_zero, List.set_cons_succ]
    refine lexW_value (v := ?_) (by rfl) (by rfl) (fun W hW => ?_) ?_
    rotate_left
    · have l1 := run_loadFe (hW.get (g := g6) (x := x.val) (by simp)); go_simp <;> with_reducible rfl
    simp only [Act.put, List.setIfInBounds_toArray, List.set_cons_zero, List.set_cons_succ]
    refine lexW_value (v := ?_) (by rfl) (by rfl) (fun W hW => ?_) ?_
    rotate_left
    · have l1 := run_loadFe (hW.get (g := g7) (x := y.val) (by simp)); go_simp <;> with_reducible rfl
    simp only [Act.put, List.setIfInBounds_toArray, List.set_cons_zero, List.set_cons_succ]
    refine' lexW_call (by rfl) (by rfl) (fun W hW => ?_) (fun W hW => ?_) ?_
    rotate_left 3
    · go_simp <;> first | with_reducible rfl | exact ⟨rfl, rfl⟩
    · with_reducible exact K7.out W
    simp only [Act.put, List.setIfInBounds_toArray, List.set_cons_zero, List.set_cons_succ]
    refine lexW_value (v := ?_) (by rfl) (by rfl) (fun W hW => ?_) ?_
    rotate_left
    · skip; go_simp <;> with_reducible rfl
    simp only [Act.put, List.setIfInBounds_toArray, List.set_cons_zero, List.set_cons_succ]
    refine lexW_value (v := ?_) (by rfl) (by rfl) (fun W hW => ?_) ?_
    rotate_left
    · skip; go_simp <;> with_reducible rfl
    simp only [Act.put, List.setIfInBounds_toArray, List.set_cons_zero, List.set_cons_succ]
    refine lexW_value (v := ?_) (by rfl) (by rfl) (fun W hW => ?_) ?_
    rotate_left
    · skip; go_simp <;> with_reducible rfl
    simp only [Act.put, List.setIfInBounds_toArray, List.set_cons_zero, List.set_cons_succ]
    refine lexW_value (v := ?_) (by rfl) (by rfl) (fun W hW => ?_) ?_
    rotate_left
    · have l1 := run_loadFe (hW.get (g := w.heap.size) (x := a) (by simp)); go_simp <;> with_reducible rfl
    simp only [Act.put, List.setIfInBounds_toArray, List.set_cons_zero, List.set_cons_succ]
    refine lexW_value (v := ?_) (by rfl) (by rfl) (fun W hW => ?_) ?_
    rotate_left
    · have l1 := run_loadFe (hW.get (g := w.heap.size + 1) (x := b) (by simp)); go_simp <;> with_reducible rfl
    simp only [Act.put, List.setIfInBounds_toArray, List.set_cons_zero, List.set_cons_succ]
    refine' lexW_call (by rfl) (by rfl) (fun W hW => ?_) (fun W hW => ?_) ?_
    rotate_left 3
    · go_simp <;> first | with_reducible rfl | exact ⟨rfl, rfl⟩
    · with_reducible exact K5.out W
    simp only [Act.put, List.setIfInBounds_toArray, List.set_cons_zero, List.set_cons_succ]
    refine lexW_value (v := ?_) (by rfl) (by rfl) (fun W hW => ?_) ?_
    rotate_left
    · skip; go_simp <;> with_reducible rfl
    simp only [Act.put, List.setIfInBounds_toArray, List.set_cons_zero, List.set_cons_succ]
    refine lexW_value (v := ?_) (by rfl) (by rfl) (fun W hW => ?_) ?_
    rotate_left
    · skip; go_simp <;> with_reducible rfl
    simp only [Act.put, List.setIfInBounds_toArray, List.set_cons_zero, List.set_cons_succ]
    refine lexW_value (v := ?_) (by rfl) (by rfl) (fun W hW => ?_) ?_
    rotate_left
    · skip; go_simp <;> with_reducible rfl
    simp only [Act.put, List.setIfInBounds_toArray, List.set_cons_zero, List.set_cons_succ]
    refine lexW_value (v := ?_) (by rfl) (by rfl) (fun W hW => ?_) ?_
    rotate_left
    · skip; go_simp <;> with_reducible rfl
    simp only [Act.put, List.setIfInBounds_toArray, List.set_cons_zero, List.set_cons_succ]
    refine lexW_value (v := ?_) (by rfl) (by rfl) (fun W hW => ?_) ?_
    rotate_left
    · skip; go_simp <;> with_reducible rfl
    simp only [Act.put, List.setIfInBounds_toArray, List.set_cons_zero, List.set_cons_succ]
    refine lexW_nil (fun b8 W8 F8 E8 => ?_)
    obtain rfl := lexEnd_none E8
    go_wp2
    go_ret
    exact ⟨rfl, F8.below⟩
  · by_cases hzb : fb = 0
    · have hp0 : p = 0 := by rw [hpz.out, hzb]; exact F.mulz _
      simp only [decide_eq_false hza] at S1
      simp only [decide_eq_true hzb] at S2
      simp only [decide_eq_true hp0] at qz
      clear hza hzb hp0 hpz
      have T1 := Lib.hid S1
      clear S1
      have T2 := Lib.hid S2
      clear S2
      have hA := F5.get (g := w.heap.size) (x := a) (by simp)
      have hB := F5.get (g := w.heap.size + 1) (x := b) (by simp)
      have e1 : Value.bool true = Value.bool true := rfl
      clear e1
      go_upto_region 5 with (first
        | (with_reducible refine wpList_load_n rfl 24 (.tmp 2) rfl w.heap.size rfl (lims a) 4 hA rfl Tryd.underlying24 Tryd.infoFe ?_)
        | (go_at_call 23
           with_reducible refine (T1.out _).mono ?_
           rintro e w6 ⟨rfl, hb6⟩
           have F6 := Bl.stay _ _ F5 hb6
           have l2 := run_loadFe (F6.get (g := w.heap.size + 1) (x := b) (by simp))
           clear hb6)
        | (go_at_call 23
           with_reducible refine (T2.out _).mono ?_
           rintro e w7 ⟨rfl, hb7⟩
           have F7 := Bl.stay _ _ F6 hb7
           clear hb7)
        | fail)
      refine wp_region_lex 26 (fun _ => false) (MadeFe 0) (Bl w (g7 + 1) [(g7, y.val), (g6, x.val), (w.heap.size, a), (w.heap.size + 1, b)]) (by kernel_rfl) (by kernel_rfl) F7.drew Bl.stay MadeFe.stay lex_none ?_
      simp only [List.take_succ_cons, List.take_zero, List.drop_succ_cons, List.drop_zero]
      refine lexW_value (v := ?_) (by rfl) (by rfl) (fun W hW => ?_) ?_
      rotate_left
      · skip; go_simp <;> with_reducible rfl
      simp only [Act.put, List.setIfInBounds_toArray, List.set_cons_zero, List.set_cons_succ]
      refine lexW_value (v := ?_) (by rfl) (by rfl) (fun W hW => ?_) ?_
      rotate_left
      · skip; go_simp <;> with_reducible rfl
      simp only [Act.put, List.setIfInBounds_toArray, List.set_cons_zero, List.set_cons_succ]
      refine lexW_value (v := ?_) (by rfl) (by rfl) (fun W hW => ?_) ?_
      rotate_left
      · have l1 := run_loadFe (hW.get (g := g6) (x := x.val) (by simp)); go_simp <;> with_reducible rfl
      simp only [Act.put, List.setIfInBounds_toArray, List.set_cons_zero, List.set_cons_succ]
      refine' lexW_call (by rfl) (by rfl) (fun W hW => ?_) (fun W hW => ?_) ?_
      rotate_left 3
      · go_simp <;> first | with_reducible rfl | exact ⟨rfl, rfl⟩
      · with_reducible exact K3.out W
      simp only [Act.put, List.setIfInBounds_toArray, List.set_cons_zero, List.set_cons_succ]
      refine lexW_value (v := ?_) (by rfl) (by rfl) (fun W hW => ?_) ?_
      rotate_left
      · have l1 := run_loadFe (hW.get (g := w.heap.size) (x := a) (by simp)); go_simp <;> with_reducible rfl
      simp only [Act.put, List.setIfInBounds_toArray, List.set_cons_zero, List.set_cons_succ]
      refine' lexW_call (by rfl) (by rfl) (fun W hW => ?_) (fun W hW => ?_) ?_
      rotate_left 3
      · go_simp <;> first | with_reducible rfl | exact ⟨rfl, rfl⟩
      · with_reducible exact K4.out W
      simp only [Act.put, List.setIfInBounds_toArray, List.set_cons_zero, List.set_cons_succ]
      refine lexW_value (v := ?_) (by rfl) (by rfl) (fun W hW => ?_) ?_
      rotate_left
      · skip; go_simp <;> with_reducible rfl
      simp only [Act.put, List.setIfInBounds_toArray, List.set_cons_zero, List.set_cons_succ]
      refine lexW_value (v := ?_) (by rfl) (by rfl) (fun W hW => ?_) ?_
      rotate_left
      · skip; go_simp <;> with_reducible rfl
      simp only [Act.put, List.setIfInBounds_toArray, List.set_cons_zero, List.set_cons_succ]
      refine lexW_value (v := ?_) (by rfl) (by rfl) (fun W hW => ?_) ?_
      rotate_left
      · have l1 := run_loadFe (hW.get (g := w.heap.size) (x := a) (by simp)); go_simp <;> with_reducible rfl
      simp only [Act.put, List.setIfInBounds_toArray, List.set_cons_zero, List.set_cons_succ]
      refine lexW_value (v := ?_) (by rfl) (by rfl) (fun W hW => ?_) ?_
      rotate_left
      · have l1 := run_loadFe (hW.get (g := w.heap.size + 1) (x := b) (by simp)); go_simp <;> with_reducible rfl
      simp only [Act.put, List.setIfInBounds_toArray, List.set_cons_zero, List.set_cons_succ]
      refine' lexW_call (by rfl) (by rfl) (fun W hW => ?_) (fun W hW => ?_) ?_
      rotate_left 3
      · go_simp <;> first | with_reducible rfl | exact ⟨rfl, rfl⟩
      · with_reducible exact K5.out W
      simp only [Act.put, List.setIfInBounds_toArray, List.set_cons_zero, List.set_cons_succ]
      refine' lexW_call (by rfl) (by rfl) (fun W hW => ?_) (fun W hW => ?_) ?_
      rotate_left 3
      · go_simp <;> first | with_reducible rfl | exact ⟨rfl, rfl⟩
      · with_reducible exact K6.out W
      simp only [Act.put, List.setIfInBounds_toArray, List.set_cons_zero, List.set_cons_succ]
      refine lexW_value (v := ?_) (by rfl) (by rfl) (fun W hW => ?_) ?_
      rotate_left
      · have l1 := run_loadFe (hW.get (g := g6) (x := x.val) (by simp)); go_simp <;> with_reducible rfl
      simp only [Act.put, List.setIfInBounds_toArray, List.set_cons_zero, List.set_cons_succ]
      refine lexW_value (v := ?_) (by rfl) (by rfl) (fun W hW => ?_) ?_
      rotate_left
      · have l1 := run_loadFe (hW.get (g := g7) (x := y.val) (by simp)); go_simp <;> with_reducible rfl
      simp only [Act.put, List.setIfInBounds_toArray, List.set_cons_zero, List.set_cons_succ]
      refine' lexW_call (by rfl) (by rfl) (fun W hW => ?_) (fun W hW => ?_) ?_
      rotate_left 3
      · go_simp <;> first | with_reducible rfl | exact ⟨rfl, rfl⟩
      · with_reducible exact K7.out W
      simp only [Act.put, List.setIfInBounds_toArray, List.set_cons_zero, List.set_cons_succ]
      refine lexW_value (v := ?_) (by rfl) (by rfl) (fun W hW => ?_) ?_
      rotate_left
      · skip; go_simp <;> with_reducible rfl
      simp only [Act.put, List.setIfInBounds_toArray, List.set_cons_zero, List.set_cons_succ]
      refine lexW_value (v := ?_) (by rfl) (by rfl) (fun W hW => ?_) ?_
      rotate_left
      · skip; go_simp <;> with_reducible rfl
      simp only [Act.put, List.setIfInBounds_toArray, List.set_cons_zero, List.set_cons_succ]
      refine lexW_value (v := ?_) (by rfl) (by rfl) (fun W hW => ?_) ?_
      rotate_left
      · skip; go_simp <;> with_reducible rfl
      simp only [Act.put, List.setIfInBounds_toArray, List.set_cons_zero, List.set_cons_succ]
      refine lexW_value (v := ?_) (by rfl) (by rfl) (fun W hW => ?_) ?_
      rotate_left
      · have l1 := run_loadFe (hW.get (g := w.heap.size) (x := a) (by simp)); go_simp <;> with_reducible rfl
      simp only [Act.put, List.setIfInBounds_toArray, List.set_cons_zero, List.set_cons_succ]
      refine lexW_value (v := ?_) (by rfl) (by rfl) (fun W hW => ?_) ?_
      rotate_left
      · have l1 := run_loadFe (hW.get (g := w.heap.size + 1) (x := b) (by simp)); go_simp <;> with_reducible rfl
      simp only [Act.put, List.setIfInBounds_toArray, List.set_cons_zero, List.set_cons_succ]
      refine' lexW_call (by rfl) (by rfl) (fun W hW => ?_) (fun W hW => ?_) ?_
      rotate_left 3
      · go_simp <;> first | with_reducible rfl | exact ⟨rfl, rfl⟩
      · with_reducible exact K5.out W
      simp only [Act.put, List.setIfInBounds_toArray, List.set_cons_zero, List.set_cons_succ]
      refine lexW_value (v := ?_) (by rfl) (by rfl) (fun W hW => ?_) ?_
      rotate_left
      · skip; go_simp <;> with_reducible rfl
      simp only [Act.put, List.setIfInBounds_toArray, List.set_cons_zero, List.set_cons_succ]
      refine lexW_value (v := ?_) (by rfl) (by rfl) (fun W hW => ?_) ?_
      rotate_left
      · skip; go_simp <;> with_reducible rfl
      simp only [Act.put, List.setIfInBounds_toArray, List.set_cons_zero, List.set_cons_succ]
      refine lexW_value (v := ?_) (by rfl) (by rfl) (fun W hW => ?_) ?_
      rotate_left
      · skip; go_simp <;> with_reducible rfl
      simp only [Act.put, List.setIfInBounds_toArray, List.set_cons_zero, List.set_cons_succ]
      refine lexW_value (v := ?_) (by rfl) (by rfl) (fun W hW => ?_) ?_
      rotate_left
      · skip; go_simp <;> with_reducible rfl
      simp only [Act.put, List.setIfInBounds_toArray, List.set_cons_zero, List.set_cons_succ]
      refine lexW_value (v := ?_) (by rfl) (by rfl) (fun W hW => ?_) ?_
      rotate_left
      · skip; go_simp <;> with_reducible rfl
      simp only [Act.put, List.setIfInBounds_toArray, List.set_cons_zero, List.set_cons_succ]
      refine lexW_nil (fun b8 W8 F8 E8 => ?_)
      obtain rfl := lexEnd_none E8
      go_wp2
      go_ret
      exact ⟨rfl, F8.below⟩
    · have hp0 : ¬ p = 0 := by rw [hpz.out]; exact F.mul_ne hza hzb
      simp only [decide_eq_false hza] at S1
      simp only [decide_eq_false hzb] at S2
      simp only [decide_eq_false hp0] at qz
      clear hza hzb hp0 hpz
      have T1 := Lib.hid S1
      clear S1
      have T2 := Lib.hid S2
      clear S2
      have hA := F5.get (g := w.heap.size) (x := a) (by simp)
      have hB := F5.get (g := w.heap.size + 1) (x := b) (by simp)
      have e1 : Value.bool true = Value.bool true := rfl
      clear e1
      go_upto_region 5 with (first
        | (with_reducible refine wpList_load_n rfl 24 (.tmp 2) rfl w.heap.size rfl (lims a) 4 hA rfl Tryd.underlying24 Tryd.infoFe ?_)
        | (go_at_call 23
           with_reducible refine (T1.out _).mono ?_
           rintro e w6 ⟨rfl, hb6⟩
           have F6 := Bl.stay _ _ F5 hb6
           have l2 := run_loadFe (F6.get (g := w.heap.size + 1) (x := b) (by simp))
           clear hb6)
        | (go_at_call 23
           with_reducible refine (T2.out _).mono ?_
           rintro e w7 ⟨rfl, hb7⟩
           have F7 := Bl.stay _ _ F6 hb7
           clear hb7)
        | fail)
      refine wp_region_lex 26 (fun _ => false) (MadeFe 0) (Bl w (g7 + 1) [(g7, y.val), (g6, x.val), (w.heap.size, a), (w.heap.size + 1, b)]) (by kernel_rfl) (by kernel_rfl) F7.drew Bl.stay MadeFe.stay lex_none ?_
      simp only [List.take_succ_cons, List.take_zero, List.drop_succ_cons, List.drop_zero]
      refine lexW_value (v := ?_) (by rfl) (by rfl) (fun W hW => ?_) ?_
      rotate_left
      · skip; go_simp <;> with_reducible rfl
      simp only [Act.put, List.setIfInBounds_toArray, List.set_cons_zero, List.set_cons_succ]
      refine lexW_value (v := ?_) (by rfl) (by rfl) (fun W hW => ?_) ?_
      rotate_left
      · skip; go_simp <;> with_reducible rfl
      simp only [Act.put, List.setIfInBounds_toArray, List.set_cons_zero, List.set_cons_succ]
      refine lexW_value (v := ?_) (by rfl) (by rfl) (fun W hW => ?_) ?_
      rotate_left
      · have l1 := run_loadFe (hW.get (g := g6) (x := x.val) (by simp)); go_simp <;> with_reducible rfl
      simp only [Act.put, List.setIfInBounds_toArray, List.set_cons_zero, List.set_cons_succ]
      refine' lexW_call (by rfl) (by rfl) (fun W hW => ?_) (fun W hW => ?_) ?_
      rotate_left 3
      · go_simp <;> first | with_reducible rfl | exact ⟨rfl, rfl⟩
      · with_reducible exact K3.out W
      simp only [Act.put, List.setIfInBounds_toArray, List.set_cons_zero, List.set_cons_succ]
      refine lexW_value (v := ?_) (by rfl) (by rfl) (fun W hW => ?_) ?_
      rotate_left
      · have l1 := run_loadFe (hW.get (g := w.heap.size) (x := a) (by simp)); go_simp <;> with_reducible rfl
      simp only [Act.put, List.setIfInBounds_toArray, List.set_cons_zero, List.set_cons_succ]
      refine' lexW_call (by rfl) (by rfl) (fun W hW => ?_) (fun W hW => ?_) ?_
      rotate_left 3
      · go_simp <;> first | with_reducible rfl | exact ⟨rfl, rfl⟩
      · with_reducible exact K4.out W
      simp only [Act.put, List.setIfInBounds_toArray, List.set_cons_zero, List.set_cons_succ]
      refine lexW_value (v := ?_) (by rfl) (by rfl) (fun W hW => ?_) ?_
      rotate_left
      · skip; go_simp <;> with_reducible rfl
      simp only [Act.put, List.setIfInBounds_toArray, List.set_cons_zero, List.set_cons_succ]
      refine lexW_value (v := ?_) (by rfl) (by rfl) (fun W hW => ?_) ?_
      rotate_left
      · skip; go_simp <;> with_reducible rfl
      simp only [Act.put, List.setIfInBounds_toArray, List.set_cons_zero, List.set_cons_succ]
      refine lexW_value (v := ?_) (by rfl) (by rfl) (fun W hW => ?_) ?_
      rotate_left
      · have l1 := run_loadFe (hW.get (g := w.heap.size) (x := a) (by simp)); go_simp <;> with_reducible rfl
      simp only [Act.put, List.setIfInBounds_toArray, List.set_cons_zero, List.set_cons_succ]
      refine lexW_value (v := ?_) (by rfl) (by rfl) (fun W hW => ?_) ?_
      rotate_left
      · have l1 := run_loadFe (hW.get (g := w.heap.size + 1) (x := b) (by simp)); go_simp <;> with_reducible rfl
      simp only [Act.put, List.setIfInBounds_toArray, List.set_cons_zero, List.set_cons_succ]
      refine' lexW_call (by rfl) (by rfl) (fun W hW => ?_) (fun W hW => ?_) ?_
      rotate_left 3
      · go_simp <;> first | with_reducible rfl | exact ⟨rfl, rfl⟩
      · with_reducible exact K5.out W
      simp only [Act.put, List.setIfInBounds_toArray, List.set_cons_zero, List.set_cons_succ]
      refine' lexW_call (by rfl) (by rfl) (fun W hW => ?_) (fun W hW => ?_) ?_
      rotate_left 3
      · go_simp <;> first | with_reducible rfl | exact ⟨rfl, rfl⟩
      · with_reducible exact K6.out W
      simp only [Act.put, List.setIfInBounds_toArray, List.set_cons_zero, List.set_cons_succ]
      refine lexW_value (v := ?_) (by rfl) (by rfl) (fun W hW => ?_) ?_
      rotate_left
      · have l1 := run_loadFe (hW.get (g := g6) (x := x.val) (by simp)); go_simp <;> with_reducible rfl
      simp only [Act.put, List.setIfInBounds_toArray, List.set_cons_zero, List.set_cons_succ]
      refine lexW_value (v := ?_) (by rfl) (by rfl) (fun W hW => ?_) ?_
      rotate_left
      · have l1 := run_loadFe (hW.get (g := g7) (x := y.val) (by simp)); go_simp <;> with_reducible rfl
      simp only [Act.put, List.setIfInBounds_toArray, List.set_cons_zero, List.set_cons_succ]
      refine' lexW_call (by rfl) (by rfl) (fun W hW => ?_) (fun W hW => ?_) ?_
      rotate_left 3
      · go_simp <;> first | with_reducible rfl | exact ⟨rfl, rfl⟩
      · with_reducible exact K7.out W
      simp only [Act.put, List.setIfInBounds_toArray, List.set_cons_zero, List.set_cons_succ]
      refine lexW_value (v := ?_) (by rfl) (by rfl) (fun W hW => ?_) ?_
      rotate_left
      · skip; go_simp <;> with_reducible rfl
      simp only [Act.put, List.setIfInBounds_toArray, List.set_cons_zero, List.set_cons_succ]
      refine lexW_value (v := ?_) (by rfl) (by rfl) (fun W hW => ?_) ?_
      rotate_left
      · skip; go_simp <;> with_reducible rfl
      simp only [Act.put, List.setIfInBounds_toArray, List.set_cons_zero, List.set_cons_succ]
      refine lexW_value (v := ?_) (by rfl) (by rfl) (fun W hW => ?_) ?_
      rotate_left
      · skip; go_simp <;> with_reducible rfl
      simp only [Act.put, List.setIfInBounds_toArray, List.set_cons_zero, List.set_cons_succ]
      refine lexW_value (v := ?_) (by rfl) (by rfl) (fun W hW => ?_) ?_
      rotate_left
      · have l1 := run_loadFe (hW.get (g := w.heap.size) (x := a) (by simp)); go_simp <;> with_reducible rfl
      simp only [Act.put, List.setIfInBounds_toArray, List.set_cons_zero, List.set_cons_succ]
      refine lexW_value (v := ?_) (by rfl) (by rfl) (fun W hW => ?_) ?_
      rotate_left
      · have l1 := run_loadFe (hW.get (g := w.heap.size + 1) (x := b) (by simp)); go_simp <;> with_reducible rfl
      simp only [Act.put, List.setIfInBounds_toArray, List.set_cons_zero, List.set_cons_succ]
      refine' lexW_call (by rfl) (by rfl) (fun W hW => ?_) (fun W hW => ?_) ?_
      rotate_left 3
      · go_simp <;> first | with_reducible rfl | exact ⟨rfl, rfl⟩
      · with_reducible exact K5.out W
      simp only [Act.put, List.setIfInBounds_toArray, List.set_cons_zero, List.set_cons_succ]
      refine lexW_value (v := ?_) (by rfl) (by rfl) (fun W hW => ?_) ?_
      rotate_left
      · skip; go_simp <;> with_reducible rfl
      simp only [Act.put, List.setIfInBounds_toArray, List.set_cons_zero, List.set_cons_succ]
      refine lexW_value (v := ?_) (by rfl) (by rfl) (fun W hW => ?_) ?_
      rotate_left
      · skip; go_simp <;> with_reducible rfl
      simp only [Act.put, List.setIfInBounds_toArray, List.set_cons_zero, List.set_cons_succ]
      refine lexW_value (v := ?_) (by rfl) (by rfl) (fun W hW => ?_) ?_
      rotate_left
      · skip; go_simp <;> with_reducible rfl
      simp only [Act.put, List.setIfInBounds_toArray, List.set_cons_zero, List.set_cons_succ]
      refine lexW_value (v := ?_) (by rfl) (by rfl) (fun W hW => ?_) ?_
      rotate_left
      · skip; go_simp <;> with_reducible rfl
      simp only [Act.put, List.setIfInBounds_toArray, List.set_cons_zero, List.set_cons_succ]
      refine lexW_value (v := ?_) (by rfl) (by rfl) (fun W hW => ?_) ?_
      rotate_left
      · skip; go_simp <;> with_reducible rfl
      simp only [Act.put, List.setIfInBounds_toArray, List.set_cons_zero, List.set_cons_succ]
      refine lexW_nil (fun b8 W8 F8 E8 => ?_)
      obtain rfl := lexEnd_none E8
      go_wp2
      go_ret
      exact ⟨rfl, F8.below⟩
end
end Go.Proofs.YtcidbiceeinglaaDoor
