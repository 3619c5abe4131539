/-
  FieldSquares: products of squares have roots, of two numbers one without a root their product has none, and of two without one it has. Whatever both are.
-/
import Derived.Test.YtcidbiceeinglaaDoorFStores
namespace Go.Proofs.YtcidbiceeinglaaDoor
open Go.RowKit

section
attribute [local go_sem ↓] load_fe

set_option maxRecDepth 100000 in
set_option maxHeartbeats 4000000 in
theorem FieldSquares_any (a b : Nat) (w : World) (ha : a < big) (hb : b < big) (L0 : Laid w) :
    Calls Tryd.prog 8 #[fev a, fev b] w fun e w' => e = .returned (.bool true) ∧ Below w.heap.size w w' := by
  have hsz0 := L0.size
  have LK : Hid (∀ W, Below w.heap.size w W → Laid W) := Lib.hid fun W hb => L0.keep hb hsz0
  have AW : Hid (∀ W, Laid W → Calls Tryd.prog 9 #[] W fun e w' => e = .returned (.bool true) ∧ Below W.heap.size W w') := Lib.hid fun W L => awake_any W L
  obtain ⟨fa, hfa⟩ : ∃ f, f = toF a := ⟨_, rfl⟩
  obtain ⟨fb, hfb⟩ : ∃ f, f = toF b := ⟨_, rfl⟩
  obtain ⟨p, hp⟩ : ∃ zz : F, zz = fa * fb := ⟨_, rfl⟩
  obtain ⟨rx, hrx⟩ : ∃ zz : F, zz = (froot fa 1).1 := ⟨_, rfl⟩
  obtain ⟨ry, hry⟩ : ∃ zz : F, zz = (froot fb 1).1 := ⟨_, rfl⟩
  obtain ⟨x, hx⟩ : ∃ zz : F, zz = (froot p 1).1 := ⟨_, rfl⟩
  obtain ⟨xx, hxx⟩ : ∃ zz : F, zz = x * x := ⟨_, rfl⟩
  obtain ⟨pa, hpa⟩ : ∃ zz, zz = (froot fa 1).2 := ⟨_, rfl⟩
  obtain ⟨pb, hpb⟩ : ∃ zz, zz = (froot fb 1).2 := ⟨_, rfl⟩
  obtain ⟨bo, hbo⟩ : ∃ zz, zz = (froot p 1).2 := ⟨_, rfl⟩
  have K5 : Hid (∀ W, Calls Tryd.prog 14 #[.agg ((lims a).map nv).toArray, .agg ((lims b).map nv).toArray] W fun e w' => e = .returned (.agg ((lims p.val).map nv).toArray) ∧ Below W.heap.size W w') := Lib.hid fun W => by
    have h := Mul_any a b W ha hb
    simp only [← hfa, ← hfb] at h
    rw [show fa * fb = p by grind] at h
    exact h
  have K7 : Hid (∀ W, Calls Tryd.prog 14 #[.agg ((lims x.val).map nv).toArray, .agg ((lims x.val).map nv).toArray] W fun e w' => e = .returned (.agg ((lims xx.val).map nv).toArray) ∧ Below W.heap.size W w') := Lib.hid fun W => by
    have h := Mul_any x.val x.val W (F.lt_big _) (F.lt_big _)
    simp only [toF_of] at h
    rw [show x * x = xx by grind] at h
    exact h
  have K2 : Hid (∀ W, Laid W → Calls Tryd.prog 27 #[.agg ((lims a).map nv).toArray, .agg ((lims 1).map nv).toArray] W fun e w' => e = .returned (.tuple #[.agg ((lims rx.val).map nv).toArray, .bool pa]) ∧ Below W.heap.size W w') := Lib.hid fun W L => by
    have h := Root_any a 1 W ha (by decide) L
    rw [← hfa, toF_one', ← hrx, ← hpa] at h
    exact h
  have K3 : Hid (∀ W, Laid W → Calls Tryd.prog 27 #[.agg ((lims b).map nv).toArray, .agg ((lims 1).map nv).toArray] W fun e w' => e = .returned (.tuple #[.agg ((lims ry.val).map nv).toArray, .bool pb]) ∧ Below W.heap.size W w') := Lib.hid fun W L => by
    have h := Root_any b 1 W hb (by decide) L
    rw [← hfb, toF_one', ← hry, ← hpb] at h
    exact h
  have K4 : Hid (∀ W, Laid W → Calls Tryd.prog 27 #[.agg ((lims p.val).map nv).toArray, .agg ((lims 1).map nv).toArray] W fun e w' => e = .returned (.tuple #[.agg ((lims x.val).map nv).toArray, .bool bo]) ∧ Below W.heap.size W w') := Lib.hid fun W L => by
    have h := Root_any p.val 1 W (F.lt_big _) (by decide) L
    rw [toF_of, toF_one', ← hx, ← hbo] at h
    exact h
  have SM : Hid (∀ W, Calls Tryd.prog 23 #[.agg ((lims xx.val).map nv).toArray, .agg ((lims p.val).map nv).toArray] W fun e w' => e = .returned (.bool (decide (xx = p))) ∧ Below W.heap.size W w') := Lib.hid fun W => by
    have h := Same_any xx.val p.val W (F.lt_big _) (F.lt_big _)
    rw [toF_of, toF_of] at h
    exact h
  have HB : Hid (bo = (decide (fa = 0 ∨ fb = 0) || (pa == pb))) := Lib.hid (by rw [hbo, hp, hpa, hpb]; exact froot_both fa fb)
  have HX : Hid (bo = true → xx = p) := Lib.hid fun h => by
    have := (froot_sol (hbo.symm.trans h)).1
    rw [F.omul, ← hx, ← hxx] at this
    exact this
  have S1 : ∀ W, Calls Tryd.prog 23 #[.agg ((lims a).map nv).toArray, .agg #[.int .u64 0, .int .u64 0, .int .u64 0, .int .u64 0]] W fun e w' => e = .returned (.bool (decide (fa = 0))) ∧ Below W.heap.size W w' := fun W => by
    have h := Same_any a 0 W ha (by decide)
    rw [toF_zero', ← hfa, ← lit_e0] at h
    exact h
  have S2 : ∀ W, Calls Tryd.prog 23 #[.agg ((lims b).map nv).toArray, .agg #[.int .u64 0, .int .u64 0, .int .u64 0, .int .u64 0]] W fun e w' => e = .returned (.bool (decide (fb = 0))) ∧ Below W.heap.size W w' := fun W => by
    have h := Same_any b 0 W hb (by decide)
    rw [toF_zero', ← hfb, ← lit_e0] at h
    exact h
  clear L0 hsz0 hfa hfb ha hb hp hrx hry hx hxx hpa hpb hbo
  obtain ⟨bA, bB, bb, _⟩ := fe_start2 w a b _ _ rfl rfl
  have F0 := Bl.two bA bB bb
  clear bA bB bb
  rw [fev_eq, fev_eq]
  go_enter Tryd.func8, Tryd.ntmps8
  go_upto_region 1 with (fail)
  generalize ((w.alloc (.cells ((lims a).map nv).toArray 24)).alloc (.cells ((lims b).map nv).toArray 24)) = wv at *
  have qs := fun x W => eql_same x W
  have gf := fun x y c d W => run_guard_fe x y c d W
  go_upto_region 2 with (first
    | (go_at_call 9
       with_reducible refine (AW.out _ (LK.out _ F0.below)).mono ?_
       rintro e w1 ⟨rfl, hb1⟩
       have F1 := Bl.stay _ _ F0 hb1)
    | fail)
  clear F0 hb1
  have F1a := Bl.stay _ _ F1 ((Below.refl _ w1).alloc (Nat.le_refl _) (.cells #[.int .u64 0, .int .u64 0, .int .u64 0, .int .u64 0] 24))
  have z1 := zero_new w1
  go_upto_region 3 with (first
    | (with_reducible refine wpList_store_n rfl 24 (.tmp 6) (.tmp 15) rfl w1.heap.size (lims 1) 4 rfl (by with_unfolding_all exact lit_e1) rfl (lims 0) (by with_unfolding_all exact z1) Tryd.infoFe rfl w.heap.size w (by with_unfolding_all exact F1a.below) F1.below.size ?_
       intro w2 H2 o2 s2 b2
       have F3 := Bl.add (by with_unfolding_all exact F1a) F1.len H2 o2 b2
       clear s2)
    | fail)
  have hg1 := F1.len
  clear F1a z1 o2 H2 b2 F1
  generalize w1.heap.size = g6 at *
  have hL0 := F3.get (g := w.heap.size) (x := a) (by simp)
  have hL1 := F3.get (g := g6) (x := 1) (by simp)
  go_upto_region 4 with (first
    | (with_reducible refine wpList_load_n rfl 24 (.tmp 2) rfl w.heap.size rfl (lims a) 4 hL0 rfl Tryd.underlying24 Tryd.infoFe ?_)
    | (with_reducible refine wpList_load_n rfl 24 (.tmp 6) rfl g6 rfl (lims 1) 4 hL1 rfl Tryd.underlying24 Tryd.infoFe ?_)
    | (go_at_call 27
       with_reducible refine (K2.out _ (LK.out _ F3.below)).mono ?_
       rintro e w4 ⟨rfl, hb4⟩
       have F4 := Bl.stay _ _ F3 hb4
       have F4a := Bl.stay _ _ F4 ((Below.refl _ w4).alloc (Nat.le_refl _) (.cells #[.int .u64 0, .int .u64 0, .int .u64 0, .int .u64 0] 24))
       have z4 := zero_new w4)
    | (with_reducible refine wpList_store_n rfl 24 (.tmp 7) (.tmp 20) rfl w4.heap.size (lims rx.val) 4 rfl rfl rfl (lims 0) (by with_unfolding_all exact z4) Tryd.infoFe rfl w.heap.size w (by with_unfolding_all exact F4a.below) F4.below.size ?_
       intro w5 H5 o5 s5 b5
       have F5 := Bl.add (by with_unfolding_all exact F4a) F4.len H5 o5 b5
       clear s5)
    | fail)
  have hg4 := F4.len
  clear hL0 hL1 F4a z4 o5 H5 b5 hb4 F3 F4
  generalize w4.heap.size = g7 at *
  have hL0 := F5.get (g := w.heap.size + 1) (x := b) (by simp)
  have hL1 := F5.get (g := g6) (x := 1) (by simp)
  go_upto_region 5 with (first
    | (with_reducible refine wpList_load_n rfl 24 (.tmp 3) rfl (w.heap.size + 1) rfl (lims b) 4 hL0 rfl Tryd.underlying24 Tryd.infoFe ?_)
    | (with_reducible refine wpList_load_n rfl 24 (.tmp 6) rfl g6 rfl (lims 1) 4 hL1 rfl Tryd.underlying24 Tryd.infoFe ?_)
    | (go_at_call 27
       with_reducible refine (K3.out _ (LK.out _ F5.below)).mono ?_
       rintro e w6 ⟨rfl, hb6⟩
       have F6 := Bl.stay _ _ F5 hb6
       have F6a := Bl.stay _ _ F6 ((Below.refl _ w6).alloc (Nat.le_refl _) (.cells #[.int .u64 0, .int .u64 0, .int .u64 0, .int .u64 0] 24))
       have z6 := zero_new w6)
    | (with_reducible refine wpList_store_n rfl 24 (.tmp 9) (.tmp 26) rfl w6.heap.size (lims ry.val) 4 rfl rfl rfl (lims 0) (by with_unfolding_all exact z6) Tryd.infoFe rfl w.heap.size w (by with_unfolding_all exact F6a.below) F6.below.size ?_
       intro w7 H7 o7 s7 b7
       have F7 := Bl.add (by with_unfolding_all exact F6a) F6.len H7 o7 b7
       clear s7)
    | fail)
  have hg6 := F6.len
  clear hL0 hL1 F6a z6 o7 H7 b7 hb6 F5 F6
  generalize w6.heap.size = g9 at *
  try dsimp only [Act.put]
  go_cut [11, 12] (fun vp vb wx => vb = .bool bo ∧ ∃ g, vp = .pointer (some ⟨g, 0, none⟩) ∧ Bl w (g + 1) [(g, x.val), (g9, ry.val), (g7, rx.val), (g6, 1), (w.heap.size, a), (w.heap.size + 1, b)] wx)
  case first =>
    refine wp_region_lexS 10 9 8 11 (MadeFe (g9 + 1) 0) (HeldFe (g9 + 1) x.val) (Bl w (g9 + 1) [(g9, ry.val), (g7, rx.val), (g6, 1), (w.heap.size, a), (w.heap.size + 1, b)]) (by kernel_rfl) (by kernel_rfl) F7.drew Bl.stay MadeFe.stayS HeldFe.stay (made_feS Bl.size rfl) ?_
    simp only [List.take_succ_cons, List.take_zero, List.drop_succ_cons, List.drop_zero]
    refine lexS_value (v := ?_) (by rfl) (by rfl) (by rfl) (fun W hW => ?_) ?_
    rotate_left
    · have l1 := run_loadFe (hW.get (g := w.heap.size) (x := a) (by simp)); go_simp <;> with_reducible rfl
    simp only [Act.put, List.setIfInBounds_toArray, List.set_cons_zero, List.set_cons_succ]
    refine lexS_value (v := ?_) (by rfl) (by rfl) (by rfl) (fun W hW => ?_) ?_
    rotate_left
    · have l1 := run_loadFe (hW.get (g := w.heap.size + 1) (x := b) (by simp)); go_simp <;> with_reducible rfl
    simp only [Act.put, List.setIfInBounds_toArray, List.set_cons_zero, List.set_cons_succ]
    refine' lexS_call (by rfl) (by rfl) (by rfl) (fun W hW => ?_) (fun W hW => ?_) ?_
    rotate_left 3
    · go_simp <;> first | with_reducible rfl | exact ⟨rfl, rfl⟩
    · with_reducible exact K5.out W
    simp only [Act.put, List.setIfInBounds_toArray, List.set_cons_zero, List.set_cons_succ]
    refine lexS_value (v := ?_) (by rfl) (by rfl) (by rfl) (fun W hW => ?_) ?_
    rotate_left
    · have l1 := run_loadFe (hW.get (g := g6) (x := 1) (by simp)); go_simp <;> with_reducible rfl
    simp only [Act.put, List.setIfInBounds_toArray, List.set_cons_zero, List.set_cons_succ]
    refine' lexS_call (by rfl) (by rfl) (by rfl) (fun W hW => ?_) (fun W hW => ?_) ?_
    rotate_left 3
    · go_simp <;> first | with_reducible rfl | exact ⟨rfl, rfl⟩
    · with_reducible exact K4.out W (LK.out _ hW.below)
    simp only [Act.put, List.setIfInBounds_toArray, List.set_cons_zero, List.set_cons_succ]
    refine lexS_value (v := ?_) (by rfl) (by rfl) (by rfl) (fun W hW => ?_) ?_
    rotate_left
    · skip; go_simp <;> with_reducible rfl
    simp only [Act.put, List.setIfInBounds_toArray, List.set_cons_zero, List.set_cons_succ]
    refine lexS_value (v := ?_) (by rfl) (by rfl) (by rfl) (fun W hW => ?_) ?_
    rotate_left
    · skip; go_simp <;> with_reducible rfl
    simp only [Act.put, List.setIfInBounds_toArray, List.set_cons_zero, List.set_cons_succ]
    refine lexS_value (v := ?_) (by rfl) (by rfl) (by rfl) (fun W hW => ?_) ?_
    rotate_left
    · skip; go_simp <;> with_reducible rfl
    simp only [Act.put, List.setIfInBounds_toArray, List.set_cons_zero, List.set_cons_succ]
    refine lexS_free (by rfl) ?_
    refine lexS_store (by rfl) (by rfl) (stores_fe rfl (by rfl) (by simp) (by rfl)) ?_
    simp only [Act.put]
    refine lexS_nil (fun W8 v8 F8 E8 => ?_)
    obtain ⟨g, rfl, hg, hX⟩ := E8
    simp only [List.setIfInBounds_toArray, List.set_cons_zero, List.set_cons_succ]
    go_wp2_with fail
    go_meet
    exact ⟨rfl, g, rfl, F8.addHeld hg hX⟩
  case rest =>
    obtain ⟨rfl, g11, rfl, F9⟩ := hcut
    clear F7
    by_cases hza : fa = 0
    · obtain rfl : bo = true := by rw [HB.out, decide_eq_true (Or.inl hza)]; rfl
      simp only [decide_eq_true hza] at S1
      clear hza HB
      have hxx := HX.out rfl
      have SMt : Hid (∀ W, Calls Tryd.prog 23 #[.agg ((lims xx.val).map nv).toArray, .agg ((lims p.val).map nv).toArray] W fun e w' => e = .returned (.bool true) ∧ Below W.heap.size W w') := Lib.hid fun W => by
        have h := SM.out W
        rw [decide_eq_true hxx] at h
        exact h
      clear hxx HX SM
      have T1 := Lib.hid S1
      clear S1
      have T2 := Lib.hid S2
      clear S2
      have hA := F9.get (g := w.heap.size) (x := a) (by simp)
      go_upto_region 7 with (first
        | (with_reducible refine wpList_load_n rfl 24 (.tmp 2) rfl w.heap.size rfl (lims a) 4 hA rfl Tryd.underlying24 Tryd.infoFe ?_)
        | (go_at_call 23
           with_reducible refine (T1.out _).mono ?_
           rintro e w10 ⟨rfl, hb10⟩
           have F10 := Bl.stay _ _ F9 hb10
           clear hb10)
        | fail)
      refine wp_region_lex 24 (fun _ => false) (MadeFe 0) (Bl w (g11 + 1) [(g11, x.val), (g9, ry.val), (g7, rx.val), (g6, 1), (w.heap.size, a), (w.heap.size + 1, b)]) (by kernel_rfl) (by kernel_rfl) F10.drew Bl.stay MadeFe.stay lex_none ?_
      simp only [List.take_succ_cons, List.take_zero, List.drop_succ_cons, List.drop_zero]
      refine lexW_value (v := ?_) (by rfl) (by rfl) (fun W hW => ?_) ?_
      rotate_left
      · skip; go_simp <;> with_reducible rfl
      simp only [Act.put, List.setIfInBounds_toArray, List.set_cons_zero, List.set_cons_succ]
      refine lexW_value (v := ?_) (by rfl) (by rfl) (fun W hW => ?_) ?_
      rotate_left
      · skip; go_simp <;> with_reducible rfl
      simp only [Act.put, List.setIfInBounds_toArray, List.set_cons_zero, List.set_cons_succ]
      refine lexW_value (v := ?_) (by rfl) (by rfl) (fun W hW => ?_) ?_
      rotate_left
      · skip; go_simp <;> with_reducible rfl
      simp only [Act.put, List.setIfInBounds_toArray, List.set_cons_zero, List.set_cons_succ]
      refine lexW_value (v := ?_) (by rfl) (by rfl) (fun W hW => ?_) ?_
      rotate_left
      · skip; go_simp <;> with_reducible rfl
      simp only [Act.put, List.setIfInBounds_toArray, List.set_cons_zero, List.set_cons_succ]
      refine lexW_value (v := ?_) (by rfl) (by rfl) (fun W hW => ?_) ?_
      rotate_left
      · skip; go_simp <;> with_reducible rfl
      simp only [Act.put, List.setIfInBounds_toArray, List.set_cons_zero, List.set_cons_succ]
      refine lexW_off (by rfl) (by rfl) ?_
      simp only [Act.put, List.setIfInBounds_toArray, List.set_cons_zero, List.set_cons_succ]
      refine lexW_off (by rfl) (by rfl) ?_
      simp only [Act.put, List.setIfInBounds_toArray, List.set_cons_zero, List.set_cons_succ]
      refine lexW_off (by rfl) (by rfl) ?_
      simp only [Act.put, List.setIfInBounds_toArray, List.set_cons_zero, List.set_cons_succ]
      refine lexW_value (v := ?_) (by rfl) (by rfl) (fun W hW => ?_) ?_
      rotate_left
      · skip; go_simp <;> with_reducible rfl
      simp only [Act.put, List.setIfInBounds_toArray, List.set_cons_zero, List.set_cons_succ]
      refine lexW_value (v := ?_) (by rfl) (by rfl) (fun W hW => ?_) ?_
      rotate_left
      · skip; go_simp <;> with_reducible rfl
      simp only [Act.put, List.setIfInBounds_toArray, List.set_cons_zero, List.set_cons_succ]
      refine lexW_value (v := ?_) (by rfl) (by rfl) (fun W hW => ?_) ?_
      rotate_left
      · skip; go_simp <;> with_reducible rfl
      simp only [Act.put, List.setIfInBounds_toArray, List.set_cons_zero, List.set_cons_succ]
      refine lexW_value (v := ?_) (by rfl) (by rfl) (fun W hW => ?_) ?_
      rotate_left
      · skip; go_simp <;> with_reducible rfl
      simp only [Act.put, List.setIfInBounds_toArray, List.set_cons_zero, List.set_cons_succ]
      refine lexW_value (v := ?_) (by rfl) (by rfl) (fun W hW => ?_) ?_
      rotate_left
      · skip; go_simp <;> with_reducible rfl
      simp only [Act.put, List.setIfInBounds_toArray, List.set_cons_zero, List.set_cons_succ]
      refine lexW_value (v := ?_) (by rfl) (by rfl) (fun W hW => ?_) ?_
      rotate_left
      · skip; go_simp <;> with_reducible rfl
      simp only [Act.put, List.setIfInBounds_toArray, List.set_cons_zero, List.set_cons_succ]
      refine lexW_value (v := ?_) (by rfl) (by rfl) (fun W hW => ?_) ?_
      rotate_left
      · skip; go_simp <;> with_reducible rfl
      simp only [Act.put, List.setIfInBounds_toArray, List.set_cons_zero, List.set_cons_succ]
      refine lexW_value (v := ?_) (by rfl) (by rfl) (fun W hW => ?_) ?_
      rotate_left
      · have l1 := run_loadFe (hW.get (g := g11) (x := x.val) (by simp)); go_simp <;> with_reducible rfl
      simp only [Act.put, List.setIfInBounds_toArray, List.set_cons_zero, List.set_cons_succ]
      refine lexW_value (v := ?_) (by rfl) (by rfl) (fun W hW => ?_) ?_
      rotate_left
      · have l1 := run_loadFe (hW.get (g := g11) (x := x.val) (by simp)); go_simp <;> with_reducible rfl
      simp only [Act.put, List.setIfInBounds_toArray, List.set_cons_zero, List.set_cons_succ]
      refine' lexW_call (by rfl) (by rfl) (fun W hW => ?_) (fun W hW => ?_) ?_
      rotate_left 3
      · go_simp <;> first | with_reducible rfl | exact ⟨rfl, rfl⟩
      · with_reducible exact K7.out W
      simp only [Act.put, List.setIfInBounds_toArray, List.set_cons_zero, List.set_cons_succ]
      refine lexW_value (v := ?_) (by rfl) (by rfl) (fun W hW => ?_) ?_
      rotate_left
      · have l1 := run_loadFe (hW.get (g := w.heap.size) (x := a) (by simp)); go_simp <;> with_reducible rfl
      simp only [Act.put, List.setIfInBounds_toArray, List.set_cons_zero, List.set_cons_succ]
      refine lexW_value (v := ?_) (by rfl) (by rfl) (fun W hW => ?_) ?_
      rotate_left
      · have l1 := run_loadFe (hW.get (g := w.heap.size + 1) (x := b) (by simp)); go_simp <;> with_reducible rfl
      simp only [Act.put, List.setIfInBounds_toArray, List.set_cons_zero, List.set_cons_succ]
      refine' lexW_call (by rfl) (by rfl) (fun W hW => ?_) (fun W hW => ?_) ?_
      rotate_left 3
      · go_simp <;> first | with_reducible rfl | exact ⟨rfl, rfl⟩
      · with_reducible exact K5.out W
      simp only [Act.put, List.setIfInBounds_toArray, List.set_cons_zero, List.set_cons_succ]
      refine' lexW_call (by rfl) (by rfl) (fun W hW => ?_) (fun W hW => ?_) ?_
      rotate_left 3
      · go_simp <;> first | with_reducible rfl | exact ⟨rfl, rfl⟩
      · with_reducible exact SMt.out W
      simp only [Act.put, List.setIfInBounds_toArray, List.set_cons_zero, List.set_cons_succ]
      refine lexW_value (v := ?_) (by rfl) (by rfl) (fun W hW => ?_) ?_
      rotate_left
      · skip; go_simp <;> with_reducible rfl
      simp only [Act.put, List.setIfInBounds_toArray, List.set_cons_zero, List.set_cons_succ]
      refine lexW_value (v := ?_) (by rfl) (by rfl) (fun W hW => ?_) ?_
      rotate_left
      · skip; go_simp <;> with_reducible rfl
      simp only [Act.put, List.setIfInBounds_toArray, List.set_cons_zero, List.set_cons_succ]
      refine lexW_nil (fun b12 W12 F12 E12 => ?_)
      obtain rfl := lexEnd_none E12
      go_wp2
      go_ret
      exact ⟨rfl, F12.below⟩
    · by_cases hzb : fb = 0
      · obtain rfl : bo = true := by rw [HB.out, decide_eq_true (Or.inr hzb)]; rfl
        simp only [decide_eq_false hza] at S1
        simp only [decide_eq_true hzb] at S2
        clear hza hzb HB
        have hxx := HX.out rfl
        have SMt : Hid (∀ W, Calls Tryd.prog 23 #[.agg ((lims xx.val).map nv).toArray, .agg ((lims p.val).map nv).toArray] W fun e w' => e = .returned (.bool true) ∧ Below W.heap.size W w') := Lib.hid fun W => by
          have h := SM.out W
          rw [decide_eq_true hxx] at h
          exact h
        clear hxx HX SM
        have T1 := Lib.hid S1
        clear S1
        have T2 := Lib.hid S2
        clear S2
        have hA := F9.get (g := w.heap.size) (x := a) (by simp)
        go_upto_region 7 with (first
          | (with_reducible refine wpList_load_n rfl 24 (.tmp 2) rfl w.heap.size rfl (lims a) 4 hA rfl Tryd.underlying24 Tryd.infoFe ?_)
          | (go_at_call 23
             with_reducible refine (T1.out _).mono ?_
             rintro e w10 ⟨rfl, hb10⟩
             have F10 := Bl.stay _ _ F9 hb10
             have l2 := run_loadFe (F10.get (g := w.heap.size + 1) (x := b) (by simp))
             clear hb10)
          | (go_at_call 23
             with_reducible refine (T2.out _).mono ?_
             rintro e w11 ⟨rfl, hb11⟩
             have F11 := Bl.stay _ _ F10 hb11
             clear hb11)
          | fail)
        refine wp_region_lex 24 (fun _ => false) (MadeFe 0) (Bl w (g11 + 1) [(g11, x.val), (g9, ry.val), (g7, rx.val), (g6, 1), (w.heap.size, a), (w.heap.size + 1, b)]) (by kernel_rfl) (by kernel_rfl) F11.drew Bl.stay MadeFe.stay lex_none ?_
        simp only [List.take_succ_cons, List.take_zero, List.drop_succ_cons, List.drop_zero]
        refine lexW_value (v := ?_) (by rfl) (by rfl) (fun W hW => ?_) ?_
        rotate_left
        · skip; go_simp <;> with_reducible rfl
        simp only [Act.put, List.setIfInBounds_toArray, List.set_cons_zero, List.set_cons_succ]
        refine lexW_value (v := ?_) (by rfl) (by rfl) (fun W hW => ?_) ?_
        rotate_left
        · skip; go_simp <;> with_reducible rfl
        simp only [Act.put, List.setIfInBounds_toArray, List.set_cons_zero, List.set_cons_succ]
        refine lexW_value (v := ?_) (by rfl) (by rfl) (fun W hW => ?_) ?_
        rotate_left
        · skip; go_simp <;> with_reducible rfl
        simp only [Act.put, List.setIfInBounds_toArray, List.set_cons_zero, List.set_cons_succ]
        refine lexW_value (v := ?_) (by rfl) (by rfl) (fun W hW => ?_) ?_
        rotate_left
        · skip; go_simp <;> with_reducible rfl
        simp only [Act.put, List.setIfInBounds_toArray, List.set_cons_zero, List.set_cons_succ]
        refine lexW_value (v := ?_) (by rfl) (by rfl) (fun W hW => ?_) ?_
        rotate_left
        · skip; go_simp <;> with_reducible rfl
        simp only [Act.put, List.setIfInBounds_toArray, List.set_cons_zero, List.set_cons_succ]
        refine lexW_off (by rfl) (by rfl) ?_
        simp only [Act.put, List.setIfInBounds_toArray, List.set_cons_zero, List.set_cons_succ]
        refine lexW_off (by rfl) (by rfl) ?_
        simp only [Act.put, List.setIfInBounds_toArray, List.set_cons_zero, List.set_cons_succ]
        refine lexW_off (by rfl) (by rfl) ?_
        simp only [Act.put, List.setIfInBounds_toArray, List.set_cons_zero, List.set_cons_succ]
        refine lexW_value (v := ?_) (by rfl) (by rfl) (fun W hW => ?_) ?_
        rotate_left
        · skip; go_simp <;> with_reducible rfl
        simp only [Act.put, List.setIfInBounds_toArray, List.set_cons_zero, List.set_cons_succ]
        refine lexW_value (v := ?_) (by rfl) (by rfl) (fun W hW => ?_) ?_
        rotate_left
        · skip; go_simp <;> with_reducible rfl
        simp only [Act.put, List.setIfInBounds_toArray, List.set_cons_zero, List.set_cons_succ]
        refine lexW_value (v := ?_) (by rfl) (by rfl) (fun W hW => ?_) ?_
        rotate_left
        · skip; go_simp <;> with_reducible rfl
        simp only [Act.put, List.setIfInBounds_toArray, List.set_cons_zero, List.set_cons_succ]
        refine lexW_value (v := ?_) (by rfl) (by rfl) (fun W hW => ?_) ?_
        rotate_left
        · skip; go_simp <;> with_reducible rfl
        simp only [Act.put, List.setIfInBounds_toArray, List.set_cons_zero, List.set_cons_succ]
        refine lexW_value (v := ?_) (by rfl) (by rfl) (fun W hW => ?_) ?_
        rotate_left
        · skip; go_simp <;> with_reducible rfl
        simp only [Act.put, List.setIfInBounds_toArray, List.set_cons_zero, List.set_cons_succ]
        refine lexW_value (v := ?_) (by rfl) (by rfl) (fun W hW => ?_) ?_
        rotate_left
        · skip; go_simp <;> with_reducible rfl
        simp only [Act.put, List.setIfInBounds_toArray, List.set_cons_zero, List.set_cons_succ]
        refine lexW_value (v := ?_) (by rfl) (by rfl) (fun W hW => ?_) ?_
        rotate_left
        · skip; go_simp <;> with_reducible rfl
        simp only [Act.put, List.setIfInBounds_toArray, List.set_cons_zero, List.set_cons_succ]
        refine lexW_value (v := ?_) (by rfl) (by rfl) (fun W hW => ?_) ?_
        rotate_left
        · have l1 := run_loadFe (hW.get (g := g11) (x := x.val) (by simp)); go_simp <;> with_reducible rfl
        simp only [Act.put, List.setIfInBounds_toArray, List.set_cons_zero, List.set_cons_succ]
        refine lexW_value (v := ?_) (by rfl) (by rfl) (fun W hW => ?_) ?_
        rotate_left
        · have l1 := run_loadFe (hW.get (g := g11) (x := x.val) (by simp)); go_simp <;> with_reducible rfl
        simp only [Act.put, List.setIfInBounds_toArray, List.set_cons_zero, List.set_cons_succ]
        refine' lexW_call (by rfl) (by rfl) (fun W hW => ?_) (fun W hW => ?_) ?_
        rotate_left 3
        · go_simp <;> first | with_reducible rfl | exact ⟨rfl, rfl⟩
        · with_reducible exact K7.out W
        simp only [Act.put, List.setIfInBounds_toArray, List.set_cons_zero, List.set_cons_succ]
        refine lexW_value (v := ?_) (by rfl) (by rfl) (fun W hW => ?_) ?_
        rotate_left
        · have l1 := run_loadFe (hW.get (g := w.heap.size) (x := a) (by simp)); go_simp <;> with_reducible rfl
        simp only [Act.put, List.setIfInBounds_toArray, List.set_cons_zero, List.set_cons_succ]
        refine lexW_value (v := ?_) (by rfl) (by rfl) (fun W hW => ?_) ?_
        rotate_left
        · have l1 := run_loadFe (hW.get (g := w.heap.size + 1) (x := b) (by simp)); go_simp <;> with_reducible rfl
        simp only [Act.put, List.setIfInBounds_toArray, List.set_cons_zero, List.set_cons_succ]
        refine' lexW_call (by rfl) (by rfl) (fun W hW => ?_) (fun W hW => ?_) ?_
        rotate_left 3
        · go_simp <;> first | with_reducible rfl | exact ⟨rfl, rfl⟩
        · with_reducible exact K5.out W
        simp only [Act.put, List.setIfInBounds_toArray, List.set_cons_zero, List.set_cons_succ]
        refine' lexW_call (by rfl) (by rfl) (fun W hW => ?_) (fun W hW => ?_) ?_
        rotate_left 3
        · go_simp <;> first | with_reducible rfl | exact ⟨rfl, rfl⟩
        · with_reducible exact SMt.out W
        simp only [Act.put, List.setIfInBounds_toArray, List.set_cons_zero, List.set_cons_succ]
        refine lexW_value (v := ?_) (by rfl) (by rfl) (fun W hW => ?_) ?_
        rotate_left
        · skip; go_simp <;> with_reducible rfl
        simp only [Act.put, List.setIfInBounds_toArray, List.set_cons_zero, List.set_cons_succ]
        refine lexW_value (v := ?_) (by rfl) (by rfl) (fun W hW => ?_) ?_
        rotate_left
        · skip; go_simp <;> with_reducible rfl
        simp only [Act.put, List.setIfInBounds_toArray, List.set_cons_zero, List.set_cons_succ]
        refine lexW_nil (fun b12 W12 F12 E12 => ?_)
        obtain rfl := lexEnd_none E12
        go_wp2
        go_ret
        exact ⟨rfl, F12.below⟩
      · have hB0 : Hid (bo = (pa == pb)) := Lib.hid (by rw [HB.out, decide_eq_false (fun h => h.elim hza hzb)]; rfl)
        simp only [decide_eq_false hza] at S1
        simp only [decide_eq_false hzb] at S2
        clear hza hzb HB
        cases pa with
        | false =>
          cases pb with
          | false =>
            obtain rfl : bo = true := hB0.out
            clear hB0
            have hxx := HX.out rfl
            have SMt : Hid (∀ W, Calls Tryd.prog 23 #[.agg ((lims xx.val).map nv).toArray, .agg ((lims p.val).map nv).toArray] W fun e w' => e = .returned (.bool true) ∧ Below W.heap.size W w') := Lib.hid fun W => by
              have h := SM.out W
              rw [decide_eq_true hxx] at h
              exact h
            clear hxx HX SM
            have T1 := Lib.hid S1
            clear S1
            have T2 := Lib.hid S2
            clear S2
            have hA := F9.get (g := w.heap.size) (x := a) (by simp)
            go_upto_region 7 with (first
              | (with_reducible refine wpList_load_n rfl 24 (.tmp 2) rfl w.heap.size rfl (lims a) 4 hA rfl Tryd.underlying24 Tryd.infoFe ?_)
              | (go_at_call 23
                 with_reducible refine (T1.out _).mono ?_
                 rintro e w10 ⟨rfl, hb10⟩
                 have F10 := Bl.stay _ _ F9 hb10
                 have l2 := run_loadFe (F10.get (g := w.heap.size + 1) (x := b) (by simp))
                 clear hb10)
              | (go_at_call 23
                 with_reducible refine (T2.out _).mono ?_
                 rintro e w11 ⟨rfl, hb11⟩
                 have F11 := Bl.stay _ _ F10 hb11
                 clear hb11)
              | fail)
            refine wp_region_lex 24 (fun _ => false) (MadeFe 0) (Bl w (g11 + 1) [(g11, x.val), (g9, ry.val), (g7, rx.val), (g6, 1), (w.heap.size, a), (w.heap.size + 1, b)]) (by kernel_rfl) (by kernel_rfl) F11.drew Bl.stay MadeFe.stay lex_none ?_
            simp only [List.take_succ_cons, List.take_zero, List.drop_succ_cons, List.drop_zero]
            refine lexW_value (v := ?_) (by rfl) (by rfl) (fun W hW => ?_) ?_
            rotate_left
            · skip; go_simp <;> with_reducible rfl
            simp only [Act.put, List.setIfInBounds_toArray, List.set_cons_zero, List.set_cons_succ]
            refine lexW_value (v := ?_) (by rfl) (by rfl) (fun W hW => ?_) ?_
            rotate_left
            · skip; go_simp <;> with_reducible rfl
            simp only [Act.put, List.setIfInBounds_toArray, List.set_cons_zero, List.set_cons_succ]
            refine lexW_value (v := ?_) (by rfl) (by rfl) (fun W hW => ?_) ?_
            rotate_left
            · skip; go_simp <;> with_reducible rfl
            simp only [Act.put, List.setIfInBounds_toArray, List.set_cons_zero, List.set_cons_succ]
            refine lexW_value (v := ?_) (by rfl) (by rfl) (fun W hW => ?_) ?_
            rotate_left
            · skip; go_simp <;> with_reducible rfl
            simp only [Act.put, List.setIfInBounds_toArray, List.set_cons_zero, List.set_cons_succ]
            refine lexW_value (v := ?_) (by rfl) (by rfl) (fun W hW => ?_) ?_
            rotate_left
            · skip; go_simp <;> with_reducible rfl
            simp only [Act.put, List.setIfInBounds_toArray, List.set_cons_zero, List.set_cons_succ]
            refine lexW_value (v := ?_) (by rfl) (by rfl) (fun W hW => ?_) ?_
            rotate_left
            · skip; go_simp <;> with_reducible rfl
            simp only [Act.put, List.setIfInBounds_toArray, List.set_cons_zero, List.set_cons_succ]
            refine lexW_value (v := ?_) (by rfl) (by rfl) (fun W hW => ?_) ?_
            rotate_left
            · skip; go_simp <;> with_reducible rfl
            simp only [Act.put, List.setIfInBounds_toArray, List.set_cons_zero, List.set_cons_succ]
            refine lexW_value (v := ?_) (by rfl) (by rfl) (fun W hW => ?_) ?_
            rotate_left
            · skip; go_simp <;> with_reducible rfl
            simp only [Act.put, List.setIfInBounds_toArray, List.set_cons_zero, List.set_cons_succ]
            refine lexW_value (v := ?_) (by rfl) (by rfl) (fun W hW => ?_) ?_
            rotate_left
            · skip; go_simp <;> with_reducible rfl
            simp only [Act.put, List.setIfInBounds_toArray, List.set_cons_zero, List.set_cons_succ]
            refine lexW_value (v := ?_) (by rfl) (by rfl) (fun W hW => ?_) ?_
            rotate_left
            · skip; go_simp <;> with_reducible rfl
            simp only [Act.put, List.setIfInBounds_toArray, List.set_cons_zero, List.set_cons_succ]
            refine lexW_value (v := ?_) (by rfl) (by rfl) (fun W hW => ?_) ?_
            rotate_left
            · skip; go_simp <;> with_reducible rfl
            simp only [Act.put, List.setIfInBounds_toArray, List.set_cons_zero, List.set_cons_succ]
            refine lexW_value (v := ?_) (by rfl) (by rfl) (fun W hW => ?_) ?_
            rotate_left
            · skip; go_simp <;> with_reducible rfl
            simp only [Act.put, List.setIfInBounds_toArray, List.set_cons_zero, List.set_cons_succ]
            refine lexW_value (v := ?_) (by rfl) (by rfl) (fun W hW => ?_) ?_
            rotate_left
            · skip; go_simp <;> with_reducible rfl
            simp only [Act.put, List.setIfInBounds_toArray, List.set_cons_zero, List.set_cons_succ]
            refine lexW_value (v := ?_) (by rfl) (by rfl) (fun W hW => ?_) ?_
            rotate_left
            · skip; go_simp <;> with_reducible rfl
            simp only [Act.put, List.setIfInBounds_toArray, List.set_cons_zero, List.set_cons_succ]
            refine lexW_value (v := ?_) (by rfl) (by rfl) (fun W hW => ?_) ?_
            rotate_left
            · skip; go_simp <;> with_reducible rfl
            simp only [Act.put, List.setIfInBounds_toArray, List.set_cons_zero, List.set_cons_succ]
            refine lexW_value (v := ?_) (by rfl) (by rfl) (fun W hW => ?_) ?_
            rotate_left
            · have l1 := run_loadFe (hW.get (g := g11) (x := x.val) (by simp)); go_simp <;> with_reducible rfl
            simp only [Act.put, List.setIfInBounds_toArray, List.set_cons_zero, List.set_cons_succ]
            refine lexW_value (v := ?_) (by rfl) (by rfl) (fun W hW => ?_) ?_
            rotate_left
            · have l1 := run_loadFe (hW.get (g := g11) (x := x.val) (by simp)); go_simp <;> with_reducible rfl
            simp only [Act.put, List.setIfInBounds_toArray, List.set_cons_zero, List.set_cons_succ]
            refine' lexW_call (by rfl) (by rfl) (fun W hW => ?_) (fun W hW => ?_) ?_
            rotate_left 3
            · go_simp <;> first | with_reducible rfl | exact ⟨rfl, rfl⟩
            · with_reducible exact K7.out W
            simp only [Act.put, List.setIfInBounds_toArray, List.set_cons_zero, List.set_cons_succ]
            refine lexW_value (v := ?_) (by rfl) (by rfl) (fun W hW => ?_) ?_
            rotate_left
            · have l1 := run_loadFe (hW.get (g := w.heap.size) (x := a) (by simp)); go_simp <;> with_reducible rfl
            simp only [Act.put, List.setIfInBounds_toArray, List.set_cons_zero, List.set_cons_succ]
            refine lexW_value (v := ?_) (by rfl) (by rfl) (fun W hW => ?_) ?_
            rotate_left
            · have l1 := run_loadFe (hW.get (g := w.heap.size + 1) (x := b) (by simp)); go_simp <;> with_reducible rfl
            simp only [Act.put, List.setIfInBounds_toArray, List.set_cons_zero, List.set_cons_succ]
            refine' lexW_call (by rfl) (by rfl) (fun W hW => ?_) (fun W hW => ?_) ?_
            rotate_left 3
            · go_simp <;> first | with_reducible rfl | exact ⟨rfl, rfl⟩
            · with_reducible exact K5.out W
            simp only [Act.put, List.setIfInBounds_toArray, List.set_cons_zero, List.set_cons_succ]
            refine' lexW_call (by rfl) (by rfl) (fun W hW => ?_) (fun W hW => ?_) ?_
            rotate_left 3
            · go_simp <;> first | with_reducible rfl | exact ⟨rfl, rfl⟩
            · with_reducible exact SMt.out W
            simp only [Act.put, List.setIfInBounds_toArray, List.set_cons_zero, List.set_cons_succ]
            refine lexW_value (v := ?_) (by rfl) (by rfl) (fun W hW => ?_) ?_
            rotate_left
            · skip; go_simp <;> with_reducible rfl
            simp only [Act.put, List.setIfInBounds_toArray, List.set_cons_zero, List.set_cons_succ]
            refine lexW_value (v := ?_) (by rfl) (by rfl) (fun W hW => ?_) ?_
            rotate_left
            · skip; go_simp <;> with_reducible rfl
            simp only [Act.put, List.setIfInBounds_toArray, List.set_cons_zero, List.set_cons_succ]
            refine lexW_nil (fun b12 W12 F12 E12 => ?_)
            obtain rfl := lexEnd_none E12
            go_wp2
            go_ret
            exact ⟨rfl, F12.below⟩
          | true =>
            obtain rfl : bo = false := hB0.out
            clear hB0
            have T1 := Lib.hid S1
            clear S1
            have T2 := Lib.hid S2
            clear S2
            have hA := F9.get (g := w.heap.size) (x := a) (by simp)
            go_upto_region 7 with (first
              | (with_reducible refine wpList_load_n rfl 24 (.tmp 2) rfl w.heap.size rfl (lims a) 4 hA rfl Tryd.underlying24 Tryd.infoFe ?_)
              | (go_at_call 23
                 with_reducible refine (T1.out _).mono ?_
                 rintro e w10 ⟨rfl, hb10⟩
                 have F10 := Bl.stay _ _ F9 hb10
                 have l2 := run_loadFe (F10.get (g := w.heap.size + 1) (x := b) (by simp))
                 clear hb10)
              | (go_at_call 23
                 with_reducible refine (T2.out _).mono ?_
                 rintro e w11 ⟨rfl, hb11⟩
                 have F11 := Bl.stay _ _ F10 hb11
                 clear hb11)
              | fail)
            refine wp_region_lex 24 (fun _ => false) (MadeFe 0) (Bl w (g11 + 1) [(g11, x.val), (g9, ry.val), (g7, rx.val), (g6, 1), (w.heap.size, a), (w.heap.size + 1, b)]) (by kernel_rfl) (by kernel_rfl) F11.drew Bl.stay MadeFe.stay lex_none ?_
            simp only [List.take_succ_cons, List.take_zero, List.drop_succ_cons, List.drop_zero]
            refine lexW_value (v := ?_) (by rfl) (by rfl) (fun W hW => ?_) ?_
            rotate_left
            · skip; go_simp <;> with_reducible rfl
            simp only [Act.put, List.setIfInBounds_toArray, List.set_cons_zero, List.set_cons_succ]
            refine lexW_value (v := ?_) (by rfl) (by rfl) (fun W hW => ?_) ?_
            rotate_left
            · skip; go_simp <;> with_reducible rfl
            simp only [Act.put, List.setIfInBounds_toArray, List.set_cons_zero, List.set_cons_succ]
            refine lexW_value (v := ?_) (by rfl) (by rfl) (fun W hW => ?_) ?_
            rotate_left
            · skip; go_simp <;> with_reducible rfl
            simp only [Act.put, List.setIfInBounds_toArray, List.set_cons_zero, List.set_cons_succ]
            refine lexW_value (v := ?_) (by rfl) (by rfl) (fun W hW => ?_) ?_
            rotate_left
            · skip; go_simp <;> with_reducible rfl
            simp only [Act.put, List.setIfInBounds_toArray, List.set_cons_zero, List.set_cons_succ]
            refine lexW_value (v := ?_) (by rfl) (by rfl) (fun W hW => ?_) ?_
            rotate_left
            · skip; go_simp <;> with_reducible rfl
            simp only [Act.put, List.setIfInBounds_toArray, List.set_cons_zero, List.set_cons_succ]
            refine lexW_value (v := ?_) (by rfl) (by rfl) (fun W hW => ?_) ?_
            rotate_left
            · skip; go_simp <;> with_reducible rfl
            simp only [Act.put, List.setIfInBounds_toArray, List.set_cons_zero, List.set_cons_succ]
            refine lexW_value (v := ?_) (by rfl) (by rfl) (fun W hW => ?_) ?_
            rotate_left
            · skip; go_simp <;> with_reducible rfl
            simp only [Act.put, List.setIfInBounds_toArray, List.set_cons_zero, List.set_cons_succ]
            refine lexW_value (v := ?_) (by rfl) (by rfl) (fun W hW => ?_) ?_
            rotate_left
            · skip; go_simp <;> with_reducible rfl
            simp only [Act.put, List.setIfInBounds_toArray, List.set_cons_zero, List.set_cons_succ]
            refine lexW_value (v := ?_) (by rfl) (by rfl) (fun W hW => ?_) ?_
            rotate_left
            · skip; go_simp <;> with_reducible rfl
            simp only [Act.put, List.setIfInBounds_toArray, List.set_cons_zero, List.set_cons_succ]
            refine lexW_value (v := ?_) (by rfl) (by rfl) (fun W hW => ?_) ?_
            rotate_left
            · skip; go_simp <;> with_reducible rfl
            simp only [Act.put, List.setIfInBounds_toArray, List.set_cons_zero, List.set_cons_succ]
            refine lexW_value (v := ?_) (by rfl) (by rfl) (fun W hW => ?_) ?_
            rotate_left
            · skip; go_simp <;> with_reducible rfl
            simp only [Act.put, List.setIfInBounds_toArray, List.set_cons_zero, List.set_cons_succ]
            refine lexW_value (v := ?_) (by rfl) (by rfl) (fun W hW => ?_) ?_
            rotate_left
            · skip; go_simp <;> with_reducible rfl
            simp only [Act.put, List.setIfInBounds_toArray, List.set_cons_zero, List.set_cons_succ]
            refine lexW_value (v := ?_) (by rfl) (by rfl) (fun W hW => ?_) ?_
            rotate_left
            · skip; go_simp <;> with_reducible rfl
            simp only [Act.put, List.setIfInBounds_toArray, List.set_cons_zero, List.set_cons_succ]
            refine lexW_value (v := ?_) (by rfl) (by rfl) (fun W hW => ?_) ?_
            rotate_left
            · skip; go_simp <;> with_reducible rfl
            simp only [Act.put, List.setIfInBounds_toArray, List.set_cons_zero, List.set_cons_succ]
            refine lexW_value (v := ?_) (by rfl) (by rfl) (fun W hW => ?_) ?_
            rotate_left
            · skip; go_simp <;> with_reducible rfl
            simp only [Act.put, List.setIfInBounds_toArray, List.set_cons_zero, List.set_cons_succ]
            refine lexW_off (by rfl) (by rfl) ?_
            simp only [Act.put, List.setIfInBounds_toArray, List.set_cons_zero, List.set_cons_succ]
            refine lexW_off (by rfl) (by rfl) ?_
            simp only [Act.put, List.setIfInBounds_toArray, List.set_cons_zero, List.set_cons_succ]
            refine lexW_off (by rfl) (by rfl) ?_
            simp only [Act.put, List.setIfInBounds_toArray, List.set_cons_zero, List.set_cons_succ]
            refine lexW_off (by rfl) (by rfl) ?_
            simp only [Act.put, List.setIfInBounds_toArray, List.set_cons_zero, List.set_cons_succ]
            refine lexW_off (by rfl) (by rfl) ?_
            simp only [Act.put, List.setIfInBounds_toArray, List.set_cons_zero, List.set_cons_succ]
            refine lexW_off (by rfl) (by rfl) ?_
            simp only [Act.put, List.setIfInBounds_toArray, List.set_cons_zero, List.set_cons_succ]
            refine lexW_off (by rfl) (by rfl) ?_
            simp only [Act.put, List.setIfInBounds_toArray, List.set_cons_zero, List.set_cons_succ]
            refine lexW_value (v := ?_) (by rfl) (by rfl) (fun W hW => ?_) ?_
            rotate_left
            · skip; go_simp <;> with_reducible rfl
            simp only [Act.put, List.setIfInBounds_toArray, List.set_cons_zero, List.set_cons_succ]
            refine lexW_value (v := ?_) (by rfl) (by rfl) (fun W hW => ?_) ?_
            rotate_left
            · skip; go_simp <;> with_reducible rfl
            simp only [Act.put, List.setIfInBounds_toArray, List.set_cons_zero, List.set_cons_succ]
            refine lexW_nil (fun b12 W12 F12 E12 => ?_)
            obtain rfl := lexEnd_none E12
            go_wp2
            go_ret
            exact ⟨rfl, F12.below⟩
        | true =>
          cases pb with
          | false =>
            obtain rfl : bo = false := hB0.out
            clear hB0
            have T1 := Lib.hid S1
            clear S1
            have T2 := Lib.hid S2
            clear S2
            have hA := F9.get (g := w.heap.size) (x := a) (by simp)
            go_upto_region 7 with (first
              | (with_reducible refine wpList_load_n rfl 24 (.tmp 2) rfl w.heap.size rfl (lims a) 4 hA rfl Tryd.underlying24 Tryd.infoFe ?_)
              | (go_at_call 23
                 with_reducible refine (T1.out _).mono ?_
                 rintro e w10 ⟨rfl, hb10⟩
                 have F10 := Bl.stay _ _ F9 hb10
                 have l2 := run_loadFe (F10.get (g := w.heap.size + 1) (x := b) (by simp))
                 clear hb10)
              | (go_at_call 23
                 with_reducible refine (T2.out _).mono ?_
                 rintro e w11 ⟨rfl, hb11⟩
                 have F11 := Bl.stay _ _ F10 hb11
                 clear hb11)
              | fail)
            refine wp_region_lex 24 (fun _ => false) (MadeFe 0) (Bl w (g11 + 1) [(g11, x.val), (g9, ry.val), (g7, rx.val), (g6, 1), (w.heap.size, a), (w.heap.size + 1, b)]) (by kernel_rfl) (by kernel_rfl) F11.drew Bl.stay MadeFe.stay lex_none ?_
            simp only [List.take_succ_cons, List.take_zero, List.drop_succ_cons, List.drop_zero]
            refine lexW_value (v := ?_) (by rfl) (by rfl) (fun W hW => ?_) ?_
            rotate_left
            · skip; go_simp <;> with_reducible rfl
            simp only [Act.put, List.setIfInBounds_toArray, List.set_cons_zero, List.set_cons_succ]
            refine lexW_value (v := ?_) (by rfl) (by rfl) (fun W hW => ?_) ?_
            rotate_left
            · skip; go_simp <;> with_reducible rfl
            simp only [Act.put, List.setIfInBounds_toArray, List.set_cons_zero, List.set_cons_succ]
            refine lexW_value (v := ?_) (by rfl) (by rfl) (fun W hW => ?_) ?_
            rotate_left
            · skip; go_simp <;> with_reducible rfl
            simp only [Act.put, List.setIfInBounds_toArray, List.set_cons_zero, List.set_cons_succ]
            refine lexW_value (v := ?_) (by rfl) (by rfl) (fun W hW => ?_) ?_
            rotate_left
            · skip; go_simp <;> with_reducible rfl
            simp only [Act.put, List.setIfInBounds_toArray, List.set_cons_zero, List.set_cons_succ]
            refine lexW_value (v := ?_) (by rfl) (by rfl) (fun W hW => ?_) ?_
            rotate_left
            · skip; go_simp <;> with_reducible rfl
            simp only [Act.put, List.setIfInBounds_toArray, List.set_cons_zero, List.set_cons_succ]
            refine lexW_value (v := ?_) (by rfl) (by rfl) (fun W hW => ?_) ?_
            rotate_left
            · skip; go_simp <;> with_reducible rfl
            simp only [Act.put, List.setIfInBounds_toArray, List.set_cons_zero, List.set_cons_succ]
            refine lexW_value (v := ?_) (by rfl) (by rfl) (fun W hW => ?_) ?_
            rotate_left
            · skip; go_simp <;> with_reducible rfl
            simp only [Act.put, List.setIfInBounds_toArray, List.set_cons_zero, List.set_cons_succ]
            refine lexW_value (v := ?_) (by rfl) (by rfl) (fun W hW => ?_) ?_
            rotate_left
            · skip; go_simp <;> with_reducible rfl
            simp only [Act.put, List.setIfInBounds_toArray, List.set_cons_zero, List.set_cons_succ]
            refine lexW_value (v := ?_) (by rfl) (by rfl) (fun W hW => ?_) ?_
            rotate_left
            · skip; go_simp <;> with_reducible rfl
            simp only [Act.put, List.setIfInBounds_toArray, List.set_cons_zero, List.set_cons_succ]
            refine lexW_value (v := ?_) (by rfl) (by rfl) (fun W hW => ?_) ?_
            rotate_left
            · skip; go_simp <;> with_reducible rfl
            simp only [Act.put, List.setIfInBounds_toArray, List.set_cons_zero, List.set_cons_succ]
            refine lexW_value (v := ?_) (by rfl) (by rfl) (fun W hW => ?_) ?_
            rotate_left
            · skip; go_simp <;> with_reducible rfl
            simp only [Act.put, List.setIfInBounds_toArray, List.set_cons_zero, List.set_cons_succ]
            refine lexW_value (v := ?_) (by rfl) (by rfl) (fun W hW => ?_) ?_
            rotate_left
            · skip; go_simp <;> with_reducible rfl
            simp only [Act.put, List.setIfInBounds_toArray, List.set_cons_zero, List.set_cons_succ]
            refine lexW_value (v := ?_) (by rfl) (by rfl) (fun W hW => ?_) ?_
            rotate_left
            · skip; go_simp <;> with_reducible rfl
            simp only [Act.put, List.setIfInBounds_toArray, List.set_cons_zero, List.set_cons_succ]
            refine lexW_value (v := ?_) (by rfl) (by rfl) (fun W hW => ?_) ?_
            rotate_left
            · skip; go_simp <;> with_reducible rfl
            simp only [Act.put, List.setIfInBounds_toArray, List.set_cons_zero, List.set_cons_succ]
            refine lexW_value (v := ?_) (by rfl) (by rfl) (fun W hW => ?_) ?_
            rotate_left
            · skip; go_simp <;> with_reducible rfl
            simp only [Act.put, List.setIfInBounds_toArray, List.set_cons_zero, List.set_cons_succ]
            refine lexW_off (by rfl) (by rfl) ?_
            simp only [Act.put, List.setIfInBounds_toArray, List.set_cons_zero, List.set_cons_succ]
            refine lexW_off (by rfl) (by rfl) ?_
            simp only [Act.put, List.setIfInBounds_toArray, List.set_cons_zero, List.set_cons_succ]
            refine lexW_off (by rfl) (by rfl) ?_
            simp only [Act.put, List.setIfInBounds_toArray, List.set_cons_zero, List.set_cons_succ]
            refine lexW_off (by rfl) (by rfl) ?_
            simp only [Act.put, List.setIfInBounds_toArray, List.set_cons_zero, List.set_cons_succ]
            refine lexW_off (by rfl) (by rfl) ?_
            simp only [Act.put, List.setIfInBounds_toArray, List.set_cons_zero, List.set_cons_succ]
            refine lexW_off (by rfl) (by rfl) ?_
            simp only [Act.put, List.setIfInBounds_toArray, List.set_cons_zero, List.set_cons_succ]
            refine lexW_off (by rfl) (by rfl) ?_
            simp only [Act.put, List.setIfInBounds_toArray, List.set_cons_zero, List.set_cons_succ]
            refine lexW_value (v := ?_) (by rfl) (by rfl) (fun W hW => ?_) ?_
            rotate_left
            · skip; go_simp <;> with_reducible rfl
            simp only [Act.put, List.setIfInBounds_toArray, List.set_cons_zero, List.set_cons_succ]
            refine lexW_value (v := ?_) (by rfl) (by rfl) (fun W hW => ?_) ?_
            rotate_left
            · skip; go_simp <;> with_reducible rfl
            simp only [Act.put, List.setIfInBounds_toArray, List.set_cons_zero, List.set_cons_succ]
            refine lexW_nil (fun b12 W12 F12 E12 => ?_)
            obtain rfl := lexEnd_none E12
            go_wp2
            go_ret
            exact ⟨rfl, F12.below⟩
          | true =>
            obtain rfl : bo = true := hB0.out
            clear hB0
            have hxx := HX.out rfl
            have SMt : Hid (∀ W, Calls Tryd.prog 23 #[.agg ((lims xx.val).map nv).toArray, .agg ((lims p.val).map nv).toArray] W fun e w' => e = .returned (.bool true) ∧ Below W.heap.size W w') := Lib.hid fun W => by
              have h := SM.out W
              rw [decide_eq_true hxx] at h
              exact h
            clear hxx HX SM
            have T1 := Lib.hid S1
            clear S1
            have T2 := Lib.hid S2
            clear S2
            have hA := F9.get (g := w.heap.size) (x := a) (by simp)
            go_upto_region 7 with (first
              | (with_reducible refine wpList_load_n rfl 24 (.tmp 2) rfl w.heap.size rfl (lims a) 4 hA rfl Tryd.underlying24 Tryd.infoFe ?_)
              | (go_at_call 23
                 with_reducible refine (T1.out _).mono ?_
                 rintro e w10 ⟨rfl, hb10⟩
                 have F10 := Bl.stay _ _ F9 hb10
                 have l2 := run_loadFe (F10.get (g := w.heap.size + 1) (x := b) (by simp))
                 clear hb10)
              | (go_at_call 23
                 with_reducible refine (T2.out _).mono ?_
                 rintro e w11 ⟨rfl, hb11⟩
                 have F11 := Bl.stay _ _ F10 hb11
                 clear hb11)
              | fail)
            refine wp_region_lex 24 (fun _ => false) (MadeFe 0) (Bl w (g11 + 1) [(g11, x.val), (g9, ry.val), (g7, rx.val), (g6, 1), (w.heap.size, a), (w.heap.size + 1, b)]) (by kernel_rfl) (by kernel_rfl) F11.drew Bl.stay MadeFe.stay lex_none ?_
            simp only [List.take_succ_cons, List.take_zero, List.drop_succ_cons, List.drop_zero]
            refine lexW_value (v := ?_) (by rfl) (by rfl) (fun W hW => ?_) ?_
            rotate_left
            · skip; go_simp <;> with_reducible rfl
            simp only [Act.put, List.setIfInBounds_toArray, List.set_cons_zero, List.set_cons_succ]
            refine lexW_value (v := ?_) (by rfl) (by rfl) (fun W hW => ?_) ?_
            rotate_left
            · skip; go_simp <;> with_reducible rfl
            simp only [Act.put, List.setIfInBounds_toArray, List.set_cons_zero, List.set_cons_succ]
            refine lexW_value (v := ?_) (by rfl) (by rfl) (fun W hW => ?_) ?_
            rotate_left
            · skip; go_simp <;> with_reducible rfl
            simp only [Act.put, List.setIfInBounds_toArray, List.set_cons_zero, List.set_cons_succ]
            refine lexW_value (v := ?_) (by rfl) (by rfl) (fun W hW => ?_) ?_
            rotate_left
            · skip; go_simp <;> with_reducible rfl
            simp only [Act.put, List.setIfInBounds_toArray, List.set_cons_zero, List.set_cons_succ]
            refine lexW_value (v := ?_) (by rfl) (by rfl) (fun W hW => ?_) ?_
            rotate_left
            · skip; go_simp <;> with_reducible rfl
            simp only [Act.put, List.setIfInBounds_toArray, List.set_cons_zero, List.set_cons_succ]
            refine lexW_value (v := ?_) (by rfl) (by rfl) (fun W hW => ?_) ?_
            rotate_left
            · skip; go_simp <;> with_reducible rfl
            simp only [Act.put, List.setIfInBounds_toArray, List.set_cons_zero, List.set_cons_succ]
            refine lexW_value (v := ?_) (by rfl) (by rfl) (fun W hW => ?_) ?_
            rotate_left
            · skip; go_simp <;> with_reducible rfl
            simp only [Act.put, List.setIfInBounds_toArray, List.set_cons_zero, List.set_cons_succ]
            refine lexW_value (v := ?_) (by rfl) (by rfl) (fun W hW => ?_) ?_
            rotate_left
            · skip; go_simp <;> with_reducible rfl
            simp only [Act.put, List.setIfInBounds_toArray, List.set_cons_zero, List.set_cons_succ]
            refine lexW_value (v := ?_) (by rfl) (by rfl) (fun W hW => ?_) ?_
            rotate_left
            · skip; go_simp <;> with_reducible rfl
            simp only [Act.put, List.setIfInBounds_toArray, List.set_cons_zero, List.set_cons_succ]
            refine lexW_value (v := ?_) (by rfl) (by rfl) (fun W hW => ?_) ?_
            rotate_left
            · skip; go_simp <;> with_reducible rfl
            simp only [Act.put, List.setIfInBounds_toArray, List.set_cons_zero, List.set_cons_succ]
            refine lexW_value (v := ?_) (by rfl) (by rfl) (fun W hW => ?_) ?_
            rotate_left
            · skip; go_simp <;> with_reducible rfl
            simp only [Act.put, List.setIfInBounds_toArray, List.set_cons_zero, List.set_cons_succ]
            refine lexW_value (v := ?_) (by rfl) (by rfl) (fun W hW => ?_) ?_
            rotate_left
            · skip; go_simp <;> with_reducible rfl
            simp only [Act.put, List.setIfInBounds_toArray, List.set_cons_zero, List.set_cons_succ]
            refine lexW_value (v := ?_) (by rfl) (by rfl) (fun W hW => ?_) ?_
            rotate_left
            · skip; go_simp <;> with_reducible rfl
            simp only [Act.put, List.setIfInBounds_toArray, List.set_cons_zero, List.set_cons_succ]
            refine lexW_value (v := ?_) (by rfl) (by rfl) (fun W hW => ?_) ?_
            rotate_left
            · skip; go_simp <;> with_reducible rfl
            simp only [Act.put, List.setIfInBounds_toArray, List.set_cons_zero, List.set_cons_succ]
            refine lexW_value (v := ?_) (by rfl) (by rfl) (fun W hW => ?_) ?_
            rotate_left
            · skip; go_simp <;> with_reducible rfl
            simp only [Act.put, List.setIfInBounds_toArray, List.set_cons_zero, List.set_cons_succ]
            refine lexW_value (v := ?_) (by rfl) (by rfl) (fun W hW => ?_) ?_
            rotate_left
            · have l1 := run_loadFe (hW.get (g := g11) (x := x.val) (by simp)); go_simp <;> with_reducible rfl
            simp only [Act.put, List.setIfInBounds_toArray, List.set_cons_zero, List.set_cons_succ]
            refine lexW_value (v := ?_) (by rfl) (by rfl) (fun W hW => ?_) ?_
            rotate_left
            · have l1 := run_loadFe (hW.get (g := g11) (x := x.val) (by simp)); go_simp <;> with_reducible rfl
            simp only [Act.put, List.setIfInBounds_toArray, List.set_cons_zero, List.set_cons_succ]
            refine' lexW_call (by rfl) (by rfl) (fun W hW => ?_) (fun W hW => ?_) ?_
            rotate_left 3
            · go_simp <;> first | with_reducible rfl | exact ⟨rfl, rfl⟩
            · with_reducible exact K7.out W
            simp only [Act.put, List.setIfInBounds_toArray, List.set_cons_zero, List.set_cons_succ]
            refine lexW_value (v := ?_) (by rfl) (by rfl) (fun W hW => ?_) ?_
            rotate_left
            · have l1 := run_loadFe (hW.get (g := w.heap.size) (x := a) (by simp)); go_simp <;> with_reducible rfl
            simp only [Act.put, List.setIfInBounds_toArray, List.set_cons_zero, List.set_cons_succ]
            refine lexW_value (v := ?_) (by rfl) (by rfl) (fun W hW => ?_) ?_
            rotate_left
            · have l1 := run_loadFe (hW.get (g := w.heap.size + 1) (x := b) (by simp)); go_simp <;> with_reducible rfl
            simp only [Act.put, List.setIfInBounds_toArray, List.set_cons_zero, List.set_cons_succ]
            refine' lexW_call (by rfl) (by rfl) (fun W hW => ?_) (fun W hW => ?_) ?_
            rotate_left 3
            · go_simp <;> first | with_reducible rfl | exact ⟨rfl, rfl⟩
            · with_reducible exact K5.out W
            simp only [Act.put, List.setIfInBounds_toArray, List.set_cons_zero, List.set_cons_succ]
            refine' lexW_call (by rfl) (by rfl) (fun W hW => ?_) (fun W hW => ?_) ?_
            rotate_left 3
            · go_simp <;> first | with_reducible rfl | exact ⟨rfl, rfl⟩
            · with_reducible exact SMt.out W
            simp only [Act.put, List.setIfInBounds_toArray, List.set_cons_zero, List.set_cons_succ]
            refine lexW_value (v := ?_) (by rfl) (by rfl) (fun W hW => ?_) ?_
            rotate_left
            · skip; go_simp <;> with_reducible rfl
            simp only [Act.put, List.setIfInBounds_toArray, List.set_cons_zero, List.set_cons_succ]
            refine lexW_value (v := ?_) (by rfl) (by rfl) (fun W hW => ?_) ?_
            rotate_left
            · skip; go_simp <;> with_reducible rfl
            simp only [Act.put, List.setIfInBounds_toArray, List.set_cons_zero, List.set_cons_succ]
            refine lexW_nil (fun b12 W12 F12 E12 => ?_)
            obtain rfl := lexEnd_none E12
            go_wp2
            go_ret
            exact ⟨rfl, F12.below⟩
end
end Go.Proofs.YtcidbiceeinglaaDoor
