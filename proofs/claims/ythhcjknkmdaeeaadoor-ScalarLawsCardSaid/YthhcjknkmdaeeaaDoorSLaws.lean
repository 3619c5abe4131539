/-
  ScalarLaws: the order of sums and products; products of sums. Whatever the three numbers are.
-/
import Derived.Test.YthhcjknkmdaeeaaDoorSAwake
namespace Go.Proofs.YthhcjknkmdaeeaaDoor
open Go.RowKit

section
attribute [local go_sem ↓] load_sc load_by load_bq

set_option maxRecDepth 100000 in
set_option maxHeartbeats 4000000 in
theorem ScalarLaws_any (a b c : Nat) (w : World) (ha : a < big) (hb : b < big) (hc : c < big) (L0 : Laid w) :
    Calls Tryd.prog 4 #[fev a, fev b, fev c] w fun e w' => e = .returned (.bool true) ∧ Below w.heap.size w w' := by
  have hsz0 := L0.size
  have LK : Hid (∀ W, Below w.heap.size w W → Laid W) := Lib.hid fun W hb => L0.keep hb hsz0
  have AW : Hid (∀ W, Laid W → Calls Tryd.prog 7 #[] W fun e w' => e = .returned (.bool true) ∧ Below W.heap.size W w') := Lib.hid fun W L => awake_any W L
  obtain ⟨fa, hfa⟩ : ∃ f, f = toS a := ⟨_, rfl⟩
  obtain ⟨fb, hfb⟩ : ∃ f, f = toS b := ⟨_, rfl⟩
  obtain ⟨fc, hfc⟩ : ∃ f, f = toS c := ⟨_, rfl⟩
  obtain ⟨s, hs⟩ : ∃ zz : Sn, zz = fa + fb := ⟨_, rfl⟩
  obtain ⟨t, ht⟩ : ∃ zz : Sn, zz = s + fc := ⟨_, rfl⟩
  obtain ⟨u, hu⟩ : ∃ zz : Sn, zz = fb + fc := ⟨_, rfl⟩
  obtain ⟨m, hm⟩ : ∃ zz : Sn, zz = -fa := ⟨_, rfl⟩
  obtain ⟨z, hz⟩ : ∃ zz : Sn, zz = 0 := ⟨_, rfl⟩
  obtain ⟨p, hp⟩ : ∃ zz : Sn, zz = fa * fb := ⟨_, rfl⟩
  obtain ⟨q, hq⟩ : ∃ zz : Sn, zz = p * fc := ⟨_, rfl⟩
  obtain ⟨r, hr⟩ : ∃ zz : Sn, zz = fb * fc := ⟨_, rfl⟩
  obtain ⟨v, hv⟩ : ∃ zz : Sn, zz = fa * u := ⟨_, rfl⟩
  obtain ⟨x, hx⟩ : ∃ zz : Sn, zz = fa * fc := ⟨_, rfl⟩
  obtain ⟨y, hy⟩ : ∃ x : Sn, x = fa := ⟨_, rfl⟩
  have K1 : Hid (∀ W, Laid W → Calls Tryd.prog 8 #[.agg ((lims a).map nv).toArray, .agg ((lims b).map nv).toArray] W fun e w' => e = .returned (.agg ((lims s.val).map nv).toArray) ∧ Below W.heap.size W w') := Lib.hid fun W L => by
    have h := Add_any a b W ha hb L
    simp only [← hfa, ← hfb] at h
    rw [show fa + fb = s by grind] at h
    exact h
  have K2 : Hid (∀ W, Laid W → Calls Tryd.prog 8 #[.agg ((lims b).map nv).toArray, .agg ((lims a).map nv).toArray] W fun e w' => e = .returned (.agg ((lims s.val).map nv).toArray) ∧ Below W.heap.size W w') := Lib.hid fun W L => by
    have h := Add_any b a W hb ha L
    simp only [← hfa, ← hfb] at h
    rw [show fb + fa = s by grind] at h
    exact h
  have K3 : Hid (∀ W, Laid W → Calls Tryd.prog 8 #[.agg ((lims s.val).map nv).toArray, .agg ((lims c).map nv).toArray] W fun e w' => e = .returned (.agg ((lims t.val).map nv).toArray) ∧ Below W.heap.size W w') := Lib.hid fun W L => by
    have h := Add_any s.val c W (Sn.lt_big _) hc L
    simp only [toS_of, ← hfc] at h
    rw [show s + fc = t by grind] at h
    exact h
  have K4 : Hid (∀ W, Laid W → Calls Tryd.prog 8 #[.agg ((lims b).map nv).toArray, .agg ((lims c).map nv).toArray] W fun e w' => e = .returned (.agg ((lims u.val).map nv).toArray) ∧ Below W.heap.size W w') := Lib.hid fun W L => by
    have h := Add_any b c W hb hc L
    simp only [← hfb, ← hfc] at h
    rw [show fb + fc = u by grind] at h
    exact h
  have K5 : Hid (∀ W, Laid W → Calls Tryd.prog 8 #[.agg ((lims a).map nv).toArray, .agg ((lims u.val).map nv).toArray] W fun e w' => e = .returned (.agg ((lims t.val).map nv).toArray) ∧ Below W.heap.size W w') := Lib.hid fun W L => by
    have h := Add_any a u.val W ha (Sn.lt_big _) L
    simp only [toS_of, ← hfa] at h
    rw [show fa + u = t by grind] at h
    exact h
  have K6 : Hid (∀ W, Laid W → Calls Tryd.prog 12 #[.agg ((lims a).map nv).toArray] W fun e w' => e = .returned (.agg ((lims m.val).map nv).toArray) ∧ Below W.heap.size W w') := Lib.hid fun W L => by
    have h := Neg_any a W ha L
    simp only [← hfa] at h
    rw [show -fa = m by grind] at h
    exact h
  have K7 : Hid (∀ W, Laid W → Calls Tryd.prog 8 #[.agg ((lims a).map nv).toArray, .agg ((lims m.val).map nv).toArray] W fun e w' => e = .returned (.agg ((lims z.val).map nv).toArray) ∧ Below W.heap.size W w') := Lib.hid fun W L => by
    have h := Add_any a m.val W ha (Sn.lt_big _) L
    simp only [toS_of, ← hfa] at h
    rw [show fa + m = z by grind] at h
    exact h
  have M1 : Hid (∀ W, Laid W → Calls Tryd.prog 10 #[.agg ((lims a).map nv).toArray, .agg ((lims b).map nv).toArray] W fun e w' => e = .returned (.agg ((lims p.val).map nv).toArray) ∧ Below W.heap.size W w') := Lib.hid fun W L => by
    have h := Mul_any a b W ha hb L
    simp only [← hfa, ← hfb] at h
    rw [show fa * fb = p by grind] at h
    exact h
  have M2 : Hid (∀ W, Laid W → Calls Tryd.prog 10 #[.agg ((lims b).map nv).toArray, .agg ((lims a).map nv).toArray] W fun e w' => e = .returned (.agg ((lims p.val).map nv).toArray) ∧ Below W.heap.size W w') := Lib.hid fun W L => by
    have h := Mul_any b a W hb ha L
    simp only [← hfa, ← hfb] at h
    rw [show fb * fa = p by grind] at h
    exact h
  have M3 : Hid (∀ W, Laid W → Calls Tryd.prog 10 #[.agg ((lims p.val).map nv).toArray, .agg ((lims c).map nv).toArray] W fun e w' => e = .returned (.agg ((lims q.val).map nv).toArray) ∧ Below W.heap.size W w') := Lib.hid fun W L => by
    have h := Mul_any p.val c W (Sn.lt_big _) hc L
    simp only [toS_of, ← hfc] at h
    rw [show p * fc = q by grind] at h
    exact h
  have M4 : Hid (∀ W, Laid W → Calls Tryd.prog 10 #[.agg ((lims b).map nv).toArray, .agg ((lims c).map nv).toArray] W fun e w' => e = .returned (.agg ((lims r.val).map nv).toArray) ∧ Below W.heap.size W w') := Lib.hid fun W L => by
    have h := Mul_any b c W hb hc L
    simp only [← hfb, ← hfc] at h
    rw [show fb * fc = r by grind] at h
    exact h
  have M5 : Hid (∀ W, Laid W → Calls Tryd.prog 10 #[.agg ((lims a).map nv).toArray, .agg ((lims r.val).map nv).toArray] W fun e w' => e = .returned (.agg ((lims q.val).map nv).toArray) ∧ Below W.heap.size W w') := Lib.hid fun W L => by
    have h := Mul_any a r.val W ha (Sn.lt_big _) L
    simp only [toS_of, ← hfa] at h
    rw [show fa * r = q by grind] at h
    exact h
  have M6 : Hid (∀ W, Laid W → Calls Tryd.prog 10 #[.agg ((lims a).map nv).toArray, .agg #[.int .u64 1, .int .u64 0, .int .u64 0, .int .u64 0]] W fun e w' => e = .returned (.agg ((lims y.val).map nv).toArray) ∧ Below W.heap.size W w') := Lib.hid fun W L => by
    have h := Mul_any a 1 W ha (by decide) L
    simp only [toS_one', ← hfa] at h
    rw [show fa * 1 = y by grind, ← lit_e1] at h
    exact h
  have K8 : Hid (∀ W, Laid W → Calls Tryd.prog 8 #[.agg ((lims a).map nv).toArray, .agg #[.int .u64 0, .int .u64 0, .int .u64 0, .int .u64 0]] W fun e w' => e = .returned (.agg ((lims y.val).map nv).toArray) ∧ Below W.heap.size W w') := Lib.hid fun W L => by
    have h := Add_any a 0 W ha (by decide) L
    simp only [toS_zero', ← hfa] at h
    rw [show fa + 0 = y by grind, ← lit_e0] at h
    exact h
  have N1 : Hid (∀ W, Laid W → Calls Tryd.prog 10 #[.agg ((lims a).map nv).toArray, .agg ((lims u.val).map nv).toArray] W fun e w' => e = .returned (.agg ((lims v.val).map nv).toArray) ∧ Below W.heap.size W w') := Lib.hid fun W L => by
    have h := Mul_any a u.val W ha (Sn.lt_big _) L
    simp only [toS_of, ← hfa] at h
    rw [show fa * u = v by grind] at h
    exact h
  have N2 : Hid (∀ W, Laid W → Calls Tryd.prog 10 #[.agg ((lims a).map nv).toArray, .agg ((lims c).map nv).toArray] W fun e w' => e = .returned (.agg ((lims x.val).map nv).toArray) ∧ Below W.heap.size W w') := Lib.hid fun W L => by
    have h := Mul_any a c W ha hc L
    simp only [← hfa, ← hfc] at h
    rw [show fa * fc = x by grind] at h
    exact h
  have N3 : Hid (∀ W, Laid W → Calls Tryd.prog 8 #[.agg ((lims p.val).map nv).toArray, .agg ((lims x.val).map nv).toArray] W fun e w' => e = .returned (.agg ((lims v.val).map nv).toArray) ∧ Below W.heap.size W w') := Lib.hid fun W L => by
    have h := Add_any p.val x.val W (Sn.lt_big _) (Sn.lt_big _) L
    simp only [toS_of] at h
    rw [show p + x = v by grind] at h
    exact h
  have qz := fun W => eql_zero z W
  rw [decide_eq_true hz] at qz
  clear L0 hsz0 hfa hfb hfc ha hb hc hs ht hu hm hz hp hq hr hv hx hy
  obtain ⟨bA, bB, bC, bb, _⟩ := sc_start3 w a b c _ _ _ rfl rfl rfl
  have F0 := Bl.three bA bB bC bb
  clear bA bB bC bb
  rw [fev_eq, fev_eq, fev_eq]
  go_enter Tryd.func4, Tryd.ntmps4
  go_upto_region 1 with (fail)
  generalize (((w.alloc (.cells ((lims a).map nv).toArray 24)).alloc (.cells ((lims b).map nv).toArray 24)).alloc (.cells ((lims c).map nv).toArray 24)) = wv at *
  have qs := fun x W => eql_same x W
  have gf := fun x y c d W => run_guard_sc x y c d W
  go_upto_region 2 with (first
    | (go_at_call 7
       with_reducible refine (AW.out _ (LK.out _ F0.below)).mono ?_
       rintro e w1 ⟨rfl, hb1⟩
       have F1 := Bl.stay _ _ F0 hb1)
    | fail)
  clear F0 hb1
  refine wp_region_lex 28 (fun _ => false) (fun _ _ _ => True) (Bl w (w.heap.size + 1 + 1 + 1) [(w.heap.size, a), (w.heap.size + 1, b), (w.heap.size + 1 + 1, c)]) (by kernel_rfl) (by kernel_rfl) F1.drew Bl.stay (fun _ _ _ _ _ _ => trivial) lex_none ?_
  simp only [List.take_succ_cons, List.take_zero, List.drop_succ_cons, List.drop_zero]
  refine lexW_value (v := ?_) (by rfl) (by rfl) (fun W hW => ?_) ?_
  rotate_left
  · have l1 := run_loadSc (hW.get (g := w.heap.size) (x := a) (by simp)); go_simp <;> with_reducible rfl
  simp only [Act.put, List.setIfInBounds_toArray, List.set_cons_zero, List.set_cons_succ]
  refine lexW_value (v := ?_) (by rfl) (by rfl) (fun W hW => ?_) ?_
  rotate_left
  · have l1 := run_loadSc (hW.get (g := w.heap.size + 1) (x := b) (by simp)); go_simp <;> with_reducible rfl
  simp only [Act.put, List.setIfInBounds_toArray, List.set_cons_zero, List.set_cons_succ]
  refine' lexW_call (by rfl) (by rfl) (fun W hW => ?_) (fun W hW => ?_) ?_
  rotate_left 3
  · go_simp <;> first | with_reducible rfl | exact ⟨rfl, rfl⟩
  · with_reducible exact K1.out W (LK.out _ hW.below)
  simp only [Act.put, List.setIfInBounds_toArray, List.set_cons_zero, List.set_cons_succ]
  refine lexW_value (v := ?_) (by rfl) (by rfl) (fun W hW => ?_) ?_
  rotate_left
  · have l1 := run_loadSc (hW.get (g := w.heap.size + 1) (x := b) (by simp)); go_simp <;> with_reducible rfl
  simp only [Act.put, List.setIfInBounds_toArray, List.set_cons_zero, List.set_cons_succ]
  refine lexW_value (v := ?_) (by rfl) (by rfl) (fun W hW => ?_) ?_
  rotate_left
  · have l1 := run_loadSc (hW.get (g := w.heap.size) (x := a) (by simp)); go_simp <;> with_reducible rfl
  simp only [Act.put, List.setIfInBounds_toArray, List.set_cons_zero, List.set_cons_succ]
  refine' lexW_call (by rfl) (by rfl) (fun W hW => ?_) (fun W hW => ?_) ?_
  rotate_left 3
  · go_simp <;> first | with_reducible rfl | exact ⟨rfl, rfl⟩
  · with_reducible exact K2.out W (LK.out _ hW.below)
  simp only [Act.put, List.setIfInBounds_toArray, List.set_cons_zero, List.set_cons_succ]
  refine lexW_value (v := ?_) (by rfl) (by rfl) (fun W hW => ?_) ?_
  rotate_left
  · skip; go_simp <;> with_reducible rfl
  simp only [Act.put, List.setIfInBounds_toArray, List.set_cons_zero, List.set_cons_succ]
  refine lexW_value (v := ?_) (by rfl) (by rfl) (fun W hW => ?_) ?_
  rotate_left
  · skip; go_simp <;> with_reducible rfl
  simp only [Act.put, List.setIfInBounds_toArray, List.set_cons_zero, List.set_cons_succ]
  refine lexW_value (v := ?_) (by rfl) (by rfl) (fun W hW => ?_) ?_
  rotate_left
  · have l1 := run_loadSc (hW.get (g := w.heap.size) (x := a) (by simp)); go_simp <;> with_reducible rfl
  simp only [Act.put, List.setIfInBounds_toArray, List.set_cons_zero, List.set_cons_succ]
  refine lexW_value (v := ?_) (by rfl) (by rfl) (fun W hW => ?_) ?_
  rotate_left
  · have l1 := run_loadSc (hW.get (g := w.heap.size + 1) (x := b) (by simp)); go_simp <;> with_reducible rfl
  simp only [Act.put, List.setIfInBounds_toArray, List.set_cons_zero, List.set_cons_succ]
  refine' lexW_call (by rfl) (by rfl) (fun W hW => ?_) (fun W hW => ?_) ?_
  rotate_left 3
  · go_simp <;> first | with_reducible rfl | exact ⟨rfl, rfl⟩
  · with_reducible exact K1.out W (LK.out _ hW.below)
  simp only [Act.put, List.setIfInBounds_toArray, List.set_cons_zero, List.set_cons_succ]
  refine lexW_value (v := ?_) (by rfl) (by rfl) (fun W hW => ?_) ?_
  rotate_left
  · have l1 := run_loadSc (hW.get (g := w.heap.size + 1 + 1) (x := c) (by simp)); go_simp <;> with_reducible rfl
  simp only [Act.put, List.setIfInBounds_toArray, List.set_cons_zero, List.set_cons_succ]
  refine' lexW_call (by rfl) (by rfl) (fun W hW => ?_) (fun W hW => ?_) ?_
  rotate_left 3
  · go_simp <;> first | with_reducible rfl | exact ⟨rfl, rfl⟩
  · with_reducible exact K3.out W (LK.out _ hW.below)
  simp only [Act.put, List.setIfInBounds_toArray, List.set_cons_zero, List.set_cons_succ]
  refine lexW_value (v := ?_) (by rfl) (by rfl) (fun W hW => ?_) ?_
  rotate_left
  · have l1 := run_loadSc (hW.get (g := w.heap.size) (x := a) (by simp)); go_simp <;> with_reducible rfl
  simp only [Act.put, List.setIfInBounds_toArray, List.set_cons_zero, List.set_cons_succ]
  refine lexW_value (v := ?_) (by rfl) (by rfl) (fun W hW => ?_) ?_
  rotate_left
  · have l1 := run_loadSc (hW.get (g := w.heap.size + 1) (x := b) (by simp)); go_simp <;> with_reducible rfl
  simp only [Act.put, List.setIfInBounds_toArray, List.set_cons_zero, List.set_cons_succ]
  refine lexW_value (v := ?_) (by rfl) (by rfl) (fun W hW => ?_) ?_
  rotate_left
  · have l1 := run_loadSc (hW.get (g := w.heap.size + 1 + 1) (x := c) (by simp)); go_simp <;> with_reducible rfl
  simp only [Act.put, List.setIfInBounds_toArray, List.set_cons_zero, List.set_cons_succ]
  refine' lexW_call (by rfl) (by rfl) (fun W hW => ?_) (fun W hW => ?_) ?_
  rotate_left 3
  · go_simp <;> first | with_reducible rfl | exact ⟨rfl, rfl⟩
  · with_reducible exact K4.out W (LK.out _ hW.below)
  simp only [Act.put, List.setIfInBounds_toArray, List.set_cons_zero, List.set_cons_succ]
  refine' lexW_call (by rfl) (by rfl) (fun W hW => ?_) (fun W hW => ?_) ?_
  rotate_left 3
  · go_simp <;> first | with_reducible rfl | exact ⟨rfl, rfl⟩
  · with_reducible exact K5.out W (LK.out _ hW.below)
  simp only [Act.put, List.setIfInBounds_toArray, List.set_cons_zero, List.set_cons_succ]
  refine lexW_value (v := ?_) (by rfl) (by rfl) (fun W hW => ?_) ?_
  rotate_left
  · skip; go_simp <;> with_reducible rfl
  simp only [Act.put, List.setIfInBounds_toArray, List.set_cons_zero, List.set_cons_succ]
  refine lexW_value (v := ?_) (by rfl) (by rfl) (fun W hW => ?_) ?_
  rotate_left
  · skip; go_simp <;> with_reducible rfl
  simp only [Act.put, List.setIfInBounds_toArray, List.set_cons_zero, List.set_cons_succ]
  refine lexW_value (v := ?_) (by rfl) (by rfl) (fun W hW => ?_) ?_
  rotate_left
  · skip; go_simp <;> with_reducible rfl
  simp only [Act.put, List.setIfInBounds_toArray, List.set_cons_zero, List.set_cons_succ]
  refine lexW_value (v := ?_) (by rfl) (by rfl) (fun W hW => ?_) ?_
  rotate_left
  · have l1 := run_loadSc (hW.get (g := w.heap.size) (x := a) (by simp)); go_simp <;> with_reducible rfl
  simp only [Act.put, List.setIfInBounds_toArray, List.set_cons_zero, List.set_cons_succ]
  refine lexW_value (v := ?_) (by rfl) (by rfl) (fun W hW => ?_) ?_
  rotate_left
  · have l1 := run_loadSc (hW.get (g := w.heap.size) (x := a) (by simp)); go_simp <;> with_reducible rfl
  simp only [Act.put, List.setIfInBounds_toArray, List.set_cons_zero, List.set_cons_succ]
  refine' lexW_call (by rfl) (by rfl) (fun W hW => ?_) (fun W hW => ?_) ?_
  rotate_left 3
  · go_simp <;> first | with_reducible rfl | exact ⟨rfl, rfl⟩
  · with_reducible exact K6.out W (LK.out _ hW.below)
  simp only [Act.put, List.setIfInBounds_toArray, List.set_cons_zero, List.set_cons_succ]
  refine' lexW_call (by rfl) (by rfl) (fun W hW => ?_) (fun W hW => ?_) ?_
  rotate_left 3
  · go_simp <;> first | with_reducible rfl | exact ⟨rfl, rfl⟩
  · with_reducible exact K7.out W (LK.out _ hW.below)
  simp only [Act.put, List.setIfInBounds_toArray, List.set_cons_zero, List.set_cons_succ]
  refine lexW_value (v := ?_) (by rfl) (by rfl) (fun W hW => ?_) ?_
  rotate_left
  · skip; go_simp <;> with_reducible rfl
  simp only [Act.put, List.setIfInBounds_toArray, List.set_cons_zero, List.set_cons_succ]
  refine lexW_value (v := ?_) (by rfl) (by rfl) (fun W hW => ?_) ?_
  rotate_left
  · skip; go_simp <;> with_reducible rfl
  simp only [Act.put, List.setIfInBounds_toArray, List.set_cons_zero, List.set_cons_succ]
  refine lexW_value (v := ?_) (by rfl) (by rfl) (fun W hW => ?_) ?_
  rotate_left
  · skip; go_simp <;> with_reducible rfl
  simp only [Act.put, List.setIfInBounds_toArray, List.set_cons_zero, List.set_cons_succ]
  refine lexW_nil (fun b2 W2 F2 E2 => ?_)
  obtain rfl := lexEnd_none E2
  go_upto_region 3 with (fail)
  refine wp_region_lex 29 (fun _ => false) (fun _ _ _ => True) (Bl w (w.heap.size + 1 + 1 + 1) [(w.heap.size, a), (w.heap.size + 1, b), (w.heap.size + 1 + 1, c)]) (by kernel_rfl) (by kernel_rfl) F2.drew Bl.stay (fun _ _ _ _ _ _ => trivial) lex_none ?_
  simp only [List.take_succ_cons, List.take_zero, List.drop_succ_cons, List.drop_zero]
  refine lexW_value (v := ?_) (by rfl) (by rfl) (fun W hW => ?_) ?_
  rotate_left
  · have l1 := run_loadSc (hW.get (g := w.heap.size) (x := a) (by simp)); go_simp <;> with_reducible rfl
  simp only [Act.put, List.setIfInBounds_toArray, List.set_cons_zero, List.set_cons_succ]
  refine lexW_value (v := ?_) (by rfl) (by rfl) (fun W hW => ?_) ?_
  rotate_left
  · have l1 := run_loadSc (hW.get (g := w.heap.size + 1) (x := b) (by simp)); go_simp <;> with_reducible rfl
  simp only [Act.put, List.setIfInBounds_toArray, List.set_cons_zero, List.set_cons_succ]
  refine' lexW_call (by rfl) (by rfl) (fun W hW => ?_) (fun W hW => ?_) ?_
  rotate_left 3
  · go_simp <;> first | with_reducible rfl | exact ⟨rfl, rfl⟩
  · with_reducible exact M1.out W (LK.out _ hW.below)
  simp only [Act.put, List.setIfInBounds_toArray, List.set_cons_zero, List.set_cons_succ]
  refine lexW_value (v := ?_) (by rfl) (by rfl) (fun W hW => ?_) ?_
  rotate_left
  · have l1 := run_loadSc (hW.get (g := w.heap.size + 1) (x := b) (by simp)); go_simp <;> with_reducible rfl
  simp only [Act.put, List.setIfInBounds_toArray, List.set_cons_zero, List.set_cons_succ]
  refine lexW_value (v := ?_) (by rfl) (by rfl) (fun W hW => ?_) ?_
  rotate_left
  · have l1 := run_loadSc (hW.get (g := w.heap.size) (x := a) (by simp)); go_simp <;> with_reducible rfl
  simp only [Act.put, List.setIfInBounds_toArray, List.set_cons_zero, List.set_cons_succ]
  refine' lexW_call (by rfl) (by rfl) (fun W hW => ?_) (fun W hW => ?_) ?_
  rotate_left 3
  · go_simp <;> first | with_reducible rfl | exact ⟨rfl, rfl⟩
  · with_reducible exact M2.out W (LK.out _ hW.below)
  simp only [Act.put, List.setIfInBounds_toArray, List.set_cons_zero, List.set_cons_succ]
  refine lexW_value (v := ?_) (by rfl) (by rfl) (fun W hW => ?_) ?_
  rotate_left
  · skip; go_simp <;> with_reducible rfl
  simp only [Act.put, List.setIfInBounds_toArray, List.set_cons_zero, List.set_cons_succ]
  refine lexW_value (v := ?_) (by rfl) (by rfl) (fun W hW => ?_) ?_
  rotate_left
  · skip; go_simp <;> with_reducible rfl
  simp only [Act.put, List.setIfInBounds_toArray, List.set_cons_zero, List.set_cons_succ]
  refine lexW_value (v := ?_) (by rfl) (by rfl) (fun W hW => ?_) ?_
  rotate_left
  · have l1 := run_loadSc (hW.get (g := w.heap.size) (x := a) (by simp)); go_simp <;> with_reducible rfl
  simp only [Act.put, List.setIfInBounds_toArray, List.set_cons_zero, List.set_cons_succ]
  refine lexW_value (v := ?_) (by rfl) (by rfl) (fun W hW => ?_) ?_
  rotate_left
  · have l1 := run_loadSc (hW.get (g := w.heap.size + 1) (x := b) (by simp)); go_simp <;> with_reducible rfl
  simp only [Act.put, List.setIfInBounds_toArray, List.set_cons_zero, List.set_cons_succ]
  refine' lexW_call (by rfl) (by rfl) (fun W hW => ?_) (fun W hW => ?_) ?_
  rotate_left 3
  · go_simp <;> first | with_reducible rfl | exact ⟨rfl, rfl⟩
  · with_reducible exact M1.out W (LK.out _ hW.below)
  simp only [Act.put, List.setIfInBounds_toArray, List.set_cons_zero, List.set_cons_succ]
  refine lexW_value (v := ?_) (by rfl) (by rfl) (fun W hW => ?_) ?_
  rotate_left
  · have l1 := run_loadSc (hW.get (g := w.heap.size + 1 + 1) (x := c) (by simp)); go_simp <;> with_reducible rfl
  simp only [Act.put, List.setIfInBounds_toArray, List.set_cons_zero, List.set_cons_succ]
  refine' lexW_call (by rfl) (by rfl) (fun W hW => ?_) (fun W hW => ?_) ?_
  rotate_left 3
  · go_simp <;> first | with_reducible rfl | exact ⟨rfl, rfl⟩
  · with_reducible exact M3.out W (LK.out _ hW.below)
  simp only [Act.put, List.setIfInBounds_toArray, List.set_cons_zero, List.set_cons_succ]
  refine lexW_value (v := ?_) (by rfl) (by rfl) (fun W hW => ?_) ?_
  rotate_left
  · have l1 := run_loadSc (hW.get (g := w.heap.size) (x := a) (by simp)); go_simp <;> with_reducible rfl
  simp only [Act.put, List.setIfInBounds_toArray, List.set_cons_zero, List.set_cons_succ]
  refine lexW_value (v := ?_) (by rfl) (by rfl) (fun W hW => ?_) ?_
  rotate_left
  · have l1 := run_loadSc (hW.get (g := w.heap.size + 1) (x := b) (by simp)); go_simp <;> with_reducible rfl
  simp only [Act.put, List.setIfInBounds_toArray, List.set_cons_zero, List.set_cons_succ]
  refine lexW_value (v := ?_) (by rfl) (by rfl) (fun W hW => ?_) ?_
  rotate_left
  · have l1 := run_loadSc (hW.get (g := w.heap.size + 1 + 1) (x := c) (by simp)); go_simp <;> with_reducible rfl
  simp only [Act.put, List.setIfInBounds_toArray, List.set_cons_zero, List.set_cons_succ]
  refine' lexW_call (by rfl) (by rfl) (fun W hW => ?_) (fun W hW => ?_) ?_
  rotate_left 3
  · go_simp <;> first | with_reducible rfl | exact ⟨rfl, rfl⟩
  · with_reducible exact M4.out W (LK.out _ hW.below)
  simp only [Act.put, List.setIfInBounds_toArray, List.set_cons_zero, List.set_cons_succ]
  refine' lexW_call (by rfl) (by rfl) (fun W hW => ?_) (fun W hW => ?_) ?_
  rotate_left 3
  · go_simp <;> first | with_reducible rfl | exact ⟨rfl, rfl⟩
  · with_reducible exact M5.out W (LK.out _ hW.below)
  simp only [Act.put, List.setIfInBounds_toArray, List.set_cons_zero, List.set_cons_succ]
  refine lexW_value (v := ?_) (by rfl) (by rfl) (fun W hW => ?_) ?_
  rotate_left
  · skip; go_simp <;> with_reducible rfl
  simp only [Act.put, List.setIfInBounds_toArray, List.set_cons_zero, List.set_cons_succ]
  refine lexW_value (v := ?_) (by rfl) (by rfl) (fun W hW => ?_) ?_
  rotate_left
  · skip; go_simp <;> with_reducible rfl
  simp only [Act.put, List.setIfInBounds_toArray, List.set_cons_zero, List.set_cons_succ]
  refine lexW_value (v := ?_) (by rfl) (by rfl) (fun W hW => ?_) ?_
  rotate_left
  · skip; go_simp <;> with_reducible rfl
  simp only [Act.put, List.setIfInBounds_toArray, List.set_cons_zero, List.set_cons_succ]
  refine lexW_value (v := ?_) (by rfl) (by rfl) (fun W hW => ?_) ?_
  rotate_left
  · have l1 := run_loadSc (hW.get (g := w.heap.size) (x := a) (by simp)); go_simp <;> with_reducible rfl
  simp only [Act.put, List.setIfInBounds_toArray, List.set_cons_zero, List.set_cons_succ]
  refine lexW_value (v := ?_) (by rfl) (by rfl) (fun W hW => ?_) ?_
  rotate_left
  · skip; go_simp <;> with_reducible rfl
  simp only [Act.put, List.setIfInBounds_toArray, List.set_cons_zero, List.set_cons_succ]
  refine' lexW_call (by rfl) (by rfl) (fun W hW => ?_) (fun W hW => ?_) ?_
  rotate_left 3
  · go_simp <;> first | with_reducible rfl | exact ⟨rfl, rfl⟩
  · with_reducible exact M6.out W (LK.out _ hW.below)
  simp only [Act.put, List.setIfInBounds_toArray, List.set_cons_zero, List.set_cons_succ]
  refine lexW_value (v := ?_) (by rfl) (by rfl) (fun W hW => ?_) ?_
  rotate_left
  · have l1 := run_loadSc (hW.get (g := w.heap.size) (x := a) (by simp)); go_simp <;> with_reducible rfl
  simp only [Act.put, List.setIfInBounds_toArray, List.set_cons_zero, List.set_cons_succ]
  refine lexW_value (v := ?_) (by rfl) (by rfl) (fun W hW => ?_) ?_
  rotate_left
  · skip; go_simp <;> with_reducible rfl
  simp only [Act.put, List.setIfInBounds_toArray, List.set_cons_zero, List.set_cons_succ]
  refine' lexW_call (by rfl) (by rfl) (fun W hW => ?_) (fun W hW => ?_) ?_
  rotate_left 3
  · go_simp <;> first | with_reducible rfl | exact ⟨rfl, rfl⟩
  · with_reducible exact K8.out W (LK.out _ hW.below)
  simp only [Act.put, List.setIfInBounds_toArray, List.set_cons_zero, List.set_cons_succ]
  refine lexW_value (v := ?_) (by rfl) (by rfl) (fun W hW => ?_) ?_
  rotate_left
  · skip; go_simp <;> with_reducible rfl
  simp only [Act.put, List.setIfInBounds_toArray, List.set_cons_zero, List.set_cons_succ]
  refine lexW_value (v := ?_) (by rfl) (by rfl) (fun W hW => ?_) ?_
  rotate_left
  · skip; go_simp <;> with_reducible rfl
  simp only [Act.put, List.setIfInBounds_toArray, List.set_cons_zero, List.set_cons_succ]
  refine lexW_nil (fun b3 W3 F3 E3 => ?_)
  obtain rfl := lexEnd_none E3
  go_upto_region 4 with (fail)
  refine wp_region_lex 22 (fun _ => false) (fun _ _ _ => True) (Bl w (w.heap.size + 1 + 1 + 1) [(w.heap.size, a), (w.heap.size + 1, b), (w.heap.size + 1 + 1, c)]) (by kernel_rfl) (by kernel_rfl) F3.drew Bl.stay (fun _ _ _ _ _ _ => trivial) lex_none ?_
  simp only [List.take_succ_cons, List.take_zero, List.drop_succ_cons, List.drop_zero]
  refine lexW_value (v := ?_) (by rfl) (by rfl) (fun W hW => ?_) ?_
  rotate_left
  · skip; go_simp <;> with_reducible rfl
  simp only [Act.put, List.setIfInBounds_toArray, List.set_cons_zero, List.set_cons_succ]
  refine lexW_value (v := ?_) (by rfl) (by rfl) (fun W hW => ?_) ?_
  rotate_left
  · skip; go_simp <;> with_reducible rfl
  simp only [Act.put, List.setIfInBounds_toArray, List.set_cons_zero, List.set_cons_succ]
  refine lexW_value (v := ?_) (by rfl) (by rfl) (fun W hW => ?_) ?_
  rotate_left
  · skip; go_simp <;> with_reducible rfl
  simp only [Act.put, List.setIfInBounds_toArray, List.set_cons_zero, List.set_cons_succ]
  refine lexW_value (v := ?_) (by rfl) (by rfl) (fun W hW => ?_) ?_
  rotate_left
  · skip; go_simp <;> with_reducible rfl
  simp only [Act.put, List.setIfInBounds_toArray, List.set_cons_zero, List.set_cons_succ]
  refine lexW_value (v := ?_) (by rfl) (by rfl) (fun W hW => ?_) ?_
  rotate_left
  · skip; go_simp <;> with_reducible rfl
  simp only [Act.put, List.setIfInBounds_toArray, List.set_cons_zero, List.set_cons_succ]
  refine lexW_value (v := ?_) (by rfl) (by rfl) (fun W hW => ?_) ?_
  rotate_left
  · skip; go_simp <;> with_reducible rfl
  simp only [Act.put, List.setIfInBounds_toArray, List.set_cons_zero, List.set_cons_succ]
  refine lexW_value (v := ?_) (by rfl) (by rfl) (fun W hW => ?_) ?_
  rotate_left
  · skip; go_simp <;> with_reducible rfl
  simp only [Act.put, List.setIfInBounds_toArray, List.set_cons_zero, List.set_cons_succ]
  refine lexW_value (v := ?_) (by rfl) (by rfl) (fun W hW => ?_) ?_
  rotate_left
  · skip; go_simp <;> with_reducible rfl
  simp only [Act.put, List.setIfInBounds_toArray, List.set_cons_zero, List.set_cons_succ]
  refine lexW_value (v := ?_) (by rfl) (by rfl) (fun W hW => ?_) ?_
  rotate_left
  · have l1 := run_loadSc (hW.get (g := w.heap.size) (x := a) (by simp)); go_simp <;> with_reducible rfl
  simp only [Act.put, List.setIfInBounds_toArray, List.set_cons_zero, List.set_cons_succ]
  refine lexW_value (v := ?_) (by rfl) (by rfl) (fun W hW => ?_) ?_
  rotate_left
  · have l1 := run_loadSc (hW.get (g := w.heap.size + 1) (x := b) (by simp)); go_simp <;> with_reducible rfl
  simp only [Act.put, List.setIfInBounds_toArray, List.set_cons_zero, List.set_cons_succ]
  refine lexW_value (v := ?_) (by rfl) (by rfl) (fun W hW => ?_) ?_
  rotate_left
  · have l1 := run_loadSc (hW.get (g := w.heap.size + 1 + 1) (x := c) (by simp)); go_simp <;> with_reducible rfl
  simp only [Act.put, List.setIfInBounds_toArray, List.set_cons_zero, List.set_cons_succ]
  refine' lexW_call (by rfl) (by rfl) (fun W hW => ?_) (fun W hW => ?_) ?_
  rotate_left 3
  · go_simp <;> first | with_reducible rfl | exact ⟨rfl, rfl⟩
  · with_reducible exact K4.out W (LK.out _ hW.below)
  simp only [Act.put, List.setIfInBounds_toArray, List.set_cons_zero, List.set_cons_succ]
  refine' lexW_call (by rfl) (by rfl) (fun W hW => ?_) (fun W hW => ?_) ?_
  rotate_left 3
  · go_simp <;> first | with_reducible rfl | exact ⟨rfl, rfl⟩
  · with_reducible exact N1.out W (LK.out _ hW.below)
  simp only [Act.put, List.setIfInBounds_toArray, List.set_cons_zero, List.set_cons_succ]
  refine lexW_value (v := ?_) (by rfl) (by rfl) (fun W hW => ?_) ?_
  rotate_left
  · have l1 := run_loadSc (hW.get (g := w.heap.size) (x := a) (by simp)); go_simp <;> with_reducible rfl
  simp only [Act.put, List.setIfInBounds_toArray, List.set_cons_zero, List.set_cons_succ]
  refine lexW_value (v := ?_) (by rfl) (by rfl) (fun W hW => ?_) ?_
  rotate_left
  · have l1 := run_loadSc (hW.get (g := w.heap.size + 1) (x := b) (by simp)); go_simp <;> with_reducible rfl
  simp only [Act.put, List.setIfInBounds_toArray, List.set_cons_zero, List.set_cons_succ]
  refine' lexW_call (by rfl) (by rfl) (fun W hW => ?_) (fun W hW => ?_) ?_
  rotate_left 3
  · go_simp <;> first | with_reducible rfl | exact ⟨rfl, rfl⟩
  · with_reducible exact M1.out W (LK.out _ hW.below)
  simp only [Act.put, List.setIfInBounds_toArray, List.set_cons_zero, List.set_cons_succ]
  refine lexW_value (v := ?_) (by rfl) (by rfl) (fun W hW => ?_) ?_
  rotate_left
  · have l1 := run_loadSc (hW.get (g := w.heap.size) (x := a) (by simp)); go_simp <;> with_reducible rfl
  simp only [Act.put, List.setIfInBounds_toArray, List.set_cons_zero, List.set_cons_succ]
  refine lexW_value (v := ?_) (by rfl) (by rfl) (fun W hW => ?_) ?_
  rotate_left
  · have l1 := run_loadSc (hW.get (g := w.heap.size + 1 + 1) (x := c) (by simp)); go_simp <;> with_reducible rfl
  simp only [Act.put, List.setIfInBounds_toArray, List.set_cons_zero, List.set_cons_succ]
  refine' lexW_call (by rfl) (by rfl) (fun W hW => ?_) (fun W hW => ?_) ?_
  rotate_left 3
  · go_simp <;> first | with_reducible rfl | exact ⟨rfl, rfl⟩
  · with_reducible exact N2.out W (LK.out _ hW.below)
  simp only [Act.put, List.setIfInBounds_toArray, List.set_cons_zero, List.set_cons_succ]
  refine' lexW_call (by rfl) (by rfl) (fun W hW => ?_) (fun W hW => ?_) ?_
  rotate_left 3
  · go_simp <;> first | with_reducible rfl | exact ⟨rfl, rfl⟩
  · with_reducible exact N3.out W (LK.out _ hW.below)
  simp only [Act.put, List.setIfInBounds_toArray, List.set_cons_zero, List.set_cons_succ]
  refine lexW_value (v := ?_) (by rfl) (by rfl) (fun W hW => ?_) ?_
  rotate_left
  · skip; go_simp <;> with_reducible rfl
  simp only [Act.put, List.setIfInBounds_toArray, List.set_cons_zero, List.set_cons_succ]
  refine lexW_value (v := ?_) (by rfl) (by rfl) (fun W hW => ?_) ?_
  rotate_left
  · skip; go_simp <;> with_reducible rfl
  simp only [Act.put, List.setIfInBounds_toArray, List.set_cons_zero, List.set_cons_succ]
  refine lexW_nil (fun b4 W4 F4 E4 => ?_)
  obtain rfl := lexEnd_none E4
  go_wp2
  go_ret
  exact ⟨rfl, F4.below⟩
end
end Go.Proofs.YthhcjknkmdaeeaaDoor
