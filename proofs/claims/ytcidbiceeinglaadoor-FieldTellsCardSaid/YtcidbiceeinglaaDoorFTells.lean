/-
  FieldTells: sums, differences, products, what is below 0, bytes, and which numbers are one, are what the document says. Whatever the numbers, and the bytes, are.
-/
import Derived.Test.YtcidbiceeinglaaDoorFLaw
namespace Go.Proofs.YtcidbiceeinglaaDoor
open Go.RowKit

/-- Bytes read out of their block, under a name that the walk does not open. -/
def loadBy (t : TypeId) (a : Addr) : Sem Value := loadVar t a
theorem load_by (a : Addr) : loadVar 25 a = loadBy 25 a := rfl
theorem run_loadBy {w : World} {g : Nat} {l : List UInt8} (hg : HoldsB w 25 g l) (hl : l.length = 32) : (loadBy 25 ⟨g, 0, none⟩).run Tryd.prog w = .ok (.agg (l.map bv).toArray) w :=
  run_loadVar_row w g 25 25 _ (0, 0) _ hg Tryd.underlying25 rfl (by rw [Tryd.infoB32]; simp [hl])
/-- The blocks of the law's call. -/
structure FT (w : World) (a b : Nat) (l : List UInt8) (W : World) : Prop where
  f : Bl w (w.heap.size + 1 + 1) [(w.heap.size, a), (w.heap.size + 1, b)] W
  h : HoldsB W 25 (w.heap.size + 1 + 1) l
theorem FT.stay {w : World} {a b : Nat} {l : List UInt8} : ∀ W W', FT w a b l W → Below W.heap.size W W' → FT w a b l W' := fun _ _ p hb => ⟨Bl.stay _ _ p.f hb, p.h.keep hb p.h.lt⟩
theorem ft_start (w : World) (m n : Nat) (l : List UInt8) : FT w m n l (((w.alloc (.cells ((lims m).map nv).toArray 24)).alloc (.cells ((lims n).map nv).toArray 24)).alloc (.cells (l.map bv).toArray 25)) := by
  obtain ⟨a, a2, b, e⟩ := fe_start2 w m n _ _ rfl rfl
  exact ⟨Bl.stay _ _ (Bl.two a a2 b) ((Below.refl _ _).alloc (Nat.le_refl _) _), holdsB_new _ _ _ _ _ (by rw [e]) rfl⟩
theorem eql_small {n : Nat} (hn : n < 18446744073709551616) (W : World) : (binOp .eql 24 (.agg ((lims n).map nv).toArray) (.agg #[.int .u64 (n : Int), .int .u64 0, .int .u64 0, .int .u64 0])).run Tryd.prog W = .ok (.bool true) W := by
  have hb : n < big := by unfold big; omega
  have h := run_eql_fe n n W hb hb
  rw [decide_eq_true rfl] at h
  rw [small_fev hn]
  exact h

section
attribute [local go_sem ↓] load_by
attribute [local go_sem ↓] load_fe

set_option maxRecDepth 100000 in
set_option maxHeartbeats 4000000 in
theorem FieldTells_any (a b : Nat) (l : List UInt8) (n : Nat) (w : World) (ha : a < big) (hb : b < big) (hl : l.length = 32) (hn : n < 18446744073709551616) (L0 : Laid w) :
    Calls Tryd.prog 3 #[fev a, fev b, .agg (l.map bv).toArray, .int .u64 (n : Int)] w fun e w' => e = .returned (.bool true) ∧ Below w.heap.size w w' := by
  have hsz0 := L0.size
  have LK : Hid (∀ W, Below w.heap.size w W → Laid W) := Lib.hid fun W hb => L0.keep hb hsz0
  have AW : Hid (∀ W, Laid W → Calls Tryd.prog 9 #[] W fun e w' => e = .returned (.bool true) ∧ Below W.heap.size W w') := Lib.hid fun W L => awake_any W L
  obtain ⟨fa, hfa⟩ : ∃ f, f = toF a := ⟨_, rfl⟩
  obtain ⟨fb, hfb⟩ : ∃ f, f = toF b := ⟨_, rfl⟩
  obtain ⟨s, hs⟩ : ∃ x : F, x = fa + fb := ⟨_, rfl⟩
  obtain ⟨d, hd⟩ : ∃ x : F, x = fa - fb := ⟨_, rfl⟩
  obtain ⟨p, hp⟩ : ∃ x : F, x = fa * fb := ⟨_, rfl⟩
  obtain ⟨m, hm⟩ : ∃ x : F, x = -fa := ⟨_, rfl⟩
  have K1 : Hid (∀ W, Calls Tryd.prog 10 #[.agg ((lims a).map nv).toArray, .agg ((lims b).map nv).toArray] W fun e w' => e = .returned (.agg ((lims s.val).map nv).toArray) ∧ Below W.heap.size W w') := Lib.hid fun W => by
    have h := Add_any a b W ha hb
    simp only [← hfa, ← hfb] at h
    rw [show fa + fb = s by grind] at h
    exact h
  have K2 : Hid (∀ W, Laid W → Calls Tryd.prog 12 #[.agg ((lims a).map nv).toArray, .agg ((lims b).map nv).toArray] W fun e w' => e = .returned (.agg ((lims d.val).map nv).toArray) ∧ Below W.heap.size W w') := Lib.hid fun W L => by
    have h := Sub_any a b W ha hb L
    simp only [← hfa, ← hfb] at h
    rw [show fa - fb = d by grind] at h
    exact h
  have K3 : Hid (∀ W, Calls Tryd.prog 14 #[.agg ((lims a).map nv).toArray, .agg ((lims b).map nv).toArray] W fun e w' => e = .returned (.agg ((lims p.val).map nv).toArray) ∧ Below W.heap.size W w') := Lib.hid fun W => by
    have h := Mul_any a b W ha hb
    simp only [← hfa, ← hfb] at h
    rw [show fa * fb = p by grind] at h
    exact h
  have K4 : Hid (∀ W, Laid W → Calls Tryd.prog 16 #[.agg ((lims a).map nv).toArray] W fun e w' => e = .returned (.agg ((lims m.val).map nv).toArray) ∧ Below W.heap.size W w') := Lib.hid fun W L => by
    have h := Neg_any a W ha L
    simp only [← hfa] at h
    rw [show -fa = m by grind] at h
    exact h
  have R1 : Hid (∀ W, Calls Tryd.prog 11 #[.agg ((lims a).map nv).toArray, .agg ((lims b).map nv).toArray] W fun e w' => e = .returned (.agg ((lims s.val).map nv).toArray) ∧ Below W.heap.size W w') := Lib.hid fun W => by
    have h := rAdd_any a b W ha hb
    simp only [← hfa, ← hfb] at h
    rw [show fa + fb = s by grind] at h
    exact h
  have R2 : Hid (∀ W, Calls Tryd.prog 13 #[.agg ((lims a).map nv).toArray, .agg ((lims b).map nv).toArray] W fun e w' => e = .returned (.agg ((lims d.val).map nv).toArray) ∧ Below W.heap.size W w') := Lib.hid fun W => by
    have h := rSub_any a b W ha hb
    simp only [← hfa, ← hfb] at h
    rw [show fa - fb = d by grind] at h
    exact h
  have R3 : Hid (∀ W, Calls Tryd.prog 15 #[.agg ((lims a).map nv).toArray, .agg ((lims b).map nv).toArray] W fun e w' => e = .returned (.agg ((lims p.val).map nv).toArray) ∧ Below W.heap.size W w') := Lib.hid fun W => by
    have h := rMul_any a b W ha hb
    simp only [← hfa, ← hfb] at h
    rw [show fa * fb = p by grind] at h
    exact h
  have R4 : Hid (∀ W, Calls Tryd.prog 17 #[.agg ((lims a).map nv).toArray] W fun e w' => e = .returned (.agg ((lims m.val).map nv).toArray) ∧ Below W.heap.size W w') := Lib.hid fun W => by
    have h := rNeg_any a W ha
    simp only [← hfa] at h
    rw [show -fa = m by grind] at h
    exact h
  obtain ⟨x, hx⟩ : ∃ x, x = toF (leNum l) := ⟨_, rfl⟩
  obtain ⟨bl, hbl⟩ : ∃ bl, bl = leBytes fa.val 32 := ⟨_, rfl⟩
  have HBL : Hid (bl.length = 32) := Lib.hid (by rw [hbl]; exact leBytes_length _ _)
  obtain ⟨sm, hsm⟩ : ∃ sm, sm = decide (fa = fb) := ⟨_, rfl⟩
  obtain ⟨od, hod⟩ : ∃ od, od = fodd fa := ⟨_, rfl⟩
  have K5 : Hid (∀ W, Calls Tryd.prog 18 #[.agg (l.map bv).toArray] W fun e w' => e = .returned (.agg ((lims x.val).map nv).toArray) ∧ Below W.heap.size W w') := Lib.hid fun W => by rw [hx]; exact Of_any l W hl
  have R5 : Hid (∀ W, Calls Tryd.prog 19 #[.agg (l.map bv).toArray] W fun e w' => e = .returned (.agg ((lims x.val).map nv).toArray) ∧ Below W.heap.size W w') := Lib.hid fun W => by rw [hx]; exact rOf_any l W hl
  have K6 : Hid (∀ W, Calls Tryd.prog 20 #[.agg ((lims a).map nv).toArray] W fun e w' => e = .returned (.agg (bl.map bv).toArray) ∧ Below W.heap.size W w') := Lib.hid fun W => by rw [hbl, hfa]; exact Bytes_any a W ha
  have R6 : Hid (∀ W, Calls Tryd.prog 21 #[.agg ((lims a).map nv).toArray] W fun e w' => e = .returned (.agg (bl.map bv).toArray) ∧ Below W.heap.size W w') := Lib.hid fun W => by rw [hbl, hfa]; exact rBytes_any a W ha
  have K7 : Hid (∀ W, Calls Tryd.prog 22 #[.int .u64 (n : Int)] W fun e w' => e = .returned (.agg ((lims n).map nv).toArray) ∧ Below W.heap.size W w') := Lib.hid fun W => Small_any n W hn
  have K8 : Hid (∀ W, Calls Tryd.prog 23 #[.agg ((lims a).map nv).toArray, .agg ((lims b).map nv).toArray] W fun e w' => e = .returned (.bool sm) ∧ Below W.heap.size W w') := Lib.hid fun W => by rw [hsm, hfa, hfb]; exact Same_any a b W ha hb
  have R8 : Hid (∀ W, Calls Tryd.prog 24 #[.agg ((lims a).map nv).toArray, .agg ((lims b).map nv).toArray] W fun e w' => e = .returned (.bool sm) ∧ Below W.heap.size W w') := Lib.hid fun W => by rw [hsm, hfa, hfb]; exact rSame_any a b W ha hb
  have K9 : Hid (∀ W, Calls Tryd.prog 25 #[.agg ((lims a).map nv).toArray] W fun e w' => e = .returned (.bool od) ∧ Below W.heap.size W w') := Lib.hid fun W => by rw [hod, hfa]; exact Odd_any a W ha
  have R9 : Hid (∀ W, Calls Tryd.prog 26 #[.agg ((lims a).map nv).toArray] W fun e w' => e = .returned (.bool od) ∧ Below W.heap.size W w') := Lib.hid fun W => by rw [hod, hfa]; exact rOdd_any a W ha
  have HL := Lib.hid hl
  have qs := fun x W => eql_same x W
  have gf := fun x y c d W => run_guard_fe x y c d W
  have qn := fun W => eql_small hn W
  have qb : ∀ W, (binOp .eql 25 (.agg (bl.map bv).toArray) (.agg (bl.map bv).toArray)).run Tryd.prog W = .ok (.bool true) W := fun W => by
    have h := run_eql_b bl bl HBL.out HBL.out W
    rw [decide_eq_true rfl] at h
    exact h
  have gb := fun x y c d W => run_guard_b x y c d W
  clear hx hbl hsm hod hfa hfb hs hd hp hm ha hb hl hn L0 hsz0
  have F0 := ft_start w a b l
  rw [fev_eq, fev_eq]
  go_enter Tryd.func3, Tryd.ntmps3
  go_upto_region 1 with (fail)
  generalize ((w.alloc (.cells ((lims a).map nv).toArray 24)).alloc (.cells ((lims b).map nv).toArray 24)).alloc (.cells (l.map bv).toArray 25) = wv at *
  go_upto_region 2 with (first
    | (go_at_call 9
       with_reducible refine (AW.out _ (LK.out _ F0.f.below)).mono ?_
       rintro e w1 ⟨rfl, hb1⟩
       have F1 := FT.stay _ _ F0 hb1)
    | fail)
  clear F0 hb1
  refine wp_region_lex 32 (fun _ => false) (MadeFe 0) (FT w a b l) (by kernel_rfl) (by kernel_rfl) (FT.stay _ _ F1 (Below.refl _ w1).drew) FT.stay MadeFe.stay lex_none ?_
  simp only [List.take_succ_cons, List.take_zero, List.drop_succ_cons, List.drop_zero]
  refine lexW_value (v := ?_) (by rfl) (by rfl) (fun W hW => ?_) ?_
  rotate_left
  · have l1 := run_loadFe (hW.f.get (g := w.heap.size) (x := a) (by simp)); go_simp <;> with_reducible rfl
  simp only [Act.put, List.setIfInBounds_toArray, List.set_cons_zero, List.set_cons_succ]
  refine lexW_value (v := ?_) (by rfl) (by rfl) (fun W hW => ?_) ?_
  rotate_left
  · have l1 := run_loadFe (hW.f.get (g := w.heap.size + 1) (x := b) (by simp)); go_simp <;> with_reducible rfl
  simp only [Act.put, List.setIfInBounds_toArray, List.set_cons_zero, List.set_cons_succ]
  refine' lexW_call (by rfl) (by rfl) (fun W hW => ?_) (fun W hW => ?_) ?_
  rotate_left 3
  · go_simp <;> first | with_reducible rfl | exact ⟨rfl, rfl⟩
  · with_reducible exact K1.out W
  simp only [Act.put, List.setIfInBounds_toArray, List.set_cons_zero, List.set_cons_succ]
  refine lexW_value (v := ?_) (by rfl) (by rfl) (fun W hW => ?_) ?_
  rotate_left
  · have l1 := run_loadFe (hW.f.get (g := w.heap.size) (x := a) (by simp)); go_simp <;> with_reducible rfl
  simp only [Act.put, List.setIfInBounds_toArray, List.set_cons_zero, List.set_cons_succ]
  refine lexW_value (v := ?_) (by rfl) (by rfl) (fun W hW => ?_) ?_
  rotate_left
  · have l1 := run_loadFe (hW.f.get (g := w.heap.size + 1) (x := b) (by simp)); go_simp <;> with_reducible rfl
  simp only [Act.put, List.setIfInBounds_toArray, List.set_cons_zero, List.set_cons_succ]
  refine' lexW_call (by rfl) (by rfl) (fun W hW => ?_) (fun W hW => ?_) ?_
  rotate_left 3
  · go_simp <;> first | with_reducible rfl | exact ⟨rfl, rfl⟩
  · with_reducible exact R1.out W
  simp only [Act.put, List.setIfInBounds_toArray, List.set_cons_zero, List.set_cons_succ]
  refine lexW_value (v := ?_) (by rfl) (by rfl) (fun W hW => ?_) ?_
  rotate_left
  · skip; go_simp <;> with_reducible rfl
  simp only [Act.put, List.setIfInBounds_toArray, List.set_cons_zero, List.set_cons_succ]
  refine lexW_value (v := ?_) (by rfl) (by rfl) (fun W hW => ?_) ?_
  rotate_left
  · skip; go_simp <;> with_reducible rfl
  simp only [Act.put, List.setIfInBounds_toArray, List.set_cons_zero, List.set_cons_succ]
  refine lexW_value (v := ?_) (by rfl) (by rfl) (fun W hW => ?_) ?_
  rotate_left
  · have l1 := run_loadFe (hW.f.get (g := w.heap.size) (x := a) (by simp)); go_simp <;> with_reducible rfl
  simp only [Act.put, List.setIfInBounds_toArray, List.set_cons_zero, List.set_cons_succ]
  refine lexW_value (v := ?_) (by rfl) (by rfl) (fun W hW => ?_) ?_
  rotate_left
  · have l1 := run_loadFe (hW.f.get (g := w.heap.size + 1) (x := b) (by simp)); go_simp <;> with_reducible rfl
  simp only [Act.put, List.setIfInBounds_toArray, List.set_cons_zero, List.set_cons_succ]
  refine' lexW_call (by rfl) (by rfl) (fun W hW => ?_) (fun W hW => ?_) ?_
  rotate_left 3
  · go_simp <;> first | with_reducible rfl | exact ⟨rfl, rfl⟩
  · with_reducible exact K2.out W (LK.out _ hW.f.below)
  simp only [Act.put, List.setIfInBounds_toArray, List.set_cons_zero, List.set_cons_succ]
  refine lexW_value (v := ?_) (by rfl) (by rfl) (fun W hW => ?_) ?_
  rotate_left
  · have l1 := run_loadFe (hW.f.get (g := w.heap.size) (x := a) (by simp)); go_simp <;> with_reducible rfl
  simp only [Act.put, List.setIfInBounds_toArray, List.set_cons_zero, List.set_cons_succ]
  refine lexW_value (v := ?_) (by rfl) (by rfl) (fun W hW => ?_) ?_
  rotate_left
  · have l1 := run_loadFe (hW.f.get (g := w.heap.size + 1) (x := b) (by simp)); go_simp <;> with_reducible rfl
  simp only [Act.put, List.setIfInBounds_toArray, List.set_cons_zero, List.set_cons_succ]
  refine' lexW_call (by rfl) (by rfl) (fun W hW => ?_) (fun W hW => ?_) ?_
  rotate_left 3
  · go_simp <;> first | with_reducible rfl | exact ⟨rfl, rfl⟩
  · with_reducible exact R2.out W
  simp only [Act.put, List.setIfInBounds_toArray, List.set_cons_zero, List.set_cons_succ]
  refine lexW_value (v := ?_) (by rfl) (by rfl) (fun W hW => ?_) ?_
  rotate_left
  · skip; go_simp <;> with_reducible rfl
  simp only [Act.put, List.setIfInBounds_toArray, List.set_cons_zero, List.set_cons_succ]
  refine lexW_value (v := ?_) (by rfl) (by rfl) (fun W hW => ?_) ?_
  rotate_left
  · skip; go_simp <;> with_reducible rfl
  simp only [Act.put, List.setIfInBounds_toArray, List.set_cons_zero, List.set_cons_succ]
  refine lexW_value (v := ?_) (by rfl) (by rfl) (fun W hW => ?_) ?_
  rotate_left
  · skip; go_simp <;> with_reducible rfl
  simp only [Act.put, List.setIfInBounds_toArray, List.set_cons_zero, List.set_cons_succ]
  refine lexW_value (v := ?_) (by rfl) (by rfl) (fun W hW => ?_) ?_
  rotate_left
  · have l1 := run_loadFe (hW.f.get (g := w.heap.size) (x := a) (by simp)); go_simp <;> with_reducible rfl
  simp only [Act.put, List.setIfInBounds_toArray, List.set_cons_zero, List.set_cons_succ]
  refine lexW_value (v := ?_) (by rfl) (by rfl) (fun W hW => ?_) ?_
  rotate_left
  · have l1 := run_loadFe (hW.f.get (g := w.heap.size + 1) (x := b) (by simp)); go_simp <;> with_reducible rfl
  simp only [Act.put, List.setIfInBounds_toArray, List.set_cons_zero, List.set_cons_succ]
  refine' lexW_call (by rfl) (by rfl) (fun W hW => ?_) (fun W hW => ?_) ?_
  rotate_left 3
  · go_simp <;> first | with_reducible rfl | exact ⟨rfl, rfl⟩
  · with_reducible exact K3.out W
  simp only [Act.put, List.setIfInBounds_toArray, List.set_cons_zero, List.set_cons_succ]
  refine lexW_value (v := ?_) (by rfl) (by rfl) (fun W hW => ?_) ?_
  rotate_left
  · have l1 := run_loadFe (hW.f.get (g := w.heap.size) (x := a) (by simp)); go_simp <;> with_reducible rfl
  simp only [Act.put, List.setIfInBounds_toArray, List.set_cons_zero, List.set_cons_succ]
  refine lexW_value (v := ?_) (by rfl) (by rfl) (fun W hW => ?_) ?_
  rotate_left
  · have l1 := run_loadFe (hW.f.get (g := w.heap.size + 1) (x := b) (by simp)); go_simp <;> with_reducible rfl
  simp only [Act.put, List.setIfInBounds_toArray, List.set_cons_zero, List.set_cons_succ]
  refine' lexW_call (by rfl) (by rfl) (fun W hW => ?_) (fun W hW => ?_) ?_
  rotate_left 3
  · go_simp <;> first | with_reducible rfl | exact ⟨rfl, rfl⟩
  · with_reducible exact R3.out W
  simp only [Act.put, List.setIfInBounds_toArray, List.set_cons_zero, List.set_cons_succ]
  refine lexW_value (v := ?_) (by rfl) (by rfl) (fun W hW => ?_) ?_
  rotate_left
  · skip; go_simp <;> with_reducible rfl
  simp only [Act.put, List.setIfInBounds_toArray, List.set_cons_zero, List.set_cons_succ]
  refine lexW_value (v := ?_) (by rfl) (by rfl) (fun W hW => ?_) ?_
  rotate_left
  · skip; go_simp <;> with_reducible rfl
  simp only [Act.put, List.setIfInBounds_toArray, List.set_cons_zero, List.set_cons_succ]
  refine lexW_value (v := ?_) (by rfl) (by rfl) (fun W hW => ?_) ?_
  rotate_left
  · skip; go_simp <;> with_reducible rfl
  simp only [Act.put, List.setIfInBounds_toArray, List.set_cons_zero, List.set_cons_succ]
  refine lexW_value (v := ?_) (by rfl) (by rfl) (fun W hW => ?_) ?_
  rotate_left
  · have l1 := run_loadFe (hW.f.get (g := w.heap.size) (x := a) (by simp)); go_simp <;> with_reducible rfl
  simp only [Act.put, List.setIfInBounds_toArray, List.set_cons_zero, List.set_cons_succ]
  refine' lexW_call (by rfl) (by rfl) (fun W hW => ?_) (fun W hW => ?_) ?_
  rotate_left 3
  · go_simp <;> first | with_reducible rfl | exact ⟨rfl, rfl⟩
  · with_reducible exact K4.out W (LK.out _ hW.f.below)
  simp only [Act.put, List.setIfInBounds_toArray, List.set_cons_zero, List.set_cons_succ]
  refine lexW_value (v := ?_) (by rfl) (by rfl) (fun W hW => ?_) ?_
  rotate_left
  · have l1 := run_loadFe (hW.f.get (g := w.heap.size) (x := a) (by simp)); go_simp <;> with_reducible rfl
  simp only [Act.put, List.setIfInBounds_toArray, List.set_cons_zero, List.set_cons_succ]
  refine' lexW_call (by rfl) (by rfl) (fun W hW => ?_) (fun W hW => ?_) ?_
  rotate_left 3
  · go_simp <;> first | with_reducible rfl | exact ⟨rfl, rfl⟩
  · with_reducible exact R4.out W
  simp only [Act.put, List.setIfInBounds_toArray, List.set_cons_zero, List.set_cons_succ]
  refine lexW_value (v := ?_) (by rfl) (by rfl) (fun W hW => ?_) ?_
  rotate_left
  · skip; go_simp <;> with_reducible rfl
  simp only [Act.put, List.setIfInBounds_toArray, List.set_cons_zero, List.set_cons_succ]
  refine lexW_value (v := ?_) (by rfl) (by rfl) (fun W hW => ?_) ?_
  rotate_left
  · skip; go_simp <;> with_reducible rfl
  simp only [Act.put, List.setIfInBounds_toArray, List.set_cons_zero, List.set_cons_succ]
  refine lexW_nil (fun b2 W2 F2 E2 => ?_)
  obtain rfl := lexEnd_none E2
  go_upto_region 3 with (fail)
  refine wp_region_lex 41 (fun _ => false) (MadeFe 0) (FT w a b l) (by kernel_rfl) (by kernel_rfl) (FT.stay _ _ F2 (Below.refl _ W2).drew) FT.stay MadeFe.stay lex_none ?_
  simp only [List.take_succ_cons, List.take_zero, List.drop_succ_cons, List.drop_zero]
  refine lexW_value (v := ?_) (by rfl) (by rfl) (fun W hW => ?_) ?_
  rotate_left
  · skip; go_simp <;> with_reducible rfl
  simp only [Act.put, List.setIfInBounds_toArray, List.set_cons_zero, List.set_cons_succ]
  refine lexW_value (v := ?_) (by rfl) (by rfl) (fun W hW => ?_) ?_
  rotate_left
  · skip; go_simp <;> with_reducible rfl
  simp only [Act.put, List.setIfInBounds_toArray, List.set_cons_zero, List.set_cons_succ]
  refine lexW_value (v := ?_) (by rfl) (by rfl) (fun W hW => ?_) ?_
  rotate_left
  · skip; go_simp <;> with_reducible rfl
  simp only [Act.put, List.setIfInBounds_toArray, List.set_cons_zero, List.set_cons_succ]
  refine lexW_value (v := ?_) (by rfl) (by rfl) (fun W hW => ?_) ?_
  rotate_left
  · skip; go_simp <;> with_reducible rfl
  simp only [Act.put, List.setIfInBounds_toArray, List.set_cons_zero, List.set_cons_succ]
  refine lexW_value (v := ?_) (by rfl) (by rfl) (fun W hW => ?_) ?_
  rotate_left
  · skip; go_simp <;> with_reducible rfl
  simp only [Act.put, List.setIfInBounds_toArray, List.set_cons_zero, List.set_cons_succ]
  refine lexW_value (v := ?_) (by rfl) (by rfl) (fun W hW => ?_) ?_
  rotate_left
  · have l1 := run_loadBy hW.h HL.out; go_simp <;> with_reducible rfl
  simp only [Act.put, List.setIfInBounds_toArray, List.set_cons_zero, List.set_cons_succ]
  refine' lexW_call (by rfl) (by rfl) (fun W hW => ?_) (fun W hW => ?_) ?_
  rotate_left 3
  · go_simp <;> first | with_reducible rfl | exact ⟨rfl, rfl⟩
  · with_reducible exact K5.out W
  simp only [Act.put, List.setIfInBounds_toArray, List.set_cons_zero, List.set_cons_succ]
  refine lexW_value (v := ?_) (by rfl) (by rfl) (fun W hW => ?_) ?_
  rotate_left
  · have l1 := run_loadBy hW.h HL.out; go_simp <;> with_reducible rfl
  simp only [Act.put, List.setIfInBounds_toArray, List.set_cons_zero, List.set_cons_succ]
  refine' lexW_call (by rfl) (by rfl) (fun W hW => ?_) (fun W hW => ?_) ?_
  rotate_left 3
  · go_simp <;> first | with_reducible rfl | exact ⟨rfl, rfl⟩
  · with_reducible exact R5.out W
  simp only [Act.put, List.setIfInBounds_toArray, List.set_cons_zero, List.set_cons_succ]
  refine lexW_value (v := ?_) (by rfl) (by rfl) (fun W hW => ?_) ?_
  rotate_left
  · skip; go_simp <;> with_reducible rfl
  simp only [Act.put, List.setIfInBounds_toArray, List.set_cons_zero, List.set_cons_succ]
  refine lexW_value (v := ?_) (by rfl) (by rfl) (fun W hW => ?_) ?_
  rotate_left
  · skip; go_simp <;> with_reducible rfl
  simp only [Act.put, List.setIfInBounds_toArray, List.set_cons_zero, List.set_cons_succ]
  refine lexW_value (v := ?_) (by rfl) (by rfl) (fun W hW => ?_) ?_
  rotate_left
  · skip; go_simp <;> with_reducible rfl
  simp only [Act.put, List.setIfInBounds_toArray, List.set_cons_zero, List.set_cons_succ]
  refine lexW_value (v := ?_) (by rfl) (by rfl) (fun W hW => ?_) ?_
  rotate_left
  · have l1 := run_loadFe (hW.f.get (g := w.heap.size) (x := a) (by simp)); go_simp <;> with_reducible rfl
  simp only [Act.put, List.setIfInBounds_toArray, List.set_cons_zero, List.set_cons_succ]
  refine' lexW_call (by rfl) (by rfl) (fun W hW => ?_) (fun W hW => ?_) ?_
  rotate_left 3
  · go_simp <;> first | with_reducible rfl | exact ⟨rfl, rfl⟩
  · with_reducible exact K6.out W
  simp only [Act.put, List.setIfInBounds_toArray, List.set_cons_zero, List.set_cons_succ]
  refine lexW_value (v := ?_) (by rfl) (by rfl) (fun W hW => ?_) ?_
  rotate_left
  · have l1 := run_loadFe (hW.f.get (g := w.heap.size) (x := a) (by simp)); go_simp <;> with_reducible rfl
  simp only [Act.put, List.setIfInBounds_toArray, List.set_cons_zero, List.set_cons_succ]
  refine' lexW_call (by rfl) (by rfl) (fun W hW => ?_) (fun W hW => ?_) ?_
  rotate_left 3
  · go_simp <;> first | with_reducible rfl | exact ⟨rfl, rfl⟩
  · with_reducible exact R6.out W
  simp only [Act.put, List.setIfInBounds_toArray, List.set_cons_zero, List.set_cons_succ]
  refine lexW_value (v := ?_) (by rfl) (by rfl) (fun W hW => ?_) ?_
  rotate_left
  · skip; go_simp <;> with_reducible rfl
  simp only [Act.put, List.setIfInBounds_toArray, List.set_cons_zero, List.set_cons_succ]
  refine lexW_value (v := ?_) (by rfl) (by rfl) (fun W hW => ?_) ?_
  rotate_left
  · skip; go_simp <;> with_reducible rfl
  simp only [Act.put, List.setIfInBounds_toArray, List.set_cons_zero, List.set_cons_succ]
  refine lexW_value (v := ?_) (by rfl) (by rfl) (fun W hW => ?_) ?_
  rotate_left
  · skip; go_simp <;> with_reducible rfl
  simp only [Act.put, List.setIfInBounds_toArray, List.set_cons_zero, List.set_cons_succ]
  refine lexW_value (v := ?_) (by rfl) (by rfl) (fun W hW => ?_) ?_
  rotate_left
  · skip; go_simp <;> with_reducible rfl
  simp only [Act.put, List.setIfInBounds_toArray, List.set_cons_zero, List.set_cons_succ]
  refine' lexW_call (by rfl) (by rfl) (fun W hW => ?_) (fun W hW => ?_) ?_
  rotate_left 3
  · go_simp <;> first | with_reducible rfl | exact ⟨rfl, rfl⟩
  · with_reducible exact K7.out W
  simp only [Act.put, List.setIfInBounds_toArray, List.set_cons_zero, List.set_cons_succ]
  refine lexW_value (v := ?_) (by rfl) (by rfl) (fun W hW => ?_) ?_
  rotate_left
  · skip; go_simp <;> with_reducible rfl
  simp only [Act.put, List.setIfInBounds_toArray, List.set_cons_zero, List.set_cons_succ]
  refine lexW_value (v := ?_) (by rfl) (by rfl) (fun W hW => ?_) ?_
  rotate_left
  · skip; go_simp <;> with_reducible rfl
  simp only [Act.put, List.setIfInBounds_toArray, List.set_cons_zero, List.set_cons_succ]
  refine lexW_value (v := ?_) (by rfl) (by rfl) (fun W hW => ?_) ?_
  rotate_left
  · skip; go_simp <;> with_reducible rfl
  simp only [Act.put, List.setIfInBounds_toArray, List.set_cons_zero, List.set_cons_succ]
  refine lexW_value (v := ?_) (by rfl) (by rfl) (fun W hW => ?_) ?_
  rotate_left
  · skip; go_simp <;> with_reducible rfl
  simp only [Act.put, List.setIfInBounds_toArray, List.set_cons_zero, List.set_cons_succ]
  refine lexW_value (v := ?_) (by rfl) (by rfl) (fun W hW => ?_) ?_
  rotate_left
  · skip; go_simp <;> with_reducible rfl
  simp only [Act.put, List.setIfInBounds_toArray, List.set_cons_zero, List.set_cons_succ]
  refine lexW_value (v := ?_) (by rfl) (by rfl) (fun W hW => ?_) ?_
  rotate_left
  · have l1 := run_loadFe (hW.f.get (g := w.heap.size) (x := a) (by simp)); go_simp <;> with_reducible rfl
  simp only [Act.put, List.setIfInBounds_toArray, List.set_cons_zero, List.set_cons_succ]
  refine lexW_value (v := ?_) (by rfl) (by rfl) (fun W hW => ?_) ?_
  rotate_left
  · have l1 := run_loadFe (hW.f.get (g := w.heap.size + 1) (x := b) (by simp)); go_simp <;> with_reducible rfl
  simp only [Act.put, List.setIfInBounds_toArray, List.set_cons_zero, List.set_cons_succ]
  refine' lexW_call (by rfl) (by rfl) (fun W hW => ?_) (fun W hW => ?_) ?_
  rotate_left 3
  · go_simp <;> first | with_reducible rfl | exact ⟨rfl, rfl⟩
  · with_reducible exact K8.out W
  simp only [Act.put, List.setIfInBounds_toArray, List.set_cons_zero, List.set_cons_succ]
  refine lexW_value (v := ?_) (by rfl) (by rfl) (fun W hW => ?_) ?_
  rotate_left
  · have l1 := run_loadFe (hW.f.get (g := w.heap.size) (x := a) (by simp)); go_simp <;> with_reducible rfl
  simp only [Act.put, List.setIfInBounds_toArray, List.set_cons_zero, List.set_cons_succ]
  refine lexW_value (v := ?_) (by rfl) (by rfl) (fun W hW => ?_) ?_
  rotate_left
  · have l1 := run_loadFe (hW.f.get (g := w.heap.size + 1) (x := b) (by simp)); go_simp <;> with_reducible rfl
  simp only [Act.put, List.setIfInBounds_toArray, List.set_cons_zero, List.set_cons_succ]
  refine' lexW_call (by rfl) (by rfl) (fun W hW => ?_) (fun W hW => ?_) ?_
  rotate_left 3
  · go_simp <;> first | with_reducible rfl | exact ⟨rfl, rfl⟩
  · with_reducible exact R8.out W
  simp only [Act.put, List.setIfInBounds_toArray, List.set_cons_zero, List.set_cons_succ]
  refine lexW_value (v := ?_) (by rfl) (by rfl) (fun W hW => ?_) ?_
  rotate_left
  · skip; go_simp <;> with_reducible rfl
  simp only [Act.put, List.setIfInBounds_toArray, List.set_cons_zero, List.set_cons_succ]
  refine lexW_value (v := ?_) (by rfl) (by rfl) (fun W hW => ?_) ?_
  rotate_left
  · skip; go_simp <;> with_reducible rfl
  simp only [Act.put, List.setIfInBounds_toArray, List.set_cons_zero, List.set_cons_succ]
  refine lexW_value (v := ?_) (by rfl) (by rfl) (fun W hW => ?_) ?_
  rotate_left
  · skip; go_simp <;> with_reducible rfl
  simp only [Act.put, List.setIfInBounds_toArray, List.set_cons_zero, List.set_cons_succ]
  refine lexW_value (v := ?_) (by rfl) (by rfl) (fun W hW => ?_) ?_
  rotate_left
  · have l1 := run_loadFe (hW.f.get (g := w.heap.size) (x := a) (by simp)); go_simp <;> with_reducible rfl
  simp only [Act.put, List.setIfInBounds_toArray, List.set_cons_zero, List.set_cons_succ]
  refine' lexW_call (by rfl) (by rfl) (fun W hW => ?_) (fun W hW => ?_) ?_
  rotate_left 3
  · go_simp <;> first | with_reducible rfl | exact ⟨rfl, rfl⟩
  · with_reducible exact K9.out W
  simp only [Act.put, List.setIfInBounds_toArray, List.set_cons_zero, List.set_cons_succ]
  refine lexW_value (v := ?_) (by rfl) (by rfl) (fun W hW => ?_) ?_
  rotate_left
  · have l1 := run_loadFe (hW.f.get (g := w.heap.size) (x := a) (by simp)); go_simp <;> with_reducible rfl
  simp only [Act.put, List.setIfInBounds_toArray, List.set_cons_zero, List.set_cons_succ]
  refine' lexW_call (by rfl) (by rfl) (fun W hW => ?_) (fun W hW => ?_) ?_
  rotate_left 3
  · go_simp <;> first | with_reducible rfl | exact ⟨rfl, rfl⟩
  · with_reducible exact R9.out W
  simp only [Act.put, List.setIfInBounds_toArray, List.set_cons_zero, List.set_cons_succ]
  refine lexW_value (v := ?_) (by rfl) (by rfl) (fun W hW => ?_) ?_
  rotate_left
  · skip; go_simp <;> with_reducible rfl
  simp only [Act.put, List.setIfInBounds_toArray, List.set_cons_zero, List.set_cons_succ]
  refine lexW_value (v := ?_) (by rfl) (by rfl) (fun W hW => ?_) ?_
  rotate_left
  · skip; go_simp <;> with_reducible rfl
  simp only [Act.put, List.setIfInBounds_toArray, List.set_cons_zero, List.set_cons_succ]
  refine lexW_nil (fun b3 W3 F3 E3 => ?_)
  obtain rfl := lexEnd_none E3
  go_wp2
  go_ret
  exact ⟨rfl, F3.f.below⟩
end
end Go.Proofs.YtcidbiceeinglaaDoor
