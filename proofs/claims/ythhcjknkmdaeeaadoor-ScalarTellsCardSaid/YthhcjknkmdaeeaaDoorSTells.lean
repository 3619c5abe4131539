/-
  ScalarTells: sums, products, what is below 0, and bytes, are what the document says. Whatever the numbers, and the bytes, are.
-/
import Derived.Test.YthhcjknkmdaeeaaDoorSAwake
namespace Go.Proofs.YthhcjknkmdaeeaaDoor
open Go.RowKit

/-- The blocks of the law's call. -/
structure ST (w : World) (a b : Nat) (l k : List UInt8) (W : World) : Prop where
  f : Bl w (w.heap.size + 1 + 1) [(w.heap.size, a), (w.heap.size + 1, b)] W
  l : HoldsB W 25 (w.heap.size + 1 + 1) l
  k : HoldsB W 26 (w.heap.size + 1 + 1 + 1) k
theorem ST.stay {w : World} {a b : Nat} {l k : List UInt8} : ∀ W W', ST w a b l k W → Below W.heap.size W W' → ST w a b l k W' := fun _ _ p hb => ⟨Bl.stay _ _ p.f hb, p.l.keep hb p.l.lt, p.k.keep hb p.k.lt⟩
theorem st_start (w : World) (m n : Nat) (l k : List UInt8) : ST w m n l k ((((w.alloc (.cells ((lims m).map nv).toArray 24)).alloc (.cells ((lims n).map nv).toArray 24)).alloc (.cells (l.map bv).toArray 25)).alloc (.cells (k.map bv).toArray 26)) := by
  obtain ⟨a, a2, b, e⟩ := sc_start2 w m n _ _ rfl rfl
  have e3 : (((w.alloc (.cells ((lims m).map nv).toArray 24)).alloc (.cells ((lims n).map nv).toArray 24)).alloc (.cells (l.map bv).toArray 25)).heap.size = w.heap.size + 1 + 1 + 1 := by rw [World.size_alloc, e]
  exact ⟨Bl.stay _ _ (Bl.stay _ _ (Bl.two a a2 b) ((Below.refl _ _).alloc (Nat.le_refl _) _)) ((Below.refl _ _).alloc (Nat.le_refl _) _), (holdsB_new _ _ _ _ _ (by rw [e]) rfl).alloc _, holdsB_new _ _ _ _ _ e3.symm rfl⟩

section
attribute [local go_sem ↓] load_sc load_by load_bq

set_option maxRecDepth 100000 in
set_option maxHeartbeats 4000000 in
theorem ScalarTells_any (a b : Nat) (l k : List UInt8) (w : World) (ha : a < big) (hb : b < big) (hl : l.length = 64) (hk : k.length = 32) (L0 : Laid w) :
    Calls Tryd.prog 3 #[fev a, fev b, .agg (l.map bv).toArray, .agg (k.map bv).toArray] w fun e w' => e = .returned (.bool true) ∧ Below w.heap.size w w' := by
  have hsz0 := L0.size
  have LK : Hid (∀ W, Below w.heap.size w W → Laid W) := Lib.hid fun W hb => L0.keep hb hsz0
  have AW : Hid (∀ W, Laid W → Calls Tryd.prog 7 #[] W fun e w' => e = .returned (.bool true) ∧ Below W.heap.size W w') := Lib.hid fun W L => awake_any W L
  obtain ⟨fa, hfa⟩ : ∃ f, f = toS a := ⟨_, rfl⟩
  obtain ⟨fb, hfb⟩ : ∃ f, f = toS b := ⟨_, rfl⟩
  obtain ⟨s, hs⟩ : ∃ zz : Sn, zz = fa + fb := ⟨_, rfl⟩
  obtain ⟨p, hp⟩ : ∃ zz : Sn, zz = fa * fb := ⟨_, rfl⟩
  obtain ⟨m, hm⟩ : ∃ zz : Sn, zz = -fa := ⟨_, rfl⟩
  have K1 : Hid (∀ W, Laid W → Calls Tryd.prog 8 #[.agg ((lims a).map nv).toArray, .agg ((lims b).map nv).toArray] W fun e w' => e = .returned (.agg ((lims s.val).map nv).toArray) ∧ Below W.heap.size W w') := Lib.hid fun W L => by
    have h := Add_any a b W ha hb L
    simp only [← hfa, ← hfb] at h
    rw [show fa + fb = s by grind] at h
    exact h
  have K2 : Hid (∀ W, Laid W → Calls Tryd.prog 10 #[.agg ((lims a).map nv).toArray, .agg ((lims b).map nv).toArray] W fun e w' => e = .returned (.agg ((lims p.val).map nv).toArray) ∧ Below W.heap.size W w') := Lib.hid fun W L => by
    have h := Mul_any a b W ha hb L
    simp only [← hfa, ← hfb] at h
    rw [show fa * fb = p by grind] at h
    exact h
  have K3 : Hid (∀ W, Laid W → Calls Tryd.prog 12 #[.agg ((lims a).map nv).toArray] W fun e w' => e = .returned (.agg ((lims m.val).map nv).toArray) ∧ Below W.heap.size W w') := Lib.hid fun W L => by
    have h := Neg_any a W ha L
    simp only [← hfa] at h
    rw [show -fa = m by grind] at h
    exact h
  have R1 : Hid (∀ W, Calls Tryd.prog 9 #[.agg ((lims a).map nv).toArray, .agg ((lims b).map nv).toArray] W fun e w' => e = .returned (.agg ((lims s.val).map nv).toArray) ∧ Below W.heap.size W w') := Lib.hid fun W => by
    have h := sAdd_any a b W ha hb
    simp only [← hfa, ← hfb] at h
    rw [show fa + fb = s by grind] at h
    exact h
  have R2 : Hid (∀ W, Calls Tryd.prog 11 #[.agg ((lims a).map nv).toArray, .agg ((lims b).map nv).toArray] W fun e w' => e = .returned (.agg ((lims p.val).map nv).toArray) ∧ Below W.heap.size W w') := Lib.hid fun W => by
    have h := sMul_any a b W ha hb
    simp only [← hfa, ← hfb] at h
    rw [show fa * fb = p by grind] at h
    exact h
  have R3 : Hid (∀ W, Calls Tryd.prog 13 #[.agg ((lims a).map nv).toArray] W fun e w' => e = .returned (.agg ((lims m.val).map nv).toArray) ∧ Below W.heap.size W w') := Lib.hid fun W => by
    have h := sNeg_any a W ha
    simp only [← hfa] at h
    rw [show -fa = m by grind] at h
    exact h
  obtain ⟨x, hx⟩ : ∃ x, x = toS (leNum l) := ⟨_, rfl⟩
  obtain ⟨y, hy⟩ : ∃ x, x = toS (leNum k) := ⟨_, rfl⟩
  obtain ⟨bl, hbl⟩ : ∃ bl, bl = leBytes fa.val 32 := ⟨_, rfl⟩
  have HBL : Hid (bl.length = 32) := Lib.hid (by rw [hbl]; exact leBytes_length _ _)
  obtain ⟨ck, hck⟩ : ∃ sm, sm = decide (leNum k < LL) := ⟨_, rfl⟩
  have K4 : Hid (∀ W, Laid W → Calls Tryd.prog 14 #[.agg (l.map bv).toArray] W fun e w' => e = .returned (.agg ((lims x.val).map nv).toArray) ∧ Below W.heap.size W w') := Lib.hid fun W L => by rw [hx]; exact Of_any l W hl L
  have R4 : Hid (∀ W, Calls Tryd.prog 15 #[.agg (l.map bv).toArray] W fun e w' => e = .returned (.agg ((lims x.val).map nv).toArray) ∧ Below W.heap.size W w') := Lib.hid fun W => by rw [hx]; exact sOf_any l W hl
  have K5 : Hid (∀ W, Laid W → Calls Tryd.prog 16 #[.agg (k.map bv).toArray] W fun e w' => e = .returned (.agg ((lims y.val).map nv).toArray) ∧ Below W.heap.size W w') := Lib.hid fun W L => by rw [hy]; exact From_any k W hk L
  have R5 : Hid (∀ W, Calls Tryd.prog 17 #[.agg (k.map bv).toArray] W fun e w' => e = .returned (.agg ((lims y.val).map nv).toArray) ∧ Below W.heap.size W w') := Lib.hid fun W => by rw [hy]; exact sFrom_any k W hk
  have K6 : Hid (∀ W, Laid W → Calls Tryd.prog 18 #[.agg ((lims a).map nv).toArray] W fun e w' => e = .returned (.agg (bl.map bv).toArray) ∧ Below W.heap.size W w') := Lib.hid fun W L => by rw [hbl, hfa]; exact Bytes_any a W ha L
  have R6 : Hid (∀ W, Calls Tryd.prog 19 #[.agg ((lims a).map nv).toArray] W fun e w' => e = .returned (.agg (bl.map bv).toArray) ∧ Below W.heap.size W w') := Lib.hid fun W => by rw [hbl, hfa]; exact sBytes_any a W ha
  have K7 : Hid (∀ W, Laid W → Calls Tryd.prog 20 #[.agg (k.map bv).toArray] W fun e w' => e = .returned (.bool ck) ∧ Below W.heap.size W w') := Lib.hid fun W L => by rw [hck]; exact Check_any k W hk L
  have R7 : Hid (∀ W, Calls Tryd.prog 21 #[.agg (k.map bv).toArray] W fun e w' => e = .returned (.bool ck) ∧ Below W.heap.size W w') := Lib.hid fun W => by rw [hck]; exact sCheck_any k W hk
  have HL := Lib.hid hl
  have HK := Lib.hid hk
  have qs := fun x W => eql_same x W
  have gf := fun x y c d W => run_guard_sc x y c d W
  have qb : ∀ W, (binOp .eql 26 (.agg (bl.map bv).toArray) (.agg (bl.map bv).toArray)).run Tryd.prog W = .ok (.bool true) W := fun W => by
    have h := run_eql_b bl bl HBL.out HBL.out W
    rw [decide_eq_true rfl] at h
    exact h
  have gb := fun x y c d W => run_guard_b x y c d W
  clear hx hy hbl hck hfa hfb hs hp hm ha hb hl hk L0 hsz0
  have F0 := st_start w a b l k
  rw [fev_eq, fev_eq]
  go_enter Tryd.func3, Tryd.ntmps3
  go_upto_region 1 with (fail)
  generalize (((w.alloc (.cells ((lims a).map nv).toArray 24)).alloc (.cells ((lims b).map nv).toArray 24)).alloc (.cells (l.map bv).toArray 25)).alloc (.cells (k.map bv).toArray 26) = wv at *
  go_upto_region 2 with (first
    | (go_at_call 7
       with_reducible refine (AW.out _ (LK.out _ F0.f.below)).mono ?_
       rintro e w1 ⟨rfl, hb1⟩
       have F1 := ST.stay _ _ F0 hb1)
    | fail)
  clear F0 hb1
  refine wp_region_lex 23 (fun _ => false) (fun _ _ _ => True) (ST w a b l k) (by kernel_rfl) (by kernel_rfl) (ST.stay _ _ F1 (Below.refl _ w1).drew) ST.stay (fun _ _ _ _ _ _ => trivial) lex_none ?_
  simp only [List.take_succ_cons, List.take_zero, List.drop_succ_cons, List.drop_zero]
  refine lexW_value (v := ?_) (by rfl) (by rfl) (fun W hW => ?_) ?_
  rotate_left
  · have l1 := run_loadSc (hW.f.get (g := w.heap.size) (x := a) (by simp)); go_simp <;> with_reducible rfl
  simp only [Act.put, List.setIfInBounds_toArray, List.set_cons_zero, List.set_cons_succ]
  refine lexW_value (v := ?_) (by rfl) (by rfl) (fun W hW => ?_) ?_
  rotate_left
  · have l1 := run_loadSc (hW.f.get (g := w.heap.size + 1) (x := b) (by simp)); go_simp <;> with_reducible rfl
  simp only [Act.put, List.setIfInBounds_toArray, List.set_cons_zero, List.set_cons_succ]
  refine' lexW_call (by rfl) (by rfl) (fun W hW => ?_) (fun W hW => ?_) ?_
  rotate_left 3
  · go_simp <;> first | with_reducible rfl | exact ⟨rfl, rfl⟩
  · with_reducible exact K1.out W (LK.out _ hW.f.below)
  simp only [Act.put, List.setIfInBounds_toArray, List.set_cons_zero, List.set_cons_succ]
  refine lexW_value (v := ?_) (by rfl) (by rfl) (fun W hW => ?_) ?_
  rotate_left
  · have l1 := run_loadSc (hW.f.get (g := w.heap.size) (x := a) (by simp)); go_simp <;> with_reducible rfl
  simp only [Act.put, List.setIfInBounds_toArray, List.set_cons_zero, List.set_cons_succ]
  refine lexW_value (v := ?_) (by rfl) (by rfl) (fun W hW => ?_) ?_
  rotate_left
  · have l1 := run_loadSc (hW.f.get (g := w.heap.size + 1) (x := b) (by simp)); go_simp <;> with_reducible rfl
  simp only [Act.put, List.setIfInBounds_toArray, List.set_cons_zero, List.set_cons_succ]
  refine' lexW_call (by rfl) (by rfl) (fun W hW => ?_) (fun W hW => ?_) ?_
  rotate_left 3
  · go_simp <;> first | with_reducible rfl | exact ⟨rfl, rfl⟩
  · with_reducible exact R1.out W
  simp only [Act.put, List.setIfInBounds_toArray, List.set_cons_zero, List.set_cons_succ]
  refine lexW_value (v := ?_) (by rfl) (by rfl) (fun W hW => ?_) ?_
  rotate_left
  · skip; go_simp <;> with_reducible rfl
  simp only [Act.put, List.setIfInBounds_toArray, List.set_cons_zero, List.set_cons_succ]
  refine lexW_value (v := ?_) (by rfl) (by rfl) (fun W hW => ?_) ?_
  rotate_left
  · skip; go_simp <;> with_reducible rfl
  simp only [Act.put, List.setIfInBounds_toArray, List.set_cons_zero, List.set_cons_succ]
  refine lexW_value (v := ?_) (by rfl) (by rfl) (fun W hW => ?_) ?_
  rotate_left
  · have l1 := run_loadSc (hW.f.get (g := w.heap.size) (x := a) (by simp)); go_simp <;> with_reducible rfl
  simp only [Act.put, List.setIfInBounds_toArray, List.set_cons_zero, List.set_cons_succ]
  refine lexW_value (v := ?_) (by rfl) (by rfl) (fun W hW => ?_) ?_
  rotate_left
  · have l1 := run_loadSc (hW.f.get (g := w.heap.size + 1) (x := b) (by simp)); go_simp <;> with_reducible rfl
  simp only [Act.put, List.setIfInBounds_toArray, List.set_cons_zero, List.set_cons_succ]
  refine' lexW_call (by rfl) (by rfl) (fun W hW => ?_) (fun W hW => ?_) ?_
  rotate_left 3
  · go_simp <;> first | with_reducible rfl | exact ⟨rfl, rfl⟩
  · with_reducible exact K2.out W (LK.out _ hW.f.below)
  simp only [Act.put, List.setIfInBounds_toArray, List.set_cons_zero, List.set_cons_succ]
  refine lexW_value (v := ?_) (by rfl) (by rfl) (fun W hW => ?_) ?_
  rotate_left
  · have l1 := run_loadSc (hW.f.get (g := w.heap.size) (x := a) (by simp)); go_simp <;> with_reducible rfl
  simp only [Act.put, List.setIfInBounds_toArray, List.set_cons_zero, List.set_cons_succ]
  refine lexW_value (v := ?_) (by rfl) (by rfl) (fun W hW => ?_) ?_
  rotate_left
  · have l1 := run_loadSc (hW.f.get (g := w.heap.size + 1) (x := b) (by simp)); go_simp <;> with_reducible rfl
  simp only [Act.put, List.setIfInBounds_toArray, List.set_cons_zero, List.set_cons_succ]
  refine' lexW_call (by rfl) (by rfl) (fun W hW => ?_) (fun W hW => ?_) ?_
  rotate_left 3
  · go_simp <;> first | with_reducible rfl | exact ⟨rfl, rfl⟩
  · with_reducible exact R2.out W
  simp only [Act.put, List.setIfInBounds_toArray, List.set_cons_zero, List.set_cons_succ]
  refine lexW_value (v := ?_) (by rfl) (by rfl) (fun W hW => ?_) ?_
  rotate_left
  · skip; go_simp <;> with_reducible rfl
  simp only [Act.put, List.setIfInBounds_toArray, List.set_cons_zero, List.set_cons_succ]
  refine lexW_value (v := ?_) (by rfl) (by rfl) (fun W hW => ?_) ?_
  rotate_left
  · skip; go_simp <;> with_reducible rfl
  simp only [Act.put, List.setIfInBounds_toArray, List.set_cons_zero, List.set_cons_succ]
  refine lexW_value (v := ?_) (by rfl) (by rfl) (fun W hW => ?_) ?_
  rotate_left
  · skip; go_simp <;> with_reducible rfl
  simp only [Act.put, List.setIfInBounds_toArray, List.set_cons_zero, List.set_cons_succ]
  refine lexW_value (v := ?_) (by rfl) (by rfl) (fun W hW => ?_) ?_
  rotate_left
  · have l1 := run_loadSc (hW.f.get (g := w.heap.size) (x := a) (by simp)); go_simp <;> with_reducible rfl
  simp only [Act.put, List.setIfInBounds_toArray, List.set_cons_zero, List.set_cons_succ]
  refine' lexW_call (by rfl) (by rfl) (fun W hW => ?_) (fun W hW => ?_) ?_
  rotate_left 3
  · go_simp <;> first | with_reducible rfl | exact ⟨rfl, rfl⟩
  · with_reducible exact K3.out W (LK.out _ hW.f.below)
  simp only [Act.put, List.setIfInBounds_toArray, List.set_cons_zero, List.set_cons_succ]
  refine lexW_value (v := ?_) (by rfl) (by rfl) (fun W hW => ?_) ?_
  rotate_left
  · have l1 := run_loadSc (hW.f.get (g := w.heap.size) (x := a) (by simp)); go_simp <;> with_reducible rfl
  simp only [Act.put, List.setIfInBounds_toArray, List.set_cons_zero, List.set_cons_succ]
  refine' lexW_call (by rfl) (by rfl) (fun W hW => ?_) (fun W hW => ?_) ?_
  rotate_left 3
  · go_simp <;> first | with_reducible rfl | exact ⟨rfl, rfl⟩
  · with_reducible exact R3.out W
  simp only [Act.put, List.setIfInBounds_toArray, List.set_cons_zero, List.set_cons_succ]
  refine lexW_value (v := ?_) (by rfl) (by rfl) (fun W hW => ?_) ?_
  rotate_left
  · skip; go_simp <;> with_reducible rfl
  simp only [Act.put, List.setIfInBounds_toArray, List.set_cons_zero, List.set_cons_succ]
  refine lexW_value (v := ?_) (by rfl) (by rfl) (fun W hW => ?_) ?_
  rotate_left
  · skip; go_simp <;> with_reducible rfl
  simp only [Act.put, List.setIfInBounds_toArray, List.set_cons_zero, List.set_cons_succ]
  refine lexW_nil (fun b2 W2 F2 E2 => ?_)
  obtain rfl := lexEnd_none E2
  go_upto_region 3 with (fail)
  refine wp_region_lex 32 (fun _ => false) (fun _ _ _ => True) (ST w a b l k) (by kernel_rfl) (by kernel_rfl) (ST.stay _ _ F2 (Below.refl _ W2).drew) ST.stay (fun _ _ _ _ _ _ => trivial) lex_none ?_
  simp only [List.take_succ_cons, List.take_zero, List.drop_succ_cons, List.drop_zero]
  refine lexW_value (v := ?_) (by rfl) (by rfl) (fun W hW => ?_) ?_
  rotate_left
  · skip; go_simp <;> with_reducible rfl
  simp only [Act.put, List.setIfInBounds_toArray, List.set_cons_zero, List.set_cons_succ]
  refine lexW_value (v := ?_) (by rfl) (by rfl) (fun W hW => ?_) ?_
  rotate_left
  · skip; go_simp <;> with_reducible rfl
  simp only [Act.put, List.setIfInBounds_toArray, List.set_cons_zero, List.set_cons_succ]
  refine lexW_value (v := ?_) (by rfl) (by rfl) (fun W hW => ?_) ?_
  rotate_left
  · skip; go_simp <;> with_reducible rfl
  simp only [Act.put, List.setIfInBounds_toArray, List.set_cons_zero, List.set_cons_succ]
  refine lexW_value (v := ?_) (by rfl) (by rfl) (fun W hW => ?_) ?_
  rotate_left
  · skip; go_simp <;> with_reducible rfl
  simp only [Act.put, List.setIfInBounds_toArray, List.set_cons_zero, List.set_cons_succ]
  refine lexW_value (v := ?_) (by rfl) (by rfl) (fun W hW => ?_) ?_
  rotate_left
  · skip; go_simp <;> with_reducible rfl
  simp only [Act.put, List.setIfInBounds_toArray, List.set_cons_zero, List.set_cons_succ]
  refine lexW_value (v := ?_) (by rfl) (by rfl) (fun W hW => ?_) ?_
  rotate_left
  · have l1 := run_loadBq hW.l HL.out; go_simp <;> with_reducible rfl
  simp only [Act.put, List.setIfInBounds_toArray, List.set_cons_zero, List.set_cons_succ]
  refine' lexW_call (by rfl) (by rfl) (fun W hW => ?_) (fun W hW => ?_) ?_
  rotate_left 3
  · go_simp <;> first | with_reducible rfl | exact ⟨rfl, rfl⟩
  · with_reducible exact K4.out W (LK.out _ hW.f.below)
  simp only [Act.put, List.setIfInBounds_toArray, List.set_cons_zero, List.set_cons_succ]
  refine lexW_value (v := ?_) (by rfl) (by rfl) (fun W hW => ?_) ?_
  rotate_left
  · have l1 := run_loadBq hW.l HL.out; go_simp <;> with_reducible rfl
  simp only [Act.put, List.setIfInBounds_toArray, List.set_cons_zero, List.set_cons_succ]
  refine' lexW_call (by rfl) (by rfl) (fun W hW => ?_) (fun W hW => ?_) ?_
  rotate_left 3
  · go_simp <;> first | with_reducible rfl | exact ⟨rfl, rfl⟩
  · with_reducible exact R4.out W
  simp only [Act.put, List.setIfInBounds_toArray, List.set_cons_zero, List.set_cons_succ]
  refine lexW_value (v := ?_) (by rfl) (by rfl) (fun W hW => ?_) ?_
  rotate_left
  · skip; go_simp <;> with_reducible rfl
  simp only [Act.put, List.setIfInBounds_toArray, List.set_cons_zero, List.set_cons_succ]
  refine lexW_value (v := ?_) (by rfl) (by rfl) (fun W hW => ?_) ?_
  rotate_left
  · skip; go_simp <;> with_reducible rfl
  simp only [Act.put, List.setIfInBounds_toArray, List.set_cons_zero, List.set_cons_succ]
  refine lexW_value (v := ?_) (by rfl) (by rfl) (fun W hW => ?_) ?_
  rotate_left
  · skip; go_simp <;> with_reducible rfl
  simp only [Act.put, List.setIfInBounds_toArray, List.set_cons_zero, List.set_cons_succ]
  refine lexW_value (v := ?_) (by rfl) (by rfl) (fun W hW => ?_) ?_
  rotate_left
  · have l1 := run_loadBy hW.k HK.out; go_simp <;> with_reducible rfl
  simp only [Act.put, List.setIfInBounds_toArray, List.set_cons_zero, List.set_cons_succ]
  refine' lexW_call (by rfl) (by rfl) (fun W hW => ?_) (fun W hW => ?_) ?_
  rotate_left 3
  · go_simp <;> first | with_reducible rfl | exact ⟨rfl, rfl⟩
  · with_reducible exact K5.out W (LK.out _ hW.f.below)
  simp only [Act.put, List.setIfInBounds_toArray, List.set_cons_zero, List.set_cons_succ]
  refine lexW_value (v := ?_) (by rfl) (by rfl) (fun W hW => ?_) ?_
  rotate_left
  · have l1 := run_loadBy hW.k HK.out; go_simp <;> with_reducible rfl
  simp only [Act.put, List.setIfInBounds_toArray, List.set_cons_zero, List.set_cons_succ]
  refine' lexW_call (by rfl) (by rfl) (fun W hW => ?_) (fun W hW => ?_) ?_
  rotate_left 3
  · go_simp <;> first | with_reducible rfl | exact ⟨rfl, rfl⟩
  · with_reducible exact R5.out W
  simp only [Act.put, List.setIfInBounds_toArray, List.set_cons_zero, List.set_cons_succ]
  refine lexW_value (v := ?_) (by rfl) (by rfl) (fun W hW => ?_) ?_
  rotate_left
  · skip; go_simp <;> with_reducible rfl
  simp only [Act.put, List.setIfInBounds_toArray, List.set_cons_zero, List.set_cons_succ]
  refine lexW_value (v := ?_) (by rfl) (by rfl) (fun W hW => ?_) ?_
  rotate_left
  · skip; go_simp <;> with_reducible rfl
  simp only [Act.put, List.setIfInBounds_toArray, List.set_cons_zero, List.set_cons_succ]
  refine lexW_value (v := ?_) (by rfl) (by rfl) (fun W hW => ?_) ?_
  rotate_left
  · skip; go_simp <;> with_reducible rfl
  simp only [Act.put, List.setIfInBounds_toArray, List.set_cons_zero, List.set_cons_succ]
  refine lexW_value (v := ?_) (by rfl) (by rfl) (fun W hW => ?_) ?_
  rotate_left
  · have l1 := run_loadSc (hW.f.get (g := w.heap.size) (x := a) (by simp)); go_simp <;> with_reducible rfl
  simp only [Act.put, List.setIfInBounds_toArray, List.set_cons_zero, List.set_cons_succ]
  refine' lexW_call (by rfl) (by rfl) (fun W hW => ?_) (fun W hW => ?_) ?_
  rotate_left 3
  · go_simp <;> first | with_reducible rfl | exact ⟨rfl, rfl⟩
  · with_reducible exact K6.out W (LK.out _ hW.f.below)
  simp only [Act.put, List.setIfInBounds_toArray, List.set_cons_zero, List.set_cons_succ]
  refine lexW_value (v := ?_) (by rfl) (by rfl) (fun W hW => ?_) ?_
  rotate_left
  · have l1 := run_loadSc (hW.f.get (g := w.heap.size) (x := a) (by simp)); go_simp <;> with_reducible rfl
  simp only [Act.put, List.setIfInBounds_toArray, List.set_cons_zero, List.set_cons_succ]
  refine' lexW_call (by rfl) (by rfl) (fun W hW => ?_) (fun W hW => ?_) ?_
  rotate_left 3
  · go_simp <;> first | with_reducible rfl | exact ⟨rfl, rfl⟩
  · with_reducible exact R6.out W
  simp only [Act.put, List.setIfInBounds_toArray, List.set_cons_zero, List.set_cons_succ]
  refine lexW_value (v := ?_) (by rfl) (by rfl) (fun W hW => ?_) ?_
  rotate_left
  · skip; go_simp <;> with_reducible rfl
  simp only [Act.put, List.setIfInBounds_toArray, List.set_cons_zero, List.set_cons_succ]
  refine lexW_value (v := ?_) (by rfl) (by rfl) (fun W hW => ?_) ?_
  rotate_left
  · skip; go_simp <;> with_reducible rfl
  simp only [Act.put, List.setIfInBounds_toArray, List.set_cons_zero, List.set_cons_succ]
  refine lexW_value (v := ?_) (by rfl) (by rfl) (fun W hW => ?_) ?_
  rotate_left
  · skip; go_simp <;> with_reducible rfl
  simp only [Act.put, List.setIfInBounds_toArray, List.set_cons_zero, List.set_cons_succ]
  refine lexW_value (v := ?_) (by rfl) (by rfl) (fun W hW => ?_) ?_
  rotate_left
  · have l1 := run_loadBy hW.k HK.out; go_simp <;> with_reducible rfl
  simp only [Act.put, List.setIfInBounds_toArray, List.set_cons_zero, List.set_cons_succ]
  refine' lexW_call (by rfl) (by rfl) (fun W hW => ?_) (fun W hW => ?_) ?_
  rotate_left 3
  · go_simp <;> first | with_reducible rfl | exact ⟨rfl, rfl⟩
  · with_reducible exact K7.out W (LK.out _ hW.f.below)
  simp only [Act.put, List.setIfInBounds_toArray, List.set_cons_zero, List.set_cons_succ]
  refine lexW_value (v := ?_) (by rfl) (by rfl) (fun W hW => ?_) ?_
  rotate_left
  · have l1 := run_loadBy hW.k HK.out; go_simp <;> with_reducible rfl
  simp only [Act.put, List.setIfInBounds_toArray, List.set_cons_zero, List.set_cons_succ]
  refine' lexW_call (by rfl) (by rfl) (fun W hW => ?_) (fun W hW => ?_) ?_
  rotate_left 3
  · go_simp <;> first | with_reducible rfl | exact ⟨rfl, rfl⟩
  · with_reducible exact R7.out W
  simp only [Act.put, List.setIfInBounds_toArray, List.set_cons_zero, List.set_cons_succ]
  refine lexW_value (v := ?_) (by rfl) (by rfl) (fun W hW => ?_) ?_
  rotate_left
  · skip; go_simp <;> with_reducible rfl
  simp only [Act.put, List.setIfInBounds_toArray, List.set_cons_zero, List.set_cons_succ]
  refine lexW_value (v := ?_) (by rfl) (by rfl) (fun W hW => ?_) ?_
  rotate_left
  · skip; go_simp <;> with_reducible rfl
  simp only [Act.put, List.setIfInBounds_toArray, List.set_cons_zero, List.set_cons_succ]
  refine lexW_nil (fun b3 W3 F3 E3 => ?_)
  obtain rfl := lexEnd_none E3
  go_wp2
  go_ret
  exact ⟨rfl, F3.f.below⟩
end
end Go.Proofs.YthhcjknkmdaeeaaDoor
