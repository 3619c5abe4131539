/-
  FieldBack: a number, multiplied by its inverse, is 1, or 0 of 0; a square has a root, which is even, and is the number, or what is below 0 of it; bytes are read as they were written. Whatever both numbers are.
-/
import Derived.Test.YtcidbiceeinglaaDoorFStores
namespace Go.Proofs.YtcidbiceeinglaaDoor
open Go.RowKit

section
attribute [local go_sem ↓] load_fe

set_option maxRecDepth 100000 in
set_option maxHeartbeats 4000000 in
theorem FieldBack_any (a b : Nat) (w : World) (ha : a < big) (hb : b < big) (L0 : Laid w) :
    Calls Tryd.prog 6 #[fev a, fev b] w fun e w' => e = .returned (.bool true) ∧ Below w.heap.size w w' := by
  have hsz0 := L0.size
  have LK : Hid (∀ W, Below w.heap.size w W → Laid W) := Lib.hid fun W hb => L0.keep hb hsz0
  have AW : Hid (∀ W, Laid W → Calls Tryd.prog 9 #[] W fun e w' => e = .returned (.bool true) ∧ Below W.heap.size W w') := Lib.hid fun W L => awake_any W L
  obtain ⟨fa, hfa⟩ : ∃ f, f = toF a := ⟨_, rfl⟩
  obtain ⟨fb, hfb⟩ : ∃ f, f = toF b := ⟨_, rfl⟩
  obtain ⟨i, hi⟩ : ∃ zz : F, zz = finv fa := ⟨_, rfl⟩
  obtain ⟨oo, hoo⟩ : ∃ zz : F, zz = fa * i := ⟨_, rfl⟩
  obtain ⟨s, hs⟩ : ∃ zz : F, zz = fa * fa := ⟨_, rfl⟩
  obtain ⟨t, ht⟩ : ∃ zz : F, zz = fb * s := ⟨_, rfl⟩
  obtain ⟨x, hx⟩ : ∃ zz : F, zz = (froot t fb).1 := ⟨_, rfl⟩
  obtain ⟨y, hy⟩ : ∃ zz : F, zz = fa := ⟨_, rfl⟩
  obtain ⟨m, hm⟩ : ∃ zz : F, zz = -fa := ⟨_, rfl⟩
  have K1 : Hid (∀ W, Calls Tryd.prog 29 #[.agg ((lims a).map nv).toArray] W fun e w' => e = .returned (.agg ((lims i.val).map nv).toArray) ∧ Below W.heap.size W w') := Lib.hid fun W => by
    have h := Inv_any a W ha
    simp only [← hfa] at h
    rw [show finv fa = i by rw [hi]] at h
    exact h
  have K2 : Hid (∀ W, Calls Tryd.prog 14 #[.agg ((lims a).map nv).toArray, .agg ((lims i.val).map nv).toArray] W fun e w' => e = .returned (.agg ((lims oo.val).map nv).toArray) ∧ Below W.heap.size W w') := Lib.hid fun W => by
    have h := Mul_any a i.val W ha (F.lt_big _)
    simp only [toF_of, ← hfa] at h
    rw [show fa * i = oo by grind] at h
    exact h
  have K3 : Hid (∀ W, Calls Tryd.prog 14 #[.agg ((lims a).map nv).toArray, .agg ((lims a).map nv).toArray] W fun e w' => e = .returned (.agg ((lims s.val).map nv).toArray) ∧ Below W.heap.size W w') := Lib.hid fun W => by
    have h := Mul_any a a W ha ha
    simp only [← hfa] at h
    rw [show fa * fa = s by grind] at h
    exact h
  have K4 : Hid (∀ W, Calls Tryd.prog 14 #[.agg ((lims b).map nv).toArray, .agg ((lims s.val).map nv).toArray] W fun e w' => e = .returned (.agg ((lims t.val).map nv).toArray) ∧ Below W.heap.size W w') := Lib.hid fun W => by
    have h := Mul_any b s.val W hb (F.lt_big _)
    simp only [toF_of, ← hfb] at h
    rw [show fb * s = t by grind] at h
    exact h
  have K5 : Hid (∀ W, Calls Tryd.prog 10 #[.agg ((lims a).map nv).toArray, .agg #[.int .u64 0, .int .u64 0, .int .u64 0, .int .u64 0]] W fun e w' => e = .returned (.agg ((lims y.val).map nv).toArray) ∧ Below W.heap.size W w') := Lib.hid fun W => by
    have h := Add_any a 0 W ha (by decide)
    simp only [toF_zero', ← hfa] at h
    rw [show fa + 0 = y by grind, ← lit_e0] at h
    exact h
  have K6 : Hid (∀ W, Laid W → Calls Tryd.prog 16 #[.agg ((lims a).map nv).toArray] W fun e w' => e = .returned (.agg ((lims m.val).map nv).toArray) ∧ Below W.heap.size W w') := Lib.hid fun W L => by
    have h := Neg_any a W ha L
    simp only [← hfa] at h
    rw [show -fa = m by grind] at h
    exact h
  have hr : (froot t fb).2 = true := froot_ok (x := fa) (by rw [ht, hs])
  have hsol : fb * (x * x) = t ∧ fodd x = false := by rw [hx]; exact froot_sol hr
  have K7 : Hid (∀ W, Laid W → Calls Tryd.prog 27 #[.agg ((lims t.val).map nv).toArray, .agg ((lims b).map nv).toArray] W fun e w' => e = .returned (.tuple #[.agg ((lims x.val).map nv).toArray, .bool true]) ∧ Below W.heap.size W w') := Lib.hid fun W L => by
    have h := Root_any t.val b W (F.lt_big _) hb L
    rw [toF_of, ← hfb, hr, ← hx] at h
    exact h
  obtain ⟨bl, hbl⟩ : ∃ bl, bl = leBytes fa.val 32 := ⟨_, rfl⟩
  have K8 : Hid (∀ W, Calls Tryd.prog 20 #[.agg ((lims a).map nv).toArray] W fun e w' => e = .returned (.agg (bl.map bv).toArray) ∧ Below W.heap.size W w') := Lib.hid fun W => by rw [hbl, hfa]; exact Bytes_any a W ha
  have K9 : Hid (∀ W, Calls Tryd.prog 18 #[.agg (bl.map bv).toArray] W fun e w' => e = .returned (.agg ((lims y.val).map nv).toArray) ∧ Below W.heap.size W w') := Lib.hid fun W => by
    have h := Of_any bl W (by rw [hbl]; exact leBytes_length _ _)
    rw [hbl, leNum_leBytes, Nat.mod_eq_of_lt (Nat.lt_trans fa.isLt (by decide)), toF_of, ← hbl, ← hy] at h
    exact h
  have K10 : Hid (∀ W, Calls Tryd.prog 25 #[.agg ((lims x.val).map nv).toArray] W fun e w' => e = .returned (.bool false) ∧ Below W.heap.size W w') := Lib.hid fun W => by
    have h := Odd_any x.val W (F.lt_big _)
    rw [toF_of, hsol.2] at h
    exact h
  have O1 : ∀ W, Calls Tryd.prog 25 #[.agg ((lims a).map nv).toArray] W fun e w' => e = .returned (.bool (fodd fa)) ∧ Below W.heap.size W w' := fun W => by rw [hfa]; exact Odd_any a W ha
  have O2 : ∀ W, Calls Tryd.prog 25 #[.agg ((lims m.val).map nv).toArray] W fun e w' => e = .returned (.bool (fodd m)) ∧ Below W.heap.size W w' := fun W => by
    have h := Odd_any m.val W (F.lt_big _)
    rw [toF_of] at h
    exact h
  have hz0 : Hid (fa = 0 → oo = 0) := Lib.hid fun h => by rw [hoo, h]; exact F.zmul _
  have hz1 : Hid (¬ fa = 0 → oo = 1) := Lib.hid fun h => by rw [hoo, hi]; exact mul_finv h
  have hod : Hid (¬ fa = 0 → fodd m = !fodd fa) := Lib.hid fun h => by rw [hm]; exact fodd_neg h
  have hxy : Hid (¬ fb = 0 → x = y ∨ x = m) := Lib.hid fun h => by
    rw [hy, hm]
    exact sq_eq (F.cancel h (by rw [hsol.1, ht, hs]))
  have S1 : ∀ W, Calls Tryd.prog 23 #[.agg ((lims a).map nv).toArray, .agg #[.int .u64 0, .int .u64 0, .int .u64 0, .int .u64 0]] W fun e w' => e = .returned (.bool (decide (fa = 0))) ∧ Below W.heap.size W w' := fun W => by
    have h := Same_any a 0 W ha (by decide)
    rw [toF_zero', ← hfa, ← lit_e0] at h
    exact h
  have S2 : ∀ W, Calls Tryd.prog 23 #[.agg ((lims b).map nv).toArray, .agg #[.int .u64 0, .int .u64 0, .int .u64 0, .int .u64 0]] W fun e w' => e = .returned (.bool (decide (fb = 0))) ∧ Below W.heap.size W w' := fun W => by
    have h := Same_any b 0 W hb (by decide)
    rw [toF_zero', ← hfb, ← lit_e0] at h
    exact h
  have qz := fun W => eql_zero oo W
  have qo := fun W => eql_one oo W
  have qy := fun W => run_eql_F x y W
  have qm := fun W => run_eql_F x m W
  clear L0 hsz0 hfa hfb ha hb hi hoo hs ht hx hy hm hbl hsol hr
  obtain ⟨bA, bB, bb, _⟩ := fe_start2 w a b _ _ rfl rfl
  have F0 := Bl.two bA bB bb
  clear bA bB bb
  rw [fev_eq, fev_eq]
  go_enter Tryd.func6, Tryd.ntmps6
  go_upto_region 1 with (fail)
  generalize ((w.alloc (.cells ((lims a).map nv).toArray 24)).alloc (.cells ((lims b).map nv).toArray 24)) = wv at *
  have qs := fun x W => eql_same x W
  have gf := fun x y c d W => run_guard_fe x y c d W
  go_upto_region 2 with (first
    | (go_at_call 9
       with_reducible refine (AW.out _ (LK.out _ F0.below)).mono ?_
       rintro e w1 ⟨rfl, hb1⟩
       have F1 := Bl.stay _ _ F0 hb1)
    | fail)
  clear F0 hb1
  obtain ⟨z, hz⟩ : ∃ z, z = decide (fa = 0) := ⟨_, rfl⟩
  have S1z : Hid (∀ W, Calls Tryd.prog 23 #[.agg ((lims a).map nv).toArray, .agg #[.int .u64 0, .int .u64 0, .int .u64 0, .int .u64 0]] W fun e w' => e = .returned (.bool z) ∧ Below W.heap.size W w') := Lib.hid fun W => by rw [hz]; exact S1 W
  have HZ := Lib.hid hz
  clear hz S1
  have hA := F1.get (g := w.heap.size) (x := a) (by simp)
  go_upto_region 3 with (first
    | (with_reducible refine wpList_load_n rfl 24 (.tmp 2) rfl w.heap.size rfl (lims a) 4 hA rfl Tryd.underlying24 Tryd.infoFe ?_)
    | (go_at_call 23
       with_reducible refine (S1z.out _).mono ?_
       rintro e w2 ⟨rfl, hb2⟩
       have F2 := Bl.stay _ _ F1 hb2)
    | fail)
  clear hA F1 S1z hb2
  try dsimp only [Act.put]
  go_cut [7] (fun vp wx => ∃ g, vp = .pointer (some ⟨g, 0, none⟩) ∧ Bl w (g + 1) [(g, oo.val), (w.heap.size, a), (w.heap.size + 1, b)] wx)
  case first =>
    refine wp_region_lex 5 (fun k => k == 4) (MadeFe (w.heap.size + 1 + 1)) (Bl w (w.heap.size + 1 + 1) [(w.heap.size, a), (w.heap.size + 1, b)]) (by kernel_rfl) (by kernel_rfl) F2.drew Bl.stay MadeFe.stay (made_fe Bl.size rfl) ?_
    simp only [List.take_succ_cons, List.take_zero, List.drop_succ_cons, List.drop_zero]
    refine lexW_value (v := ?_) (by rfl) (by rfl) (fun W hW => ?_) ?_
    rotate_left
    · have l1 := run_loadFe (hW.get (g := w.heap.size) (x := a) (by simp)); go_simp <;> with_reducible rfl
    simp only [Act.put, List.setIfInBounds_toArray, List.set_cons_zero, List.set_cons_succ]
    refine lexW_value (v := ?_) (by rfl) (by rfl) (fun W hW => ?_) ?_
    rotate_left
    · have l1 := run_loadFe (hW.get (g := w.heap.size) (x := a) (by simp)); go_simp <;> with_reducible rfl
    simp only [Act.put, List.setIfInBounds_toArray, List.set_cons_zero, List.set_cons_succ]
    refine' lexW_call (by rfl) (by rfl) (fun W hW => ?_) (fun W hW => ?_) ?_
    rotate_left 3
    · go_simp <;> first | with_reducible rfl | exact ⟨rfl, rfl⟩
    · with_reducible exact K1.out W
    simp only [Act.put, List.setIfInBounds_toArray, List.set_cons_zero, List.set_cons_succ]
    refine' lexW_call (by rfl) (by rfl) (fun W hW => ?_) (fun W hW => ?_) ?_
    rotate_left 3
    · go_simp <;> first | with_reducible rfl | exact ⟨rfl, rfl⟩
    · with_reducible exact K2.out W
    simp only [Act.put, List.setIfInBounds_toArray, List.set_cons_zero, List.set_cons_succ]
    refine lexW_free (by rfl) ?_
    refine lexW_nil (fun b8 W8 F8 E8 => ?_)
    obtain ⟨_, ⟨g, rfl, hg, hZ⟩, rfl⟩ := lexEnd_one (j := 4) (d := 7) (by kernel_rfl) E8
    have hp8 := F8.pos
    simp only [Act.put, List.setIfInBounds_toArray, List.set_cons_zero, List.set_cons_succ]
    go_wp2_with (with_reducible refine wpList_store_n rfl 24 (.tmp 7) (.tmp 18) rfl g (lims oo.val) 4 rfl rfl rfl (lims 0) hZ Tryd.infoFe rfl w.heap.size w F8.below (by omega) ?_; intro w9 H9 o9 _ b9)
    go_meet
    exact ⟨g, rfl, F8.add hg H9 o9 b9⟩
  case rest =>
    obtain ⟨g7, rfl, F3⟩ := hcut
    clear F2
    go_upto_region 4 with (fail)
    go_cut [8, 9] (fun vp vb wx => vb = .bool true ∧ ∃ g, vp = .pointer (some ⟨g, 0, none⟩) ∧ Bl w (g + 1) [(g, x.val), (g7, oo.val), (w.heap.size, a), (w.heap.size + 1, b)] wx)
    case first =>
      refine wp_region_lexS 12 11 10 8 (MadeFe (g7 + 1) 0) (HeldFe (g7 + 1) x.val) (Bl w (g7 + 1) [(g7, oo.val), (w.heap.size, a), (w.heap.size + 1, b)]) (by kernel_rfl) (by kernel_rfl) F3.drew Bl.stay MadeFe.stayS HeldFe.stay (made_feS Bl.size rfl) ?_
      simp only [List.take_succ_cons, List.take_zero, List.drop_succ_cons, List.drop_zero]
      refine lexS_value (v := ?_) (by rfl) (by rfl) (by rfl) (fun W hW => ?_) ?_
      rotate_left
      · have l1 := run_loadFe (hW.get (g := w.heap.size + 1) (x := b) (by simp)); go_simp <;> with_reducible rfl
      simp only [Act.put, List.setIfInBounds_toArray, List.set_cons_zero, List.set_cons_succ]
      refine lexS_value (v := ?_) (by rfl) (by rfl) (by rfl) (fun W hW => ?_) ?_
      rotate_left
      · have l1 := run_loadFe (hW.get (g := w.heap.size) (x := a) (by simp)); go_simp <;> with_reducible rfl
      simp only [Act.put, List.setIfInBounds_toArray, List.set_cons_zero, List.set_cons_succ]
      refine lexS_value (v := ?_) (by rfl) (by rfl) (by rfl) (fun W hW => ?_) ?_
      rotate_left
      · have l1 := run_loadFe (hW.get (g := w.heap.size) (x := a) (by simp)); go_simp <;> with_reducible rfl
      simp only [Act.put, List.setIfInBounds_toArray, List.set_cons_zero, List.set_cons_succ]
      refine' lexS_call (by rfl) (by rfl) (by rfl) (fun W hW => ?_) (fun W hW => ?_) ?_
      rotate_left 3
      · go_simp <;> first | with_reducible rfl | exact ⟨rfl, rfl⟩
      · with_reducible exact K3.out W
      simp only [Act.put, List.setIfInBounds_toArray, List.set_cons_zero, List.set_cons_succ]
      refine' lexS_call (by rfl) (by rfl) (by rfl) (fun W hW => ?_) (fun W hW => ?_) ?_
      rotate_left 3
      · go_simp <;> first | with_reducible rfl | exact ⟨rfl, rfl⟩
      · with_reducible exact K4.out W
      simp only [Act.put, List.setIfInBounds_toArray, List.set_cons_zero, List.set_cons_succ]
      refine lexS_value (v := ?_) (by rfl) (by rfl) (by rfl) (fun W hW => ?_) ?_
      rotate_left
      · have l1 := run_loadFe (hW.get (g := w.heap.size + 1) (x := b) (by simp)); go_simp <;> with_reducible rfl
      simp only [Act.put, List.setIfInBounds_toArray, List.set_cons_zero, List.set_cons_succ]
      refine' lexS_call (by rfl) (by rfl) (by rfl) (fun W hW => ?_) (fun W hW => ?_) ?_
      rotate_left 3
      · go_simp <;> first | with_reducible rfl | exact ⟨rfl, rfl⟩
      · with_reducible exact K7.out W (LK.out _ hW.below)
      simp only [Act.put, List.setIfInBounds_toArray, List.set_cons_zero, List.set_cons_succ]
      refine lexS_value (v := ?_) (by rfl) (by rfl) (by rfl) (fun W hW => ?_) ?_
      rotate_left
      · skip; go_simp <;> with_reducible rfl
      simp only [Act.put, List.setIfInBounds_toArray, List.set_cons_zero, List.set_cons_succ]
      refine lexS_value (v := ?_) (by rfl) (by rfl) (by rfl) (fun W hW => ?_) ?_
      rotate_left
      · skip; go_simp <;> with_reducible rfl
      simp only [Act.put, List.setIfInBounds_toArray, List.set_cons_zero, List.set_cons_succ]
      refine lexS_value (v := ?_) (by rfl) (by rfl) (by rfl) (fun W hW => ?_) ?_
      rotate_left
      · skip; go_simp <;> with_reducible rfl
      simp only [Act.put, List.setIfInBounds_toArray, List.set_cons_zero, List.set_cons_succ]
      refine lexS_free (by rfl) ?_
      refine lexS_store (by rfl) (by rfl) (stores_fe rfl (by rfl) (by simp) (by rfl)) ?_
      simp only [Act.put]
      refine lexS_nil (fun W8 v8 F8 E8 => ?_)
      obtain ⟨g, rfl, hg, hX⟩ := E8
      simp only [List.setIfInBounds_toArray, List.set_cons_zero, List.set_cons_succ]
      go_wp2_with fail
      go_meet
      exact ⟨rfl, g, rfl, F8.addHeld hg hX⟩
    case rest =>
      obtain ⟨rfl, g8, rfl, F4⟩ := hcut
      clear F3
      go_upto_region 5 with (fail)
      go_cut [10] (fun vb wx => vb = .bool true ∧ Bl w (g8 + 1) [(g8, x.val), (g7, oo.val), (w.heap.size, a), (w.heap.size + 1, b)] wx)
      case first =>
        by_cases hzb : fb = 0
        · simp only [decide_eq_true hzb] at S2
          clear hzb hxy
          refine wp_region_lex 16 (fun _ => false) (MadeFe 0) (Bl w (g8 + 1) [(g8, x.val), (g7, oo.val), (w.heap.size, a), (w.heap.size + 1, b)]) (by kernel_rfl) (by kernel_rfl) F4.drew Bl.stay MadeFe.stay lex_none ?_
          simp only [List.take_succ_cons, List.take_zero, List.drop_succ_cons, List.drop_zero]
          refine lexW_value (v := ?_) (by rfl) (by rfl) (fun W hW => ?_) ?_
          rotate_left
          · have l1 := run_loadFe (hW.get (g := w.heap.size + 1) (x := b) (by simp)); go_simp <;> with_reducible rfl
          simp only [Act.put, List.setIfInBounds_toArray, List.set_cons_zero, List.set_cons_succ]
          refine lexW_value (v := ?_) (by rfl) (by rfl) (fun W hW => ?_) ?_
          rotate_left
          · skip; go_simp <;> with_reducible rfl
          simp only [Act.put, List.setIfInBounds_toArray, List.set_cons_zero, List.set_cons_succ]
          refine' lexW_call (by rfl) (by rfl) (fun W hW => ?_) (fun W hW => ?_) ?_
          rotate_left 3
          · go_simp <;> first | with_reducible rfl | exact ⟨rfl, rfl⟩
          · with_reducible exact S2 W
          simp only [Act.put, List.setIfInBounds_toArray, List.set_cons_zero, List.set_cons_succ]
          refine lexW_value (v := ?_) (by rfl) (by rfl) (fun W hW => ?_) ?_
          rotate_left
          · skip; go_simp <;> with_reducible rfl
          simp only [Act.put, List.setIfInBounds_toArray, List.set_cons_zero, List.set_cons_succ]
          refine lexW_off (by rfl) (by rfl) ?_
          simp only [Act.put, List.setIfInBounds_toArray, List.set_cons_zero, List.set_cons_succ]
          refine lexW_off (by rfl) (by rfl) ?_
          simp only [Act.put, List.setIfInBounds_toArray, List.set_cons_zero, List.set_cons_succ]
          refine lexW_off (by rfl) (by rfl) ?_
          simp only [Act.put, List.setIfInBounds_toArray, List.set_cons_zero, List.set_cons_succ]
          refine lexW_off (by rfl) (by rfl) ?_
          simp only [Act.put, List.setIfInBounds_toArray, List.set_cons_zero, List.set_cons_succ]
          refine lexW_off (by rfl) (by rfl) ?_
          simp only [Act.put, List.setIfInBounds_toArray, List.set_cons_zero, List.set_cons_succ]
          refine lexW_value (v := ?_) (by rfl) (by rfl) (fun W hW => ?_) ?_
          rotate_left
          · skip; go_simp <;> with_reducible rfl
          simp only [Act.put, List.setIfInBounds_toArray, List.set_cons_zero, List.set_cons_succ]
          refine lexW_value (v := ?_) (by rfl) (by rfl) (fun W hW => ?_) ?_
          rotate_left
          · skip; go_simp <;> with_reducible rfl
          simp only [Act.put, List.setIfInBounds_toArray, List.set_cons_zero, List.set_cons_succ]
          refine lexW_off (by rfl) (by rfl) ?_
          simp only [Act.put, List.setIfInBounds_toArray, List.set_cons_zero, List.set_cons_succ]
          refine lexW_off (by rfl) (by rfl) ?_
          simp only [Act.put, List.setIfInBounds_toArray, List.set_cons_zero, List.set_cons_succ]
          refine lexW_off (by rfl) (by rfl) ?_
          simp only [Act.put, List.setIfInBounds_toArray, List.set_cons_zero, List.set_cons_succ]
          refine lexW_off (by rfl) (by rfl) ?_
          simp only [Act.put, List.setIfInBounds_toArray, List.set_cons_zero, List.set_cons_succ]
          refine lexW_value (v := ?_) (by rfl) (by rfl) (fun W hW => ?_) ?_
          rotate_left
          · skip; go_simp <;> with_reducible rfl
          simp only [Act.put, List.setIfInBounds_toArray, List.set_cons_zero, List.set_cons_succ]
          refine lexW_nil (fun b8 W8 F8 E8 => ?_)
          obtain rfl := lexEnd_none E8
          go_wp2_with fail
          go_meet
          exact ⟨rfl, F8⟩
        · have hx2 := hxy.out hzb
          simp only [decide_eq_false hzb] at S2
          clear hzb hxy
          by_cases hxe : x = y
          · simp only [decide_eq_true hxe] at qy
            clear hxe hx2
            refine wp_region_lex 16 (fun _ => false) (MadeFe 0) (Bl w (g8 + 1) [(g8, x.val), (g7, oo.val), (w.heap.size, a), (w.heap.size + 1, b)]) (by kernel_rfl) (by kernel_rfl) F4.drew Bl.stay MadeFe.stay lex_none ?_
            simp only [List.take_succ_cons, List.take_zero, List.drop_succ_cons, List.drop_zero]
            refine lexW_value (v := ?_) (by rfl) (by rfl) (fun W hW => ?_) ?_
            rotate_left
            · have l1 := run_loadFe (hW.get (g := w.heap.size + 1) (x := b) (by simp)); go_simp <;> with_reducible rfl
            simp only [Act.put, List.setIfInBounds_toArray, List.set_cons_zero, List.set_cons_succ]
            refine lexW_value (v := ?_) (by rfl) (by rfl) (fun W hW => ?_) ?_
            rotate_left
            · skip; go_simp <;> with_reducible rfl
            simp only [Act.put, List.setIfInBounds_toArray, List.set_cons_zero, List.set_cons_succ]
            refine' lexW_call (by rfl) (by rfl) (fun W hW => ?_) (fun W hW => ?_) ?_
            rotate_left 3
            · go_simp <;> first | with_reducible rfl | exact ⟨rfl, rfl⟩
            · with_reducible exact S2 W
            simp only [Act.put, List.setIfInBounds_toArray, List.set_cons_zero, List.set_cons_succ]
            refine lexW_value (v := ?_) (by rfl) (by rfl) (fun W hW => ?_) ?_
            rotate_left
            · skip; go_simp <;> with_reducible rfl
            simp only [Act.put, List.setIfInBounds_toArray, List.set_cons_zero, List.set_cons_succ]
            refine lexW_value (v := ?_) (by rfl) (by rfl) (fun W hW => ?_) ?_
            rotate_left
            · have l1 := run_loadFe (hW.get (g := g8) (x := x.val) (by simp)); go_simp <;> with_reducible rfl
            simp only [Act.put, List.setIfInBounds_toArray, List.set_cons_zero, List.set_cons_succ]
            refine lexW_value (v := ?_) (by rfl) (by rfl) (fun W hW => ?_) ?_
            rotate_left
            · have l1 := run_loadFe (hW.get (g := w.heap.size) (x := a) (by simp)); go_simp <;> with_reducible rfl
            simp only [Act.put, List.setIfInBounds_toArray, List.set_cons_zero, List.set_cons_succ]
            refine lexW_value (v := ?_) (by rfl) (by rfl) (fun W hW => ?_) ?_
            rotate_left
            · skip; go_simp <;> with_reducible rfl
            simp only [Act.put, List.setIfInBounds_toArray, List.set_cons_zero, List.set_cons_succ]
            refine' lexW_call (by rfl) (by rfl) (fun W hW => ?_) (fun W hW => ?_) ?_
            rotate_left 3
            · go_simp <;> first | with_reducible rfl | exact ⟨rfl, rfl⟩
            · with_reducible exact K5.out W
            simp only [Act.put, List.setIfInBounds_toArray, List.set_cons_zero, List.set_cons_succ]
            refine lexW_value (v := ?_) (by rfl) (by rfl) (fun W hW => ?_) ?_
            rotate_left
            · skip; go_simp <;> with_reducible rfl
            simp only [Act.put, List.setIfInBounds_toArray, List.set_cons_zero, List.set_cons_succ]
            refine lexW_value (v := ?_) (by rfl) (by rfl) (fun W hW => ?_) ?_
            rotate_left
            · skip; go_simp <;> with_reducible rfl
            simp only [Act.put, List.setIfInBounds_toArray, List.set_cons_zero, List.set_cons_succ]
            refine lexW_value (v := ?_) (by rfl) (by rfl) (fun W hW => ?_) ?_
            rotate_left
            · skip; go_simp <;> with_reducible rfl
            simp only [Act.put, List.setIfInBounds_toArray, List.set_cons_zero, List.set_cons_succ]
            refine lexW_off (by rfl) (by rfl) ?_
            simp only [Act.put, List.setIfInBounds_toArray, List.set_cons_zero, List.set_cons_succ]
            refine lexW_off (by rfl) (by rfl) ?_
            simp only [Act.put, List.setIfInBounds_toArray, List.set_cons_zero, List.set_cons_succ]
            refine lexW_off (by rfl) (by rfl) ?_
            simp only [Act.put, List.setIfInBounds_toArray, List.set_cons_zero, List.set_cons_succ]
            refine lexW_off (by rfl) (by rfl) ?_
            simp only [Act.put, List.setIfInBounds_toArray, List.set_cons_zero, List.set_cons_succ]
            refine lexW_value (v := ?_) (by rfl) (by rfl) (fun W hW => ?_) ?_
            rotate_left
            · skip; go_simp <;> with_reducible rfl
            simp only [Act.put, List.setIfInBounds_toArray, List.set_cons_zero, List.set_cons_succ]
            refine lexW_nil (fun b8 W8 F8 E8 => ?_)
            obtain rfl := lexEnd_none E8
            go_wp2_with fail
            go_meet
            exact ⟨rfl, F8⟩
          · have hxm := hx2.resolve_left hxe
            simp only [decide_eq_false hxe] at qy
            simp only [decide_eq_true hxm] at qm
            clear hxe hxm hx2
            refine wp_region_lex 16 (fun _ => false) (MadeFe 0) (Bl w (g8 + 1) [(g8, x.val), (g7, oo.val), (w.heap.size, a), (w.heap.size + 1, b)]) (by kernel_rfl) (by kernel_rfl) F4.drew Bl.stay MadeFe.stay lex_none ?_
            simp only [List.take_succ_cons, List.take_zero, List.drop_succ_cons, List.drop_zero]
            refine lexW_value (v := ?_) (by rfl) (by rfl) (fun W hW => ?_) ?_
            rotate_left
            · have l1 := run_loadFe (hW.get (g := w.heap.size + 1) (x := b) (by simp)); go_simp <;> with_reducible rfl
            simp only [Act.put, List.setIfInBounds_toArray, List.set_cons_zero, List.set_cons_succ]
            refine lexW_value (v := ?_) (by rfl) (by rfl) (fun W hW => ?_) ?_
            rotate_left
            · skip; go_simp <;> with_reducible rfl
            simp only [Act.put, List.setIfInBounds_toArray, List.set_cons_zero, List.set_cons_succ]
            refine' lexW_call (by rfl) (by rfl) (fun W hW => ?_) (fun W hW => ?_) ?_
            rotate_left 3
            · go_simp <;> first | with_reducible rfl | exact ⟨rfl, rfl⟩
            · with_reducible exact S2 W
            simp only [Act.put, List.setIfInBounds_toArray, List.set_cons_zero, List.set_cons_succ]
            refine lexW_value (v := ?_) (by rfl) (by rfl) (fun W hW => ?_) ?_
            rotate_left
            · skip; go_simp <;> with_reducible rfl
            simp only [Act.put, List.setIfInBounds_toArray, List.set_cons_zero, List.set_cons_succ]
            refine lexW_value (v := ?_) (by rfl) (by rfl) (fun W hW => ?_) ?_
            rotate_left
            · have l1 := run_loadFe (hW.get (g := g8) (x := x.val) (by simp)); go_simp <;> with_reducible rfl
            simp only [Act.put, List.setIfInBounds_toArray, List.set_cons_zero, List.set_cons_succ]
            refine lexW_value (v := ?_) (by rfl) (by rfl) (fun W hW => ?_) ?_
            rotate_left
            · have l1 := run_loadFe (hW.get (g := w.heap.size) (x := a) (by simp)); go_simp <;> with_reducible rfl
            simp only [Act.put, List.setIfInBounds_toArray, List.set_cons_zero, List.set_cons_succ]
            refine lexW_value (v := ?_) (by rfl) (by rfl) (fun W hW => ?_) ?_
            rotate_left
            · skip; go_simp <;> with_reducible rfl
            simp only [Act.put, List.setIfInBounds_toArray, List.set_cons_zero, List.set_cons_succ]
            refine' lexW_call (by rfl) (by rfl) (fun W hW => ?_) (fun W hW => ?_) ?_
            rotate_left 3
            · go_simp <;> first | with_reducible rfl | exact ⟨rfl, rfl⟩
            · with_reducible exact K5.out W
            simp only [Act.put, List.setIfInBounds_toArray, List.set_cons_zero, List.set_cons_succ]
            refine lexW_value (v := ?_) (by rfl) (by rfl) (fun W hW => ?_) ?_
            rotate_left
            · skip; go_simp <;> with_reducible rfl
            simp only [Act.put, List.setIfInBounds_toArray, List.set_cons_zero, List.set_cons_succ]
            refine lexW_value (v := ?_) (by rfl) (by rfl) (fun W hW => ?_) ?_
            rotate_left
            · skip; go_simp <;> with_reducible rfl
            simp only [Act.put, List.setIfInBounds_toArray, List.set_cons_zero, List.set_cons_succ]
            refine lexW_value (v := ?_) (by rfl) (by rfl) (fun W hW => ?_) ?_
            rotate_left
            · skip; go_simp <;> with_reducible rfl
            simp only [Act.put, List.setIfInBounds_toArray, List.set_cons_zero, List.set_cons_succ]
            refine lexW_value (v := ?_) (by rfl) (by rfl) (fun W hW => ?_) ?_
            rotate_left
            · have l1 := run_loadFe (hW.get (g := g8) (x := x.val) (by simp)); go_simp <;> with_reducible rfl
            simp only [Act.put, List.setIfInBounds_toArray, List.set_cons_zero, List.set_cons_succ]
            refine lexW_value (v := ?_) (by rfl) (by rfl) (fun W hW => ?_) ?_
            rotate_left
            · have l1 := run_loadFe (hW.get (g := w.heap.size) (x := a) (by simp)); go_simp <;> with_reducible rfl
            simp only [Act.put, List.setIfInBounds_toArray, List.set_cons_zero, List.set_cons_succ]
            refine' lexW_call (by rfl) (by rfl) (fun W hW => ?_) (fun W hW => ?_) ?_
            rotate_left 3
            · go_simp <;> first | with_reducible rfl | exact ⟨rfl, rfl⟩
            · with_reducible exact K6.out W (LK.out _ hW.below)
            simp only [Act.put, List.setIfInBounds_toArray, List.set_cons_zero, List.set_cons_succ]
            refine lexW_value (v := ?_) (by rfl) (by rfl) (fun W hW => ?_) ?_
            rotate_left
            · skip; go_simp <;> with_reducible rfl
            simp only [Act.put, List.setIfInBounds_toArray, List.set_cons_zero, List.set_cons_succ]
            refine lexW_value (v := ?_) (by rfl) (by rfl) (fun W hW => ?_) ?_
            rotate_left
            · skip; go_simp <;> with_reducible rfl
            simp only [Act.put, List.setIfInBounds_toArray, List.set_cons_zero, List.set_cons_succ]
            refine lexW_nil (fun b8 W8 F8 E8 => ?_)
            obtain rfl := lexEnd_none E8
            go_wp2_with fail
            go_meet
            exact ⟨rfl, F8⟩
      case rest =>
        obtain ⟨rfl, F5⟩ := hcut
        clear F4
        go_upto_region 6 with (fail)
        by_cases hza : fa = 0
        · obtain rfl : z = true := by rw [HZ.out]; exact decide_eq_true hza
          have ho := hz0.out hza
          simp only [decide_eq_true ho] at qz
          clear hza ho HZ hz0 hz1 hod
          refine wp_region_lex 49 (fun _ => false) (MadeFe 0) (Bl w (g8 + 1) [(g8, x.val), (g7, oo.val), (w.heap.size, a), (w.heap.size + 1, b)]) (by kernel_rfl) (by kernel_rfl) F5.drew Bl.stay MadeFe.stay lex_none ?_
          simp only [List.take_succ_cons, List.take_zero, List.drop_succ_cons, List.drop_zero]
          refine lexW_value (v := ?_) (by rfl) (by rfl) (fun W hW => ?_) ?_
          rotate_left
          · skip; go_simp <;> with_reducible rfl
          simp only [Act.put, List.setIfInBounds_toArray, List.set_cons_zero, List.set_cons_succ]
          refine lexW_value (v := ?_) (by rfl) (by rfl) (fun W hW => ?_) ?_
          rotate_left
          · skip; go_simp <;> with_reducible rfl
          simp only [Act.put, List.setIfInBounds_toArray, List.set_cons_zero, List.set_cons_succ]
          refine lexW_value (v := ?_) (by rfl) (by rfl) (fun W hW => ?_) ?_
          rotate_left
          · skip; go_simp <;> with_reducible rfl
          simp only [Act.put, List.setIfInBounds_toArray, List.set_cons_zero, List.set_cons_succ]
          refine lexW_value (v := ?_) (by rfl) (by rfl) (fun W hW => ?_) ?_
          rotate_left
          · skip; go_simp <;> with_reducible rfl
          simp only [Act.put, List.setIfInBounds_toArray, List.set_cons_zero, List.set_cons_succ]
          refine lexW_value (v := ?_) (by rfl) (by rfl) (fun W hW => ?_) ?_
          rotate_left
          · have l1 := run_loadFe (hW.get (g := g7) (x := oo.val) (by simp)); go_simp <;> with_reducible rfl
          simp only [Act.put, List.setIfInBounds_toArray, List.set_cons_zero, List.set_cons_succ]
          refine lexW_value (v := ?_) (by rfl) (by rfl) (fun W hW => ?_) ?_
          rotate_left
          · skip; go_simp <;> with_reducible rfl
          simp only [Act.put, List.setIfInBounds_toArray, List.set_cons_zero, List.set_cons_succ]
          refine lexW_value (v := ?_) (by rfl) (by rfl) (fun W hW => ?_) ?_
          rotate_left
          · skip; go_simp <;> with_reducible rfl
          simp only [Act.put, List.setIfInBounds_toArray, List.set_cons_zero, List.set_cons_succ]
          refine lexW_value (v := ?_) (by rfl) (by rfl) (fun W hW => ?_) ?_
          rotate_left
          · skip; go_simp <;> with_reducible rfl
          simp only [Act.put, List.setIfInBounds_toArray, List.set_cons_zero, List.set_cons_succ]
          refine lexW_value (v := ?_) (by rfl) (by rfl) (fun W hW => ?_) ?_
          rotate_left
          · skip; go_simp <;> with_reducible rfl
          simp only [Act.put, List.setIfInBounds_toArray, List.set_cons_zero, List.set_cons_succ]
          refine lexW_off (by rfl) (by rfl) ?_
          simp only [Act.put, List.setIfInBounds_toArray, List.set_cons_zero, List.set_cons_succ]
          refine lexW_off (by rfl) (by rfl) ?_
          simp only [Act.put, List.setIfInBounds_toArray, List.set_cons_zero, List.set_cons_succ]
          refine lexW_off (by rfl) (by rfl) ?_
          simp only [Act.put, List.setIfInBounds_toArray, List.set_cons_zero, List.set_cons_succ]
          refine lexW_off (by rfl) (by rfl) ?_
          simp only [Act.put, List.setIfInBounds_toArray, List.set_cons_zero, List.set_cons_succ]
          refine lexW_off (by rfl) (by rfl) ?_
          simp only [Act.put, List.setIfInBounds_toArray, List.set_cons_zero, List.set_cons_succ]
          refine lexW_off (by rfl) (by rfl) ?_
          simp only [Act.put, List.setIfInBounds_toArray, List.set_cons_zero, List.set_cons_succ]
          refine lexW_off (by rfl) (by rfl) ?_
          simp only [Act.put, List.setIfInBounds_toArray, List.set_cons_zero, List.set_cons_succ]
          refine lexW_value (v := ?_) (by rfl) (by rfl) (fun W hW => ?_) ?_
          rotate_left
          · skip; go_simp <;> with_reducible rfl
          simp only [Act.put, List.setIfInBounds_toArray, List.set_cons_zero, List.set_cons_succ]
          refine lexW_value (v := ?_) (by rfl) (by rfl) (fun W hW => ?_) ?_
          rotate_left
          · skip; go_simp <;> with_reducible rfl
          simp only [Act.put, List.setIfInBounds_toArray, List.set_cons_zero, List.set_cons_succ]
          refine lexW_value (v := ?_) (by rfl) (by rfl) (fun W hW => ?_) ?_
          rotate_left
          · skip; go_simp <;> with_reducible rfl
          simp only [Act.put, List.setIfInBounds_toArray, List.set_cons_zero, List.set_cons_succ]
          refine lexW_value (v := ?_) (by rfl) (by rfl) (fun W hW => ?_) ?_
          rotate_left
          · skip; go_simp <;> with_reducible rfl
          simp only [Act.put, List.setIfInBounds_toArray, List.set_cons_zero, List.set_cons_succ]
          refine lexW_value (v := ?_) (by rfl) (by rfl) (fun W hW => ?_) ?_
          rotate_left
          · skip; go_simp <;> with_reducible rfl
          simp only [Act.put, List.setIfInBounds_toArray, List.set_cons_zero, List.set_cons_succ]
          refine lexW_value (v := ?_) (by rfl) (by rfl) (fun W hW => ?_) ?_
          rotate_left
          · skip; go_simp <;> with_reducible rfl
          simp only [Act.put, List.setIfInBounds_toArray, List.set_cons_zero, List.set_cons_succ]
          refine lexW_value (v := ?_) (by rfl) (by rfl) (fun W hW => ?_) ?_
          rotate_left
          · skip; go_simp <;> with_reducible rfl
          simp only [Act.put, List.setIfInBounds_toArray, List.set_cons_zero, List.set_cons_succ]
          refine lexW_value (v := ?_) (by rfl) (by rfl) (fun W hW => ?_) ?_
          rotate_left
          · skip; go_simp <;> with_reducible rfl
          simp only [Act.put, List.setIfInBounds_toArray, List.set_cons_zero, List.set_cons_succ]
          refine lexW_value (v := ?_) (by rfl) (by rfl) (fun W hW => ?_) ?_
          rotate_left
          · skip; go_simp <;> with_reducible rfl
          simp only [Act.put, List.setIfInBounds_toArray, List.set_cons_zero, List.set_cons_succ]
          refine lexW_value (v := ?_) (by rfl) (by rfl) (fun W hW => ?_) ?_
          rotate_left
          · have l1 := run_loadFe (hW.get (g := g8) (x := x.val) (by simp)); go_simp <;> with_reducible rfl
          simp only [Act.put, List.setIfInBounds_toArray, List.set_cons_zero, List.set_cons_succ]
          refine' lexW_call (by rfl) (by rfl) (fun W hW => ?_) (fun W hW => ?_) ?_
          rotate_left 3
          · go_simp <;> first | with_reducible rfl | exact ⟨rfl, rfl⟩
          · with_reducible exact K10.out W
          simp only [Act.put, List.setIfInBounds_toArray, List.set_cons_zero, List.set_cons_succ]
          refine lexW_value (v := ?_) (by rfl) (by rfl) (fun W hW => ?_) ?_
          rotate_left
          · skip; go_simp <;> with_reducible rfl
          simp only [Act.put, List.setIfInBounds_toArray, List.set_cons_zero, List.set_cons_succ]
          refine lexW_value (v := ?_) (by rfl) (by rfl) (fun W hW => ?_) ?_
          rotate_left
          · skip; go_simp <;> with_reducible rfl
          simp only [Act.put, List.setIfInBounds_toArray, List.set_cons_zero, List.set_cons_succ]
          refine lexW_value (v := ?_) (by rfl) (by rfl) (fun W hW => ?_) ?_
          rotate_left
          · skip; go_simp <;> with_reducible rfl
          simp only [Act.put, List.setIfInBounds_toArray, List.set_cons_zero, List.set_cons_succ]
          refine lexW_value (v := ?_) (by rfl) (by rfl) (fun W hW => ?_) ?_
          rotate_left
          · have l1 := run_loadFe (hW.get (g := w.heap.size) (x := a) (by simp)); go_simp <;> with_reducible rfl
          simp only [Act.put, List.setIfInBounds_toArray, List.set_cons_zero, List.set_cons_succ]
          refine' lexW_call (by rfl) (by rfl) (fun W hW => ?_) (fun W hW => ?_) ?_
          rotate_left 3
          · go_simp <;> first | with_reducible rfl | exact ⟨rfl, rfl⟩
          · with_reducible exact K8.out W
          simp only [Act.put, List.setIfInBounds_toArray, List.set_cons_zero, List.set_cons_succ]
          refine' lexW_call (by rfl) (by rfl) (fun W hW => ?_) (fun W hW => ?_) ?_
          rotate_left 3
          · go_simp <;> first | with_reducible rfl | exact ⟨rfl, rfl⟩
          · with_reducible exact K9.out W
          simp only [Act.put, List.setIfInBounds_toArray, List.set_cons_zero, List.set_cons_succ]
          refine lexW_value (v := ?_) (by rfl) (by rfl) (fun W hW => ?_) ?_
          rotate_left
          · have l1 := run_loadFe (hW.get (g := w.heap.size) (x := a) (by simp)); go_simp <;> with_reducible rfl
          simp only [Act.put, List.setIfInBounds_toArray, List.set_cons_zero, List.set_cons_succ]
          refine lexW_value (v := ?_) (by rfl) (by rfl) (fun W hW => ?_) ?_
          rotate_left
          · skip; go_simp <;> with_reducible rfl
          simp only [Act.put, List.setIfInBounds_toArray, List.set_cons_zero, List.set_cons_succ]
          refine' lexW_call (by rfl) (by rfl) (fun W hW => ?_) (fun W hW => ?_) ?_
          rotate_left 3
          · go_simp <;> first | with_reducible rfl | exact ⟨rfl, rfl⟩
          · with_reducible exact K5.out W
          simp only [Act.put, List.setIfInBounds_toArray, List.set_cons_zero, List.set_cons_succ]
          refine lexW_value (v := ?_) (by rfl) (by rfl) (fun W hW => ?_) ?_
          rotate_left
          · skip; go_simp <;> with_reducible rfl
          simp only [Act.put, List.setIfInBounds_toArray, List.set_cons_zero, List.set_cons_succ]
          refine lexW_value (v := ?_) (by rfl) (by rfl) (fun W hW => ?_) ?_
          rotate_left
          · skip; go_simp <;> with_reducible rfl
          simp only [Act.put, List.setIfInBounds_toArray, List.set_cons_zero, List.set_cons_succ]
          refine lexW_value (v := ?_) (by rfl) (by rfl) (fun W hW => ?_) ?_
          rotate_left
          · skip; go_simp <;> with_reducible rfl
          simp only [Act.put, List.setIfInBounds_toArray, List.set_cons_zero, List.set_cons_succ]
          refine lexW_value (v := ?_) (by rfl) (by rfl) (fun W hW => ?_) ?_
          rotate_left
          · skip; go_simp <;> with_reducible rfl
          simp only [Act.put, List.setIfInBounds_toArray, List.set_cons_zero, List.set_cons_succ]
          refine lexW_value (v := ?_) (by rfl) (by rfl) (fun W hW => ?_) ?_
          rotate_left
          · skip; go_simp <;> with_reducible rfl
          simp only [Act.put, List.setIfInBounds_toArray, List.set_cons_zero, List.set_cons_succ]
          refine lexW_off (by rfl) (by rfl) ?_
          simp only [Act.put, List.setIfInBounds_toArray, List.set_cons_zero, List.set_cons_succ]
          refine lexW_off (by rfl) (by rfl) ?_
          simp only [Act.put, List.setIfInBounds_toArray, List.set_cons_zero, List.set_cons_succ]
          refine lexW_off (by rfl) (by rfl) ?_
          simp only [Act.put, List.setIfInBounds_toArray, List.set_cons_zero, List.set_cons_succ]
          refine lexW_off (by rfl) (by rfl) ?_
          simp only [Act.put, List.setIfInBounds_toArray, List.set_cons_zero, List.set_cons_succ]
          refine lexW_off (by rfl) (by rfl) ?_
          simp only [Act.put, List.setIfInBounds_toArray, List.set_cons_zero, List.set_cons_succ]
          refine lexW_off (by rfl) (by rfl) ?_
          simp only [Act.put, List.setIfInBounds_toArray, List.set_cons_zero, List.set_cons_succ]
          refine lexW_value (v := ?_) (by rfl) (by rfl) (fun W hW => ?_) ?_
          rotate_left
          · skip; go_simp <;> with_reducible rfl
          simp only [Act.put, List.setIfInBounds_toArray, List.set_cons_zero, List.set_cons_succ]
          refine lexW_value (v := ?_) (by rfl) (by rfl) (fun W hW => ?_) ?_
          rotate_left
          · skip; go_simp <;> with_reducible rfl
          simp only [Act.put, List.setIfInBounds_toArray, List.set_cons_zero, List.set_cons_succ]
          refine lexW_nil (fun b8 W8 F8 E8 => ?_)
          obtain rfl := lexEnd_none E8
          go_wp2
          go_ret
          exact ⟨rfl, F8.below⟩
        · obtain rfl : z = false := by rw [HZ.out]; exact decide_eq_false hza
          have ho := hz1.out hza
          have hd := hod.out hza
          simp only [decide_eq_true ho] at qo
          clear hza ho HZ hz0 hz1 hod
          cases hf : fodd fa with
          | false =>
            rw [hf] at O1 hd
            rw [hd] at O2
            clear hf hd
            refine wp_region_lex 49 (fun _ => false) (MadeFe 0) (Bl w (g8 + 1) [(g8, x.val), (g7, oo.val), (w.heap.size, a), (w.heap.size + 1, b)]) (by kernel_rfl) (by kernel_rfl) F5.drew Bl.stay MadeFe.stay lex_none ?_
            simp only [List.take_succ_cons, List.take_zero, List.drop_succ_cons, List.drop_zero]
            refine lexW_value (v := ?_) (by rfl) (by rfl) (fun W hW => ?_) ?_
            rotate_left
            · skip; go_simp <;> with_reducible rfl
            simp only [Act.put, List.setIfInBounds_toArray, List.set_cons_zero, List.set_cons_succ]
            refine lexW_value (v := ?_) (by rfl) (by rfl) (fun W hW => ?_) ?_
            rotate_left
            · skip; go_simp <;> with_reducible rfl
            simp only [Act.put, List.setIfInBounds_toArray, List.set_cons_zero, List.set_cons_succ]
            refine lexW_value (v := ?_) (by rfl) (by rfl) (fun W hW => ?_) ?_
            rotate_left
            · skip; go_simp <;> with_reducible rfl
            simp only [Act.put, List.setIfInBounds_toArray, List.set_cons_zero, List.set_cons_succ]
            refine lexW_value (v := ?_) (by rfl) (by rfl) (fun W hW => ?_) ?_
            rotate_left
            · skip; go_simp <;> with_reducible rfl
            simp only [Act.put, List.setIfInBounds_toArray, List.set_cons_zero, List.set_cons_succ]
            refine lexW_off (by rfl) (by rfl) ?_
            simp only [Act.put, List.setIfInBounds_toArray, List.set_cons_zero, List.set_cons_succ]
            refine lexW_off (by rfl) (by rfl) ?_
            simp only [Act.put, List.setIfInBounds_toArray, List.set_cons_zero, List.set_cons_succ]
            refine lexW_off (by rfl) (by rfl) ?_
            simp only [Act.put, List.setIfInBounds_toArray, List.set_cons_zero, List.set_cons_succ]
            refine lexW_value (v := ?_) (by rfl) (by rfl) (fun W hW => ?_) ?_
            rotate_left
            · skip; go_simp <;> with_reducible rfl
            simp only [Act.put, List.setIfInBounds_toArray, List.set_cons_zero, List.set_cons_succ]
            refine lexW_value (v := ?_) (by rfl) (by rfl) (fun W hW => ?_) ?_
            rotate_left
            · skip; go_simp <;> with_reducible rfl
            simp only [Act.put, List.setIfInBounds_toArray, List.set_cons_zero, List.set_cons_succ]
            refine lexW_value (v := ?_) (by rfl) (by rfl) (fun W hW => ?_) ?_
            rotate_left
            · skip; go_simp <;> with_reducible rfl
            simp only [Act.put, List.setIfInBounds_toArray, List.set_cons_zero, List.set_cons_succ]
            refine lexW_value (v := ?_) (by rfl) (by rfl) (fun W hW => ?_) ?_
            rotate_left
            · skip; go_simp <;> with_reducible rfl
            simp only [Act.put, List.setIfInBounds_toArray, List.set_cons_zero, List.set_cons_succ]
            refine lexW_value (v := ?_) (by rfl) (by rfl) (fun W hW => ?_) ?_
            rotate_left
            · skip; go_simp <;> with_reducible rfl
            simp only [Act.put, List.setIfInBounds_toArray, List.set_cons_zero, List.set_cons_succ]
            refine lexW_value (v := ?_) (by rfl) (by rfl) (fun W hW => ?_) ?_
            rotate_left
            · have l1 := run_loadFe (hW.get (g := g7) (x := oo.val) (by simp)); go_simp <;> with_reducible rfl
            simp only [Act.put, List.setIfInBounds_toArray, List.set_cons_zero, List.set_cons_succ]
            refine lexW_value (v := ?_) (by rfl) (by rfl) (fun W hW => ?_) ?_
            rotate_left
            · skip; go_simp <;> with_reducible rfl
            simp only [Act.put, List.setIfInBounds_toArray, List.set_cons_zero, List.set_cons_succ]
            refine lexW_value (v := ?_) (by rfl) (by rfl) (fun W hW => ?_) ?_
            rotate_left
            · skip; go_simp <;> with_reducible rfl
            simp only [Act.put, List.setIfInBounds_toArray, List.set_cons_zero, List.set_cons_succ]
            refine lexW_value (v := ?_) (by rfl) (by rfl) (fun W hW => ?_) ?_
            rotate_left
            · skip; go_simp <;> with_reducible rfl
            simp only [Act.put, List.setIfInBounds_toArray, List.set_cons_zero, List.set_cons_succ]
            refine lexW_value (v := ?_) (by rfl) (by rfl) (fun W hW => ?_) ?_
            rotate_left
            · skip; go_simp <;> with_reducible rfl
            simp only [Act.put, List.setIfInBounds_toArray, List.set_cons_zero, List.set_cons_succ]
            refine lexW_value (v := ?_) (by rfl) (by rfl) (fun W hW => ?_) ?_
            rotate_left
            · skip; go_simp <;> with_reducible rfl
            simp only [Act.put, List.setIfInBounds_toArray, List.set_cons_zero, List.set_cons_succ]
            refine lexW_value (v := ?_) (by rfl) (by rfl) (fun W hW => ?_) ?_
            rotate_left
            · skip; go_simp <;> with_reducible rfl
            simp only [Act.put, List.setIfInBounds_toArray, List.set_cons_zero, List.set_cons_succ]
            refine lexW_value (v := ?_) (by rfl) (by rfl) (fun W hW => ?_) ?_
            rotate_left
            · skip; go_simp <;> with_reducible rfl
            simp only [Act.put, List.setIfInBounds_toArray, List.set_cons_zero, List.set_cons_succ]
            refine lexW_value (v := ?_) (by rfl) (by rfl) (fun W hW => ?_) ?_
            rotate_left
            · skip; go_simp <;> with_reducible rfl
            simp only [Act.put, List.setIfInBounds_toArray, List.set_cons_zero, List.set_cons_succ]
            refine lexW_value (v := ?_) (by rfl) (by rfl) (fun W hW => ?_) ?_
            rotate_left
            · skip; go_simp <;> with_reducible rfl
            simp only [Act.put, List.setIfInBounds_toArray, List.set_cons_zero, List.set_cons_succ]
            refine lexW_value (v := ?_) (by rfl) (by rfl) (fun W hW => ?_) ?_
            rotate_left
            · skip; go_simp <;> with_reducible rfl
            simp only [Act.put, List.setIfInBounds_toArray, List.set_cons_zero, List.set_cons_succ]
            refine lexW_value (v := ?_) (by rfl) (by rfl) (fun W hW => ?_) ?_
            rotate_left
            · skip; go_simp <;> with_reducible rfl
            simp only [Act.put, List.setIfInBounds_toArray, List.set_cons_zero, List.set_cons_succ]
            refine lexW_value (v := ?_) (by rfl) (by rfl) (fun W hW => ?_) ?_
            rotate_left
            · skip; go_simp <;> with_reducible rfl
            simp only [Act.put, List.setIfInBounds_toArray, List.set_cons_zero, List.set_cons_succ]
            refine lexW_value (v := ?_) (by rfl) (by rfl) (fun W hW => ?_) ?_
            rotate_left
            · have l1 := run_loadFe (hW.get (g := g8) (x := x.val) (by simp)); go_simp <;> with_reducible rfl
            simp only [Act.put, List.setIfInBounds_toArray, List.set_cons_zero, List.set_cons_succ]
            refine' lexW_call (by rfl) (by rfl) (fun W hW => ?_) (fun W hW => ?_) ?_
            rotate_left 3
            · go_simp <;> first | with_reducible rfl | exact ⟨rfl, rfl⟩
            · with_reducible exact K10.out W
            simp only [Act.put, List.setIfInBounds_toArray, List.set_cons_zero, List.set_cons_succ]
            refine lexW_value (v := ?_) (by rfl) (by rfl) (fun W hW => ?_) ?_
            rotate_left
            · skip; go_simp <;> with_reducible rfl
            simp only [Act.put, List.setIfInBounds_toArray, List.set_cons_zero, List.set_cons_succ]
            refine lexW_value (v := ?_) (by rfl) (by rfl) (fun W hW => ?_) ?_
            rotate_left
            · skip; go_simp <;> with_reducible rfl
            simp only [Act.put, List.setIfInBounds_toArray, List.set_cons_zero, List.set_cons_succ]
            refine lexW_value (v := ?_) (by rfl) (by rfl) (fun W hW => ?_) ?_
            rotate_left
            · skip; go_simp <;> with_reducible rfl
            simp only [Act.put, List.setIfInBounds_toArray, List.set_cons_zero, List.set_cons_succ]
            refine lexW_value (v := ?_) (by rfl) (by rfl) (fun W hW => ?_) ?_
            rotate_left
            · have l1 := run_loadFe (hW.get (g := w.heap.size) (x := a) (by simp)); go_simp <;> with_reducible rfl
            simp only [Act.put, List.setIfInBounds_toArray, List.set_cons_zero, List.set_cons_succ]
            refine' lexW_call (by rfl) (by rfl) (fun W hW => ?_) (fun W hW => ?_) ?_
            rotate_left 3
            · go_simp <;> first | with_reducible rfl | exact ⟨rfl, rfl⟩
            · with_reducible exact K8.out W
            simp only [Act.put, List.setIfInBounds_toArray, List.set_cons_zero, List.set_cons_succ]
            refine' lexW_call (by rfl) (by rfl) (fun W hW => ?_) (fun W hW => ?_) ?_
            rotate_left 3
            · go_simp <;> first | with_reducible rfl | exact ⟨rfl, rfl⟩
            · with_reducible exact K9.out W
            simp only [Act.put, List.setIfInBounds_toArray, List.set_cons_zero, List.set_cons_succ]
            refine lexW_value (v := ?_) (by rfl) (by rfl) (fun W hW => ?_) ?_
            rotate_left
            · have l1 := run_loadFe (hW.get (g := w.heap.size) (x := a) (by simp)); go_simp <;> with_reducible rfl
            simp only [Act.put, List.setIfInBounds_toArray, List.set_cons_zero, List.set_cons_succ]
            refine lexW_value (v := ?_) (by rfl) (by rfl) (fun W hW => ?_) ?_
            rotate_left
            · skip; go_simp <;> with_reducible rfl
            simp only [Act.put, List.setIfInBounds_toArray, List.set_cons_zero, List.set_cons_succ]
            refine' lexW_call (by rfl) (by rfl) (fun W hW => ?_) (fun W hW => ?_) ?_
            rotate_left 3
            · go_simp <;> first | with_reducible rfl | exact ⟨rfl, rfl⟩
            · with_reducible exact K5.out W
            simp only [Act.put, List.setIfInBounds_toArray, List.set_cons_zero, List.set_cons_succ]
            refine lexW_value (v := ?_) (by rfl) (by rfl) (fun W hW => ?_) ?_
            rotate_left
            · skip; go_simp <;> with_reducible rfl
            simp only [Act.put, List.setIfInBounds_toArray, List.set_cons_zero, List.set_cons_succ]
            refine lexW_value (v := ?_) (by rfl) (by rfl) (fun W hW => ?_) ?_
            rotate_left
            · skip; go_simp <;> with_reducible rfl
            simp only [Act.put, List.setIfInBounds_toArray, List.set_cons_zero, List.set_cons_succ]
            refine lexW_value (v := ?_) (by rfl) (by rfl) (fun W hW => ?_) ?_
            rotate_left
            · skip; go_simp <;> with_reducible rfl
            simp only [Act.put, List.setIfInBounds_toArray, List.set_cons_zero, List.set_cons_succ]
            refine lexW_value (v := ?_) (by rfl) (by rfl) (fun W hW => ?_) ?_
            rotate_left
            · skip; go_simp <;> with_reducible rfl
            simp only [Act.put, List.setIfInBounds_toArray, List.set_cons_zero, List.set_cons_succ]
            refine lexW_value (v := ?_) (by rfl) (by rfl) (fun W hW => ?_) ?_
            rotate_left
            · skip; go_simp <;> with_reducible rfl
            simp only [Act.put, List.setIfInBounds_toArray, List.set_cons_zero, List.set_cons_succ]
            refine lexW_value (v := ?_) (by rfl) (by rfl) (fun W hW => ?_) ?_
            rotate_left
            · have l1 := run_loadFe (hW.get (g := w.heap.size) (x := a) (by simp)); go_simp <;> with_reducible rfl
            simp only [Act.put, List.setIfInBounds_toArray, List.set_cons_zero, List.set_cons_succ]
            refine' lexW_call (by rfl) (by rfl) (fun W hW => ?_) (fun W hW => ?_) ?_
            rotate_left 3
            · go_simp <;> first | with_reducible rfl | exact ⟨rfl, rfl⟩
            · with_reducible exact O1 W
            simp only [Act.put, List.setIfInBounds_toArray, List.set_cons_zero, List.set_cons_succ]
            refine lexW_value (v := ?_) (by rfl) (by rfl) (fun W hW => ?_) ?_
            rotate_left
            · have l1 := run_loadFe (hW.get (g := w.heap.size) (x := a) (by simp)); go_simp <;> with_reducible rfl
            simp only [Act.put, List.setIfInBounds_toArray, List.set_cons_zero, List.set_cons_succ]
            refine' lexW_call (by rfl) (by rfl) (fun W hW => ?_) (fun W hW => ?_) ?_
            rotate_left 3
            · go_simp <;> first | with_reducible rfl | exact ⟨rfl, rfl⟩
            · with_reducible exact K6.out W (LK.out _ hW.below)
            simp only [Act.put, List.setIfInBounds_toArray, List.set_cons_zero, List.set_cons_succ]
            refine' lexW_call (by rfl) (by rfl) (fun W hW => ?_) (fun W hW => ?_) ?_
            rotate_left 3
            · go_simp <;> first | with_reducible rfl | exact ⟨rfl, rfl⟩
            · with_reducible exact O2 W
            simp only [Act.put, List.setIfInBounds_toArray, List.set_cons_zero, List.set_cons_succ]
            refine lexW_value (v := ?_) (by rfl) (by rfl) (fun W hW => ?_) ?_
            rotate_left
            · skip; go_simp <;> with_reducible rfl
            simp only [Act.put, List.setIfInBounds_toArray, List.set_cons_zero, List.set_cons_succ]
            refine lexW_value (v := ?_) (by rfl) (by rfl) (fun W hW => ?_) ?_
            rotate_left
            · skip; go_simp <;> with_reducible rfl
            simp only [Act.put, List.setIfInBounds_toArray, List.set_cons_zero, List.set_cons_succ]
            refine lexW_value (v := ?_) (by rfl) (by rfl) (fun W hW => ?_) ?_
            rotate_left
            · skip; go_simp <;> with_reducible rfl
            simp only [Act.put, List.setIfInBounds_toArray, List.set_cons_zero, List.set_cons_succ]
            refine lexW_nil (fun b8 W8 F8 E8 => ?_)
            obtain rfl := lexEnd_none E8
            go_wp2
            go_ret
            exact ⟨rfl, F8.below⟩
          | true =>
            rw [hf] at O1 hd
            rw [hd] at O2
            clear hf hd
            refine wp_region_lex 49 (fun _ => false) (MadeFe 0) (Bl w (g8 + 1) [(g8, x.val), (g7, oo.val), (w.heap.size, a), (w.heap.size + 1, b)]) (by kernel_rfl) (by kernel_rfl) F5.drew Bl.stay MadeFe.stay lex_none ?_
            simp only [List.take_succ_cons, List.take_zero, List.drop_succ_cons, List.drop_zero]
            refine lexW_value (v := ?_) (by rfl) (by rfl) (fun W hW => ?_) ?_
            rotate_left
            · skip; go_simp <;> with_reducible rfl
            simp only [Act.put, List.setIfInBounds_toArray, List.set_cons_zero, List.set_cons_succ]
            refine lexW_value (v := ?_) (by rfl) (by rfl) (fun W hW => ?_) ?_
            rotate_left
            · skip; go_simp <;> with_reducible rfl
            simp only [Act.put, List.setIfInBounds_toArray, List.set_cons_zero, List.set_cons_succ]
            refine lexW_value (v := ?_) (by rfl) (by rfl) (fun W hW => ?_) ?_
            rotate_left
            · skip; go_simp <;> with_reducible rfl
            simp only [Act.put, List.setIfInBounds_toArray, List.set_cons_zero, List.set_cons_succ]
            refine lexW_value (v := ?_) (by rfl) (by rfl) (fun W hW => ?_) ?_
            rotate_left
            · skip; go_simp <;> with_reducible rfl
            simp only [Act.put, List.setIfInBounds_toArray, List.set_cons_zero, List.set_cons_succ]
            refine lexW_off (by rfl) (by rfl) ?_
            simp only [Act.put, List.setIfInBounds_toArray, List.set_cons_zero, List.set_cons_succ]
            refine lexW_off (by rfl) (by rfl) ?_
            simp only [Act.put, List.setIfInBounds_toArray, List.set_cons_zero, List.set_cons_succ]
            refine lexW_off (by rfl) (by rfl) ?_
            simp only [Act.put, List.setIfInBounds_toArray, List.set_cons_zero, List.set_cons_succ]
            refine lexW_value (v := ?_) (by rfl) (by rfl) (fun W hW => ?_) ?_
            rotate_left
            · skip; go_simp <;> with_reducible rfl
            simp only [Act.put, List.setIfInBounds_toArray, List.set_cons_zero, List.set_cons_succ]
            refine lexW_value (v := ?_) (by rfl) (by rfl) (fun W hW => ?_) ?_
            rotate_left
            · skip; go_simp <;> with_reducible rfl
            simp only [Act.put, List.setIfInBounds_toArray, List.set_cons_zero, List.set_cons_succ]
            refine lexW_value (v := ?_) (by rfl) (by rfl) (fun W hW => ?_) ?_
            rotate_left
            · skip; go_simp <;> with_reducible rfl
            simp only [Act.put, List.setIfInBounds_toArray, List.set_cons_zero, List.set_cons_succ]
            refine lexW_value (v := ?_) (by rfl) (by rfl) (fun W hW => ?_) ?_
            rotate_left
            · skip; go_simp <;> with_reducible rfl
            simp only [Act.put, List.setIfInBounds_toArray, List.set_cons_zero, List.set_cons_succ]
            refine lexW_value (v := ?_) (by rfl) (by rfl) (fun W hW => ?_) ?_
            rotate_left
            · skip; go_simp <;> with_reducible rfl
            simp only [Act.put, List.setIfInBounds_toArray, List.set_cons_zero, List.set_cons_succ]
            refine lexW_value (v := ?_) (by rfl) (by rfl) (fun W hW => ?_) ?_
            rotate_left
            · have l1 := run_loadFe (hW.get (g := g7) (x := oo.val) (by simp)); go_simp <;> with_reducible rfl
            simp only [Act.put, List.setIfInBounds_toArray, List.set_cons_zero, List.set_cons_succ]
            refine lexW_value (v := ?_) (by rfl) (by rfl) (fun W hW => ?_) ?_
            rotate_left
            · skip; go_simp <;> with_reducible rfl
            simp only [Act.put, List.setIfInBounds_toArray, List.set_cons_zero, List.set_cons_succ]
            refine lexW_value (v := ?_) (by rfl) (by rfl) (fun W hW => ?_) ?_
            rotate_left
            · skip; go_simp <;> with_reducible rfl
            simp only [Act.put, List.setIfInBounds_toArray, List.set_cons_zero, List.set_cons_succ]
            refine lexW_value (v := ?_) (by rfl) (by rfl) (fun W hW => ?_) ?_
            rotate_left
            · skip; go_simp <;> with_reducible rfl
            simp only [Act.put, List.setIfInBounds_toArray, List.set_cons_zero, List.set_cons_succ]
            refine lexW_value (v := ?_) (by rfl) (by rfl) (fun W hW => ?_) ?_
            rotate_left
            · skip; go_simp <;> with_reducible rfl
            simp only [Act.put, List.setIfInBounds_toArray, List.set_cons_zero, List.set_cons_succ]
            refine lexW_value (v := ?_) (by rfl) (by rfl) (fun W hW => ?_) ?_
            rotate_left
            · skip; go_simp <;> with_reducible rfl
            simp only [Act.put, List.setIfInBounds_toArray, List.set_cons_zero, List.set_cons_succ]
            refine lexW_value (v := ?_) (by rfl) (by rfl) (fun W hW => ?_) ?_
            rotate_left
            · skip; go_simp <;> with_reducible rfl
            simp only [Act.put, List.setIfInBounds_toArray, List.set_cons_zero, List.set_cons_succ]
            refine lexW_value (v := ?_) (by rfl) (by rfl) (fun W hW => ?_) ?_
            rotate_left
            · skip; go_simp <;> with_reducible rfl
            simp only [Act.put, List.setIfInBounds_toArray, List.set_cons_zero, List.set_cons_succ]
            refine lexW_value (v := ?_) (by rfl) (by rfl) (fun W hW => ?_) ?_
            rotate_left
            · skip; go_simp <;> with_reducible rfl
            simp only [Act.put, List.setIfInBounds_toArray, List.set_cons_zero, List.set_cons_succ]
            refine lexW_value (v := ?_) (by rfl) (by rfl) (fun W hW => ?_) ?_
            rotate_left
            · skip; go_simp <;> with_reducible rfl
            simp only [Act.put, List.setIfInBounds_toArray, List.set_cons_zero, List.set_cons_succ]
            refine lexW_value (v := ?_) (by rfl) (by rfl) (fun W hW => ?_) ?_
            rotate_left
            · skip; go_simp <;> with_reducible rfl
            simp only [Act.put, List.setIfInBounds_toArray, List.set_cons_zero, List.set_cons_succ]
            refine lexW_value (v := ?_) (by rfl) (by rfl) (fun W hW => ?_) ?_
            rotate_left
            · skip; go_simp <;> with_reducible rfl
            simp only [Act.put, List.setIfInBounds_toArray, List.set_cons_zero, List.set_cons_succ]
            refine lexW_value (v := ?_) (by rfl) (by rfl) (fun W hW => ?_) ?_
            rotate_left
            · skip; go_simp <;> with_reducible rfl
            simp only [Act.put, List.setIfInBounds_toArray, List.set_cons_zero, List.set_cons_succ]
            refine lexW_value (v := ?_) (by rfl) (by rfl) (fun W hW => ?_) ?_
            rotate_left
            · have l1 := run_loadFe (hW.get (g := g8) (x := x.val) (by simp)); go_simp <;> with_reducible rfl
            simp only [Act.put, List.setIfInBounds_toArray, List.set_cons_zero, List.set_cons_succ]
            refine' lexW_call (by rfl) (by rfl) (fun W hW => ?_) (fun W hW => ?_) ?_
            rotate_left 3
            · go_simp <;> first | with_reducible rfl | exact ⟨rfl, rfl⟩
            · with_reducible exact K10.out W
            simp only [Act.put, List.setIfInBounds_toArray, List.set_cons_zero, List.set_cons_succ]
            refine lexW_value (v := ?_) (by rfl) (by rfl) (fun W hW => ?_) ?_
            rotate_left
            · skip; go_simp <;> with_reducible rfl
            simp only [Act.put, List.setIfInBounds_toArray, List.set_cons_zero, List.set_cons_succ]
            refine lexW_value (v := ?_) (by rfl) (by rfl) (fun W hW => ?_) ?_
            rotate_left
            · skip; go_simp <;> with_reducible rfl
            simp only [Act.put, List.setIfInBounds_toArray, List.set_cons_zero, List.set_cons_succ]
            refine lexW_value (v := ?_) (by rfl) (by rfl) (fun W hW => ?_) ?_
            rotate_left
            · skip; go_simp <;> with_reducible rfl
            simp only [Act.put, List.setIfInBounds_toArray, List.set_cons_zero, List.set_cons_succ]
            refine lexW_value (v := ?_) (by rfl) (by rfl) (fun W hW => ?_) ?_
            rotate_left
            · have l1 := run_loadFe (hW.get (g := w.heap.size) (x := a) (by simp)); go_simp <;> with_reducible rfl
            simp only [Act.put, List.setIfInBounds_toArray, List.set_cons_zero, List.set_cons_succ]
            refine' lexW_call (by rfl) (by rfl) (fun W hW => ?_) (fun W hW => ?_) ?_
            rotate_left 3
            · go_simp <;> first | with_reducible rfl | exact ⟨rfl, rfl⟩
            · with_reducible exact K8.out W
            simp only [Act.put, List.setIfInBounds_toArray, List.set_cons_zero, List.set_cons_succ]
            refine' lexW_call (by rfl) (by rfl) (fun W hW => ?_) (fun W hW => ?_) ?_
            rotate_left 3
            · go_simp <;> first | with_reducible rfl | exact ⟨rfl, rfl⟩
            · with_reducible exact K9.out W
            simp only [Act.put, List.setIfInBounds_toArray, List.set_cons_zero, List.set_cons_succ]
            refine lexW_value (v := ?_) (by rfl) (by rfl) (fun W hW => ?_) ?_
            rotate_left
            · have l1 := run_loadFe (hW.get (g := w.heap.size) (x := a) (by simp)); go_simp <;> with_reducible rfl
            simp only [Act.put, List.setIfInBounds_toArray, List.set_cons_zero, List.set_cons_succ]
            refine lexW_value (v := ?_) (by rfl) (by rfl) (fun W hW => ?_) ?_
            rotate_left
            · skip; go_simp <;> with_reducible rfl
            simp only [Act.put, List.setIfInBounds_toArray, List.set_cons_zero, List.set_cons_succ]
            refine' lexW_call (by rfl) (by rfl) (fun W hW => ?_) (fun W hW => ?_) ?_
            rotate_left 3
            · go_simp <;> first | with_reducible rfl | exact ⟨rfl, rfl⟩
            · with_reducible exact K5.out W
            simp only [Act.put, List.setIfInBounds_toArray, List.set_cons_zero, List.set_cons_succ]
            refine lexW_value (v := ?_) (by rfl) (by rfl) (fun W hW => ?_) ?_
            rotate_left
            · skip; go_simp <;> with_reducible rfl
            simp only [Act.put, List.setIfInBounds_toArray, List.set_cons_zero, List.set_cons_succ]
            refine lexW_value (v := ?_) (by rfl) (by rfl) (fun W hW => ?_) ?_
            rotate_left
            · skip; go_simp <;> with_reducible rfl
            simp only [Act.put, List.setIfInBounds_toArray, List.set_cons_zero, List.set_cons_succ]
            refine lexW_value (v := ?_) (by rfl) (by rfl) (fun W hW => ?_) ?_
            rotate_left
            · skip; go_simp <;> with_reducible rfl
            simp only [Act.put, List.setIfInBounds_toArray, List.set_cons_zero, List.set_cons_succ]
            refine lexW_value (v := ?_) (by rfl) (by rfl) (fun W hW => ?_) ?_
            rotate_left
            · skip; go_simp <;> with_reducible rfl
            simp only [Act.put, List.setIfInBounds_toArray, List.set_cons_zero, List.set_cons_succ]
            refine lexW_value (v := ?_) (by rfl) (by rfl) (fun W hW => ?_) ?_
            rotate_left
            · skip; go_simp <;> with_reducible rfl
            simp only [Act.put, List.setIfInBounds_toArray, List.set_cons_zero, List.set_cons_succ]
            refine lexW_value (v := ?_) (by rfl) (by rfl) (fun W hW => ?_) ?_
            rotate_left
            · have l1 := run_loadFe (hW.get (g := w.heap.size) (x := a) (by simp)); go_simp <;> with_reducible rfl
            simp only [Act.put, List.setIfInBounds_toArray, List.set_cons_zero, List.set_cons_succ]
            refine' lexW_call (by rfl) (by rfl) (fun W hW => ?_) (fun W hW => ?_) ?_
            rotate_left 3
            · go_simp <;> first | with_reducible rfl | exact ⟨rfl, rfl⟩
            · with_reducible exact O1 W
            simp only [Act.put, List.setIfInBounds_toArray, List.set_cons_zero, List.set_cons_succ]
            refine lexW_value (v := ?_) (by rfl) (by rfl) (fun W hW => ?_) ?_
            rotate_left
            · have l1 := run_loadFe (hW.get (g := w.heap.size) (x := a) (by simp)); go_simp <;> with_reducible rfl
            simp only [Act.put, List.setIfInBounds_toArray, List.set_cons_zero, List.set_cons_succ]
            refine' lexW_call (by rfl) (by rfl) (fun W hW => ?_) (fun W hW => ?_) ?_
            rotate_left 3
            · go_simp <;> first | with_reducible rfl | exact ⟨rfl, rfl⟩
            · with_reducible exact K6.out W (LK.out _ hW.below)
            simp only [Act.put, List.setIfInBounds_toArray, List.set_cons_zero, List.set_cons_succ]
            refine' lexW_call (by rfl) (by rfl) (fun W hW => ?_) (fun W hW => ?_) ?_
            rotate_left 3
            · go_simp <;> first | with_reducible rfl | exact ⟨rfl, rfl⟩
            · with_reducible exact O2 W
            simp only [Act.put, List.setIfInBounds_toArray, List.set_cons_zero, List.set_cons_succ]
            refine lexW_value (v := ?_) (by rfl) (by rfl) (fun W hW => ?_) ?_
            rotate_left
            · skip; go_simp <;> with_reducible rfl
            simp only [Act.put, List.setIfInBounds_toArray, List.set_cons_zero, List.set_cons_succ]
            refine lexW_value (v := ?_) (by rfl) (by rfl) (fun W hW => ?_) ?_
            rotate_left
            · skip; go_simp <;> with_reducible rfl
            simp only [Act.put, List.setIfInBounds_toArray, List.set_cons_zero, List.set_cons_succ]
            refine lexW_value (v := ?_) (by rfl) (by rfl) (fun W hW => ?_) ?_
            rotate_left
            · skip; go_simp <;> with_reducible rfl
            simp only [Act.put, List.setIfInBounds_toArray, List.set_cons_zero, List.set_cons_succ]
            refine lexW_nil (fun b8 W8 F8 E8 => ?_)
            obtain rfl := lexEnd_none E8
            go_wp2
            go_ret
            exact ⟨rfl, F8.below⟩
end
end Go.Proofs.YtcidbiceeinglaaDoor
