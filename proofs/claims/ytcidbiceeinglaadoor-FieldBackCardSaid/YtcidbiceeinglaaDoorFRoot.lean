/-
  The program's numbers modulo P: the even root of a quotient.
-/
import Derived.Test.YtcidbiceeinglaaDoorFNear
namespace Go.Proofs.YtcidbiceeinglaaDoor
open Go.RowKit

theorem RM_sq : toF RM * toF RM = -1 := Fin.ext (by decide)
theorem RM_lt : RM < big := by decide
theorem run_loadRM {W : World} (L : Laid W) : (loadFe 24 ⟨1, 0, none⟩).run Tryd.prog W = .ok (.agg ((lims RM).map nv).toArray) W := by
  have c0 := L.2 0 (by omega)
  have c1 := L.2 1 (by omega)
  have c2 := L.2 2 (by omega)
  have c3 := L.2 3 (by omega)
  unfold loadFe
  show _ = Result.ok (Value.agg #[.int .u64 (limb RM 0 : Int), .int .u64 (limb RM 1 : Int), .int .u64 (limb RM 2 : Int), .int .u64 (limb RM 3 : Int)]) W
  generalize limb RM 0 = x0 at *
  generalize limb RM 1 = x1 at *
  generalize limb RM 2 = x2 at *
  generalize limb RM 3 = x3 at *
  go_simp

theorem even_of {a : F} {b : Bool} (h : fodd a = b) : even a = if b = true then -a else a := by unfold even; rw [h]

section
attribute [local go_sem ↓] load_fe

set_option maxRecDepth 100000 in
set_option maxHeartbeats 2000000 in
theorem Root_any (m n : Nat) (w : World) (hm : m < big) (hn : n < big) (L0 : Laid w) :
    Calls Tryd.prog 27 #[fev m, fev n] w fun e w' => e = .returned (.tuple #[fev (froot (toF m) (toF n)).1.val, .bool (froot (toF m) (toF n)).2]) ∧ Below w.heap.size w w' := by
  obtain ⟨hA, hB, hC, hb, hsz⟩ := fe_start3 w m n 0 _ _ #[.int .u64 0, .int .u64 0, .int .u64 0, .int .u64 0] rfl rfl (by kernel_rfl)
  have F0 : RB w m n _ := ⟨hA, hB, hC, hb⟩
  clear hA hB hC hb hsz
  have hsz0 := L0.size
  have LK : Hid (∀ W, Below w.heap.size w W → Laid W) := Lib.hid fun W hb => L0.keep hb hsz0
  obtain ⟨u, hu⟩ : ∃ u, u = toF m := ⟨_, rfl⟩
  obtain ⟨v, hv⟩ : ∃ v, v = toF n := ⟨_, rfl⟩
  obtain ⟨y, hy⟩ : ∃ y, y = near u v := ⟨_, rfl⟩
  obtain ⟨R, hR⟩ : ∃ R, R = froot u v := ⟨_, rfl⟩
  have hRn := nearRoot_eq u v (toF RM) RM_sq
  rw [← hR] at hRn
  unfold nearRoot at hRn
  rw [← hy] at hRn
  have NR : Hid (∀ W, Calls Tryd.prog 41 #[.agg ((lims m).map nv).toArray, .agg ((lims n).map nv).toArray] W fun e w' => e = .returned (.agg ((lims y.val).map nv).toArray) ∧ Below W.heap.size W w') := Lib.hid fun W => by rw [hy, hu, hv]; exact nearRoot_any m n W hm hn
  have MM : Hid (∀ (a b : F) W, Calls Tryd.prog 14 #[.agg ((lims a.val).map nv).toArray, .agg ((lims b.val).map nv).toArray] W fun e w' => e = .returned (.agg ((lims (a * b).val).map nv).toArray) ∧ Below W.heap.size W w') := Lib.hid fun a b W => by
    have := Mul_any a.val b.val W (F.lt_big _) (F.lt_big _)
    rw [toF_of, toF_of] at this
    exact this
  have MV : Hid (∀ (b : F) W, Calls Tryd.prog 14 #[.agg ((lims n).map nv).toArray, .agg ((lims b.val).map nv).toArray] W fun e w' => e = .returned (.agg ((lims (v * b).val).map nv).toArray) ∧ Below W.heap.size W w') := Lib.hid fun b W => by
    have := Mul_any n b.val W hn (F.lt_big _)
    rw [toF_of, ← hv] at this
    exact this
  have MI : Hid (∀ W, Calls Tryd.prog 14 #[.agg ((lims y.val).map nv).toArray, .agg ((lims RM).map nv).toArray] W fun e w' => e = .returned (.agg ((lims (y * toF RM).val).map nv).toArray) ∧ Below W.heap.size W w') := Lib.hid fun W => by
    have := Mul_any y.val RM W (F.lt_big _) RM_lt
    rw [toF_of] at this
    exact this
  have SU : Hid (∀ (b : F) W, Calls Tryd.prog 23 #[.agg ((lims b.val).map nv).toArray, .agg ((lims m).map nv).toArray] W fun e w' => e = .returned (.bool (decide (b = u))) ∧ Below W.heap.size W w') := Lib.hid fun b W => by
    have := Same_any b.val m W (F.lt_big _) hm
    rw [toF_of, ← hu] at this
    exact this
  have NU : Hid (∀ W, Laid W → Calls Tryd.prog 16 #[.agg ((lims m).map nv).toArray] W fun e w' => e = .returned (.agg ((lims (-u).val).map nv).toArray) ∧ Below W.heap.size W w') := Lib.hid fun W L => by rw [hu]; exact Neg_any m W hm L
  have SN : Hid (∀ (a b : F) W, Calls Tryd.prog 23 #[.agg ((lims a.val).map nv).toArray, .agg ((lims b.val).map nv).toArray] W fun e w' => e = .returned (.bool (decide (a = b))) ∧ Below W.heap.size W w') := Lib.hid fun a b W => by
    have := Same_any a.val b.val W (F.lt_big _) (F.lt_big _)
    rw [toF_of, toF_of] at this
    exact this
  have OD : Hid (∀ (a : F) W, Calls Tryd.prog 25 #[.agg ((lims a.val).map nv).toArray] W fun e w' => e = .returned (.bool (fodd a)) ∧ Below W.heap.size W w') := Lib.hid fun a W => by
    have := Odd_any a.val W (F.lt_big _)
    rw [toF_of] at this
    exact this
  have NG : Hid (∀ (a : F) W, Laid W → Calls Tryd.prog 16 #[.agg ((lims a.val).map nv).toArray] W fun e w' => e = .returned (.agg ((lims (-a).val).map nv).toArray) ∧ Below W.heap.size W w') := Lib.hid fun a W L => by
    have := Neg_any a.val W (F.lt_big _) L
    rw [toF_of] at this
    exact this
  rw [fev_eq m, fev_eq n, ← hu, ← hv, ← hR]
  have HR := Lib.hid hRn
  clear hu hv hy hR hRn hm hn L0 hsz0
  generalize toF RM = im at *
  have MYY := MM.out y y
  have MVV := MV.out (y * y)
  obtain ⟨b, hb⟩ : ∃ b, b = v * (y * y) := ⟨_, rfl⟩
  rw [← hb] at MVV HR
  clear hb
  generalize (y * y).val = yy at *
  go_enter Tryd.func27, Tryd.ntmps27
  go_upto_region 1 with (fail)
  generalize ((w.alloc (.cells ((lims m).map nv).toArray 24)).alloc (.cells ((lims n).map nv).toArray 24)).alloc (.cells #[.int .u64 0, .int .u64 0, .int .u64 0, .int .u64 0] 24) = wv at *
  have hA := F0.a
  have hB := F0.b
  go_upto_region 2 with (first
    | (with_reducible refine wpList_load_n rfl 24 (.tmp 2) rfl w.heap.size rfl (lims m) 4 hA rfl Tryd.underlying24 Tryd.infoFe ?_)
    | (with_reducible refine wpList_load_n rfl 24 (.tmp 3) rfl (w.heap.size + 1) rfl (lims n) 4 hB rfl Tryd.underlying24 Tryd.infoFe ?_)
    | (go_at_call 41
       with_reducible refine (NR.out _).mono ?_
       rintro e w3 ⟨rfl, hb3⟩
       have F3 := RB.stay _ _ F0 hb3
       have F3a := RB.stay _ _ F3 ((Below.refl _ w3).alloc (Nat.le_refl _) (.cells #[.int .u64 0, .int .u64 0, .int .u64 0, .int .u64 0] 24))
       have z3 := holdsN_new w3 24 w3.heap.size #[.int .u64 0, .int .u64 0, .int .u64 0, .int .u64 0] (lims 0) rfl (by kernel_rfl))
    | (with_reducible refine wpList_store_n rfl 24 (.tmp 6) (.tmp 10) rfl w3.heap.size (lims y.val) 4 rfl rfl rfl (lims 0) (by with_unfolding_all exact z3) Tryd.infoFe rfl w.heap.size w (by with_unfolding_all exact F3a.d) F3.d.size ?_
       intro w4 H4 o4 s4 b4
       have F4 : RB1 w m n w3.heap.size y.val w4 := ⟨RB.oth (by with_unfolding_all exact F3a) o4 b4 (RB.len _ F3), H4⟩
       clear s4)
    | fail)
  clear hA hB F3a z3 o4 NR F0 hb3 H4 b4
  have hg3 := RB.len _ F3
  clear F3
  generalize w3.heap.size = g at *
  try dsimp only [Act.put]
  go_cut [7] (fun vp wx => InBlock (max (w.heap.size + 3) (g + 1)) b.val (RB1 w m n g y.val) vp wx)
  case first =>
    refine wp_region_lex 6 (fun k => k == 5) (MadeFe (max (w.heap.size + 3) (g + 1))) (RB1 w m n g y.val) (by kernel_rfl) (by kernel_rfl) (RB1.stay _ _ F4 (Below.refl _ w4).drew) RB1.stay MadeFe.stay (made_fe RB1.len rfl) ?_
    simp only [List.take_succ_cons, List.take_zero, List.drop_succ_cons, List.drop_zero]
    refine lexW_value (v := ?_) (by rfl) (by rfl) (fun W hW => ?_) ?_
    rotate_left
    · have l1 := run_loadFe hW.f.b; go_simp <;> with_reducible rfl
    simp only [Act.put, List.setIfInBounds_toArray, List.set_cons_zero, List.set_cons_succ]
    refine lexW_value (v := ?_) (by rfl) (by rfl) (fun W hW => ?_) ?_
    rotate_left
    · have l1 := run_loadFe hW.h; go_simp <;> with_reducible rfl
    simp only [Act.put, List.setIfInBounds_toArray, List.set_cons_zero, List.set_cons_succ]
    refine lexW_value (v := ?_) (by rfl) (by rfl) (fun W hW => ?_) ?_
    rotate_left
    · have l1 := run_loadFe hW.h; go_simp <;> with_reducible rfl
    simp only [Act.put, List.setIfInBounds_toArray, List.set_cons_zero, List.set_cons_succ]
    refine' lexW_call (by rfl) (by rfl) (fun W hW => ?_) (fun W hW => ?_) ?_
    rotate_left 3
    · go_simp <;> first | with_reducible rfl | exact ⟨rfl, rfl⟩
    · with_reducible exact MYY W
    simp only [Act.put, List.setIfInBounds_toArray, List.set_cons_zero, List.set_cons_succ]
    refine' lexW_call (by rfl) (by rfl) (fun W hW => ?_) (fun W hW => ?_) ?_
    rotate_left 3
    · go_simp <;> first | with_reducible rfl | exact ⟨rfl, rfl⟩
    · with_reducible exact MVV W
    simp only [Act.put, List.setIfInBounds_toArray, List.set_cons_zero, List.set_cons_succ]
    refine lexW_free (by rfl) ?_
    refine lexW_nil (fun b W hW hE => ?_)
    obtain ⟨_, ⟨g2, rfl, hg, hZ⟩, rfl⟩ := lexEnd_one (j := 5) (d := 7) (by kernel_rfl) hE
    simp only [Act.put, List.setIfInBounds_toArray, List.set_cons_zero, List.set_cons_succ]
    go_wp2_with (with_reducible refine wpList_store_n rfl 24 (.tmp 7) (.tmp 15) rfl g2 (lims _) 4 rfl rfl rfl (lims 0) hZ Tryd.infoFe rfl w.heap.size w hW.f.d (by omega) ?_; intro w7 Hg o7 _ hb7)
    go_meet
    exact ⟨g2, rfl, hg, Hg, hW.oth o7 hb7 hg⟩
  case rest =>
    obtain ⟨g2, rfl, hg2, HQ, R2⟩ := hcut
    have F2 : RB2 w m n g y.val g2 b.val wc := ⟨R2, HQ⟩
    clear R2 HQ F4
    have hU := F2.f.f.a
    have hQ := F2.h
    by_cases h1 : b = u
    · rw [if_pos h1] at HR
      have RX := Lib.hid HR.out.symm
      clear HR
      have S1 := SU.out b
      rw [decide_eq_true h1] at S1
      clear h1
      go_upto_region 7 with (first
        | (with_reducible refine wpList_load_n rfl 24 (.tmp 7) rfl g2 rfl (lims b.val) 4 hQ rfl Tryd.underlying24 Tryd.infoFe ?_)
        | (with_reducible refine wpList_load_n rfl 24 (.tmp 2) rfl w.heap.size rfl (lims m) 4 hU rfl Tryd.underlying24 Tryd.infoFe ?_)
        | (go_at_call 23
           with_reducible refine (S1 _).mono ?_
           rintro e w7 ⟨rfl, hb7⟩
           have G7 := RB1.stay _ _ F2.f hb7)
        | fail)
      by_cases ho : fodd y = true
      · have hE : Hid (even y = -y) := Lib.hid (by rw [even_of ho]; rfl)
        have OX := OD.out y
        rw [ho] at OX
        have hX := G7.h
        go_wp2_with (first
          | (with_reducible refine wpList_load_n rfl 24 (.tmp 6) rfl g rfl (lims (y).val) 4 hX rfl Tryd.underlying24 Tryd.infoFe ?_)
          | (go_at_call 25
             with_reducible refine (OX _).mono ?_
             rintro e w8 ⟨rfl, hb8⟩
             have G8 := RB1.stay _ _ G7 hb8
             have hX8 := G8.h)
          | (with_reducible refine wpList_load_n rfl 24 (.tmp 6) rfl g rfl (lims (y).val) 4 hX8 rfl Tryd.underlying24 Tryd.infoFe ?_)
          | (go_at_call 16
             with_reducible refine (NG.out y _ (LK.out _ G8.f.d)).mono ?_
             rintro e w9 ⟨rfl, hb9⟩
             have G9 := RB1.stay _ _ G8 hb9
             have hX9 := G9.h)
          | (with_reducible refine wpList_store_n rfl 24 (.tmp 6) (.tmp 32) rfl g (lims (-y).val) 4 rfl rfl rfl (lims (y).val) hX9 Tryd.infoFe rfl w.heap.size w G9.f.d (by omega) ?_
             intro w10 H10 o10 s10 b10
             have hC10 : HoldsN w10 24 (w.heap.size + 1 + 1) (lims 0) := G9.f.c.oth o10 (by omega)
             clear s10)
          | (with_reducible refine wpList_load_n rfl 24 (.tmp 6) rfl g rfl (lims (-y).val) 4 H10 rfl Tryd.underlying24 Tryd.infoFe ?_)
          | (with_reducible refine wpList_store_n rfl 24 (.tmp 4) (.tmp 33) rfl (w.heap.size + 1 + 1) (lims (-y).val) 4 rfl rfl rfl (lims 0) hC10 Tryd.infoFe rfl w.heap.size w b10 (by omega) ?_; intro w11 Hg _ _ hb11)
          | fail)
        exact bodyPost_ret (results_cell_slot rfl _ _ _ _ _ _ _ rfl Hg Tryd.underlying24 rfl (by rw [Tryd.infoFe]; rfl)) rfl ⟨by rw [RX.out, hE.out]; rfl, hb11⟩
      · have ho' : fodd y = false := by simpa using ho
        have hE : Hid (even y = y) := Lib.hid (by rw [even_of ho']; rfl)
        have OX := OD.out y
        rw [ho'] at OX
        have hX := G7.h
        go_wp2_with (first
          | (with_reducible refine wpList_load_n rfl 24 (.tmp 6) rfl g rfl (lims (y).val) 4 hX rfl Tryd.underlying24 Tryd.infoFe ?_)
          | (go_at_call 25
             with_reducible refine (OX _).mono ?_
             rintro e w8 ⟨rfl, hb8⟩
             have G8 := RB1.stay _ _ G7 hb8
             have hX8 := G8.h
             have hC8 : HoldsN w8 24 (w.heap.size + 1 + 1) (lims 0) := G8.f.c)
          | (with_reducible refine wpList_load_n rfl 24 (.tmp 6) rfl g rfl (lims (y).val) 4 hX8 rfl Tryd.underlying24 Tryd.infoFe ?_)
          | (with_reducible refine wpList_store_n rfl 24 (.tmp 4) (.tmp 33) rfl (w.heap.size + 1 + 1) (lims (y).val) 4 rfl rfl rfl (lims 0) hC8 Tryd.infoFe rfl w.heap.size w G8.f.d (by omega) ?_; intro w11 Hg _ _ hb11)
          | fail)
        exact bodyPost_ret (results_cell_slot rfl _ _ _ _ _ _ _ rfl Hg Tryd.underlying24 rfl (by rw [Tryd.infoFe]; rfl)) rfl ⟨by rw [RX.out, hE.out]; rfl, hb11⟩
    · rw [if_neg h1] at HR
      have S1 := SU.out b
      rw [decide_eq_false h1] at S1
      clear h1
      go_upto_region 5 with (first
        | (with_reducible refine wpList_load_n rfl 24 (.tmp 7) rfl g2 rfl (lims b.val) 4 hQ rfl Tryd.underlying24 Tryd.infoFe ?_)
        | (with_reducible refine wpList_load_n rfl 24 (.tmp 2) rfl w.heap.size rfl (lims m) 4 hU rfl Tryd.underlying24 Tryd.infoFe ?_)
        | (go_at_call 23
           with_reducible refine (S1 _).mono ?_
           rintro e w5 ⟨rfl, hb5⟩
           have F5 := RB2.stay _ _ F2 hb5)
        | fail)
      clear F2 hU hQ S1 hb5
      by_cases h2 : b = -u
      · rw [if_pos h2] at HR
        have RX := Lib.hid HR.out.symm
        clear HR
        have S2 := SN.out b (-u)
        rw [decide_eq_true h2] at S2
        clear h2
        refine wp_region_lex 4 (fun _ => false) (MadeFe 0) (RB2 w m n g y.val g2 b.val) (by kernel_rfl) (by kernel_rfl) (RB2.stay _ _ F5 (Below.refl _ w5).drew) RB2.stay MadeFe.stay lex_none ?_
        simp only [List.take_succ_cons, List.take_zero, List.drop_succ_cons, List.drop_zero]
        refine lexW_value (v := ?_) (by rfl) (by rfl) (fun W hW => ?_) ?_
        rotate_left
        · have l1 := run_loadFe hW.h; go_simp <;> with_reducible rfl
        simp only [Act.put, List.setIfInBounds_toArray, List.set_cons_zero, List.set_cons_succ]
        refine lexW_value (v := ?_) (by rfl) (by rfl) (fun W hW => ?_) ?_
        rotate_left
        · have l1 := run_loadFe hW.f.f.a; go_simp <;> with_reducible rfl
        simp only [Act.put, List.setIfInBounds_toArray, List.set_cons_zero, List.set_cons_succ]
        refine' lexW_call (by rfl) (by rfl) (fun W hW => ?_) (fun W hW => ?_) ?_
        rotate_left 3
        · go_simp <;> first | with_reducible rfl | exact ⟨rfl, rfl⟩
        · with_reducible exact NU.out W (LK.out _ hW.f.f.d)
        simp only [Act.put, List.setIfInBounds_toArray, List.set_cons_zero, List.set_cons_succ]
        refine' lexW_call (by rfl) (by rfl) (fun W hW => ?_) (fun W hW => ?_) ?_
        rotate_left 3
        · go_simp <;> first | with_reducible rfl | exact ⟨rfl, rfl⟩
        · with_reducible exact S2 W
        simp only [Act.put, List.setIfInBounds_toArray, List.set_cons_zero, List.set_cons_succ]
        refine lexW_nil (fun b' W hW hE => ?_)
        obtain rfl := lexEnd_none hE
        have hY := hW.f.h
        have lG := run_loadRM (LK.out _ hW.f.f.d)
        go_upto_region 7 with (first
          | (with_reducible refine wpList_load_n rfl 24 (.tmp 6) rfl g rfl (lims y.val) 4 hY rfl Tryd.underlying24 Tryd.infoFe ?_)
          | (go_at_call 14
             with_reducible refine (MI.out _).mono ?_
             rintro e w6 ⟨rfl, hb6⟩
             have F6 := RB2.stay _ _ hW hb6
             have hY6 := F6.f.h)
          | (with_reducible refine wpList_store_n rfl 24 (.tmp 6) (.tmp 28) rfl g (lims (y * im).val) 4 rfl rfl rfl (lims y.val) hY6 Tryd.infoFe rfl w.heap.size w F6.f.f.d (by omega) ?_
             intro w7 H7 o7 s7 b7
             have G7 : RB1 w m n g (y * im).val w7 := ⟨F6.f.f.oth o7 b7 (by omega), H7⟩
             clear s7)
          | fail)
        by_cases ho : fodd (y * im) = true
        · have hE : Hid (even (y * im) = -(y * im)) := Lib.hid (by rw [even_of ho]; rfl)
          have OX := OD.out (y * im)
          rw [ho] at OX
          have hX := G7.h
          go_wp2_with (first
            | (with_reducible refine wpList_load_n rfl 24 (.tmp 6) rfl g rfl (lims (y * im).val) 4 hX rfl Tryd.underlying24 Tryd.infoFe ?_)
            | (go_at_call 25
               with_reducible refine (OX _).mono ?_
               rintro e w8 ⟨rfl, hb8⟩
               have G8 := RB1.stay _ _ G7 hb8
               have hX8 := G8.h)
            | (with_reducible refine wpList_load_n rfl 24 (.tmp 6) rfl g rfl (lims (y * im).val) 4 hX8 rfl Tryd.underlying24 Tryd.infoFe ?_)
            | (go_at_call 16
               with_reducible refine (NG.out (y * im) _ (LK.out _ G8.f.d)).mono ?_
               rintro e w9 ⟨rfl, hb9⟩
               have G9 := RB1.stay _ _ G8 hb9
               have hX9 := G9.h)
            | (with_reducible refine wpList_store_n rfl 24 (.tmp 6) (.tmp 32) rfl g (lims (-(y * im)).val) 4 rfl rfl rfl (lims (y * im).val) hX9 Tryd.infoFe rfl w.heap.size w G9.f.d (by omega) ?_
               intro w10 H10 o10 s10 b10
               have hC10 : HoldsN w10 24 (w.heap.size + 1 + 1) (lims 0) := G9.f.c.oth o10 (by omega)
               clear s10)
            | (with_reducible refine wpList_load_n rfl 24 (.tmp 6) rfl g rfl (lims (-(y * im)).val) 4 H10 rfl Tryd.underlying24 Tryd.infoFe ?_)
            | (with_reducible refine wpList_store_n rfl 24 (.tmp 4) (.tmp 33) rfl (w.heap.size + 1 + 1) (lims (-(y * im)).val) 4 rfl rfl rfl (lims 0) hC10 Tryd.infoFe rfl w.heap.size w b10 (by omega) ?_; intro w11 Hg _ _ hb11)
            | fail)
          exact bodyPost_ret (results_cell_slot rfl _ _ _ _ _ _ _ rfl Hg Tryd.underlying24 rfl (by rw [Tryd.infoFe]; rfl)) rfl ⟨by rw [RX.out, hE.out]; rfl, hb11⟩
        · have ho' : fodd (y * im) = false := by simpa using ho
          have hE : Hid (even (y * im) = y * im) := Lib.hid (by rw [even_of ho']; rfl)
          have OX := OD.out (y * im)
          rw [ho'] at OX
          have hX := G7.h
          go_wp2_with (first
            | (with_reducible refine wpList_load_n rfl 24 (.tmp 6) rfl g rfl (lims (y * im).val) 4 hX rfl Tryd.underlying24 Tryd.infoFe ?_)
            | (go_at_call 25
               with_reducible refine (OX _).mono ?_
               rintro e w8 ⟨rfl, hb8⟩
               have G8 := RB1.stay _ _ G7 hb8
               have hX8 := G8.h
               have hC8 : HoldsN w8 24 (w.heap.size + 1 + 1) (lims 0) := G8.f.c)
            | (with_reducible refine wpList_load_n rfl 24 (.tmp 6) rfl g rfl (lims (y * im).val) 4 hX8 rfl Tryd.underlying24 Tryd.infoFe ?_)
            | (with_reducible refine wpList_store_n rfl 24 (.tmp 4) (.tmp 33) rfl (w.heap.size + 1 + 1) (lims (y * im).val) 4 rfl rfl rfl (lims 0) hC8 Tryd.infoFe rfl w.heap.size w G8.f.d (by omega) ?_; intro w11 Hg _ _ hb11)
            | fail)
          exact bodyPost_ret (results_cell_slot rfl _ _ _ _ _ _ _ rfl Hg Tryd.underlying24 rfl (by rw [Tryd.infoFe]; rfl)) rfl ⟨by rw [RX.out, hE.out]; rfl, hb11⟩
      · rw [if_neg h2] at HR
        have RX := Lib.hid HR.out.symm
        clear HR
        have S2 := SN.out b (-u)
        rw [decide_eq_false h2] at S2
        clear h2
        refine wp_region_lex 4 (fun _ => false) (MadeFe 0) (RB2 w m n g y.val g2 b.val) (by kernel_rfl) (by kernel_rfl) (RB2.stay _ _ F5 (Below.refl _ w5).drew) RB2.stay MadeFe.stay lex_none ?_
        simp only [List.take_succ_cons, List.take_zero, List.drop_succ_cons, List.drop_zero]
        refine lexW_value (v := ?_) (by rfl) (by rfl) (fun W hW => ?_) ?_
        rotate_left
        · have l1 := run_loadFe hW.h; go_simp <;> with_reducible rfl
        simp only [Act.put, List.setIfInBounds_toArray, List.set_cons_zero, List.set_cons_succ]
        refine lexW_value (v := ?_) (by rfl) (by rfl) (fun W hW => ?_) ?_
        rotate_left
        · have l1 := run_loadFe hW.f.f.a; go_simp <;> with_reducible rfl
        simp only [Act.put, List.setIfInBounds_toArray, List.set_cons_zero, List.set_cons_succ]
        refine' lexW_call (by rfl) (by rfl) (fun W hW => ?_) (fun W hW => ?_) ?_
        rotate_left 3
        · go_simp <;> first | with_reducible rfl | exact ⟨rfl, rfl⟩
        · with_reducible exact NU.out W (LK.out _ hW.f.f.d)
        simp only [Act.put, List.setIfInBounds_toArray, List.set_cons_zero, List.set_cons_succ]
        refine' lexW_call (by rfl) (by rfl) (fun W hW => ?_) (fun W hW => ?_) ?_
        rotate_left 3
        · go_simp <;> first | with_reducible rfl | exact ⟨rfl, rfl⟩
        · with_reducible exact S2 W
        simp only [Act.put, List.setIfInBounds_toArray, List.set_cons_zero, List.set_cons_succ]
        refine lexW_nil (fun b' W hW hE => ?_)
        obtain rfl := lexEnd_none hE
        have hC : HoldsN W 24 (w.heap.size + 1 + 1) (lims 0) := hW.f.f.c
        have z0 : Hid (Value.agg #[.int .u64 0, .int .u64 0, .int .u64 0, .int .u64 0] = .agg ((lims 0).map nv).toArray) := Lib.hid (by kernel_rfl)
        go_wp2_with (first
          | (with_reducible refine wpList_store_n rfl 24 (.tmp 4) (.tmp 16) rfl (w.heap.size + 1 + 1) (lims 0) 4 rfl (by with_unfolding_all exact z0.out) rfl (lims 0) hC Tryd.infoFe rfl w.heap.size w hW.f.f.d (by omega) ?_; intro w11 Hg _ _ hb11)
          | fail)
        exact bodyPost_ret (results_cell_slot rfl _ _ _ _ _ _ _ rfl Hg Tryd.underlying24 rfl (by rw [Tryd.infoFe]; rfl)) rfl ⟨by rw [RX.out]; rfl, hb11⟩
end
end Go.Proofs.YtcidbiceeinglaaDoor
