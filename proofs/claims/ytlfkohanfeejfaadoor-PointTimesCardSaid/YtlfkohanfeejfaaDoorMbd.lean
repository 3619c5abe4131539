/-
  The program's numbers modulo P: the even root of a quotient.
  A point's bytes, and the point that bytes are. Pure.
  The document's bytes of points: a point's bytes.
-/
import Derived.Test.YtlfkohanfeejfaaDoorMab
import Derived.Test.YtlfkohanfeejfaaDoorMai
import Derived.Test.YtlfkohanfeejfaaDoorMam
import Derived.Test.YtlfkohanfeejfaaDoorMan
import Derived.Test.YtlfkohanfeejfaaDoorMat
import Derived.Test.YtlfkohanfeejfaaDoorMbc
namespace Go.Proofs.YtlfkohanfeejfaaDoor
open Go.RowKit

theorem RM_sq : toF RM * toF RM = -1 := Fin.ext (by decide)
theorem RM_lt : RM < big := by decide
theorem run_loadRM {W : World} (L : LaidF W) : (loadFe 24 ⟨2, 0, none⟩).run Tryd.prog W = .ok (.agg ((lims RM).map nv).toArray) W := by
  have c0 := L.2 0 (by omega)
  have c1 := L.2 1 (by omega)
  have c2 := L.2 2 (by omega)
  have c3 := L.2 3 (by omega)
  unfold loadFe
  show _ = Result.ok (Value.agg #[.int .u64 (limb RM 0 : Int), .int .u64 (limb RM 1 : Int), .int .u64 (limb RM 2 : Int), .int .u64 (limb RM 3 : Int)]) W
  generalize limb RM 0 = x0 at *
  generalize limb RM 1 = x1 at *
  generalize limb RM 2 = x2 at *
  generalize limb RM 3 = x3 at *
  go_simp

theorem even_of {a : F} {b : Bool} (h : fodd a = b) : even a = if b = true then -a else a := by unfold even; rw [h]

section
attribute [local go_sem ↓] load_fe

set_option maxRecDepth 100000 in
set_option maxHeartbeats 2000000 in
theorem Root_any (m n : Nat) (w : World) (hm : m < big) (hn : n < big) (L0 : LaidF w) :
    Calls Tryd.prog 55 #[fev m, fev n] w fun e w' => e = .returned (.tuple #[fev (froot (toF m) (toF n)).1.val, .bool (froot (toF m) (toF n)).2]) ∧ Below w.heap.size w w' := by
  obtain ⟨hA, hB, hC, hb, hsz⟩ := fe_start3 w m n 0 _ _ #[.int .u64 0, .int .u64 0, .int .u64 0, .int .u64 0] rfl rfl (by kernel_rfl)
  have F0 : RB w m n _ := ⟨hA, hB, hC, hb⟩
  clear hA hB hC hb hsz
  have hsz0 := L0.size
  have LK : Hid (∀ W, Below w.heap.size w W → LaidF W) := Lib.hid fun W hb => L0.keep hb hsz0
  obtain ⟨u, hu⟩ : ∃ u, u = toF m := ⟨_, rfl⟩
  obtain ⟨v, hv⟩ : ∃ v, v = toF n := ⟨_, rfl⟩
  obtain ⟨y, hy⟩ : ∃ y, y = near u v := ⟨_, rfl⟩
  obtain ⟨R, hR⟩ : ∃ R, R = froot u v := ⟨_, rfl⟩
  have hRn := nearRoot_eq u v (toF RM) RM_sq
  rw [← hR] at hRn
  unfold nearRoot at hRn
  rw [← hy] at hRn
  have NR : Hid (∀ W, Calls Tryd.prog 76 #[.agg ((lims m).map nv).toArray, .agg ((lims n).map nv).toArray] W fun e w' => e = .returned (.agg ((lims y.val).map nv).toArray) ∧ Below W.heap.size W w') := Lib.hid fun W => by rw [hy, hu, hv]; exact nearRoot_any m n W hm hn
  have MM : Hid (∀ (a b : F) W, Calls Tryd.prog 43 #[.agg ((lims a.val).map nv).toArray, .agg ((lims b.val).map nv).toArray] W fun e w' => e = .returned (.agg ((lims (a * b).val).map nv).toArray) ∧ Below W.heap.size W w') := Lib.hid fun a b W => by
    have := Mul_any a.val b.val W (F.lt_big _) (F.lt_big _)
    rw [toF_of, toF_of] at this
    exact this
  have MV : Hid (∀ (b : F) W, Calls Tryd.prog 43 #[.agg ((lims n).map nv).toArray, .agg ((lims b.val).map nv).toArray] W fun e w' => e = .returned (.agg ((lims (v * b).val).map nv).toArray) ∧ Below W.heap.size W w') := Lib.hid fun b W => by
    have := Mul_any n b.val W hn (F.lt_big _)
    rw [toF_of, ← hv] at this
    exact this
  have MI : Hid (∀ W, Calls Tryd.prog 43 #[.agg ((lims y.val).map nv).toArray, .agg ((lims RM).map nv).toArray] W fun e w' => e = .returned (.agg ((lims (y * toF RM).val).map nv).toArray) ∧ Below W.heap.size W w') := Lib.hid fun W => by
    have := Mul_any y.val RM W (F.lt_big _) RM_lt
    rw [toF_of] at this
    exact this
  have SU : Hid (∀ (b : F) W, Calls Tryd.prog 44 #[.agg ((lims b.val).map nv).toArray, .agg ((lims m).map nv).toArray] W fun e w' => e = .returned (.bool (decide (b = u))) ∧ Below W.heap.size W w') := Lib.hid fun b W => by
    have := Same_any b.val m W (F.lt_big _) hm
    rw [toF_of, ← hu] at this
    exact this
  have NU : Hid (∀ W, LaidF W → Calls Tryd.prog 49 #[.agg ((lims m).map nv).toArray] W fun e w' => e = .returned (.agg ((lims (-u).val).map nv).toArray) ∧ Below W.heap.size W w') := Lib.hid fun W L => by rw [hu]; exact Neg_any m W hm L
  have SN : Hid (∀ (a b : F) W, Calls Tryd.prog 44 #[.agg ((lims a.val).map nv).toArray, .agg ((lims b.val).map nv).toArray] W fun e w' => e = .returned (.bool (decide (a = b))) ∧ Below W.heap.size W w') := Lib.hid fun a b W => by
    have := Same_any a.val b.val W (F.lt_big _) (F.lt_big _)
    rw [toF_of, toF_of] at this
    exact this
  have OD : Hid (∀ (a : F) W, Calls Tryd.prog 34 #[.agg ((lims a.val).map nv).toArray] W fun e w' => e = .returned (.bool (fodd a)) ∧ Below W.heap.size W w') := Lib.hid fun a W => by
    have := Odd_any a.val W (F.lt_big _)
    rw [toF_of] at this
    exact this
  have NG : Hid (∀ (a : F) W, LaidF W → Calls Tryd.prog 49 #[.agg ((lims a.val).map nv).toArray] W fun e w' => e = .returned (.agg ((lims (-a).val).map nv).toArray) ∧ Below W.heap.size W w') := Lib.hid fun a W L => by
    have := Neg_any a.val W (F.lt_big _) L
    rw [toF_of] at this
    exact this
  rw [fev_eq m, fev_eq n, ← hu, ← hv, ← hR]
  have HR := Lib.hid hRn
  clear hu hv hy hR hRn hm hn L0 hsz0
  generalize toF RM = im at *
  have MYY := MM.out y y
  have MVV := MV.out (y * y)
  obtain ⟨b, hb⟩ : ∃ b, b = v * (y * y) := ⟨_, rfl⟩
  rw [← hb] at MVV HR
  clear hb
  generalize (y * y).val = yy at *
  go_enter Tryd.func55, Tryd.ntmps55
  go_upto_region 1 with (fail)
  generalize ((w.alloc (.cells ((lims m).map nv).toArray 24)).alloc (.cells ((lims n).map nv).toArray 24)).alloc (.cells #[.int .u64 0, .int .u64 0, .int .u64 0, .int .u64 0] 24) = wv at *
  have hA := F0.a
  have hB := F0.b
  go_upto_region 2 with (first
    | (with_reducible refine wpList_load_n rfl 24 (.tmp 2) rfl w.heap.size rfl (lims m) 4 hA rfl Tryd.underlying24 Tryd.infoFe ?_)
    | (with_reducible refine wpList_load_n rfl 24 (.tmp 3) rfl (w.heap.size + 1) rfl (lims n) 4 hB rfl Tryd.underlying24 Tryd.infoFe ?_)
    | (go_at_call 76
       with_reducible refine (NR.out _).mono ?_
       rintro e w3 ⟨rfl, hb3⟩
       have F3 := RB.stay _ _ F0 hb3
       have F3a := RB.stay _ _ F3 ((Below.refl _ w3).alloc (Nat.le_refl _) (.cells #[.int .u64 0, .int .u64 0, .int .u64 0, .int .u64 0] 24))
       have z3 := holdsN_new w3 24 w3.heap.size #[.int .u64 0, .int .u64 0, .int .u64 0, .int .u64 0] (lims 0) rfl (by kernel_rfl))
    | (with_reducible refine wpList_store_n rfl 24 (.tmp 6) (.tmp 10) rfl w3.heap.size (lims y.val) 4 rfl rfl rfl (lims 0) (by with_unfolding_all exact z3) Tryd.infoFe rfl w.heap.size w (by with_unfolding_all exact F3a.d) F3.d.size ?_
       intro w4 H4 o4 s4 b4
       have F4 : RB1 w m n w3.heap.size y.val w4 := ⟨RB.oth (by with_unfolding_all exact F3a) o4 b4 (RB.len _ F3), H4⟩
       clear s4)
    | fail)
  clear hA hB F3a z3 o4 NR F0 hb3 H4 b4
  have hg3 := RB.len _ F3
  clear F3
  generalize w3.heap.size = g at *
  try dsimp only [Act.put]
  go_cut [7] (fun vp wx => InBlock (max (w.heap.size + 3) (g + 1)) b.val (RB1 w m n g y.val) vp wx)
  case first =>
    refine wp_region_lex 6 (fun k => k == 5) (MadeFe (max (w.heap.size + 3) (g + 1))) (RB1 w m n g y.val) (by kernel_rfl) (by kernel_rfl) (RB1.stay _ _ F4 (Below.refl _ w4).drew) RB1.stay MadeFe.stay (made_fe RB1.len rfl) ?_
    simp only [List.take_succ_cons, List.take_zero, List.drop_succ_cons, List.drop_zero]
    refine lexW_value (v := ?_) (by rfl) (by rfl) (fun W hW => ?_) ?_
    rotate_left
    · have l1 := run_loadFe hW.f.b; go_simp <;> with_reducible rfl
    simp only [Act.put, List.setIfInBounds_toArray, List.set_cons_zero, List.set_cons_succ]
    refine lexW_value (v := ?_) (by rfl) (by rfl) (fun W hW => ?_) ?_
    rotate_left
    · have l1 := run_loadFe hW.h; go_simp <;> with_reducible rfl
    simp only [Act.put, List.setIfInBounds_toArray, List.set_cons_zero, List.set_cons_succ]
    refine lexW_value (v := ?_) (by rfl) (by rfl) (fun W hW => ?_) ?_
    rotate_left
    · have l1 := run_loadFe hW.h; go_simp <;> with_reducible rfl
    simp only [Act.put, List.setIfInBounds_toArray, List.set_cons_zero, List.set_cons_succ]
    refine' lexW_call (by rfl) (by rfl) (fun W hW => ?_) (fun W hW => ?_) ?_
    rotate_left 3
    · go_simp <;> first | with_reducible rfl | exact ⟨rfl, rfl⟩
    · with_reducible exact MYY W
    simp only [Act.put, List.setIfInBounds_toArray, List.set_cons_zero, List.set_cons_succ]
    refine' lexW_call (by rfl) (by rfl) (fun W hW => ?_) (fun W hW => ?_) ?_
    rotate_left 3
    · go_simp <;> first | with_reducible rfl | exact ⟨rfl, rfl⟩
    · with_reducible exact MVV W
    simp only [Act.put, List.setIfInBounds_toArray, List.set_cons_zero, List.set_cons_succ]
    refine lexW_free (by rfl) ?_
    refine lexW_nil (fun b W hW hE => ?_)
    obtain ⟨_, ⟨g2, rfl, hg, hZ⟩, rfl⟩ := lexEnd_one (j := 5) (d := 7) (by kernel_rfl) hE
    simp only [Act.put, List.setIfInBounds_toArray, List.set_cons_zero, List.set_cons_succ]
    go_wp2_with (with_reducible refine wpList_store_n rfl 24 (.tmp 7) (.tmp 15) rfl g2 (lims _) 4 rfl rfl rfl (lims 0) hZ Tryd.infoFe rfl w.heap.size w hW.f.d (by omega) ?_; intro w7 Hg o7 _ hb7)
    go_meet
    exact ⟨g2, rfl, hg, Hg, hW.oth o7 hb7 hg⟩
  case rest =>
    obtain ⟨g2, rfl, hg2, HQ, R2⟩ := hcut
    have F2 : RB2 w m n g y.val g2 b.val wc := ⟨R2, HQ⟩
    clear R2 HQ F4
    have hU := F2.f.f.a
    have hQ := F2.h
    by_cases h1 : b = u
    · rw [if_pos h1] at HR
      have RX := Lib.hid HR.out.symm
      clear HR
      have S1 := SU.out b
      rw [decide_eq_true h1] at S1
      clear h1
      go_upto_region 7 with (first
        | (with_reducible refine wpList_load_n rfl 24 (.tmp 7) rfl g2 rfl (lims b.val) 4 hQ rfl Tryd.underlying24 Tryd.infoFe ?_)
        | (with_reducible refine wpList_load_n rfl 24 (.tmp 2) rfl w.heap.size rfl (lims m) 4 hU rfl Tryd.underlying24 Tryd.infoFe ?_)
        | (go_at_call 44
           with_reducible refine (S1 _).mono ?_
           rintro e w7 ⟨rfl, hb7⟩
           have G7 := RB1.stay _ _ F2.f hb7)
        | fail)
      by_cases ho : fodd y = true
      · have hE : Hid (even y = -y) := Lib.hid (by rw [even_of ho]; rfl)
        have OX := OD.out y
        rw [ho] at OX
        have hX := G7.h
        go_wp2_with (first
          | (with_reducible refine wpList_load_n rfl 24 (.tmp 6) rfl g rfl (lims (y).val) 4 hX rfl Tryd.underlying24 Tryd.infoFe ?_)
          | (go_at_call 34
             with_reducible refine (OX _).mono ?_
             rintro e w8 ⟨rfl, hb8⟩
             have G8 := RB1.stay _ _ G7 hb8
             have hX8 := G8.h)
          | (with_reducible refine wpList_load_n rfl 24 (.tmp 6) rfl g rfl (lims (y).val) 4 hX8 rfl Tryd.underlying24 Tryd.infoFe ?_)
          | (go_at_call 49
             with_reducible refine (NG.out y _ (LK.out _ G8.f.d)).mono ?_
             rintro e w9 ⟨rfl, hb9⟩
             have G9 := RB1.stay _ _ G8 hb9
             have hX9 := G9.h)
          | (with_reducible refine wpList_store_n rfl 24 (.tmp 6) (.tmp 32) rfl g (lims (-y).val) 4 rfl rfl rfl (lims (y).val) hX9 Tryd.infoFe rfl w.heap.size w G9.f.d (by omega) ?_
             intro w10 H10 o10 s10 b10
             have hC10 : HoldsN w10 24 (w.heap.size + 1 + 1) (lims 0) := G9.f.c.oth o10 (by omega)
             clear s10)
          | (with_reducible refine wpList_load_n rfl 24 (.tmp 6) rfl g rfl (lims (-y).val) 4 H10 rfl Tryd.underlying24 Tryd.infoFe ?_)
          | (with_reducible refine wpList_store_n rfl 24 (.tmp 4) (.tmp 33) rfl (w.heap.size + 1 + 1) (lims (-y).val) 4 rfl rfl rfl (lims 0) hC10 Tryd.infoFe rfl w.heap.size w b10 (by omega) ?_; intro w11 Hg _ _ hb11)
          | fail)
        exact bodyPost_ret (results_cell_slot rfl _ _ _ _ _ _ _ rfl Hg Tryd.underlying24 rfl (by rw [Tryd.infoFe]; rfl)) rfl ⟨by rw [RX.out, hE.out]; rfl, hb11⟩
      · have ho' : fodd y = false := by simpa using ho
        have hE : Hid (even y = y) := Lib.hid (by rw [even_of ho']; rfl)
        have OX := OD.out y
        rw [ho'] at OX
        have hX := G7.h
        go_wp2_with (first
          | (with_reducible refine wpList_load_n rfl 24 (.tmp 6) rfl g rfl (lims (y).val) 4 hX rfl Tryd.underlying24 Tryd.infoFe ?_)
          | (go_at_call 34
             with_reducible refine (OX _).mono ?_
             rintro e w8 ⟨rfl, hb8⟩
             have G8 := RB1.stay _ _ G7 hb8
             have hX8 := G8.h
             have hC8 : HoldsN w8 24 (w.heap.size + 1 + 1) (lims 0) := G8.f.c)
          | (with_reducible refine wpList_load_n rfl 24 (.tmp 6) rfl g rfl (lims (y).val) 4 hX8 rfl Tryd.underlying24 Tryd.infoFe ?_)
          | (with_reducible refine wpList_store_n rfl 24 (.tmp 4) (.tmp 33) rfl (w.heap.size + 1 + 1) (lims (y).val) 4 rfl rfl rfl (lims 0) hC8 Tryd.infoFe rfl w.heap.size w G8.f.d (by omega) ?_; intro w11 Hg _ _ hb11)
          | fail)
        exact bodyPost_ret (results_cell_slot rfl _ _ _ _ _ _ _ rfl Hg Tryd.underlying24 rfl (by rw [Tryd.infoFe]; rfl)) rfl ⟨by rw [RX.out, hE.out]; rfl, hb11⟩
    · rw [if_neg h1] at HR
      have S1 := SU.out b
      rw [decide_eq_false h1] at S1
      clear h1
      go_upto_region 5 with (first
        | (with_reducible refine wpList_load_n rfl 24 (.tmp 7) rfl g2 rfl (lims b.val) 4 hQ rfl Tryd.underlying24 Tryd.infoFe ?_)
        | (with_reducible refine wpList_load_n rfl 24 (.tmp 2) rfl w.heap.size rfl (lims m) 4 hU rfl Tryd.underlying24 Tryd.infoFe ?_)
        | (go_at_call 44
           with_reducible refine (S1 _).mono ?_
           rintro e w5 ⟨rfl, hb5⟩
           have F5 := RB2.stay _ _ F2 hb5)
        | fail)
      clear F2 hU hQ S1 hb5
      by_cases h2 : b = -u
      · rw [if_pos h2] at HR
        have RX := Lib.hid HR.out.symm
        clear HR
        have S2 := SN.out b (-u)
        rw [decide_eq_true h2] at S2
        clear h2
        refine wp_region_lex 4 (fun _ => false) (MadeFe 0) (RB2 w m n g y.val g2 b.val) (by kernel_rfl) (by kernel_rfl) (RB2.stay _ _ F5 (Below.refl _ w5).drew) RB2.stay MadeFe.stay lex_none ?_
        simp only [List.take_succ_cons, List.take_zero, List.drop_succ_cons, List.drop_zero]
        refine lexW_value (v := ?_) (by rfl) (by rfl) (fun W hW => ?_) ?_
        rotate_left
        · have l1 := run_loadFe hW.h; go_simp <;> with_reducible rfl
        simp only [Act.put, List.setIfInBounds_toArray, List.set_cons_zero, List.set_cons_succ]
        refine lexW_value (v := ?_) (by rfl) (by rfl) (fun W hW => ?_) ?_
        rotate_left
        · have l1 := run_loadFe hW.f.f.a; go_simp <;> with_reducible rfl
        simp only [Act.put, List.setIfInBounds_toArray, List.set_cons_zero, List.set_cons_succ]
        refine' lexW_call (by rfl) (by rfl) (fun W hW => ?_) (fun W hW => ?_) ?_
        rotate_left 3
        · go_simp <;> first | with_reducible rfl | exact ⟨rfl, rfl⟩
        · with_reducible exact NU.out W (LK.out _ hW.f.f.d)
        simp only [Act.put, List.setIfInBounds_toArray, List.set_cons_zero, List.set_cons_succ]
        refine' lexW_call (by rfl) (by rfl) (fun W hW => ?_) (fun W hW => ?_) ?_
        rotate_left 3
        · go_simp <;> first | with_reducible rfl | exact ⟨rfl, rfl⟩
        · with_reducible exact S2 W
        simp only [Act.put, List.setIfInBounds_toArray, List.set_cons_zero, List.set_cons_succ]
        refine lexW_nil (fun b' W hW hE => ?_)
        obtain rfl := lexEnd_none hE
        have hY := hW.f.h
        have lG := run_loadRM (LK.out _ hW.f.f.d)
        go_upto_region 7 with (first
          | (with_reducible refine wpList_load_n rfl 24 (.tmp 6) rfl g rfl (lims y.val) 4 hY rfl Tryd.underlying24 Tryd.infoFe ?_)
          | (go_at_call 43
             with_reducible refine (MI.out _).mono ?_
             rintro e w6 ⟨rfl, hb6⟩
             have F6 := RB2.stay _ _ hW hb6
             have hY6 := F6.f.h)
          | (with_reducible refine wpList_store_n rfl 24 (.tmp 6) (.tmp 28) rfl g (lims (y * im).val) 4 rfl rfl rfl (lims y.val) hY6 Tryd.infoFe rfl w.heap.size w F6.f.f.d (by omega) ?_
             intro w7 H7 o7 s7 b7
             have G7 : RB1 w m n g (y * im).val w7 := ⟨F6.f.f.oth o7 b7 (by omega), H7⟩
             clear s7)
          | fail)
        by_cases ho : fodd (y * im) = true
        · have hE : Hid (even (y * im) = -(y * im)) := Lib.hid (by rw [even_of ho]; rfl)
          have OX := OD.out (y * im)
          rw [ho] at OX
          have hX := G7.h
          go_wp2_with (first
            | (with_reducible refine wpList_load_n rfl 24 (.tmp 6) rfl g rfl (lims (y * im).val) 4 hX rfl Tryd.underlying24 Tryd.infoFe ?_)
            | (go_at_call 34
               with_reducible refine (OX _).mono ?_
               rintro e w8 ⟨rfl, hb8⟩
               have G8 := RB1.stay _ _ G7 hb8
               have hX8 := G8.h)
            | (with_reducible refine wpList_load_n rfl 24 (.tmp 6) rfl g rfl (lims (y * im).val) 4 hX8 rfl Tryd.underlying24 Tryd.infoFe ?_)
            | (go_at_call 49
               with_reducible refine (NG.out (y * im) _ (LK.out _ G8.f.d)).mono ?_
               rintro e w9 ⟨rfl, hb9⟩
               have G9 := RB1.stay _ _ G8 hb9
               have hX9 := G9.h)
            | (with_reducible refine wpList_store_n rfl 24 (.tmp 6) (.tmp 32) rfl g (lims (-(y * im)).val) 4 rfl rfl rfl (lims (y * im).val) hX9 Tryd.infoFe rfl w.heap.size w G9.f.d (by omega) ?_
               intro w10 H10 o10 s10 b10
               have hC10 : HoldsN w10 24 (w.heap.size + 1 + 1) (lims 0) := G9.f.c.oth o10 (by omega)
               clear s10)
            | (with_reducible refine wpList_load_n rfl 24 (.tmp 6) rfl g rfl (lims (-(y * im)).val) 4 H10 rfl Tryd.underlying24 Tryd.infoFe ?_)
            | (with_reducible refine wpList_store_n rfl 24 (.tmp 4) (.tmp 33) rfl (w.heap.size + 1 + 1) (lims (-(y * im)).val) 4 rfl rfl rfl (lims 0) hC10 Tryd.infoFe rfl w.heap.size w b10 (by omega) ?_; intro w11 Hg _ _ hb11)
            | fail)
          exact bodyPost_ret (results_cell_slot rfl _ _ _ _ _ _ _ rfl Hg Tryd.underlying24 rfl (by rw [Tryd.infoFe]; rfl)) rfl ⟨by rw [RX.out, hE.out]; rfl, hb11⟩
        · have ho' : fodd (y * im) = false := by simpa using ho
          have hE : Hid (even (y * im) = y * im) := Lib.hid (by rw [even_of ho']; rfl)
          have OX := OD.out (y * im)
          rw [ho'] at OX
          have hX := G7.h
          go_wp2_with (first
            | (with_reducible refine wpList_load_n rfl 24 (.tmp 6) rfl g rfl (lims (y * im).val) 4 hX rfl Tryd.underlying24 Tryd.infoFe ?_)
            | (go_at_call 34
               with_reducible refine (OX _).mono ?_
               rintro e w8 ⟨rfl, hb8⟩
               have G8 := RB1.stay _ _ G7 hb8
               have hX8 := G8.h
               have hC8 : HoldsN w8 24 (w.heap.size + 1 + 1) (lims 0) := G8.f.c)
            | (with_reducible refine wpList_load_n rfl 24 (.tmp 6) rfl g rfl (lims (y * im).val) 4 hX8 rfl Tryd.underlying24 Tryd.infoFe ?_)
            | (with_reducible refine wpList_store_n rfl 24 (.tmp 4) (.tmp 33) rfl (w.heap.size + 1 + 1) (lims (y * im).val) 4 rfl rfl rfl (lims 0) hC8 Tryd.infoFe rfl w.heap.size w G8.f.d (by omega) ?_; intro w11 Hg _ _ hb11)
            | fail)
          exact bodyPost_ret (results_cell_slot rfl _ _ _ _ _ _ _ rfl Hg Tryd.underlying24 rfl (by rw [Tryd.infoFe]; rfl)) rfl ⟨by rw [RX.out, hE.out]; rfl, hb11⟩
      · rw [if_neg h2] at HR
        have RX := Lib.hid HR.out.symm
        clear HR
        have S2 := SN.out b (-u)
        rw [decide_eq_false h2] at S2
        clear h2
        refine wp_region_lex 4 (fun _ => false) (MadeFe 0) (RB2 w m n g y.val g2 b.val) (by kernel_rfl) (by kernel_rfl) (RB2.stay _ _ F5 (Below.refl _ w5).drew) RB2.stay MadeFe.stay lex_none ?_
        simp only [List.take_succ_cons, List.take_zero, List.drop_succ_cons, List.drop_zero]
        refine lexW_value (v := ?_) (by rfl) (by rfl) (fun W hW => ?_) ?_
        rotate_left
        · have l1 := run_loadFe hW.h; go_simp <;> with_reducible rfl
        simp only [Act.put, List.setIfInBounds_toArray, List.set_cons_zero, List.set_cons_succ]
        refine lexW_value (v := ?_) (by rfl) (by rfl) (fun W hW => ?_) ?_
        rotate_left
        · have l1 := run_loadFe hW.f.f.a; go_simp <;> with_reducible rfl
        simp only [Act.put, List.setIfInBounds_toArray, List.set_cons_zero, List.set_cons_succ]
        refine' lexW_call (by rfl) (by rfl) (fun W hW => ?_) (fun W hW => ?_) ?_
        rotate_left 3
        · go_simp <;> first | with_reducible rfl | exact ⟨rfl, rfl⟩
        · with_reducible exact NU.out W (LK.out _ hW.f.f.d)
        simp only [Act.put, List.setIfInBounds_toArray, List.set_cons_zero, List.set_cons_succ]
        refine' lexW_call (by rfl) (by rfl) (fun W hW => ?_) (fun W hW => ?_) ?_
        rotate_left 3
        · go_simp <;> first | with_reducible rfl | exact ⟨rfl, rfl⟩
        · with_reducible exact S2 W
        simp only [Act.put, List.setIfInBounds_toArray, List.set_cons_zero, List.set_cons_succ]
        refine lexW_nil (fun b' W hW hE => ?_)
        obtain rfl := lexEnd_none hE
        have hC : HoldsN W 24 (w.heap.size + 1 + 1) (lims 0) := hW.f.f.c
        have z0 : Hid (Value.agg #[.int .u64 0, .int .u64 0, .int .u64 0, .int .u64 0] = .agg ((lims 0).map nv).toArray) := Lib.hid (by kernel_rfl)
        go_wp2_with (first
          | (with_reducible refine wpList_store_n rfl 24 (.tmp 4) (.tmp 16) rfl (w.heap.size + 1 + 1) (lims 0) 4 rfl (by with_unfolding_all exact z0.out) rfl (lims 0) hC Tryd.infoFe rfl w.heap.size w hW.f.f.d (by omega) ?_; intro w11 Hg _ _ hb11)
          | fail)
        exact bodyPost_ret (results_cell_slot rfl _ _ _ _ _ _ _ rfl Hg Tryd.underlying24 rfl (by rw [Tryd.infoFe]; rfl)) rfl ⟨by rw [RX.out]; rfl, hb11⟩
end
end Go.Proofs.YtlfkohanfeejfaaDoor

namespace Go.Proofs.YtlfkohanfeejfaaDoor
open Go.RowKit

def TW : Nat := 57896044618658097711785492504343953926634992332820282019728792003956564819968
/-- A point's bytes: its second number, and whether the first one is odd. -/
def enc (p : F × F) : List UInt8 := leBytes (p.2.val + if fodd p.1 = true then TW else 0) 32
theorem enc_length (p : F × F) : (enc p).length = 32 := leBytes_length _ _
theorem F.lt_TW (a : F) : a.val < TW := Nat.lt_trans a.isLt (by decide)
theorem enc_num (p : F × F) : leNum (enc p) = p.2.val + if fodd p.1 = true then TW else 0 := by
  unfold enc
  rw [leNum_leBytes]
  refine Nat.mod_eq_of_lt ?_
  have h := F.lt_TW p.2
  have e : (256 : Nat) ^ 32 = 2 * TW := by decide
  rw [e]
  split <;> omega
theorem leNum_inj : ∀ {a b : List UInt8}, a.length = b.length → leNum a = leNum b → a = b
  | [], [], _, _ => rfl
  | [], _ :: _, h, _ => by cases h
  | _ :: _, [], h, _ => by cases h
  | x :: a, y :: b, hl, h => by
    simp only [leNum] at h
    have hx := x.toNat_lt
    have hy := y.toNat_lt
    have e1 : x.toNat = y.toNat := by omega
    have e2 : leNum a = leNum b := by omega
    rw [UInt8.toNat_inj.1 e1, leNum_inj (by simpa using hl) e2]
/-- The second number of the point that bytes are, if they are one. -/
def yof (l : List UInt8) : F := toF (leNum l % TW)
theorem enc_mod (p : F × F) : leNum (enc p) % TW = p.2.val := by
  rw [enc_num]
  have h := F.lt_TW p.2
  split
  · rw [Nat.add_mod_right, Nat.mod_eq_of_lt h]
  · rw [Nat.add_zero, Nat.mod_eq_of_lt h]
theorem yof_enc (p : F × F) : yof (enc p) = p.2 := by
  unfold yof
  rw [enc_mod, toF_of]
theorem odd_enc (p : F × F) : decide (TW ≤ leNum (enc p)) = fodd p.1 := by
  rw [enc_num]
  have h := F.lt_TW p.2
  cases hf : fodd p.1 with
  | true => simp
  | false => simp; omega
theorem enc_eq {p q : F × F} : enc p = enc q ↔ p.2 = q.2 ∧ fodd p.1 = fodd q.1 := by
  constructor
  · intro h
    exact ⟨by rw [← yof_enc p, ← yof_enc q, h], by rw [← odd_enc p, ← odd_enc q, h]⟩
  · rintro ⟨h1, h2⟩
    unfold enc
    rw [h1, h2]
/-- Unlike points have unlike bytes. -/
theorem enc_inj {p q : F × F} (hp : On p) (hq : On q) (h : enc p = enc q) : p = q := by
  obtain ⟨hy, hx⟩ := enc_eq.1 h
  obtain ⟨x1, y1⟩ := p
  obtain ⟨x2, y2⟩ := q
  simp only at hy hx
  subst hy
  rcases on_two hp hq with e | e
  · rw [e]
  · by_cases h0 : x2 = 0
    · rw [e, h0, show -(0 : F) = 0 by grind]
    · rw [e, fodd_neg h0] at hx
      cases hf : fodd x2 <;> rw [hf] at hx <;> cases hx
theorem on_iff (x y : F) : On (x, y) ↔ (1 + dd * (y * y)) * (x * x) = y * y - 1 := by
  unfold On
  simp only
  constructor <;> intro h <;> grind
def xr (y : F) : F × Bool := froot (y * y - 1) (1 + dd * (y * y))
theorem xr_on {y : F} (h : (xr y).2 = true) : On ((xr y).1, y) := (on_iff _ _).2 (froot_sol h).1
theorem xr_ok {x y : F} (h : On (x, y)) : (xr y).2 = true := froot_ok ((on_iff _ _).1 h)
/-- The point that bytes are, and whether there is one. -/
def dec (l : List UInt8) : (F × F) × Bool :=
  if (xr (yof l)).2 = true then
    if enc ((xr (yof l)).1, yof l) = l then (((xr (yof l)).1, yof l), true)
    else if enc (-(xr (yof l)).1, yof l) = l then ((-(xr (yof l)).1, yof l), true) else (pzero, false)
  else (pzero, false)
theorem on_minus {x y : F} (h : On (x, y)) : On (-x, y) := (on_iff _ _).2 (by rw [show -x * -x = x * x by grind]; exact (on_iff _ _).1 h)
theorem dec_cases (l : List UInt8) : (On (dec l).1 ∧ (dec l).2 = true ∧ enc (dec l).1 = l) ∨ (dec l = (pzero, false) ∧ ∀ p, On p → enc p ≠ l) := by
  unfold dec
  by_cases h : (xr (yof l)).2 = true
  · rw [if_pos h]
    have ho := xr_on h
    by_cases h1 : enc ((xr (yof l)).1, yof l) = l
    · rw [if_pos h1]; exact Or.inl ⟨ho, rfl, h1⟩
    · rw [if_neg h1]
      by_cases h2 : enc (-(xr (yof l)).1, yof l) = l
      · rw [if_pos h2]; exact Or.inl ⟨on_minus ho, rfl, h2⟩
      · rw [if_neg h2]
        refine Or.inr ⟨rfl, fun p hp he => ?_⟩
        obtain ⟨x, y⟩ := p
        have hy : y = yof l := by rw [← he, yof_enc]
        subst hy
        rcases on_two hp ho with e | e
        · exact h1 (e ▸ he)
        · exact h2 (e ▸ he)
  · rw [if_neg h]
    refine Or.inr ⟨rfl, fun p hp he => ?_⟩
    obtain ⟨x, y⟩ := p
    have hy : y = yof l := by rw [← he, yof_enc]
    subst hy
    exact h (xr_ok hp)
theorem dec_enc {p : F × F} (hp : On p) : dec (enc p) = (p, true) := by
  rcases dec_cases (enc p) with ⟨h1, h2, h3⟩ | ⟨_, h⟩
  · exact Prod.ext (enc_inj h1 hp h3) h2
  · exact absurd rfl (h p hp)
theorem dec_on (l : List UInt8) : On (dec l).1 := by
  rcases dec_cases l with ⟨h, _⟩ | ⟨h, _⟩
  · exact h
  · rw [h]; exact on_zero

/-! The last byte's highest bit. -/
theorem set_last (l : List UInt8) (x : UInt8) (h : l.length = 32) : leNum (l.set 31 x) = leNum (l.take 31) + 256 ^ 31 * x.toNat := by
  rw [List.set_eq_take_append_cons_drop, if_pos (by omega), leNum_append, List.length_take, Nat.min_eq_left (by omega), List.drop_eq_nil_of_le (by omega)]
  simp [leNum]
theorem num_last (l : List UInt8) (h : l.length = 32) : leNum l = leNum (l.take 31) + 256 ^ 31 * (l[31]'(by omega)).toNat := by
  have e := set_last l (l[31]'(by omega)) h
  rw [List.set_getElem_self] at e
  exact e
theorem last_lt (l : List UInt8) (h : l.length = 32) : leNum (l.take 31) < 256 ^ 31 := by
  have := leNum_lt (l.take 31)
  rwa [List.length_take, Nat.min_eq_left (by omega)] at this
/-- Without the highest bit. -/
theorem low_num (l : List UInt8) (h : l.length = 32) : leNum (l.set 31 (l[31]'(by omega) &&& 127)) = leNum l % TW := by
  rw [set_last l _ h, num_last l h, UInt8.toNat_and]
  have h1 := last_lt l h
  have h2 := (l[31]'(by omega)).toNat_lt
  generalize leNum (l.take 31) = n at *
  generalize (l[31]'(by omega)).toNat = x at *
  rw [show (127 : UInt8).toNat = 2 ^ 7 - 1 by decide, Nat.and_two_pow_sub_one_eq_mod]
  have e : TW = 256 ^ 31 * 128 := by decide
  rw [e, show (2 : Nat) ^ 7 = 128 by decide]
  generalize (256 : Nat) ^ 31 = B at *
  have hx : B * x = B * (x % 128) + B * 128 * (x / 128) := by rw [Nat.mul_assoc, ← Nat.mul_add, Nat.mod_add_div]
  have h3 : B * (x % 128) ≤ B * 127 := Nat.mul_le_mul_left _ (by omega)
  have h4 : n + B * (x % 128) < B * 128 := by omega
  rw [hx, ← Nat.add_assoc, Nat.add_mul_mod_self_left, Nat.mod_eq_of_lt h4]
/-- With the highest bit. -/
theorem high_num (l : List UInt8) (h : l.length = 32) (hl : leNum l < TW) : leNum (l.set 31 (l[31]'(by omega) ||| 128)) = leNum l + TW := by
  rw [set_last l _ h]
  have h0 := num_last l h
  have h1 := last_lt l h
  have e : TW = 256 ^ 31 * 128 := by decide
  rw [UInt8.toNat_or]
  have h2 : (l[31]'(by omega)).toNat < 128 := by
    rcases Nat.lt_or_ge (l[31]'(by omega)).toNat 128 with hh | hh
    · exact hh
    · have : 256 ^ 31 * 128 ≤ 256 ^ 31 * (l[31]'(by omega)).toNat := Nat.mul_le_mul_left _ hh
      omega
  have e2 : (l[31]'(by omega)).toNat ||| (128 : UInt8).toNat = (l[31]'(by omega)).toNat + 128 := by
    have := Nat.two_pow_add_eq_or_of_lt (i := 7) (b := (l[31]'(by omega)).toNat) (by omega) 1
    rw [show (128 : UInt8).toNat = 2 ^ 7 * 1 by decide, Nat.or_comm, ← this]
    omega
  rw [e2, Nat.mul_add, e, h0]
  omega
theorem enc_odd {p : F × F} (h : fodd p.1 = true) : (leBytes p.2.val 32).set 31 ((leBytes p.2.val 32)[31]'(by rw [leBytes_length]; omega) ||| 128) = enc p := by
  refine leNum_inj (by rw [List.length_set, leBytes_length, enc_length]) ?_
  have e : leNum (leBytes p.2.val 32) = p.2.val := by
    rw [leNum_leBytes]
    exact Nat.mod_eq_of_lt (Nat.lt_trans (F.lt_TW _) (by decide))
  rw [high_num _ (leBytes_length _ _) (by rw [e]; exact F.lt_TW _), e, enc_num, if_pos h]
theorem enc_even {p : F × F} (h : fodd p.1 = false) : leBytes p.2.val 32 = enc p := by
  unfold enc
  rw [if_neg (by rw [h]; decide), Nat.add_zero]
end Go.Proofs.YtlfkohanfeejfaaDoor

namespace Go.Proofs.YtlfkohanfeejfaaDoor
open Go.RowKit

/-- What gives bytes. -/
def GaveL (w : World) (l : List UInt8) (e : Ending) (w' : World) : Prop := e = .returned (.agg (l.map bv).toArray) ∧ Below w.heap.size w w'
theorem or_high (x : UInt8) : bits .or .u8 (x.toNat : Int) 128 = ((x ||| 128).toNat : Int) := by
  have h : ∀ a : Fin 256, bits .or .u8 (((UInt8.ofNat a.val).toNat : Nat) : Int) 128 = ((UInt8.ofNat a.val ||| 128).toNat : Int) := by decide +kernel
  have e : UInt8.ofNat x.toNat = x := UInt8.ofNat_toNat
  have := h ⟨x.toNat, x.toNat_lt⟩
  simp only [e] at this
  exact this
theorem and_seven (x : UInt8) : bits .and .u8 (x.toNat : Int) 127 = ((x &&& 127).toNat : Int) := by
  have h : ∀ a : Fin 256, bits .and .u8 (((UInt8.ofNat a.val).toNat : Nat) : Int) 127 = ((UInt8.ofNat a.val &&& 127).toNat : Int) := by decide +kernel
  have e : UInt8.ofNat x.toNat = x := UInt8.ofNat_toNat
  have := h ⟨x.toNat, x.toNat_lt⟩
  simp only [e] at this
  exact this
theorem enc_start (w : World) (x y : Nat) : HoldsN ((w.alloc (.cells ((limsL [x, y]).map nv).toArray 26)).alloc (.cells zb 27)) 26 w.heap.size (limsL [x, y]) ∧ HoldsB ((w.alloc (.cells ((limsL [x, y]).map nv).toArray 26)).alloc (.cells zb 27)) 27 (w.heap.size + 1) (List.replicate 32 0) ∧ Below w.heap.size w ((w.alloc (.cells ((limsL [x, y]).map nv).toArray 26)).alloc (.cells zb 27)) := by
  have e1 : (w.alloc (.cells ((limsL [x, y]).map nv).toArray 26)).heap.size = w.heap.size + 1 := World.size_alloc ..
  exact ⟨(holdsN_new w _ _ _ _ rfl rfl).alloc _, holdsB_new _ _ _ _ _ e1.symm rfl, ((Below.refl _ w).alloc (Nat.le_refl _) _).alloc (by omega) _⟩

set_option maxRecDepth 100000 in
set_option maxHeartbeats 4000000 in
theorem rEncode_any (x y : Nat) (w : World) (hx : x < big) (hy : y < big) :
    Calls Tryd.prog 11 #[ptv x y] w (GaveL w (enc (pOf x y))) := by
  obtain ⟨p, hp⟩ : ∃ p, p = pOf x y := ⟨_, rfl⟩
  have L1 : Hid (∀ W, Calls Tryd.prog 35 #[.agg ((limsL [x, y]).map nv).toArray] W fun e w' => e = .returned (.agg ((limsL [p.1.val, p.2.val]).map nv).toArray) ∧ Below W.heap.size W w') := Lib.hid fun W => by rw [hp]; exact rLeast_pt x y W hx hy
  have BY : Hid (∀ W, Calls Tryd.prog 36 #[.agg ((lims p.2.val).map nv).toArray] W fun e w' => e = .returned (.agg ((leBytes p.2.val 32).map bv).toArray) ∧ Below W.heap.size W w') := Lib.hid fun W => by
    have h := rBytes_any p.2.val W (F.lt_big _)
    rw [toF_of] at h
    exact h
  have OD : Hid (∀ W, Calls Tryd.prog 37 #[.agg ((lims p.1.val).map nv).toArray] W fun e w' => e = .returned (.bool (fodd p.1)) ∧ Below W.heap.size W w') := Lib.hid fun W => by
    have h := rOdd_any p.1.val W (F.lt_big _)
    rw [toF_of] at h
    exact h
  have HE := Lib.hid (@enc_even p)
  have HO : Hid (∀ h31 : 31 < (leBytes p.2.val 32).length, fodd p.1 = true → (leBytes p.2.val 32).set 31 ((leBytes p.2.val 32)[31]'h31 ||| 128) = enc p) := Lib.hid fun _ h => enc_odd h
  have HL := Lib.hid (leBytes_length p.2.val 32)
  have HN := Lib.hid (enc_length p)
  rw [← hp]
  clear hp hx hy
  obtain ⟨hA, hC, hb⟩ := enc_start w x y
  unfold ptv GaveL
  generalize enc p = res at *
  generalize hl : leBytes p.2.val 32 = l at *
  generalize fodd p.1 = od at *
  clear hl
  obtain ⟨px, py⟩ := p
  generalize px.val = qx at *
  generalize py.val = qy at *
  have BY : Hid (∀ W, Calls Tryd.prog 36 #[.agg ((lims qy).map nv).toArray] W fun e w' => e = .returned (.agg (l.map bv).toArray) ∧ Below W.heap.size W w') := BY
  have OD : Hid (∀ W, Calls Tryd.prog 37 #[.agg ((lims qx).map nv).toArray] W fun e w' => e = .returned (.bool od) ∧ Below W.heap.size W w') := OD
  go_enter Tryd.func11, Tryd.ntmps11
  go_upto_region 2 with (first
    | (with_reducible refine wpList_load_pt rfl 26 (.tmp 1) rfl w.heap.size rfl (limsL [x, y]) 8 (by with_unfolding_all exact hA) rfl Tryd.underlying26 Tryd.infoPt ?_)
    | (go_at_call 35
       with_reducible refine (L1.out _).mono ?_
       rintro e w2 ⟨rfl, hb2⟩
       have hA2 : HoldsN w2 26 w.heap.size (limsL [x, y]) := hA.keep (by with_unfolding_all exact hb2) hA.lt
       have hC2 : HoldsB w2 27 (w.heap.size + 1) (List.replicate 32 0) := hC.keep (by with_unfolding_all exact hb2) hC.lt
       have b2 : Below w.heap.size w w2 := hb.trans (by with_unfolding_all exact hb2.mono hb.size))
    | (with_reducible refine wpList_store_n rfl 26 (.tmp 1) (.tmp 6) rfl w.heap.size (limsL [qx, qy]) 8 rfl rfl rfl (limsL [x, y]) hA2 Tryd.infoPt rfl w.heap.size w b2 (Nat.le_refl _) ?_
       intro w3 hA3 o3 s3 b3
       have hC3 := hC2.oth o3 (by omega)
       clear s3)
    | fail)
  clear hA hC hb hA2 hC2 b2 hb2 o3 L1
  have hx3 : w3.rangeAt w.heap.size 0 ((lims qx).map nv) := range_at hA3 0 (by simp)
  have hy3 : w3.rangeAt w.heap.size 4 ((lims qy).map nv) := range_at hA3 1 (by simp)
  have l3 := hC3.lt
  go_upto_region 3 with (first
    | (with_reducible refine wpList_load_mid rfl 24 (.tmp 7) rfl w.heap.size 4 rfl ((lims qy).map nv) _ hy3 Tryd.underlying24 rfl (by rw [Tryd.infoFe, List.length_map, lims_length]) ?_)
    | (go_at_call 36
       with_reducible refine (BY.out _).mono ?_
       rintro e w4 ⟨rfl, hb4⟩
       have hA4 := hA3.keep hb4 hA3.lt
       have hC4 := hC3.keep hb4 hC3.lt
       have b4 := b3.trans (hb4.mono b3.size)
       have l4 := hC4.lt
       have z4 : HoldsB (w4.alloc (.cells zb 27)) 27 w4.heap.size (List.replicate 32 0) := holdsB_new w4 _ _ _ _ rfl rfl
       have b4a := b4.alloc b4.size (.cells zb 27)
       have hA4a := hA4.alloc (.cells zb 27)
       have hC4a := hC4.alloc (.cells zb 27))
    | (with_reducible refine wpList_store_b rfl 27 (.tmp 3) (.tmp 9) rfl w4.heap.size l rfl rfl HL.out (List.replicate 32 0) (by with_unfolding_all exact z4) Tryd.infoB32 (by simp) w.heap.size w (by with_unfolding_all exact b4a) b4.size ?_
       intro w5 hB5 o5 s5 b5
       have hA5 : HoldsN w5 26 w.heap.size (limsL [qx, qy]) := (o5 _ (by omega)).trans (by with_unfolding_all exact hA4a)
       have hC5 : HoldsB w5 27 (w.heap.size + 1) (List.replicate 32 0) := (o5 _ (by omega)).trans (by with_unfolding_all exact hC4a)
       clear s5)
    | fail)
  have hg4 : w.heap.size + 1 < w4.heap.size := l4
  clear hA3 hC3 hx3 hy3 b3 l3 hA4 hC4 b4 l4 z4 b4a hA4a hC4a hb4 o5 BY
  generalize w4.heap.size = g at *
  have hx5 : w5.rangeAt w.heap.size 0 ((lims qx).map nv) := range_at hA5 0 (by simp)
  go_upto_region 4 with (first
    | (with_reducible refine wpList_load_mid rfl 24 (.tmp 10) rfl w.heap.size 0 rfl ((lims qx).map nv) _ hx5 Tryd.underlying24 rfl (by rw [Tryd.infoFe, List.length_map, lims_length]) ?_)
    | (go_at_call 37
       with_reducible refine (OD.out _).mono ?_
       rintro e w6 ⟨rfl, hb6⟩
       have hB6 := hB5.keep hb6 hB5.lt
       have hC6 := hC5.keep hb6 hC5.lt
       have b6 := b5.trans (hb6.mono b5.size))
    | fail)
  clear hA5 hx5 hB5 hC5 b5 hb6 OD
  cases od with
  | false =>
    have e : l = res := HE.out rfl
    rw [e] at hB6
    clear HE HO e HL
    go_wp2_with (first
      | (with_reducible refine wpList_load_b rfl 27 (.tmp 3) rfl g rfl res hB6 HN.out Tryd.underlying27 Tryd.infoB32 ?_)
      | (with_reducible refine wpList_store_b rfl 27 (.tmp 2) (.tmp 18) rfl (w.heap.size + 1) res rfl rfl HN.out _ hC6 Tryd.infoB32 (by simp) w.heap.size w b6 (by omega) ?_; intro w7 Hg _ _ hb7)
      | fail)
    exact bodyPost_ret (results_cell_row rfl _ _ (w.heap.size + 1) _ _ _ _ rfl Hg Tryd.underlying27 rfl (by rw [Tryd.infoB32]; simp [HN.out])) rfl ⟨rfl, hb7⟩
  | true =>
    have h31 : 31 < l.length := by rw [HL.out]; omega
    have e : l.set 31 (l[31]'h31 ||| 128) = res := HO.out h31 rfl
    have cB := hB6.cell h31
    have fB := hB6.frozen 31
    have hor := or_high (l[31]'h31)
    have hset := hB6.set 31 (l[31]'h31 ||| 128)
    rw [e] at hset
    have hC7 := hC6.setOther ⟨g, 31, none⟩ (.int .u8 ((l[31]'h31 ||| 128).toNat : Int)) (by simp; omega)
    have b7 := b6.setCell (p := ⟨g, 31, none⟩) (by simp; omega) (.int .u8 ((l[31]'h31 ||| 128).toNat : Int))
    clear HE HO e
    generalize (l[31]'h31 ||| 128).toNat = y at *
    generalize (l[31]'h31).toNat = x at *
    go_wp2_with (first
      | (with_reducible refine wpList_load_b rfl 27 (.tmp 3) rfl g rfl res hset HN.out Tryd.underlying27 Tryd.infoB32 ?_)
      | (with_reducible refine wpList_store_b rfl 27 (.tmp 2) (.tmp 18) rfl (w.heap.size + 1) res rfl rfl HN.out _ hC7 Tryd.infoB32 (by simp) w.heap.size w b7 (by omega) ?_; intro w7 Hg _ _ hb7)
      | fail)
    exact bodyPost_ret (results_cell_row rfl _ _ (w.heap.size + 1) _ _ _ _ rfl Hg Tryd.underlying27 rfl (by rw [Tryd.infoB32]; simp [HN.out])) rfl ⟨rfl, hb7⟩
end Go.Proofs.YtlfkohanfeejfaaDoor
