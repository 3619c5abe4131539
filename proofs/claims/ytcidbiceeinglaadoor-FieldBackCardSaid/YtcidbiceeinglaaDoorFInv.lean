/-
  The program's numbers modulo P: what a number is multiplied by to be 1.
-/
import Derived.Test.YtcidbiceeinglaaDoorFOnes
namespace Go.Proofs.YtcidbiceeinglaaDoor
open Go.RowKit

theorem inv_pow (a : F) : fpow (fpow a (2 ^ 250 - 1)) (2 ^ 5) * (fpow a (2 ^ 3) * (fpow a (2 ^ 1) * a)) = finv a := by
  rw [← fpow_mul, ← fpow_succ, ← fpow_add, ← fpow_add]
  unfold finv
  congr 1

section
attribute [local go_sem ↓] load_fe

set_option maxRecDepth 100000 in
set_option maxHeartbeats 1000000 in
theorem Inv_any (m : Nat) (w : World) (hm : m < big) :
    Calls Tryd.prog 29 #[fev m] w (GaveF w (finv (toF m)).val) := by
  obtain ⟨hA, hC, hb, hsz⟩ := fe_start2 w m 0 _ #[.int .u64 0, .int .u64 0, .int .u64 0, .int .u64 0] rfl (by kernel_rfl)
  obtain ⟨s3, h3⟩ : ∃ s, s = sqd m 3 := ⟨_, rfl⟩
  obtain ⟨s1, h1⟩ : ∃ s, s = sqd m 1 := ⟨_, rfl⟩
  have C3 : Hid (∀ W, Calls Tryd.prog 43 #[.agg ((lims m).map nv).toArray, .int .i64 3] W fun e w' => e = .returned (.agg ((lims s3).map nv).toArray) ∧ Below W.heap.size W w') := Lib.hid fun W => by rw [h3]; exact squared_any m 3 W hm (by omega)
  have C1 : Hid (∀ W, Calls Tryd.prog 43 #[.agg ((lims m).map nv).toArray, .int .i64 1] W fun e w' => e = .returned (.agg ((lims s1).map nv).toArray) ∧ Below W.heap.size W w') := Lib.hid fun W => by rw [h1]; exact squared_any m 1 W hm (by omega)
  obtain ⟨p, hp⟩ : ∃ p, p = toF s1 * toF m := ⟨_, rfl⟩
  obtain ⟨q, hq⟩ : ∃ q, q = toF s3 * p := ⟨_, rfl⟩
  have M1 : Hid (∀ W, Calls Tryd.prog 14 #[.agg ((lims s1).map nv).toArray, .agg ((lims m).map nv).toArray] W fun e w' => e = .returned (.agg ((lims p.val).map nv).toArray) ∧ Below W.heap.size W w') := Lib.hid fun W => by rw [hp]; exact Mul_any s1 m W (by rw [h1]; exact sqd_lt hm _) hm
  have M2 : Hid (∀ W, Calls Tryd.prog 14 #[.agg ((lims s3).map nv).toArray, .agg ((lims p.val).map nv).toArray] W fun e w' => e = .returned (.agg ((lims q.val).map nv).toArray) ∧ Below W.heap.size W w') := Lib.hid fun W => by
    have := Mul_any s3 p.val W (by rw [h3]; exact sqd_lt hm _) (F.lt_big _)
    rw [toF_of, ← hq] at this
    exact this
  obtain ⟨o, ho⟩ : ∃ o, o = onesv m 250 := ⟨_, rfl⟩
  obtain ⟨s5, h5⟩ : ∃ s, s = sqd o 5 := ⟨_, rfl⟩
  obtain ⟨r, hr⟩ : ∃ r, r = finv (toF m) := ⟨_, rfl⟩
  have hob : o < big := by rw [ho]; exact onesv_lt hm _
  have CO : Hid (∀ W, Calls Tryd.prog 44 #[.agg ((lims m).map nv).toArray, .int .i64 250] W fun e w' => e = .returned (.agg ((lims o).map nv).toArray) ∧ Below W.heap.size W w') := Lib.hid fun W => by rw [ho]; exact ones_any m hm 250 W (by omega) (by omega)
  have C5 : Hid (∀ W, Calls Tryd.prog 43 #[.agg ((lims o).map nv).toArray, .int .i64 5] W fun e w' => e = .returned (.agg ((lims s5).map nv).toArray) ∧ Below W.heap.size W w') := Lib.hid fun W => by rw [h5]; exact squared_any o 5 W hob (by omega)
  have M5 : Hid (∀ W, Calls Tryd.prog 14 #[.agg ((lims s5).map nv).toArray, .agg ((lims q.val).map nv).toArray] W fun e w' => e = .returned (.agg ((lims r.val).map nv).toArray) ∧ Below W.heap.size W w') := Lib.hid fun W => by
    have := Mul_any s5 q.val W (by rw [h5]; exact sqd_lt hob _) (F.lt_big _)
    have e : toF s5 * q = r := by
      rw [h5, toF_sqd, ho, toF_onesv, hq, hp, h3, h1, toF_sqd, toF_sqd, hr, inv_pow]
    rw [toF_of, e] at this
    exact this
  rw [← hr]
  clear h3 h1 hp hq ho h5 hr hob
  rw [fev_eq]
  have F0 : Fe1 w m _ := ⟨hA, hC, hb⟩
  clear hA hC hb hsz
  go_enter Tryd.func29, Tryd.ntmps29
  go_upto_region 1 with (fail)
  generalize (w.alloc (.cells ((lims m).map nv).toArray 24)).alloc (.cells #[.int .u64 0, .int .u64 0, .int .u64 0, .int .u64 0] 24) = wv at *
  go_cut [3] (fun vp wx => InBlock (w.heap.size + 2) q.val (Fe1 w m) vp wx)
  case first =>
    refine wp_region_lex 8 (fun k => k == 7) (MadeFe (w.heap.size + 2)) (Fe1 w m) (by kernel_rfl) (by kernel_rfl) (Fe1.stay _ _ F0 (Below.refl _ wv).drew) Fe1.stay MadeFe.stay (made_fe Fe1.size rfl) ?_
    simp only [List.take_succ_cons, List.take_zero, List.drop_succ_cons, List.drop_zero]
    refine lexW_value (v := ?_) (by rfl) (by rfl) (fun W hW => ?_) ?_
    rotate_left
    · have l1 := run_loadFe hW.a; go_simp <;> with_reducible rfl
    simp only [Act.put, List.setIfInBounds_toArray, List.set_cons_zero, List.set_cons_succ]
    refine' lexW_call (by rfl) (by rfl) (fun W hW => ?_) (fun W hW => ?_) ?_
    rotate_left 3
    · go_simp <;> first | with_reducible rfl | exact ⟨rfl, rfl⟩
    · with_reducible exact C3.out W
    simp only [Act.put, List.setIfInBounds_toArray, List.set_cons_zero, List.set_cons_succ]
    refine lexW_value (v := ?_) (by rfl) (by rfl) (fun W hW => ?_) ?_
    rotate_left
    · have l1 := run_loadFe hW.a; go_simp <;> with_reducible rfl
    simp only [Act.put, List.setIfInBounds_toArray, List.set_cons_zero, List.set_cons_succ]
    refine' lexW_call (by rfl) (by rfl) (fun W hW => ?_) (fun W hW => ?_) ?_
    rotate_left 3
    · go_simp <;> first | with_reducible rfl | exact ⟨rfl, rfl⟩
    · with_reducible exact C1.out W
    simp only [Act.put, List.setIfInBounds_toArray, List.set_cons_zero, List.set_cons_succ]
    refine lexW_value (v := ?_) (by rfl) (by rfl) (fun W hW => ?_) ?_
    rotate_left
    · have l1 := run_loadFe hW.a; go_simp <;> with_reducible rfl
    simp only [Act.put, List.setIfInBounds_toArray, List.set_cons_zero, List.set_cons_succ]
    refine' lexW_call (by rfl) (by rfl) (fun W hW => ?_) (fun W hW => ?_) ?_
    rotate_left 3
    · go_simp <;> first | with_reducible rfl | exact ⟨rfl, rfl⟩
    · with_reducible exact M1.out W
    simp only [Act.put, List.setIfInBounds_toArray, List.set_cons_zero, List.set_cons_succ]
    refine' lexW_call (by rfl) (by rfl) (fun W hW => ?_) (fun W hW => ?_) ?_
    rotate_left 3
    · go_simp <;> first | with_reducible rfl | exact ⟨rfl, rfl⟩
    · with_reducible exact M2.out W
    simp only [Act.put, List.setIfInBounds_toArray, List.set_cons_zero, List.set_cons_succ]
    refine lexW_free (by rfl) ?_
    refine lexW_nil (fun b W hW hE => ?_)
    obtain ⟨_, ⟨g, rfl, hg, hZ⟩, rfl⟩ := lexEnd_one (j := 7) (d := 3) (by kernel_rfl) hE
    simp only [Act.put, List.setIfInBounds_toArray, List.set_cons_zero, List.set_cons_succ]
    go_wp2_with (with_reducible refine wpList_store_n rfl 24 (.tmp 3) (.tmp 10) rfl g (lims q.val) 4 rfl rfl rfl (lims 0) hZ Tryd.infoFe rfl w.heap.size w hW.d (by omega) ?_; intro w7 Hg o7 _ hb7)
    go_meet
    exact ⟨g, rfl, hg, Hg, hW.oth o7 hb7 hg⟩
  case rest =>
    obtain ⟨g, rfl, hg, HQ, F1⟩ := hcut
    have F7 : Fe2 w m g q.val wc := ⟨F1, HQ⟩
    go_upto_region 2 with (fail)
    refine wp_region_lex 5 (fun _ => false) (MadeFe 0) (Fe2 w m g q.val) (by kernel_rfl) (by kernel_rfl) (Fe2.stay _ _ F7 (Below.refl _ wc).drew) Fe2.stay MadeFe.stay lex_none ?_
    simp only [List.take_succ_cons, List.take_zero, List.drop_succ_cons, List.drop_zero]
    refine lexW_value (v := ?_) (by rfl) (by rfl) (fun W hW => ?_) ?_
    rotate_left
    · have l1 := run_loadFe hW.f.a; go_simp <;> with_reducible rfl
    simp only [Act.put, List.setIfInBounds_toArray, List.set_cons_zero, List.set_cons_succ]
    refine' lexW_call (by rfl) (by rfl) (fun W hW => ?_) (fun W hW => ?_) ?_
    rotate_left 3
    · go_simp <;> first | with_reducible rfl | exact ⟨rfl, rfl⟩
    · with_reducible exact CO.out W
    simp only [Act.put, List.setIfInBounds_toArray, List.set_cons_zero, List.set_cons_succ]
    refine' lexW_call (by rfl) (by rfl) (fun W hW => ?_) (fun W hW => ?_) ?_
    rotate_left 3
    · go_simp <;> first | with_reducible rfl | exact ⟨rfl, rfl⟩
    · with_reducible exact C5.out W
    simp only [Act.put, List.setIfInBounds_toArray, List.set_cons_zero, List.set_cons_succ]
    refine lexW_value (v := ?_) (by rfl) (by rfl) (fun W hW => ?_) ?_
    rotate_left
    · have l1 := run_loadFe hW.h; go_simp <;> with_reducible rfl
    simp only [Act.put, List.setIfInBounds_toArray, List.set_cons_zero, List.set_cons_succ]
    refine' lexW_call (by rfl) (by rfl) (fun W hW => ?_) (fun W hW => ?_) ?_
    rotate_left 3
    · go_simp <;> first | with_reducible rfl | exact ⟨rfl, rfl⟩
    · with_reducible exact M5.out W
    simp only [Act.put, List.setIfInBounds_toArray, List.set_cons_zero, List.set_cons_succ]
    refine lexW_nil (fun b W hW hE => ?_)
    obtain rfl := lexEnd_none hE
    go_wp2_with (with_reducible refine wpList_store_n rfl 24 (.tmp 2) (.tmp 15) rfl (w.heap.size + 1) (lims r.val) 4 rfl rfl rfl (lims 0) hW.f.c Tryd.infoFe rfl w.heap.size w hW.f.d (by omega) ?_; intro w8 Hg _ _ hb8)
    exact bodyPost_ret (results_cell_row rfl _ _ _ _ _ _ _ rfl Hg Tryd.underlying24 rfl (by rw [Tryd.infoFe]; rfl)) rfl ⟨rfl, hb8⟩
end
end Go.Proofs.YtcidbiceeinglaaDoor
