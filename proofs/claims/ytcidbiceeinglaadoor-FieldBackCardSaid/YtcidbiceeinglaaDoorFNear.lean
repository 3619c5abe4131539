/-
  The program's numbers modulo P: what is tried as a root.
-/
import Derived.Test.YtcidbiceeinglaaDoorFSame
import Derived.Test.YtcidbiceeinglaaDoorFNearP
namespace Go.Proofs.YtcidbiceeinglaaDoor
open Go.RowKit

/-- And a further block, that holds a number. -/
structure RB1 (w : World) (m n g h : Nat) (W : World) : Prop where
  f : RB w m n W
  h : HoldsN W 24 g (lims h)
theorem RB.len {w : World} {m n : Nat} (W : World) (h : RB w m n W) : w.heap.size + 3 ≤ W.heap.size := h.size
theorem RB1.stay {w : World} {m n g h : Nat} : ∀ W W', RB1 w m n g h W → Below W.heap.size W W' → RB1 w m n g h W' := fun _ _ p hb => ⟨p.f.keep hb, p.h.keep hb p.h.lt⟩
theorem RB1.len {w : World} {m n g h : Nat} (W : World) (p : RB1 w m n g h W) : max (w.heap.size + 3) (g + 1) ≤ W.heap.size := Nat.max_le.2 ⟨p.f.size, p.h.lt⟩
theorem RB1.oth {w W W' : World} {m n g h g' : Nat} (p : RB1 w m n g h W) (ho : ∀ k, k ≠ g' → W'.heap[k]? = W.heap[k]?) (hb : Below w.heap.size w W') (hg : max (w.heap.size + 3) (g + 1) ≤ g') : RB1 w m n g h W' := ⟨p.f.oth ho hb (by omega), p.h.oth ho (by omega)⟩
structure RB2 (w : World) (m n g h g2 h2 : Nat) (W : World) : Prop where
  f : RB1 w m n g h W
  h : HoldsN W 24 g2 (lims h2)
theorem RB2.stay {w : World} {m n g h g2 h2 : Nat} : ∀ W W', RB2 w m n g h g2 h2 W → Below W.heap.size W W' → RB2 w m n g h g2 h2 W' := fun _ _ p hb => ⟨RB1.stay _ _ p.f hb, p.h.keep hb p.h.lt⟩

section
attribute [local go_sem ↓] load_fe

set_option maxRecDepth 100000 in
set_option maxHeartbeats 1000000 in
theorem nearRoot_any (m n : Nat) (w : World) (hm : m < big) (hn : n < big) :
    Calls Tryd.prog 41 #[fev m, fev n] w (GaveF w (near (toF m) (toF n)).val) := by
  obtain ⟨hA, hB, hC, hb, hsz⟩ := fe_start3 w m n 0 _ _ #[.int .u64 0, .int .u64 0, .int .u64 0, .int .u64 0] rfl rfl (by kernel_rfl)
  have F0 : RB w m n _ := ⟨hA, hB, hC, hb⟩
  clear hA hB hC hb hsz
  obtain ⟨s1, h1⟩ : ∃ s, s = sqd n 1 := ⟨_, rfl⟩
  obtain ⟨v3, hv3⟩ : ∃ x, x = toF n * toF s1 := ⟨_, rfl⟩
  obtain ⟨x3, hx3⟩ : ∃ x, x = toF m * v3 := ⟨_, rfl⟩
  obtain ⟨s2, h2⟩ : ∃ s, s = sqd n 2 := ⟨_, rfl⟩
  obtain ⟨x7, hx7⟩ : ∃ x, x = x3 * toF s2 := ⟨_, rfl⟩
  obtain ⟨o, ho⟩ : ∃ o, o = onesv x7.val 250 := ⟨_, rfl⟩
  obtain ⟨s3, h3⟩ : ∃ s, s = sqd o 2 := ⟨_, rfl⟩
  obtain ⟨p, hp⟩ : ∃ x, x = toF s3 * x7 := ⟨_, rfl⟩
  obtain ⟨r, hr⟩ : ∃ x, x = near (toF m) (toF n) := ⟨_, rfl⟩
  have e3 : x3 = uv3 (toF m) (toF n) := by rw [hx3, hv3, h1, toF_sqd]; rfl
  have e7 : x7 = uv7 (toF m) (toF n) := by rw [hx7, e3, h2, toF_sqd]; rfl
  have er : x3 * p = r := by rw [hp, h3, toF_sqd, ho, toF_onesv, toF_of, hr, e3, e7]; rfl
  have hob : o < big := by rw [ho]; exact onesv_lt (F.lt_big _) _
  have C1 : Hid (∀ W, Calls Tryd.prog 43 #[.agg ((lims n).map nv).toArray, .int .i64 1] W fun e w' => e = .returned (.agg ((lims s1).map nv).toArray) ∧ Below W.heap.size W w') := Lib.hid fun W => by rw [h1]; exact squared_any n 1 W hn (by omega)
  have M1 : Hid (∀ W, Calls Tryd.prog 14 #[.agg ((lims n).map nv).toArray, .agg ((lims s1).map nv).toArray] W fun e w' => e = .returned (.agg ((lims v3.val).map nv).toArray) ∧ Below W.heap.size W w') := Lib.hid fun W => by rw [hv3]; exact Mul_any n s1 W hn (by rw [h1]; exact sqd_lt hn _)
  have M2 : Hid (∀ W, Calls Tryd.prog 14 #[.agg ((lims m).map nv).toArray, .agg ((lims v3.val).map nv).toArray] W fun e w' => e = .returned (.agg ((lims x3.val).map nv).toArray) ∧ Below W.heap.size W w') := Lib.hid fun W => by
    have := Mul_any m v3.val W hm (F.lt_big _)
    rw [toF_of, ← hx3] at this
    exact this
  have C2 : Hid (∀ W, Calls Tryd.prog 43 #[.agg ((lims n).map nv).toArray, .int .i64 2] W fun e w' => e = .returned (.agg ((lims s2).map nv).toArray) ∧ Below W.heap.size W w') := Lib.hid fun W => by rw [h2]; exact squared_any n 2 W hn (by omega)
  have M3 : Hid (∀ W, Calls Tryd.prog 14 #[.agg ((lims x3.val).map nv).toArray, .agg ((lims s2).map nv).toArray] W fun e w' => e = .returned (.agg ((lims x7.val).map nv).toArray) ∧ Below W.heap.size W w') := Lib.hid fun W => by
    have := Mul_any x3.val s2 W (F.lt_big _) (by rw [h2]; exact sqd_lt hn _)
    rw [toF_of, ← hx7] at this
    exact this
  have CO : Hid (∀ W, Calls Tryd.prog 44 #[.agg ((lims x7.val).map nv).toArray, .int .i64 250] W fun e w' => e = .returned (.agg ((lims o).map nv).toArray) ∧ Below W.heap.size W w') := Lib.hid fun W => by rw [ho]; exact ones_any x7.val (F.lt_big _) 250 W (by omega) (by omega)
  have C3 : Hid (∀ W, Calls Tryd.prog 43 #[.agg ((lims o).map nv).toArray, .int .i64 2] W fun e w' => e = .returned (.agg ((lims s3).map nv).toArray) ∧ Below W.heap.size W w') := Lib.hid fun W => by rw [h3]; exact squared_any o 2 W hob (by omega)
  have M4 : Hid (∀ W, Calls Tryd.prog 14 #[.agg ((lims s3).map nv).toArray, .agg ((lims x7.val).map nv).toArray] W fun e w' => e = .returned (.agg ((lims p.val).map nv).toArray) ∧ Below W.heap.size W w') := Lib.hid fun W => by
    have := Mul_any s3 x7.val W (by rw [h3]; exact sqd_lt hob _) (F.lt_big _)
    rw [toF_of, ← hp] at this
    exact this
  have M5 : Hid (∀ W, Calls Tryd.prog 14 #[.agg ((lims x3.val).map nv).toArray, .agg ((lims p.val).map nv).toArray] W fun e w' => e = .returned (.agg ((lims r.val).map nv).toArray) ∧ Below W.heap.size W w') := Lib.hid fun W => by
    have := Mul_any x3.val p.val W (F.lt_big _) (F.lt_big _)
    rw [toF_of, toF_of, er] at this
    exact this
  rw [fev_eq, fev_eq, ← hr]
  clear h1 hv3 hx3 h2 hx7 ho h3 hp hr e3 e7 er hob hm hn
  generalize v3.val = v3 at *
  generalize x3.val = x3 at *
  generalize x7.val = x7 at *
  generalize p.val = p at *
  generalize r.val = r at *
  go_enter Tryd.func41, Tryd.ntmps41
  go_upto_region 1 with (fail)
  generalize ((w.alloc (.cells ((lims m).map nv).toArray 24)).alloc (.cells ((lims n).map nv).toArray 24)).alloc (.cells #[.int .u64 0, .int .u64 0, .int .u64 0, .int .u64 0] 24) = wv at *
  go_cut [5] (fun vp wx => InBlock (w.heap.size + 3) x3 (RB w m n) vp wx)
  case first =>
    refine wp_region_lex 7 (fun k => k == 6) (MadeFe (w.heap.size + 3)) (RB w m n) (by kernel_rfl) (by kernel_rfl) (RB.stay _ _ F0 (Below.refl _ wv).drew) RB.stay MadeFe.stay (made_fe RB.len rfl) ?_
    simp only [List.take_succ_cons, List.take_zero, List.drop_succ_cons, List.drop_zero]
    refine lexW_value (v := ?_) (by rfl) (by rfl) (fun W hW => ?_) ?_
    rotate_left
    · have l1 := run_loadFe hW.a; go_simp <;> with_reducible rfl
    simp only [Act.put, List.setIfInBounds_toArray, List.set_cons_zero, List.set_cons_succ]
    refine lexW_value (v := ?_) (by rfl) (by rfl) (fun W hW => ?_) ?_
    rotate_left
    · have l1 := run_loadFe hW.b; go_simp <;> with_reducible rfl
    simp only [Act.put, List.setIfInBounds_toArray, List.set_cons_zero, List.set_cons_succ]
    refine lexW_value (v := ?_) (by rfl) (by rfl) (fun W hW => ?_) ?_
    rotate_left
    · have l1 := run_loadFe hW.b; go_simp <;> with_reducible rfl
    simp only [Act.put, List.setIfInBounds_toArray, List.set_cons_zero, List.set_cons_succ]
    refine' lexW_call (by rfl) (by rfl) (fun W hW => ?_) (fun W hW => ?_) ?_
    rotate_left 3
    · go_simp <;> first | with_reducible rfl | exact ⟨rfl, rfl⟩
    · with_reducible exact C1.out W
    simp only [Act.put, List.setIfInBounds_toArray, List.set_cons_zero, List.set_cons_succ]
    refine' lexW_call (by rfl) (by rfl) (fun W hW => ?_) (fun W hW => ?_) ?_
    rotate_left 3
    · go_simp <;> first | with_reducible rfl | exact ⟨rfl, rfl⟩
    · with_reducible exact M1.out W
    simp only [Act.put, List.setIfInBounds_toArray, List.set_cons_zero, List.set_cons_succ]
    refine' lexW_call (by rfl) (by rfl) (fun W hW => ?_) (fun W hW => ?_) ?_
    rotate_left 3
    · go_simp <;> first | with_reducible rfl | exact ⟨rfl, rfl⟩
    · with_reducible exact M2.out W
    simp only [Act.put, List.setIfInBounds_toArray, List.set_cons_zero, List.set_cons_succ]
    refine lexW_free (by rfl) ?_
    refine lexW_nil (fun b W hW hE => ?_)
    obtain ⟨_, ⟨g, rfl, hg, hZ⟩, rfl⟩ := lexEnd_one (j := 6) (d := 5) (by kernel_rfl) hE
    simp only [Act.put, List.setIfInBounds_toArray, List.set_cons_zero, List.set_cons_succ]
    go_wp2_with (with_reducible refine wpList_store_n rfl 24 (.tmp 5) (.tmp 12) rfl g (lims x3) 4 rfl rfl rfl (lims 0) hZ Tryd.infoFe rfl w.heap.size w hW.d (by omega) ?_; intro w7 Hg o7 _ hb7)
    go_meet
    exact ⟨g, rfl, hg, Hg, hW.oth o7 hb7 hg⟩
  case rest =>
    obtain ⟨g, rfl, hg, HQ, R1⟩ := hcut
    have F1 : RB1 w m n g x3 wc := ⟨R1, HQ⟩
    clear R1 HQ
    go_upto_region 2 with (fail)
    go_cut [6] (fun vp wx => InBlock (max (w.heap.size + 3) (g + 1)) x7 (RB1 w m n g x3) vp wx)
    case first =>
      refine wp_region_lex 5 (fun k => k == 4) (MadeFe (max (w.heap.size + 3) (g + 1))) (RB1 w m n g x3) (by kernel_rfl) (by kernel_rfl) (RB1.stay _ _ F1 (Below.refl _ wc).drew) RB1.stay MadeFe.stay (made_fe RB1.len rfl) ?_
      simp only [List.take_succ_cons, List.take_zero, List.drop_succ_cons, List.drop_zero]
      refine lexW_value (v := ?_) (by rfl) (by rfl) (fun W hW => ?_) ?_
      rotate_left
      · have l1 := run_loadFe hW.h; go_simp <;> with_reducible rfl
      simp only [Act.put, List.setIfInBounds_toArray, List.set_cons_zero, List.set_cons_succ]
      refine lexW_value (v := ?_) (by rfl) (by rfl) (fun W hW => ?_) ?_
      rotate_left
      · have l1 := run_loadFe hW.f.b; go_simp <;> with_reducible rfl
      simp only [Act.put, List.setIfInBounds_toArray, List.set_cons_zero, List.set_cons_succ]
      refine' lexW_call (by rfl) (by rfl) (fun W hW => ?_) (fun W hW => ?_) ?_
      rotate_left 3
      · go_simp <;> first | with_reducible rfl | exact ⟨rfl, rfl⟩
      · with_reducible exact C2.out W
      simp only [Act.put, List.setIfInBounds_toArray, List.set_cons_zero, List.set_cons_succ]
      refine' lexW_call (by rfl) (by rfl) (fun W hW => ?_) (fun W hW => ?_) ?_
      rotate_left 3
      · go_simp <;> first | with_reducible rfl | exact ⟨rfl, rfl⟩
      · with_reducible exact M3.out W
      simp only [Act.put, List.setIfInBounds_toArray, List.set_cons_zero, List.set_cons_succ]
      refine lexW_free (by rfl) ?_
      refine lexW_nil (fun b W hW hE => ?_)
      obtain ⟨_, ⟨g2, rfl, hg2, hZ⟩, rfl⟩ := lexEnd_one (j := 4) (d := 6) (by kernel_rfl) hE
      simp only [Act.put, List.setIfInBounds_toArray, List.set_cons_zero, List.set_cons_succ]
      go_wp2_with (with_reducible refine wpList_store_n rfl 24 (.tmp 6) (.tmp 16) rfl g2 (lims x7) 4 rfl rfl rfl (lims 0) hZ Tryd.infoFe rfl w.heap.size w hW.f.d (by omega) ?_; intro w7 Hg o7 _ hb7)
      go_meet
      exact ⟨g2, rfl, hg2, Hg, hW.oth o7 hb7 hg2⟩
    case rest =>
      obtain ⟨g2, rfl, hg2, HQ, R2⟩ := hcut
      have F2 : RB2 w m n g x3 g2 x7 wc := ⟨R2, HQ⟩
      clear R2 HQ
      go_upto_region 3 with (fail)
      refine wp_region_lex 7 (fun _ => false) (MadeFe 0) (RB2 w m n g x3 g2 x7) (by kernel_rfl) (by kernel_rfl) (RB2.stay _ _ F2 (Below.refl _ wc).drew) RB2.stay MadeFe.stay lex_none ?_
      simp only [List.take_succ_cons, List.take_zero, List.drop_succ_cons, List.drop_zero]
      refine lexW_value (v := ?_) (by rfl) (by rfl) (fun W hW => ?_) ?_
      rotate_left
      · have l1 := run_loadFe hW.f.h; go_simp <;> with_reducible rfl
      simp only [Act.put, List.setIfInBounds_toArray, List.set_cons_zero, List.set_cons_succ]
      refine lexW_value (v := ?_) (by rfl) (by rfl) (fun W hW => ?_) ?_
      rotate_left
      · have l1 := run_loadFe hW.h; go_simp <;> with_reducible rfl
      simp only [Act.put, List.setIfInBounds_toArray, List.set_cons_zero, List.set_cons_succ]
      refine' lexW_call (by rfl) (by rfl) (fun W hW => ?_) (fun W hW => ?_) ?_
      rotate_left 3
      · go_simp <;> first | with_reducible rfl | exact ⟨rfl, rfl⟩
      · with_reducible exact CO.out W
      simp only [Act.put, List.setIfInBounds_toArray, List.set_cons_zero, List.set_cons_succ]
      refine' lexW_call (by rfl) (by rfl) (fun W hW => ?_) (fun W hW => ?_) ?_
      rotate_left 3
      · go_simp <;> first | with_reducible rfl | exact ⟨rfl, rfl⟩
      · with_reducible exact C3.out W
      simp only [Act.put, List.setIfInBounds_toArray, List.set_cons_zero, List.set_cons_succ]
      refine lexW_value (v := ?_) (by rfl) (by rfl) (fun W hW => ?_) ?_
      rotate_left
      · have l1 := run_loadFe hW.h; go_simp <;> with_reducible rfl
      simp only [Act.put, List.setIfInBounds_toArray, List.set_cons_zero, List.set_cons_succ]
      refine' lexW_call (by rfl) (by rfl) (fun W hW => ?_) (fun W hW => ?_) ?_
      rotate_left 3
      · go_simp <;> first | with_reducible rfl | exact ⟨rfl, rfl⟩
      · with_reducible exact M4.out W
      simp only [Act.put, List.setIfInBounds_toArray, List.set_cons_zero, List.set_cons_succ]
      refine' lexW_call (by rfl) (by rfl) (fun W hW => ?_) (fun W hW => ?_) ?_
      rotate_left 3
      · go_simp <;> first | with_reducible rfl | exact ⟨rfl, rfl⟩
      · with_reducible exact M5.out W
      simp only [Act.put, List.setIfInBounds_toArray, List.set_cons_zero, List.set_cons_succ]
      refine lexW_nil (fun b W hW hE => ?_)
      obtain rfl := lexEnd_none hE
      have hC : HoldsN W 24 (w.heap.size + 1 + 1) (lims 0) := hW.f.f.c
      go_wp2_with (with_reducible refine wpList_store_n rfl 24 (.tmp 4) (.tmp 23) rfl (w.heap.size + 1 + 1) (lims r) 4 rfl rfl rfl (lims 0) hC Tryd.infoFe rfl w.heap.size w hW.f.f.d (by omega) ?_; intro w8 Hg _ _ hb8)
      exact bodyPost_ret (results_cell_row rfl _ _ _ _ _ _ _ rfl Hg Tryd.underlying24 rfl (by rw [Tryd.infoFe]; rfl)) rfl ⟨rfl, hb8⟩
end
end Go.Proofs.YtcidbiceeinglaaDoor
