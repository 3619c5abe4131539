/-
  The document's numbers modulo P: what is below 0, differences.
  The document's numbers modulo P: digits of sixteen bits.
  A digit laid above a number's others, by its limb. Pure.
-/
import Derived.Test.YtlfkohanfeejfaaDoorMac
import Derived.Test.YtlfkohanfeejfaaDoorMad
namespace Go.Proofs.YtlfkohanfeejfaaDoor
open Go.RowKit

/-- A number read out of its block, under a name that the walk does not open. -/
def loadFe (t : TypeId) (a : Addr) : Sem Value := loadVar t a
theorem load_fe (a : Addr) : loadVar 24 a = loadFe 24 a := rfl
theorem run_loadFe {w : World} {g n : Nat} (hg : HoldsN w 24 g (lims n)) : (loadFe 24 ⟨g, 0, none⟩).run Tryd.prog w = .ok (.agg ((lims n).map nv).toArray) w :=
  run_loadVar_row w g 24 24 _ (0, 0) _ hg Tryd.underlying24 rfl (by rw [Tryd.infoFe]; rfl)

section
attribute [local go_sem ↓] load_fe

theorem neg_val (a : F) : (toF (PP - a.val)).val = (-a).val := by
  rw [F.val_neg]; rfl
theorem PP_sub_lt (a : F) : PP - a.val < big := by have h : PP < big := by decide
                                                   omega

set_option maxRecDepth 100000 in
set_option maxHeartbeats 4000000 in
theorem rNeg_any (m : Nat) (w : World) (hm : m < big) :
    Calls Tryd.prog 31 #[fev m] w (GaveF w (-toF m).val) := by
  obtain ⟨hA, hC, hb, hsz⟩ := fe_start2 w m 0 _ #[.int .u64 0, .int .u64 0, .int .u64 0, .int .u64 0] rfl (by kernel_rfl)
  obtain ⟨a, ha⟩ : ∃ a, a = toF m := ⟨_, rfl⟩
  have PR : Hid (∀ W, Calls Tryd.prog 63 #[] W fun e w' => e = .returned (.agg ((lims PP).map nv).toArray) ∧ Below W.heap.size W w') := Lib.hid fun W => rprime_any W
  have LM : Hid (∀ W, Calls Tryd.prog 57 #[.agg ((lims m).map nv).toArray] W fun e w' => e = .returned (.agg ((lims a.val).map nv).toArray) ∧ Below W.heap.size W w') := Lib.hid fun W => by rw [ha]; exact rLeast_any m W hm
  have TK : Hid (∀ W, Calls Tryd.prog 62 #[.agg ((lims PP).map nv).toArray, .agg ((lims a.val).map nv).toArray] W fun e w' => e = .returned (.agg ((lims (PP - a.val)).map nv).toArray) ∧ Below W.heap.size W w') := Lib.hid fun W => rtake_any PP a.val W (by decide) (Nat.le_of_lt a.isLt)
  have LS : Hid (∀ W, Calls Tryd.prog 57 #[.agg ((lims (PP - a.val)).map nv).toArray] W fun e w' => e = .returned (.agg ((lims (-a).val).map nv).toArray) ∧ Below W.heap.size W w') := Lib.hid fun W => by rw [← neg_val]; exact rLeast_any _ W (PP_sub_lt a)
  rw [fev_eq, ← ha]
  clear ha
  generalize PP - a.val = p at *
  generalize hq : a.val = q at *
  clear hq
  go_enter Tryd.func31, Tryd.ntmps31
  go_wp2_with fail
  generalize (w.alloc (.cells ((lims m).map nv).toArray 24)).alloc (.cells #[.int .u64 0, .int .u64 0, .int .u64 0, .int .u64 0] 24) = wv at *
  refine wp_region_noPanic ?_
  refine wp_region_held_drew (S := (fun W => (loadFe 24 ⟨w.heap.size, 0, none⟩).run Tryd.prog W = .ok (.agg ((lims m).map nv).toArray) W)) (by kernel_rfl) (by (try dsimp only); (first | exact run_loadFe hA | exact run_loadFe X1 | exact run_loadFe X2 | exact run_loadFe X3 | exact run_loadFe X4 | exact run_loadFe X5)) (fun hHeld => ?_)
  refine wpAnyH_take (i := 1) (v := ?_) rfl (by kernel_rfl) (by kernel_rfl) (by kernel_rfl) (fun _ _ _ h => h) (Or.inl ⟨by rfl, ?_⟩) (by assumption) ?_
  rotate_left
  · intro w hSw; (try dsimp only at hSw); go_simp <;> with_reducible rfl
  try simp only [Act.put, List.getElem_toArray, List.getElem_cons_succ, List.getElem_cons_zero, List.setIfInBounds_toArray, List.set_cons_zero, List.set_cons_succ]
  refine wpAnyH_ready (rs := [0]) (by kernel_rfl) (by simp) ?_
  refine AllReadyH.cons rfl (fun K hK => ?_) AllReadyH.nil
  go_simp
  ((first | (go_at_call 63; refine (PR.out _).mono ?_; rintro e w1 ⟨rfl, hb1⟩; have X1 := HoldsN.keep (W := wv.drew) hA hb1 hA.lt; have Z1 := HoldsN.keep (W := wv.drew) hC hb1 hC.lt; have B1 := hb.drew.trans (hb1.mono hb.size)) | (go_at_call 57; with_reducible refine (LM.out _).mono ?_; rintro e w2 ⟨rfl, hb2⟩; have X2 := X1.keep hb2 X1.lt; have Z2 := Z1.keep hb2 Z1.lt; have B2 := B1.trans (hb2.mono B1.size)) | (go_at_call 62; refine (TK.out _).mono ?_; rintro e w3 ⟨rfl, hb3⟩; have X3 := X2.keep hb3 X2.lt; have Z3 := Z2.keep hb3 Z2.lt; have B3 := B2.trans (hb3.mono B2.size)) | (go_at_call 57; with_reducible refine (LS.out _).mono ?_; rintro e w4 ⟨rfl, hb4⟩; have X4 := X3.keep hb4 X3.lt; have Z4 := Z3.keep hb4 Z3.lt; have B4 := B3.trans (hb4.mono B3.size)) | (refine step_store_fe (by rfl) 24 (.tmp 2) (.tmp 7) (by rfl) (w.heap.size + 1) (-a).val (by rfl) (by rfl) _ Z4 Tryd.infoFe (by rfl) w.heap.size w B4 (Nat.le_succ _) ?_; intro w5 Hg5 o5 s5 B5; have X5 := X4.oth o5 (by omega))))
  dsimp only
  refine hK.out _ _ ?_ (fun hHeld => ?_)
  · (try dsimp only); (first | exact run_loadFe hA | exact run_loadFe X1 | exact run_loadFe X2 | exact run_loadFe X3 | exact run_loadFe X4 | exact run_loadFe X5)
  clear hK K
  try simp only [Act.put, List.getElem_toArray, List.getElem_cons_succ, List.getElem_cons_zero, List.setIfInBounds_toArray, List.set_cons_zero, List.set_cons_succ]
  refine wpAnyH_ready (rs := [2]) (by kernel_rfl) (by simp) ?_
  refine AllReadyH.cons rfl (fun K hK => ?_) AllReadyH.nil
  go_simp
  ((first | (go_at_call 63; refine (PR.out _).mono ?_; rintro e w1 ⟨rfl, hb1⟩; have X1 := HoldsN.keep (W := wv.drew) hA hb1 hA.lt; have Z1 := HoldsN.keep (W := wv.drew) hC hb1 hC.lt; have B1 := hb.drew.trans (hb1.mono hb.size)) | (go_at_call 57; with_reducible refine (LM.out _).mono ?_; rintro e w2 ⟨rfl, hb2⟩; have X2 := X1.keep hb2 X1.lt; have Z2 := Z1.keep hb2 Z1.lt; have B2 := B1.trans (hb2.mono B1.size)) | (go_at_call 62; refine (TK.out _).mono ?_; rintro e w3 ⟨rfl, hb3⟩; have X3 := X2.keep hb3 X2.lt; have Z3 := Z2.keep hb3 Z2.lt; have B3 := B2.trans (hb3.mono B2.size)) | (go_at_call 57; with_reducible refine (LS.out _).mono ?_; rintro e w4 ⟨rfl, hb4⟩; have X4 := X3.keep hb4 X3.lt; have Z4 := Z3.keep hb4 Z3.lt; have B4 := B3.trans (hb4.mono B3.size)) | (refine step_store_fe (by rfl) 24 (.tmp 2) (.tmp 7) (by rfl) (w.heap.size + 1) (-a).val (by rfl) (by rfl) _ Z4 Tryd.infoFe (by rfl) w.heap.size w B4 (Nat.le_succ _) ?_; intro w5 Hg5 o5 s5 B5; have X5 := X4.oth o5 (by omega))))
  dsimp only
  refine hK.out _ _ ?_ (fun hHeld => ?_)
  · (try dsimp only); (first | exact run_loadFe hA | exact run_loadFe X1 | exact run_loadFe X2 | exact run_loadFe X3 | exact run_loadFe X4 | exact run_loadFe X5)
  clear hK K
  try simp only [Act.put, List.getElem_toArray, List.getElem_cons_succ, List.getElem_cons_zero, List.setIfInBounds_toArray, List.set_cons_zero, List.set_cons_succ]
  refine wpAnyH_ready (rs := [3]) (by kernel_rfl) (by simp) ?_
  refine AllReadyH.cons rfl (fun K hK => ?_) AllReadyH.nil
  go_simp
  ((first | (go_at_call 63; refine (PR.out _).mono ?_; rintro e w1 ⟨rfl, hb1⟩; have X1 := HoldsN.keep (W := wv.drew) hA hb1 hA.lt; have Z1 := HoldsN.keep (W := wv.drew) hC hb1 hC.lt; have B1 := hb.drew.trans (hb1.mono hb.size)) | (go_at_call 57; with_reducible refine (LM.out _).mono ?_; rintro e w2 ⟨rfl, hb2⟩; have X2 := X1.keep hb2 X1.lt; have Z2 := Z1.keep hb2 Z1.lt; have B2 := B1.trans (hb2.mono B1.size)) | (go_at_call 62; refine (TK.out _).mono ?_; rintro e w3 ⟨rfl, hb3⟩; have X3 := X2.keep hb3 X2.lt; have Z3 := Z2.keep hb3 Z2.lt; have B3 := B2.trans (hb3.mono B2.size)) | (go_at_call 57; with_reducible refine (LS.out _).mono ?_; rintro e w4 ⟨rfl, hb4⟩; have X4 := X3.keep hb4 X3.lt; have Z4 := Z3.keep hb4 Z3.lt; have B4 := B3.trans (hb4.mono B3.size)) | (refine step_store_fe (by rfl) 24 (.tmp 2) (.tmp 7) (by rfl) (w.heap.size + 1) (-a).val (by rfl) (by rfl) _ Z4 Tryd.infoFe (by rfl) w.heap.size w B4 (Nat.le_succ _) ?_; intro w5 Hg5 o5 s5 B5; have X5 := X4.oth o5 (by omega))))
  dsimp only
  refine hK.out _ _ ?_ (fun hHeld => ?_)
  · (try dsimp only); (first | exact run_loadFe hA | exact run_loadFe X1 | exact run_loadFe X2 | exact run_loadFe X3 | exact run_loadFe X4 | exact run_loadFe X5)
  clear hK K
  try simp only [Act.put, List.getElem_toArray, List.getElem_cons_succ, List.getElem_cons_zero, List.setIfInBounds_toArray, List.set_cons_zero, List.set_cons_succ]
  refine wpAnyH_ready (rs := [4]) (by kernel_rfl) (by simp) ?_
  refine AllReadyH.cons rfl (fun K hK => ?_) AllReadyH.nil
  go_simp
  ((first | (go_at_call 63; refine (PR.out _).mono ?_; rintro e w1 ⟨rfl, hb1⟩; have X1 := HoldsN.keep (W := wv.drew) hA hb1 hA.lt; have Z1 := HoldsN.keep (W := wv.drew) hC hb1 hC.lt; have B1 := hb.drew.trans (hb1.mono hb.size)) | (go_at_call 57; with_reducible refine (LM.out _).mono ?_; rintro e w2 ⟨rfl, hb2⟩; have X2 := X1.keep hb2 X1.lt; have Z2 := Z1.keep hb2 Z1.lt; have B2 := B1.trans (hb2.mono B1.size)) | (go_at_call 62; refine (TK.out _).mono ?_; rintro e w3 ⟨rfl, hb3⟩; have X3 := X2.keep hb3 X2.lt; have Z3 := Z2.keep hb3 Z2.lt; have B3 := B2.trans (hb3.mono B2.size)) | (go_at_call 57; with_reducible refine (LS.out _).mono ?_; rintro e w4 ⟨rfl, hb4⟩; have X4 := X3.keep hb4 X3.lt; have Z4 := Z3.keep hb4 Z3.lt; have B4 := B3.trans (hb4.mono B3.size)) | (refine step_store_fe (by rfl) 24 (.tmp 2) (.tmp 7) (by rfl) (w.heap.size + 1) (-a).val (by rfl) (by rfl) _ Z4 Tryd.infoFe (by rfl) w.heap.size w B4 (Nat.le_succ _) ?_; intro w5 Hg5 o5 s5 B5; have X5 := X4.oth o5 (by omega))))
  dsimp only
  refine hK.out _ _ ?_ (fun hHeld => ?_)
  · (try dsimp only); (first | exact run_loadFe hA | exact run_loadFe X1 | exact run_loadFe X2 | exact run_loadFe X3 | exact run_loadFe X4 | exact run_loadFe X5)
  clear hK K
  try simp only [Act.put, List.getElem_toArray, List.getElem_cons_succ, List.getElem_cons_zero, List.setIfInBounds_toArray, List.set_cons_zero, List.set_cons_succ]
  refine wpAnyH_ready (rs := [5]) (by kernel_rfl) (by simp) ?_
  refine AllReadyH.cons rfl (fun K hK => ?_) AllReadyH.nil
  ((first | (go_at_call 63; refine (PR.out _).mono ?_; rintro e w1 ⟨rfl, hb1⟩; have X1 := HoldsN.keep (W := wv.drew) hA hb1 hA.lt; have Z1 := HoldsN.keep (W := wv.drew) hC hb1 hC.lt; have B1 := hb.drew.trans (hb1.mono hb.size)) | (go_at_call 57; with_reducible refine (LM.out _).mono ?_; rintro e w2 ⟨rfl, hb2⟩; have X2 := X1.keep hb2 X1.lt; have Z2 := Z1.keep hb2 Z1.lt; have B2 := B1.trans (hb2.mono B1.size)) | (go_at_call 62; refine (TK.out _).mono ?_; rintro e w3 ⟨rfl, hb3⟩; have X3 := X2.keep hb3 X2.lt; have Z3 := Z2.keep hb3 Z2.lt; have B3 := B2.trans (hb3.mono B2.size)) | (go_at_call 57; with_reducible refine (LS.out _).mono ?_; rintro e w4 ⟨rfl, hb4⟩; have X4 := X3.keep hb4 X3.lt; have Z4 := Z3.keep hb4 Z3.lt; have B4 := B3.trans (hb4.mono B3.size)) | (refine step_store_fe (by rfl) 24 (.tmp 2) (.tmp 7) (by rfl) (w.heap.size + 1) (-a).val (by rfl) (by rfl) _ Z4 Tryd.infoFe (by rfl) w.heap.size w B4 (Nat.le_succ _) ?_; intro w5 Hg5 o5 s5 B5; have X5 := X4.oth o5 (by omega))))
  refine hK.out _ _ ?_ (fun hHeld => ?_)
  · (try dsimp only); (first | exact run_loadFe hA | exact run_loadFe X1 | exact run_loadFe X2 | exact run_loadFe X3 | exact run_loadFe X4 | exact run_loadFe X5)
  clear hK K
  try simp only [Act.put, List.getElem_toArray, List.getElem_cons_succ, List.getElem_cons_zero]
  refine wpAnyH_done (by kernel_rfl) ?_ _
  refine NoPanic.normal ?_
  go_wp2
  exact bodyPost_ret (results_cell_row rfl _ _ (w.heap.size + 1) _ _ _ _ rfl Hg5 Tryd.underlying24 rfl (by rw [Tryd.infoFe]; rfl)) rfl ⟨rfl, B5⟩
theorem F.sub_eq (a b : F) : a - b = a + -b := by grind

set_option maxRecDepth 100000 in
set_option maxHeartbeats 4000000 in
theorem rSub_any (m n : Nat) (w : World) (hm : m < big) (hn : n < big) :
    Calls Tryd.prog 28 #[fev m, fev n] w (GaveF w (toF m - toF n).val) := by
  obtain ⟨hA, hB, hC, hb, hsz⟩ := fe_start3 w m n 0 _ _ #[.int .u64 0, .int .u64 0, .int .u64 0, .int .u64 0] rfl rfl (by kernel_rfl)
  have NG : Hid (∀ W, Calls Tryd.prog 31 #[.agg ((lims n).map nv).toArray] W fun e w' => e = .returned (.agg ((lims (-toF n).val).map nv).toArray) ∧ Below W.heap.size W w') := Lib.hid fun W => rNeg_any n W hn
  have AD : Hid (∀ W, Calls Tryd.prog 29 #[.agg ((lims m).map nv).toArray, .agg ((lims (-toF n).val).map nv).toArray] W fun e w' => e = .returned (.agg ((lims (toF m - toF n).val).map nv).toArray) ∧ Below W.heap.size W w') := Lib.hid fun W => by
    have := rAdd_any m (-toF n).val W hm (F.lt_big _)
    rwa [toF_of, ← F.sub_eq] at this
  rw [fev_eq, fev_eq]
  generalize (toF m - toF n).val = p at *
  generalize (-toF n).val = q at *
  go_enter Tryd.func28, Tryd.ntmps28
  go_wp2_with fail
  generalize ((w.alloc (.cells ((lims m).map nv).toArray 24)).alloc (.cells ((lims n).map nv).toArray 24)).alloc (.cells #[.int .u64 0, .int .u64 0, .int .u64 0, .int .u64 0] 24) = wv at *
  refine wp_region_noPanic ?_
  refine wp_region_held_drew (S := (fun W => (loadFe 24 ⟨w.heap.size, 0, none⟩).run Tryd.prog W = .ok (.agg ((lims m).map nv).toArray) W ∧ (loadFe 24 ⟨w.heap.size + 1, 0, none⟩).run Tryd.prog W = .ok (.agg ((lims n).map nv).toArray) W)) (by kernel_rfl) (by (try dsimp only); (first | exact ⟨run_loadFe hA, run_loadFe hB⟩ | exact ⟨run_loadFe X1, run_loadFe Y1⟩ | exact ⟨run_loadFe X2, run_loadFe Y2⟩ | exact ⟨run_loadFe X5, run_loadFe Y5⟩)) (fun hHeld => ?_)
  refine wpAnyH_take (i := 0) (v := ?_) rfl (by kernel_rfl) (by kernel_rfl) (by kernel_rfl) (fun _ _ _ h => h) (Or.inl ⟨by rfl, ?_⟩) (by assumption) ?_
  rotate_left
  · intro w hSw; (try dsimp only at hSw); go_simp <;> with_reducible rfl
  try simp only [Act.put, List.getElem_toArray, List.getElem_cons_zero, List.setIfInBounds_toArray, List.set_cons_zero, List.set_cons_succ]
  refine wpAnyH_take (i := 1) (v := ?_) rfl (by kernel_rfl) (by kernel_rfl) (by kernel_rfl) (fun _ _ _ h => h) (Or.inl ⟨by rfl, ?_⟩) (by assumption) ?_
  rotate_left
  · intro w hSw; (try dsimp only at hSw); go_simp <;> with_reducible rfl
  try simp only [Act.put, List.getElem_toArray, List.getElem_cons_succ, List.getElem_cons_zero, List.setIfInBounds_toArray, List.set_cons_zero, List.set_cons_succ]
  refine wpAnyH_ready (rs := [2]) (by kernel_rfl) (by simp) ?_
  refine AllReadyH.cons rfl (fun K hK => ?_) AllReadyH.nil
  go_simp
  ((first | (go_at_call 31; refine (NG.out _).mono ?_; rintro e w1 ⟨rfl, hb1⟩; have X1 := HoldsN.keep (W := wv.drew) hA hb1 hA.lt; have Y1 := HoldsN.keep (W := wv.drew) hB hb1 hB.lt; have Z1 := HoldsN.keep (W := wv.drew) hC hb1 hC.lt; have B1 := hb.drew.trans (hb1.mono hb.size)) | (go_at_call 29; with_reducible refine (AD.out _).mono ?_; rintro e w2 ⟨rfl, hb2⟩; have X2 := X1.keep hb2 X1.lt; have Y2 := Y1.keep hb2 Y1.lt; have Z2 := Z1.keep hb2 Z1.lt; have B2 := B1.trans (hb2.mono B1.size)) | (refine step_store_fe (by rfl) 24 (.tmp 4) (.tmp 8) (by rfl) (w.heap.size + 2) p (by rfl) (by rfl) _ Z2 Tryd.infoFe (by rfl) w.heap.size w B2 (by omega) ?_; intro w5 Hg5 o5 s5 B5; have X5 := X2.oth o5 (by omega); have Y5 := Y2.oth o5 (by omega))))
  dsimp only
  refine hK.out _ _ ?_ (fun hHeld => ?_)
  · (try dsimp only); (first | exact ⟨run_loadFe hA, run_loadFe hB⟩ | exact ⟨run_loadFe X1, run_loadFe Y1⟩ | exact ⟨run_loadFe X2, run_loadFe Y2⟩ | exact ⟨run_loadFe X5, run_loadFe Y5⟩)
  clear hK K
  try simp only [Act.put, List.getElem_toArray, List.getElem_cons_succ, List.getElem_cons_zero, List.setIfInBounds_toArray, List.set_cons_zero, List.set_cons_succ]
  refine wpAnyH_ready (rs := [3]) (by kernel_rfl) (by simp) ?_
  refine AllReadyH.cons rfl (fun K hK => ?_) AllReadyH.nil
  go_simp
  ((first | (go_at_call 31; refine (NG.out _).mono ?_; rintro e w1 ⟨rfl, hb1⟩; have X1 := HoldsN.keep (W := wv.drew) hA hb1 hA.lt; have Y1 := HoldsN.keep (W := wv.drew) hB hb1 hB.lt; have Z1 := HoldsN.keep (W := wv.drew) hC hb1 hC.lt; have B1 := hb.drew.trans (hb1.mono hb.size)) | (go_at_call 29; with_reducible refine (AD.out _).mono ?_; rintro e w2 ⟨rfl, hb2⟩; have X2 := X1.keep hb2 X1.lt; have Y2 := Y1.keep hb2 Y1.lt; have Z2 := Z1.keep hb2 Z1.lt; have B2 := B1.trans (hb2.mono B1.size)) | (refine step_store_fe (by rfl) 24 (.tmp 4) (.tmp 8) (by rfl) (w.heap.size + 2) p (by rfl) (by rfl) _ Z2 Tryd.infoFe (by rfl) w.heap.size w B2 (by omega) ?_; intro w5 Hg5 o5 s5 B5; have X5 := X2.oth o5 (by omega); have Y5 := Y2.oth o5 (by omega))))
  dsimp only
  refine hK.out _ _ ?_ (fun hHeld => ?_)
  · (try dsimp only); (first | exact ⟨run_loadFe hA, run_loadFe hB⟩ | exact ⟨run_loadFe X1, run_loadFe Y1⟩ | exact ⟨run_loadFe X2, run_loadFe Y2⟩ | exact ⟨run_loadFe X5, run_loadFe Y5⟩)
  clear hK K
  try simp only [Act.put, List.getElem_toArray, List.getElem_cons_succ, List.getElem_cons_zero, List.setIfInBounds_toArray, List.set_cons_zero, List.set_cons_succ]
  refine wpAnyH_ready (rs := [4]) (by kernel_rfl) (by simp) ?_
  refine AllReadyH.cons rfl (fun K hK => ?_) AllReadyH.nil
  ((first | (go_at_call 31; refine (NG.out _).mono ?_; rintro e w1 ⟨rfl, hb1⟩; have X1 := HoldsN.keep (W := wv.drew) hA hb1 hA.lt; have Y1 := HoldsN.keep (W := wv.drew) hB hb1 hB.lt; have Z1 := HoldsN.keep (W := wv.drew) hC hb1 hC.lt; have B1 := hb.drew.trans (hb1.mono hb.size)) | (go_at_call 29; with_reducible refine (AD.out _).mono ?_; rintro e w2 ⟨rfl, hb2⟩; have X2 := X1.keep hb2 X1.lt; have Y2 := Y1.keep hb2 Y1.lt; have Z2 := Z1.keep hb2 Z1.lt; have B2 := B1.trans (hb2.mono B1.size)) | (refine step_store_fe (by rfl) 24 (.tmp 4) (.tmp 8) (by rfl) (w.heap.size + 2) p (by rfl) (by rfl) _ Z2 Tryd.infoFe (by rfl) w.heap.size w B2 (by omega) ?_; intro w5 Hg5 o5 s5 B5; have X5 := X2.oth o5 (by omega); have Y5 := Y2.oth o5 (by omega))))
  refine hK.out _ _ ?_ (fun hHeld => ?_)
  · (try dsimp only); (first | exact ⟨run_loadFe hA, run_loadFe hB⟩ | exact ⟨run_loadFe X1, run_loadFe Y1⟩ | exact ⟨run_loadFe X2, run_loadFe Y2⟩ | exact ⟨run_loadFe X5, run_loadFe Y5⟩)
  clear hK K
  try simp only [Act.put, List.getElem_toArray, List.getElem_cons_succ, List.getElem_cons_zero]
  refine wpAnyH_done (by kernel_rfl) ?_ _
  refine NoPanic.normal ?_
  go_wp2
  exact bodyPost_ret (results_cell_row rfl _ _ (w.heap.size + 2) _ _ _ _ rfl Hg5 Tryd.underlying24 rfl (by rw [Tryd.infoFe]; rfl)) rfl ⟨rfl, B5⟩
end
end Go.Proofs.YtlfkohanfeejfaaDoor

namespace Go.Proofs.YtlfkohanfeejfaaDoor
open Go.RowKit

/-- A digit out of its limb. -/
theorem digit_limb (n i : Nat) : limb n (i / 4) / 2 ^ (16 * (i % 4)) % 65536 = digit n i := by
  unfold limb digit
  have e : (65536 : Nat) ^ i = 18446744073709551616 ^ (i / 4) * 65536 ^ (i % 4) := by
    rw [show (18446744073709551616 : Nat) = 65536 ^ 4 by decide, ← Nat.pow_mul, ← Nat.pow_add, Nat.div_add_mod]
  rw [e, ← Nat.div_div_eq_div_mul]
  generalize n / 18446744073709551616 ^ (i / 4) = x
  have hr : i % 4 < 4 := Nat.mod_lt _ (by omega)
  generalize i % 4 = r at *
  match r, hr with
  | 0, _ => simp only [Nat.mul_zero, Nat.pow_zero, Nat.div_one]; omega
  | 1, _ => simp only [Nat.mul_one, show (2 : Nat) ^ 16 = 65536 by decide]; omega
  | 2, _ => simp only [show (2 : Nat) ^ (16 * 2) = 4294967296 by decide]; omega
  | 3, _ => simp only [show (2 : Nat) ^ (16 * 3) = 281474976710656 by decide]; omega

/-- The digits below i; the others are 0. -/
def digL (n i : Nat) : List Nat := (List.range 16).map fun j => if j < i then digit n j else 0
theorem digL_length (n i : Nat) : (digL n i).length = 16 := by simp [digL]
theorem digL_full (n : Nat) : digL n 16 = digits n 16 := by
  unfold digL digits
  refine List.map_congr_left fun j hj => ?_
  rw [if_pos (by simpa using hj)]
theorem digL_zero (n : Nat) : digL n 0 = List.replicate 16 0 := rfl
theorem digL_set (n i : Nat) : (digL n i).set i (digit n i) = digL n (i + 1) := by
  refine List.ext_getElem (by simp [digL]) fun j h1 h2 => ?_
  rw [List.getElem_set]
  simp only [digL, List.getElem_map, List.getElem_range]
  split
  · next e => subst e; rw [if_pos (by omega)]
  · next e => by_cases h : j < i
              · rw [if_pos h, if_pos (by omega)]
              · rw [if_neg h, if_neg (by omega)]

def zn (n : Nat) : Array Value := ((List.replicate n 0).map nv).toArray
theorem Tryd.built16 : Tryd.prog.built 70 [] = some (zn 16) := by kernel_rfl
theorem Tryd.info16 : (Tryd.prog.info? 70).map (·.size) = some 16 := by kernel_rfl
theorem zn_new (w : World) (ty : TypeId) (n : Nat) : HoldsN (w.alloc (.cells (zn n) ty)) ty w.heap.size (List.replicate n 0) := heap_alloc_new w _

theorem dig_start (w : World) (m : Nat) (c1 c2 c3 : Array Value) (h1 : c1 = ((lims m).map nv).toArray) (h2 : c2 = zn 16) (h3 : c3 = zn 16) :
    HoldsN (((w.alloc (.cells c1 24)).alloc (.cells c2 70)).alloc (.cells c3 70)) 24 w.heap.size (lims m) ∧ HoldsN (((w.alloc (.cells c1 24)).alloc (.cells c2 70)).alloc (.cells c3 70)) 70 (w.heap.size + 1) (List.replicate 16 0) ∧
    HoldsN (((w.alloc (.cells c1 24)).alloc (.cells c2 70)).alloc (.cells c3 70)) 70 (w.heap.size + 2) (List.replicate 16 0) ∧ Below w.heap.size w (((w.alloc (.cells c1 24)).alloc (.cells c2 70)).alloc (.cells c3 70)) := by
  obtain ⟨a, b, e⟩ := fe_start w m c1 h1
  have a2 : HoldsN ((w.alloc (.cells c1 24)).alloc (.cells c2 70)) 70 (w.heap.size + 1) (List.replicate 16 0) := holdsN_new _ _ _ _ _ e.symm h2
  have e2 : ((w.alloc (.cells c1 24)).alloc (.cells c2 70)).heap.size = w.heap.size + 2 := by rw [World.size_alloc, e]
  exact ⟨(a.alloc _).alloc _, a2.alloc _, holdsN_new _ _ _ _ _ e2.symm h3, (b.alloc (by omega) _).alloc (by omega) _⟩

set_option maxRecDepth 100000 in
set_option maxHeartbeats 1000000 in
theorem rdigits_any (m : Nat) (w : World) :
    Calls Tryd.prog 58 #[fev m] w fun e w' => e = .returned (.agg ((digits m 16).map nv).toArray) ∧ Below w.heap.size w w' := by
  obtain ⟨hA, hC, hD, hb⟩ := dig_start w m _ (zn 16) (zn 16) rfl rfl rfl
  rw [fev_eq]
  go_enter Tryd.func58, Tryd.ntmps58
  go_wp2_with (first
    | (with_reducible refine wpList_buildTo rfl 70 #[] rfl (some 5) rfl (zn 16) (by with_unfolding_all exact Tryd.built16) ?_)
    | (with_reducible refine wpList_store_n rfl 70 (.tmp 3) (.tmp 5) rfl (w.heap.size + 2) (List.replicate 16 0) 16 rfl (by with_unfolding_all exact rfl) rfl (List.replicate 16 0) (by with_unfolding_all exact hD) Tryd.info16 rfl w.heap.size w (by with_unfolding_all exact hb) (by omega) ?_
       intro w1 hD1 o1 s1 b1
       have hA1 : HoldsN w1 24 w.heap.size (lims m) := (o1 _ (by omega)).trans (by with_unfolding_all exact hA)
       have hC1 : HoldsN w1 70 (w.heap.size + 1) (List.replicate 16 0) := (o1 _ (by omega)).trans (by with_unfolding_all exact hC)))
  clear hA hC hD hb o1 s1
  rw [← digL_zero m] at hD1
  go_loopw [4] (fun v wr => ∃ k : Nat, k ≤ 16 ∧ v = .int .i64 (k : Int) ∧ HoldsN wr 24 w.heap.size (lims m) ∧ HoldsN wr 70 (w.heap.size + 1) (List.replicate 16 0) ∧ HoldsN wr 70 (w.heap.size + 2) (digL m k) ∧ Below w.heap.size w wr)
    (fun v _ => 16 - (intOf v).toNat)
  case atStart => exact ⟨0, Nat.zero_le _, rfl, hA1, hC1, hD1, b1⟩
  case round =>
    clear hA1 hC1 hD1 b1
    obtain ⟨k, hk, rfl, hA, hC, hD, hb⟩ := hrel
    by_cases hlt : k < 16
    · have hlt2 : (k : Int) < 16 := by omega
      have ca := hA.cell (j := k / 4) (by rw [lims_length]; omega)
      rw [lims_get _ (by omega)] at ca
      have hf := hD.frozen k
      have co := hD.cell (j := k) (by rw [digL_length]; exact hlt)
      have hset := Lib.hid (digL_set m k)
      have hdg := digit_limb m k
      have eq4 : (k : Int).tdiv 4 = ((k / 4 : Nat) : Int) := by rw [Int.tdiv_eq_ediv_of_nonneg (by omega)]; omega
      have em4 : (k : Int).tmod 4 = ((k % 4 : Nat) : Int) := by rw [Int.tmod_eq_emod_of_nonneg (by omega)]; omega
      have lq : ((k / 4 : Nat) : Int) < 4 := by omega
      have hr4 : k % 4 < 4 := by omega
      generalize limb m (k / 4) = x at *
      generalize digit m k = d at *
      generalize k / 4 = qq at *
      generalize k % 4 = rr at *
      have lr : (rr : Int) < 4 := by omega
      have wr1 : IntKind.i64.wrap (16 * (rr : Int)) = 16 * rr := by simp only [IntKind.wrap, IntKind.bits, IntKind.signed]; simp; omega
      have wr2 : IntKind.u64.wrap (16 * (rr : Int)) = 16 * rr := by rw [IntKind.wrap_u64]; omega
      have lr3 : 16 * (rr : Int) < 64 := by omega
      have hv : ((x : Int) / 2 ^ (16 * rr)).tmod 65536 = (d : Int) := by
        rw [show (2 : Int) ^ (16 * rr) = ((2 ^ (16 * rr) : Nat) : Int) from (Int.natCast_pow 2 _).symm, ← Int.natCast_ediv, Int.tmod_eq_emod_of_nonneg (Int.natCast_nonneg _), ← hdg]; rfl
      have Hv := Lib.hid hv
      clear hv hdg
      go_wp2
      go_roundw
      case rel => exact ⟨k + 1, by omega, by go_num, hA.setOther _ _ (by simp; omega), hC.setOther _ _ (by simp), by rw [Hv.out, ← hset.out]; exact hD.set k d, hb.setCell (by simp; omega) _⟩
      case measure => simp [intOf]; omega
    · rw [show (k : Int) = 16 by omega]
      obtain rfl : k = 16 := by omega
      rw [digL_full] at hD
      go_wp2_with (first
        | (with_reducible refine wpList_load_n rfl 70 (.tmp 3) rfl (w.heap.size + 2) rfl (digits m 16) 16 hD (digits_length _ _) Tryd.underlying70 Tryd.info16 ?_)
        | (with_reducible refine wpList_store_n rfl 70 (.tmp 2) (.tmp 22) rfl (w.heap.size + 1) (digits m 16) 16 rfl rfl (digits_length _ _) _ hC Tryd.info16 rfl w.heap.size w hb (by omega) ?_; intro w7 Hg _ _ hb7))
      exact bodyPost_ret (results_cell_row rfl _ _ (w.heap.size + 1) _ _ _ _ rfl Hg Tryd.underlying70 rfl (by rw [Tryd.info16]; simp [digits_length])) rfl ⟨rfl, hb7⟩
end Go.Proofs.YtlfkohanfeejfaaDoor

namespace Go.Proofs.YtlfkohanfeejfaaDoor
open Go.RowKit

theorem limb_top {N i : Nat} (hN : N < 65536 ^ i) : limb N (i / 4) = N / 18446744073709551616 ^ (i / 4) ∧ limb N (i / 4) < 2 ^ (16 * (i % 4)) := by
  have e : (65536 : Nat) ^ i = 18446744073709551616 ^ (i / 4) * 65536 ^ (i % 4) := by
    rw [show (18446744073709551616 : Nat) = 65536 ^ 4 by decide, ← Nat.pow_mul, ← Nat.pow_add, Nat.div_add_mod]
  have h1 : N / 18446744073709551616 ^ (i / 4) < 65536 ^ (i % 4) := by
    rw [e] at hN
    exact Nat.div_lt_of_lt_mul hN
  have h2 : (65536 : Nat) ^ (i % 4) ≤ 281474976710656 := by
    rw [show (281474976710656 : Nat) = 65536 ^ 3 by decide]
    exact Nat.pow_le_pow_right (by omega) (by omega)
  have h3 : limb N (i / 4) = N / 18446744073709551616 ^ (i / 4) := by
    unfold limb
    exact Nat.mod_eq_of_lt (by omega)
  refine ⟨h3, ?_⟩
  rw [h3, Nat.pow_mul]
  exact h1

theorem limb_digit {N d i : Nat} (hN : N < 65536 ^ i) (hd : d < 65536) : limb (N + d * 65536 ^ i) (i / 4) = limb N (i / 4) + 2 ^ (16 * (i % 4)) * d := by
  have e : (65536 : Nat) ^ i = 18446744073709551616 ^ (i / 4) * 65536 ^ (i % 4) := by
    rw [show (18446744073709551616 : Nat) = 65536 ^ 4 by decide, ← Nat.pow_mul, ← Nat.pow_add, Nat.div_add_mod]
  obtain ⟨h1, h2⟩ := limb_top hN
  have hlt : N + d * 65536 ^ i < 65536 ^ (i + 1) := by
    rw [Nat.pow_succ]
    have : d * 65536 ^ i ≤ 65535 * 65536 ^ i := Nat.mul_le_mul_right _ (by omega)
    omega
  have hq : (N + d * 65536 ^ i) / 18446744073709551616 ^ (i / 4) = N / 18446744073709551616 ^ (i / 4) + 65536 ^ (i % 4) * d := by
    rw [e, show d * (18446744073709551616 ^ (i / 4) * 65536 ^ (i % 4)) = 18446744073709551616 ^ (i / 4) * (65536 ^ (i % 4) * d) by rw [Nat.mul_left_comm, Nat.mul_comm d]]
    exact Nat.add_mul_div_left _ _ (Nat.pow_pos (by omega))
  unfold limb at *
  rw [hq, h1]
  have h16 : (2 : Nat) ^ (16 * (i % 4)) = 65536 ^ (i % 4) := by rw [Nat.pow_mul]
  rw [h16] at h2 ⊢
  have h3 : (65536 : Nat) ^ (i % 4) ≤ 281474976710656 := by
    rw [show (281474976710656 : Nat) = 65536 ^ 3 by decide]
    exact Nat.pow_le_pow_right (by omega) (by omega)
  have h4 : 65536 ^ (i % 4) * d ≤ 65536 ^ (i % 4) * 65535 := Nat.mul_le_mul_left _ (by omega)
  exact Nat.mod_eq_of_lt (by omega)

theorem limb_other {N d i j : Nat} (hN : N < 65536 ^ i) (hd : d < 65536) (hj : j ≠ i / 4) : limb (N + d * 65536 ^ i) j = limb N j := by
  have hlt : N + d * 65536 ^ i < 65536 ^ (i + 1) := by
    rw [Nat.pow_succ]
    have : d * 65536 ^ i ≤ 65535 * 65536 ^ i := Nat.mul_le_mul_right _ (by omega)
    omega
  unfold limb
  rcases Nat.lt_or_gt_of_ne hj with h | h
  · have e : (65536 : Nat) ^ i = 18446744073709551616 ^ j * (18446744073709551616 * 65536 ^ (i - 4 * (j + 1))) := by
      rw [← Nat.mul_assoc, ← Nat.pow_succ, show (18446744073709551616 : Nat) = 65536 ^ 4 by decide, ← Nat.pow_mul, ← Nat.pow_add]
      congr 1
      omega
    rw [e, show d * (18446744073709551616 ^ j * (18446744073709551616 * 65536 ^ (i - 4 * (j + 1)))) = 18446744073709551616 ^ j * (18446744073709551616 * (d * 65536 ^ (i - 4 * (j + 1)))) by
      rw [Nat.mul_left_comm, Nat.mul_left_comm d 18446744073709551616], Nat.add_mul_div_left _ _ (Nat.pow_pos (by omega)), Nat.add_mul_mod_self_left]
  · have hle : (65536 : Nat) ^ (i + 1) ≤ 18446744073709551616 ^ j := by
      rw [show (18446744073709551616 : Nat) = 65536 ^ 4 by decide, ← Nat.pow_mul]
      exact Nat.pow_le_pow_right (by omega) (by omega)
    rw [Nat.div_eq_of_lt (by omega), Nat.div_eq_of_lt (by omega)]

theorem lims_digit {N d i : Nat} (hN : N < 65536 ^ i) (hd : d < 65536) : (lims N).set (i / 4) (limb N (i / 4) + 2 ^ (16 * (i % 4)) * d) = lims (N + d * 65536 ^ i) := by
  refine List.ext_getElem (by simp [lims]) fun j h1 h2 => ?_
  have hj : j < 4 := by simpa [lims] using h2
  have g : ∀ n, (lims n)[j]'(by simpa [lims] using hj) = limb n j := fun n => by
    match j, hj with
    | 0, _ => rfl
    | 1, _ => rfl
    | 2, _ => rfl
    | 3, _ => rfl
  rw [List.getElem_set, g (N + d * 65536 ^ i)]
  split
  · next e => rw [← limb_digit hN hd, e]
  · next e => rw [g, limb_other hN hd (fun h => e h.symm)]

theorem or_digit {x d r : Nat} (hx : x < 2 ^ (16 * r)) (hd : d < 65536) (hr : r < 4) : bits .or .u64 (x : Int) (IntKind.u64.wrap ((d : Int) * 2 ^ (16 * r))) = ((x + 2 ^ (16 * r) * d : Nat) : Int) := by
  have h2 : (2 : Nat) ^ (16 * r) ≤ 281474976710656 := by
    rw [show (281474976710656 : Nat) = 2 ^ 48 by decide]
    exact Nat.pow_le_pow_right (by omega) (by omega)
  have h3 : 2 ^ (16 * r) * d ≤ 281474976710656 * 65535 := Nat.mul_le_mul h2 (by omega)
  have e : (d : Int) * 2 ^ (16 * r) = ((2 ^ (16 * r) * d : Nat) : Int) := by
    rw [Int.natCast_mul, Int.natCast_pow, Int.mul_comm]; rfl
  have hw : IntKind.u64.wrap ((2 ^ (16 * r) * d : Nat) : Int) = ((2 ^ (16 * r) * d : Nat) : Int) := by rw [IntKind.wrap_u64]; omega
  rw [e, hw, u64_or_nat _ _ (by omega) (by omega), Nat.add_comm, Nat.two_pow_add_eq_or_of_lt hx, Nat.or_comm]
end Go.Proofs.YtlfkohanfeejfaaDoor
