/-
  The document's numbers modulo P: what is below 0, differences.
-/
import Derived.Test.YtcidbiceeinglaaDoorFRefD
namespace Go.Proofs.YtcidbiceeinglaaDoor
open Go.RowKit

/-- A number read out of its block, under a name that the walk does not open. -/
def loadFe (t : TypeId) (a : Addr) : Sem Value := loadVar t a
theorem load_fe (a : Addr) : loadVar 24 a = loadFe 24 a := rfl
theorem run_loadFe {w : World} {g n : Nat} (hg : HoldsN w 24 g (lims n)) : (loadFe 24 ⟨g, 0, none⟩).run Tryd.prog w = .ok (.agg ((lims n).map nv).toArray) w :=
  run_loadVar_row w g 24 24 _ (0, 0) _ hg Tryd.underlying24 rfl (by rw [Tryd.infoFe]; rfl)

/-- 'r = a' of a number at a step. -/
theorem step_store_fe {P : Program} {ops : Array Oper} {o : Oper} {a : Act} {w : World} {K : Act → World → Prop} {Q : Exit → Act → World → Prop} {E : Prop} (hgd : o.guard = none) (ty : TypeId) (x y : Operand) (ho : o.op = .store ty x y)
    (g : Nat) (n : Nat) (hx : a.eval x = .pointer (some ⟨g, 0, none⟩)) (hy : a.eval y = .agg ((lims n).map nv).toArray)
    (old : List Nat) (hg : HoldsN w ty g old) (hi : (P.info? ty).map (·.size) = some 4) (hold : old.length = 4) (D : Nat) (w0 : World) (hb : Below D w0 w) (hD : D ≤ g)
    (h : ∀ w' : World, HoldsN w' ty g (lims n) → (∀ k, k ≠ g → w'.heap[k]? = w.heap[k]?) → w'.heap.size = w.heap.size → Below D w0 w' → K (a.put o.dst undef) w') :
    if Region.wanted o (yielded ops a.tmps) = true then Oper.wp P o a w K Q else E := by
  have hw : Region.wanted o (yielded ops a.tmps) = true := by simp [Region.wanted, hgd]
  rw [if_pos hw]
  exact wp_store_row ty x y ho g _ hx hy ty _ hg (by rw [hi]; rfl) (by simpa [lims_length] using hold) (n_one _)
    (h _ (show _ = _ from setRow_heap w g _ _ ty _ hg) (fun k hk => setRow_other w g k _ hk) (by simp) (below_setRow hb hD _))

section
attribute [local go_sem ↓] load_fe

theorem neg_val (a : F) : (toF (PP - a.val)).val = (-a).val := by
  rw [F.val_neg]; rfl
theorem PP_sub_lt (a : F) : PP - a.val < big := by have h : PP < big := by decide
                                                   omega

set_option maxRecDepth 100000 in
set_option maxHeartbeats 4000000 in
theorem rNeg_any (m : Nat) (w : World) (hm : m < big) :
    Calls Tryd.prog 17 #[fev m] w (GaveF w (-toF m).val) := by
  obtain ⟨hA, hC, hb, hsz⟩ := fe_start2 w m 0 _ #[.int .u64 0, .int .u64 0, .int .u64 0, .int .u64 0] rfl (by kernel_rfl)
  obtain ⟨a, ha⟩ : ∃ a, a = toF m := ⟨_, rfl⟩
  have PR : Hid (∀ W, Calls Tryd.prog 40 #[] W fun e w' => e = .returned (.agg ((lims PP).map nv).toArray) ∧ Below W.heap.size W w') := Lib.hid fun W => rprime_any W
  have LM : Hid (∀ W, Calls Tryd.prog 34 #[.agg ((lims m).map nv).toArray] W fun e w' => e = .returned (.agg ((lims a.val).map nv).toArray) ∧ Below W.heap.size W w') := Lib.hid fun W => by rw [ha]; exact rLeast_any m W hm
  have TK : Hid (∀ W, Calls Tryd.prog 39 #[.agg ((lims PP).map nv).toArray, .agg ((lims a.val).map nv).toArray] W fun e w' => e = .returned (.agg ((lims (PP - a.val)).map nv).toArray) ∧ Below W.heap.size W w') := Lib.hid fun W => rtake_any PP a.val W (by decide) (Nat.le_of_lt a.isLt)
  have LS : Hid (∀ W, Calls Tryd.prog 34 #[.agg ((lims (PP - a.val)).map nv).toArray] W fun e w' => e = .returned (.agg ((lims (-a).val).map nv).toArray) ∧ Below W.heap.size W w') := Lib.hid fun W => by rw [← neg_val]; exact rLeast_any _ W (PP_sub_lt a)
  rw [fev_eq, ← ha]
  clear ha
  generalize PP - a.val = p at *
  generalize hq : a.val = q at *
  clear hq
  go_enter Tryd.func17, Tryd.ntmps17
  go_wp2_with fail
  generalize (w.alloc (.cells ((lims m).map nv).toArray 24)).alloc (.cells #[.int .u64 0, .int .u64 0, .int .u64 0, .int .u64 0] 24) = wv at *
  refine wp_region_noPanic ?_
  refine wp_region_held_drew (S := (fun W => (loadFe 24 ⟨w.heap.size, 0, none⟩).run Tryd.prog W = .ok (.agg ((lims m).map nv).toArray) W)) (by kernel_rfl) (by (try dsimp only); (first | exact run_loadFe hA | exact run_loadFe X1 | exact run_loadFe X2 | exact run_loadFe X3 | exact run_loadFe X4 | exact run_loadFe X5)) (fun hHeld => ?_)
  refine wpAnyH_take (i := 1) (v := ?_) rfl (by kernel_rfl) (by kernel_rfl) (by kernel_rfl) (fun _ _ _ h => h) (Or.inl ⟨by rfl, ?_⟩) (by assumption) ?_
  rotate_left
  · intro w hSw; (try dsimp only at hSw); go_simp <;> with_reducible rfl
  try simp only [Act.put, List.getElem_toArray, List.getElem_cons_succ, List.getElem_cons_zero, List.setIfInBounds_toArray, List.set_cons_zero, List.set_cons_succ]
  refine wpAnyH_ready (rs := [0]) (by kernel_rfl) (by simp) ?_
  refine AllReadyH.cons rfl (fun K hK => ?_) AllReadyH.nil
  go_simp
  ((first | (go_at_call 40; refine (PR.out _).mono ?_; rintro e w1 ⟨rfl, hb1⟩; have X1 := HoldsN.keep (W := wv.drew) hA hb1 hA.lt; have Z1 := HoldsN.keep (W := wv.drew) hC hb1 hC.lt; have B1 := hb.drew.trans (hb1.mono hb.size)) | (go_at_call 34; with_reducible refine (LM.out _).mono ?_; rintro e w2 ⟨rfl, hb2⟩; have X2 := X1.keep hb2 X1.lt; have Z2 := Z1.keep hb2 Z1.lt; have B2 := B1.trans (hb2.mono B1.size)) | (go_at_call 39; refine (TK.out _).mono ?_; rintro e w3 ⟨rfl, hb3⟩; have X3 := X2.keep hb3 X2.lt; have Z3 := Z2.keep hb3 Z2.lt; have B3 := B2.trans (hb3.mono B2.size)) | (go_at_call 34; with_reducible refine (LS.out _).mono ?_; rintro e w4 ⟨rfl, hb4⟩; have X4 := X3.keep hb4 X3.lt; have Z4 := Z3.keep hb4 Z3.lt; have B4 := B3.trans (hb4.mono B3.size)) | (refine step_store_fe (by rfl) 24 (.tmp 2) (.tmp 7) (by rfl) (w.heap.size + 1) (-a).val (by rfl) (by rfl) _ Z4 Tryd.infoFe (by rfl) w.heap.size w B4 (Nat.le_succ _) ?_; intro w5 Hg5 o5 s5 B5; have X5 := X4.oth o5 (by omega))))
  dsimp only
  refine hK.out _ _ ?_ (fun hHeld => ?_)
  · (try dsimp only); (first | exact run_loadFe hA | exact run_loadFe X1 | exact run_loadFe X2 | exact run_loadFe X3 | exact run_loadFe X4 | exact run_loadFe X5)
  clear hK K
  try simp only [Act.put, List.getElem_toArray, List.getElem_cons_succ, List.getElem_cons_zero, List.setIfInBounds_toArray, List.set_cons_zero, List.set_cons_succ]
  refine wpAnyH_ready (rs := [2]) (by kernel_rfl) (by simp) ?_
  refine AllReadyH.cons rfl (fun K hK => ?_) AllReadyH.nil
  go_simp
  ((first | (go_at_call 40; refine (PR.out _).mono ?_; rintro e w1 ⟨rfl, hb1⟩; have X1 := HoldsN.keep (W := wv.drew) hA hb1 hA.lt; have Z1 := HoldsN.keep (W := wv.drew) hC hb1 hC.lt; have B1 := hb.drew.trans (hb1.mono hb.size)) | (go_at_call 34; with_reducible refine (LM.out _).mono ?_; rintro e w2 ⟨rfl, hb2⟩; have X2 := X1.keep hb2 X1.lt; have Z2 := Z1.keep hb2 Z1.lt; have B2 := B1.trans (hb2.mono B1.size)) | (go_at_call 39; refine (TK.out _).mono ?_; rintro e w3 ⟨rfl, hb3⟩; have X3 := X2.keep hb3 X2.lt; have Z3 := Z2.keep hb3 Z2.lt; have B3 := B2.trans (hb3.mono B2.size)) | (go_at_call 34; with_reducible refine (LS.out _).mono ?_; rintro e w4 ⟨rfl, hb4⟩; have X4 := X3.keep hb4 X3.lt; have Z4 := Z3.keep hb4 Z3.lt; have B4 := B3.trans (hb4.mono B3.size)) | (refine step_store_fe (by rfl) 24 (.tmp 2) (.tmp 7) (by rfl) (w.heap.size + 1) (-a).val (by rfl) (by rfl) _ Z4 Tryd.infoFe (by rfl) w.heap.size w B4 (Nat.le_succ _) ?_; intro w5 Hg5 o5 s5 B5; have X5 := X4.oth o5 (by omega))))
  dsimp only
  refine hK.out _ _ ?_ (fun hHeld => ?_)
  · (try dsimp only); (first | exact run_loadFe hA | exact run_loadFe X1 | exact run_loadFe X2 | exact run_loadFe X3 | exact run_loadFe X4 | exact run_loadFe X5)
  clear hK K
  try simp only [Act.put, List.getElem_toArray, List.getElem_cons_succ, List.getElem_cons_zero, List.setIfInBounds_toArray, List.set_cons_zero, List.set_cons_succ]
  refine wpAnyH_ready (rs := [3]) (by kernel_rfl) (by simp) ?_
  refine AllReadyH.cons rfl (fun K hK => ?_) AllReadyH.nil
  go_simp
  ((first | (go_at_call 40; refine (PR.out _).mono ?_; rintro e w1 ⟨rfl, hb1⟩; have X1 := HoldsN.keep (W := wv.drew) hA hb1 hA.lt; have Z1 := HoldsN.keep (W := wv.drew) hC hb1 hC.lt; have B1 := hb.drew.trans (hb1.mono hb.size)) | (go_at_call 34; with_reducible refine (LM.out _).mono ?_; rintro e w2 ⟨rfl, hb2⟩; have X2 := X1.keep hb2 X1.lt; have Z2 := Z1.keep hb2 Z1.lt; have B2 := B1.trans (hb2.mono B1.size)) | (go_at_call 39; refine (TK.out _).mono ?_; rintro e w3 ⟨rfl, hb3⟩; have X3 := X2.keep hb3 X2.lt; have Z3 := Z2.keep hb3 Z2.lt; have B3 := B2.trans (hb3.mono B2.size)) | (go_at_call 34; with_reducible refine (LS.out _).mono ?_; rintro e w4 ⟨rfl, hb4⟩; have X4 := X3.keep hb4 X3.lt; have Z4 := Z3.keep hb4 Z3.lt; have B4 := B3.trans (hb4.mono B3.size)) | (refine step_store_fe (by rfl) 24 (.tmp 2) (.tmp 7) (by rfl) (w.heap.size + 1) (-a).val (by rfl) (by rfl) _ Z4 Tryd.infoFe (by rfl) w.heap.size w B4 (Nat.le_succ _) ?_; intro w5 Hg5 o5 s5 B5; have X5 := X4.oth o5 (by omega))))
  dsimp only
  refine hK.out _ _ ?_ (fun hHeld => ?_)
  · (try dsimp only); (first | exact run_loadFe hA | exact run_loadFe X1 | exact run_loadFe X2 | exact run_loadFe X3 | exact run_loadFe X4 | exact run_loadFe X5)
  clear hK K
  try simp only [Act.put, List.getElem_toArray, List.getElem_cons_succ, List.getElem_cons_zero, List.setIfInBounds_toArray, List.set_cons_zero, List.set_cons_succ]
  refine wpAnyH_ready (rs := [4]) (by kernel_rfl) (by simp) ?_
  refine AllReadyH.cons rfl (fun K hK => ?_) AllReadyH.nil
  go_simp
  ((first | (go_at_call 40; refine (PR.out _).mono ?_; rintro e w1 ⟨rfl, hb1⟩; have X1 := HoldsN.keep (W := wv.drew) hA hb1 hA.lt; have Z1 := HoldsN.keep (W := wv.drew) hC hb1 hC.lt; have B1 := hb.drew.trans (hb1.mono hb.size)) | (go_at_call 34; with_reducible refine (LM.out _).mono ?_; rintro e w2 ⟨rfl, hb2⟩; have X2 := X1.keep hb2 X1.lt; have Z2 := Z1.keep hb2 Z1.lt; have B2 := B1.trans (hb2.mono B1.size)) | (go_at_call 39; refine (TK.out _).mono ?_; rintro e w3 ⟨rfl, hb3⟩; have X3 := X2.keep hb3 X2.lt; have Z3 := Z2.keep hb3 Z2.lt; have B3 := B2.trans (hb3.mono B2.size)) | (go_at_call 34; with_reducible refine (LS.out _).mono ?_; rintro e w4 ⟨rfl, hb4⟩; have X4 := X3.keep hb4 X3.lt; have Z4 := Z3.keep hb4 Z3.lt; have B4 := B3.trans (hb4.mono B3.size)) | (refine step_store_fe (by rfl) 24 (.tmp 2) (.tmp 7) (by rfl) (w.heap.size + 1) (-a).val (by rfl) (by rfl) _ Z4 Tryd.infoFe (by rfl) w.heap.size w B4 (Nat.le_succ _) ?_; intro w5 Hg5 o5 s5 B5; have X5 := X4.oth o5 (by omega))))
  dsimp only
  refine hK.out _ _ ?_ (fun hHeld => ?_)
  · (try dsimp only); (first | exact run_loadFe hA | exact run_loadFe X1 | exact run_loadFe X2 | exact run_loadFe X3 | exact run_loadFe X4 | exact run_loadFe X5)
  clear hK K
  try simp only [Act.put, List.getElem_toArray, List.getElem_cons_succ, List.getElem_cons_zero, List.setIfInBounds_toArray, List.set_cons_zero, List.set_cons_succ]
  refine wpAnyH_ready (rs := [5]) (by kernel_rfl) (by simp) ?_
  refine AllReadyH.cons rfl (fun K hK => ?_) AllReadyH.nil
  ((first | (go_at_call 40; refine (PR.out _).mono ?_; rintro e w1 ⟨rfl, hb1⟩; have X1 := HoldsN.keep (W := wv.drew) hA hb1 hA.lt; have Z1 := HoldsN.keep (W := wv.drew) hC hb1 hC.lt; have B1 := hb.drew.trans (hb1.mono hb.size)) | (go_at_call 34; with_reducible refine (LM.out _).mono ?_; rintro e w2 ⟨rfl, hb2⟩; have X2 := X1.keep hb2 X1.lt; have Z2 := Z1.keep hb2 Z1.lt; have B2 := B1.trans (hb2.mono B1.size)) | (go_at_call 39; refine (TK.out _).mono ?_; rintro e w3 ⟨rfl, hb3⟩; have X3 := X2.keep hb3 X2.lt; have Z3 := Z2.keep hb3 Z2.lt; have B3 := B2.trans (hb3.mono B2.size)) | (go_at_call 34; with_reducible refine (LS.out _).mono ?_; rintro e w4 ⟨rfl, hb4⟩; have X4 := X3.keep hb4 X3.lt; have Z4 := Z3.keep hb4 Z3.lt; have B4 := B3.trans (hb4.mono B3.size)) | (refine step_store_fe (by rfl) 24 (.tmp 2) (.tmp 7) (by rfl) (w.heap.size + 1) (-a).val (by rfl) (by rfl) _ Z4 Tryd.infoFe (by rfl) w.heap.size w B4 (Nat.le_succ _) ?_; intro w5 Hg5 o5 s5 B5; have X5 := X4.oth o5 (by omega))))
  refine hK.out _ _ ?_ (fun hHeld => ?_)
  · (try dsimp only); (first | exact run_loadFe hA | exact run_loadFe X1 | exact run_loadFe X2 | exact run_loadFe X3 | exact run_loadFe X4 | exact run_loadFe X5)
  clear hK K
  try simp only [Act.put, List.getElem_toArray, List.getElem_cons_succ, List.getElem_cons_zero]
  refine wpAnyH_done (by kernel_rfl) ?_ _
  refine NoPanic.normal ?_
  go_wp2
  exact bodyPost_ret (results_cell_row rfl _ _ (w.heap.size + 1) _ _ _ _ rfl Hg5 Tryd.underlying24 rfl (by rw [Tryd.infoFe]; rfl)) rfl ⟨rfl, B5⟩
theorem F.sub_eq (a b : F) : a - b = a + -b := by grind

set_option maxRecDepth 100000 in
set_option maxHeartbeats 4000000 in
theorem rSub_any (m n : Nat) (w : World) (hm : m < big) (hn : n < big) :
    Calls Tryd.prog 13 #[fev m, fev n] w (GaveF w (toF m - toF n).val) := by
  obtain ⟨hA, hB, hC, hb, hsz⟩ := fe_start3 w m n 0 _ _ #[.int .u64 0, .int .u64 0, .int .u64 0, .int .u64 0] rfl rfl (by kernel_rfl)
  have NG : Hid (∀ W, Calls Tryd.prog 17 #[.agg ((lims n).map nv).toArray] W fun e w' => e = .returned (.agg ((lims (-toF n).val).map nv).toArray) ∧ Below W.heap.size W w') := Lib.hid fun W => rNeg_any n W hn
  have AD : Hid (∀ W, Calls Tryd.prog 11 #[.agg ((lims m).map nv).toArray, .agg ((lims (-toF n).val).map nv).toArray] W fun e w' => e = .returned (.agg ((lims (toF m - toF n).val).map nv).toArray) ∧ Below W.heap.size W w') := Lib.hid fun W => by
    have := rAdd_any m (-toF n).val W hm (F.lt_big _)
    rwa [toF_of, ← F.sub_eq] at this
  rw [fev_eq, fev_eq]
  generalize (toF m - toF n).val = p at *
  generalize (-toF n).val = q at *
  go_enter Tryd.func13, Tryd.ntmps13
  go_wp2_with fail
  generalize ((w.alloc (.cells ((lims m).map nv).toArray 24)).alloc (.cells ((lims n).map nv).toArray 24)).alloc (.cells #[.int .u64 0, .int .u64 0, .int .u64 0, .int .u64 0] 24) = wv at *
  refine wp_region_noPanic ?_
  refine wp_region_held_drew (S := (fun W => (loadFe 24 ⟨w.heap.size, 0, none⟩).run Tryd.prog W = .ok (.agg ((lims m).map nv).toArray) W ∧ (loadFe 24 ⟨w.heap.size + 1, 0, none⟩).run Tryd.prog W = .ok (.agg ((lims n).map nv).toArray) W)) (by kernel_rfl) (by (try dsimp only); (first | exact ⟨run_loadFe hA, run_loadFe hB⟩ | exact ⟨run_loadFe X1, run_loadFe Y1⟩ | exact ⟨run_loadFe X2, run_loadFe Y2⟩ | exact ⟨run_loadFe X5, run_loadFe Y5⟩)) (fun hHeld => ?_)
  refine wpAnyH_take (i := 0) (v := ?_) rfl (by kernel_rfl) (by kernel_rfl) (by kernel_rfl) (fun _ _ _ h => h) (Or.inl ⟨by rfl, ?_⟩) (by assumption) ?_
  rotate_left
  · intro w hSw; (try dsimp only at hSw); go_simp <;> with_reducible rfl
  try simp only [Act.put, List.getElem_toArray, List.getElem_cons_zero, List.setIfInBounds_toArray, List.set_cons_zero, List.set_cons_succ]
  refine wpAnyH_take (i := 1) (v := ?_) rfl (by kernel_rfl) (by kernel_rfl) (by kernel_rfl) (fun _ _ _ h => h) (Or.inl ⟨by rfl, ?_⟩) (by assumption) ?_
  rotate_left
  · intro w hSw; (try dsimp only at hSw); go_simp <;> with_reducible rfl
  try simp only [Act.put, List.getElem_toArray, List.getElem_cons_succ, List.getElem_cons_zero, List.setIfInBounds_toArray, List.set_cons_zero, List.set_cons_succ]
  refine wpAnyH_ready (rs := [2]) (by kernel_rfl) (by simp) ?_
  refine AllReadyH.cons rfl (fun K hK => ?_) AllReadyH.nil
  go_simp
  ((first | (go_at_call 17; refine (NG.out _).mono ?_; rintro e w1 ⟨rfl, hb1⟩; have X1 := HoldsN.keep (W := wv.drew) hA hb1 hA.lt; have Y1 := HoldsN.keep (W := wv.drew) hB hb1 hB.lt; have Z1 := HoldsN.keep (W := wv.drew) hC hb1 hC.lt; have B1 := hb.drew.trans (hb1.mono hb.size)) | (go_at_call 11; with_reducible refine (AD.out _).mono ?_; rintro e w2 ⟨rfl, hb2⟩; have X2 := X1.keep hb2 X1.lt; have Y2 := Y1.keep hb2 Y1.lt; have Z2 := Z1.keep hb2 Z1.lt; have B2 := B1.trans (hb2.mono B1.size)) | (refine step_store_fe (by rfl) 24 (.tmp 4) (.tmp 8) (by rfl) (w.heap.size + 2) p (by rfl) (by rfl) _ Z2 Tryd.infoFe (by rfl) w.heap.size w B2 (by omega) ?_; intro w5 Hg5 o5 s5 B5; have X5 := X2.oth o5 (by omega); have Y5 := Y2.oth o5 (by omega))))
  dsimp only
  refine hK.out _ _ ?_ (fun hHeld => ?_)
  · (try dsimp only); (first | exact ⟨run_loadFe hA, run_loadFe hB⟩ | exact ⟨run_loadFe X1, run_loadFe Y1⟩ | exact ⟨run_loadFe X2, run_loadFe Y2⟩ | exact ⟨run_loadFe X5, run_loadFe Y5⟩)
  clear hK K
  try simp only [Act.put, List.getElem_toArray, List.getElem_cons_succ, List.getElem_cons_zero, List.setIfInBounds_toArray, List.set_cons_zero, List.set_cons_succ]
  refine wpAnyH_ready (rs := [3]) (by kernel_rfl) (by simp) ?_
  refine AllReadyH.cons rfl (fun K hK => ?_) AllReadyH.nil
  go_simp
  ((first | (go_at_call 17; refine (NG.out _).mono ?_; rintro e w1 ⟨rfl, hb1⟩; have X1 := HoldsN.keep (W := wv.drew) hA hb1 hA.lt; have Y1 := HoldsN.keep (W := wv.drew) hB hb1 hB.lt; have Z1 := HoldsN.keep (W := wv.drew) hC hb1 hC.lt; have B1 := hb.drew.trans (hb1.mono hb.size)) | (go_at_call 11; with_reducible refine (AD.out _).mono ?_; rintro e w2 ⟨rfl, hb2⟩; have X2 := X1.keep hb2 X1.lt; have Y2 := Y1.keep hb2 Y1.lt; have Z2 := Z1.keep hb2 Z1.lt; have B2 := B1.trans (hb2.mono B1.size)) | (refine step_store_fe (by rfl) 24 (.tmp 4) (.tmp 8) (by rfl) (w.heap.size + 2) p (by rfl) (by rfl) _ Z2 Tryd.infoFe (by rfl) w.heap.size w B2 (by omega) ?_; intro w5 Hg5 o5 s5 B5; have X5 := X2.oth o5 (by omega); have Y5 := Y2.oth o5 (by omega))))
  dsimp only
  refine hK.out _ _ ?_ (fun hHeld => ?_)
  · (try dsimp only); (first | exact ⟨run_loadFe hA, run_loadFe hB⟩ | exact ⟨run_loadFe X1, run_loadFe Y1⟩ | exact ⟨run_loadFe X2, run_loadFe Y2⟩ | exact ⟨run_loadFe X5, run_loadFe Y5⟩)
  clear hK K
  try simp only [Act.put, List.getElem_toArray, List.getElem_cons_succ, List.getElem_cons_zero, List.setIfInBounds_toArray, List.set_cons_zero, List.set_cons_succ]
  refine wpAnyH_ready (rs := [4]) (by kernel_rfl) (by simp) ?_
  refine AllReadyH.cons rfl (fun K hK => ?_) AllReadyH.nil
  ((first | (go_at_call 17; refine (NG.out _).mono ?_; rintro e w1 ⟨rfl, hb1⟩; have X1 := HoldsN.keep (W := wv.drew) hA hb1 hA.lt; have Y1 := HoldsN.keep (W := wv.drew) hB hb1 hB.lt; have Z1 := HoldsN.keep (W := wv.drew) hC hb1 hC.lt; have B1 := hb.drew.trans (hb1.mono hb.size)) | (go_at_call 11; with_reducible refine (AD.out _).mono ?_; rintro e w2 ⟨rfl, hb2⟩; have X2 := X1.keep hb2 X1.lt; have Y2 := Y1.keep hb2 Y1.lt; have Z2 := Z1.keep hb2 Z1.lt; have B2 := B1.trans (hb2.mono B1.size)) | (refine step_store_fe (by rfl) 24 (.tmp 4) (.tmp 8) (by rfl) (w.heap.size + 2) p (by rfl) (by rfl) _ Z2 Tryd.infoFe (by rfl) w.heap.size w B2 (by omega) ?_; intro w5 Hg5 o5 s5 B5; have X5 := X2.oth o5 (by omega); have Y5 := Y2.oth o5 (by omega))))
  refine hK.out _ _ ?_ (fun hHeld => ?_)
  · (try dsimp only); (first | exact ⟨run_loadFe hA, run_loadFe hB⟩ | exact ⟨run_loadFe X1, run_loadFe Y1⟩ | exact ⟨run_loadFe X2, run_loadFe Y2⟩ | exact ⟨run_loadFe X5, run_loadFe Y5⟩)
  clear hK K
  try simp only [Act.put, List.getElem_toArray, List.getElem_cons_succ, List.getElem_cons_zero]
  refine wpAnyH_done (by kernel_rfl) ?_ _
  refine NoPanic.normal ?_
  go_wp2
  exact bodyPost_ret (results_cell_row rfl _ _ (w.heap.size + 2) _ _ _ _ rfl Hg5 Tryd.underlying24 rfl (by rw [Tryd.infoFe]; rfl)) rfl ⟨rfl, B5⟩
end
end Go.Proofs.YtcidbiceeinglaaDoor
