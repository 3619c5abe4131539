/-
  The document's numbers modulo P: what a number is multiplied by to be 1.
-/
import Derived.Test.YtcidbiceeinglaaDoorFRefH
namespace Go.Proofs.YtcidbiceeinglaaDoor
open Go.RowKit

section
attribute [local go_sem ↓] load_fe
theorem two_lims : Value.agg #[.int .u64 2, .int .u64 0, .int .u64 0, .int .u64 0] = .agg ((lims 2).map nv).toArray := by kernel_rfl

set_option maxRecDepth 100000 in
set_option maxHeartbeats 4000000 in
theorem rInv_any (m : Nat) (w : World) (hm : m < big) :
    Calls Tryd.prog 30 #[fev m] w (GaveF w (finv (toF m)).val) := by
  obtain ⟨hA, hC, hb, hsz⟩ := fe_start2 w m 0 _ #[.int .u64 0, .int .u64 0, .int .u64 0, .int .u64 0] rfl (by kernel_rfl)
  obtain ⟨r, hr⟩ : ∃ r, r = finv (toF m) := ⟨_, rfl⟩
  obtain ⟨p, hp⟩ : ∃ p, p = PP - 2 := ⟨_, rfl⟩
  have PR : Hid (∀ W, Calls Tryd.prog 40 #[] W fun e w' => e = .returned (.agg ((lims PP).map nv).toArray) ∧ Below W.heap.size W w') := Lib.hid fun W => rprime_any W
  have TK : Hid (∀ W, Calls Tryd.prog 39 #[.agg ((lims PP).map nv).toArray, .agg #[.int .u64 2, .int .u64 0, .int .u64 0, .int .u64 0]] W fun e w' => e = .returned (.agg ((lims p).map nv).toArray) ∧ Below W.heap.size W w') := Lib.hid fun W => by
    rw [hp, two_lims]
    exact rtake_any PP 2 W (by decide) (by decide)
  have PW : Hid (∀ W, Calls Tryd.prog 42 #[.agg ((lims m).map nv).toArray, .agg ((lims p).map nv).toArray] W fun e w' => e = .returned (.agg ((lims r.val).map nv).toArray) ∧ Below W.heap.size W w') := Lib.hid fun W => by
    have h := rPower_any m p W hm (by rw [hp]; decide)
    have e : fpow (toF m) p = r := by rw [hr, hp]; rfl
    rw [e] at h
    exact h
  rw [fev_eq, ← hr]
  clear hr hp
  go_enter Tryd.func30, Tryd.ntmps30
  go_wp2_with fail
  generalize (w.alloc (.cells ((lims m).map nv).toArray 24)).alloc (.cells #[.int .u64 0, .int .u64 0, .int .u64 0, .int .u64 0] 24) = wv at *
  refine wp_region_noPanic ?_
  refine wp_region_held_drew (S := (fun W => (loadFe 24 ⟨w.heap.size, 0, none⟩).run Tryd.prog W = .ok (.agg ((lims m).map nv).toArray) W)) (by kernel_rfl) (by (try dsimp only); (first | exact run_loadFe hA | exact run_loadFe X1 | exact run_loadFe X2 | exact run_loadFe X3 | exact run_loadFe X5)) (fun hHeld => ?_)
  refine wpAnyH_take (i := 0) (v := ?_) rfl (by kernel_rfl) (by kernel_rfl) (by kernel_rfl) (fun _ _ _ h => h) (Or.inl ⟨by rfl, ?_⟩) (by assumption) ?_
  rotate_left
  · intro w hSw; (try dsimp only at hSw); go_simp <;> with_reducible rfl
  try simp only [Act.put, List.getElem_toArray, List.getElem_cons_zero, List.setIfInBounds_toArray, List.set_cons_zero, List.set_cons_succ]
  refine wpAnyH_take (i := 2) (v := ?_) rfl (by kernel_rfl) (by kernel_rfl) (by kernel_rfl) (fun _ _ _ h => h) (Or.inl ⟨by rfl, ?_⟩) (by assumption) ?_
  rotate_left
  · intro w hSw; (try dsimp only at hSw); go_simp <;> with_reducible rfl
  try simp only [Act.put, List.getElem_toArray, List.getElem_cons_succ, List.getElem_cons_zero, List.setIfInBounds_toArray, List.set_cons_zero, List.set_cons_succ]
  refine wpAnyH_ready (rs := [1]) (by kernel_rfl) (by simp) ?_
  refine AllReadyH.cons rfl (fun K hK => ?_) AllReadyH.nil
  go_simp
  ((first | (go_at_call 40; refine (PR.out _).mono ?_; rintro e w1 ⟨rfl, hb1⟩; have X1 := HoldsN.keep (W := wv.drew) hA hb1 hA.lt; have Z1 := HoldsN.keep (W := wv.drew) hC hb1 hC.lt; have B1 := hb.drew.trans (hb1.mono hb.size)) | (go_at_call 39; refine (TK.out _).mono ?_; rintro e w2 ⟨rfl, hb2⟩; have X2 := X1.keep hb2 X1.lt; have Z2 := Z1.keep hb2 Z1.lt; have B2 := B1.trans (hb2.mono B1.size)) | (go_at_call 42; refine (PW.out _).mono ?_; rintro e w3 ⟨rfl, hb3⟩; have X3 := X2.keep hb3 X2.lt; have Z3 := Z2.keep hb3 Z2.lt; have B3 := B2.trans (hb3.mono B2.size)) | (refine step_store_fe (by rfl) 24 (.tmp 2) (.tmp 7) (by rfl) (w.heap.size + 1) r.val (by rfl) (by rfl) _ Z3 Tryd.infoFe (by rfl) w.heap.size w B3 (Nat.le_succ _) ?_; intro w5 Hg5 o5 s5 B5; have X5 := X3.oth o5 (by omega))))
  dsimp only
  refine hK.out _ _ ?_ (fun hHeld => ?_)
  · (try dsimp only); (first | exact run_loadFe hA | exact run_loadFe X1 | exact run_loadFe X2 | exact run_loadFe X3 | exact run_loadFe X5)
  clear hK K
  try simp only [Act.put, List.getElem_toArray, List.getElem_cons_succ, List.getElem_cons_zero, List.setIfInBounds_toArray, List.set_cons_zero, List.set_cons_succ]
  refine wpAnyH_ready (rs := [3]) (by kernel_rfl) (by simp) ?_
  refine AllReadyH.cons rfl (fun K hK => ?_) AllReadyH.nil
  go_simp
  ((first | (go_at_call 40; refine (PR.out _).mono ?_; rintro e w1 ⟨rfl, hb1⟩; have X1 := HoldsN.keep (W := wv.drew) hA hb1 hA.lt; have Z1 := HoldsN.keep (W := wv.drew) hC hb1 hC.lt; have B1 := hb.drew.trans (hb1.mono hb.size)) | (go_at_call 39; refine (TK.out _).mono ?_; rintro e w2 ⟨rfl, hb2⟩; have X2 := X1.keep hb2 X1.lt; have Z2 := Z1.keep hb2 Z1.lt; have B2 := B1.trans (hb2.mono B1.size)) | (go_at_call 42; refine (PW.out _).mono ?_; rintro e w3 ⟨rfl, hb3⟩; have X3 := X2.keep hb3 X2.lt; have Z3 := Z2.keep hb3 Z2.lt; have B3 := B2.trans (hb3.mono B2.size)) | (refine step_store_fe (by rfl) 24 (.tmp 2) (.tmp 7) (by rfl) (w.heap.size + 1) r.val (by rfl) (by rfl) _ Z3 Tryd.infoFe (by rfl) w.heap.size w B3 (Nat.le_succ _) ?_; intro w5 Hg5 o5 s5 B5; have X5 := X3.oth o5 (by omega))))
  dsimp only
  refine hK.out _ _ ?_ (fun hHeld => ?_)
  · (try dsimp only); (first | exact run_loadFe hA | exact run_loadFe X1 | exact run_loadFe X2 | exact run_loadFe X3 | exact run_loadFe X5)
  clear hK K
  try simp only [Act.put, List.getElem_toArray, List.getElem_cons_succ, List.getElem_cons_zero, List.setIfInBounds_toArray, List.set_cons_zero, List.set_cons_succ]
  refine wpAnyH_ready (rs := [4]) (by kernel_rfl) (by simp) ?_
  refine AllReadyH.cons rfl (fun K hK => ?_) AllReadyH.nil
  go_simp
  ((first | (go_at_call 40; refine (PR.out _).mono ?_; rintro e w1 ⟨rfl, hb1⟩; have X1 := HoldsN.keep (W := wv.drew) hA hb1 hA.lt; have Z1 := HoldsN.keep (W := wv.drew) hC hb1 hC.lt; have B1 := hb.drew.trans (hb1.mono hb.size)) | (go_at_call 39; refine (TK.out _).mono ?_; rintro e w2 ⟨rfl, hb2⟩; have X2 := X1.keep hb2 X1.lt; have Z2 := Z1.keep hb2 Z1.lt; have B2 := B1.trans (hb2.mono B1.size)) | (go_at_call 42; refine (PW.out _).mono ?_; rintro e w3 ⟨rfl, hb3⟩; have X3 := X2.keep hb3 X2.lt; have Z3 := Z2.keep hb3 Z2.lt; have B3 := B2.trans (hb3.mono B2.size)) | (refine step_store_fe (by rfl) 24 (.tmp 2) (.tmp 7) (by rfl) (w.heap.size + 1) r.val (by rfl) (by rfl) _ Z3 Tryd.infoFe (by rfl) w.heap.size w B3 (Nat.le_succ _) ?_; intro w5 Hg5 o5 s5 B5; have X5 := X3.oth o5 (by omega))))
  dsimp only
  refine hK.out _ _ ?_ (fun hHeld => ?_)
  · (try dsimp only); (first | exact run_loadFe hA | exact run_loadFe X1 | exact run_loadFe X2 | exact run_loadFe X3 | exact run_loadFe X5)
  clear hK K
  try simp only [Act.put, List.getElem_toArray, List.getElem_cons_succ, List.getElem_cons_zero, List.setIfInBounds_toArray, List.set_cons_zero, List.set_cons_succ]
  refine wpAnyH_ready (rs := [5]) (by kernel_rfl) (by simp) ?_
  refine AllReadyH.cons rfl (fun K hK => ?_) AllReadyH.nil
  ((first | (go_at_call 40; refine (PR.out _).mono ?_; rintro e w1 ⟨rfl, hb1⟩; have X1 := HoldsN.keep (W := wv.drew) hA hb1 hA.lt; have Z1 := HoldsN.keep (W := wv.drew) hC hb1 hC.lt; have B1 := hb.drew.trans (hb1.mono hb.size)) | (go_at_call 39; refine (TK.out _).mono ?_; rintro e w2 ⟨rfl, hb2⟩; have X2 := X1.keep hb2 X1.lt; have Z2 := Z1.keep hb2 Z1.lt; have B2 := B1.trans (hb2.mono B1.size)) | (go_at_call 42; refine (PW.out _).mono ?_; rintro e w3 ⟨rfl, hb3⟩; have X3 := X2.keep hb3 X2.lt; have Z3 := Z2.keep hb3 Z2.lt; have B3 := B2.trans (hb3.mono B2.size)) | (refine step_store_fe (by rfl) 24 (.tmp 2) (.tmp 7) (by rfl) (w.heap.size + 1) r.val (by rfl) (by rfl) _ Z3 Tryd.infoFe (by rfl) w.heap.size w B3 (Nat.le_succ _) ?_; intro w5 Hg5 o5 s5 B5; have X5 := X3.oth o5 (by omega))))
  refine hK.out _ _ ?_ (fun hHeld => ?_)
  · (try dsimp only); (first | exact run_loadFe hA | exact run_loadFe X1 | exact run_loadFe X2 | exact run_loadFe X3 | exact run_loadFe X5)
  clear hK K
  try simp only [Act.put, List.getElem_toArray, List.getElem_cons_succ, List.getElem_cons_zero]
  refine wpAnyH_done (by kernel_rfl) ?_ _
  refine NoPanic.normal ?_
  go_wp2
  exact bodyPost_ret (results_cell_row rfl _ _ (w.heap.size + 1) _ _ _ _ rfl Hg5 Tryd.underlying24 rfl (by rw [Tryd.infoFe]; rfl)) rfl ⟨rfl, B5⟩
end
end Go.Proofs.YtcidbiceeinglaaDoor
