/-
  The document's numbers modulo L: what is below 0, differences.
-/
import Derived.Test.YthhcjknkmdaeeaaDoorSRefD
namespace Go.Proofs.YthhcjknkmdaeeaaDoor
open Go.RowKit

/-- A number read out of its block, under a name that the walk does not open. -/
def loadSc (t : TypeId) (a : Addr) : Sem Value := loadVar t a
theorem load_sc (a : Addr) : loadVar 24 a = loadSc 24 a := rfl
theorem run_loadSc {w : World} {g n : Nat} (hg : HoldsN w 24 g (lims n)) : (loadSc 24 ⟨g, 0, none⟩).run Tryd.prog w = .ok (.agg ((lims n).map nv).toArray) w :=
  run_loadVar_row w g 24 24 _ (0, 0) _ hg Tryd.underlying24 rfl (by rw [Tryd.infoSc]; rfl)

section
attribute [local go_sem ↓] load_sc

theorem sneg_val (a : Sn) : (toS (LL - a.val)).val = (-a).val := by
  rw [Sn.val_neg]; rfl
theorem LL_sub_lt (a : Sn) : LL - a.val < big := Nat.lt_of_le_of_lt (Nat.sub_le _ _) (by decide)

set_option maxRecDepth 100000 in
set_option maxHeartbeats 4000000 in
theorem sNeg_any (m : Nat) (w : World) (hm : m < big) :
    Calls Tryd.prog 13 #[fev m] w (GaveF w (-toS m).val) := by
  obtain ⟨hA, hC, hb, hsz⟩ := sc_start2 w m 0 _ #[.int .u64 0, .int .u64 0, .int .u64 0, .int .u64 0] rfl (by kernel_rfl)
  obtain ⟨a, ha⟩ : ∃ a, a = toS m := ⟨_, rfl⟩
  have PR : Hid (∀ W, Calls Tryd.prog 29 #[] W fun e w' => e = .returned (.agg ((lims LL).map nv).toArray) ∧ Below W.heap.size W w') := Lib.hid fun W => sorder_any W
  have LM : Hid (∀ W, Calls Tryd.prog 25 #[.agg ((lims m).map nv).toArray] W fun e w' => e = .returned (.agg ((lims a.val).map nv).toArray) ∧ Below W.heap.size W w') := Lib.hid fun W => by rw [ha]; exact sLeast_any m W hm
  have TK : Hid (∀ W, Calls Tryd.prog 28 #[.agg ((lims LL).map nv).toArray, .agg ((lims a.val).map nv).toArray] W fun e w' => e = .returned (.agg ((lims (LL - a.val)).map nv).toArray) ∧ Below W.heap.size W w') := Lib.hid fun W => stake_any LL a.val W (by decide) (Nat.le_of_lt a.isLt)
  have LS : Hid (∀ W, Calls Tryd.prog 25 #[.agg ((lims (LL - a.val)).map nv).toArray] W fun e w' => e = .returned (.agg ((lims (-a).val).map nv).toArray) ∧ Below W.heap.size W w') := Lib.hid fun W => by rw [← sneg_val]; exact sLeast_any _ W (LL_sub_lt a)
  rw [fev_eq, ← ha]
  clear ha
  generalize LL - a.val = p at *
  generalize hq : a.val = q at *
  clear hq
  go_enter Tryd.func13, Tryd.ntmps13
  go_wp2_with fail
  generalize (w.alloc (.cells ((lims m).map nv).toArray 24)).alloc (.cells #[.int .u64 0, .int .u64 0, .int .u64 0, .int .u64 0] 24) = wv at *
  refine wp_region_noPanic ?_
  refine wp_region_held_drew (S := (fun W => (loadSc 24 ⟨w.heap.size, 0, none⟩).run Tryd.prog W = .ok (.agg ((lims m).map nv).toArray) W)) (by kernel_rfl) (by (try dsimp only); (first | exact run_loadSc hA | exact run_loadSc X1 | exact run_loadSc X2 | exact run_loadSc X3 | exact run_loadSc X4 | exact run_loadSc X5)) (fun hHeld => ?_)
  refine wpAnyH_take (i := 1) (v := ?_) rfl (by kernel_rfl) (by kernel_rfl) (by kernel_rfl) (fun _ _ _ h => h) (Or.inl ⟨by rfl, ?_⟩) (by assumption) ?_
  rotate_left
  · intro w hSw; (try dsimp only at hSw); go_simp <;> with_reducible rfl
  try simp only [Act.put, List.getElem_toArray, List.getElem_cons_succ, List.getElem_cons_zero, List.setIfInBounds_toArray, List.set_cons_zero, List.set_cons_succ]
  refine wpAnyH_ready (rs := [0]) (by kernel_rfl) (by simp) ?_
  refine AllReadyH.cons rfl (fun K hK => ?_) AllReadyH.nil
  go_simp
  ((first | (go_at_call 29; refine (PR.out _).mono ?_; rintro e w1 ⟨rfl, hb1⟩; have X1 := HoldsN.keep (W := wv.drew) hA hb1 hA.lt; have Z1 := HoldsN.keep (W := wv.drew) hC hb1 hC.lt; have B1 := hb.drew.trans (hb1.mono hb.size)) | (go_at_call 25; with_reducible refine (LM.out _).mono ?_; rintro e w2 ⟨rfl, hb2⟩; have X2 := X1.keep hb2 X1.lt; have Z2 := Z1.keep hb2 Z1.lt; have B2 := B1.trans (hb2.mono B1.size)) | (go_at_call 28; refine (TK.out _).mono ?_; rintro e w3 ⟨rfl, hb3⟩; have X3 := X2.keep hb3 X2.lt; have Z3 := Z2.keep hb3 Z2.lt; have B3 := B2.trans (hb3.mono B2.size)) | (go_at_call 25; with_reducible refine (LS.out _).mono ?_; rintro e w4 ⟨rfl, hb4⟩; have X4 := X3.keep hb4 X3.lt; have Z4 := Z3.keep hb4 Z3.lt; have B4 := B3.trans (hb4.mono B3.size)) | (refine step_store_fe (by rfl) 24 (.tmp 2) (.tmp 7) (by rfl) (w.heap.size + 1) (-a).val (by rfl) (by rfl) _ Z4 Tryd.infoSc (by rfl) w.heap.size w B4 (Nat.le_succ _) ?_; intro w5 Hg5 o5 s5 B5; have X5 := X4.oth o5 (by omega))))
  dsimp only
  refine hK.out _ _ ?_ (fun hHeld => ?_)
  · (try dsimp only); (first | exact run_loadSc hA | exact run_loadSc X1 | exact run_loadSc X2 | exact run_loadSc X3 | exact run_loadSc X4 | exact run_loadSc X5)
  clear hK K
  try simp only [Act.put, List.getElem_toArray, List.getElem_cons_succ, List.getElem_cons_zero, List.setIfInBounds_toArray, List.set_cons_zero, List.set_cons_succ]
  refine wpAnyH_ready (rs := [2]) (by kernel_rfl) (by simp) ?_
  refine AllReadyH.cons rfl (fun K hK => ?_) AllReadyH.nil
  go_simp
  ((first | (go_at_call 29; refine (PR.out _).mono ?_; rintro e w1 ⟨rfl, hb1⟩; have X1 := HoldsN.keep (W := wv.drew) hA hb1 hA.lt; have Z1 := HoldsN.keep (W := wv.drew) hC hb1 hC.lt; have B1 := hb.drew.trans (hb1.mono hb.size)) | (go_at_call 25; with_reducible refine (LM.out _).mono ?_; rintro e w2 ⟨rfl, hb2⟩; have X2 := X1.keep hb2 X1.lt; have Z2 := Z1.keep hb2 Z1.lt; have B2 := B1.trans (hb2.mono B1.size)) | (go_at_call 28; refine (TK.out _).mono ?_; rintro e w3 ⟨rfl, hb3⟩; have X3 := X2.keep hb3 X2.lt; have Z3 := Z2.keep hb3 Z2.lt; have B3 := B2.trans (hb3.mono B2.size)) | (go_at_call 25; with_reducible refine (LS.out _).mono ?_; rintro e w4 ⟨rfl, hb4⟩; have X4 := X3.keep hb4 X3.lt; have Z4 := Z3.keep hb4 Z3.lt; have B4 := B3.trans (hb4.mono B3.size)) | (refine step_store_fe (by rfl) 24 (.tmp 2) (.tmp 7) (by rfl) (w.heap.size + 1) (-a).val (by rfl) (by rfl) _ Z4 Tryd.infoSc (by rfl) w.heap.size w B4 (Nat.le_succ _) ?_; intro w5 Hg5 o5 s5 B5; have X5 := X4.oth o5 (by omega))))
  dsimp only
  refine hK.out _ _ ?_ (fun hHeld => ?_)
  · (try dsimp only); (first | exact run_loadSc hA | exact run_loadSc X1 | exact run_loadSc X2 | exact run_loadSc X3 | exact run_loadSc X4 | exact run_loadSc X5)
  clear hK K
  try simp only [Act.put, List.getElem_toArray, List.getElem_cons_succ, List.getElem_cons_zero, List.setIfInBounds_toArray, List.set_cons_zero, List.set_cons_succ]
  refine wpAnyH_ready (rs := [3]) (by kernel_rfl) (by simp) ?_
  refine AllReadyH.cons rfl (fun K hK => ?_) AllReadyH.nil
  go_simp
  ((first | (go_at_call 29; refine (PR.out _).mono ?_; rintro e w1 ⟨rfl, hb1⟩; have X1 := HoldsN.keep (W := wv.drew) hA hb1 hA.lt; have Z1 := HoldsN.keep (W := wv.drew) hC hb1 hC.lt; have B1 := hb.drew.trans (hb1.mono hb.size)) | (go_at_call 25; with_reducible refine (LM.out _).mono ?_; rintro e w2 ⟨rfl, hb2⟩; have X2 := X1.keep hb2 X1.lt; have Z2 := Z1.keep hb2 Z1.lt; have B2 := B1.trans (hb2.mono B1.size)) | (go_at_call 28; refine (TK.out _).mono ?_; rintro e w3 ⟨rfl, hb3⟩; have X3 := X2.keep hb3 X2.lt; have Z3 := Z2.keep hb3 Z2.lt; have B3 := B2.trans (hb3.mono B2.size)) | (go_at_call 25; with_reducible refine (LS.out _).mono ?_; rintro e w4 ⟨rfl, hb4⟩; have X4 := X3.keep hb4 X3.lt; have Z4 := Z3.keep hb4 Z3.lt; have B4 := B3.trans (hb4.mono B3.size)) | (refine step_store_fe (by rfl) 24 (.tmp 2) (.tmp 7) (by rfl) (w.heap.size + 1) (-a).val (by rfl) (by rfl) _ Z4 Tryd.infoSc (by rfl) w.heap.size w B4 (Nat.le_succ _) ?_; intro w5 Hg5 o5 s5 B5; have X5 := X4.oth o5 (by omega))))
  dsimp only
  refine hK.out _ _ ?_ (fun hHeld => ?_)
  · (try dsimp only); (first | exact run_loadSc hA | exact run_loadSc X1 | exact run_loadSc X2 | exact run_loadSc X3 | exact run_loadSc X4 | exact run_loadSc X5)
  clear hK K
  try simp only [Act.put, List.getElem_toArray, List.getElem_cons_succ, List.getElem_cons_zero, List.setIfInBounds_toArray, List.set_cons_zero, List.set_cons_succ]
  refine wpAnyH_ready (rs := [4]) (by kernel_rfl) (by simp) ?_
  refine AllReadyH.cons rfl (fun K hK => ?_) AllReadyH.nil
  go_simp
  ((first | (go_at_call 29; refine (PR.out _).mono ?_; rintro e w1 ⟨rfl, hb1⟩; have X1 := HoldsN.keep (W := wv.drew) hA hb1 hA.lt; have Z1 := HoldsN.keep (W := wv.drew) hC hb1 hC.lt; have B1 := hb.drew.trans (hb1.mono hb.size)) | (go_at_call 25; with_reducible refine (LM.out _).mono ?_; rintro e w2 ⟨rfl, hb2⟩; have X2 := X1.keep hb2 X1.lt; have Z2 := Z1.keep hb2 Z1.lt; have B2 := B1.trans (hb2.mono B1.size)) | (go_at_call 28; refine (TK.out _).mono ?_; rintro e w3 ⟨rfl, hb3⟩; have X3 := X2.keep hb3 X2.lt; have Z3 := Z2.keep hb3 Z2.lt; have B3 := B2.trans (hb3.mono B2.size)) | (go_at_call 25; with_reducible refine (LS.out _).mono ?_; rintro e w4 ⟨rfl, hb4⟩; have X4 := X3.keep hb4 X3.lt; have Z4 := Z3.keep hb4 Z3.lt; have B4 := B3.trans (hb4.mono B3.size)) | (refine step_store_fe (by rfl) 24 (.tmp 2) (.tmp 7) (by rfl) (w.heap.size + 1) (-a).val (by rfl) (by rfl) _ Z4 Tryd.infoSc (by rfl) w.heap.size w B4 (Nat.le_succ _) ?_; intro w5 Hg5 o5 s5 B5; have X5 := X4.oth o5 (by omega))))
  dsimp only
  refine hK.out _ _ ?_ (fun hHeld => ?_)
  · (try dsimp only); (first | exact run_loadSc hA | exact run_loadSc X1 | exact run_loadSc X2 | exact run_loadSc X3 | exact run_loadSc X4 | exact run_loadSc X5)
  clear hK K
  try simp only [Act.put, List.getElem_toArray, List.getElem_cons_succ, List.getElem_cons_zero, List.setIfInBounds_toArray, List.set_cons_zero, List.set_cons_succ]
  refine wpAnyH_ready (rs := [5]) (by kernel_rfl) (by simp) ?_
  refine AllReadyH.cons rfl (fun K hK => ?_) AllReadyH.nil
  ((first | (go_at_call 29; refine (PR.out _).mono ?_; rintro e w1 ⟨rfl, hb1⟩; have X1 := HoldsN.keep (W := wv.drew) hA hb1 hA.lt; have Z1 := HoldsN.keep (W := wv.drew) hC hb1 hC.lt; have B1 := hb.drew.trans (hb1.mono hb.size)) | (go_at_call 25; with_reducible refine (LM.out _).mono ?_; rintro e w2 ⟨rfl, hb2⟩; have X2 := X1.keep hb2 X1.lt; have Z2 := Z1.keep hb2 Z1.lt; have B2 := B1.trans (hb2.mono B1.size)) | (go_at_call 28; refine (TK.out _).mono ?_; rintro e w3 ⟨rfl, hb3⟩; have X3 := X2.keep hb3 X2.lt; have Z3 := Z2.keep hb3 Z2.lt; have B3 := B2.trans (hb3.mono B2.size)) | (go_at_call 25; with_reducible refine (LS.out _).mono ?_; rintro e w4 ⟨rfl, hb4⟩; have X4 := X3.keep hb4 X3.lt; have Z4 := Z3.keep hb4 Z3.lt; have B4 := B3.trans (hb4.mono B3.size)) | (refine step_store_fe (by rfl) 24 (.tmp 2) (.tmp 7) (by rfl) (w.heap.size + 1) (-a).val (by rfl) (by rfl) _ Z4 Tryd.infoSc (by rfl) w.heap.size w B4 (Nat.le_succ _) ?_; intro w5 Hg5 o5 s5 B5; have X5 := X4.oth o5 (by omega))))
  refine hK.out _ _ ?_ (fun hHeld => ?_)
  · (try dsimp only); (first | exact run_loadSc hA | exact run_loadSc X1 | exact run_loadSc X2 | exact run_loadSc X3 | exact run_loadSc X4 | exact run_loadSc X5)
  clear hK K
  try simp only [Act.put, List.getElem_toArray, List.getElem_cons_succ, List.getElem_cons_zero]
  refine wpAnyH_done (by kernel_rfl) ?_ _
  refine NoPanic.normal ?_
  go_wp2
  exact bodyPost_ret (results_cell_row rfl _ _ (w.heap.size + 1) _ _ _ _ rfl Hg5 Tryd.underlying24 rfl (by rw [Tryd.infoSc]; rfl)) rfl ⟨rfl, B5⟩
end
end Go.Proofs.YthhcjknkmdaeeaaDoor
