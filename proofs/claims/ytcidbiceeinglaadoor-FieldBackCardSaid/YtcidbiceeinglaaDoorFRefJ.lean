/-
  The document's numbers modulo P: whether two are one; whether one is odd.
-/
import Derived.Test.YtcidbiceeinglaaDoorFRefI
import Derived.Test.YtcidbiceeinglaaDoorFEq
namespace Go.Proofs.YtcidbiceeinglaaDoor
open Go.RowKit

section
attribute [local go_sem ↓] load_fe
set_option maxRecDepth 100000 in
set_option maxHeartbeats 4000000 in
theorem rSame_any (m n : Nat) (w : World) (hm : m < big) (hn : n < big) :
    Calls Tryd.prog 24 #[fev m, fev n] w fun e w' => e = .returned (.bool (decide (toF m = toF n))) ∧ Below w.heap.size w w' := by
  obtain ⟨hA, hB, hb, hsz⟩ := fe_start2 w m n _ _ rfl rfl
  obtain ⟨a, ha⟩ : ∃ a, a = toF m := ⟨_, rfl⟩
  obtain ⟨b, hbb⟩ : ∃ b, b = toF n := ⟨_, rfl⟩
  have LM : Hid (∀ W, Calls Tryd.prog 34 #[.agg ((lims m).map nv).toArray] W fun e w' => e = .returned (.agg ((lims a.val).map nv).toArray) ∧ Below W.heap.size W w') := Lib.hid fun W => by rw [ha]; exact rLeast_any m W hm
  have LN : Hid (∀ W, Calls Tryd.prog 34 #[.agg ((lims n).map nv).toArray] W fun e w' => e = .returned (.agg ((lims b.val).map nv).toArray) ∧ Below W.heap.size W w') := Lib.hid fun W => by rw [hbb]; exact rLeast_any n W hn
  rw [fev_eq, fev_eq, ← ha, ← hbb]
  clear ha hbb
  have q1 := fun W => run_eql_F a b W
  have q2 := fun x y c d W => run_guard_fe x y c d W
  generalize decide (a = b) = res at *
  go_enter Tryd.func24, Tryd.ntmps24
  go_wp2_with fail
  generalize (w.alloc (.cells ((lims m).map nv).toArray 24)).alloc (.cells ((lims n).map nv).toArray 24) = wv at *
  refine wp_region_noPanic ?_
  refine wp_region_held_drew (S := (fun W => (loadFe 24 ⟨w.heap.size, 0, none⟩).run Tryd.prog W = .ok (.agg ((lims m).map nv).toArray) W ∧ (loadFe 24 ⟨w.heap.size + 1, 0, none⟩).run Tryd.prog W = .ok (.agg ((lims n).map nv).toArray) W)) (by kernel_rfl) (by (try dsimp only); (first | exact ⟨run_loadFe hA, run_loadFe hB⟩ | exact ⟨run_loadFe X1, run_loadFe Y1⟩ | exact ⟨run_loadFe X2, run_loadFe Y2⟩)) (fun hHeld => ?_)
  refine wpAnyH_take (i := 0) (v := ?_) rfl (by kernel_rfl) (by kernel_rfl) (by kernel_rfl) (fun _ _ _ h => h) (Or.inl ⟨by rfl, ?_⟩) (by assumption) ?_
  rotate_left
  · intro w hSw; (try dsimp only at hSw); go_simp <;> with_reducible rfl
  try simp only [Act.put, List.getElem_toArray, List.getElem_cons_zero, List.setIfInBounds_toArray, List.set_cons_zero, List.set_cons_succ]
  refine wpAnyH_take (i := 2) (v := ?_) rfl (by kernel_rfl) (by kernel_rfl) (by kernel_rfl) (fun _ _ _ h => h) (Or.inl ⟨by rfl, ?_⟩) (by assumption) ?_
  rotate_left
  · intro w hSw; (try dsimp only at hSw); go_simp <;> with_reducible rfl
  try simp only [Act.put, List.getElem_toArray, List.getElem_cons_succ, List.getElem_cons_zero, List.setIfInBounds_toArray, List.set_cons_zero, List.set_cons_succ]
  refine wpAnyH_ready (rs := [1]) (by kernel_rfl) (by simp) ?_
  refine AllReadyH.cons rfl (fun K hK => ?_) AllReadyH.nil
  go_simp
  ((first | (go_at_call 34; (with_reducible refine (LM.out _).mono ?_); rintro e w1 ⟨rfl, hb1⟩; have X1 := HoldsN.keep (W := wv.drew) hA hb1 hA.lt; have Y1 := HoldsN.keep (W := wv.drew) hB hb1 hB.lt; have B1 := hb.drew.trans (hb1.mono hb.size)) | (go_at_call 34; (with_reducible refine (LN.out _).mono ?_); rintro e w2 ⟨rfl, hb2⟩; have X2 := X1.keep hb2 X1.lt; have Y2 := Y1.keep hb2 Y1.lt; have B2 := B1.trans (hb2.mono B1.size))))
  dsimp only
  refine hK.out _ _ ?_ (fun hHeld => ?_)
  · (try dsimp only); (first | exact ⟨run_loadFe hA, run_loadFe hB⟩ | exact ⟨run_loadFe X1, run_loadFe Y1⟩ | exact ⟨run_loadFe X2, run_loadFe Y2⟩)
  clear hK K
  try simp only [Act.put, List.getElem_toArray, List.getElem_cons_succ, List.getElem_cons_zero, List.setIfInBounds_toArray, List.set_cons_zero, List.set_cons_succ]
  refine wpAnyH_ready (rs := [3]) (by kernel_rfl) (by simp) ?_
  refine AllReadyH.cons rfl (fun K hK => ?_) AllReadyH.nil
  go_simp
  ((first | (go_at_call 34; (with_reducible refine (LM.out _).mono ?_); rintro e w1 ⟨rfl, hb1⟩; have X1 := HoldsN.keep (W := wv.drew) hA hb1 hA.lt; have Y1 := HoldsN.keep (W := wv.drew) hB hb1 hB.lt; have B1 := hb.drew.trans (hb1.mono hb.size)) | (go_at_call 34; (with_reducible refine (LN.out _).mono ?_); rintro e w2 ⟨rfl, hb2⟩; have X2 := X1.keep hb2 X1.lt; have Y2 := Y1.keep hb2 Y1.lt; have B2 := B1.trans (hb2.mono B1.size))))
  dsimp only
  refine hK.out _ _ ?_ (fun hHeld => ?_)
  · (try dsimp only); (first | exact ⟨run_loadFe hA, run_loadFe hB⟩ | exact ⟨run_loadFe X1, run_loadFe Y1⟩ | exact ⟨run_loadFe X2, run_loadFe Y2⟩)
  clear hK K
  try simp only [Act.put, List.getElem_toArray, List.getElem_cons_succ, List.getElem_cons_zero, List.setIfInBounds_toArray, List.set_cons_zero, List.set_cons_succ]
  refine wpAnyH_take (i := 4) (v := ?_) rfl (by kernel_rfl) (by kernel_rfl) (by kernel_rfl) (fun _ _ _ h => h) (Or.inl ⟨by rfl, ?_⟩) (by assumption) ?_
  rotate_left
  · intro w hSw; (try dsimp only at hSw); go_simp <;> with_reducible rfl
  try simp only [Act.put, List.getElem_toArray, List.getElem_cons_succ, List.getElem_cons_zero, List.setIfInBounds_toArray, List.set_cons_zero, List.set_cons_succ]
  refine wpAnyH_take (i := 5) (v := ?_) rfl (by kernel_rfl) (by kernel_rfl) (by kernel_rfl) (fun _ _ _ h => h) (Or.inl ⟨by rfl, ?_⟩) (by assumption) ?_
  rotate_left
  · intro w hSw; (try dsimp only at hSw); go_simp <;> with_reducible rfl
  try simp only [Act.put, List.getElem_toArray, List.getElem_cons_succ, List.getElem_cons_zero, List.setIfInBounds_toArray, List.set_cons_zero, List.set_cons_succ]
  refine wpAnyH_done (by kernel_rfl) ?_ _
  refine NoPanic.normal ?_
  go_wp2
  go_ret
  exact ⟨rfl, B2⟩
end

theorem odd_val (a : F) : decide (limb a.val 0 % 2 = 1) = fodd a := by
  unfold fodd limb
  rw [Nat.pow_zero, Nat.div_one]
  congr 1
  have : a.val % 18446744073709551616 % 2 = a.val % 2 := by omega
  rw [this]

set_option maxRecDepth 100000 in
set_option maxHeartbeats 1000000 in
theorem rOdd_any (m : Nat) (w : World) (hm : m < big) :
    Calls Tryd.prog 26 #[fev m] w fun e w' => e = .returned (.bool (fodd (toF m))) ∧ Below w.heap.size w w' := by
  obtain ⟨hA, hb, hsz⟩ := fe_start w m _ rfl
  obtain ⟨a, ha⟩ : ∃ a, a = toF m := ⟨_, rfl⟩
  have LM : Hid (∀ W, Calls Tryd.prog 34 #[.agg ((lims m).map nv).toArray] W fun e w' => e = .returned (.agg ((lims a.val).map nv).toArray) ∧ Below W.heap.size W w') := Lib.hid fun W => by rw [ha]; exact rLeast_any m W hm
  rw [fev_eq, ← ha]
  clear ha
  have hodd := Lib.hid (odd_val a)
  go_enter Tryd.func26, Tryd.ntmps26
  go_wp2_with (first
    | (with_reducible refine wpList_load_n rfl 24 (.tmp 1) rfl w.heap.size rfl (lims m) 4 (by with_unfolding_all exact hA) rfl Tryd.underlying24 Tryd.infoFe ?_)
    | (go_at_call 34
       with_reducible refine (LM.out _).mono ?_
       rintro e w3 ⟨rfl, hb3⟩
       have hA3 := hA.keep hb3 hA.lt
       have b3 := hb.trans (hb3.mono hb.size))
    | (with_reducible refine wpList_store_n rfl 24 (.tmp 1) (.tmp 4) rfl w.heap.size (lims a.val) 4 rfl rfl rfl (lims m) hA3 Tryd.infoFe rfl w.heap.size w b3 (Nat.le_refl _) ?_
       intro w4 hA4 o4 s4 b4
       have c4 := hA4.cell (j := 0) (by rw [lims_length]; omega)
       rw [lims_get _ (by omega)] at c4))
  generalize limb a.val 0 = x at *
  have hm2 : (x : Int).tmod 2 = ((x % 2 : Nat) : Int) := by rw [Int.tmod_eq_emod_of_nonneg (Int.natCast_nonneg _)]; rfl
  go_ret
  refine ⟨?_, b4⟩
  rw [← hodd.out]
  have hx : x % 2 < 2 := Nat.mod_lt _ (by omega)
  by_cases h : x % 2 = 1
  · rw [decide_eq_true h]
    simp []
    omega
  · rw [decide_eq_false h]
    simp []
    omega
end Go.Proofs.YtcidbiceeinglaaDoor
