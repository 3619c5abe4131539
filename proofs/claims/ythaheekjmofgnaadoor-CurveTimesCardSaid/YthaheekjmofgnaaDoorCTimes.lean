/-
  CurveTimes: a point so many times, and eight times, is what the document says. Whatever the numbers are.
-/
import Derived.Test.YthaheekjmofgnaaDoorMba
namespace Go.Proofs.YthaheekjmofgnaaDoor
open Go.RowKit
namespace Crv

section
attribute [local go_sem ↓] load_pt load_s6

set_option maxRecDepth 100000 in
set_option maxHeartbeats 8000000 in
theorem CurveTimes_any (p : Nat × Nat) (k : Nat) (w : World) (ok_p : ok p) (hk : k < big) (L0 : Laid w) :
    Calls Tryd.prog 4 #[.agg ((lims k).map nv).toArray, .agg ((limsL [p.1, p.2]).map nv).toArray] w fun e w' => e = .returned (.bool true) ∧ Below w.heap.size w w' := by
  have hsz0 := L0.size
  have LK : Hid (∀ W, Below w.heap.size w W → Laid W) := Lib.hid fun W hb => L0.keep hb hsz0
  have AW : Hid (∀ W, Laid W → Calls Tryd.prog 9 #[] W fun e w' => e = .returned (.bool true) ∧ Below W.heap.size W w') := Lib.hid fun W L => awake_any W L
  obtain ⟨pP, q_p⟩ : ∃ zz : Pt, pt p = zz := ⟨_, rfl⟩
  obtain ⟨mP, d_m⟩ : ∃ zz : Pt, zz = Pt.times (toS k).val pP := ⟨_, rfl⟩
  obtain ⟨m, n_m⟩ : ∃ zz : Nat × Nat, zz = nums mP := ⟨_, rfl⟩
  have ok_m : ok m := by rw [n_m]; exact nums_ok _
  have q_m : pt m = mP := by rw [n_m]; exact pt_nums _
  obtain ⟨cP, d_c⟩ : ∃ zz : Pt, zz = Pt.times 8 pP := ⟨_, rfl⟩
  obtain ⟨c, n_c⟩ : ∃ zz : Nat × Nat, zz = nums cP := ⟨_, rfl⟩
  have ok_c : ok c := by rw [n_c]; exact nums_ok _
  have q_c : pt c = cP := by rw [n_c]; exact pt_nums _
  have K1 : Hid (∀ W, Laid W → Calls Tryd.prog 18 #[.agg ((lims k).map nv).toArray, .agg ((limsL [p.1, p.2]).map nv).toArray] W fun e w' => e = .returned (.agg ((limsL [m.1, m.2]).map nv).toArray) ∧ Below W.heap.size W w') := Lib.hid fun W L => by
    have h := mul_q k p W hk ok_p L
    rw [show nums (Pt.times (toS k).val (pt p)) = m from (by rw [q_p, n_m]; exact congrArg nums (d_m.symm))] at h
    exact h
  have K2 : Hid (∀ W, Calls Tryd.prog 19 #[.agg ((lims k).map nv).toArray, .agg ((limsL [p.1, p.2]).map nv).toArray] W fun e w' => e = .returned (.agg ((limsL [m.1, m.2]).map nv).toArray) ∧ Below W.heap.size W w') := Lib.hid fun W => by
    have h := rmul_q k p W hk ok_p
    rw [show nums (Pt.times (toS k).val (pt p)) = m from (by rw [q_p, n_m]; exact congrArg nums (d_m.symm))] at h
    exact h
  have K3 : Hid (∀ W, Laid W → Calls Tryd.prog 20 #[.agg ((limsL [p.1, p.2]).map nv).toArray] W fun e w' => e = .returned (.agg ((limsL [c.1, c.2]).map nv).toArray) ∧ Below W.heap.size W w') := Lib.hid fun W L => by
    have h := clear_q p W ok_p L
    rw [show nums (Pt.times 8 (pt p)) = c from (by rw [q_p, n_c]; exact congrArg nums (d_c.symm))] at h
    exact h
  have K4 : Hid (∀ W, Calls Tryd.prog 21 #[.agg ((limsL [p.1, p.2]).map nv).toArray] W fun e w' => e = .returned (.agg ((limsL [c.1, c.2]).map nv).toArray) ∧ Below W.heap.size W w') := Lib.hid fun W => by
    have h := rclear_q p W ok_p
    rw [show nums (Pt.times 8 (pt p)) = c from (by rw [q_p, n_c]; exact congrArg nums (d_c.symm))] at h
    exact h
  have eq_c := fun W => eql_pp c ok_c W
  have eq_m := fun W => eql_pp m ok_m W
  have gf := fun x y c d W => run_guard_pt x y c d W
  clear L0 hsz0 q_p ok_p hk d_m n_m ok_m q_m d_c n_c ok_c q_c
  have F0 : Bs w (w.heap.size + 1 + 1) [(w.heap.size + 1, 26, ((limsL [p.1, p.2]).map nv).toArray), (w.heap.size, 32, ((lims k).map nv).toArray)] ((w.alloc (.cells ((lims k).map nv).toArray 32)).alloc (.cells ((limsL [p.1, p.2]).map nv).toArray 26)) := ((Bs.nil).alloc (by rfl)).alloc (by simp only [World.size_alloc])
  go_enter Tryd.func4, Tryd.ntmps4
  go_upto_region 1 with (fail)
  generalize ((w.alloc (.cells ((lims k).map nv).toArray 32)).alloc (.cells ((limsL [p.1, p.2]).map nv).toArray 26)) = wv at *
  go_upto_region 2 with (first
    | (go_at_call 9
       with_reducible refine (AW.out _ (LK.out _ F0.below)).mono ?_
       rintro e w1 ⟨rfl, hb1⟩
       have F1 := Bs.stay _ _ F0 hb1)
    | fail)
  clear F0 hb1
  refine wp_region_lex 17 (fun _ => false) (fun _ _ _ => True) (Bs w (w.heap.size + 1 + 1) [(w.heap.size + 1, 26, ((limsL [p.1, p.2]).map nv).toArray), (w.heap.size, 32, ((lims k).map nv).toArray)]) (by kernel_rfl) (by kernel_rfl) F1.drew Bs.stay (fun _ _ _ _ _ _ => trivial) lex_none ?_
  simp only [List.take_succ_cons, List.take_zero, List.drop_succ_cons, List.drop_zero]
  refine lexW_value (v := ?_) (by rfl) (by rfl) (fun W hW => ?_) ?_
  rotate_left
  · skip; go_simp <;> with_reducible rfl
  simp only [Act.put, List.setIfInBounds_toArray, List.set_cons_zero, List.set_cons_succ]
  refine lexW_value (v := ?_) (by rfl) (by rfl) (fun W hW => ?_) ?_
  rotate_left
  · skip; go_simp <;> with_reducible rfl
  simp only [Act.put, List.setIfInBounds_toArray, List.set_cons_zero, List.set_cons_succ]
  refine lexW_value (v := ?_) (by rfl) (by rfl) (fun W hW => ?_) ?_
  rotate_left
  · have l1 := run_ldS (hW.getN (g := w.heap.size) (l := lims k) (by repeat (first | exact List.mem_cons_self .. | refine List.mem_cons_of_mem _ ?_))); go_simp <;> with_reducible rfl
  simp only [Act.put, List.setIfInBounds_toArray, List.set_cons_zero, List.set_cons_succ]
  refine lexW_value (v := ?_) (by rfl) (by rfl) (fun W hW => ?_) ?_
  rotate_left
  · have l1 := run_ldP (hW.getN (g := w.heap.size + 1) (l := limsL [p.1, p.2]) (by repeat (first | exact List.mem_cons_self .. | refine List.mem_cons_of_mem _ ?_))); go_simp <;> with_reducible rfl
  simp only [Act.put, List.setIfInBounds_toArray, List.set_cons_zero, List.set_cons_succ]
  refine' lexW_call (by rfl) (by rfl) (fun W hW => ?_) (fun W hW => ?_) ?_
  rotate_left 3
  · go_simp <;> first | with_reducible rfl | exact ⟨rfl, rfl⟩
  · with_reducible exact K1.out W (LK.out _ hW.below)
  simp only [Act.put, List.setIfInBounds_toArray, List.set_cons_zero, List.set_cons_succ]
  refine lexW_value (v := ?_) (by rfl) (by rfl) (fun W hW => ?_) ?_
  rotate_left
  · have l1 := run_ldS (hW.getN (g := w.heap.size) (l := lims k) (by repeat (first | exact List.mem_cons_self .. | refine List.mem_cons_of_mem _ ?_))); go_simp <;> with_reducible rfl
  simp only [Act.put, List.setIfInBounds_toArray, List.set_cons_zero, List.set_cons_succ]
  refine lexW_value (v := ?_) (by rfl) (by rfl) (fun W hW => ?_) ?_
  rotate_left
  · have l1 := run_ldP (hW.getN (g := w.heap.size + 1) (l := limsL [p.1, p.2]) (by repeat (first | exact List.mem_cons_self .. | refine List.mem_cons_of_mem _ ?_))); go_simp <;> with_reducible rfl
  simp only [Act.put, List.setIfInBounds_toArray, List.set_cons_zero, List.set_cons_succ]
  refine' lexW_call (by rfl) (by rfl) (fun W hW => ?_) (fun W hW => ?_) ?_
  rotate_left 3
  · go_simp <;> first | with_reducible rfl | exact ⟨rfl, rfl⟩
  · with_reducible exact K2.out W
  simp only [Act.put, List.setIfInBounds_toArray, List.set_cons_zero, List.set_cons_succ]
  refine lexW_value (v := ?_) (by rfl) (by rfl) (fun W hW => ?_) ?_
  rotate_left
  · skip; go_simp <;> with_reducible rfl
  simp only [Act.put, List.setIfInBounds_toArray, List.set_cons_zero, List.set_cons_succ]
  refine lexW_value (v := ?_) (by rfl) (by rfl) (fun W hW => ?_) ?_
  rotate_left
  · skip; go_simp <;> with_reducible rfl
  simp only [Act.put, List.setIfInBounds_toArray, List.set_cons_zero, List.set_cons_succ]
  refine lexW_value (v := ?_) (by rfl) (by rfl) (fun W hW => ?_) ?_
  rotate_left
  · skip; go_simp <;> with_reducible rfl
  simp only [Act.put, List.setIfInBounds_toArray, List.set_cons_zero, List.set_cons_succ]
  refine lexW_value (v := ?_) (by rfl) (by rfl) (fun W hW => ?_) ?_
  rotate_left
  · have l1 := run_ldP (hW.getN (g := w.heap.size + 1) (l := limsL [p.1, p.2]) (by repeat (first | exact List.mem_cons_self .. | refine List.mem_cons_of_mem _ ?_))); go_simp <;> with_reducible rfl
  simp only [Act.put, List.setIfInBounds_toArray, List.set_cons_zero, List.set_cons_succ]
  refine' lexW_call (by rfl) (by rfl) (fun W hW => ?_) (fun W hW => ?_) ?_
  rotate_left 3
  · go_simp <;> first | with_reducible rfl | exact ⟨rfl, rfl⟩
  · with_reducible exact K3.out W (LK.out _ hW.below)
  simp only [Act.put, List.setIfInBounds_toArray, List.set_cons_zero, List.set_cons_succ]
  refine lexW_value (v := ?_) (by rfl) (by rfl) (fun W hW => ?_) ?_
  rotate_left
  · have l1 := run_ldP (hW.getN (g := w.heap.size + 1) (l := limsL [p.1, p.2]) (by repeat (first | exact List.mem_cons_self .. | refine List.mem_cons_of_mem _ ?_))); go_simp <;> with_reducible rfl
  simp only [Act.put, List.setIfInBounds_toArray, List.set_cons_zero, List.set_cons_succ]
  refine' lexW_call (by rfl) (by rfl) (fun W hW => ?_) (fun W hW => ?_) ?_
  rotate_left 3
  · go_simp <;> first | with_reducible rfl | exact ⟨rfl, rfl⟩
  · with_reducible exact K4.out W
  simp only [Act.put, List.setIfInBounds_toArray, List.set_cons_zero, List.set_cons_succ]
  refine lexW_value (v := ?_) (by rfl) (by rfl) (fun W hW => ?_) ?_
  rotate_left
  · skip; go_simp <;> with_reducible rfl
  simp only [Act.put, List.setIfInBounds_toArray, List.set_cons_zero, List.set_cons_succ]
  refine lexW_value (v := ?_) (by rfl) (by rfl) (fun W hW => ?_) ?_
  rotate_left
  · skip; go_simp <;> with_reducible rfl
  simp only [Act.put, List.setIfInBounds_toArray, List.set_cons_zero, List.set_cons_succ]
  refine lexW_nil (fun b2 W2 F2 E2 => ?_)
  obtain rfl := lexEnd_none E2
  go_wp2
  go_ret
  exact ⟨rfl, F2.below⟩
end
end Crv
end Go.Proofs.YthaheekjmofgnaaDoor
