/-
  CurveTells: whether numbers are a point, sums, what is below none, which points are one, are what the document says. Whatever the numbers are.
-/
import Derived.Test.YthaheekjmofgnaaDoorMba
namespace Go.Proofs.YthaheekjmofgnaaDoor
open Go.RowKit
namespace Crv

section
attribute [local go_sem ↓] load_pt load_s6

set_option maxRecDepth 100000 in
set_option maxHeartbeats 8000000 in
theorem CurveTells_any (p : Nat × Nat) (q : Nat × Nat) (w : World) (ok_p : ok p) (ok_q : ok q) (L0 : Laid w) :
    Calls Tryd.prog 3 #[.agg ((limsL [p.1, p.2]).map nv).toArray, .agg ((limsL [q.1, q.2]).map nv).toArray] w fun e w' => e = .returned (.bool true) ∧ Below w.heap.size w w' := by
  have hsz0 := L0.size
  have LK : Hid (∀ W, Below w.heap.size w W → Laid W) := Lib.hid fun W hb => L0.keep hb hsz0
  have AW : Hid (∀ W, Laid W → Calls Tryd.prog 9 #[] W fun e w' => e = .returned (.bool true) ∧ Below W.heap.size W w') := Lib.hid fun W L => awake_any W L
  obtain ⟨pP, q_p⟩ : ∃ zz : Pt, pt p = zz := ⟨_, rfl⟩
  obtain ⟨qP, q_q⟩ : ∃ zz : Pt, pt q = zz := ⟨_, rfl⟩
  obtain ⟨aP, d_a⟩ : ∃ zz : Pt, zz = pP.plus qP := ⟨_, rfl⟩
  obtain ⟨a, n_a⟩ : ∃ zz : Nat × Nat, zz = nums aP := ⟨_, rfl⟩
  have ok_a : ok a := by rw [n_a]; exact nums_ok _
  have q_a : pt a = aP := by rw [n_a]; exact pt_nums _
  obtain ⟨mP, d_m⟩ : ∃ zz : Pt, zz = pP.opp := ⟨_, rfl⟩
  obtain ⟨m, n_m⟩ : ∃ zz : Nat × Nat, zz = nums mP := ⟨_, rfl⟩
  have ok_m : ok m := by rw [n_m]; exact nums_ok _
  have q_m : pt m = mP := by rw [n_m]; exact pt_nums _
  obtain ⟨b_c, d_b_c⟩ : ∃ zz : Bool, zz = decide (On (toF p.1, toF p.2)) := ⟨_, rfl⟩
  obtain ⟨b_s, d_b_s⟩ : ∃ zz : Bool, zz = decide (pP = qP) := ⟨_, rfl⟩
  have K1 : Hid (∀ W, Laid W → Calls Tryd.prog 10 #[.agg ((limsL [p.1, p.2]).map nv).toArray] W fun e w' => e = .returned (.bool b_c) ∧ Below W.heap.size W w') := Lib.hid fun W L => by
    have h := check_q p W ok_p L
    rw [show decide (On (toF p.1, toF p.2)) = b_c from d_b_c.symm] at h
    exact h
  have K2 : Hid (∀ W, Calls Tryd.prog 11 #[.agg ((limsL [p.1, p.2]).map nv).toArray] W fun e w' => e = .returned (.bool b_c) ∧ Below W.heap.size W w') := Lib.hid fun W => by
    have h := rcheck_q p W ok_p
    rw [show decide (On (toF p.1, toF p.2)) = b_c from d_b_c.symm] at h
    exact h
  have K3 : Hid (∀ W, Laid W → Calls Tryd.prog 12 #[.agg ((limsL [p.1, p.2]).map nv).toArray, .agg ((limsL [q.1, q.2]).map nv).toArray] W fun e w' => e = .returned (.agg ((limsL [a.1, a.2]).map nv).toArray) ∧ Below W.heap.size W w') := Lib.hid fun W L => by
    have h := add_q p q W ok_p ok_q L
    rw [show nums ((pt p).plus (pt q)) = a from (by rw [q_p, q_q, n_a]; exact congrArg nums (d_a.symm))] at h
    exact h
  have K4 : Hid (∀ W, Calls Tryd.prog 13 #[.agg ((limsL [p.1, p.2]).map nv).toArray, .agg ((limsL [q.1, q.2]).map nv).toArray] W fun e w' => e = .returned (.agg ((limsL [a.1, a.2]).map nv).toArray) ∧ Below W.heap.size W w') := Lib.hid fun W => by
    have h := radd_q p q W ok_p ok_q
    rw [show nums ((pt p).plus (pt q)) = a from (by rw [q_p, q_q, n_a]; exact congrArg nums (d_a.symm))] at h
    exact h
  have K5 : Hid (∀ W, Laid W → Calls Tryd.prog 14 #[.agg ((limsL [p.1, p.2]).map nv).toArray] W fun e w' => e = .returned (.agg ((limsL [m.1, m.2]).map nv).toArray) ∧ Below W.heap.size W w') := Lib.hid fun W L => by
    have h := neg_q p W ok_p L
    rw [show nums (pt p).opp = m from (by rw [q_p, n_m]; exact congrArg nums (d_m.symm))] at h
    exact h
  have K6 : Hid (∀ W, Calls Tryd.prog 15 #[.agg ((limsL [p.1, p.2]).map nv).toArray] W fun e w' => e = .returned (.agg ((limsL [m.1, m.2]).map nv).toArray) ∧ Below W.heap.size W w') := Lib.hid fun W => by
    have h := rneg_q p W ok_p
    rw [show nums (pt p).opp = m from (by rw [q_p, n_m]; exact congrArg nums (d_m.symm))] at h
    exact h
  have K7 : Hid (∀ W, Laid W → Calls Tryd.prog 16 #[.agg ((limsL [p.1, p.2]).map nv).toArray, .agg ((limsL [q.1, q.2]).map nv).toArray] W fun e w' => e = .returned (.bool b_s) ∧ Below W.heap.size W w') := Lib.hid fun W L => by
    have h := same_q p q W ok_p ok_q L
    rw [show decide (pt p = pt q) = b_s from (by rw [q_p, q_q, d_b_s])] at h
    exact h
  have K8 : Hid (∀ W, Calls Tryd.prog 17 #[.agg ((limsL [p.1, p.2]).map nv).toArray, .agg ((limsL [q.1, q.2]).map nv).toArray] W fun e w' => e = .returned (.bool b_s) ∧ Below W.heap.size W w') := Lib.hid fun W => by
    have h := rsame_q p q W ok_p ok_q
    rw [show decide (pt p = pt q) = b_s from (by rw [q_p, q_q, d_b_s])] at h
    exact h
  have eq_a := fun W => eql_pp a ok_a W
  have eq_m := fun W => eql_pp m ok_m W
  have gf := fun x y c d W => run_guard_pt x y c d W
  clear L0 hsz0 q_p q_q ok_p ok_q d_a n_a ok_a q_a d_m n_m ok_m q_m d_b_c d_b_s
  have F0 : Bs w (w.heap.size + 1 + 1) [(w.heap.size + 1, 26, ((limsL [q.1, q.2]).map nv).toArray), (w.heap.size, 26, ((limsL [p.1, p.2]).map nv).toArray)] ((w.alloc (.cells ((limsL [p.1, p.2]).map nv).toArray 26)).alloc (.cells ((limsL [q.1, q.2]).map nv).toArray 26)) := ((Bs.nil).alloc (by rfl)).alloc (by simp only [World.size_alloc])
  go_enter Tryd.func3, Tryd.ntmps3
  go_upto_region 1 with (fail)
  generalize ((w.alloc (.cells ((limsL [p.1, p.2]).map nv).toArray 26)).alloc (.cells ((limsL [q.1, q.2]).map nv).toArray 26)) = wv at *
  go_upto_region 2 with (first
    | (go_at_call 9
       with_reducible refine (AW.out _ (LK.out _ F0.below)).mono ?_
       rintro e w1 ⟨rfl, hb1⟩
       have F1 := Bs.stay _ _ F0 hb1)
    | fail)
  clear F0 hb1
  refine wp_region_lex 33 (fun _ => false) (fun _ _ _ => True) (Bs w (w.heap.size + 1 + 1) [(w.heap.size + 1, 26, ((limsL [q.1, q.2]).map nv).toArray), (w.heap.size, 26, ((limsL [p.1, p.2]).map nv).toArray)]) (by kernel_rfl) (by kernel_rfl) F1.drew Bs.stay (fun _ _ _ _ _ _ => trivial) lex_none ?_
  simp only [List.take_succ_cons, List.take_zero, List.drop_succ_cons, List.drop_zero]
  refine lexW_value (v := ?_) (by rfl) (by rfl) (fun W hW => ?_) ?_
  rotate_left
  · skip; go_simp <;> with_reducible rfl
  simp only [Act.put, List.setIfInBounds_toArray, List.set_cons_zero, List.set_cons_succ]
  refine lexW_value (v := ?_) (by rfl) (by rfl) (fun W hW => ?_) ?_
  rotate_left
  · skip; go_simp <;> with_reducible rfl
  simp only [Act.put, List.setIfInBounds_toArray, List.set_cons_zero, List.set_cons_succ]
  refine lexW_value (v := ?_) (by rfl) (by rfl) (fun W hW => ?_) ?_
  rotate_left
  · have l1 := run_ldP (hW.getN (g := w.heap.size) (l := limsL [p.1, p.2]) (by repeat (first | exact List.mem_cons_self .. | refine List.mem_cons_of_mem _ ?_))); go_simp <;> with_reducible rfl
  simp only [Act.put, List.setIfInBounds_toArray, List.set_cons_zero, List.set_cons_succ]
  refine' lexW_call (by rfl) (by rfl) (fun W hW => ?_) (fun W hW => ?_) ?_
  rotate_left 3
  · go_simp <;> first | with_reducible rfl | exact ⟨rfl, rfl⟩
  · with_reducible exact K1.out W (LK.out _ hW.below)
  simp only [Act.put, List.setIfInBounds_toArray, List.set_cons_zero, List.set_cons_succ]
  refine lexW_value (v := ?_) (by rfl) (by rfl) (fun W hW => ?_) ?_
  rotate_left
  · have l1 := run_ldP (hW.getN (g := w.heap.size) (l := limsL [p.1, p.2]) (by repeat (first | exact List.mem_cons_self .. | refine List.mem_cons_of_mem _ ?_))); go_simp <;> with_reducible rfl
  simp only [Act.put, List.setIfInBounds_toArray, List.set_cons_zero, List.set_cons_succ]
  refine' lexW_call (by rfl) (by rfl) (fun W hW => ?_) (fun W hW => ?_) ?_
  rotate_left 3
  · go_simp <;> first | with_reducible rfl | exact ⟨rfl, rfl⟩
  · with_reducible exact K2.out W
  simp only [Act.put, List.setIfInBounds_toArray, List.set_cons_zero, List.set_cons_succ]
  refine lexW_value (v := ?_) (by rfl) (by rfl) (fun W hW => ?_) ?_
  rotate_left
  · skip; go_simp <;> with_reducible rfl
  simp only [Act.put, List.setIfInBounds_toArray, List.set_cons_zero, List.set_cons_succ]
  refine lexW_value (v := ?_) (by rfl) (by rfl) (fun W hW => ?_) ?_
  rotate_left
  · skip; go_simp <;> with_reducible rfl
  simp only [Act.put, List.setIfInBounds_toArray, List.set_cons_zero, List.set_cons_succ]
  refine lexW_value (v := ?_) (by rfl) (by rfl) (fun W hW => ?_) ?_
  rotate_left
  · skip; go_simp <;> with_reducible rfl
  simp only [Act.put, List.setIfInBounds_toArray, List.set_cons_zero, List.set_cons_succ]
  refine lexW_value (v := ?_) (by rfl) (by rfl) (fun W hW => ?_) ?_
  rotate_left
  · have l1 := run_ldP (hW.getN (g := w.heap.size) (l := limsL [p.1, p.2]) (by repeat (first | exact List.mem_cons_self .. | refine List.mem_cons_of_mem _ ?_))); go_simp <;> with_reducible rfl
  simp only [Act.put, List.setIfInBounds_toArray, List.set_cons_zero, List.set_cons_succ]
  refine lexW_value (v := ?_) (by rfl) (by rfl) (fun W hW => ?_) ?_
  rotate_left
  · have l1 := run_ldP (hW.getN (g := w.heap.size + 1) (l := limsL [q.1, q.2]) (by repeat (first | exact List.mem_cons_self .. | refine List.mem_cons_of_mem _ ?_))); go_simp <;> with_reducible rfl
  simp only [Act.put, List.setIfInBounds_toArray, List.set_cons_zero, List.set_cons_succ]
  refine' lexW_call (by rfl) (by rfl) (fun W hW => ?_) (fun W hW => ?_) ?_
  rotate_left 3
  · go_simp <;> first | with_reducible rfl | exact ⟨rfl, rfl⟩
  · with_reducible exact K3.out W (LK.out _ hW.below)
  simp only [Act.put, List.setIfInBounds_toArray, List.set_cons_zero, List.set_cons_succ]
  refine lexW_value (v := ?_) (by rfl) (by rfl) (fun W hW => ?_) ?_
  rotate_left
  · have l1 := run_ldP (hW.getN (g := w.heap.size) (l := limsL [p.1, p.2]) (by repeat (first | exact List.mem_cons_self .. | refine List.mem_cons_of_mem _ ?_))); go_simp <;> with_reducible rfl
  simp only [Act.put, List.setIfInBounds_toArray, List.set_cons_zero, List.set_cons_succ]
  refine lexW_value (v := ?_) (by rfl) (by rfl) (fun W hW => ?_) ?_
  rotate_left
  · have l1 := run_ldP (hW.getN (g := w.heap.size + 1) (l := limsL [q.1, q.2]) (by repeat (first | exact List.mem_cons_self .. | refine List.mem_cons_of_mem _ ?_))); go_simp <;> with_reducible rfl
  simp only [Act.put, List.setIfInBounds_toArray, List.set_cons_zero, List.set_cons_succ]
  refine' lexW_call (by rfl) (by rfl) (fun W hW => ?_) (fun W hW => ?_) ?_
  rotate_left 3
  · go_simp <;> first | with_reducible rfl | exact ⟨rfl, rfl⟩
  · with_reducible exact K4.out W
  simp only [Act.put, List.setIfInBounds_toArray, List.set_cons_zero, List.set_cons_succ]
  refine lexW_value (v := ?_) (by rfl) (by rfl) (fun W hW => ?_) ?_
  rotate_left
  · skip; go_simp <;> with_reducible rfl
  simp only [Act.put, List.setIfInBounds_toArray, List.set_cons_zero, List.set_cons_succ]
  refine lexW_value (v := ?_) (by rfl) (by rfl) (fun W hW => ?_) ?_
  rotate_left
  · skip; go_simp <;> with_reducible rfl
  simp only [Act.put, List.setIfInBounds_toArray, List.set_cons_zero, List.set_cons_succ]
  refine lexW_value (v := ?_) (by rfl) (by rfl) (fun W hW => ?_) ?_
  rotate_left
  · skip; go_simp <;> with_reducible rfl
  simp only [Act.put, List.setIfInBounds_toArray, List.set_cons_zero, List.set_cons_succ]
  refine lexW_value (v := ?_) (by rfl) (by rfl) (fun W hW => ?_) ?_
  rotate_left
  · have l1 := run_ldP (hW.getN (g := w.heap.size) (l := limsL [p.1, p.2]) (by repeat (first | exact List.mem_cons_self .. | refine List.mem_cons_of_mem _ ?_))); go_simp <;> with_reducible rfl
  simp only [Act.put, List.setIfInBounds_toArray, List.set_cons_zero, List.set_cons_succ]
  refine' lexW_call (by rfl) (by rfl) (fun W hW => ?_) (fun W hW => ?_) ?_
  rotate_left 3
  · go_simp <;> first | with_reducible rfl | exact ⟨rfl, rfl⟩
  · with_reducible exact K5.out W (LK.out _ hW.below)
  simp only [Act.put, List.setIfInBounds_toArray, List.set_cons_zero, List.set_cons_succ]
  refine lexW_value (v := ?_) (by rfl) (by rfl) (fun W hW => ?_) ?_
  rotate_left
  · have l1 := run_ldP (hW.getN (g := w.heap.size) (l := limsL [p.1, p.2]) (by repeat (first | exact List.mem_cons_self .. | refine List.mem_cons_of_mem _ ?_))); go_simp <;> with_reducible rfl
  simp only [Act.put, List.setIfInBounds_toArray, List.set_cons_zero, List.set_cons_succ]
  refine' lexW_call (by rfl) (by rfl) (fun W hW => ?_) (fun W hW => ?_) ?_
  rotate_left 3
  · go_simp <;> first | with_reducible rfl | exact ⟨rfl, rfl⟩
  · with_reducible exact K6.out W
  simp only [Act.put, List.setIfInBounds_toArray, List.set_cons_zero, List.set_cons_succ]
  refine lexW_value (v := ?_) (by rfl) (by rfl) (fun W hW => ?_) ?_
  rotate_left
  · skip; go_simp <;> with_reducible rfl
  simp only [Act.put, List.setIfInBounds_toArray, List.set_cons_zero, List.set_cons_succ]
  refine lexW_value (v := ?_) (by rfl) (by rfl) (fun W hW => ?_) ?_
  rotate_left
  · skip; go_simp <;> with_reducible rfl
  simp only [Act.put, List.setIfInBounds_toArray, List.set_cons_zero, List.set_cons_succ]
  refine lexW_value (v := ?_) (by rfl) (by rfl) (fun W hW => ?_) ?_
  rotate_left
  · skip; go_simp <;> with_reducible rfl
  simp only [Act.put, List.setIfInBounds_toArray, List.set_cons_zero, List.set_cons_succ]
  refine lexW_value (v := ?_) (by rfl) (by rfl) (fun W hW => ?_) ?_
  rotate_left
  · have l1 := run_ldP (hW.getN (g := w.heap.size) (l := limsL [p.1, p.2]) (by repeat (first | exact List.mem_cons_self .. | refine List.mem_cons_of_mem _ ?_))); go_simp <;> with_reducible rfl
  simp only [Act.put, List.setIfInBounds_toArray, List.set_cons_zero, List.set_cons_succ]
  refine lexW_value (v := ?_) (by rfl) (by rfl) (fun W hW => ?_) ?_
  rotate_left
  · have l1 := run_ldP (hW.getN (g := w.heap.size + 1) (l := limsL [q.1, q.2]) (by repeat (first | exact List.mem_cons_self .. | refine List.mem_cons_of_mem _ ?_))); go_simp <;> with_reducible rfl
  simp only [Act.put, List.setIfInBounds_toArray, List.set_cons_zero, List.set_cons_succ]
  refine' lexW_call (by rfl) (by rfl) (fun W hW => ?_) (fun W hW => ?_) ?_
  rotate_left 3
  · go_simp <;> first | with_reducible rfl | exact ⟨rfl, rfl⟩
  · with_reducible exact K7.out W (LK.out _ hW.below)
  simp only [Act.put, List.setIfInBounds_toArray, List.set_cons_zero, List.set_cons_succ]
  refine lexW_value (v := ?_) (by rfl) (by rfl) (fun W hW => ?_) ?_
  rotate_left
  · have l1 := run_ldP (hW.getN (g := w.heap.size) (l := limsL [p.1, p.2]) (by repeat (first | exact List.mem_cons_self .. | refine List.mem_cons_of_mem _ ?_))); go_simp <;> with_reducible rfl
  simp only [Act.put, List.setIfInBounds_toArray, List.set_cons_zero, List.set_cons_succ]
  refine lexW_value (v := ?_) (by rfl) (by rfl) (fun W hW => ?_) ?_
  rotate_left
  · have l1 := run_ldP (hW.getN (g := w.heap.size + 1) (l := limsL [q.1, q.2]) (by repeat (first | exact List.mem_cons_self .. | refine List.mem_cons_of_mem _ ?_))); go_simp <;> with_reducible rfl
  simp only [Act.put, List.setIfInBounds_toArray, List.set_cons_zero, List.set_cons_succ]
  refine' lexW_call (by rfl) (by rfl) (fun W hW => ?_) (fun W hW => ?_) ?_
  rotate_left 3
  · go_simp <;> first | with_reducible rfl | exact ⟨rfl, rfl⟩
  · with_reducible exact K8.out W
  simp only [Act.put, List.setIfInBounds_toArray, List.set_cons_zero, List.set_cons_succ]
  refine lexW_value (v := ?_) (by rfl) (by rfl) (fun W hW => ?_) ?_
  rotate_left
  · skip; go_simp <;> with_reducible rfl
  simp only [Act.put, List.setIfInBounds_toArray, List.set_cons_zero, List.set_cons_succ]
  refine lexW_value (v := ?_) (by rfl) (by rfl) (fun W hW => ?_) ?_
  rotate_left
  · skip; go_simp <;> with_reducible rfl
  simp only [Act.put, List.setIfInBounds_toArray, List.set_cons_zero, List.set_cons_succ]
  refine lexW_nil (fun b2 W2 F2 E2 => ?_)
  obtain rfl := lexEnd_none E2
  go_wp2
  go_ret
  exact ⟨rfl, F2.below⟩
end
end Crv
end Go.Proofs.YthaheekjmofgnaaDoor
