/-
  CurveGroup: points are a group. Whatever the numbers are.
-/
import Derived.Test.YthaheekjmofgnaaDoorMba
namespace Go.Proofs.YthaheekjmofgnaaDoor
open Go.RowKit
namespace Crv

section
attribute [local go_sem ↓] load_pt load_s6

set_option maxRecDepth 100000 in
set_option maxHeartbeats 8000000 in
theorem CurveGroup_any (p : Nat × Nat) (q : Nat × Nat) (r : Nat × Nat) (w : World) (ok_p : ok p) (ok_q : ok q) (ok_r : ok r) (L0 : Laid w) :
    Calls Tryd.prog 5 #[.agg ((limsL [p.1, p.2]).map nv).toArray, .agg ((limsL [q.1, q.2]).map nv).toArray, .agg ((limsL [r.1, r.2]).map nv).toArray] w fun e w' => e = .returned (.bool true) ∧ Below w.heap.size w w' := by
  have hsz0 := L0.size
  have LK : Hid (∀ W, Below w.heap.size w W → Laid W) := Lib.hid fun W hb => L0.keep hb hsz0
  have AW : Hid (∀ W, Laid W → Calls Tryd.prog 9 #[] W fun e w' => e = .returned (.bool true) ∧ Below W.heap.size W w') := Lib.hid fun W L => awake_any W L
  obtain ⟨pP, q_p⟩ : ∃ zz : Pt, pt p = zz := ⟨_, rfl⟩
  obtain ⟨qP, q_q⟩ : ∃ zz : Pt, pt q = zz := ⟨_, rfl⟩
  obtain ⟨rP, q_r⟩ : ∃ zz : Pt, pt r = zz := ⟨_, rfl⟩
  obtain ⟨sP, d_s⟩ : ∃ zz : Pt, zz = pP.plus qP := ⟨_, rfl⟩
  obtain ⟨s, n_s⟩ : ∃ zz : Nat × Nat, zz = nums sP := ⟨_, rfl⟩
  have ok_s : ok s := by rw [n_s]; exact nums_ok _
  have q_s : pt s = sP := by rw [n_s]; exact pt_nums _
  obtain ⟨tP, d_t⟩ : ∃ zz : Pt, zz = sP.plus rP := ⟨_, rfl⟩
  obtain ⟨t, n_t⟩ : ∃ zz : Nat × Nat, zz = nums tP := ⟨_, rfl⟩
  have ok_t : ok t := by rw [n_t]; exact nums_ok _
  have q_t : pt t = tP := by rw [n_t]; exact pt_nums _
  obtain ⟨uP, d_u⟩ : ∃ zz : Pt, zz = qP.plus rP := ⟨_, rfl⟩
  obtain ⟨u, n_u⟩ : ∃ zz : Nat × Nat, zz = nums uP := ⟨_, rfl⟩
  have ok_u : ok u := by rw [n_u]; exact nums_ok _
  have q_u : pt u = uP := by rw [n_u]; exact pt_nums _
  obtain ⟨mP, d_m⟩ : ∃ zz : Pt, zz = pP.opp := ⟨_, rfl⟩
  obtain ⟨m, n_m⟩ : ∃ zz : Nat × Nat, zz = nums mP := ⟨_, rfl⟩
  have ok_m : ok m := by rw [n_m]; exact nums_ok _
  have q_m : pt m = mP := by rw [n_m]; exact pt_nums _
  obtain ⟨zP, d_z⟩ : ∃ zz : Pt, zz = Pt.none := ⟨_, rfl⟩
  obtain ⟨z, n_z⟩ : ∃ zz : Nat × Nat, zz = nums zP := ⟨_, rfl⟩
  have ok_z : ok z := by rw [n_z]; exact nums_ok _
  have q_z : pt z = zP := by rw [n_z]; exact pt_nums _
  obtain ⟨yP, d_y⟩ : ∃ zz : Pt, zz = pP := ⟨_, rfl⟩
  obtain ⟨y, n_y⟩ : ∃ zz : Nat × Nat, zz = nums yP := ⟨_, rfl⟩
  have ok_y : ok y := by rw [n_y]; exact nums_ok _
  have q_y : pt y = yP := by rw [n_y]; exact pt_nums _
  have K1 : Hid (∀ W, Laid W → Calls Tryd.prog 12 #[.agg ((limsL [p.1, p.2]).map nv).toArray, .agg ((limsL [q.1, q.2]).map nv).toArray] W fun e w' => e = .returned (.agg ((limsL [s.1, s.2]).map nv).toArray) ∧ Below W.heap.size W w') := Lib.hid fun W L => by
    have h := add_q p q W ok_p ok_q L
    rw [show nums ((pt p).plus (pt q)) = s from (by rw [q_p, q_q, n_s]; exact congrArg nums (d_s.symm))] at h
    exact h
  have K2 : Hid (∀ W, Laid W → Calls Tryd.prog 10 #[.agg ((limsL [s.1, s.2]).map nv).toArray] W fun e w' => e = .returned (.bool true) ∧ Below W.heap.size W w') := Lib.hid fun W L => by
    have h := check_q s W ok_s L
    rw [show decide (On (toF s.1, toF s.2)) = true from (by rw [n_s]; exact on_nums _)] at h
    exact h
  have K3 : Hid (∀ W, Laid W → Calls Tryd.prog 12 #[.agg ((limsL [q.1, q.2]).map nv).toArray, .agg ((limsL [p.1, p.2]).map nv).toArray] W fun e w' => e = .returned (.agg ((limsL [s.1, s.2]).map nv).toArray) ∧ Below W.heap.size W w') := Lib.hid fun W L => by
    have h := add_q q p W ok_q ok_p L
    rw [show nums ((pt q).plus (pt p)) = s from (by rw [q_q, q_p, n_s]; exact congrArg nums (by rw [d_s, Pt.plus_comm]))] at h
    exact h
  have K4 : Hid (∀ W, Laid W → Calls Tryd.prog 12 #[.agg ((limsL [s.1, s.2]).map nv).toArray, .agg ((limsL [r.1, r.2]).map nv).toArray] W fun e w' => e = .returned (.agg ((limsL [t.1, t.2]).map nv).toArray) ∧ Below W.heap.size W w') := Lib.hid fun W L => by
    have h := add_q s r W ok_s ok_r L
    rw [show nums ((pt s).plus (pt r)) = t from (by rw [q_s, q_r, n_t]; exact congrArg nums (d_t.symm))] at h
    exact h
  have K5 : Hid (∀ W, Laid W → Calls Tryd.prog 12 #[.agg ((limsL [q.1, q.2]).map nv).toArray, .agg ((limsL [r.1, r.2]).map nv).toArray] W fun e w' => e = .returned (.agg ((limsL [u.1, u.2]).map nv).toArray) ∧ Below W.heap.size W w') := Lib.hid fun W L => by
    have h := add_q q r W ok_q ok_r L
    rw [show nums ((pt q).plus (pt r)) = u from (by rw [q_q, q_r, n_u]; exact congrArg nums (d_u.symm))] at h
    exact h
  have K6 : Hid (∀ W, Laid W → Calls Tryd.prog 12 #[.agg ((limsL [p.1, p.2]).map nv).toArray, .agg ((limsL [u.1, u.2]).map nv).toArray] W fun e w' => e = .returned (.agg ((limsL [t.1, t.2]).map nv).toArray) ∧ Below W.heap.size W w') := Lib.hid fun W L => by
    have h := add_q p u W ok_p ok_u L
    rw [show nums ((pt p).plus (pt u)) = t from (by rw [q_p, q_u, n_t]; exact congrArg nums (by rw [d_t, d_s, d_u, Pt.plus_assoc]))] at h
    exact h
  have K7 : Hid (∀ W, Laid W → Calls Tryd.prog 14 #[.agg ((limsL [p.1, p.2]).map nv).toArray] W fun e w' => e = .returned (.agg ((limsL [m.1, m.2]).map nv).toArray) ∧ Below W.heap.size W w') := Lib.hid fun W L => by
    have h := neg_q p W ok_p L
    rw [show nums (pt p).opp = m from (by rw [q_p, n_m]; exact congrArg nums (d_m.symm))] at h
    exact h
  have K8 : Hid (∀ W, Laid W → Calls Tryd.prog 12 #[.agg ((limsL [p.1, p.2]).map nv).toArray, .agg ((limsL [m.1, m.2]).map nv).toArray] W fun e w' => e = .returned (.agg ((limsL [z.1, z.2]).map nv).toArray) ∧ Below W.heap.size W w') := Lib.hid fun W L => by
    have h := add_q p m W ok_p ok_m L
    rw [show nums ((pt p).plus (pt m)) = z from (by rw [q_p, q_m, n_z]; exact congrArg nums (by rw [d_m, d_z, Pt.plus_opp]))] at h
    exact h
  have K9 : Hid (∀ W, Laid W → Calls Tryd.prog 22 #[] W fun e w' => e = .returned (.agg ((limsL [z.1, z.2]).map nv).toArray) ∧ Below W.heap.size W w') := Lib.hid fun W L => by
    have h := zero_q W  L
    rw [show nums Pt.none = z from (by rw [n_z, d_z])] at h
    exact h
  have K10 : Hid (∀ W, Laid W → Calls Tryd.prog 12 #[.agg ((limsL [p.1, p.2]).map nv).toArray, .agg ((limsL [z.1, z.2]).map nv).toArray] W fun e w' => e = .returned (.agg ((limsL [y.1, y.2]).map nv).toArray) ∧ Below W.heap.size W w') := Lib.hid fun W L => by
    have h := add_q p z W ok_p ok_z L
    rw [show nums ((pt p).plus (pt z)) = y from (by rw [q_p, q_z, n_y]; exact congrArg nums (by rw [d_z, d_y, Pt.plus_none]))] at h
    exact h
  have K11 : Hid (∀ W, Laid W → Calls Tryd.prog 16 #[.agg ((limsL [y.1, y.2]).map nv).toArray, .agg ((limsL [p.1, p.2]).map nv).toArray] W fun e w' => e = .returned (.bool true) ∧ Below W.heap.size W w') := Lib.hid fun W L => by
    have h := same_q y p W ok_y ok_p L
    rw [show decide (pt y = pt p) = true from (by rw [q_y, q_p, d_y]; exact decide_eq_true rfl)] at h
    exact h
  have eq_s := fun W => eql_pp s ok_s W
  have eq_t := fun W => eql_pp t ok_t W
  have eq_z := fun W => eql_pp z ok_z W
  have gf := fun x y c d W => run_guard_pt x y c d W
  clear L0 hsz0 q_p q_q q_r ok_p ok_q ok_r d_s n_s ok_s q_s d_t n_t ok_t q_t d_u n_u ok_u q_u d_m n_m ok_m q_m d_z n_z ok_z q_z d_y n_y ok_y q_y
  have F0 : Bs w (w.heap.size + 1 + 1 + 1) [(w.heap.size + 1 + 1, 26, ((limsL [r.1, r.2]).map nv).toArray), (w.heap.size + 1, 26, ((limsL [q.1, q.2]).map nv).toArray), (w.heap.size, 26, ((limsL [p.1, p.2]).map nv).toArray)] (((w.alloc (.cells ((limsL [p.1, p.2]).map nv).toArray 26)).alloc (.cells ((limsL [q.1, q.2]).map nv).toArray 26)).alloc (.cells ((limsL [r.1, r.2]).map nv).toArray 26)) := (((Bs.nil).alloc (by rfl)).alloc (by simp only [World.size_alloc])).alloc (by simp only [World.size_alloc])
  go_enter Tryd.func5, Tryd.ntmps5
  go_upto_region 1 with (fail)
  generalize (((w.alloc (.cells ((limsL [p.1, p.2]).map nv).toArray 26)).alloc (.cells ((limsL [q.1, q.2]).map nv).toArray 26)).alloc (.cells ((limsL [r.1, r.2]).map nv).toArray 26)) = wv at *
  go_upto_region 2 with (first
    | (go_at_call 9
       with_reducible refine (AW.out _ (LK.out _ F0.below)).mono ?_
       rintro e w1 ⟨rfl, hb1⟩
       have F1 := Bs.stay _ _ F0 hb1)
    | fail)
  clear F0 hb1
  have hL3 := F1.getN (g := w.heap.size) (l := limsL [p.1, p.2]) (by repeat (first | exact List.mem_cons_self .. | refine List.mem_cons_of_mem _ ?_))
  have hL4 := F1.getN (g := w.heap.size + 1) (l := limsL [q.1, q.2]) (by repeat (first | exact List.mem_cons_self .. | refine List.mem_cons_of_mem _ ?_))
  go_upto_region 3 with (first
    | (with_reducible refine wpList_load_pt rfl 26 (.tmp 3) rfl (w.heap.size) rfl (limsL [p.1, p.2]) 8 hL3 rfl Tryd.underlying26 Tryd.infoPt ?_)
    | (with_reducible refine wpList_load_pt rfl 26 (.tmp 4) rfl (w.heap.size + 1) rfl (limsL [q.1, q.2]) 8 hL4 rfl Tryd.underlying26 Tryd.infoPt ?_)
    | (go_at_call 12
       with_reducible refine (K1.out _ (LK.out _ F1.below)).mono ?_
       rintro e w2 ⟨rfl, hb2⟩
       have F2 := Bs.stay _ _ F1 hb2
       have F2a := Bs.stay _ _ F2 ((Below.refl _ w2).alloc (Nat.le_refl _) (.cells #[.int .u64 0, .int .u64 0, .int .u64 0, .int .u64 0, .int .u64 0, .int .u64 0, .int .u64 0, .int .u64 0] 26))
       have z2 := pt_new6 w2)
    | (with_reducible refine wpList_store_n rfl 26 (.tmp 8) (.tmp 13) rfl w2.heap.size (limsL [s.1, s.2]) 8 rfl rfl rfl (limsL [0, 0]) (by with_unfolding_all exact z2) Tryd.infoPt rfl w.heap.size w (by with_unfolding_all exact F2a.below) F2.below.size ?_
       intro w3 H3 o3 s3 b3
       have F3 := Bs.add (by with_unfolding_all exact F2a) F2.len H3 o3 b3
       clear s3)
    | fail)
  have hg2 := F2.len
  clear hL3 hL4 hb2 F1 F2a z2 o3 H3 b3 F2
  generalize w2.heap.size = g8 at *
  refine wp_region_lex 20 (fun _ => false) (fun _ _ _ => True) (Bs w (g8 + 1) [(g8, 26, ((limsL [s.1, s.2]).map nv).toArray), (w.heap.size + 1 + 1, 26, ((limsL [r.1, r.2]).map nv).toArray), (w.heap.size + 1, 26, ((limsL [q.1, q.2]).map nv).toArray), (w.heap.size, 26, ((limsL [p.1, p.2]).map nv).toArray)]) (by kernel_rfl) (by kernel_rfl) F3.drew Bs.stay (fun _ _ _ _ _ _ => trivial) lex_none ?_
  simp only [List.take_succ_cons, List.take_zero, List.drop_succ_cons, List.drop_zero]
  refine lexW_value (v := ?_) (by rfl) (by rfl) (fun W hW => ?_) ?_
  rotate_left
  · have l1 := run_ldP (hW.getN (g := g8) (l := limsL [s.1, s.2]) (by repeat (first | exact List.mem_cons_self .. | refine List.mem_cons_of_mem _ ?_))); go_simp <;> with_reducible rfl
  simp only [Act.put, List.setIfInBounds_toArray, List.set_cons_zero, List.set_cons_succ]
  refine' lexW_call (by rfl) (by rfl) (fun W hW => ?_) (fun W hW => ?_) ?_
  rotate_left 3
  · go_simp <;> first | with_reducible rfl | exact ⟨rfl, rfl⟩
  · with_reducible exact K2.out W (LK.out _ hW.below)
  simp only [Act.put, List.setIfInBounds_toArray, List.set_cons_zero, List.set_cons_succ]
  refine lexW_value (v := ?_) (by rfl) (by rfl) (fun W hW => ?_) ?_
  rotate_left
  · skip; go_simp <;> with_reducible rfl
  simp only [Act.put, List.setIfInBounds_toArray, List.set_cons_zero, List.set_cons_succ]
  refine lexW_value (v := ?_) (by rfl) (by rfl) (fun W hW => ?_) ?_
  rotate_left
  · have l1 := run_ldP (hW.getN (g := g8) (l := limsL [s.1, s.2]) (by repeat (first | exact List.mem_cons_self .. | refine List.mem_cons_of_mem _ ?_))); go_simp <;> with_reducible rfl
  simp only [Act.put, List.setIfInBounds_toArray, List.set_cons_zero, List.set_cons_succ]
  refine lexW_value (v := ?_) (by rfl) (by rfl) (fun W hW => ?_) ?_
  rotate_left
  · have l1 := run_ldP (hW.getN (g := w.heap.size + 1) (l := limsL [q.1, q.2]) (by repeat (first | exact List.mem_cons_self .. | refine List.mem_cons_of_mem _ ?_))); go_simp <;> with_reducible rfl
  simp only [Act.put, List.setIfInBounds_toArray, List.set_cons_zero, List.set_cons_succ]
  refine lexW_value (v := ?_) (by rfl) (by rfl) (fun W hW => ?_) ?_
  rotate_left
  · have l1 := run_ldP (hW.getN (g := w.heap.size) (l := limsL [p.1, p.2]) (by repeat (first | exact List.mem_cons_self .. | refine List.mem_cons_of_mem _ ?_))); go_simp <;> with_reducible rfl
  simp only [Act.put, List.setIfInBounds_toArray, List.set_cons_zero, List.set_cons_succ]
  refine' lexW_call (by rfl) (by rfl) (fun W hW => ?_) (fun W hW => ?_) ?_
  rotate_left 3
  · go_simp <;> first | with_reducible rfl | exact ⟨rfl, rfl⟩
  · with_reducible exact K3.out W (LK.out _ hW.below)
  simp only [Act.put, List.setIfInBounds_toArray, List.set_cons_zero, List.set_cons_succ]
  refine lexW_value (v := ?_) (by rfl) (by rfl) (fun W hW => ?_) ?_
  rotate_left
  · skip; go_simp <;> with_reducible rfl
  simp only [Act.put, List.setIfInBounds_toArray, List.set_cons_zero, List.set_cons_succ]
  refine lexW_value (v := ?_) (by rfl) (by rfl) (fun W hW => ?_) ?_
  rotate_left
  · skip; go_simp <;> with_reducible rfl
  simp only [Act.put, List.setIfInBounds_toArray, List.set_cons_zero, List.set_cons_succ]
  refine lexW_value (v := ?_) (by rfl) (by rfl) (fun W hW => ?_) ?_
  rotate_left
  · skip; go_simp <;> with_reducible rfl
  simp only [Act.put, List.setIfInBounds_toArray, List.set_cons_zero, List.set_cons_succ]
  refine lexW_value (v := ?_) (by rfl) (by rfl) (fun W hW => ?_) ?_
  rotate_left
  · have l1 := run_ldP (hW.getN (g := g8) (l := limsL [s.1, s.2]) (by repeat (first | exact List.mem_cons_self .. | refine List.mem_cons_of_mem _ ?_))); go_simp <;> with_reducible rfl
  simp only [Act.put, List.setIfInBounds_toArray, List.set_cons_zero, List.set_cons_succ]
  refine lexW_value (v := ?_) (by rfl) (by rfl) (fun W hW => ?_) ?_
  rotate_left
  · have l1 := run_ldP (hW.getN (g := w.heap.size + 1 + 1) (l := limsL [r.1, r.2]) (by repeat (first | exact List.mem_cons_self .. | refine List.mem_cons_of_mem _ ?_))); go_simp <;> with_reducible rfl
  simp only [Act.put, List.setIfInBounds_toArray, List.set_cons_zero, List.set_cons_succ]
  refine' lexW_call (by rfl) (by rfl) (fun W hW => ?_) (fun W hW => ?_) ?_
  rotate_left 3
  · go_simp <;> first | with_reducible rfl | exact ⟨rfl, rfl⟩
  · with_reducible exact K4.out W (LK.out _ hW.below)
  simp only [Act.put, List.setIfInBounds_toArray, List.set_cons_zero, List.set_cons_succ]
  refine lexW_value (v := ?_) (by rfl) (by rfl) (fun W hW => ?_) ?_
  rotate_left
  · have l1 := run_ldP (hW.getN (g := w.heap.size) (l := limsL [p.1, p.2]) (by repeat (first | exact List.mem_cons_self .. | refine List.mem_cons_of_mem _ ?_))); go_simp <;> with_reducible rfl
  simp only [Act.put, List.setIfInBounds_toArray, List.set_cons_zero, List.set_cons_succ]
  refine lexW_value (v := ?_) (by rfl) (by rfl) (fun W hW => ?_) ?_
  rotate_left
  · have l1 := run_ldP (hW.getN (g := w.heap.size + 1) (l := limsL [q.1, q.2]) (by repeat (first | exact List.mem_cons_self .. | refine List.mem_cons_of_mem _ ?_))); go_simp <;> with_reducible rfl
  simp only [Act.put, List.setIfInBounds_toArray, List.set_cons_zero, List.set_cons_succ]
  refine lexW_value (v := ?_) (by rfl) (by rfl) (fun W hW => ?_) ?_
  rotate_left
  · have l1 := run_ldP (hW.getN (g := w.heap.size + 1 + 1) (l := limsL [r.1, r.2]) (by repeat (first | exact List.mem_cons_self .. | refine List.mem_cons_of_mem _ ?_))); go_simp <;> with_reducible rfl
  simp only [Act.put, List.setIfInBounds_toArray, List.set_cons_zero, List.set_cons_succ]
  refine' lexW_call (by rfl) (by rfl) (fun W hW => ?_) (fun W hW => ?_) ?_
  rotate_left 3
  · go_simp <;> first | with_reducible rfl | exact ⟨rfl, rfl⟩
  · with_reducible exact K5.out W (LK.out _ hW.below)
  simp only [Act.put, List.setIfInBounds_toArray, List.set_cons_zero, List.set_cons_succ]
  refine' lexW_call (by rfl) (by rfl) (fun W hW => ?_) (fun W hW => ?_) ?_
  rotate_left 3
  · go_simp <;> first | with_reducible rfl | exact ⟨rfl, rfl⟩
  · with_reducible exact K6.out W (LK.out _ hW.below)
  simp only [Act.put, List.setIfInBounds_toArray, List.set_cons_zero, List.set_cons_succ]
  refine lexW_value (v := ?_) (by rfl) (by rfl) (fun W hW => ?_) ?_
  rotate_left
  · skip; go_simp <;> with_reducible rfl
  simp only [Act.put, List.setIfInBounds_toArray, List.set_cons_zero, List.set_cons_succ]
  refine lexW_value (v := ?_) (by rfl) (by rfl) (fun W hW => ?_) ?_
  rotate_left
  · skip; go_simp <;> with_reducible rfl
  simp only [Act.put, List.setIfInBounds_toArray, List.set_cons_zero, List.set_cons_succ]
  refine lexW_nil (fun b4 W4 F4 E4 => ?_)
  obtain rfl := lexEnd_none E4
  go_upto_region 4 with (fail)
  refine wp_region_lex 19 (fun _ => false) (fun _ _ _ => True) (Bs w (g8 + 1) [(g8, 26, ((limsL [s.1, s.2]).map nv).toArray), (w.heap.size + 1 + 1, 26, ((limsL [r.1, r.2]).map nv).toArray), (w.heap.size + 1, 26, ((limsL [q.1, q.2]).map nv).toArray), (w.heap.size, 26, ((limsL [p.1, p.2]).map nv).toArray)]) (by kernel_rfl) (by kernel_rfl) F4.drew Bs.stay (fun _ _ _ _ _ _ => trivial) lex_none ?_
  simp only [List.take_succ_cons, List.take_zero, List.drop_succ_cons, List.drop_zero]
  refine lexW_value (v := ?_) (by rfl) (by rfl) (fun W hW => ?_) ?_
  rotate_left
  · skip; go_simp <;> with_reducible rfl
  simp only [Act.put, List.setIfInBounds_toArray, List.set_cons_zero, List.set_cons_succ]
  refine lexW_value (v := ?_) (by rfl) (by rfl) (fun W hW => ?_) ?_
  rotate_left
  · skip; go_simp <;> with_reducible rfl
  simp only [Act.put, List.setIfInBounds_toArray, List.set_cons_zero, List.set_cons_succ]
  refine lexW_value (v := ?_) (by rfl) (by rfl) (fun W hW => ?_) ?_
  rotate_left
  · skip; go_simp <;> with_reducible rfl
  simp only [Act.put, List.setIfInBounds_toArray, List.set_cons_zero, List.set_cons_succ]
  refine lexW_value (v := ?_) (by rfl) (by rfl) (fun W hW => ?_) ?_
  rotate_left
  · skip; go_simp <;> with_reducible rfl
  simp only [Act.put, List.setIfInBounds_toArray, List.set_cons_zero, List.set_cons_succ]
  refine lexW_value (v := ?_) (by rfl) (by rfl) (fun W hW => ?_) ?_
  rotate_left
  · skip; go_simp <;> with_reducible rfl
  simp only [Act.put, List.setIfInBounds_toArray, List.set_cons_zero, List.set_cons_succ]
  refine lexW_value (v := ?_) (by rfl) (by rfl) (fun W hW => ?_) ?_
  rotate_left
  · have l1 := run_ldP (hW.getN (g := w.heap.size) (l := limsL [p.1, p.2]) (by repeat (first | exact List.mem_cons_self .. | refine List.mem_cons_of_mem _ ?_))); go_simp <;> with_reducible rfl
  simp only [Act.put, List.setIfInBounds_toArray, List.set_cons_zero, List.set_cons_succ]
  refine lexW_value (v := ?_) (by rfl) (by rfl) (fun W hW => ?_) ?_
  rotate_left
  · have l1 := run_ldP (hW.getN (g := w.heap.size) (l := limsL [p.1, p.2]) (by repeat (first | exact List.mem_cons_self .. | refine List.mem_cons_of_mem _ ?_))); go_simp <;> with_reducible rfl
  simp only [Act.put, List.setIfInBounds_toArray, List.set_cons_zero, List.set_cons_succ]
  refine' lexW_call (by rfl) (by rfl) (fun W hW => ?_) (fun W hW => ?_) ?_
  rotate_left 3
  · go_simp <;> first | with_reducible rfl | exact ⟨rfl, rfl⟩
  · with_reducible exact K7.out W (LK.out _ hW.below)
  simp only [Act.put, List.setIfInBounds_toArray, List.set_cons_zero, List.set_cons_succ]
  refine' lexW_call (by rfl) (by rfl) (fun W hW => ?_) (fun W hW => ?_) ?_
  rotate_left 3
  · go_simp <;> first | with_reducible rfl | exact ⟨rfl, rfl⟩
  · with_reducible exact K8.out W (LK.out _ hW.below)
  simp only [Act.put, List.setIfInBounds_toArray, List.set_cons_zero, List.set_cons_succ]
  refine' lexW_call (by rfl) (by rfl) (fun W hW => ?_) (fun W hW => ?_) ?_
  rotate_left 3
  · go_simp <;> first | with_reducible rfl | exact ⟨rfl, rfl⟩
  · with_reducible exact K9.out W (LK.out _ hW.below)
  simp only [Act.put, List.setIfInBounds_toArray, List.set_cons_zero, List.set_cons_succ]
  refine lexW_value (v := ?_) (by rfl) (by rfl) (fun W hW => ?_) ?_
  rotate_left
  · skip; go_simp <;> with_reducible rfl
  simp only [Act.put, List.setIfInBounds_toArray, List.set_cons_zero, List.set_cons_succ]
  refine lexW_value (v := ?_) (by rfl) (by rfl) (fun W hW => ?_) ?_
  rotate_left
  · skip; go_simp <;> with_reducible rfl
  simp only [Act.put, List.setIfInBounds_toArray, List.set_cons_zero, List.set_cons_succ]
  refine lexW_value (v := ?_) (by rfl) (by rfl) (fun W hW => ?_) ?_
  rotate_left
  · skip; go_simp <;> with_reducible rfl
  simp only [Act.put, List.setIfInBounds_toArray, List.set_cons_zero, List.set_cons_succ]
  refine lexW_value (v := ?_) (by rfl) (by rfl) (fun W hW => ?_) ?_
  rotate_left
  · have l1 := run_ldP (hW.getN (g := w.heap.size) (l := limsL [p.1, p.2]) (by repeat (first | exact List.mem_cons_self .. | refine List.mem_cons_of_mem _ ?_))); go_simp <;> with_reducible rfl
  simp only [Act.put, List.setIfInBounds_toArray, List.set_cons_zero, List.set_cons_succ]
  refine' lexW_call (by rfl) (by rfl) (fun W hW => ?_) (fun W hW => ?_) ?_
  rotate_left 3
  · go_simp <;> first | with_reducible rfl | exact ⟨rfl, rfl⟩
  · with_reducible exact K9.out W (LK.out _ hW.below)
  simp only [Act.put, List.setIfInBounds_toArray, List.set_cons_zero, List.set_cons_succ]
  refine' lexW_call (by rfl) (by rfl) (fun W hW => ?_) (fun W hW => ?_) ?_
  rotate_left 3
  · go_simp <;> first | with_reducible rfl | exact ⟨rfl, rfl⟩
  · with_reducible exact K10.out W (LK.out _ hW.below)
  simp only [Act.put, List.setIfInBounds_toArray, List.set_cons_zero, List.set_cons_succ]
  refine lexW_value (v := ?_) (by rfl) (by rfl) (fun W hW => ?_) ?_
  rotate_left
  · have l1 := run_ldP (hW.getN (g := w.heap.size) (l := limsL [p.1, p.2]) (by repeat (first | exact List.mem_cons_self .. | refine List.mem_cons_of_mem _ ?_))); go_simp <;> with_reducible rfl
  simp only [Act.put, List.setIfInBounds_toArray, List.set_cons_zero, List.set_cons_succ]
  refine' lexW_call (by rfl) (by rfl) (fun W hW => ?_) (fun W hW => ?_) ?_
  rotate_left 3
  · go_simp <;> first | with_reducible rfl | exact ⟨rfl, rfl⟩
  · with_reducible exact K11.out W (LK.out _ hW.below)
  simp only [Act.put, List.setIfInBounds_toArray, List.set_cons_zero, List.set_cons_succ]
  refine lexW_value (v := ?_) (by rfl) (by rfl) (fun W hW => ?_) ?_
  rotate_left
  · skip; go_simp <;> with_reducible rfl
  simp only [Act.put, List.setIfInBounds_toArray, List.set_cons_zero, List.set_cons_succ]
  refine lexW_nil (fun b5 W5 F5 E5 => ?_)
  obtain rfl := lexEnd_none E5
  go_wp2
  go_ret
  exact ⟨rfl, F5.below⟩
end
end Crv
end Go.Proofs.YthaheekjmofgnaaDoor
