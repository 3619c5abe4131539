/-
  What the laws of layer 6 share: the program's functions said of points.
  The statements' head, walked.
-/
import Derived.Test.YthaheekjmofgnaaDoorMan
import Derived.Test.YthaheekjmofgnaaDoorMaz
namespace Go.Proofs.YthaheekjmofgnaaDoor
open Go.RowKit
namespace Crv
theorem base_q (w : World) (L : Laid w) : Calls Tryd.prog 23 #[] w (Gave w (nums pbase)) := (Base_any w L).mono fun _ _ => gaveP_base
theorem zero_q (w : World) (L : Laid w) : Calls Tryd.prog 22 #[] w (Gave w (nums Pt.none)) := (Zero_any w L).mono fun _ _ => gaveP_none
theorem check_q (s : Nat × Nat) (w : World) (hs : ok s) (L : Laid w) : Calls Tryd.prog 10 #[.agg ((limsL [s.1, s.2]).map nv).toArray] w fun e w' => e = .returned (.bool (decide (On (toF s.1, toF s.2)))) ∧ Below w.heap.size w w' := Check_any s.1 s.2 w hs.1 hs.2 L
theorem same_q (s t : Nat × Nat) (w : World) (hs : ok s) (ht : ok t) (L : Laid w) : Calls Tryd.prog 16 #[.agg ((limsL [s.1, s.2]).map nv).toArray, .agg ((limsL [t.1, t.2]).map nv).toArray] w fun e w' => e = .returned (.bool (decide (pt s = pt t))) ∧ Below w.heap.size w w' := by
  have h := Same_any s.1 s.2 t.1 t.2 w hs.1 hs.2 ht.1 ht.2 L
  rw [decide_eq_decide.2 (same_iff s t)] at h
  exact h
theorem add_q (s t : Nat × Nat) (w : World) (hs : ok s) (ht : ok t) (L : Laid w) : Calls Tryd.prog 12 #[.agg ((limsL [s.1, s.2]).map nv).toArray, .agg ((limsL [t.1, t.2]).map nv).toArray] w (Gave w (nums ((pt s).plus (pt t)))) := (Add_any s.1 s.2 t.1 t.2 w hs.1 hs.2 ht.1 ht.2 L).mono fun _ _ h => gave_of (p := (pt s).plus (pt t)) h
theorem neg_q (s : Nat × Nat) (w : World) (hs : ok s) (L : Laid w) : Calls Tryd.prog 14 #[.agg ((limsL [s.1, s.2]).map nv).toArray] w (Gave w (nums (pt s).opp)) := (Neg_any s.1 s.2 w hs.1 hs.2 L).mono fun _ _ h => gave_of (p := (pt s).opp) h
theorem mul_q (k : Nat) (s : Nat × Nat) (w : World) (hk : k < big) (hs : ok s) (L : Laid w) : Calls Tryd.prog 18 #[.agg ((lims k).map nv).toArray, .agg ((limsL [s.1, s.2]).map nv).toArray] w (Gave w (nums (Pt.times (toS k).val (pt s)))) := (Mul_any k s.1 s.2 w hk hs.1 hs.2 L).mono fun _ _ h => gave_of (p := Pt.times (toS k).val (pt s)) h
theorem clear_q (s : Nat × Nat) (w : World) (hs : ok s) (L : Laid w) : Calls Tryd.prog 20 #[.agg ((limsL [s.1, s.2]).map nv).toArray] w (Gave w (nums (Pt.times 8 (pt s)))) := (Clear_any s.1 s.2 w hs.1 hs.2 L).mono fun _ _ h => by
  rw [← pt_val, clear_eq] at h
  exact gave_of h
theorem sadd_q (a b : Nat) (w : World) (ha : a < big) (hb : b < big) (L : Laid w) : Calls Tryd.prog 24 #[.agg ((lims a).map nv).toArray, .agg ((lims b).map nv).toArray] w fun e w' => e = .returned (.agg ((lims (toS a + toS b).val).map nv).toArray) ∧ Below w.heap.size w w' := SAdd_any a b w ha hb L
theorem smul_q (a b : Nat) (w : World) (ha : a < big) (hb : b < big) (L : Laid w) : Calls Tryd.prog 25 #[.agg ((lims a).map nv).toArray, .agg ((lims b).map nv).toArray] w fun e w' => e = .returned (.agg ((lims (toS a * toS b).val).map nv).toArray) ∧ Below w.heap.size w w' := SMul_any a b w ha hb L
theorem sneg_q (a : Nat) (w : World) (ha : a < big) (L : Laid w) : Calls Tryd.prog 27 #[.agg ((lims a).map nv).toArray] w fun e w' => e = .returned (.agg ((lims (-toS a).val).map nv).toArray) ∧ Below w.heap.size w w' := SNeg_any a w ha L
theorem fsame_q (a b : Nat) (w : World) (ha : a < big) (hb : b < big) (L : Laid w) : Calls Tryd.prog 26 #[.agg ((lims a).map nv).toArray, .agg ((lims b).map nv).toArray] w fun e w' => e = .returned (.bool (decide (toF a = toF b))) ∧ Below w.heap.size w w' := FSame_any a b w ha hb L

end Crv
end Go.Proofs.YthaheekjmofgnaaDoor

namespace Go.Proofs.YthaheekjmofgnaaDoor
open Go.RowKit
namespace Crv

section
attribute [local go_sem ↓] load_pt load_s6

set_option maxRecDepth 100000 in
set_option maxHeartbeats 8000000 in
theorem awake_any (w : World) (L0 : Laid w) :
    Calls Tryd.prog 9 #[] w fun e w' => e = .returned (.bool true) ∧ Below w.heap.size w w' := by
  have hsz0 := L0.size
  have LK : Hid (∀ W, Below w.heap.size w W → Laid W) := Lib.hid fun W hb => L0.keep hb hsz0
  obtain ⟨bP, d_b⟩ : ∃ zz : Pt, zz = pbase := ⟨_, rfl⟩
  obtain ⟨b, n_b⟩ : ∃ zz : Nat × Nat, zz = nums bP := ⟨_, rfl⟩
  have ok_b : ok b := by rw [n_b]; exact nums_ok _
  have q_b : pt b = bP := by rw [n_b]; exact pt_nums _
  obtain ⟨zP, d_z⟩ : ∃ zz : Pt, zz = Pt.none := ⟨_, rfl⟩
  obtain ⟨z, n_z⟩ : ∃ zz : Nat × Nat, zz = nums zP := ⟨_, rfl⟩
  have ok_z : ok z := by rw [n_z]; exact nums_ok _
  have q_z : pt z = zP := by rw [n_z]; exact pt_nums _
  obtain ⟨nP, d_n⟩ : ∃ zz : Pt, zz = bP.opp := ⟨_, rfl⟩
  obtain ⟨n, n_n⟩ : ∃ zz : Nat × Nat, zz = nums nP := ⟨_, rfl⟩
  have ok_n : ok n := by rw [n_n]; exact nums_ok _
  have q_n : pt n = nP := by rw [n_n]; exact pt_nums _
  obtain ⟨dP, d_d⟩ : ∃ zz : Pt, zz = bP.plus bP := ⟨_, rfl⟩
  obtain ⟨d, n_d⟩ : ∃ zz : Nat × Nat, zz = nums dP := ⟨_, rfl⟩
  have ok_d : ok d := by rw [n_d]; exact nums_ok _
  have q_d : pt d = dP := by rw [n_d]; exact pt_nums _
  obtain ⟨oP, d_o⟩ : ∃ zz : Pt, zz = Pt.times 8 bP := ⟨_, rfl⟩
  obtain ⟨o, n_o⟩ : ∃ zz : Nat × Nat, zz = nums oP := ⟨_, rfl⟩
  have ok_o : ok o := by rw [n_o]; exact nums_ok _
  have q_o : pt o = oP := by rw [n_o]; exact pt_nums _
  obtain ⟨s_n, d_s_n⟩ : ∃ zz : Nat, zz = (-toS 1).val := ⟨_, rfl⟩
  have hs_n : s_n < big := by rw [d_s_n]; exact Sn.lt_big _
  have K1 : Hid (∀ W, Laid W → Calls Tryd.prog 23 #[] W fun e w' => e = .returned (.agg ((limsL [b.1, b.2]).map nv).toArray) ∧ Below W.heap.size W w') := Lib.hid fun W L => by
    have h := base_q W  L
    rw [show nums pbase = b from (by rw [n_b, d_b])] at h
    exact h
  have K2 : Hid (∀ W, Calls Tryd.prog 28 #[] W fun e w' => e = .returned (.agg ((limsL [b.1, b.2]).map nv).toArray) ∧ Below W.heap.size W w') := Lib.hid fun W => by
    have h := rbase_q W 
    rw [show nums pbase = b from (by rw [n_b, d_b])] at h
    exact h
  have K3 : Hid (∀ W, Laid W → Calls Tryd.prog 22 #[] W fun e w' => e = .returned (.agg ((limsL [z.1, z.2]).map nv).toArray) ∧ Below W.heap.size W w') := Lib.hid fun W L => by
    have h := zero_q W  L
    rw [show nums Pt.none = z from (by rw [n_z, d_z])] at h
    exact h
  have K4 : Hid (∀ W, Calls Tryd.prog 29 #[] W fun e w' => e = .returned (.agg ((limsL [z.1, z.2]).map nv).toArray) ∧ Below W.heap.size W w') := Lib.hid fun W => by
    have h := rzero_q W 
    rw [show nums Pt.none = z from (by rw [n_z, d_z])] at h
    exact h
  have K5 : Hid (∀ W, Laid W → Calls Tryd.prog 10 #[.agg ((limsL [b.1, b.2]).map nv).toArray] W fun e w' => e = .returned (.bool true) ∧ Below W.heap.size W w') := Lib.hid fun W L => by
    have h := check_q b W ok_b L
    rw [show decide (On (toF b.1, toF b.2)) = true from (by rw [n_b]; exact on_nums _)] at h
    exact h
  have K6 : Hid (∀ W, Laid W → Calls Tryd.prog 10 #[.agg #[.int .u64 0, .int .u64 0, .int .u64 0, .int .u64 0, .int .u64 0, .int .u64 0, .int .u64 0, .int .u64 0]] W fun e w' => e = .returned (.bool false) ∧ Below W.heap.size W w') := Lib.hid fun W L => by
    have h := check_q (((0, 0) : Nat × Nat)) W ⟨by decide, by decide⟩ L
    rw [show decide (On (toF ((0, 0) : Nat × Nat).1, toF ((0, 0) : Nat × Nat).2)) = false from not_on_zero] at h
    rw [← litP0] at h
    exact h
  have K7 : Hid (∀ W, Laid W → Calls Tryd.prog 14 #[.agg ((limsL [b.1, b.2]).map nv).toArray] W fun e w' => e = .returned (.agg ((limsL [n.1, n.2]).map nv).toArray) ∧ Below W.heap.size W w') := Lib.hid fun W L => by
    have h := neg_q b W ok_b L
    rw [show nums (pt b).opp = n from (by rw [q_b, n_n]; exact congrArg nums (d_n.symm))] at h
    exact h
  have K8 : Hid (∀ W, Laid W → Calls Tryd.prog 12 #[.agg ((limsL [b.1, b.2]).map nv).toArray, .agg ((limsL [n.1, n.2]).map nv).toArray] W fun e w' => e = .returned (.agg ((limsL [z.1, z.2]).map nv).toArray) ∧ Below W.heap.size W w') := Lib.hid fun W L => by
    have h := add_q b n W ok_b ok_n L
    rw [show nums ((pt b).plus (pt n)) = z from (by rw [q_b, q_n, n_z]; exact congrArg nums (by rw [d_n, d_z, Pt.plus_opp]))] at h
    exact h
  have K9 : Hid (∀ W, Laid W → Calls Tryd.prog 18 #[.agg #[.int .u64 2, .int .u64 0, .int .u64 0, .int .u64 0], .agg ((limsL [b.1, b.2]).map nv).toArray] W fun e w' => e = .returned (.agg ((limsL [d.1, d.2]).map nv).toArray) ∧ Below W.heap.size W w') := Lib.hid fun W L => by
    have h := mul_q 2 b W (by decide) ok_b L
    rw [show nums (Pt.times (toS 2).val (pt b)) = d from (by rw [q_b, n_d]; exact congrArg nums (by rw [toS_small (by decide), d_d, show 2 = 1 + 1 by rfl, Pt.times_add, Pt.times_one]))] at h
    rw [← litS2] at h
    exact h
  have K10 : Hid (∀ W, Laid W → Calls Tryd.prog 12 #[.agg ((limsL [b.1, b.2]).map nv).toArray, .agg ((limsL [b.1, b.2]).map nv).toArray] W fun e w' => e = .returned (.agg ((limsL [d.1, d.2]).map nv).toArray) ∧ Below W.heap.size W w') := Lib.hid fun W L => by
    have h := add_q b b W ok_b ok_b L
    rw [show nums ((pt b).plus (pt b)) = d from (by rw [q_b, n_d]; exact congrArg nums (d_d.symm))] at h
    exact h
  have K11 : Hid (∀ W, Laid W → Calls Tryd.prog 27 #[.agg #[.int .u64 1, .int .u64 0, .int .u64 0, .int .u64 0]] W fun e w' => e = .returned (.agg ((lims s_n).map nv).toArray) ∧ Below W.heap.size W w') := Lib.hid fun W L => by
    have h := sneg_q 1 W (by decide) L
    rw [show (-toS 1).val = s_n from d_s_n.symm] at h
    rw [← litS1] at h
    exact h
  have K12 : Hid (∀ W, Laid W → Calls Tryd.prog 18 #[.agg ((lims s_n).map nv).toArray, .agg ((limsL [b.1, b.2]).map nv).toArray] W fun e w' => e = .returned (.agg ((limsL [n.1, n.2]).map nv).toArray) ∧ Below W.heap.size W w') := Lib.hid fun W L => by
    have h := mul_q s_n b W hs_n ok_b L
    rw [show nums (Pt.times (toS s_n).val (pt b)) = n from (by rw [q_b, n_n]; exact congrArg nums (by rw [d_s_n, toS_of, d_n, d_b]; exact neg_one_times _ base_order))] at h
    exact h
  have K13 : Hid (∀ W, Laid W → Calls Tryd.prog 20 #[.agg ((limsL [b.1, b.2]).map nv).toArray] W fun e w' => e = .returned (.agg ((limsL [o.1, o.2]).map nv).toArray) ∧ Below W.heap.size W w') := Lib.hid fun W L => by
    have h := clear_q b W ok_b L
    rw [show nums (Pt.times 8 (pt b)) = o from (by rw [q_b, n_o]; exact congrArg nums (d_o.symm))] at h
    exact h
  have K14 : Hid (∀ W, Laid W → Calls Tryd.prog 18 #[.agg #[.int .u64 8, .int .u64 0, .int .u64 0, .int .u64 0], .agg ((limsL [b.1, b.2]).map nv).toArray] W fun e w' => e = .returned (.agg ((limsL [o.1, o.2]).map nv).toArray) ∧ Below W.heap.size W w') := Lib.hid fun W L => by
    have h := mul_q 8 b W (by decide) ok_b L
    rw [show nums (Pt.times (toS 8).val (pt b)) = o from (by rw [q_b, n_o]; exact congrArg nums (by rw [toS_small (by decide), d_o]))] at h
    rw [← litS8] at h
    exact h
  have K15 : Hid (∀ W, Laid W → Calls Tryd.prog 16 #[.agg #[.int .u64 0, .int .u64 0, .int .u64 0, .int .u64 0, .int .u64 0, .int .u64 0, .int .u64 0, .int .u64 0], .agg ((limsL [z.1, z.2]).map nv).toArray] W fun e w' => e = .returned (.bool true) ∧ Below W.heap.size W w') := Lib.hid fun W L => by
    have h := same_q (((0, 0) : Nat × Nat)) z W ⟨by decide, by decide⟩ ok_z L
    rw [show decide (pt ((0, 0) : Nat × Nat) = pt z) = true from (by rw [pt_zero, q_z, d_z]; exact decide_eq_true rfl)] at h
    rw [← litP0] at h
    exact h
  have K16 : Hid (∀ W, Laid W → Calls Tryd.prog 16 #[.agg ((limsL [b.1, b.2]).map nv).toArray, .agg ((limsL [z.1, z.2]).map nv).toArray] W fun e w' => e = .returned (.bool false) ∧ Below W.heap.size W w') := Lib.hid fun W L => by
    have h := same_q b z W ok_b ok_z L
    rw [show decide (pt b = pt z) = false from (by rw [q_b, q_z, d_b, d_z]; exact decide_eq_false base_ne)] at h
    exact h
  have eq_b := fun W => eql_pp b ok_b W
  have eq_d := fun W => eql_pp d ok_d W
  have eq_n := fun W => eql_pp n ok_n W
  have eq_o := fun W => eql_pp o ok_o W
  have eq_z := fun W => eql_pp z ok_z W
  have gf := fun x y c d W => run_guard_pt x y c d W
  clear L0 hsz0 d_b n_b ok_b q_b d_z n_z ok_z q_z d_n n_n ok_n q_n d_d n_d ok_d q_d d_o n_o ok_o q_o d_s_n hs_n
  have F0 : Bs w w.heap.size [] w := Bs.nil
  go_enter Tryd.func9, Tryd.ntmps9
  go_upto_region 1 with (fail)
  go_upto_region 2 with (first
    | (go_at_call 23
       with_reducible refine (K1.out _ (LK.out _ F0.below)).mono ?_
       rintro e w1 ⟨rfl, hb1⟩
       have F1 := Bs.stay _ _ F0 hb1
       have F1a := Bs.stay _ _ F1 ((Below.refl _ w1).alloc (Nat.le_refl _) (.cells #[.int .u64 0, .int .u64 0, .int .u64 0, .int .u64 0, .int .u64 0, .int .u64 0, .int .u64 0, .int .u64 0] 26))
       have z1 := pt_new6 w1)
    | (with_reducible refine wpList_store_n rfl 26 (.tmp 1) (.tmp 2) rfl w1.heap.size (limsL [b.1, b.2]) 8 rfl rfl rfl (limsL [0, 0]) (by with_unfolding_all exact z1) Tryd.infoPt rfl w.heap.size w (by with_unfolding_all exact F1a.below) F1.below.size ?_
       intro w2 H2 o2 s2 b2
       have F2 := Bs.add (by with_unfolding_all exact F1a) F1.len H2 o2 b2
       clear s2)
    | fail)
  have hg1 := F1.len
  clear hb1 F0 F1a z1 o2 H2 b2 F1
  generalize w1.heap.size = g1 at *
  refine wp_region_lex 62 (fun _ => false) (fun _ _ _ => True) (Bs w (g1 + 1) [(g1, 26, ((limsL [b.1, b.2]).map nv).toArray)]) (by kernel_rfl) (by kernel_rfl) F2.drew Bs.stay (fun _ _ _ _ _ _ => trivial) lex_none ?_
  simp only [List.take_succ_cons, List.take_zero, List.drop_succ_cons, List.drop_zero]
  refine lexW_value (v := ?_) (by rfl) (by rfl) (fun W hW => ?_) ?_
  rotate_left
  · have l1 := run_ldP (hW.getN (g := g1) (l := limsL [b.1, b.2]) (by repeat (first | exact List.mem_cons_self .. | refine List.mem_cons_of_mem _ ?_))); go_simp <;> with_reducible rfl
  simp only [Act.put, List.setIfInBounds_toArray, List.set_cons_zero, List.set_cons_succ]
  refine' lexW_call (by rfl) (by rfl) (fun W hW => ?_) (fun W hW => ?_) ?_
  rotate_left 3
  · go_simp <;> first | with_reducible rfl | exact ⟨rfl, rfl⟩
  · with_reducible exact K2.out W
  simp only [Act.put, List.setIfInBounds_toArray, List.set_cons_zero, List.set_cons_succ]
  refine lexW_value (v := ?_) (by rfl) (by rfl) (fun W hW => ?_) ?_
  rotate_left
  · skip; go_simp <;> with_reducible rfl
  simp only [Act.put, List.setIfInBounds_toArray, List.set_cons_zero, List.set_cons_succ]
  refine lexW_value (v := ?_) (by rfl) (by rfl) (fun W hW => ?_) ?_
  rotate_left
  · skip; go_simp <;> with_reducible rfl
  simp only [Act.put, List.setIfInBounds_toArray, List.set_cons_zero, List.set_cons_succ]
  refine' lexW_call (by rfl) (by rfl) (fun W hW => ?_) (fun W hW => ?_) ?_
  rotate_left 3
  · go_simp <;> first | with_reducible rfl | exact ⟨rfl, rfl⟩
  · with_reducible exact K3.out W (LK.out _ hW.below)
  simp only [Act.put, List.setIfInBounds_toArray, List.set_cons_zero, List.set_cons_succ]
  refine' lexW_call (by rfl) (by rfl) (fun W hW => ?_) (fun W hW => ?_) ?_
  rotate_left 3
  · go_simp <;> first | with_reducible rfl | exact ⟨rfl, rfl⟩
  · with_reducible exact K4.out W
  simp only [Act.put, List.setIfInBounds_toArray, List.set_cons_zero, List.set_cons_succ]
  refine lexW_value (v := ?_) (by rfl) (by rfl) (fun W hW => ?_) ?_
  rotate_left
  · skip; go_simp <;> with_reducible rfl
  simp only [Act.put, List.setIfInBounds_toArray, List.set_cons_zero, List.set_cons_succ]
  refine lexW_value (v := ?_) (by rfl) (by rfl) (fun W hW => ?_) ?_
  rotate_left
  · skip; go_simp <;> with_reducible rfl
  simp only [Act.put, List.setIfInBounds_toArray, List.set_cons_zero, List.set_cons_succ]
  refine lexW_value (v := ?_) (by rfl) (by rfl) (fun W hW => ?_) ?_
  rotate_left
  · skip; go_simp <;> with_reducible rfl
  simp only [Act.put, List.setIfInBounds_toArray, List.set_cons_zero, List.set_cons_succ]
  refine lexW_value (v := ?_) (by rfl) (by rfl) (fun W hW => ?_) ?_
  rotate_left
  · have l1 := run_ldP (hW.getN (g := g1) (l := limsL [b.1, b.2]) (by repeat (first | exact List.mem_cons_self .. | refine List.mem_cons_of_mem _ ?_))); go_simp <;> with_reducible rfl
  simp only [Act.put, List.setIfInBounds_toArray, List.set_cons_zero, List.set_cons_succ]
  refine' lexW_call (by rfl) (by rfl) (fun W hW => ?_) (fun W hW => ?_) ?_
  rotate_left 3
  · go_simp <;> first | with_reducible rfl | exact ⟨rfl, rfl⟩
  · with_reducible exact K5.out W (LK.out _ hW.below)
  simp only [Act.put, List.setIfInBounds_toArray, List.set_cons_zero, List.set_cons_succ]
  refine lexW_value (v := ?_) (by rfl) (by rfl) (fun W hW => ?_) ?_
  rotate_left
  · skip; go_simp <;> with_reducible rfl
  simp only [Act.put, List.setIfInBounds_toArray, List.set_cons_zero, List.set_cons_succ]
  refine lexW_value (v := ?_) (by rfl) (by rfl) (fun W hW => ?_) ?_
  rotate_left
  · skip; go_simp <;> with_reducible rfl
  simp only [Act.put, List.setIfInBounds_toArray, List.set_cons_zero, List.set_cons_succ]
  refine lexW_value (v := ?_) (by rfl) (by rfl) (fun W hW => ?_) ?_
  rotate_left
  · skip; go_simp <;> with_reducible rfl
  simp only [Act.put, List.setIfInBounds_toArray, List.set_cons_zero, List.set_cons_succ]
  refine' lexW_call (by rfl) (by rfl) (fun W hW => ?_) (fun W hW => ?_) ?_
  rotate_left 3
  · go_simp <;> first | with_reducible rfl | exact ⟨rfl, rfl⟩
  · with_reducible exact K6.out W (LK.out _ hW.below)
  simp only [Act.put, List.setIfInBounds_toArray, List.set_cons_zero, List.set_cons_succ]
  refine lexW_value (v := ?_) (by rfl) (by rfl) (fun W hW => ?_) ?_
  rotate_left
  · skip; go_simp <;> with_reducible rfl
  simp only [Act.put, List.setIfInBounds_toArray, List.set_cons_zero, List.set_cons_succ]
  refine lexW_value (v := ?_) (by rfl) (by rfl) (fun W hW => ?_) ?_
  rotate_left
  · skip; go_simp <;> with_reducible rfl
  simp only [Act.put, List.setIfInBounds_toArray, List.set_cons_zero, List.set_cons_succ]
  refine lexW_value (v := ?_) (by rfl) (by rfl) (fun W hW => ?_) ?_
  rotate_left
  · skip; go_simp <;> with_reducible rfl
  simp only [Act.put, List.setIfInBounds_toArray, List.set_cons_zero, List.set_cons_succ]
  refine lexW_value (v := ?_) (by rfl) (by rfl) (fun W hW => ?_) ?_
  rotate_left
  · have l1 := run_ldP (hW.getN (g := g1) (l := limsL [b.1, b.2]) (by repeat (first | exact List.mem_cons_self .. | refine List.mem_cons_of_mem _ ?_))); go_simp <;> with_reducible rfl
  simp only [Act.put, List.setIfInBounds_toArray, List.set_cons_zero, List.set_cons_succ]
  refine lexW_value (v := ?_) (by rfl) (by rfl) (fun W hW => ?_) ?_
  rotate_left
  · have l1 := run_ldP (hW.getN (g := g1) (l := limsL [b.1, b.2]) (by repeat (first | exact List.mem_cons_self .. | refine List.mem_cons_of_mem _ ?_))); go_simp <;> with_reducible rfl
  simp only [Act.put, List.setIfInBounds_toArray, List.set_cons_zero, List.set_cons_succ]
  refine' lexW_call (by rfl) (by rfl) (fun W hW => ?_) (fun W hW => ?_) ?_
  rotate_left 3
  · go_simp <;> first | with_reducible rfl | exact ⟨rfl, rfl⟩
  · with_reducible exact K7.out W (LK.out _ hW.below)
  simp only [Act.put, List.setIfInBounds_toArray, List.set_cons_zero, List.set_cons_succ]
  refine' lexW_call (by rfl) (by rfl) (fun W hW => ?_) (fun W hW => ?_) ?_
  rotate_left 3
  · go_simp <;> first | with_reducible rfl | exact ⟨rfl, rfl⟩
  · with_reducible exact K8.out W (LK.out _ hW.below)
  simp only [Act.put, List.setIfInBounds_toArray, List.set_cons_zero, List.set_cons_succ]
  refine' lexW_call (by rfl) (by rfl) (fun W hW => ?_) (fun W hW => ?_) ?_
  rotate_left 3
  · go_simp <;> first | with_reducible rfl | exact ⟨rfl, rfl⟩
  · with_reducible exact K3.out W (LK.out _ hW.below)
  simp only [Act.put, List.setIfInBounds_toArray, List.set_cons_zero, List.set_cons_succ]
  refine lexW_value (v := ?_) (by rfl) (by rfl) (fun W hW => ?_) ?_
  rotate_left
  · skip; go_simp <;> with_reducible rfl
  simp only [Act.put, List.setIfInBounds_toArray, List.set_cons_zero, List.set_cons_succ]
  refine lexW_value (v := ?_) (by rfl) (by rfl) (fun W hW => ?_) ?_
  rotate_left
  · skip; go_simp <;> with_reducible rfl
  simp only [Act.put, List.setIfInBounds_toArray, List.set_cons_zero, List.set_cons_succ]
  refine lexW_value (v := ?_) (by rfl) (by rfl) (fun W hW => ?_) ?_
  rotate_left
  · skip; go_simp <;> with_reducible rfl
  simp only [Act.put, List.setIfInBounds_toArray, List.set_cons_zero, List.set_cons_succ]
  refine lexW_value (v := ?_) (by rfl) (by rfl) (fun W hW => ?_) ?_
  rotate_left
  · skip; go_simp <;> with_reducible rfl
  simp only [Act.put, List.setIfInBounds_toArray, List.set_cons_zero, List.set_cons_succ]
  refine lexW_value (v := ?_) (by rfl) (by rfl) (fun W hW => ?_) ?_
  rotate_left
  · have l1 := run_ldP (hW.getN (g := g1) (l := limsL [b.1, b.2]) (by repeat (first | exact List.mem_cons_self .. | refine List.mem_cons_of_mem _ ?_))); go_simp <;> with_reducible rfl
  simp only [Act.put, List.setIfInBounds_toArray, List.set_cons_zero, List.set_cons_succ]
  refine' lexW_call (by rfl) (by rfl) (fun W hW => ?_) (fun W hW => ?_) ?_
  rotate_left 3
  · go_simp <;> first | with_reducible rfl | exact ⟨rfl, rfl⟩
  · with_reducible exact K9.out W (LK.out _ hW.below)
  simp only [Act.put, List.setIfInBounds_toArray, List.set_cons_zero, List.set_cons_succ]
  refine lexW_value (v := ?_) (by rfl) (by rfl) (fun W hW => ?_) ?_
  rotate_left
  · have l1 := run_ldP (hW.getN (g := g1) (l := limsL [b.1, b.2]) (by repeat (first | exact List.mem_cons_self .. | refine List.mem_cons_of_mem _ ?_))); go_simp <;> with_reducible rfl
  simp only [Act.put, List.setIfInBounds_toArray, List.set_cons_zero, List.set_cons_succ]
  refine lexW_value (v := ?_) (by rfl) (by rfl) (fun W hW => ?_) ?_
  rotate_left
  · have l1 := run_ldP (hW.getN (g := g1) (l := limsL [b.1, b.2]) (by repeat (first | exact List.mem_cons_self .. | refine List.mem_cons_of_mem _ ?_))); go_simp <;> with_reducible rfl
  simp only [Act.put, List.setIfInBounds_toArray, List.set_cons_zero, List.set_cons_succ]
  refine' lexW_call (by rfl) (by rfl) (fun W hW => ?_) (fun W hW => ?_) ?_
  rotate_left 3
  · go_simp <;> first | with_reducible rfl | exact ⟨rfl, rfl⟩
  · with_reducible exact K10.out W (LK.out _ hW.below)
  simp only [Act.put, List.setIfInBounds_toArray, List.set_cons_zero, List.set_cons_succ]
  refine lexW_value (v := ?_) (by rfl) (by rfl) (fun W hW => ?_) ?_
  rotate_left
  · skip; go_simp <;> with_reducible rfl
  simp only [Act.put, List.setIfInBounds_toArray, List.set_cons_zero, List.set_cons_succ]
  refine lexW_value (v := ?_) (by rfl) (by rfl) (fun W hW => ?_) ?_
  rotate_left
  · skip; go_simp <;> with_reducible rfl
  simp only [Act.put, List.setIfInBounds_toArray, List.set_cons_zero, List.set_cons_succ]
  refine lexW_value (v := ?_) (by rfl) (by rfl) (fun W hW => ?_) ?_
  rotate_left
  · skip; go_simp <;> with_reducible rfl
  simp only [Act.put, List.setIfInBounds_toArray, List.set_cons_zero, List.set_cons_succ]
  refine lexW_value (v := ?_) (by rfl) (by rfl) (fun W hW => ?_) ?_
  rotate_left
  · skip; go_simp <;> with_reducible rfl
  simp only [Act.put, List.setIfInBounds_toArray, List.set_cons_zero, List.set_cons_succ]
  refine' lexW_call (by rfl) (by rfl) (fun W hW => ?_) (fun W hW => ?_) ?_
  rotate_left 3
  · go_simp <;> first | with_reducible rfl | exact ⟨rfl, rfl⟩
  · with_reducible exact K11.out W (LK.out _ hW.below)
  simp only [Act.put, List.setIfInBounds_toArray, List.set_cons_zero, List.set_cons_succ]
  refine lexW_value (v := ?_) (by rfl) (by rfl) (fun W hW => ?_) ?_
  rotate_left
  · have l1 := run_ldP (hW.getN (g := g1) (l := limsL [b.1, b.2]) (by repeat (first | exact List.mem_cons_self .. | refine List.mem_cons_of_mem _ ?_))); go_simp <;> with_reducible rfl
  simp only [Act.put, List.setIfInBounds_toArray, List.set_cons_zero, List.set_cons_succ]
  refine' lexW_call (by rfl) (by rfl) (fun W hW => ?_) (fun W hW => ?_) ?_
  rotate_left 3
  · go_simp <;> first | with_reducible rfl | exact ⟨rfl, rfl⟩
  · with_reducible exact K12.out W (LK.out _ hW.below)
  simp only [Act.put, List.setIfInBounds_toArray, List.set_cons_zero, List.set_cons_succ]
  refine lexW_value (v := ?_) (by rfl) (by rfl) (fun W hW => ?_) ?_
  rotate_left
  · have l1 := run_ldP (hW.getN (g := g1) (l := limsL [b.1, b.2]) (by repeat (first | exact List.mem_cons_self .. | refine List.mem_cons_of_mem _ ?_))); go_simp <;> with_reducible rfl
  simp only [Act.put, List.setIfInBounds_toArray, List.set_cons_zero, List.set_cons_succ]
  refine' lexW_call (by rfl) (by rfl) (fun W hW => ?_) (fun W hW => ?_) ?_
  rotate_left 3
  · go_simp <;> first | with_reducible rfl | exact ⟨rfl, rfl⟩
  · with_reducible exact K7.out W (LK.out _ hW.below)
  simp only [Act.put, List.setIfInBounds_toArray, List.set_cons_zero, List.set_cons_succ]
  refine lexW_value (v := ?_) (by rfl) (by rfl) (fun W hW => ?_) ?_
  rotate_left
  · skip; go_simp <;> with_reducible rfl
  simp only [Act.put, List.setIfInBounds_toArray, List.set_cons_zero, List.set_cons_succ]
  refine lexW_value (v := ?_) (by rfl) (by rfl) (fun W hW => ?_) ?_
  rotate_left
  · skip; go_simp <;> with_reducible rfl
  simp only [Act.put, List.setIfInBounds_toArray, List.set_cons_zero, List.set_cons_succ]
  refine lexW_value (v := ?_) (by rfl) (by rfl) (fun W hW => ?_) ?_
  rotate_left
  · skip; go_simp <;> with_reducible rfl
  simp only [Act.put, List.setIfInBounds_toArray, List.set_cons_zero, List.set_cons_succ]
  refine lexW_value (v := ?_) (by rfl) (by rfl) (fun W hW => ?_) ?_
  rotate_left
  · have l1 := run_ldP (hW.getN (g := g1) (l := limsL [b.1, b.2]) (by repeat (first | exact List.mem_cons_self .. | refine List.mem_cons_of_mem _ ?_))); go_simp <;> with_reducible rfl
  simp only [Act.put, List.setIfInBounds_toArray, List.set_cons_zero, List.set_cons_succ]
  refine' lexW_call (by rfl) (by rfl) (fun W hW => ?_) (fun W hW => ?_) ?_
  rotate_left 3
  · go_simp <;> first | with_reducible rfl | exact ⟨rfl, rfl⟩
  · with_reducible exact K13.out W (LK.out _ hW.below)
  simp only [Act.put, List.setIfInBounds_toArray, List.set_cons_zero, List.set_cons_succ]
  refine lexW_value (v := ?_) (by rfl) (by rfl) (fun W hW => ?_) ?_
  rotate_left
  · skip; go_simp <;> with_reducible rfl
  simp only [Act.put, List.setIfInBounds_toArray, List.set_cons_zero, List.set_cons_succ]
  refine lexW_value (v := ?_) (by rfl) (by rfl) (fun W hW => ?_) ?_
  rotate_left
  · have l1 := run_ldP (hW.getN (g := g1) (l := limsL [b.1, b.2]) (by repeat (first | exact List.mem_cons_self .. | refine List.mem_cons_of_mem _ ?_))); go_simp <;> with_reducible rfl
  simp only [Act.put, List.setIfInBounds_toArray, List.set_cons_zero, List.set_cons_succ]
  refine' lexW_call (by rfl) (by rfl) (fun W hW => ?_) (fun W hW => ?_) ?_
  rotate_left 3
  · go_simp <;> first | with_reducible rfl | exact ⟨rfl, rfl⟩
  · with_reducible exact K14.out W (LK.out _ hW.below)
  simp only [Act.put, List.setIfInBounds_toArray, List.set_cons_zero, List.set_cons_succ]
  refine lexW_value (v := ?_) (by rfl) (by rfl) (fun W hW => ?_) ?_
  rotate_left
  · skip; go_simp <;> with_reducible rfl
  simp only [Act.put, List.setIfInBounds_toArray, List.set_cons_zero, List.set_cons_succ]
  refine lexW_value (v := ?_) (by rfl) (by rfl) (fun W hW => ?_) ?_
  rotate_left
  · skip; go_simp <;> with_reducible rfl
  simp only [Act.put, List.setIfInBounds_toArray, List.set_cons_zero, List.set_cons_succ]
  refine lexW_value (v := ?_) (by rfl) (by rfl) (fun W hW => ?_) ?_
  rotate_left
  · skip; go_simp <;> with_reducible rfl
  simp only [Act.put, List.setIfInBounds_toArray, List.set_cons_zero, List.set_cons_succ]
  refine lexW_value (v := ?_) (by rfl) (by rfl) (fun W hW => ?_) ?_
  rotate_left
  · skip; go_simp <;> with_reducible rfl
  simp only [Act.put, List.setIfInBounds_toArray, List.set_cons_zero, List.set_cons_succ]
  refine' lexW_call (by rfl) (by rfl) (fun W hW => ?_) (fun W hW => ?_) ?_
  rotate_left 3
  · go_simp <;> first | with_reducible rfl | exact ⟨rfl, rfl⟩
  · with_reducible exact K3.out W (LK.out _ hW.below)
  simp only [Act.put, List.setIfInBounds_toArray, List.set_cons_zero, List.set_cons_succ]
  refine' lexW_call (by rfl) (by rfl) (fun W hW => ?_) (fun W hW => ?_) ?_
  rotate_left 3
  · go_simp <;> first | with_reducible rfl | exact ⟨rfl, rfl⟩
  · with_reducible exact K15.out W (LK.out _ hW.below)
  simp only [Act.put, List.setIfInBounds_toArray, List.set_cons_zero, List.set_cons_succ]
  refine lexW_value (v := ?_) (by rfl) (by rfl) (fun W hW => ?_) ?_
  rotate_left
  · skip; go_simp <;> with_reducible rfl
  simp only [Act.put, List.setIfInBounds_toArray, List.set_cons_zero, List.set_cons_succ]
  refine lexW_value (v := ?_) (by rfl) (by rfl) (fun W hW => ?_) ?_
  rotate_left
  · skip; go_simp <;> with_reducible rfl
  simp only [Act.put, List.setIfInBounds_toArray, List.set_cons_zero, List.set_cons_succ]
  refine lexW_value (v := ?_) (by rfl) (by rfl) (fun W hW => ?_) ?_
  rotate_left
  · have l1 := run_ldP (hW.getN (g := g1) (l := limsL [b.1, b.2]) (by repeat (first | exact List.mem_cons_self .. | refine List.mem_cons_of_mem _ ?_))); go_simp <;> with_reducible rfl
  simp only [Act.put, List.setIfInBounds_toArray, List.set_cons_zero, List.set_cons_succ]
  refine' lexW_call (by rfl) (by rfl) (fun W hW => ?_) (fun W hW => ?_) ?_
  rotate_left 3
  · go_simp <;> first | with_reducible rfl | exact ⟨rfl, rfl⟩
  · with_reducible exact K3.out W (LK.out _ hW.below)
  simp only [Act.put, List.setIfInBounds_toArray, List.set_cons_zero, List.set_cons_succ]
  refine' lexW_call (by rfl) (by rfl) (fun W hW => ?_) (fun W hW => ?_) ?_
  rotate_left 3
  · go_simp <;> first | with_reducible rfl | exact ⟨rfl, rfl⟩
  · with_reducible exact K16.out W (LK.out _ hW.below)
  simp only [Act.put, List.setIfInBounds_toArray, List.set_cons_zero, List.set_cons_succ]
  refine lexW_value (v := ?_) (by rfl) (by rfl) (fun W hW => ?_) ?_
  rotate_left
  · skip; go_simp <;> with_reducible rfl
  simp only [Act.put, List.setIfInBounds_toArray, List.set_cons_zero, List.set_cons_succ]
  refine lexW_value (v := ?_) (by rfl) (by rfl) (fun W hW => ?_) ?_
  rotate_left
  · skip; go_simp <;> with_reducible rfl
  simp only [Act.put, List.setIfInBounds_toArray, List.set_cons_zero, List.set_cons_succ]
  refine lexW_nil (fun b3 W3 F3 E3 => ?_)
  obtain rfl := lexEnd_none E3
  go_wp2
  go_ret
  exact ⟨rfl, F3.below⟩
end
end Crv
end Go.Proofs.YthaheekjmofgnaaDoor
