/-
  CurveNegs: what is below none of a point so many times; eight of a point are of the great group. Whatever the numbers are.
-/
import Derived.Test.YthaheekjmofgnaaDoorMba
namespace Go.Proofs.YthaheekjmofgnaaDoor
open Go.RowKit
namespace Crv

section
attribute [local go_sem ↓] load_pt load_s6

set_option maxRecDepth 100000 in
set_option maxHeartbeats 8000000 in
theorem CurveNegs_any (p : Nat × Nat) (k : Nat) (w : World) (ok_p : ok p) (hk : k < big) (L0 : Laid w) :
    Calls Tryd.prog 8 #[.agg ((lims k).map nv).toArray, .agg ((limsL [p.1, p.2]).map nv).toArray] w fun e w' => e = .returned (.bool true) ∧ Below w.heap.size w w' := by
  have hsz0 := L0.size
  have LK : Hid (∀ W, Below w.heap.size w W → Laid W) := Lib.hid fun W hb => L0.keep hb hsz0
  have AW : Hid (∀ W, Laid W → Calls Tryd.prog 9 #[] W fun e w' => e = .returned (.bool true) ∧ Below W.heap.size W w') := Lib.hid fun W L => awake_any W L
  obtain ⟨pP, q_p⟩ : ∃ zz : Pt, pt p = zz := ⟨_, rfl⟩
  obtain ⟨nP, d_n⟩ : ∃ zz : Pt, zz = pP.opp := ⟨_, rfl⟩
  obtain ⟨n, n_n⟩ : ∃ zz : Nat × Nat, zz = nums nP := ⟨_, rfl⟩
  have ok_n : ok n := by rw [n_n]; exact nums_ok _
  have q_n : pt n = nP := by rw [n_n]; exact pt_nums _
  obtain ⟨cP, d_c⟩ : ∃ zz : Pt, zz = Pt.times 8 pP := ⟨_, rfl⟩
  obtain ⟨c, n_c⟩ : ∃ zz : Nat × Nat, zz = nums cP := ⟨_, rfl⟩
  have ok_c : ok c := by rw [n_c]; exact nums_ok _
  have q_c : pt c = cP := by rw [n_c]; exact pt_nums _
  obtain ⟨lP, d_l⟩ : ∃ zz : Pt, zz = cP.opp := ⟨_, rfl⟩
  obtain ⟨l, n_l⟩ : ∃ zz : Nat × Nat, zz = nums lP := ⟨_, rfl⟩
  have ok_l : ok l := by rw [n_l]; exact nums_ok _
  have q_l : pt l = lP := by rw [n_l]; exact pt_nums _
  obtain ⟨mP, d_m⟩ : ∃ zz : Pt, zz = Pt.times (toS k).val nP := ⟨_, rfl⟩
  obtain ⟨m, n_m⟩ : ∃ zz : Nat × Nat, zz = nums mP := ⟨_, rfl⟩
  have ok_m : ok m := by rw [n_m]; exact nums_ok _
  have q_m : pt m = mP := by rw [n_m]; exact pt_nums _
  obtain ⟨dP, d_d⟩ : ∃ zz : Pt, zz = Pt.times (toS k).val pP := ⟨_, rfl⟩
  obtain ⟨d, n_d⟩ : ∃ zz : Nat × Nat, zz = nums dP := ⟨_, rfl⟩
  have ok_d : ok d := by rw [n_d]; exact nums_ok _
  have q_d : pt d = dP := by rw [n_d]; exact pt_nums _
  obtain ⟨yP, d_y⟩ : ∃ zz : Pt, zz = pP := ⟨_, rfl⟩
  obtain ⟨y, n_y⟩ : ∃ zz : Nat × Nat, zz = nums yP := ⟨_, rfl⟩
  have ok_y : ok y := by rw [n_y]; exact nums_ok _
  have q_y : pt y = yP := by rw [n_y]; exact pt_nums _
  obtain ⟨zP, d_z⟩ : ∃ zz : Pt, zz = Pt.none := ⟨_, rfl⟩
  obtain ⟨z, n_z⟩ : ∃ zz : Nat × Nat, zz = nums zP := ⟨_, rfl⟩
  have ok_z : ok z := by rw [n_z]; exact nums_ok _
  have q_z : pt z = zP := by rw [n_z]; exact pt_nums _
  obtain ⟨s_n, d_s_n⟩ : ∃ zz : Nat, zz = (-toS 1).val := ⟨_, rfl⟩
  have hs_n : s_n < big := by rw [d_s_n]; exact Sn.lt_big _
  have hLL : Pt.times LL cP = Pt.none := by rw [d_c]; exact eight_order _
  have K1 : Hid (∀ W, Laid W → Calls Tryd.prog 14 #[.agg ((limsL [p.1, p.2]).map nv).toArray] W fun e w' => e = .returned (.agg ((limsL [n.1, n.2]).map nv).toArray) ∧ Below W.heap.size W w') := Lib.hid fun W L => by
    have h := neg_q p W ok_p L
    rw [show nums (pt p).opp = n from (by rw [q_p, n_n]; exact congrArg nums (d_n.symm))] at h
    exact h
  have K2 : Hid (∀ W, Laid W → Calls Tryd.prog 20 #[.agg ((limsL [p.1, p.2]).map nv).toArray] W fun e w' => e = .returned (.agg ((limsL [c.1, c.2]).map nv).toArray) ∧ Below W.heap.size W w') := Lib.hid fun W L => by
    have h := clear_q p W ok_p L
    rw [show nums (Pt.times 8 (pt p)) = c from (by rw [q_p, n_c]; exact congrArg nums (d_c.symm))] at h
    exact h
  have K3 : Hid (∀ W, Laid W → Calls Tryd.prog 27 #[.agg #[.int .u64 1, .int .u64 0, .int .u64 0, .int .u64 0]] W fun e w' => e = .returned (.agg ((lims s_n).map nv).toArray) ∧ Below W.heap.size W w') := Lib.hid fun W L => by
    have h := sneg_q 1 W (by decide) L
    rw [show (-toS 1).val = s_n from d_s_n.symm] at h
    rw [← litS1] at h
    exact h
  have K4 : Hid (∀ W, Laid W → Calls Tryd.prog 18 #[.agg ((lims s_n).map nv).toArray, .agg ((limsL [c.1, c.2]).map nv).toArray] W fun e w' => e = .returned (.agg ((limsL [l.1, l.2]).map nv).toArray) ∧ Below W.heap.size W w') := Lib.hid fun W L => by
    have h := mul_q s_n c W hs_n ok_c L
    rw [show nums (Pt.times (toS s_n).val (pt c)) = l from (by rw [q_c, n_l]; exact congrArg nums (by rw [d_s_n, toS_of, d_l]; exact neg_one_times _ hLL))] at h
    exact h
  have K5 : Hid (∀ W, Laid W → Calls Tryd.prog 18 #[.agg ((lims k).map nv).toArray, .agg ((limsL [n.1, n.2]).map nv).toArray] W fun e w' => e = .returned (.agg ((limsL [m.1, m.2]).map nv).toArray) ∧ Below W.heap.size W w') := Lib.hid fun W L => by
    have h := mul_q k n W hk ok_n L
    rw [show nums (Pt.times (toS k).val (pt n)) = m from (by rw [q_n, n_m]; exact congrArg nums (d_m.symm))] at h
    exact h
  have K6 : Hid (∀ W, Laid W → Calls Tryd.prog 18 #[.agg ((lims k).map nv).toArray, .agg ((limsL [p.1, p.2]).map nv).toArray] W fun e w' => e = .returned (.agg ((limsL [d.1, d.2]).map nv).toArray) ∧ Below W.heap.size W w') := Lib.hid fun W L => by
    have h := mul_q k p W hk ok_p L
    rw [show nums (Pt.times (toS k).val (pt p)) = d from (by rw [q_p, n_d]; exact congrArg nums (d_d.symm))] at h
    exact h
  have K7 : Hid (∀ W, Laid W → Calls Tryd.prog 14 #[.agg ((limsL [d.1, d.2]).map nv).toArray] W fun e w' => e = .returned (.agg ((limsL [m.1, m.2]).map nv).toArray) ∧ Below W.heap.size W w') := Lib.hid fun W L => by
    have h := neg_q d W ok_d L
    rw [show nums (pt d).opp = m from (by rw [q_d, n_m]; exact congrArg nums (by rw [d_m, d_n, d_d, Pt.times_opp]))] at h
    exact h
  have K8 : Hid (∀ W, Laid W → Calls Tryd.prog 14 #[.agg ((limsL [n.1, n.2]).map nv).toArray] W fun e w' => e = .returned (.agg ((limsL [y.1, y.2]).map nv).toArray) ∧ Below W.heap.size W w') := Lib.hid fun W L => by
    have h := neg_q n W ok_n L
    rw [show nums (pt n).opp = y from (by rw [q_n, n_y]; exact congrArg nums (by rw [d_n, d_y, Pt.opp_opp]))] at h
    exact h
  have K9 : Hid (∀ W, Laid W → Calls Tryd.prog 22 #[] W fun e w' => e = .returned (.agg ((limsL [z.1, z.2]).map nv).toArray) ∧ Below W.heap.size W w') := Lib.hid fun W L => by
    have h := zero_q W  L
    rw [show nums Pt.none = z from (by rw [n_z, d_z])] at h
    exact h
  have K10 : Hid (∀ W, Laid W → Calls Tryd.prog 12 #[.agg ((limsL [p.1, p.2]).map nv).toArray, .agg ((limsL [z.1, z.2]).map nv).toArray] W fun e w' => e = .returned (.agg ((limsL [y.1, y.2]).map nv).toArray) ∧ Below W.heap.size W w') := Lib.hid fun W L => by
    have h := add_q p z W ok_p ok_z L
    rw [show nums ((pt p).plus (pt z)) = y from (by rw [q_p, q_z, n_y]; exact congrArg nums (by rw [d_z, d_y, Pt.plus_none]))] at h
    exact h
  have K11 : Hid (∀ W, Laid W → Calls Tryd.prog 12 #[.agg ((limsL [l.1, l.2]).map nv).toArray, .agg ((limsL [c.1, c.2]).map nv).toArray] W fun e w' => e = .returned (.agg ((limsL [z.1, z.2]).map nv).toArray) ∧ Below W.heap.size W w') := Lib.hid fun W L => by
    have h := add_q l c W ok_l ok_c L
    rw [show nums ((pt l).plus (pt c)) = z from (by rw [q_l, q_c, n_z]; exact congrArg nums (by rw [d_l, d_z, Pt.plus_comm, Pt.plus_opp]))] at h
    exact h
  have K12 : Hid (∀ W, Laid W → Calls Tryd.prog 20 #[.agg ((limsL [n.1, n.2]).map nv).toArray] W fun e w' => e = .returned (.agg ((limsL [l.1, l.2]).map nv).toArray) ∧ Below W.heap.size W w') := Lib.hid fun W L => by
    have h := clear_q n W ok_n L
    rw [show nums (Pt.times 8 (pt n)) = l from (by rw [q_n, n_l]; exact congrArg nums (by rw [d_n, d_l, d_c, Pt.times_opp]))] at h
    exact h
  have K13 : Hid (∀ W, Laid W → Calls Tryd.prog 14 #[.agg ((limsL [c.1, c.2]).map nv).toArray] W fun e w' => e = .returned (.agg ((limsL [l.1, l.2]).map nv).toArray) ∧ Below W.heap.size W w') := Lib.hid fun W L => by
    have h := neg_q c W ok_c L
    rw [show nums (pt c).opp = l from (by rw [q_c, n_l]; exact congrArg nums (d_l.symm))] at h
    exact h
  have eq_l := fun W => eql_pp l ok_l W
  have eq_m := fun W => eql_pp m ok_m W
  have eq_y := fun W => eql_pp y ok_y W
  have eq_z := fun W => eql_pp z ok_z W
  have gf := fun x y c d W => run_guard_pt x y c d W
  clear L0 hsz0 q_p ok_p hk d_n n_n ok_n q_n d_c n_c ok_c q_c d_l n_l ok_l q_l d_m n_m ok_m q_m d_d n_d ok_d q_d d_y n_y ok_y q_y d_z n_z ok_z q_z d_s_n hs_n hLL
  have F0 : Bs w (w.heap.size + 1 + 1) [(w.heap.size + 1, 26, ((limsL [p.1, p.2]).map nv).toArray), (w.heap.size, 32, ((lims k).map nv).toArray)] ((w.alloc (.cells ((lims k).map nv).toArray 32)).alloc (.cells ((limsL [p.1, p.2]).map nv).toArray 26)) := ((Bs.nil).alloc (by rfl)).alloc (by simp only [World.size_alloc])
  go_enter Tryd.func8, Tryd.ntmps8
  go_upto_region 1 with (fail)
  generalize ((w.alloc (.cells ((lims k).map nv).toArray 32)).alloc (.cells ((limsL [p.1, p.2]).map nv).toArray 26)) = wv at *
  go_upto_region 2 with (first
    | (go_at_call 9
       with_reducible refine (AW.out _ (LK.out _ F0.below)).mono ?_
       rintro e w1 ⟨rfl, hb1⟩
       have F1 := Bs.stay _ _ F0 hb1)
    | fail)
  clear F0 hb1
  have hL3 := F1.getN (g := w.heap.size + 1) (l := limsL [p.1, p.2]) (by repeat (first | exact List.mem_cons_self .. | refine List.mem_cons_of_mem _ ?_))
  go_upto_region 3 with (first
    | (with_reducible refine wpList_load_pt rfl 26 (.tmp 3) rfl (w.heap.size + 1) rfl (limsL [p.1, p.2]) 8 hL3 rfl Tryd.underlying26 Tryd.infoPt ?_)
    | (go_at_call 14
       with_reducible refine (K1.out _ (LK.out _ F1.below)).mono ?_
       rintro e w2 ⟨rfl, hb2⟩
       have F2 := Bs.stay _ _ F1 hb2
       have F2a := Bs.stay _ _ F2 ((Below.refl _ w2).alloc (Nat.le_refl _) (.cells #[.int .u64 0, .int .u64 0, .int .u64 0, .int .u64 0, .int .u64 0, .int .u64 0, .int .u64 0, .int .u64 0] 26))
       have z2 := pt_new6 w2)
    | (with_reducible refine wpList_store_n rfl 26 (.tmp 6) (.tmp 11) rfl w2.heap.size (limsL [n.1, n.2]) 8 rfl rfl rfl (limsL [0, 0]) (by with_unfolding_all exact z2) Tryd.infoPt rfl w.heap.size w (by with_unfolding_all exact F2a.below) F2.below.size ?_
       intro w3 H3 o3 s3 b3
       have F3 := Bs.add (by with_unfolding_all exact F2a) F2.len H3 o3 b3
       clear s3)
    | fail)
  have hg2 := F2.len
  clear hL3 hb2 F1 F2a z2 o3 H3 b3 F2
  generalize w2.heap.size = g6 at *
  have hL3 := F3.getN (g := w.heap.size + 1) (l := limsL [p.1, p.2]) (by repeat (first | exact List.mem_cons_self .. | refine List.mem_cons_of_mem _ ?_))
  go_upto_region 4 with (first
    | (with_reducible refine wpList_load_pt rfl 26 (.tmp 3) rfl (w.heap.size + 1) rfl (limsL [p.1, p.2]) 8 hL3 rfl Tryd.underlying26 Tryd.infoPt ?_)
    | (go_at_call 20
       with_reducible refine (K2.out _ (LK.out _ F3.below)).mono ?_
       rintro e w4 ⟨rfl, hb4⟩
       have F4 := Bs.stay _ _ F3 hb4
       have F4a := Bs.stay _ _ F4 ((Below.refl _ w4).alloc (Nat.le_refl _) (.cells #[.int .u64 0, .int .u64 0, .int .u64 0, .int .u64 0, .int .u64 0, .int .u64 0, .int .u64 0, .int .u64 0] 26))
       have z4 := pt_new6 w4)
    | (with_reducible refine wpList_store_n rfl 26 (.tmp 7) (.tmp 13) rfl w4.heap.size (limsL [c.1, c.2]) 8 rfl rfl rfl (limsL [0, 0]) (by with_unfolding_all exact z4) Tryd.infoPt rfl w.heap.size w (by with_unfolding_all exact F4a.below) F4.below.size ?_
       intro w5 H5 o5 s5 b5
       have F5 := Bs.add (by with_unfolding_all exact F4a) F4.len H5 o5 b5
       clear s5)
    | fail)
  have hg4 := F4.len
  clear hL3 hb4 F3 F4a z4 o5 H5 b5 F4
  generalize w4.heap.size = g7 at *
  try dsimp only [Act.put]
  go_cut [8] (fun vp wx => ∃ g, vp = .pointer (some ⟨g, 0, none⟩) ∧ Bs w (g + 1) [(g, 26, ((limsL [l.1, l.2]).map nv).toArray), (g7, 26, ((limsL [c.1, c.2]).map nv).toArray), (g6, 26, ((limsL [n.1, n.2]).map nv).toArray), (w.heap.size + 1, 26, ((limsL [p.1, p.2]).map nv).toArray), (w.heap.size, 32, ((lims k).map nv).toArray)] wx)
  case first =>
    refine wp_region_lex 5 (fun k => k == 4) (MadeT 26 #[.int .u64 0, .int .u64 0, .int .u64 0, .int .u64 0, .int .u64 0, .int .u64 0, .int .u64 0, .int .u64 0] (g7 + 1)) (Bs w (g7 + 1) [(g7, 26, ((limsL [c.1, c.2]).map nv).toArray), (g6, 26, ((limsL [n.1, n.2]).map nv).toArray), (w.heap.size + 1, 26, ((limsL [p.1, p.2]).map nv).toArray), (w.heap.size, 32, ((lims k).map nv).toArray)]) (by kernel_rfl) (by kernel_rfl) F5.drew Bs.stay MadeT.stay (made_t run_alloc_pt Bs.size rfl) ?_
    simp only [List.take_succ_cons, List.take_zero, List.drop_succ_cons, List.drop_zero]
    refine lexW_value (v := ?_) (by rfl) (by rfl) (fun W hW => ?_) ?_
    rotate_left
    · skip; go_simp <;> with_reducible rfl
    simp only [Act.put, List.setIfInBounds_toArray, List.set_cons_zero, List.set_cons_succ]
    refine' lexW_call (by rfl) (by rfl) (fun W hW => ?_) (fun W hW => ?_) ?_
    rotate_left 3
    · go_simp <;> first | with_reducible rfl | exact ⟨rfl, rfl⟩
    · with_reducible exact K3.out W (LK.out _ hW.below)
    simp only [Act.put, List.setIfInBounds_toArray, List.set_cons_zero, List.set_cons_succ]
    refine lexW_value (v := ?_) (by rfl) (by rfl) (fun W hW => ?_) ?_
    rotate_left
    · have l1 := run_ldP (hW.getN (g := g7) (l := limsL [c.1, c.2]) (by repeat (first | exact List.mem_cons_self .. | refine List.mem_cons_of_mem _ ?_))); go_simp <;> with_reducible rfl
    simp only [Act.put, List.setIfInBounds_toArray, List.set_cons_zero, List.set_cons_succ]
    refine' lexW_call (by rfl) (by rfl) (fun W hW => ?_) (fun W hW => ?_) ?_
    rotate_left 3
    · go_simp <;> first | with_reducible rfl | exact ⟨rfl, rfl⟩
    · with_reducible exact K4.out W (LK.out _ hW.below)
    simp only [Act.put, List.setIfInBounds_toArray, List.set_cons_zero, List.set_cons_succ]
    refine lexW_free (by rfl) ?_
    refine lexW_nil (fun b8 W8 F8x E8 => ?_)
    obtain ⟨_, ⟨g, rfl, hg, hZ⟩, rfl⟩ := lexEnd_one (j := 4) (d := 8) (by kernel_rfl) E8
    have hp8 := F8x.pos
    have hZ : HoldsN W8 26 g (limsL [0, 0]) := by
      refine Eq.trans hZ ?_
      rw [litP0a]
    simp only [Act.put, List.setIfInBounds_toArray, List.set_cons_zero, List.set_cons_succ]
    go_wp2_with (with_reducible refine wpList_store_n rfl 26 (.tmp 8) (.tmp 17) rfl g (limsL [l.1, l.2]) 8 rfl rfl rfl (limsL [0, 0]) hZ Tryd.infoPt rfl w.heap.size w F8x.below (by omega) ?_; intro w9x H9 o9 _ b9)
    go_meet
    exact ⟨g, rfl, F8x.add hg H9 o9 b9⟩
  case rest =>
    obtain ⟨g8, rfl, F6⟩ := hcut
    have hg8x := F6.pos
    clear F5
    go_upto_region 5 with (fail)
    refine wp_region_lex 33 (fun _ => false) (fun _ _ _ => True) (Bs w (g8 + 1) [(g8, 26, ((limsL [l.1, l.2]).map nv).toArray), (g7, 26, ((limsL [c.1, c.2]).map nv).toArray), (g6, 26, ((limsL [n.1, n.2]).map nv).toArray), (w.heap.size + 1, 26, ((limsL [p.1, p.2]).map nv).toArray), (w.heap.size, 32, ((lims k).map nv).toArray)]) (by kernel_rfl) (by kernel_rfl) F6.drew Bs.stay (fun _ _ _ _ _ _ => trivial) lex_none ?_
    simp only [List.take_succ_cons, List.take_zero, List.drop_succ_cons, List.drop_zero]
    refine lexW_value (v := ?_) (by rfl) (by rfl) (fun W hW => ?_) ?_
    rotate_left
    · skip; go_simp <;> with_reducible rfl
    simp only [Act.put, List.setIfInBounds_toArray, List.set_cons_zero, List.set_cons_succ]
    refine lexW_value (v := ?_) (by rfl) (by rfl) (fun W hW => ?_) ?_
    rotate_left
    · skip; go_simp <;> with_reducible rfl
    simp only [Act.put, List.setIfInBounds_toArray, List.set_cons_zero, List.set_cons_succ]
    refine lexW_value (v := ?_) (by rfl) (by rfl) (fun W hW => ?_) ?_
    rotate_left
    · have l1 := run_ldS (hW.getN (g := w.heap.size) (l := lims k) (by repeat (first | exact List.mem_cons_self .. | refine List.mem_cons_of_mem _ ?_))); go_simp <;> with_reducible rfl
    simp only [Act.put, List.setIfInBounds_toArray, List.set_cons_zero, List.set_cons_succ]
    refine lexW_value (v := ?_) (by rfl) (by rfl) (fun W hW => ?_) ?_
    rotate_left
    · have l1 := run_ldP (hW.getN (g := g6) (l := limsL [n.1, n.2]) (by repeat (first | exact List.mem_cons_self .. | refine List.mem_cons_of_mem _ ?_))); go_simp <;> with_reducible rfl
    simp only [Act.put, List.setIfInBounds_toArray, List.set_cons_zero, List.set_cons_succ]
    refine' lexW_call (by rfl) (by rfl) (fun W hW => ?_) (fun W hW => ?_) ?_
    rotate_left 3
    · go_simp <;> first | with_reducible rfl | exact ⟨rfl, rfl⟩
    · with_reducible exact K5.out W (LK.out _ hW.below)
    simp only [Act.put, List.setIfInBounds_toArray, List.set_cons_zero, List.set_cons_succ]
    refine lexW_value (v := ?_) (by rfl) (by rfl) (fun W hW => ?_) ?_
    rotate_left
    · have l1 := run_ldS (hW.getN (g := w.heap.size) (l := lims k) (by repeat (first | exact List.mem_cons_self .. | refine List.mem_cons_of_mem _ ?_))); go_simp <;> with_reducible rfl
    simp only [Act.put, List.setIfInBounds_toArray, List.set_cons_zero, List.set_cons_succ]
    refine lexW_value (v := ?_) (by rfl) (by rfl) (fun W hW => ?_) ?_
    rotate_left
    · have l1 := run_ldP (hW.getN (g := w.heap.size + 1) (l := limsL [p.1, p.2]) (by repeat (first | exact List.mem_cons_self .. | refine List.mem_cons_of_mem _ ?_))); go_simp <;> with_reducible rfl
    simp only [Act.put, List.setIfInBounds_toArray, List.set_cons_zero, List.set_cons_succ]
    refine' lexW_call (by rfl) (by rfl) (fun W hW => ?_) (fun W hW => ?_) ?_
    rotate_left 3
    · go_simp <;> first | with_reducible rfl | exact ⟨rfl, rfl⟩
    · with_reducible exact K6.out W (LK.out _ hW.below)
    simp only [Act.put, List.setIfInBounds_toArray, List.set_cons_zero, List.set_cons_succ]
    refine' lexW_call (by rfl) (by rfl) (fun W hW => ?_) (fun W hW => ?_) ?_
    rotate_left 3
    · go_simp <;> first | with_reducible rfl | exact ⟨rfl, rfl⟩
    · with_reducible exact K7.out W (LK.out _ hW.below)
    simp only [Act.put, List.setIfInBounds_toArray, List.set_cons_zero, List.set_cons_succ]
    refine lexW_value (v := ?_) (by rfl) (by rfl) (fun W hW => ?_) ?_
    rotate_left
    · skip; go_simp <;> with_reducible rfl
    simp only [Act.put, List.setIfInBounds_toArray, List.set_cons_zero, List.set_cons_succ]
    refine lexW_value (v := ?_) (by rfl) (by rfl) (fun W hW => ?_) ?_
    rotate_left
    · skip; go_simp <;> with_reducible rfl
    simp only [Act.put, List.setIfInBounds_toArray, List.set_cons_zero, List.set_cons_succ]
    refine lexW_value (v := ?_) (by rfl) (by rfl) (fun W hW => ?_) ?_
    rotate_left
    · skip; go_simp <;> with_reducible rfl
    simp only [Act.put, List.setIfInBounds_toArray, List.set_cons_zero, List.set_cons_succ]
    refine lexW_value (v := ?_) (by rfl) (by rfl) (fun W hW => ?_) ?_
    rotate_left
    · have l1 := run_ldP (hW.getN (g := g6) (l := limsL [n.1, n.2]) (by repeat (first | exact List.mem_cons_self .. | refine List.mem_cons_of_mem _ ?_))); go_simp <;> with_reducible rfl
    simp only [Act.put, List.setIfInBounds_toArray, List.set_cons_zero, List.set_cons_succ]
    refine' lexW_call (by rfl) (by rfl) (fun W hW => ?_) (fun W hW => ?_) ?_
    rotate_left 3
    · go_simp <;> first | with_reducible rfl | exact ⟨rfl, rfl⟩
    · with_reducible exact K8.out W (LK.out _ hW.below)
    simp only [Act.put, List.setIfInBounds_toArray, List.set_cons_zero, List.set_cons_succ]
    refine lexW_value (v := ?_) (by rfl) (by rfl) (fun W hW => ?_) ?_
    rotate_left
    · have l1 := run_ldP (hW.getN (g := w.heap.size + 1) (l := limsL [p.1, p.2]) (by repeat (first | exact List.mem_cons_self .. | refine List.mem_cons_of_mem _ ?_))); go_simp <;> with_reducible rfl
    simp only [Act.put, List.setIfInBounds_toArray, List.set_cons_zero, List.set_cons_succ]
    refine' lexW_call (by rfl) (by rfl) (fun W hW => ?_) (fun W hW => ?_) ?_
    rotate_left 3
    · go_simp <;> first | with_reducible rfl | exact ⟨rfl, rfl⟩
    · with_reducible exact K9.out W (LK.out _ hW.below)
    simp only [Act.put, List.setIfInBounds_toArray, List.set_cons_zero, List.set_cons_succ]
    refine' lexW_call (by rfl) (by rfl) (fun W hW => ?_) (fun W hW => ?_) ?_
    rotate_left 3
    · go_simp <;> first | with_reducible rfl | exact ⟨rfl, rfl⟩
    · with_reducible exact K10.out W (LK.out _ hW.below)
    simp only [Act.put, List.setIfInBounds_toArray, List.set_cons_zero, List.set_cons_succ]
    refine lexW_value (v := ?_) (by rfl) (by rfl) (fun W hW => ?_) ?_
    rotate_left
    · skip; go_simp <;> with_reducible rfl
    simp only [Act.put, List.setIfInBounds_toArray, List.set_cons_zero, List.set_cons_succ]
    refine lexW_value (v := ?_) (by rfl) (by rfl) (fun W hW => ?_) ?_
    rotate_left
    · skip; go_simp <;> with_reducible rfl
    simp only [Act.put, List.setIfInBounds_toArray, List.set_cons_zero, List.set_cons_succ]
    refine lexW_value (v := ?_) (by rfl) (by rfl) (fun W hW => ?_) ?_
    rotate_left
    · skip; go_simp <;> with_reducible rfl
    simp only [Act.put, List.setIfInBounds_toArray, List.set_cons_zero, List.set_cons_succ]
    refine lexW_value (v := ?_) (by rfl) (by rfl) (fun W hW => ?_) ?_
    rotate_left
    · have l1 := run_ldP (hW.getN (g := g8) (l := limsL [l.1, l.2]) (by repeat (first | exact List.mem_cons_self .. | refine List.mem_cons_of_mem _ ?_))); go_simp <;> with_reducible rfl
    simp only [Act.put, List.setIfInBounds_toArray, List.set_cons_zero, List.set_cons_succ]
    refine lexW_value (v := ?_) (by rfl) (by rfl) (fun W hW => ?_) ?_
    rotate_left
    · have l1 := run_ldP (hW.getN (g := g7) (l := limsL [c.1, c.2]) (by repeat (first | exact List.mem_cons_self .. | refine List.mem_cons_of_mem _ ?_))); go_simp <;> with_reducible rfl
    simp only [Act.put, List.setIfInBounds_toArray, List.set_cons_zero, List.set_cons_succ]
    refine' lexW_call (by rfl) (by rfl) (fun W hW => ?_) (fun W hW => ?_) ?_
    rotate_left 3
    · go_simp <;> first | with_reducible rfl | exact ⟨rfl, rfl⟩
    · with_reducible exact K11.out W (LK.out _ hW.below)
    simp only [Act.put, List.setIfInBounds_toArray, List.set_cons_zero, List.set_cons_succ]
    refine' lexW_call (by rfl) (by rfl) (fun W hW => ?_) (fun W hW => ?_) ?_
    rotate_left 3
    · go_simp <;> first | with_reducible rfl | exact ⟨rfl, rfl⟩
    · with_reducible exact K9.out W (LK.out _ hW.below)
    simp only [Act.put, List.setIfInBounds_toArray, List.set_cons_zero, List.set_cons_succ]
    refine lexW_value (v := ?_) (by rfl) (by rfl) (fun W hW => ?_) ?_
    rotate_left
    · skip; go_simp <;> with_reducible rfl
    simp only [Act.put, List.setIfInBounds_toArray, List.set_cons_zero, List.set_cons_succ]
    refine lexW_value (v := ?_) (by rfl) (by rfl) (fun W hW => ?_) ?_
    rotate_left
    · skip; go_simp <;> with_reducible rfl
    simp only [Act.put, List.setIfInBounds_toArray, List.set_cons_zero, List.set_cons_succ]
    refine lexW_value (v := ?_) (by rfl) (by rfl) (fun W hW => ?_) ?_
    rotate_left
    · skip; go_simp <;> with_reducible rfl
    simp only [Act.put, List.setIfInBounds_toArray, List.set_cons_zero, List.set_cons_succ]
    refine lexW_value (v := ?_) (by rfl) (by rfl) (fun W hW => ?_) ?_
    rotate_left
    · have l1 := run_ldP (hW.getN (g := g6) (l := limsL [n.1, n.2]) (by repeat (first | exact List.mem_cons_self .. | refine List.mem_cons_of_mem _ ?_))); go_simp <;> with_reducible rfl
    simp only [Act.put, List.setIfInBounds_toArray, List.set_cons_zero, List.set_cons_succ]
    refine' lexW_call (by rfl) (by rfl) (fun W hW => ?_) (fun W hW => ?_) ?_
    rotate_left 3
    · go_simp <;> first | with_reducible rfl | exact ⟨rfl, rfl⟩
    · with_reducible exact K12.out W (LK.out _ hW.below)
    simp only [Act.put, List.setIfInBounds_toArray, List.set_cons_zero, List.set_cons_succ]
    refine lexW_value (v := ?_) (by rfl) (by rfl) (fun W hW => ?_) ?_
    rotate_left
    · have l1 := run_ldP (hW.getN (g := g7) (l := limsL [c.1, c.2]) (by repeat (first | exact List.mem_cons_self .. | refine List.mem_cons_of_mem _ ?_))); go_simp <;> with_reducible rfl
    simp only [Act.put, List.setIfInBounds_toArray, List.set_cons_zero, List.set_cons_succ]
    refine' lexW_call (by rfl) (by rfl) (fun W hW => ?_) (fun W hW => ?_) ?_
    rotate_left 3
    · go_simp <;> first | with_reducible rfl | exact ⟨rfl, rfl⟩
    · with_reducible exact K13.out W (LK.out _ hW.below)
    simp only [Act.put, List.setIfInBounds_toArray, List.set_cons_zero, List.set_cons_succ]
    refine lexW_value (v := ?_) (by rfl) (by rfl) (fun W hW => ?_) ?_
    rotate_left
    · skip; go_simp <;> with_reducible rfl
    simp only [Act.put, List.setIfInBounds_toArray, List.set_cons_zero, List.set_cons_succ]
    refine lexW_value (v := ?_) (by rfl) (by rfl) (fun W hW => ?_) ?_
    rotate_left
    · skip; go_simp <;> with_reducible rfl
    simp only [Act.put, List.setIfInBounds_toArray, List.set_cons_zero, List.set_cons_succ]
    refine lexW_nil (fun b7 W7 F7 E7 => ?_)
    obtain rfl := lexEnd_none E7
    go_wp2
    go_ret
    exact ⟨rfl, F7.below⟩
end
end Crv
end Go.Proofs.YthaheekjmofgnaaDoor
