/-
  CurveSums: a point of the great group times sums, and products; products of sums of points. Whatever the numbers are.
-/
import Derived.Test.YthaheekjmofgnaaDoorMba
namespace Go.Proofs.YthaheekjmofgnaaDoor
open Go.RowKit
namespace Crv

section
attribute [local go_sem ↓] load_pt load_s6

set_option maxRecDepth 100000 in
set_option maxHeartbeats 8000000 in
theorem CurveSums_any (a : Nat) (b : Nat) (c : Nat) (w : World) (ha : a < big) (hb : b < big) (hc : c < big) (L0 : Laid w) :
    Calls Tryd.prog 6 #[.agg ((lims a).map nv).toArray, .agg ((lims b).map nv).toArray, .agg ((lims c).map nv).toArray] w fun e w' => e = .returned (.bool true) ∧ Below w.heap.size w w' := by
  have hsz0 := L0.size
  have LK : Hid (∀ W, Below w.heap.size w W → Laid W) := Lib.hid fun W hb => L0.keep hb hsz0
  have AW : Hid (∀ W, Laid W → Calls Tryd.prog 9 #[] W fun e w' => e = .returned (.bool true) ∧ Below W.heap.size W w') := Lib.hid fun W L => awake_any W L
  obtain ⟨gP, d_g⟩ : ∃ zz : Pt, zz = pbase := ⟨_, rfl⟩
  obtain ⟨g, n_g⟩ : ∃ zz : Nat × Nat, zz = nums gP := ⟨_, rfl⟩
  have ok_g : ok g := by rw [n_g]; exact nums_ok _
  have q_g : pt g = gP := by rw [n_g]; exact pt_nums _
  obtain ⟨pP, d_p⟩ : ∃ zz : Pt, zz = Pt.times (toS c).val gP := ⟨_, rfl⟩
  obtain ⟨p, n_p⟩ : ∃ zz : Nat × Nat, zz = nums pP := ⟨_, rfl⟩
  have ok_p : ok p := by rw [n_p]; exact nums_ok _
  have q_p : pt p = pP := by rw [n_p]; exact pt_nums _
  obtain ⟨xP, d_x⟩ : ∃ zz : Pt, zz = Pt.times (toS a).val pP := ⟨_, rfl⟩
  obtain ⟨x, n_x⟩ : ∃ zz : Nat × Nat, zz = nums xP := ⟨_, rfl⟩
  have ok_x : ok x := by rw [n_x]; exact nums_ok _
  have q_x : pt x = xP := by rw [n_x]; exact pt_nums _
  obtain ⟨yP, d_y⟩ : ∃ zz : Pt, zz = Pt.times (toS b).val pP := ⟨_, rfl⟩
  obtain ⟨y, n_y⟩ : ∃ zz : Nat × Nat, zz = nums yP := ⟨_, rfl⟩
  have ok_y : ok y := by rw [n_y]; exact nums_ok _
  have q_y : pt y = yP := by rw [n_y]; exact pt_nums _
  obtain ⟨uP, d_u⟩ : ∃ zz : Pt, zz = xP.plus yP := ⟨_, rfl⟩
  obtain ⟨u, n_u⟩ : ∃ zz : Nat × Nat, zz = nums uP := ⟨_, rfl⟩
  have ok_u : ok u := by rw [n_u]; exact nums_ok _
  have q_u : pt u = uP := by rw [n_u]; exact pt_nums _
  obtain ⟨vP, d_v⟩ : ∃ zz : Pt, zz = Pt.times (toS a).val yP := ⟨_, rfl⟩
  obtain ⟨v, n_v⟩ : ∃ zz : Nat × Nat, zz = nums vP := ⟨_, rfl⟩
  have ok_v : ok v := by rw [n_v]; exact nums_ok _
  have q_v : pt v = vP := by rw [n_v]; exact pt_nums _
  obtain ⟨oP, d_o⟩ : ∃ zz : Pt, zz = pP.plus gP := ⟨_, rfl⟩
  obtain ⟨o, n_o⟩ : ∃ zz : Nat × Nat, zz = nums oP := ⟨_, rfl⟩
  have ok_o : ok o := by rw [n_o]; exact nums_ok _
  have q_o : pt o = oP := by rw [n_o]; exact pt_nums _
  obtain ⟨dP, d_d⟩ : ∃ zz : Pt, zz = Pt.times (toS a).val gP := ⟨_, rfl⟩
  obtain ⟨d, n_d⟩ : ∃ zz : Nat × Nat, zz = nums dP := ⟨_, rfl⟩
  have ok_d : ok d := by rw [n_d]; exact nums_ok _
  have q_d : pt d = dP := by rw [n_d]; exact pt_nums _
  obtain ⟨fP, d_f⟩ : ∃ zz : Pt, zz = Pt.times (toS a).val oP := ⟨_, rfl⟩
  obtain ⟨f, n_f⟩ : ∃ zz : Nat × Nat, zz = nums fP := ⟨_, rfl⟩
  have ok_f : ok f := by rw [n_f]; exact nums_ok _
  have q_f : pt f = fP := by rw [n_f]; exact pt_nums _
  obtain ⟨s_s, d_s_s⟩ : ∃ zz : Nat, zz = (toS a + toS b).val := ⟨_, rfl⟩
  have hs_s : s_s < big := by rw [d_s_s]; exact Sn.lt_big _
  obtain ⟨s_m, d_s_m⟩ : ∃ zz : Nat, zz = (toS a * toS b).val := ⟨_, rfl⟩
  have hs_m : s_m < big := by rw [d_s_m]; exact Sn.lt_big _
  have hLL : Pt.times LL pP = Pt.none := by rw [d_p, d_g]; exact times_LL_times base_order _
  have K1 : Hid (∀ W, Laid W → Calls Tryd.prog 23 #[] W fun e w' => e = .returned (.agg ((limsL [g.1, g.2]).map nv).toArray) ∧ Below W.heap.size W w') := Lib.hid fun W L => by
    have h := base_q W  L
    rw [show nums pbase = g from (by rw [n_g, d_g])] at h
    exact h
  have K2 : Hid (∀ W, Laid W → Calls Tryd.prog 18 #[.agg ((lims c).map nv).toArray, .agg ((limsL [g.1, g.2]).map nv).toArray] W fun e w' => e = .returned (.agg ((limsL [p.1, p.2]).map nv).toArray) ∧ Below W.heap.size W w') := Lib.hid fun W L => by
    have h := mul_q c g W hc ok_g L
    rw [show nums (Pt.times (toS c).val (pt g)) = p from (by rw [q_g, n_p]; exact congrArg nums (d_p.symm))] at h
    exact h
  have K3 : Hid (∀ W, Laid W → Calls Tryd.prog 18 #[.agg ((lims a).map nv).toArray, .agg ((limsL [p.1, p.2]).map nv).toArray] W fun e w' => e = .returned (.agg ((limsL [x.1, x.2]).map nv).toArray) ∧ Below W.heap.size W w') := Lib.hid fun W L => by
    have h := mul_q a p W ha ok_p L
    rw [show nums (Pt.times (toS a).val (pt p)) = x from (by rw [q_p, n_x]; exact congrArg nums (d_x.symm))] at h
    exact h
  have K4 : Hid (∀ W, Laid W → Calls Tryd.prog 18 #[.agg ((lims b).map nv).toArray, .agg ((limsL [p.1, p.2]).map nv).toArray] W fun e w' => e = .returned (.agg ((limsL [y.1, y.2]).map nv).toArray) ∧ Below W.heap.size W w') := Lib.hid fun W L => by
    have h := mul_q b p W hb ok_p L
    rw [show nums (Pt.times (toS b).val (pt p)) = y from (by rw [q_p, n_y]; exact congrArg nums (d_y.symm))] at h
    exact h
  have K5 : Hid (∀ W, Laid W → Calls Tryd.prog 24 #[.agg ((lims a).map nv).toArray, .agg ((lims b).map nv).toArray] W fun e w' => e = .returned (.agg ((lims s_s).map nv).toArray) ∧ Below W.heap.size W w') := Lib.hid fun W L => by
    have h := sadd_q a b W ha hb L
    rw [show (toS a + toS b).val = s_s from d_s_s.symm] at h
    exact h
  have K6 : Hid (∀ W, Laid W → Calls Tryd.prog 18 #[.agg ((lims s_s).map nv).toArray, .agg ((limsL [p.1, p.2]).map nv).toArray] W fun e w' => e = .returned (.agg ((limsL [u.1, u.2]).map nv).toArray) ∧ Below W.heap.size W w') := Lib.hid fun W L => by
    have h := mul_q s_s p W hs_s ok_p L
    rw [show nums (Pt.times (toS s_s).val (pt p)) = u from (by rw [q_p, n_u]; exact congrArg nums (by rw [d_s_s, toS_of, times_sadd hLL, d_u, d_x, d_y]))] at h
    exact h
  have K7 : Hid (∀ W, Laid W → Calls Tryd.prog 12 #[.agg ((limsL [x.1, x.2]).map nv).toArray, .agg ((limsL [y.1, y.2]).map nv).toArray] W fun e w' => e = .returned (.agg ((limsL [u.1, u.2]).map nv).toArray) ∧ Below W.heap.size W w') := Lib.hid fun W L => by
    have h := add_q x y W ok_x ok_y L
    rw [show nums ((pt x).plus (pt y)) = u from (by rw [q_x, q_y, n_u]; exact congrArg nums (d_u.symm))] at h
    exact h
  have K8 : Hid (∀ W, Laid W → Calls Tryd.prog 25 #[.agg ((lims a).map nv).toArray, .agg ((lims b).map nv).toArray] W fun e w' => e = .returned (.agg ((lims s_m).map nv).toArray) ∧ Below W.heap.size W w') := Lib.hid fun W L => by
    have h := smul_q a b W ha hb L
    rw [show (toS a * toS b).val = s_m from d_s_m.symm] at h
    exact h
  have K9 : Hid (∀ W, Laid W → Calls Tryd.prog 18 #[.agg ((lims s_m).map nv).toArray, .agg ((limsL [p.1, p.2]).map nv).toArray] W fun e w' => e = .returned (.agg ((limsL [v.1, v.2]).map nv).toArray) ∧ Below W.heap.size W w') := Lib.hid fun W L => by
    have h := mul_q s_m p W hs_m ok_p L
    rw [show nums (Pt.times (toS s_m).val (pt p)) = v from (by rw [q_p, n_v]; exact congrArg nums (by rw [d_s_m, toS_of, times_smul hLL, d_v, d_y]))] at h
    exact h
  have K10 : Hid (∀ W, Laid W → Calls Tryd.prog 18 #[.agg ((lims a).map nv).toArray, .agg ((limsL [y.1, y.2]).map nv).toArray] W fun e w' => e = .returned (.agg ((limsL [v.1, v.2]).map nv).toArray) ∧ Below W.heap.size W w') := Lib.hid fun W L => by
    have h := mul_q a y W ha ok_y L
    rw [show nums (Pt.times (toS a).val (pt y)) = v from (by rw [q_y, n_v]; exact congrArg nums (d_v.symm))] at h
    exact h
  have K11 : Hid (∀ W, Laid W → Calls Tryd.prog 12 #[.agg ((limsL [p.1, p.2]).map nv).toArray, .agg ((limsL [g.1, g.2]).map nv).toArray] W fun e w' => e = .returned (.agg ((limsL [o.1, o.2]).map nv).toArray) ∧ Below W.heap.size W w') := Lib.hid fun W L => by
    have h := add_q p g W ok_p ok_g L
    rw [show nums ((pt p).plus (pt g)) = o from (by rw [q_p, q_g, n_o]; exact congrArg nums (d_o.symm))] at h
    exact h
  have K12 : Hid (∀ W, Laid W → Calls Tryd.prog 18 #[.agg ((lims a).map nv).toArray, .agg ((limsL [o.1, o.2]).map nv).toArray] W fun e w' => e = .returned (.agg ((limsL [f.1, f.2]).map nv).toArray) ∧ Below W.heap.size W w') := Lib.hid fun W L => by
    have h := mul_q a o W ha ok_o L
    rw [show nums (Pt.times (toS a).val (pt o)) = f from (by rw [q_o, n_f]; exact congrArg nums (d_f.symm))] at h
    exact h
  have K13 : Hid (∀ W, Laid W → Calls Tryd.prog 18 #[.agg ((lims a).map nv).toArray, .agg ((limsL [g.1, g.2]).map nv).toArray] W fun e w' => e = .returned (.agg ((limsL [d.1, d.2]).map nv).toArray) ∧ Below W.heap.size W w') := Lib.hid fun W L => by
    have h := mul_q a g W ha ok_g L
    rw [show nums (Pt.times (toS a).val (pt g)) = d from (by rw [q_g, n_d]; exact congrArg nums (d_d.symm))] at h
    exact h
  have K14 : Hid (∀ W, Laid W → Calls Tryd.prog 12 #[.agg ((limsL [x.1, x.2]).map nv).toArray, .agg ((limsL [d.1, d.2]).map nv).toArray] W fun e w' => e = .returned (.agg ((limsL [f.1, f.2]).map nv).toArray) ∧ Below W.heap.size W w') := Lib.hid fun W L => by
    have h := add_q x d W ok_x ok_d L
    rw [show nums ((pt x).plus (pt d)) = f from (by rw [q_x, q_d, n_f]; exact congrArg nums (by rw [d_f, d_o, Pt.times_plus, d_x, d_d]))] at h
    exact h
  have K15 : Hid (∀ W, Laid W → Calls Tryd.prog 10 #[.agg ((limsL [x.1, x.2]).map nv).toArray] W fun e w' => e = .returned (.bool true) ∧ Below W.heap.size W w') := Lib.hid fun W L => by
    have h := check_q x W ok_x L
    rw [show decide (On (toF x.1, toF x.2)) = true from (by rw [n_x]; exact on_nums _)] at h
    exact h
  have eq_f := fun W => eql_pp f ok_f W
  have eq_u := fun W => eql_pp u ok_u W
  have eq_v := fun W => eql_pp v ok_v W
  have gf := fun x y c d W => run_guard_pt x y c d W
  clear L0 hsz0 ha hb hc d_g n_g ok_g q_g d_p n_p ok_p q_p d_x n_x ok_x q_x d_y n_y ok_y q_y d_u n_u ok_u q_u d_v n_v ok_v q_v d_o n_o ok_o q_o d_d n_d ok_d q_d d_f n_f ok_f q_f d_s_s hs_s d_s_m hs_m hLL
  have F0 : Bs w (w.heap.size + 1 + 1 + 1) [(w.heap.size + 1 + 1, 32, ((lims c).map nv).toArray), (w.heap.size + 1, 32, ((lims b).map nv).toArray), (w.heap.size, 32, ((lims a).map nv).toArray)] (((w.alloc (.cells ((lims a).map nv).toArray 32)).alloc (.cells ((lims b).map nv).toArray 32)).alloc (.cells ((lims c).map nv).toArray 32)) := (((Bs.nil).alloc (by rfl)).alloc (by simp only [World.size_alloc])).alloc (by simp only [World.size_alloc])
  go_enter Tryd.func6, Tryd.ntmps6
  go_upto_region 1 with (fail)
  generalize (((w.alloc (.cells ((lims a).map nv).toArray 32)).alloc (.cells ((lims b).map nv).toArray 32)).alloc (.cells ((lims c).map nv).toArray 32)) = wv at *
  go_upto_region 2 with (first
    | (go_at_call 9
       with_reducible refine (AW.out _ (LK.out _ F0.below)).mono ?_
       rintro e w1 ⟨rfl, hb1⟩
       have F1 := Bs.stay _ _ F0 hb1)
    | fail)
  clear F0 hb1
  go_upto_region 3 with (first
    | (go_at_call 23
       with_reducible refine (K1.out _ (LK.out _ F1.below)).mono ?_
       rintro e w2 ⟨rfl, hb2⟩
       have F2 := Bs.stay _ _ F1 hb2
       have F2a := Bs.stay _ _ F2 ((Below.refl _ w2).alloc (Nat.le_refl _) (.cells #[.int .u64 0, .int .u64 0, .int .u64 0, .int .u64 0, .int .u64 0, .int .u64 0, .int .u64 0, .int .u64 0] 26))
       have z2 := pt_new6 w2)
    | (with_reducible refine wpList_store_n rfl 26 (.tmp 8) (.tmp 13) rfl w2.heap.size (limsL [g.1, g.2]) 8 rfl rfl rfl (limsL [0, 0]) (by with_unfolding_all exact z2) Tryd.infoPt rfl w.heap.size w (by with_unfolding_all exact F2a.below) F2.below.size ?_
       intro w3 H3 o3 s3 b3
       have F3 := Bs.add (by with_unfolding_all exact F2a) F2.len H3 o3 b3
       clear s3)
    | fail)
  have hg2 := F2.len
  clear hb2 F1 F2a z2 o3 H3 b3 F2
  generalize w2.heap.size = g8 at *
  have hL5 := F3.getN (g := w.heap.size + 1 + 1) (l := lims c) (by repeat (first | exact List.mem_cons_self .. | refine List.mem_cons_of_mem _ ?_))
  have hL8 := F3.getN (g := g8) (l := limsL [g.1, g.2]) (by repeat (first | exact List.mem_cons_self .. | refine List.mem_cons_of_mem _ ?_))
  go_upto_region 4 with (first
    | (with_reducible refine wpList_load_n rfl 32 (.tmp 5) rfl (w.heap.size + 1 + 1) rfl (lims c) 4 hL5 rfl Tryd.underlying32 Tryd.infoSc ?_)
    | (with_reducible refine wpList_load_pt rfl 26 (.tmp 8) rfl (g8) rfl (limsL [g.1, g.2]) 8 hL8 rfl Tryd.underlying26 Tryd.infoPt ?_)
    | (go_at_call 18
       with_reducible refine (K2.out _ (LK.out _ F3.below)).mono ?_
       rintro e w4 ⟨rfl, hb4⟩
       have F4 := Bs.stay _ _ F3 hb4
       have F4a := Bs.stay _ _ F4 ((Below.refl _ w4).alloc (Nat.le_refl _) (.cells #[.int .u64 0, .int .u64 0, .int .u64 0, .int .u64 0, .int .u64 0, .int .u64 0, .int .u64 0, .int .u64 0] 26))
       have z4 := pt_new6 w4)
    | (with_reducible refine wpList_store_n rfl 26 (.tmp 9) (.tmp 16) rfl w4.heap.size (limsL [p.1, p.2]) 8 rfl rfl rfl (limsL [0, 0]) (by with_unfolding_all exact z4) Tryd.infoPt rfl w.heap.size w (by with_unfolding_all exact F4a.below) F4.below.size ?_
       intro w5 H5 o5 s5 b5
       have F5 := Bs.add (by with_unfolding_all exact F4a) F4.len H5 o5 b5
       clear s5)
    | fail)
  have hg4 := F4.len
  clear hL5 hL8 hb4 F3 F4a z4 o5 H5 b5 F4
  generalize w4.heap.size = g9 at *
  have hL3 := F5.getN (g := w.heap.size) (l := lims a) (by repeat (first | exact List.mem_cons_self .. | refine List.mem_cons_of_mem _ ?_))
  have hL9 := F5.getN (g := g9) (l := limsL [p.1, p.2]) (by repeat (first | exact List.mem_cons_self .. | refine List.mem_cons_of_mem _ ?_))
  go_upto_region 5 with (first
    | (with_reducible refine wpList_load_n rfl 32 (.tmp 3) rfl (w.heap.size) rfl (lims a) 4 hL3 rfl Tryd.underlying32 Tryd.infoSc ?_)
    | (with_reducible refine wpList_load_pt rfl 26 (.tmp 9) rfl (g9) rfl (limsL [p.1, p.2]) 8 hL9 rfl Tryd.underlying26 Tryd.infoPt ?_)
    | (go_at_call 18
       with_reducible refine (K3.out _ (LK.out _ F5.below)).mono ?_
       rintro e w6 ⟨rfl, hb6⟩
       have F6 := Bs.stay _ _ F5 hb6
       have F6a := Bs.stay _ _ F6 ((Below.refl _ w6).alloc (Nat.le_refl _) (.cells #[.int .u64 0, .int .u64 0, .int .u64 0, .int .u64 0, .int .u64 0, .int .u64 0, .int .u64 0, .int .u64 0] 26))
       have z6 := pt_new6 w6)
    | (with_reducible refine wpList_store_n rfl 26 (.tmp 10) (.tmp 19) rfl w6.heap.size (limsL [x.1, x.2]) 8 rfl rfl rfl (limsL [0, 0]) (by with_unfolding_all exact z6) Tryd.infoPt rfl w.heap.size w (by with_unfolding_all exact F6a.below) F6.below.size ?_
       intro w7 H7 o7 s7 b7
       have F7 := Bs.add (by with_unfolding_all exact F6a) F6.len H7 o7 b7
       clear s7)
    | fail)
  have hg6 := F6.len
  clear hL3 hL9 hb6 F5 F6a z6 o7 H7 b7 F6
  generalize w6.heap.size = g10 at *
  have hL4 := F7.getN (g := w.heap.size + 1) (l := lims b) (by repeat (first | exact List.mem_cons_self .. | refine List.mem_cons_of_mem _ ?_))
  have hL9 := F7.getN (g := g9) (l := limsL [p.1, p.2]) (by repeat (first | exact List.mem_cons_self .. | refine List.mem_cons_of_mem _ ?_))
  go_upto_region 6 with (first
    | (with_reducible refine wpList_load_n rfl 32 (.tmp 4) rfl (w.heap.size + 1) rfl (lims b) 4 hL4 rfl Tryd.underlying32 Tryd.infoSc ?_)
    | (with_reducible refine wpList_load_pt rfl 26 (.tmp 9) rfl (g9) rfl (limsL [p.1, p.2]) 8 hL9 rfl Tryd.underlying26 Tryd.infoPt ?_)
    | (go_at_call 18
       with_reducible refine (K4.out _ (LK.out _ F7.below)).mono ?_
       rintro e w8 ⟨rfl, hb8⟩
       have F8 := Bs.stay _ _ F7 hb8
       have F8a := Bs.stay _ _ F8 ((Below.refl _ w8).alloc (Nat.le_refl _) (.cells #[.int .u64 0, .int .u64 0, .int .u64 0, .int .u64 0, .int .u64 0, .int .u64 0, .int .u64 0, .int .u64 0] 26))
       have z8 := pt_new6 w8)
    | (with_reducible refine wpList_store_n rfl 26 (.tmp 11) (.tmp 22) rfl w8.heap.size (limsL [y.1, y.2]) 8 rfl rfl rfl (limsL [0, 0]) (by with_unfolding_all exact z8) Tryd.infoPt rfl w.heap.size w (by with_unfolding_all exact F8a.below) F8.below.size ?_
       intro w9 H9 o9 s9 b9
       have F9 := Bs.add (by with_unfolding_all exact F8a) F8.len H9 o9 b9
       clear s9)
    | fail)
  have hg8 := F8.len
  clear hL4 hL9 hb8 F7 F8a z8 o9 H9 b9 F8
  generalize w8.heap.size = g11 at *
  refine wp_region_lex 40 (fun _ => false) (fun _ _ _ => True) (Bs w (g11 + 1) [(g11, 26, ((limsL [y.1, y.2]).map nv).toArray), (g10, 26, ((limsL [x.1, x.2]).map nv).toArray), (g9, 26, ((limsL [p.1, p.2]).map nv).toArray), (g8, 26, ((limsL [g.1, g.2]).map nv).toArray), (w.heap.size + 1 + 1, 32, ((lims c).map nv).toArray), (w.heap.size + 1, 32, ((lims b).map nv).toArray), (w.heap.size, 32, ((lims a).map nv).toArray)]) (by kernel_rfl) (by kernel_rfl) F9.drew Bs.stay (fun _ _ _ _ _ _ => trivial) lex_none ?_
  simp only [List.take_succ_cons, List.take_zero, List.drop_succ_cons, List.drop_zero]
  refine lexW_value (v := ?_) (by rfl) (by rfl) (fun W hW => ?_) ?_
  rotate_left
  · skip; go_simp <;> with_reducible rfl
  simp only [Act.put, List.setIfInBounds_toArray, List.set_cons_zero, List.set_cons_succ]
  refine lexW_value (v := ?_) (by rfl) (by rfl) (fun W hW => ?_) ?_
  rotate_left
  · skip; go_simp <;> with_reducible rfl
  simp only [Act.put, List.setIfInBounds_toArray, List.set_cons_zero, List.set_cons_succ]
  refine lexW_value (v := ?_) (by rfl) (by rfl) (fun W hW => ?_) ?_
  rotate_left
  · have l1 := run_ldS (hW.getN (g := w.heap.size) (l := lims a) (by repeat (first | exact List.mem_cons_self .. | refine List.mem_cons_of_mem _ ?_))); go_simp <;> with_reducible rfl
  simp only [Act.put, List.setIfInBounds_toArray, List.set_cons_zero, List.set_cons_succ]
  refine lexW_value (v := ?_) (by rfl) (by rfl) (fun W hW => ?_) ?_
  rotate_left
  · have l1 := run_ldS (hW.getN (g := w.heap.size + 1) (l := lims b) (by repeat (first | exact List.mem_cons_self .. | refine List.mem_cons_of_mem _ ?_))); go_simp <;> with_reducible rfl
  simp only [Act.put, List.setIfInBounds_toArray, List.set_cons_zero, List.set_cons_succ]
  refine' lexW_call (by rfl) (by rfl) (fun W hW => ?_) (fun W hW => ?_) ?_
  rotate_left 3
  · go_simp <;> first | with_reducible rfl | exact ⟨rfl, rfl⟩
  · with_reducible exact K5.out W (LK.out _ hW.below)
  simp only [Act.put, List.setIfInBounds_toArray, List.set_cons_zero, List.set_cons_succ]
  refine lexW_value (v := ?_) (by rfl) (by rfl) (fun W hW => ?_) ?_
  rotate_left
  · have l1 := run_ldP (hW.getN (g := g9) (l := limsL [p.1, p.2]) (by repeat (first | exact List.mem_cons_self .. | refine List.mem_cons_of_mem _ ?_))); go_simp <;> with_reducible rfl
  simp only [Act.put, List.setIfInBounds_toArray, List.set_cons_zero, List.set_cons_succ]
  refine' lexW_call (by rfl) (by rfl) (fun W hW => ?_) (fun W hW => ?_) ?_
  rotate_left 3
  · go_simp <;> first | with_reducible rfl | exact ⟨rfl, rfl⟩
  · with_reducible exact K6.out W (LK.out _ hW.below)
  simp only [Act.put, List.setIfInBounds_toArray, List.set_cons_zero, List.set_cons_succ]
  refine lexW_value (v := ?_) (by rfl) (by rfl) (fun W hW => ?_) ?_
  rotate_left
  · have l1 := run_ldP (hW.getN (g := g10) (l := limsL [x.1, x.2]) (by repeat (first | exact List.mem_cons_self .. | refine List.mem_cons_of_mem _ ?_))); go_simp <;> with_reducible rfl
  simp only [Act.put, List.setIfInBounds_toArray, List.set_cons_zero, List.set_cons_succ]
  refine lexW_value (v := ?_) (by rfl) (by rfl) (fun W hW => ?_) ?_
  rotate_left
  · have l1 := run_ldP (hW.getN (g := g11) (l := limsL [y.1, y.2]) (by repeat (first | exact List.mem_cons_self .. | refine List.mem_cons_of_mem _ ?_))); go_simp <;> with_reducible rfl
  simp only [Act.put, List.setIfInBounds_toArray, List.set_cons_zero, List.set_cons_succ]
  refine' lexW_call (by rfl) (by rfl) (fun W hW => ?_) (fun W hW => ?_) ?_
  rotate_left 3
  · go_simp <;> first | with_reducible rfl | exact ⟨rfl, rfl⟩
  · with_reducible exact K7.out W (LK.out _ hW.below)
  simp only [Act.put, List.setIfInBounds_toArray, List.set_cons_zero, List.set_cons_succ]
  refine lexW_value (v := ?_) (by rfl) (by rfl) (fun W hW => ?_) ?_
  rotate_left
  · skip; go_simp <;> with_reducible rfl
  simp only [Act.put, List.setIfInBounds_toArray, List.set_cons_zero, List.set_cons_succ]
  refine lexW_value (v := ?_) (by rfl) (by rfl) (fun W hW => ?_) ?_
  rotate_left
  · skip; go_simp <;> with_reducible rfl
  simp only [Act.put, List.setIfInBounds_toArray, List.set_cons_zero, List.set_cons_succ]
  refine lexW_value (v := ?_) (by rfl) (by rfl) (fun W hW => ?_) ?_
  rotate_left
  · skip; go_simp <;> with_reducible rfl
  simp only [Act.put, List.setIfInBounds_toArray, List.set_cons_zero, List.set_cons_succ]
  refine lexW_value (v := ?_) (by rfl) (by rfl) (fun W hW => ?_) ?_
  rotate_left
  · have l1 := run_ldS (hW.getN (g := w.heap.size) (l := lims a) (by repeat (first | exact List.mem_cons_self .. | refine List.mem_cons_of_mem _ ?_))); go_simp <;> with_reducible rfl
  simp only [Act.put, List.setIfInBounds_toArray, List.set_cons_zero, List.set_cons_succ]
  refine lexW_value (v := ?_) (by rfl) (by rfl) (fun W hW => ?_) ?_
  rotate_left
  · have l1 := run_ldS (hW.getN (g := w.heap.size + 1) (l := lims b) (by repeat (first | exact List.mem_cons_self .. | refine List.mem_cons_of_mem _ ?_))); go_simp <;> with_reducible rfl
  simp only [Act.put, List.setIfInBounds_toArray, List.set_cons_zero, List.set_cons_succ]
  refine' lexW_call (by rfl) (by rfl) (fun W hW => ?_) (fun W hW => ?_) ?_
  rotate_left 3
  · go_simp <;> first | with_reducible rfl | exact ⟨rfl, rfl⟩
  · with_reducible exact K8.out W (LK.out _ hW.below)
  simp only [Act.put, List.setIfInBounds_toArray, List.set_cons_zero, List.set_cons_succ]
  refine lexW_value (v := ?_) (by rfl) (by rfl) (fun W hW => ?_) ?_
  rotate_left
  · have l1 := run_ldP (hW.getN (g := g9) (l := limsL [p.1, p.2]) (by repeat (first | exact List.mem_cons_self .. | refine List.mem_cons_of_mem _ ?_))); go_simp <;> with_reducible rfl
  simp only [Act.put, List.setIfInBounds_toArray, List.set_cons_zero, List.set_cons_succ]
  refine' lexW_call (by rfl) (by rfl) (fun W hW => ?_) (fun W hW => ?_) ?_
  rotate_left 3
  · go_simp <;> first | with_reducible rfl | exact ⟨rfl, rfl⟩
  · with_reducible exact K9.out W (LK.out _ hW.below)
  simp only [Act.put, List.setIfInBounds_toArray, List.set_cons_zero, List.set_cons_succ]
  refine lexW_value (v := ?_) (by rfl) (by rfl) (fun W hW => ?_) ?_
  rotate_left
  · have l1 := run_ldS (hW.getN (g := w.heap.size) (l := lims a) (by repeat (first | exact List.mem_cons_self .. | refine List.mem_cons_of_mem _ ?_))); go_simp <;> with_reducible rfl
  simp only [Act.put, List.setIfInBounds_toArray, List.set_cons_zero, List.set_cons_succ]
  refine lexW_value (v := ?_) (by rfl) (by rfl) (fun W hW => ?_) ?_
  rotate_left
  · have l1 := run_ldP (hW.getN (g := g11) (l := limsL [y.1, y.2]) (by repeat (first | exact List.mem_cons_self .. | refine List.mem_cons_of_mem _ ?_))); go_simp <;> with_reducible rfl
  simp only [Act.put, List.setIfInBounds_toArray, List.set_cons_zero, List.set_cons_succ]
  refine' lexW_call (by rfl) (by rfl) (fun W hW => ?_) (fun W hW => ?_) ?_
  rotate_left 3
  · go_simp <;> first | with_reducible rfl | exact ⟨rfl, rfl⟩
  · with_reducible exact K10.out W (LK.out _ hW.below)
  simp only [Act.put, List.setIfInBounds_toArray, List.set_cons_zero, List.set_cons_succ]
  refine lexW_value (v := ?_) (by rfl) (by rfl) (fun W hW => ?_) ?_
  rotate_left
  · skip; go_simp <;> with_reducible rfl
  simp only [Act.put, List.setIfInBounds_toArray, List.set_cons_zero, List.set_cons_succ]
  refine lexW_value (v := ?_) (by rfl) (by rfl) (fun W hW => ?_) ?_
  rotate_left
  · skip; go_simp <;> with_reducible rfl
  simp only [Act.put, List.setIfInBounds_toArray, List.set_cons_zero, List.set_cons_succ]
  refine lexW_value (v := ?_) (by rfl) (by rfl) (fun W hW => ?_) ?_
  rotate_left
  · skip; go_simp <;> with_reducible rfl
  simp only [Act.put, List.setIfInBounds_toArray, List.set_cons_zero, List.set_cons_succ]
  refine lexW_value (v := ?_) (by rfl) (by rfl) (fun W hW => ?_) ?_
  rotate_left
  · have l1 := run_ldS (hW.getN (g := w.heap.size) (l := lims a) (by repeat (first | exact List.mem_cons_self .. | refine List.mem_cons_of_mem _ ?_))); go_simp <;> with_reducible rfl
  simp only [Act.put, List.setIfInBounds_toArray, List.set_cons_zero, List.set_cons_succ]
  refine lexW_value (v := ?_) (by rfl) (by rfl) (fun W hW => ?_) ?_
  rotate_left
  · have l1 := run_ldP (hW.getN (g := g9) (l := limsL [p.1, p.2]) (by repeat (first | exact List.mem_cons_self .. | refine List.mem_cons_of_mem _ ?_))); go_simp <;> with_reducible rfl
  simp only [Act.put, List.setIfInBounds_toArray, List.set_cons_zero, List.set_cons_succ]
  refine lexW_value (v := ?_) (by rfl) (by rfl) (fun W hW => ?_) ?_
  rotate_left
  · have l1 := run_ldP (hW.getN (g := g8) (l := limsL [g.1, g.2]) (by repeat (first | exact List.mem_cons_self .. | refine List.mem_cons_of_mem _ ?_))); go_simp <;> with_reducible rfl
  simp only [Act.put, List.setIfInBounds_toArray, List.set_cons_zero, List.set_cons_succ]
  refine' lexW_call (by rfl) (by rfl) (fun W hW => ?_) (fun W hW => ?_) ?_
  rotate_left 3
  · go_simp <;> first | with_reducible rfl | exact ⟨rfl, rfl⟩
  · with_reducible exact K11.out W (LK.out _ hW.below)
  simp only [Act.put, List.setIfInBounds_toArray, List.set_cons_zero, List.set_cons_succ]
  refine' lexW_call (by rfl) (by rfl) (fun W hW => ?_) (fun W hW => ?_) ?_
  rotate_left 3
  · go_simp <;> first | with_reducible rfl | exact ⟨rfl, rfl⟩
  · with_reducible exact K12.out W (LK.out _ hW.below)
  simp only [Act.put, List.setIfInBounds_toArray, List.set_cons_zero, List.set_cons_succ]
  refine lexW_value (v := ?_) (by rfl) (by rfl) (fun W hW => ?_) ?_
  rotate_left
  · have l1 := run_ldP (hW.getN (g := g10) (l := limsL [x.1, x.2]) (by repeat (first | exact List.mem_cons_self .. | refine List.mem_cons_of_mem _ ?_))); go_simp <;> with_reducible rfl
  simp only [Act.put, List.setIfInBounds_toArray, List.set_cons_zero, List.set_cons_succ]
  refine lexW_value (v := ?_) (by rfl) (by rfl) (fun W hW => ?_) ?_
  rotate_left
  · have l1 := run_ldS (hW.getN (g := w.heap.size) (l := lims a) (by repeat (first | exact List.mem_cons_self .. | refine List.mem_cons_of_mem _ ?_))); go_simp <;> with_reducible rfl
  simp only [Act.put, List.setIfInBounds_toArray, List.set_cons_zero, List.set_cons_succ]
  refine lexW_value (v := ?_) (by rfl) (by rfl) (fun W hW => ?_) ?_
  rotate_left
  · have l1 := run_ldP (hW.getN (g := g8) (l := limsL [g.1, g.2]) (by repeat (first | exact List.mem_cons_self .. | refine List.mem_cons_of_mem _ ?_))); go_simp <;> with_reducible rfl
  simp only [Act.put, List.setIfInBounds_toArray, List.set_cons_zero, List.set_cons_succ]
  refine' lexW_call (by rfl) (by rfl) (fun W hW => ?_) (fun W hW => ?_) ?_
  rotate_left 3
  · go_simp <;> first | with_reducible rfl | exact ⟨rfl, rfl⟩
  · with_reducible exact K13.out W (LK.out _ hW.below)
  simp only [Act.put, List.setIfInBounds_toArray, List.set_cons_zero, List.set_cons_succ]
  refine' lexW_call (by rfl) (by rfl) (fun W hW => ?_) (fun W hW => ?_) ?_
  rotate_left 3
  · go_simp <;> first | with_reducible rfl | exact ⟨rfl, rfl⟩
  · with_reducible exact K14.out W (LK.out _ hW.below)
  simp only [Act.put, List.setIfInBounds_toArray, List.set_cons_zero, List.set_cons_succ]
  refine lexW_value (v := ?_) (by rfl) (by rfl) (fun W hW => ?_) ?_
  rotate_left
  · skip; go_simp <;> with_reducible rfl
  simp only [Act.put, List.setIfInBounds_toArray, List.set_cons_zero, List.set_cons_succ]
  refine lexW_value (v := ?_) (by rfl) (by rfl) (fun W hW => ?_) ?_
  rotate_left
  · skip; go_simp <;> with_reducible rfl
  simp only [Act.put, List.setIfInBounds_toArray, List.set_cons_zero, List.set_cons_succ]
  refine lexW_value (v := ?_) (by rfl) (by rfl) (fun W hW => ?_) ?_
  rotate_left
  · skip; go_simp <;> with_reducible rfl
  simp only [Act.put, List.setIfInBounds_toArray, List.set_cons_zero, List.set_cons_succ]
  refine lexW_value (v := ?_) (by rfl) (by rfl) (fun W hW => ?_) ?_
  rotate_left
  · have l1 := run_ldP (hW.getN (g := g10) (l := limsL [x.1, x.2]) (by repeat (first | exact List.mem_cons_self .. | refine List.mem_cons_of_mem _ ?_))); go_simp <;> with_reducible rfl
  simp only [Act.put, List.setIfInBounds_toArray, List.set_cons_zero, List.set_cons_succ]
  refine' lexW_call (by rfl) (by rfl) (fun W hW => ?_) (fun W hW => ?_) ?_
  rotate_left 3
  · go_simp <;> first | with_reducible rfl | exact ⟨rfl, rfl⟩
  · with_reducible exact K15.out W (LK.out _ hW.below)
  simp only [Act.put, List.setIfInBounds_toArray, List.set_cons_zero, List.set_cons_succ]
  refine lexW_value (v := ?_) (by rfl) (by rfl) (fun W hW => ?_) ?_
  rotate_left
  · skip; go_simp <;> with_reducible rfl
  simp only [Act.put, List.setIfInBounds_toArray, List.set_cons_zero, List.set_cons_succ]
  refine lexW_nil (fun b10 W10 F10 E10 => ?_)
  obtain rfl := lexEnd_none E10
  go_wp2
  go_ret
  exact ⟨rfl, F10.below⟩
end
end Crv
end Go.Proofs.YthaheekjmofgnaaDoor
