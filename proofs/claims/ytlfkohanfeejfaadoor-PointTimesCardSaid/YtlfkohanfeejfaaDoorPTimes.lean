/-
  PointTimes: the first point a sum of times is both, added, in bytes, and of a small order only where the times are 0.
-/
import Derived.Test.YtlfkohanfeejfaaDoorPTimesL
namespace Go.Proofs.YtlfkohanfeejfaaDoor
open Go.RowKit
namespace Pnt
open Crv

section
attribute [local go_sem ↓] load_pt load_s6 Byt.load_by

set_option maxRecDepth 100000 in
set_option maxHeartbeats 8000000 in
theorem PointTimes_any (a : Nat) (b : Nat) (w : World) (ha : a < big) (hb : b < big) (L0 : Laid w) :
    Calls Tryd.prog 6 #[.agg ((lims a).map nv).toArray, .agg ((lims b).map nv).toArray] w fun e w' => e = .returned (.bool true) ∧ Below w.heap.size w w' := by
  have hsz0 := L0.size
  have LK : Hid (∀ W, Below w.heap.size w W → Laid W) := Lib.hid fun W hb => L0.keep hb hsz0
  have AW : Hid (∀ W, Laid W → Calls Tryd.prog 7 #[] W fun e w' => e = .returned (.bool true) ∧ Below W.heap.size W w') := Lib.hid fun W L => awake_any W L
  obtain ⟨xP, d_x⟩ : ∃ zz : Pt, zz = Pt.times (toS a).val pbase := ⟨_, rfl⟩
  obtain ⟨x, n_x⟩ : ∃ zz : Nat × Nat, zz = nums xP := ⟨_, rfl⟩
  have ok_x : ok x := by rw [n_x]; exact nums_ok _
  have q_x : pt x = xP := by rw [n_x]; exact pt_nums _
  obtain ⟨yP, d_y⟩ : ∃ zz : Pt, zz = Pt.times (toS b).val pbase := ⟨_, rfl⟩
  obtain ⟨y, n_y⟩ : ∃ zz : Nat × Nat, zz = nums yP := ⟨_, rfl⟩
  have ok_y : ok y := by rw [n_y]; exact nums_ok _
  have q_y : pt y = yP := by rw [n_y]; exact pt_nums _
  obtain ⟨mP, d_m⟩ : ∃ zz : Pt, zz = xP.plus yP := ⟨_, rfl⟩
  obtain ⟨m, n_m⟩ : ∃ zz : Nat × Nat, zz = nums mP := ⟨_, rfl⟩
  have ok_m : ok m := by rw [n_m]; exact nums_ok _
  have q_m : pt m = mP := by rw [n_m]; exact pt_nums _
  obtain ⟨b_z, d_b_z⟩ : ∃ zz : Bool, zz = decide (Pt.times 8 xP = Pt.none) := ⟨_, rfl⟩
  obtain ⟨l_a, d_l_a⟩ : ∃ zz : List UInt8, zz = enc xP.1 := ⟨_, rfl⟩
  have HL_l_a : Hid (l_a.length = 32) := Lib.hid (by rw [d_l_a]; exact enc_length _)
  obtain ⟨l_b, d_l_b⟩ : ∃ zz : List UInt8, zz = enc yP.1 := ⟨_, rfl⟩
  have HL_l_b : Hid (l_b.length = 32) := Lib.hid (by rw [d_l_b]; exact enc_length _)
  obtain ⟨l_s, d_l_s⟩ : ∃ zz : List UInt8, zz = enc mP.1 := ⟨_, rfl⟩
  have HL_l_s : Hid (l_s.length = 32) := Lib.hid (by rw [d_l_s]; exact enc_length _)
  obtain ⟨s_s, d_s_s⟩ : ∃ zz : Nat, zz = (toS a + toS b).val := ⟨_, rfl⟩
  have hs_s : s_s < big := by rw [d_s_s]; exact Sn.lt_big _
  obtain ⟨s_a, d_s_a⟩ : ∃ zz : Nat, zz = (toS a + toS 0).val := ⟨_, rfl⟩
  have hs_a : s_a < big := by rw [d_s_a]; exact Sn.lt_big _
  have ez : ∀ W, (binOp .eql 28 (.agg ((lims s_a).map nv).toArray) (.agg #[.int .u64 0, .int .u64 0, .int .u64 0, .int .u64 0])).run Tryd.prog W = .ok (.bool b_z) W := fun W => by
    have h := Scq.run_eql_sc s_a 0 W hs_a (by decide)
    rw [← lit_fe0, show decide (s_a = 0) = b_z from (by rw [d_b_z, d_s_a, d_x]; exact small_dec a)] at h
    exact h
  have gz := fun x y c d W => Scq.run_guard_sc x y c d W
  have K1 : Hid (∀ W, Laid W → Calls Tryd.prog 14 #[.agg ((lims a).map nv).toArray] W fun e w' => e = .returned (.agg (l_a.map bv).toArray) ∧ Below W.heap.size W w') := Lib.hid fun W L => by
    have h := times_q a W ha L
    rw [show enc (Pt.times (toS a).val pbase).1 = l_a from (by rw [d_l_a, d_x])] at h
    exact h
  have K2 : Hid (∀ W, Laid W → Calls Tryd.prog 8 #[.agg (l_a.map bv).toArray] W fun e w' => e = .returned (.tuple #[.agg ((limsL [x.1, x.2]).map nv).toArray, .int .i64 0]) ∧ Below W.heap.size W w') := Lib.hid fun W L => by
    have h := decode_q l_a W HL_l_a.out L
    rw [show dnum l_a = x from (by rw [d_l_a, dnum_enc, n_x]), show derr l_a = 0 from (by rw [d_l_a, derr_enc])] at h
    exact h
  have K3 : Hid (∀ W, Laid W → Calls Tryd.prog 14 #[.agg ((lims b).map nv).toArray] W fun e w' => e = .returned (.agg (l_b.map bv).toArray) ∧ Below W.heap.size W w') := Lib.hid fun W L => by
    have h := times_q b W hb L
    rw [show enc (Pt.times (toS b).val pbase).1 = l_b from (by rw [d_l_b, d_y])] at h
    exact h
  have K4 : Hid (∀ W, Laid W → Calls Tryd.prog 8 #[.agg (l_b.map bv).toArray] W fun e w' => e = .returned (.tuple #[.agg ((limsL [y.1, y.2]).map nv).toArray, .int .i64 0]) ∧ Below W.heap.size W w') := Lib.hid fun W L => by
    have h := decode_q l_b W HL_l_b.out L
    rw [show dnum l_b = y from (by rw [d_l_b, dnum_enc, n_y]), show derr l_b = 0 from (by rw [d_l_b, derr_enc])] at h
    exact h
  have K5 : Hid (∀ W, Laid W → Calls Tryd.prog 20 #[.agg ((lims a).map nv).toArray, .agg ((lims b).map nv).toArray] W fun e w' => e = .returned (.agg ((lims s_s).map nv).toArray) ∧ Below W.heap.size W w') := Lib.hid fun W L => by
    have h := sadd_q a b W ha hb L
    rw [show (toS a + toS b).val = s_s from d_s_s.symm] at h
    exact h
  have K6 : Hid (∀ W, Laid W → Calls Tryd.prog 14 #[.agg ((lims s_s).map nv).toArray] W fun e w' => e = .returned (.agg (l_s.map bv).toArray) ∧ Below W.heap.size W w') := Lib.hid fun W L => by
    have h := times_q s_s W hs_s L
    rw [show enc (Pt.times (toS s_s).val pbase).1 = l_s from (by rw [d_s_s, toS_of, times_sadd base_order, ← d_x, ← d_y, ← d_m, d_l_s])] at h
    exact h
  have K7 : Hid (∀ W, Laid W → Calls Tryd.prog 21 #[.agg ((limsL [x.1, x.2]).map nv).toArray, .agg ((limsL [y.1, y.2]).map nv).toArray] W fun e w' => e = .returned (.agg ((limsL [m.1, m.2]).map nv).toArray) ∧ Below W.heap.size W w') := Lib.hid fun W L => by
    have h := add_q x y W ok_x ok_y L
    rw [show nums ((pt x).plus (pt y)) = m from (by rw [q_x, q_y, n_m]; exact congrArg nums (d_m.symm))] at h
    exact h
  have K8 : Hid (∀ W, Laid W → Calls Tryd.prog 10 #[.agg ((limsL [m.1, m.2]).map nv).toArray] W fun e w' => e = .returned (.agg (l_s.map bv).toArray) ∧ Below W.heap.size W w') := Lib.hid fun W L => by
    have h := encode_q m W ok_m L
    rw [show enc (pt m).1 = l_s from (by rw [q_m, d_l_s])] at h
    exact h
  have K9 : Hid (∀ W, Laid W → Calls Tryd.prog 12 #[.agg ((limsL [x.1, x.2]).map nv).toArray] W fun e w' => e = .returned (.bool b_z) ∧ Below W.heap.size W w') := Lib.hid fun W L => by
    have h := small_q x W ok_x L
    rw [show decide (Pt.times 8 (pt x) = Pt.none) = b_z from (by rw [q_x, d_b_z])] at h
    exact h
  have K10 : Hid (∀ W, Laid W → Calls Tryd.prog 20 #[.agg ((lims a).map nv).toArray, .agg #[.int .u64 0, .int .u64 0, .int .u64 0, .int .u64 0]] W fun e w' => e = .returned (.agg ((lims s_a).map nv).toArray) ∧ Below W.heap.size W w') := Lib.hid fun W L => by
    have h := sadd_q a 0 W ha (by decide) L
    rw [show (toS a + toS 0).val = s_a from d_s_a.symm] at h
    rw [← lit_fe0] at h
    exact h
  have eq_l_s := fun W => eql_bb l_s HL_l_s.out W
  have gf := fun x y c d W => run_guard_pt x y c d W
  have gb := fun x y c d W => Byt.run_guard_b x y c d W
  clear L0 hsz0 ha hb d_x n_x ok_x q_x d_y n_y ok_y q_y d_m n_m ok_m q_m d_b_z d_l_a d_l_b d_l_s d_s_s hs_s d_s_a hs_a
  have F0 : Bs w (w.heap.size + 1 + 1) [(w.heap.size + 1, 28, ((lims b).map nv).toArray), (w.heap.size, 28, ((lims a).map nv).toArray)] ((w.alloc (.cells ((lims a).map nv).toArray 28)).alloc (.cells ((lims b).map nv).toArray 28)) := ((Bs.nil).alloc (by rfl)).alloc (by simp only [World.size_alloc])
  go_enter Tryd.func6, Tryd.ntmps6
  go_upto_region 1 with (fail)
  generalize ((w.alloc (.cells ((lims a).map nv).toArray 28)).alloc (.cells ((lims b).map nv).toArray 28)) = wv at *
  go_upto_region 2 with (first
    | (go_at_call 7
       with_reducible refine (AW.out _ (LK.out _ F0.below)).mono ?_
       rintro e w1 ⟨rfl, hb1⟩
       have F1 := Bs.stay _ _ F0 hb1)
    | fail)
  clear F0 hb1
  have hL2 := F1.getN (g := w.heap.size) (l := lims a) (by repeat (first | exact List.mem_cons_self .. | refine List.mem_cons_of_mem _ ?_))
  go_upto_region 3 with (first
    | (with_reducible refine wpList_load_n rfl 28 (.tmp 2) rfl (w.heap.size) rfl (lims a) 4 hL2 rfl Tryd.underlying28 Tryd.infoSc ?_)
    | (go_at_call 14
       with_reducible refine (K1.out _ (LK.out _ F1.below)).mono ?_
       rintro e w2 ⟨rfl, hb2⟩
       have F2 := Bs.stay _ _ F1 hb2)
    | (go_at_call 8
       with_reducible refine (K2.out _ (LK.out _ F2.below)).mono ?_
       rintro e w3 ⟨rfl, hb3⟩
       have F3 := Bs.stay _ _ F2 hb3
       have F3a := Bs.stay _ _ F3 ((Below.refl _ w3).alloc (Nat.le_refl _) (.cells #[.int .u64 0, .int .u64 0, .int .u64 0, .int .u64 0, .int .u64 0, .int .u64 0, .int .u64 0, .int .u64 0] 26))
       have z3 := pt_new6 w3)
    | (with_reducible refine wpList_store_n rfl 26 (.tmp 6) (.tmp 16) rfl w3.heap.size (limsL [x.1, x.2]) 8 rfl rfl rfl (limsL [0, 0]) (by with_unfolding_all exact z3) Tryd.infoPt rfl w.heap.size w (by with_unfolding_all exact F3a.below) F3.below.size ?_
       intro w4 H4 o4 s4 b4
       have F4 := Bs.add (by with_unfolding_all exact F3a) F3.len H4 o4 b4
       clear s4)
    | fail)
  have hg3 := F3.len
  clear hL2 hb2 F1 hb3 F2 F3a z3 o4 H4 b4 F3
  generalize w3.heap.size = g6 at *
  have hL3 := F4.getN (g := w.heap.size + 1) (l := lims b) (by repeat (first | exact List.mem_cons_self .. | refine List.mem_cons_of_mem _ ?_))
  go_upto_region 4 with (first
    | (with_reducible refine wpList_load_n rfl 28 (.tmp 3) rfl (w.heap.size + 1) rfl (lims b) 4 hL3 rfl Tryd.underlying28 Tryd.infoSc ?_)
    | (go_at_call 14
       with_reducible refine (K3.out _ (LK.out _ F4.below)).mono ?_
       rintro e w5 ⟨rfl, hb5⟩
       have F5 := Bs.stay _ _ F4 hb5)
    | (go_at_call 8
       with_reducible refine (K4.out _ (LK.out _ F5.below)).mono ?_
       rintro e w6 ⟨rfl, hb6⟩
       have F6 := Bs.stay _ _ F5 hb6
       have F6a := Bs.stay _ _ F6 ((Below.refl _ w6).alloc (Nat.le_refl _) (.cells #[.int .u64 0, .int .u64 0, .int .u64 0, .int .u64 0, .int .u64 0, .int .u64 0, .int .u64 0, .int .u64 0] 26))
       have z6 := pt_new6 w6)
    | (with_reducible refine wpList_store_n rfl 26 (.tmp 8) (.tmp 22) rfl w6.heap.size (limsL [y.1, y.2]) 8 rfl rfl rfl (limsL [0, 0]) (by with_unfolding_all exact z6) Tryd.infoPt rfl w.heap.size w (by with_unfolding_all exact F6a.below) F6.below.size ?_
       intro w7 H7 o7 s7 b7
       have F7 := Bs.add (by with_unfolding_all exact F6a) F6.len H7 o7 b7
       clear s7)
    | fail)
  have hg6 := F6.len
  clear hL3 hb5 F4 hb6 F5 F6a z6 o7 H7 b7 F6
  generalize w6.heap.size = g8 at *
  have hL2 := F7.getN (g := w.heap.size) (l := lims a) (by repeat (first | exact List.mem_cons_self .. | refine List.mem_cons_of_mem _ ?_))
  have hL3 := F7.getN (g := w.heap.size + 1) (l := lims b) (by repeat (first | exact List.mem_cons_self .. | refine List.mem_cons_of_mem _ ?_))
  go_upto_region 5 with (first
    | (with_reducible refine wpList_load_n rfl 28 (.tmp 2) rfl (w.heap.size) rfl (lims a) 4 hL2 rfl Tryd.underlying28 Tryd.infoSc ?_)
    | (with_reducible refine wpList_load_n rfl 28 (.tmp 3) rfl (w.heap.size + 1) rfl (lims b) 4 hL3 rfl Tryd.underlying28 Tryd.infoSc ?_)
    | (go_at_call 20
       with_reducible refine (K5.out _ (LK.out _ F7.below)).mono ?_
       rintro e w8 ⟨rfl, hb8⟩
       have F8 := Bs.stay _ _ F7 hb8
       have F8a := Bs.stay _ _ F8 ((Below.refl _ w8).alloc (Nat.le_refl _) (.cells #[.int .u64 0, .int .u64 0, .int .u64 0, .int .u64 0] 28))
       have z8 := Scq.sc_new w8)
    | (with_reducible refine wpList_store_n rfl 28 (.tmp 10) (.tmp 26) rfl w8.heap.size (lims s_s) 4 rfl rfl rfl (lims 0) (by with_unfolding_all exact z8) Tryd.infoSc rfl w.heap.size w (by with_unfolding_all exact F8a.below) F8.below.size ?_
       intro w9 H9 o9 s9 b9
       have F9 := Bs.add (by with_unfolding_all exact F8a) F8.len H9 o9 b9
       clear s9)
    | fail)
  have hg8 := F8.len
  clear hL2 hL3 hb8 F7 F8a z8 o9 H9 b9 F8
  generalize w8.heap.size = g10 at *
  refine wp_region_lex 28 (fun _ => false) (fun _ _ _ => True) (Bs w (g10 + 1) [(g10, 28, ((lims s_s).map nv).toArray), (g8, 26, ((limsL [y.1, y.2]).map nv).toArray), (g6, 26, ((limsL [x.1, x.2]).map nv).toArray), (w.heap.size + 1, 28, ((lims b).map nv).toArray), (w.heap.size, 28, ((lims a).map nv).toArray)]) (by kernel_rfl) (by kernel_rfl) F9.drew Bs.stay (fun _ _ _ _ _ _ => trivial) lex_none ?_
  simp only [List.take_succ_cons, List.take_zero, List.drop_succ_cons, List.drop_zero]
  refine lexW_value (v := ?_) (by rfl) (by rfl) (fun W hW => ?_) ?_
  rotate_left
  · skip; go_simp <;> with_reducible rfl
  simp only [Act.put, List.setIfInBounds_toArray, List.set_cons_zero, List.set_cons_succ]
  refine lexW_value (v := ?_) (by rfl) (by rfl) (fun W hW => ?_) ?_
  rotate_left
  · skip; go_simp <;> with_reducible rfl
  simp only [Act.put, List.setIfInBounds_toArray, List.set_cons_zero, List.set_cons_succ]
  refine lexW_value (v := ?_) (by rfl) (by rfl) (fun W hW => ?_) ?_
  rotate_left
  · skip; go_simp <;> with_reducible rfl
  simp only [Act.put, List.setIfInBounds_toArray, List.set_cons_zero, List.set_cons_succ]
  refine lexW_value (v := ?_) (by rfl) (by rfl) (fun W hW => ?_) ?_
  rotate_left
  · skip; go_simp <;> with_reducible rfl
  simp only [Act.put, List.setIfInBounds_toArray, List.set_cons_zero, List.set_cons_succ]
  refine lexW_value (v := ?_) (by rfl) (by rfl) (fun W hW => ?_) ?_
  rotate_left
  · skip; go_simp <;> with_reducible rfl
  simp only [Act.put, List.setIfInBounds_toArray, List.set_cons_zero, List.set_cons_succ]
  refine lexW_value (v := ?_) (by rfl) (by rfl) (fun W hW => ?_) ?_
  rotate_left
  · skip; go_simp <;> with_reducible rfl
  simp only [Act.put, List.setIfInBounds_toArray, List.set_cons_zero, List.set_cons_succ]
  refine lexW_value (v := ?_) (by rfl) (by rfl) (fun W hW => ?_) ?_
  rotate_left
  · skip; go_simp <;> with_reducible rfl
  simp only [Act.put, List.setIfInBounds_toArray, List.set_cons_zero, List.set_cons_succ]
  refine lexW_value (v := ?_) (by rfl) (by rfl) (fun W hW => ?_) ?_
  rotate_left
  · skip; go_simp <;> with_reducible rfl
  simp only [Act.put, List.setIfInBounds_toArray, List.set_cons_zero, List.set_cons_succ]
  refine lexW_value (v := ?_) (by rfl) (by rfl) (fun W hW => ?_) ?_
  rotate_left
  · skip; go_simp <;> with_reducible rfl
  simp only [Act.put, List.setIfInBounds_toArray, List.set_cons_zero, List.set_cons_succ]
  refine lexW_value (v := ?_) (by rfl) (by rfl) (fun W hW => ?_) ?_
  rotate_left
  · skip; go_simp <;> with_reducible rfl
  simp only [Act.put, List.setIfInBounds_toArray, List.set_cons_zero, List.set_cons_succ]
  refine lexW_value (v := ?_) (by rfl) (by rfl) (fun W hW => ?_) ?_
  rotate_left
  · have l1 := run_ldS (hW.getN (g := g10) (l := lims s_s) (by repeat (first | exact List.mem_cons_self .. | refine List.mem_cons_of_mem _ ?_))); go_simp <;> with_reducible rfl
  simp only [Act.put, List.setIfInBounds_toArray, List.set_cons_zero, List.set_cons_succ]
  refine' lexW_call (by rfl) (by rfl) (fun W hW => ?_) (fun W hW => ?_) ?_
  rotate_left 3
  · go_simp <;> first | with_reducible rfl | exact ⟨rfl, rfl⟩
  · with_reducible exact K6.out W (LK.out _ hW.below)
  simp only [Act.put, List.setIfInBounds_toArray, List.set_cons_zero, List.set_cons_succ]
  refine lexW_value (v := ?_) (by rfl) (by rfl) (fun W hW => ?_) ?_
  rotate_left
  · have l1 := run_ldP (hW.getN (g := g6) (l := limsL [x.1, x.2]) (by repeat (first | exact List.mem_cons_self .. | refine List.mem_cons_of_mem _ ?_))); go_simp <;> with_reducible rfl
  simp only [Act.put, List.setIfInBounds_toArray, List.set_cons_zero, List.set_cons_succ]
  refine lexW_value (v := ?_) (by rfl) (by rfl) (fun W hW => ?_) ?_
  rotate_left
  · have l1 := run_ldP (hW.getN (g := g8) (l := limsL [y.1, y.2]) (by repeat (first | exact List.mem_cons_self .. | refine List.mem_cons_of_mem _ ?_))); go_simp <;> with_reducible rfl
  simp only [Act.put, List.setIfInBounds_toArray, List.set_cons_zero, List.set_cons_succ]
  refine' lexW_call (by rfl) (by rfl) (fun W hW => ?_) (fun W hW => ?_) ?_
  rotate_left 3
  · go_simp <;> first | with_reducible rfl | exact ⟨rfl, rfl⟩
  · with_reducible exact K7.out W (LK.out _ hW.below)
  simp only [Act.put, List.setIfInBounds_toArray, List.set_cons_zero, List.set_cons_succ]
  refine' lexW_call (by rfl) (by rfl) (fun W hW => ?_) (fun W hW => ?_) ?_
  rotate_left 3
  · go_simp <;> first | with_reducible rfl | exact ⟨rfl, rfl⟩
  · with_reducible exact K8.out W (LK.out _ hW.below)
  simp only [Act.put, List.setIfInBounds_toArray, List.set_cons_zero, List.set_cons_succ]
  refine lexW_value (v := ?_) (by rfl) (by rfl) (fun W hW => ?_) ?_
  rotate_left
  · skip; go_simp <;> with_reducible rfl
  simp only [Act.put, List.setIfInBounds_toArray, List.set_cons_zero, List.set_cons_succ]
  refine lexW_value (v := ?_) (by rfl) (by rfl) (fun W hW => ?_) ?_
  rotate_left
  · skip; go_simp <;> with_reducible rfl
  simp only [Act.put, List.setIfInBounds_toArray, List.set_cons_zero, List.set_cons_succ]
  refine lexW_value (v := ?_) (by rfl) (by rfl) (fun W hW => ?_) ?_
  rotate_left
  · skip; go_simp <;> with_reducible rfl
  simp only [Act.put, List.setIfInBounds_toArray, List.set_cons_zero, List.set_cons_succ]
  refine lexW_value (v := ?_) (by rfl) (by rfl) (fun W hW => ?_) ?_
  rotate_left
  · have l1 := run_ldP (hW.getN (g := g6) (l := limsL [x.1, x.2]) (by repeat (first | exact List.mem_cons_self .. | refine List.mem_cons_of_mem _ ?_))); go_simp <;> with_reducible rfl
  simp only [Act.put, List.setIfInBounds_toArray, List.set_cons_zero, List.set_cons_succ]
  refine' lexW_call (by rfl) (by rfl) (fun W hW => ?_) (fun W hW => ?_) ?_
  rotate_left 3
  · go_simp <;> first | with_reducible rfl | exact ⟨rfl, rfl⟩
  · with_reducible exact K9.out W (LK.out _ hW.below)
  simp only [Act.put, List.setIfInBounds_toArray, List.set_cons_zero, List.set_cons_succ]
  refine lexW_value (v := ?_) (by rfl) (by rfl) (fun W hW => ?_) ?_
  rotate_left
  · have l1 := run_ldS (hW.getN (g := w.heap.size) (l := lims a) (by repeat (first | exact List.mem_cons_self .. | refine List.mem_cons_of_mem _ ?_))); go_simp <;> with_reducible rfl
  simp only [Act.put, List.setIfInBounds_toArray, List.set_cons_zero, List.set_cons_succ]
  refine lexW_value (v := ?_) (by rfl) (by rfl) (fun W hW => ?_) ?_
  rotate_left
  · skip; go_simp <;> with_reducible rfl
  simp only [Act.put, List.setIfInBounds_toArray, List.set_cons_zero, List.set_cons_succ]
  refine' lexW_call (by rfl) (by rfl) (fun W hW => ?_) (fun W hW => ?_) ?_
  rotate_left 3
  · go_simp <;> first | with_reducible rfl | exact ⟨rfl, rfl⟩
  · with_reducible exact K10.out W (LK.out _ hW.below)
  simp only [Act.put, List.setIfInBounds_toArray, List.set_cons_zero, List.set_cons_succ]
  refine lexW_value (v := ?_) (by rfl) (by rfl) (fun W hW => ?_) ?_
  rotate_left
  · skip; go_simp <;> with_reducible rfl
  simp only [Act.put, List.setIfInBounds_toArray, List.set_cons_zero, List.set_cons_succ]
  refine lexW_value (v := ?_) (by rfl) (by rfl) (fun W hW => ?_) ?_
  rotate_left
  · skip; go_simp <;> with_reducible rfl
  simp only [Act.put, List.setIfInBounds_toArray, List.set_cons_zero, List.set_cons_succ]
  refine lexW_value (v := ?_) (by rfl) (by rfl) (fun W hW => ?_) ?_
  rotate_left
  · skip; go_simp <;> with_reducible rfl
  simp only [Act.put, List.setIfInBounds_toArray, List.set_cons_zero, List.set_cons_succ]
  refine lexW_value (v := ?_) (by rfl) (by rfl) (fun W hW => ?_) ?_
  rotate_left
  · skip; go_simp <;> with_reducible rfl
  simp only [Act.put, List.setIfInBounds_toArray, List.set_cons_zero, List.set_cons_succ]
  refine lexW_nil (fun b10 W10 F10 E10 => ?_)
  obtain rfl := lexEnd_none E10
  go_wp2
  go_ret
  exact ⟨rfl, F10.below⟩
end
end Pnt
end Go.Proofs.YtlfkohanfeejfaaDoor
