/-
  PointApart: unlike points have unlike bytes, and bytes with the highest bit turned are what is below none, or no point (an X of 0).
-/
import Derived.Test.YtlfkohanfeejfaaDoorMbi
namespace Go.Proofs.YtlfkohanfeejfaaDoor
open Go.RowKit
namespace Pnt
open Crv

section
attribute [local go_sem ↓] load_pt load_s6 load_fe Byt.load_by

set_option maxRecDepth 100000 in
set_option maxHeartbeats 8000000 in
theorem PointApart_zero (p : Nat × Nat) (q : Nat × Nat) (w : World) (ok_p : ok p) (ok_q : ok q) (hz0 : (pt p).1.1 = 0) (L0 : Laid w) :
    Calls Tryd.prog 5 #[.agg ((limsL [p.1, p.2]).map nv).toArray, .agg ((limsL [q.1, q.2]).map nv).toArray] w fun e w' => e = .returned (.bool true) ∧ Below w.heap.size w w' := by
  have hsz0 := L0.size
  have LK : Hid (∀ W, Below w.heap.size w W → Laid W) := Lib.hid fun W hb => L0.keep hb hsz0
  have AW : Hid (∀ W, Laid W → Calls Tryd.prog 7 #[] W fun e w' => e = .returned (.bool true) ∧ Below W.heap.size W w') := Lib.hid fun W L => awake_any W L
  obtain ⟨pP, q_p⟩ : ∃ zz : Pt, pt p = zz := ⟨_, rfl⟩
  have hz := q_p ▸ hz0
  clear hz0
  obtain ⟨qP, q_q⟩ : ∃ zz : Pt, pt q = zz := ⟨_, rfl⟩
  obtain ⟨l_a, d_l_a⟩ : ∃ zz : List UInt8, zz = enc pP.1 := ⟨_, rfl⟩
  have HL_l_a : Hid (l_a.length = 32) := Lib.hid (by rw [d_l_a]; exact enc_length _)
  obtain ⟨l_b, d_l_b⟩ : ∃ zz : List UInt8, zz = enc qP.1 := ⟨_, rfl⟩
  have HL_l_b : Hid (l_b.length = 32) := Lib.hid (by rw [d_l_b]; exact enc_length _)
  obtain ⟨l_c, d_l_c⟩ : ∃ zz : List UInt8, zz = flip pP.1 := ⟨_, rfl⟩
  have HL_l_c : Hid (l_c.length = 32) := Lib.hid (by rw [d_l_c]; exact flip_length _)
  have HS : Hid (∀ h31 : 31 < l_a.length, l_a.set 31 (l_a[31]'h31 ^^^ 128) = l_c) := Lib.hid (by subst d_l_a d_l_c; exact fun h => flip_set _ h)
  obtain ⟨yP, d_y⟩ : ∃ zz : Pt, zz = pP := ⟨_, rfl⟩
  obtain ⟨y, n_y⟩ : ∃ zz : Nat × Nat, zz = nums yP := ⟨_, rfl⟩
  have ok_y : ok y := by rw [n_y]; exact nums_ok _
  have q_y : pt y = yP := by rw [n_y]; exact pt_nums _
  obtain ⟨xP, d_x⟩ : ∃ zz : Pt, zz = Pt.none := ⟨_, rfl⟩
  obtain ⟨x, n_x⟩ : ∃ zz : Nat × Nat, zz = nums xP := ⟨_, rfl⟩
  have ok_x : ok x := by rw [n_x]; exact nums_ok _
  have q_x : pt x = xP := by rw [n_x]; exact pt_nums _
  obtain ⟨b_s, d_b_s⟩ : ∃ zz : Bool, zz = decide (pP = qP) := ⟨_, rfl⟩
  have eab : ∀ W, (binOp .eql 27 (.agg (l_a.map bv).toArray) (.agg (l_b.map bv).toArray)).run Tryd.prog W = .ok (.bool b_s) W := fun W => by
    have h := Byt.run_eql_b l_a l_b HL_l_a.out HL_l_b.out W
    rw [show decide (l_a = l_b) = b_s from (by rw [d_b_s, d_l_a, d_l_b]; exact decide_eq_decide.2 ⟨fun h => Subtype.ext (enc_inj pP.2 qP.2 h), fun h => by rw [h]⟩)] at h
    exact h
  have ez : ∀ W, (binOp .eql 24 (.agg ((lims y.1).map nv).toArray) (.agg #[.int .u64 0, .int .u64 0, .int .u64 0, .int .u64 0])).run Tryd.prog W = .ok (.bool true) W := fun W => by
    have h := run_eql_fe y.1 0 W ok_y.1 (by decide)
    rw [← lit_fe0, show decide (y.1 = 0) = true from (by rw [n_y, d_y]; exact decide_eq_true (congrArg Fin.val hz))] at h
    exact h
  have gz := fun x y c d W => run_guard_fe x y c d W
  have K1 : Hid (∀ W, Laid W → Calls Tryd.prog 10 #[.agg ((limsL [p.1, p.2]).map nv).toArray] W fun e w' => e = .returned (.agg (l_a.map bv).toArray) ∧ Below W.heap.size W w') := Lib.hid fun W L => by
    have h := encode_q p W ok_p L
    rw [show enc (pt p).1 = l_a from (by rw [q_p, d_l_a])] at h
    exact h
  have K2 : Hid (∀ W, Laid W → Calls Tryd.prog 10 #[.agg ((limsL [q.1, q.2]).map nv).toArray] W fun e w' => e = .returned (.agg (l_b.map bv).toArray) ∧ Below W.heap.size W w') := Lib.hid fun W L => by
    have h := encode_q q W ok_q L
    rw [show enc (pt q).1 = l_b from (by rw [q_q, d_l_b])] at h
    exact h
  have K3 : Hid (∀ W, Laid W → Calls Tryd.prog 8 #[.agg (l_c.map bv).toArray] W fun e w' => e = .returned (.tuple #[.agg ((limsL [x.1, x.2]).map nv).toArray, .int .i64 70]) ∧ Below W.heap.size W w') := Lib.hid fun W L => by
    have h := decode_q l_c W HL_l_c.out L
    rw [show dnum l_c = x from (by rw [d_l_c, (dnum_no (flip_none pP.2 hz)).1, n_x, d_x]), show derr l_c = 70 from (by rw [d_l_c]; exact (dnum_no (flip_none pP.2 hz)).2)] at h
    exact h
  have K4 : Hid (∀ W, Laid W → Calls Tryd.prog 8 #[.agg (l_a.map bv).toArray] W fun e w' => e = .returned (.tuple #[.agg ((limsL [y.1, y.2]).map nv).toArray, .int .i64 0]) ∧ Below W.heap.size W w') := Lib.hid fun W L => by
    have h := decode_q l_a W HL_l_a.out L
    rw [show dnum l_a = y from (by rw [d_l_a, dnum_enc, n_y, d_y]), show derr l_a = 0 from (by rw [d_l_a, derr_enc])] at h
    exact h
  have K5 : Hid (∀ W, Laid W → Calls Tryd.prog 17 #[.agg ((limsL [p.1, p.2]).map nv).toArray, .agg ((limsL [q.1, q.2]).map nv).toArray] W fun e w' => e = .returned (.bool b_s) ∧ Below W.heap.size W w') := Lib.hid fun W L => by
    have h := same_q p q W ok_p ok_q L
    rw [show decide (pt p = pt q) = b_s from (by rw [q_p, q_q, d_b_s])] at h
    exact h
  have gf := fun x y c d W => run_guard_pt x y c d W
  have gb := fun x y c d W => Byt.run_guard_b x y c d W
  clear L0 hsz0 q_p q_q ok_p ok_q d_l_a d_l_b d_l_c d_y n_y ok_y q_y d_x n_x ok_x q_x d_b_s hz
  have F0 : Bs w (w.heap.size + 1 + 1) [(w.heap.size + 1, 26, ((limsL [q.1, q.2]).map nv).toArray), (w.heap.size, 26, ((limsL [p.1, p.2]).map nv).toArray)] ((w.alloc (.cells ((limsL [p.1, p.2]).map nv).toArray 26)).alloc (.cells ((limsL [q.1, q.2]).map nv).toArray 26)) := ((Bs.nil).alloc (by rfl)).alloc (by simp only [World.size_alloc])
  go_enter Tryd.func5, Tryd.ntmps5
  go_upto_region 1 with (fail)
  generalize ((w.alloc (.cells ((limsL [p.1, p.2]).map nv).toArray 26)).alloc (.cells ((limsL [q.1, q.2]).map nv).toArray 26)) = wv at *
  go_upto_region 2 with (first
    | (go_at_call 7
       with_reducible refine (AW.out _ (LK.out _ F0.below)).mono ?_
       rintro e w1 ⟨rfl, hb1⟩
       have F1 := Bs.stay _ _ F0 hb1)
    | fail)
  clear F0 hb1
  have hL2 := F1.getN (g := w.heap.size) (l := limsL [p.1, p.2]) (by repeat (first | exact List.mem_cons_self .. | refine List.mem_cons_of_mem _ ?_))
  go_upto_region 3 with (first
    | (with_reducible refine wpList_load_pt rfl 26 (.tmp 2) rfl (w.heap.size) rfl (limsL [p.1, p.2]) 8 hL2 rfl Tryd.underlying26 Tryd.infoPt ?_)
    | (go_at_call 10
       with_reducible refine (K1.out _ (LK.out _ F1.below)).mono ?_
       rintro e w2 ⟨rfl, hb2⟩
       have F2 := Bs.stay _ _ F1 hb2
       have F2a := Bs.stay _ _ F2 ((Below.refl _ w2).alloc (Nat.le_refl _) (.cells zb 27))
       have z2 := b32_new w2)
    | (with_reducible refine wpList_store_b rfl 27 (.tmp 6) (.tmp 16) rfl w2.heap.size l_a rfl rfl HL_l_a.out (List.replicate 32 0) (by with_unfolding_all exact z2) Tryd.infoB32 (by simp) w.heap.size w (by with_unfolding_all exact F2a.below) F2.below.size ?_
       intro w3 H3 o3 s3 b3
       have F3 := Bs.add (by with_unfolding_all exact F2a) F2.len H3 o3 b3
       clear s3)
    | fail)
  have hg2 := F2.len
  clear hL2 hb2 F1 F2a z2 o3 H3 b3 F2
  generalize w2.heap.size = g6 at *
  have hL3 := F3.getN (g := w.heap.size + 1) (l := limsL [q.1, q.2]) (by repeat (first | exact List.mem_cons_self .. | refine List.mem_cons_of_mem _ ?_))
  go_upto_region 4 with (first
    | (with_reducible refine wpList_load_pt rfl 26 (.tmp 3) rfl (w.heap.size + 1) rfl (limsL [q.1, q.2]) 8 hL3 rfl Tryd.underlying26 Tryd.infoPt ?_)
    | (go_at_call 10
       with_reducible refine (K2.out _ (LK.out _ F3.below)).mono ?_
       rintro e w4 ⟨rfl, hb4⟩
       have F4 := Bs.stay _ _ F3 hb4
       have F4a := Bs.stay _ _ F4 ((Below.refl _ w4).alloc (Nat.le_refl _) (.cells zb 27))
       have z4 := b32_new w4)
    | (with_reducible refine wpList_store_b rfl 27 (.tmp 7) (.tmp 18) rfl w4.heap.size l_b rfl rfl HL_l_b.out (List.replicate 32 0) (by with_unfolding_all exact z4) Tryd.infoB32 (by simp) w.heap.size w (by with_unfolding_all exact F4a.below) F4.below.size ?_
       intro w5 H5 o5 s5 b5
       have F5 := Bs.add (by with_unfolding_all exact F4a) F4.len H5 o5 b5
       clear s5)
    | fail)
  have hg4 := F4.len
  clear hL3 hb4 F3 F4a z4 o5 H5 b5 F4
  generalize w4.heap.size = g7 at *
  have hL := F5.getB (g := g6) (l := l_a) (by repeat (first | exact List.mem_cons_self .. | refine List.mem_cons_of_mem _ ?_))
  have Fa := Bs.stay _ _ F5 ((Below.refl _ w5).alloc (Nat.le_refl _) (.cells zb 27))
  have za := b32_new w5
  go_upto_region 5 with (first
    | (with_reducible refine wpList_load_b rfl 27 (.tmp 6) rfl (g6) rfl l_a hL HL_l_a.out Tryd.underlying27 Tryd.infoB32 ?_)
    | (with_reducible refine wpList_store_b rfl 27 (.tmp 8) (.tmp 19) rfl w5.heap.size l_a rfl rfl HL_l_a.out (List.replicate 32 0) (by with_unfolding_all exact za) Tryd.infoB32 (by simp) w.heap.size w (by with_unfolding_all exact Fa.below) F5.below.size ?_
       intro w6 H6 o6 s6 b6
       have F6 := Bs.add (by with_unfolding_all exact Fa) F5.len H6 o6 b6
       clear s6)
    | fail)
  have hg5 := F5.len
  clear hL Fa za o6 H6 b6 F5
  generalize w5.heap.size = g8 at *
  have h31 : 31 < l_a.length := by rw [HL_l_a.out]; omega
  have hB := F6.getB (g := g8) (l := l_a) (by repeat (first | exact List.mem_cons_self .. | refine List.mem_cons_of_mem _ ?_))
  have c31 := hB.cell h31
  have f31 := hB.frozen 31
  have hxo := xor_high (l_a[31]'h31)
  have F7 := Bs.byte F6 (by simp only [List.all_cons, List.all_nil, Bool.and_true, Bool.and_eq_true, bne_iff_ne, ne_eq]; omega) (by omega) 31 (l_a[31]'h31 ^^^ 128)
  rw [HS.out h31] at F7
  clear HS
  generalize (l_a[31]'h31 ^^^ 128).toNat = x128 at *
  generalize (l_a[31]'h31).toNat = x31 at *
  clear hB h31 F6
  go_upto_region 6 with (fail)
  generalize w6.setCell ⟨g8, 31, none⟩ (.int .u8 (x128 : Int)) = w7 at *
  clear c31 f31 hxo
  have hL8 := F7.getB (g := g8) (l := l_c) (by repeat (first | exact List.mem_cons_self .. | refine List.mem_cons_of_mem _ ?_))
  go_upto_region 7 with (first
    | (with_reducible refine wpList_load_b rfl 27 (.tmp 8) rfl (g8) rfl l_c hL8 HL_l_c.out Tryd.underlying27 Tryd.infoB32 ?_)
    | (go_at_call 8
       with_reducible refine (K3.out _ (LK.out _ F7.below)).mono ?_
       rintro e w8 ⟨rfl, hb8⟩
       have F8 := Bs.stay _ _ F7 hb8
       have F8a := Bs.stay _ _ F8 ((Below.refl _ w8).alloc (Nat.le_refl _) (.cells #[.int .u64 0, .int .u64 0, .int .u64 0, .int .u64 0, .int .u64 0, .int .u64 0, .int .u64 0, .int .u64 0] 26))
       have z8 := pt_new6 w8)
    | (with_reducible refine wpList_store_n rfl 26 (.tmp 9) (.tmp 27) rfl w8.heap.size (limsL [x.1, x.2]) 8 rfl rfl rfl (limsL [0, 0]) (by with_unfolding_all exact z8) Tryd.infoPt rfl w.heap.size w (by with_unfolding_all exact F8a.below) F8.below.size ?_
       intro w9 H9 o9 s9 b9
       have F9 := Bs.add (by with_unfolding_all exact F8a) F8.len H9 o9 b9
       clear s9)
    | fail)
  have hg8 := F8.len
  clear hL8 hb8 F7 F8a z8 o9 H9 b9 F8
  generalize w8.heap.size = g9 at *
  have hL6 := F9.getB (g := g6) (l := l_a) (by repeat (first | exact List.mem_cons_self .. | refine List.mem_cons_of_mem _ ?_))
  go_upto_region 8 with (first
    | (with_reducible refine wpList_load_b rfl 27 (.tmp 6) rfl (g6) rfl l_a hL6 HL_l_a.out Tryd.underlying27 Tryd.infoB32 ?_)
    | (go_at_call 8
       with_reducible refine (K4.out _ (LK.out _ F9.below)).mono ?_
       rintro e w10 ⟨rfl, hb10⟩
       have F10 := Bs.stay _ _ F9 hb10
       have F10a := Bs.stay _ _ F10 ((Below.refl _ w10).alloc (Nat.le_refl _) (.cells #[.int .u64 0, .int .u64 0, .int .u64 0, .int .u64 0, .int .u64 0, .int .u64 0, .int .u64 0, .int .u64 0] 26))
       have z10 := pt_new6 w10)
    | (with_reducible refine wpList_store_n rfl 26 (.tmp 11) (.tmp 32) rfl w10.heap.size (limsL [y.1, y.2]) 8 rfl rfl rfl (limsL [0, 0]) (by with_unfolding_all exact z10) Tryd.infoPt rfl w.heap.size w (by with_unfolding_all exact F10a.below) F10.below.size ?_
       intro w11 H11 o11 s11 b11
       have F11 := Bs.add (by with_unfolding_all exact F10a) F10.len H11 o11 b11
       clear s11)
    | fail)
  have hg10 := F10.len
  clear hL6 hb10 F9 F10a z10 o11 H11 b11 F10
  generalize w10.heap.size = g11 at *
  have hf : (loadFe 24 ⟨g11, 0, none⟩).run Tryd.prog w11 = .ok (.agg ((lims y.1).map nv).toArray) w11 := run_loadFe_at (F11.getN (g := g11) (l := limsL [y.1, y.2]) (by repeat (first | exact List.mem_cons_self .. | refine List.mem_cons_of_mem _ ?_))) 0 (by simp)
  go_upto_region 9 with (fail)
  clear hf
  refine wp_region_lex 35 (fun _ => false) (fun _ _ _ => True) (Bs w (g11 + 1) [(g11, 26, ((limsL [y.1, y.2]).map nv).toArray), (g9, 26, ((limsL [x.1, x.2]).map nv).toArray), (g8, 27, (l_c.map bv).toArray), (g7, 27, (l_b.map bv).toArray), (g6, 27, (l_a.map bv).toArray), (w.heap.size + 1, 26, ((limsL [q.1, q.2]).map nv).toArray), (w.heap.size, 26, ((limsL [p.1, p.2]).map nv).toArray)]) (by kernel_rfl) (by kernel_rfl) F11.drew Bs.stay (fun _ _ _ _ _ _ => trivial) lex_none ?_
  simp only [List.take_succ_cons, List.take_zero, List.drop_succ_cons, List.drop_zero]
  refine lexW_value (v := ?_) (by rfl) (by rfl) (fun W hW => ?_) ?_
  rotate_left
  · skip; go_simp <;> with_reducible rfl
  simp only [Act.put, List.setIfInBounds_toArray, List.set_cons_zero, List.set_cons_succ]
  refine lexW_value (v := ?_) (by rfl) (by rfl) (fun W hW => ?_) ?_
  rotate_left
  · skip; go_simp <;> with_reducible rfl
  simp only [Act.put, List.setIfInBounds_toArray, List.set_cons_zero, List.set_cons_succ]
  refine lexW_value (v := ?_) (by rfl) (by rfl) (fun W hW => ?_) ?_
  rotate_left
  · have l1 := Byt.run_loadBy (hW.getB (g := g6) (l := l_a) (by repeat (first | exact List.mem_cons_self .. | refine List.mem_cons_of_mem _ ?_))) HL_l_a.out; go_simp <;> with_reducible rfl
  simp only [Act.put, List.setIfInBounds_toArray, List.set_cons_zero, List.set_cons_succ]
  refine lexW_value (v := ?_) (by rfl) (by rfl) (fun W hW => ?_) ?_
  rotate_left
  · have l1 := Byt.run_loadBy (hW.getB (g := g7) (l := l_b) (by repeat (first | exact List.mem_cons_self .. | refine List.mem_cons_of_mem _ ?_))) HL_l_b.out; go_simp <;> with_reducible rfl
  simp only [Act.put, List.setIfInBounds_toArray, List.set_cons_zero, List.set_cons_succ]
  refine lexW_value (v := ?_) (by rfl) (by rfl) (fun W hW => ?_) ?_
  rotate_left
  · skip; go_simp <;> with_reducible rfl
  simp only [Act.put, List.setIfInBounds_toArray, List.set_cons_zero, List.set_cons_succ]
  refine lexW_value (v := ?_) (by rfl) (by rfl) (fun W hW => ?_) ?_
  rotate_left
  · have l1 := run_ldP (hW.getN (g := w.heap.size) (l := limsL [p.1, p.2]) (by repeat (first | exact List.mem_cons_self .. | refine List.mem_cons_of_mem _ ?_))); go_simp <;> with_reducible rfl
  simp only [Act.put, List.setIfInBounds_toArray, List.set_cons_zero, List.set_cons_succ]
  refine lexW_value (v := ?_) (by rfl) (by rfl) (fun W hW => ?_) ?_
  rotate_left
  · have l1 := run_ldP (hW.getN (g := w.heap.size + 1) (l := limsL [q.1, q.2]) (by repeat (first | exact List.mem_cons_self .. | refine List.mem_cons_of_mem _ ?_))); go_simp <;> with_reducible rfl
  simp only [Act.put, List.setIfInBounds_toArray, List.set_cons_zero, List.set_cons_succ]
  refine' lexW_call (by rfl) (by rfl) (fun W hW => ?_) (fun W hW => ?_) ?_
  rotate_left 3
  · go_simp <;> first | with_reducible rfl | exact ⟨rfl, rfl⟩
  · with_reducible exact K5.out W (LK.out _ hW.below)
  simp only [Act.put, List.setIfInBounds_toArray, List.set_cons_zero, List.set_cons_succ]
  refine lexW_value (v := ?_) (by rfl) (by rfl) (fun W hW => ?_) ?_
  rotate_left
  · skip; go_simp <;> with_reducible rfl
  simp only [Act.put, List.setIfInBounds_toArray, List.set_cons_zero, List.set_cons_succ]
  refine lexW_value (v := ?_) (by rfl) (by rfl) (fun W hW => ?_) ?_
  rotate_left
  · skip; go_simp <;> with_reducible rfl
  simp only [Act.put, List.setIfInBounds_toArray, List.set_cons_zero, List.set_cons_succ]
  refine lexW_value (v := ?_) (by rfl) (by rfl) (fun W hW => ?_) ?_
  rotate_left
  · skip; go_simp <;> with_reducible rfl
  simp only [Act.put, List.setIfInBounds_toArray, List.set_cons_zero, List.set_cons_succ]
  refine lexW_value (v := ?_) (by rfl) (by rfl) (fun W hW => ?_) ?_
  rotate_left
  · skip; go_simp <;> with_reducible rfl
  simp only [Act.put, List.setIfInBounds_toArray, List.set_cons_zero, List.set_cons_succ]
  refine lexW_value (v := ?_) (by rfl) (by rfl) (fun W hW => ?_) ?_
  rotate_left
  · skip; go_simp <;> with_reducible rfl
  simp only [Act.put, List.setIfInBounds_toArray, List.set_cons_zero, List.set_cons_succ]
  refine lexW_value (v := ?_) (by rfl) (by rfl) (fun W hW => ?_) ?_
  rotate_left
  · skip; go_simp <;> with_reducible rfl
  simp only [Act.put, List.setIfInBounds_toArray, List.set_cons_zero, List.set_cons_succ]
  refine lexW_value (v := ?_) (by rfl) (by rfl) (fun W hW => ?_) ?_
  rotate_left
  · skip; go_simp <;> with_reducible rfl
  simp only [Act.put, List.setIfInBounds_toArray, List.set_cons_zero, List.set_cons_succ]
  refine lexW_value (v := ?_) (by rfl) (by rfl) (fun W hW => ?_) ?_
  rotate_left
  · skip; go_simp <;> with_reducible rfl
  simp only [Act.put, List.setIfInBounds_toArray, List.set_cons_zero, List.set_cons_succ]
  refine lexW_value (v := ?_) (by rfl) (by rfl) (fun W hW => ?_) ?_
  rotate_left
  · skip; go_simp <;> with_reducible rfl
  simp only [Act.put, List.setIfInBounds_toArray, List.set_cons_zero, List.set_cons_succ]
  refine lexW_value (v := ?_) (by rfl) (by rfl) (fun W hW => ?_) ?_
  rotate_left
  · skip; go_simp <;> with_reducible rfl
  simp only [Act.put, List.setIfInBounds_toArray, List.set_cons_zero, List.set_cons_succ]
  refine lexW_value (v := ?_) (by rfl) (by rfl) (fun W hW => ?_) ?_
  rotate_left
  · skip; go_simp <;> with_reducible rfl
  simp only [Act.put, List.setIfInBounds_toArray, List.set_cons_zero, List.set_cons_succ]
  refine lexW_value (v := ?_) (by rfl) (by rfl) (fun W hW => ?_) ?_
  rotate_left
  · skip; go_simp <;> with_reducible rfl
  simp only [Act.put, List.setIfInBounds_toArray, List.set_cons_zero, List.set_cons_succ]
  refine lexW_value (v := ?_) (by rfl) (by rfl) (fun W hW => ?_) ?_
  rotate_left
  · skip; go_simp <;> with_reducible rfl
  simp only [Act.put, List.setIfInBounds_toArray, List.set_cons_zero, List.set_cons_succ]
  refine lexW_off (by rfl) (by rfl) ?_
  simp only [Act.put, List.setIfInBounds_toArray, List.set_cons_zero, List.set_cons_succ]
  refine lexW_off (by rfl) (by rfl) ?_
  simp only [Act.put, List.setIfInBounds_toArray, List.set_cons_zero, List.set_cons_succ]
  refine lexW_off (by rfl) (by rfl) ?_
  simp only [Act.put, List.setIfInBounds_toArray, List.set_cons_zero, List.set_cons_succ]
  refine lexW_off (by rfl) (by rfl) ?_
  simp only [Act.put, List.setIfInBounds_toArray, List.set_cons_zero, List.set_cons_succ]
  refine lexW_off (by rfl) (by rfl) ?_
  simp only [Act.put, List.setIfInBounds_toArray, List.set_cons_zero, List.set_cons_succ]
  refine lexW_off (by rfl) (by rfl) ?_
  simp only [Act.put, List.setIfInBounds_toArray, List.set_cons_zero, List.set_cons_succ]
  refine lexW_off (by rfl) (by rfl) ?_
  simp only [Act.put, List.setIfInBounds_toArray, List.set_cons_zero, List.set_cons_succ]
  refine lexW_off (by rfl) (by rfl) ?_
  simp only [Act.put, List.setIfInBounds_toArray, List.set_cons_zero, List.set_cons_succ]
  refine lexW_off (by rfl) (by rfl) ?_
  simp only [Act.put, List.setIfInBounds_toArray, List.set_cons_zero, List.set_cons_succ]
  refine lexW_off (by rfl) (by rfl) ?_
  simp only [Act.put, List.setIfInBounds_toArray, List.set_cons_zero, List.set_cons_succ]
  refine lexW_off (by rfl) (by rfl) ?_
  simp only [Act.put, List.setIfInBounds_toArray, List.set_cons_zero, List.set_cons_succ]
  refine lexW_off (by rfl) (by rfl) ?_
  simp only [Act.put, List.setIfInBounds_toArray, List.set_cons_zero, List.set_cons_succ]
  refine lexW_value (v := ?_) (by rfl) (by rfl) (fun W hW => ?_) ?_
  rotate_left
  · skip; go_simp <;> with_reducible rfl
  simp only [Act.put, List.setIfInBounds_toArray, List.set_cons_zero, List.set_cons_succ]
  refine lexW_value (v := ?_) (by rfl) (by rfl) (fun W hW => ?_) ?_
  rotate_left
  · skip; go_simp <;> with_reducible rfl
  simp only [Act.put, List.setIfInBounds_toArray, List.set_cons_zero, List.set_cons_succ]
  refine lexW_nil (fun b12 W12 F12 E12 => ?_)
  obtain rfl := lexEnd_none E12
  go_wp2
  go_ret
  exact ⟨rfl, F12.below⟩
end
end Pnt
end Go.Proofs.YtlfkohanfeejfaaDoor
