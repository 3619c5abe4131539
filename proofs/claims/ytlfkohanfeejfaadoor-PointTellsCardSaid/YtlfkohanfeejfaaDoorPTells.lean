/-
  PointTells: bytes of points, the point that bytes are, small orders, and the first point so many times, are what the document says. Whatever the numbers, and the bytes, are.
-/
import Derived.Test.YtlfkohanfeejfaaDoorMbi
namespace Go.Proofs.YtlfkohanfeejfaaDoor
open Go.RowKit
namespace Pnt
open Crv

section
attribute [local go_sem ↓] load_pt load_s6 Byt.load_by

set_option maxRecDepth 100000 in
set_option maxHeartbeats 8000000 in
theorem PointTells_any (p : Nat × Nat) (b : List UInt8) (k : Nat) (w : World) (ok_p : ok p) (hlb : b.length = 32) (hk : k < big) (L0 : Laid w) :
    Calls Tryd.prog 3 #[.agg ((limsL [p.1, p.2]).map nv).toArray, .agg (b.map bv).toArray, .agg ((lims k).map nv).toArray] w fun e w' => e = .returned (.bool true) ∧ Below w.heap.size w w' := by
  have hsz0 := L0.size
  have LK : Hid (∀ W, Below w.heap.size w W → Laid W) := Lib.hid fun W hb => L0.keep hb hsz0
  have AW : Hid (∀ W, Laid W → Calls Tryd.prog 7 #[] W fun e w' => e = .returned (.bool true) ∧ Below W.heap.size W w') := Lib.hid fun W L => awake_any W L
  obtain ⟨pP, q_p⟩ : ∃ zz : Pt, pt p = zz := ⟨_, rfl⟩
  have HL_b := Lib.hid hlb
  obtain ⟨l_a, d_l_a⟩ : ∃ zz : List UInt8, zz = enc pP.1 := ⟨_, rfl⟩
  have HL_l_a : Hid (l_a.length = 32) := Lib.hid (by rw [d_l_a]; exact enc_length _)
  obtain ⟨l_t, d_l_t⟩ : ∃ zz : List UInt8, zz = enc (Pt.times (toS k).val pbase).1 := ⟨_, rfl⟩
  have HL_l_t : Hid (l_t.length = 32) := Lib.hid (by rw [d_l_t]; exact enc_length _)
  obtain ⟨y, n_y⟩ : ∃ zz : Nat × Nat, zz = dnum b := ⟨_, rfl⟩
  have ok_y : ok y := by rw [n_y]; exact vals_lt _
  obtain ⟨e_b, d_e_b⟩ : ∃ zz : Int, zz = derr b := ⟨_, rfl⟩
  obtain ⟨b_s, d_b_s⟩ : ∃ zz : Bool, zz = decide (Pt.times 8 pP = Pt.none) := ⟨_, rfl⟩
  have K1 : Hid (∀ W, Laid W → Calls Tryd.prog 8 #[.agg (b.map bv).toArray] W fun e w' => e = .returned (.tuple #[.agg ((limsL [y.1, y.2]).map nv).toArray, .int .i64 e_b]) ∧ Below W.heap.size W w') := Lib.hid fun W L => by
    have h := decode_q b W HL_b.out L
    rw [show dnum b = y from n_y.symm, show derr b = e_b from d_e_b.symm] at h
    exact h
  have K2 : Hid (∀ W, Calls Tryd.prog 9 #[.agg (b.map bv).toArray] W fun e w' => e = .returned (.tuple #[.agg ((limsL [y.1, y.2]).map nv).toArray, .int .i64 e_b]) ∧ Below W.heap.size W w') := Lib.hid fun W => by
    have h := rdecode_q b W HL_b.out
    rw [show dnum b = y from n_y.symm, show derr b = e_b from d_e_b.symm] at h
    exact h
  have K3 : Hid (∀ W, Laid W → Calls Tryd.prog 10 #[.agg ((limsL [p.1, p.2]).map nv).toArray] W fun e w' => e = .returned (.agg (l_a.map bv).toArray) ∧ Below W.heap.size W w') := Lib.hid fun W L => by
    have h := encode_q p W ok_p L
    rw [show enc (pt p).1 = l_a from (by rw [q_p, d_l_a])] at h
    exact h
  have K4 : Hid (∀ W, Calls Tryd.prog 11 #[.agg ((limsL [p.1, p.2]).map nv).toArray] W fun e w' => e = .returned (.agg (l_a.map bv).toArray) ∧ Below W.heap.size W w') := Lib.hid fun W => by
    have h := rencode_q p W ok_p
    rw [show enc (pt p).1 = l_a from (by rw [q_p, d_l_a])] at h
    exact h
  have K5 : Hid (∀ W, Laid W → Calls Tryd.prog 12 #[.agg ((limsL [p.1, p.2]).map nv).toArray] W fun e w' => e = .returned (.bool b_s) ∧ Below W.heap.size W w') := Lib.hid fun W L => by
    have h := small_q p W ok_p L
    rw [show decide (Pt.times 8 (pt p) = Pt.none) = b_s from (by rw [q_p, d_b_s])] at h
    exact h
  have K6 : Hid (∀ W, Calls Tryd.prog 13 #[.agg ((limsL [p.1, p.2]).map nv).toArray] W fun e w' => e = .returned (.bool b_s) ∧ Below W.heap.size W w') := Lib.hid fun W => by
    have h := rsmall_q p W ok_p
    rw [show decide (Pt.times 8 (pt p) = Pt.none) = b_s from (by rw [q_p, d_b_s])] at h
    exact h
  have K7 : Hid (∀ W, Laid W → Calls Tryd.prog 14 #[.agg ((lims k).map nv).toArray] W fun e w' => e = .returned (.agg (l_t.map bv).toArray) ∧ Below W.heap.size W w') := Lib.hid fun W L => by
    have h := times_q k W hk L
    rw [show enc (Pt.times (toS k).val pbase).1 = l_t from d_l_t.symm] at h
    exact h
  have K8 : Hid (∀ W, Calls Tryd.prog 15 #[.agg ((lims k).map nv).toArray] W fun e w' => e = .returned (.agg (l_t.map bv).toArray) ∧ Below W.heap.size W w') := Lib.hid fun W => by
    have h := rtimes_q k W hk
    rw [show enc (Pt.times (toS k).val pbase).1 = l_t from d_l_t.symm] at h
    exact h
  have eq_y := fun W => eql_pp y ok_y W
  have eq_l_a := fun W => eql_bb l_a HL_l_a.out W
  have eq_l_t := fun W => eql_bb l_t HL_l_t.out W
  have gf := fun x y c d W => run_guard_pt x y c d W
  have gb := fun x y c d W => Byt.run_guard_b x y c d W
  clear L0 hsz0 q_p ok_p hlb hk d_l_a d_l_t n_y ok_y d_e_b d_b_s
  have F0 : Bs w (w.heap.size + 1 + 1 + 1) [(w.heap.size + 1 + 1, 28, ((lims k).map nv).toArray), (w.heap.size + 1, 27, (b.map bv).toArray), (w.heap.size, 26, ((limsL [p.1, p.2]).map nv).toArray)] (((w.alloc (.cells ((limsL [p.1, p.2]).map nv).toArray 26)).alloc (.cells (b.map bv).toArray 27)).alloc (.cells ((lims k).map nv).toArray 28)) := (((Bs.nil).alloc (by rfl)).alloc (by simp only [World.size_alloc])).alloc (by simp only [World.size_alloc])
  go_enter Tryd.func3, Tryd.ntmps3
  go_upto_region 1 with (fail)
  generalize (((w.alloc (.cells ((limsL [p.1, p.2]).map nv).toArray 26)).alloc (.cells (b.map bv).toArray 27)).alloc (.cells ((lims k).map nv).toArray 28)) = wv at *
  go_upto_region 2 with (first
    | (go_at_call 7
       with_reducible refine (AW.out _ (LK.out _ F0.below)).mono ?_
       rintro e w1 ⟨rfl, hb1⟩
       have F1 := Bs.stay _ _ F0 hb1)
    | fail)
  clear F0 hb1
  have hL4 := F1.getB (g := w.heap.size + 1) (l := b) (by repeat (first | exact List.mem_cons_self .. | refine List.mem_cons_of_mem _ ?_))
  go_upto_region 3 with (first
    | (with_reducible refine wpList_load_b rfl 27 (.tmp 4) rfl (w.heap.size + 1) rfl b hL4 HL_b.out Tryd.underlying27 Tryd.infoB32 ?_)
    | (go_at_call 8
       with_reducible refine (K1.out _ (LK.out _ F1.below)).mono ?_
       rintro e w2 ⟨rfl, hb2⟩
       have F2 := Bs.stay _ _ F1 hb2
       have F2a := Bs.stay _ _ F2 ((Below.refl _ w2).alloc (Nat.le_refl _) (.cells #[.int .u64 0, .int .u64 0, .int .u64 0, .int .u64 0, .int .u64 0, .int .u64 0, .int .u64 0, .int .u64 0] 26))
       have z2 := pt_new6 w2)
    | (with_reducible refine wpList_store_n rfl 26 (.tmp 8) (.tmp 16) rfl w2.heap.size (limsL [y.1, y.2]) 8 rfl rfl rfl (limsL [0, 0]) (by with_unfolding_all exact z2) Tryd.infoPt rfl w.heap.size w (by with_unfolding_all exact F2a.below) F2.below.size ?_
       intro w3 H3 o3 s3 b3
       have F3 := Bs.add (by with_unfolding_all exact F2a) F2.len H3 o3 b3
       clear s3)
    | fail)
  have hg2 := F2.len
  clear hL4 hb2 F1 F2a z2 o3 H3 b3 F2
  generalize w2.heap.size = g8 at *
  have hL4 := F3.getB (g := w.heap.size + 1) (l := b) (by repeat (first | exact List.mem_cons_self .. | refine List.mem_cons_of_mem _ ?_))
  go_upto_region 4 with (first
    | (with_reducible refine wpList_load_b rfl 27 (.tmp 4) rfl (w.heap.size + 1) rfl b hL4 HL_b.out Tryd.underlying27 Tryd.infoB32 ?_)
    | (go_at_call 9
       with_reducible refine (K2.out _).mono ?_
       rintro e w4 ⟨rfl, hb4⟩
       have F4 := Bs.stay _ _ F3 hb4
       have F4a := Bs.stay _ _ F4 ((Below.refl _ w4).alloc (Nat.le_refl _) (.cells #[.int .u64 0, .int .u64 0, .int .u64 0, .int .u64 0, .int .u64 0, .int .u64 0, .int .u64 0, .int .u64 0] 26))
       have z4 := pt_new6 w4)
    | (with_reducible refine wpList_store_n rfl 26 (.tmp 10) (.tmp 21) rfl w4.heap.size (limsL [y.1, y.2]) 8 rfl rfl rfl (limsL [0, 0]) (by with_unfolding_all exact z4) Tryd.infoPt rfl w.heap.size w (by with_unfolding_all exact F4a.below) F4.below.size ?_
       intro w5 H5 o5 s5 b5
       have F5 := Bs.add (by with_unfolding_all exact F4a) F4.len H5 o5 b5
       clear s5)
    | fail)
  have hg4 := F4.len
  clear hL4 hb4 F3 F4a z4 o5 H5 b5 F4
  generalize w4.heap.size = g10 at *
  refine wp_region_lex 32 (fun _ => false) (fun _ _ _ => True) (Bs w (g10 + 1) [(g10, 26, ((limsL [y.1, y.2]).map nv).toArray), (g8, 26, ((limsL [y.1, y.2]).map nv).toArray), (w.heap.size + 1 + 1, 28, ((lims k).map nv).toArray), (w.heap.size + 1, 27, (b.map bv).toArray), (w.heap.size, 26, ((limsL [p.1, p.2]).map nv).toArray)]) (by kernel_rfl) (by kernel_rfl) F5.drew Bs.stay (fun _ _ _ _ _ _ => trivial) lex_none ?_
  simp only [List.take_succ_cons, List.take_zero, List.drop_succ_cons, List.drop_zero]
  refine lexW_value (v := ?_) (by rfl) (by rfl) (fun W hW => ?_) ?_
  rotate_left
  · skip; go_simp <;> with_reducible rfl
  simp only [Act.put, List.setIfInBounds_toArray, List.set_cons_zero, List.set_cons_succ]
  refine lexW_value (v := ?_) (by rfl) (by rfl) (fun W hW => ?_) ?_
  rotate_left
  · skip; go_simp <;> with_reducible rfl
  simp only [Act.put, List.setIfInBounds_toArray, List.set_cons_zero, List.set_cons_succ]
  refine lexW_value (v := ?_) (by rfl) (by rfl) (fun W hW => ?_) ?_
  rotate_left
  · have l1 := run_ldP (hW.getN (g := w.heap.size) (l := limsL [p.1, p.2]) (by repeat (first | exact List.mem_cons_self .. | refine List.mem_cons_of_mem _ ?_))); go_simp <;> with_reducible rfl
  simp only [Act.put, List.setIfInBounds_toArray, List.set_cons_zero, List.set_cons_succ]
  refine' lexW_call (by rfl) (by rfl) (fun W hW => ?_) (fun W hW => ?_) ?_
  rotate_left 3
  · go_simp <;> first | with_reducible rfl | exact ⟨rfl, rfl⟩
  · with_reducible exact K3.out W (LK.out _ hW.below)
  simp only [Act.put, List.setIfInBounds_toArray, List.set_cons_zero, List.set_cons_succ]
  refine lexW_value (v := ?_) (by rfl) (by rfl) (fun W hW => ?_) ?_
  rotate_left
  · have l1 := run_ldP (hW.getN (g := w.heap.size) (l := limsL [p.1, p.2]) (by repeat (first | exact List.mem_cons_self .. | refine List.mem_cons_of_mem _ ?_))); go_simp <;> with_reducible rfl
  simp only [Act.put, List.setIfInBounds_toArray, List.set_cons_zero, List.set_cons_succ]
  refine' lexW_call (by rfl) (by rfl) (fun W hW => ?_) (fun W hW => ?_) ?_
  rotate_left 3
  · go_simp <;> first | with_reducible rfl | exact ⟨rfl, rfl⟩
  · with_reducible exact K4.out W
  simp only [Act.put, List.setIfInBounds_toArray, List.set_cons_zero, List.set_cons_succ]
  refine lexW_value (v := ?_) (by rfl) (by rfl) (fun W hW => ?_) ?_
  rotate_left
  · skip; go_simp <;> with_reducible rfl
  simp only [Act.put, List.setIfInBounds_toArray, List.set_cons_zero, List.set_cons_succ]
  refine lexW_value (v := ?_) (by rfl) (by rfl) (fun W hW => ?_) ?_
  rotate_left
  · skip; go_simp <;> with_reducible rfl
  simp only [Act.put, List.setIfInBounds_toArray, List.set_cons_zero, List.set_cons_succ]
  refine lexW_value (v := ?_) (by rfl) (by rfl) (fun W hW => ?_) ?_
  rotate_left
  · skip; go_simp <;> with_reducible rfl
  simp only [Act.put, List.setIfInBounds_toArray, List.set_cons_zero, List.set_cons_succ]
  refine lexW_value (v := ?_) (by rfl) (by rfl) (fun W hW => ?_) ?_
  rotate_left
  · have l1 := run_ldP (hW.getN (g := g8) (l := limsL [y.1, y.2]) (by repeat (first | exact List.mem_cons_self .. | refine List.mem_cons_of_mem _ ?_))); go_simp <;> with_reducible rfl
  simp only [Act.put, List.setIfInBounds_toArray, List.set_cons_zero, List.set_cons_succ]
  refine lexW_value (v := ?_) (by rfl) (by rfl) (fun W hW => ?_) ?_
  rotate_left
  · have l1 := run_ldP (hW.getN (g := g10) (l := limsL [y.1, y.2]) (by repeat (first | exact List.mem_cons_self .. | refine List.mem_cons_of_mem _ ?_))); go_simp <;> with_reducible rfl
  simp only [Act.put, List.setIfInBounds_toArray, List.set_cons_zero, List.set_cons_succ]
  refine lexW_value (v := ?_) (by rfl) (by rfl) (fun W hW => ?_) ?_
  rotate_left
  · skip; go_simp <;> with_reducible rfl
  simp only [Act.put, List.setIfInBounds_toArray, List.set_cons_zero, List.set_cons_succ]
  refine lexW_value (v := ?_) (by rfl) (by rfl) (fun W hW => ?_) ?_
  rotate_left
  · skip; go_simp <;> with_reducible rfl
  simp only [Act.put, List.setIfInBounds_toArray, List.set_cons_zero, List.set_cons_succ]
  refine lexW_value (v := ?_) (by rfl) (by rfl) (fun W hW => ?_) ?_
  rotate_left
  · skip; go_simp <;> with_reducible rfl
  simp only [Act.put, List.setIfInBounds_toArray, List.set_cons_zero, List.set_cons_succ]
  refine lexW_value (v := ?_) (by rfl) (by rfl) (fun W hW => ?_) ?_
  rotate_left
  · skip; go_simp <;> with_reducible rfl
  simp only [Act.put, List.setIfInBounds_toArray, List.set_cons_zero, List.set_cons_succ]
  refine lexW_value (v := ?_) (by rfl) (by rfl) (fun W hW => ?_) ?_
  rotate_left
  · skip; go_simp <;> with_reducible rfl
  simp only [Act.put, List.setIfInBounds_toArray, List.set_cons_zero, List.set_cons_succ]
  refine lexW_value (v := ?_) (by rfl) (by rfl) (fun W hW => ?_) ?_
  rotate_left
  · skip; go_simp <;> with_reducible rfl
  simp only [Act.put, List.setIfInBounds_toArray, List.set_cons_zero, List.set_cons_succ]
  refine lexW_value (v := ?_) (by rfl) (by rfl) (fun W hW => ?_) ?_
  rotate_left
  · skip; go_simp <;> with_reducible rfl
  simp only [Act.put, List.setIfInBounds_toArray, List.set_cons_zero, List.set_cons_succ]
  refine lexW_value (v := ?_) (by rfl) (by rfl) (fun W hW => ?_) ?_
  rotate_left
  · skip; go_simp <;> with_reducible rfl
  simp only [Act.put, List.setIfInBounds_toArray, List.set_cons_zero, List.set_cons_succ]
  refine lexW_value (v := ?_) (by rfl) (by rfl) (fun W hW => ?_) ?_
  rotate_left
  · have l1 := run_ldP (hW.getN (g := w.heap.size) (l := limsL [p.1, p.2]) (by repeat (first | exact List.mem_cons_self .. | refine List.mem_cons_of_mem _ ?_))); go_simp <;> with_reducible rfl
  simp only [Act.put, List.setIfInBounds_toArray, List.set_cons_zero, List.set_cons_succ]
  refine' lexW_call (by rfl) (by rfl) (fun W hW => ?_) (fun W hW => ?_) ?_
  rotate_left 3
  · go_simp <;> first | with_reducible rfl | exact ⟨rfl, rfl⟩
  · with_reducible exact K5.out W (LK.out _ hW.below)
  simp only [Act.put, List.setIfInBounds_toArray, List.set_cons_zero, List.set_cons_succ]
  refine lexW_value (v := ?_) (by rfl) (by rfl) (fun W hW => ?_) ?_
  rotate_left
  · have l1 := run_ldP (hW.getN (g := w.heap.size) (l := limsL [p.1, p.2]) (by repeat (first | exact List.mem_cons_self .. | refine List.mem_cons_of_mem _ ?_))); go_simp <;> with_reducible rfl
  simp only [Act.put, List.setIfInBounds_toArray, List.set_cons_zero, List.set_cons_succ]
  refine' lexW_call (by rfl) (by rfl) (fun W hW => ?_) (fun W hW => ?_) ?_
  rotate_left 3
  · go_simp <;> first | with_reducible rfl | exact ⟨rfl, rfl⟩
  · with_reducible exact K6.out W
  simp only [Act.put, List.setIfInBounds_toArray, List.set_cons_zero, List.set_cons_succ]
  refine lexW_value (v := ?_) (by rfl) (by rfl) (fun W hW => ?_) ?_
  rotate_left
  · skip; go_simp <;> with_reducible rfl
  simp only [Act.put, List.setIfInBounds_toArray, List.set_cons_zero, List.set_cons_succ]
  refine lexW_value (v := ?_) (by rfl) (by rfl) (fun W hW => ?_) ?_
  rotate_left
  · skip; go_simp <;> with_reducible rfl
  simp only [Act.put, List.setIfInBounds_toArray, List.set_cons_zero, List.set_cons_succ]
  refine lexW_value (v := ?_) (by rfl) (by rfl) (fun W hW => ?_) ?_
  rotate_left
  · skip; go_simp <;> with_reducible rfl
  simp only [Act.put, List.setIfInBounds_toArray, List.set_cons_zero, List.set_cons_succ]
  refine lexW_value (v := ?_) (by rfl) (by rfl) (fun W hW => ?_) ?_
  rotate_left
  · have l1 := run_ldS (hW.getN (g := w.heap.size + 1 + 1) (l := lims k) (by repeat (first | exact List.mem_cons_self .. | refine List.mem_cons_of_mem _ ?_))); go_simp <;> with_reducible rfl
  simp only [Act.put, List.setIfInBounds_toArray, List.set_cons_zero, List.set_cons_succ]
  refine' lexW_call (by rfl) (by rfl) (fun W hW => ?_) (fun W hW => ?_) ?_
  rotate_left 3
  · go_simp <;> first | with_reducible rfl | exact ⟨rfl, rfl⟩
  · with_reducible exact K7.out W (LK.out _ hW.below)
  simp only [Act.put, List.setIfInBounds_toArray, List.set_cons_zero, List.set_cons_succ]
  refine lexW_value (v := ?_) (by rfl) (by rfl) (fun W hW => ?_) ?_
  rotate_left
  · have l1 := run_ldS (hW.getN (g := w.heap.size + 1 + 1) (l := lims k) (by repeat (first | exact List.mem_cons_self .. | refine List.mem_cons_of_mem _ ?_))); go_simp <;> with_reducible rfl
  simp only [Act.put, List.setIfInBounds_toArray, List.set_cons_zero, List.set_cons_succ]
  refine' lexW_call (by rfl) (by rfl) (fun W hW => ?_) (fun W hW => ?_) ?_
  rotate_left 3
  · go_simp <;> first | with_reducible rfl | exact ⟨rfl, rfl⟩
  · with_reducible exact K8.out W
  simp only [Act.put, List.setIfInBounds_toArray, List.set_cons_zero, List.set_cons_succ]
  refine lexW_value (v := ?_) (by rfl) (by rfl) (fun W hW => ?_) ?_
  rotate_left
  · skip; go_simp <;> with_reducible rfl
  simp only [Act.put, List.setIfInBounds_toArray, List.set_cons_zero, List.set_cons_succ]
  refine lexW_value (v := ?_) (by rfl) (by rfl) (fun W hW => ?_) ?_
  rotate_left
  · skip; go_simp <;> with_reducible rfl
  simp only [Act.put, List.setIfInBounds_toArray, List.set_cons_zero, List.set_cons_succ]
  refine lexW_nil (fun b6 W6 F6 E6 => ?_)
  obtain rfl := lexEnd_none E6
  go_wp2
  go_ret
  exact ⟨rfl, F6.below⟩
end
end Pnt
end Go.Proofs.YtlfkohanfeejfaaDoor
