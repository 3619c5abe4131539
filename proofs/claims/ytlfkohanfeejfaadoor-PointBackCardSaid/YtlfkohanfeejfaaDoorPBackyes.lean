/-
  PointBack: a point is read as it was written, and bytes that are a point are its (bytes that are one).
-/
import Derived.Test.YtlfkohanfeejfaaDoorMbi
namespace Go.Proofs.YtlfkohanfeejfaaDoor
open Go.RowKit
namespace Pnt
open Crv

section
attribute [local go_sem ↓] load_pt load_s6 Byt.load_by

set_option maxRecDepth 100000 in
set_option maxHeartbeats 8000000 in
theorem PointBack_yes (p : Nat × Nat) (b : List UInt8) (w : World) (ok_p : ok p) (hlb : b.length = 32) (hd : (dec b).2 = true) (L0 : Laid w) :
    Calls Tryd.prog 4 #[.agg ((limsL [p.1, p.2]).map nv).toArray, .agg (b.map bv).toArray] w fun e w' => e = .returned (.bool true) ∧ Below w.heap.size w w' := by
  have hsz0 := L0.size
  have LK : Hid (∀ W, Below w.heap.size w W → Laid W) := Lib.hid fun W hb => L0.keep hb hsz0
  have AW : Hid (∀ W, Laid W → Calls Tryd.prog 7 #[] W fun e w' => e = .returned (.bool true) ∧ Below W.heap.size W w') := Lib.hid fun W L => awake_any W L
  obtain ⟨pP, q_p⟩ : ∃ zz : Pt, pt p = zz := ⟨_, rfl⟩
  have HL_b := Lib.hid hlb
  obtain ⟨l_a, d_l_a⟩ : ∃ zz : List UInt8, zz = enc pP.1 := ⟨_, rfl⟩
  have HL_l_a : Hid (l_a.length = 32) := Lib.hid (by rw [d_l_a]; exact enc_length _)
  obtain ⟨xP, d_x⟩ : ∃ zz : Pt, zz = pP := ⟨_, rfl⟩
  obtain ⟨x, n_x⟩ : ∃ zz : Nat × Nat, zz = nums xP := ⟨_, rfl⟩
  have ok_x : ok x := by rw [n_x]; exact nums_ok _
  have q_x : pt x = xP := by rw [n_x]; exact pt_nums _
  obtain ⟨yP, hb⟩ := dec_yes hd
  obtain ⟨y, n_y⟩ : ∃ zz : Nat × Nat, zz = nums yP := ⟨_, rfl⟩
  have ok_y : ok y := by rw [n_y]; exact nums_ok _
  have q_y : pt y = yP := by rw [n_y]; exact pt_nums _
  have K1 : Hid (∀ W, Laid W → Calls Tryd.prog 10 #[.agg ((limsL [p.1, p.2]).map nv).toArray] W fun e w' => e = .returned (.agg (l_a.map bv).toArray) ∧ Below W.heap.size W w') := Lib.hid fun W L => by
    have h := encode_q p W ok_p L
    rw [show enc (pt p).1 = l_a from (by rw [q_p, d_l_a])] at h
    exact h
  have K2 : Hid (∀ W, Laid W → Calls Tryd.prog 8 #[.agg (l_a.map bv).toArray] W fun e w' => e = .returned (.tuple #[.agg ((limsL [x.1, x.2]).map nv).toArray, .int .i64 0]) ∧ Below W.heap.size W w') := Lib.hid fun W L => by
    have h := decode_q l_a W HL_l_a.out L
    rw [show dnum l_a = x from (by rw [d_l_a, dnum_enc, n_x, d_x]), show derr l_a = 0 from (by rw [d_l_a, derr_enc])] at h
    exact h
  have K3 : Hid (∀ W, Laid W → Calls Tryd.prog 8 #[.agg (b.map bv).toArray] W fun e w' => e = .returned (.tuple #[.agg ((limsL [y.1, y.2]).map nv).toArray, .int .i64 0]) ∧ Below W.heap.size W w') := Lib.hid fun W L => by
    have h := decode_q b W HL_b.out L
    rw [show dnum b = y from (by rw [hb, dnum_enc, n_y]), show derr b = 0 from (by rw [hb, derr_enc])] at h
    exact h
  have K4 : Hid (∀ W, Laid W → Calls Tryd.prog 16 #[.agg ((limsL [x.1, x.2]).map nv).toArray] W fun e w' => e = .returned (.bool true) ∧ Below W.heap.size W w') := Lib.hid fun W L => by
    have h := check_q x W ok_x L
    rw [show decide (On (toF x.1, toF x.2)) = true from (by rw [n_x]; exact on_nums _)] at h
    exact h
  have K5 : Hid (∀ W, Laid W → Calls Tryd.prog 17 #[.agg ((limsL [x.1, x.2]).map nv).toArray, .agg ((limsL [p.1, p.2]).map nv).toArray] W fun e w' => e = .returned (.bool true) ∧ Below W.heap.size W w') := Lib.hid fun W L => by
    have h := same_q x p W ok_x ok_p L
    rw [show decide (pt x = pt p) = true from (by rw [q_x, q_p, d_x]; exact decide_eq_true rfl)] at h
    exact h
  have K6 : Hid (∀ W, Laid W → Calls Tryd.prog 16 #[.agg ((limsL [y.1, y.2]).map nv).toArray] W fun e w' => e = .returned (.bool true) ∧ Below W.heap.size W w') := Lib.hid fun W L => by
    have h := check_q y W ok_y L
    rw [show decide (On (toF y.1, toF y.2)) = true from (by rw [n_y]; exact on_nums _)] at h
    exact h
  have K7 : Hid (∀ W, Laid W → Calls Tryd.prog 10 #[.agg ((limsL [y.1, y.2]).map nv).toArray] W fun e w' => e = .returned (.agg (b.map bv).toArray) ∧ Below W.heap.size W w') := Lib.hid fun W L => by
    have h := encode_q y W ok_y L
    rw [show enc (pt y).1 = b from (by rw [q_y, ← hb])] at h
    exact h
  have eq_b := fun W => eql_bb b HL_b.out W
  have gf := fun x y c d W => run_guard_pt x y c d W
  have gb := fun x y c d W => Byt.run_guard_b x y c d W
  clear L0 hsz0 q_p ok_p hlb d_l_a d_x n_x ok_x q_x hb n_y ok_y q_y hd
  have F0 : Bs w (w.heap.size + 1 + 1) [(w.heap.size + 1, 27, (b.map bv).toArray), (w.heap.size, 26, ((limsL [p.1, p.2]).map nv).toArray)] ((w.alloc (.cells ((limsL [p.1, p.2]).map nv).toArray 26)).alloc (.cells (b.map bv).toArray 27)) := ((Bs.nil).alloc (by rfl)).alloc (by simp only [World.size_alloc])
  go_enter Tryd.func4, Tryd.ntmps4
  go_upto_region 1 with (fail)
  generalize ((w.alloc (.cells ((limsL [p.1, p.2]).map nv).toArray 26)).alloc (.cells (b.map bv).toArray 27)) = wv at *
  go_upto_region 2 with (first
    | (go_at_call 7
       with_reducible refine (AW.out _ (LK.out _ F0.below)).mono ?_
       rintro e w1 ⟨rfl, hb1⟩
       have F1 := Bs.stay _ _ F0 hb1)
    | fail)
  clear F0 hb1
  have hL2 := F1.getN (g := w.heap.size) (l := limsL [p.1, p.2]) (by repeat (first | exact List.mem_cons_self .. | refine List.mem_cons_of_mem _ ?_))
  go_upto_region 3 with (first
    | (with_reducible refine wpList_load_pt rfl 26 (.tmp 2) rfl (w.heap.size) rfl (limsL [p.1, p.2]) 8 hL2 rfl Tryd.underlying26 Tryd.infoPt ?_)
    | (go_at_call 10
       with_reducible refine (K1.out _ (LK.out _ F1.below)).mono ?_
       rintro e w2 ⟨rfl, hb2⟩
       have F2 := Bs.stay _ _ F1 hb2)
    | (go_at_call 8
       with_reducible refine (K2.out _ (LK.out _ F2.below)).mono ?_
       rintro e w3 ⟨rfl, hb3⟩
       have F3 := Bs.stay _ _ F2 hb3
       have F3a := Bs.stay _ _ F3 ((Below.refl _ w3).alloc (Nat.le_refl _) (.cells #[.int .u64 0, .int .u64 0, .int .u64 0, .int .u64 0, .int .u64 0, .int .u64 0, .int .u64 0, .int .u64 0] 26))
       have z3 := pt_new6 w3)
    | (with_reducible refine wpList_store_n rfl 26 (.tmp 6) (.tmp 15) rfl w3.heap.size (limsL [x.1, x.2]) 8 rfl rfl rfl (limsL [0, 0]) (by with_unfolding_all exact z3) Tryd.infoPt rfl w.heap.size w (by with_unfolding_all exact F3a.below) F3.below.size ?_
       intro w4 H4 o4 s4 b4
       have F4 := Bs.add (by with_unfolding_all exact F3a) F3.len H4 o4 b4
       clear s4)
    | fail)
  have hg3 := F3.len
  clear hL2 hb2 F1 hb3 F2 F3a z3 o4 H4 b4 F3
  generalize w3.heap.size = g6 at *
  have hL3 := F4.getB (g := w.heap.size + 1) (l := b) (by repeat (first | exact List.mem_cons_self .. | refine List.mem_cons_of_mem _ ?_))
  go_upto_region 4 with (first
    | (with_reducible refine wpList_load_b rfl 27 (.tmp 3) rfl (w.heap.size + 1) rfl b hL3 HL_b.out Tryd.underlying27 Tryd.infoB32 ?_)
    | (go_at_call 8
       with_reducible refine (K3.out _ (LK.out _ F4.below)).mono ?_
       rintro e w5 ⟨rfl, hb5⟩
       have F5 := Bs.stay _ _ F4 hb5
       have F5a := Bs.stay _ _ F5 ((Below.refl _ w5).alloc (Nat.le_refl _) (.cells #[.int .u64 0, .int .u64 0, .int .u64 0, .int .u64 0, .int .u64 0, .int .u64 0, .int .u64 0, .int .u64 0] 26))
       have z5 := pt_new6 w5)
    | (with_reducible refine wpList_store_n rfl 26 (.tmp 8) (.tmp 20) rfl w5.heap.size (limsL [y.1, y.2]) 8 rfl rfl rfl (limsL [0, 0]) (by with_unfolding_all exact z5) Tryd.infoPt rfl w.heap.size w (by with_unfolding_all exact F5a.below) F5.below.size ?_
       intro w6 H6 o6 s6 b6
       have F6 := Bs.add (by with_unfolding_all exact F5a) F5.len H6 o6 b6
       clear s6)
    | fail)
  have hg5 := F5.len
  clear hL3 hb5 F4 F5a z5 o6 H6 b6 F5
  generalize w5.heap.size = g8 at *
  refine wp_region_lex 37 (fun _ => false) (fun _ _ _ => True) (Bs w (g8 + 1) [(g8, 26, ((limsL [y.1, y.2]).map nv).toArray), (g6, 26, ((limsL [x.1, x.2]).map nv).toArray), (w.heap.size + 1, 27, (b.map bv).toArray), (w.heap.size, 26, ((limsL [p.1, p.2]).map nv).toArray)]) (by kernel_rfl) (by kernel_rfl) F6.drew Bs.stay (fun _ _ _ _ _ _ => trivial) lex_none ?_
  simp only [List.take_succ_cons, List.take_zero, List.drop_succ_cons, List.drop_zero]
  refine lexW_value (v := ?_) (by rfl) (by rfl) (fun W hW => ?_) ?_
  rotate_left
  · skip; go_simp <;> with_reducible rfl
  simp only [Act.put, List.setIfInBounds_toArray, List.set_cons_zero, List.set_cons_succ]
  refine lexW_value (v := ?_) (by rfl) (by rfl) (fun W hW => ?_) ?_
  rotate_left
  · skip; go_simp <;> with_reducible rfl
  simp only [Act.put, List.setIfInBounds_toArray, List.set_cons_zero, List.set_cons_succ]
  refine lexW_value (v := ?_) (by rfl) (by rfl) (fun W hW => ?_) ?_
  rotate_left
  · skip; go_simp <;> with_reducible rfl
  simp only [Act.put, List.setIfInBounds_toArray, List.set_cons_zero, List.set_cons_succ]
  refine lexW_value (v := ?_) (by rfl) (by rfl) (fun W hW => ?_) ?_
  rotate_left
  · skip; go_simp <;> with_reducible rfl
  simp only [Act.put, List.setIfInBounds_toArray, List.set_cons_zero, List.set_cons_succ]
  refine lexW_value (v := ?_) (by rfl) (by rfl) (fun W hW => ?_) ?_
  rotate_left
  · skip; go_simp <;> with_reducible rfl
  simp only [Act.put, List.setIfInBounds_toArray, List.set_cons_zero, List.set_cons_succ]
  refine lexW_value (v := ?_) (by rfl) (by rfl) (fun W hW => ?_) ?_
  rotate_left
  · skip; go_simp <;> with_reducible rfl
  simp only [Act.put, List.setIfInBounds_toArray, List.set_cons_zero, List.set_cons_succ]
  refine lexW_value (v := ?_) (by rfl) (by rfl) (fun W hW => ?_) ?_
  rotate_left
  · have l1 := run_ldP (hW.getN (g := g6) (l := limsL [x.1, x.2]) (by repeat (first | exact List.mem_cons_self .. | refine List.mem_cons_of_mem _ ?_))); go_simp <;> with_reducible rfl
  simp only [Act.put, List.setIfInBounds_toArray, List.set_cons_zero, List.set_cons_succ]
  refine' lexW_call (by rfl) (by rfl) (fun W hW => ?_) (fun W hW => ?_) ?_
  rotate_left 3
  · go_simp <;> first | with_reducible rfl | exact ⟨rfl, rfl⟩
  · with_reducible exact K4.out W (LK.out _ hW.below)
  simp only [Act.put, List.setIfInBounds_toArray, List.set_cons_zero, List.set_cons_succ]
  refine lexW_value (v := ?_) (by rfl) (by rfl) (fun W hW => ?_) ?_
  rotate_left
  · skip; go_simp <;> with_reducible rfl
  simp only [Act.put, List.setIfInBounds_toArray, List.set_cons_zero, List.set_cons_succ]
  refine lexW_value (v := ?_) (by rfl) (by rfl) (fun W hW => ?_) ?_
  rotate_left
  · skip; go_simp <;> with_reducible rfl
  simp only [Act.put, List.setIfInBounds_toArray, List.set_cons_zero, List.set_cons_succ]
  refine lexW_value (v := ?_) (by rfl) (by rfl) (fun W hW => ?_) ?_
  rotate_left
  · have l1 := run_ldP (hW.getN (g := g6) (l := limsL [x.1, x.2]) (by repeat (first | exact List.mem_cons_self .. | refine List.mem_cons_of_mem _ ?_))); go_simp <;> with_reducible rfl
  simp only [Act.put, List.setIfInBounds_toArray, List.set_cons_zero, List.set_cons_succ]
  refine lexW_value (v := ?_) (by rfl) (by rfl) (fun W hW => ?_) ?_
  rotate_left
  · have l1 := run_ldP (hW.getN (g := w.heap.size) (l := limsL [p.1, p.2]) (by repeat (first | exact List.mem_cons_self .. | refine List.mem_cons_of_mem _ ?_))); go_simp <;> with_reducible rfl
  simp only [Act.put, List.setIfInBounds_toArray, List.set_cons_zero, List.set_cons_succ]
  refine' lexW_call (by rfl) (by rfl) (fun W hW => ?_) (fun W hW => ?_) ?_
  rotate_left 3
  · go_simp <;> first | with_reducible rfl | exact ⟨rfl, rfl⟩
  · with_reducible exact K5.out W (LK.out _ hW.below)
  simp only [Act.put, List.setIfInBounds_toArray, List.set_cons_zero, List.set_cons_succ]
  refine lexW_value (v := ?_) (by rfl) (by rfl) (fun W hW => ?_) ?_
  rotate_left
  · skip; go_simp <;> with_reducible rfl
  simp only [Act.put, List.setIfInBounds_toArray, List.set_cons_zero, List.set_cons_succ]
  refine lexW_value (v := ?_) (by rfl) (by rfl) (fun W hW => ?_) ?_
  rotate_left
  · skip; go_simp <;> with_reducible rfl
  simp only [Act.put, List.setIfInBounds_toArray, List.set_cons_zero, List.set_cons_succ]
  refine lexW_value (v := ?_) (by rfl) (by rfl) (fun W hW => ?_) ?_
  rotate_left
  · have l1 := run_ldP (hW.getN (g := g8) (l := limsL [y.1, y.2]) (by repeat (first | exact List.mem_cons_self .. | refine List.mem_cons_of_mem _ ?_))); go_simp <;> with_reducible rfl
  simp only [Act.put, List.setIfInBounds_toArray, List.set_cons_zero, List.set_cons_succ]
  refine' lexW_call (by rfl) (by rfl) (fun W hW => ?_) (fun W hW => ?_) ?_
  rotate_left 3
  · go_simp <;> first | with_reducible rfl | exact ⟨rfl, rfl⟩
  · with_reducible exact K6.out W (LK.out _ hW.below)
  simp only [Act.put, List.setIfInBounds_toArray, List.set_cons_zero, List.set_cons_succ]
  refine lexW_value (v := ?_) (by rfl) (by rfl) (fun W hW => ?_) ?_
  rotate_left
  · skip; go_simp <;> with_reducible rfl
  simp only [Act.put, List.setIfInBounds_toArray, List.set_cons_zero, List.set_cons_succ]
  refine lexW_value (v := ?_) (by rfl) (by rfl) (fun W hW => ?_) ?_
  rotate_left
  · skip; go_simp <;> with_reducible rfl
  simp only [Act.put, List.setIfInBounds_toArray, List.set_cons_zero, List.set_cons_succ]
  refine lexW_value (v := ?_) (by rfl) (by rfl) (fun W hW => ?_) ?_
  rotate_left
  · skip; go_simp <;> with_reducible rfl
  simp only [Act.put, List.setIfInBounds_toArray, List.set_cons_zero, List.set_cons_succ]
  refine lexW_value (v := ?_) (by rfl) (by rfl) (fun W hW => ?_) ?_
  rotate_left
  · skip; go_simp <;> with_reducible rfl
  simp only [Act.put, List.setIfInBounds_toArray, List.set_cons_zero, List.set_cons_succ]
  refine lexW_value (v := ?_) (by rfl) (by rfl) (fun W hW => ?_) ?_
  rotate_left
  · skip; go_simp <;> with_reducible rfl
  simp only [Act.put, List.setIfInBounds_toArray, List.set_cons_zero, List.set_cons_succ]
  refine lexW_value (v := ?_) (by rfl) (by rfl) (fun W hW => ?_) ?_
  rotate_left
  · have l1 := run_ldP (hW.getN (g := g8) (l := limsL [y.1, y.2]) (by repeat (first | exact List.mem_cons_self .. | refine List.mem_cons_of_mem _ ?_))); go_simp <;> with_reducible rfl
  simp only [Act.put, List.setIfInBounds_toArray, List.set_cons_zero, List.set_cons_succ]
  refine' lexW_call (by rfl) (by rfl) (fun W hW => ?_) (fun W hW => ?_) ?_
  rotate_left 3
  · go_simp <;> first | with_reducible rfl | exact ⟨rfl, rfl⟩
  · with_reducible exact K7.out W (LK.out _ hW.below)
  simp only [Act.put, List.setIfInBounds_toArray, List.set_cons_zero, List.set_cons_succ]
  refine lexW_value (v := ?_) (by rfl) (by rfl) (fun W hW => ?_) ?_
  rotate_left
  · have l1 := Byt.run_loadBy (hW.getB (g := w.heap.size + 1) (l := b) (by repeat (first | exact List.mem_cons_self .. | refine List.mem_cons_of_mem _ ?_))) HL_b.out; go_simp <;> with_reducible rfl
  simp only [Act.put, List.setIfInBounds_toArray, List.set_cons_zero, List.set_cons_succ]
  refine lexW_value (v := ?_) (by rfl) (by rfl) (fun W hW => ?_) ?_
  rotate_left
  · skip; go_simp <;> with_reducible rfl
  simp only [Act.put, List.setIfInBounds_toArray, List.set_cons_zero, List.set_cons_succ]
  refine lexW_value (v := ?_) (by rfl) (by rfl) (fun W hW => ?_) ?_
  rotate_left
  · skip; go_simp <;> with_reducible rfl
  simp only [Act.put, List.setIfInBounds_toArray, List.set_cons_zero, List.set_cons_succ]
  refine lexW_value (v := ?_) (by rfl) (by rfl) (fun W hW => ?_) ?_
  rotate_left
  · skip; go_simp <;> with_reducible rfl
  simp only [Act.put, List.setIfInBounds_toArray, List.set_cons_zero, List.set_cons_succ]
  refine lexW_off (by rfl) (by rfl) ?_
  simp only [Act.put, List.setIfInBounds_toArray, List.set_cons_zero, List.set_cons_succ]
  refine lexW_off (by rfl) (by rfl) ?_
  simp only [Act.put, List.setIfInBounds_toArray, List.set_cons_zero, List.set_cons_succ]
  refine lexW_off (by rfl) (by rfl) ?_
  simp only [Act.put, List.setIfInBounds_toArray, List.set_cons_zero, List.set_cons_succ]
  refine lexW_off (by rfl) (by rfl) ?_
  simp only [Act.put, List.setIfInBounds_toArray, List.set_cons_zero, List.set_cons_succ]
  refine lexW_off (by rfl) (by rfl) ?_
  simp only [Act.put, List.setIfInBounds_toArray, List.set_cons_zero, List.set_cons_succ]
  refine lexW_off (by rfl) (by rfl) ?_
  simp only [Act.put, List.setIfInBounds_toArray, List.set_cons_zero, List.set_cons_succ]
  refine lexW_off (by rfl) (by rfl) ?_
  simp only [Act.put, List.setIfInBounds_toArray, List.set_cons_zero, List.set_cons_succ]
  refine lexW_value (v := ?_) (by rfl) (by rfl) (fun W hW => ?_) ?_
  rotate_left
  · skip; go_simp <;> with_reducible rfl
  simp only [Act.put, List.setIfInBounds_toArray, List.set_cons_zero, List.set_cons_succ]
  refine lexW_value (v := ?_) (by rfl) (by rfl) (fun W hW => ?_) ?_
  rotate_left
  · skip; go_simp <;> with_reducible rfl
  simp only [Act.put, List.setIfInBounds_toArray, List.set_cons_zero, List.set_cons_succ]
  refine lexW_nil (fun b7 W7 F7 E7 => ?_)
  obtain rfl := lexEnd_none E7
  go_wp2
  go_ret
  exact ⟨rfl, F7.below⟩
end
end Pnt
end Go.Proofs.YtlfkohanfeejfaaDoor
