/-
  What the laws of layer 7 share: bytes of points, and what they are read as.
  The statements' head, walked.
  What every statement's row needs: an argument read as data is an array of words, of bytes, a word; behind the call all reads as before.
-/
import Derived.Deep.MidRow
import Derived.Deep.Slices
import Derived.LaidMore
import Derived.OpenShut
import Derived.ProofKit
import Derived.Stop.Joined
import Derived.Test.YtlfkohanfeejfaaDoorMad
import Derived.Test.YtlfkohanfeejfaaDoorMbf
import Derived.Test.YtlfkohanfeejfaaDoorMbh
import Derived.Test.YtlfkohanfeejfaaDoorRows
namespace Go.Proofs.YtlfkohanfeejfaaDoor
open Go.RowKit
namespace Pnt
open Crv

theorem xor_high (x : UInt8) : bits .xor .u8 (x.toNat : Int) 128 = ((x ^^^ 128).toNat : Int) := by
  have h : ∀ a : Fin 256, bits .xor .u8 (((UInt8.ofNat a.val).toNat : Nat) : Int) 128 = ((UInt8.ofNat a.val ^^^ 128).toNat : Int) := by decide +kernel
  have e : UInt8.ofNat x.toNat = x := UInt8.ofNat_toNat
  have := h ⟨x.toNat, x.toNat_lt⟩
  simp only [e] at this
  exact this
theorem lit_fe0 : Value.agg #[.int .u64 0, .int .u64 0, .int .u64 0, .int .u64 0] = .agg ((lims 0).map nv).toArray := by kernel_rfl

theorem rdecode_q (l : List UInt8) (w : World) (hl : l.length = 32) : Calls Tryd.prog 9 #[.agg (l.map bv).toArray] w fun e w' => e = .returned (.tuple #[.agg ((limsL [(dnum l).1, (dnum l).2]).map nv).toArray, .int .i64 (derr l)]) ∧ Below w.heap.size w w' := rDecode_any l w hl
theorem dnum_enc (p : Pt) : dnum (enc p.1) = nums p := by
  have h : (dec (enc p.1)).1 = p.1 := by rw [dec_enc p.2]
  unfold dnum nums
  rw [h]
theorem derr_of {l : List UInt8} (h : (dec l).2 = true) : derr l = 0 := by unfold derr; exact if_pos h
theorem derr_no {l : List UInt8} (h : (dec l).2 = false) : derr l = 70 := by unfold derr; exact if_neg (by rw [h]; decide)
theorem derr_enc (p : Pt) : derr (enc p.1) = 0 := derr_of (by rw [dec_enc p.2])
theorem ex_of {l : List UInt8} (q : (F × F) × Bool) (h1 : On q.1) (h3 : enc q.1 = l) : ∃ p : Pt, l = enc p.1 := ⟨⟨q.1, h1⟩, h3.symm⟩
theorem not_both (q : (F × F) × Bool) (h : q.2 = true) (h2 : q = (pzero, false)) : False := by rw [h2] at h; cases h
theorem dec_yes {l : List UInt8} (h : (dec l).2 = true) : ∃ q : Pt, l = enc q.1 :=
  (dec_cases l).elim (fun h1 => ex_of (dec l) h1.1 h1.2.2) (fun h1 => (not_both (dec l) h h1.1).elim)
theorem none_val : Pt.none.1 = pzero := rfl
theorem first_of (q : (F × F) × Bool) (h2 : q = (pzero, false)) : q.1 = pzero := by rw [h2]
theorem no_both (q : (F × F) × Bool) (h : q.2 = false) (h2 : q.2 = true) : False := by rw [h] at h2; cases h2
theorem dec_no {l : List UInt8} (h : (dec l).2 = false) : (dec l).1 = pzero :=
  (dec_cases l).elim (fun h1 => (no_both (dec l) h h1.2.1).elim) (fun h1 => first_of (dec l) h1.1)
theorem dnum_no {l : List UInt8} (h : (dec l).2 = false) : dnum l = nums Pt.none ∧ derr l = 70 := by
  refine ⟨?_, derr_no h⟩
  unfold dnum nums
  rw [dec_no h, none_val]
theorem eql_bb (l : List UInt8) (hl : l.length = 32) (W : World) : (binOp .eql 27 (.agg (l.map bv).toArray) (.agg (l.map bv).toArray)).run Tryd.prog W = .ok (.bool true) W := by
  rw [Byt.run_eql_b l l hl hl W, decide_eq_true rfl]
theorem b32_new (w : World) : (w.alloc (.cells zb 27)).heap[w.heap.size]? = some (.cells ((List.replicate 32 (0 : UInt8)).map bv).toArray 27 (0, 0)) := holdsB_new w _ _ _ (List.replicate 32 0) rfl rfl
theorem cellb {W : World} {ty g : Nat} {l : List UInt8} (h : HoldsB W ty g l) (j x : Nat) (hx : (l.getD j 0).toNat = x) (hj : j < l.length) : W.cell? ⟨g, j, none⟩ = some (.int .u8 (x : Int)) := by
  rw [h.cell hj, ← hx, List.getD_eq_getElem?_getD, List.getElem?_eq_getElem hj, Option.getD_some]
def B1 : List UInt8 := [1, 0, 0, 0, 0, 0, 0, 0, 0, 0, 0, 0, 0, 0, 0, 0, 0, 0, 0, 0, 0, 0, 0, 0, 0, 0, 0, 0, 0, 0, 0, 0]
theorem len_B1 : B1.length = 32 := by decide
theorem lit_B1 : Value.agg #[.int .u8 1, .int .u8 0, .int .u8 0, .int .u8 0, .int .u8 0, .int .u8 0, .int .u8 0, .int .u8 0, .int .u8 0, .int .u8 0, .int .u8 0, .int .u8 0, .int .u8 0, .int .u8 0, .int .u8 0, .int .u8 0, .int .u8 0, .int .u8 0, .int .u8 0, .int .u8 0, .int .u8 0, .int .u8 0, .int .u8 0, .int .u8 0, .int .u8 0, .int .u8 0, .int .u8 0, .int .u8 0, .int .u8 0, .int .u8 0, .int .u8 0, .int .u8 0] = .agg (B1.map bv).toArray := by kernel_rfl
def B2 : List UInt8 := [2, 0, 0, 0, 0, 0, 0, 0, 0, 0, 0, 0, 0, 0, 0, 0, 0, 0, 0, 0, 0, 0, 0, 0, 0, 0, 0, 0, 0, 0, 0, 0]
theorem len_B2 : B2.length = 32 := by decide
theorem lit_B2 : Value.agg #[.int .u8 2, .int .u8 0, .int .u8 0, .int .u8 0, .int .u8 0, .int .u8 0, .int .u8 0, .int .u8 0, .int .u8 0, .int .u8 0, .int .u8 0, .int .u8 0, .int .u8 0, .int .u8 0, .int .u8 0, .int .u8 0, .int .u8 0, .int .u8 0, .int .u8 0, .int .u8 0, .int .u8 0, .int .u8 0, .int .u8 0, .int .u8 0, .int .u8 0, .int .u8 0, .int .u8 0, .int .u8 0, .int .u8 0, .int .u8 0, .int .u8 0, .int .u8 0] = .agg (B2.map bv).toArray := by kernel_rfl
def B3 : List UInt8 := [1, 0, 0, 0, 0, 0, 0, 0, 0, 0, 0, 0, 0, 0, 0, 0, 0, 0, 0, 0, 0, 0, 0, 0, 0, 0, 0, 0, 0, 0, 0, 128]
theorem len_B3 : B3.length = 32 := by decide
theorem lit_B3 : Value.agg #[.int .u8 1, .int .u8 0, .int .u8 0, .int .u8 0, .int .u8 0, .int .u8 0, .int .u8 0, .int .u8 0, .int .u8 0, .int .u8 0, .int .u8 0, .int .u8 0, .int .u8 0, .int .u8 0, .int .u8 0, .int .u8 0, .int .u8 0, .int .u8 0, .int .u8 0, .int .u8 0, .int .u8 0, .int .u8 0, .int .u8 0, .int .u8 0, .int .u8 0, .int .u8 0, .int .u8 0, .int .u8 0, .int .u8 0, .int .u8 0, .int .u8 0, .int .u8 128] = .agg (B3.map bv).toArray := by kernel_rfl
end Pnt
end Go.Proofs.YtlfkohanfeejfaaDoor

namespace Go.Proofs.YtlfkohanfeejfaaDoor
open Go.RowKit
namespace Pnt
open Crv

section
attribute [local go_sem ↓] load_pt load_s6 Byt.load_by

set_option maxRecDepth 100000 in
set_option maxHeartbeats 8000000 in
theorem awake_any (w : World) (L0 : Laid w) :
    Calls Tryd.prog 7 #[] w fun e w' => e = .returned (.bool true) ∧ Below w.heap.size w w' := by
  have hsz0 := L0.size
  have LK : Hid (∀ W, Below w.heap.size w W → Laid W) := Lib.hid fun W hb => L0.keep hb hsz0
  obtain ⟨bP, d_b⟩ : ∃ zz : Pt, zz = pbase := ⟨_, rfl⟩
  obtain ⟨b, n_b⟩ : ∃ zz : Nat × Nat, zz = nums bP := ⟨_, rfl⟩
  have ok_b : ok b := by rw [n_b]; exact nums_ok _
  have q_b : pt b = bP := by rw [n_b]; exact pt_nums _
  obtain ⟨zP, d_z⟩ : ∃ zz : Pt, zz = Pt.none := ⟨_, rfl⟩
  obtain ⟨z, n_z⟩ : ∃ zz : Nat × Nat, zz = nums zP := ⟨_, rfl⟩
  have ok_z : ok z := by rw [n_z]; exact nums_ok _
  have q_z : pt z = zP := by rw [n_z]; exact pt_nums _
  obtain ⟨l_b, d_l_b⟩ : ∃ zz : List UInt8, zz = enc bP.1 := ⟨_, rfl⟩
  have HL_l_b : Hid (l_b.length = 32) := Lib.hid (by rw [d_l_b]; exact enc_length _)
  have c_l_b_0 : (l_b.getD 0 0).toNat = 88 := by rw [d_l_b, d_b]; exact base_B0
  have c_l_b_31 : (l_b.getD 31 0).toNat = 102 := by rw [d_l_b, d_b]; exact base_B31
  have K1 : Hid (∀ W, Laid W → Calls Tryd.prog 22 #[] W fun e w' => e = .returned (.agg ((limsL [b.1, b.2]).map nv).toArray) ∧ Below W.heap.size W w') := Lib.hid fun W L => by
    have h := base_q W L
    rw [show nums pbase = b from (by rw [n_b, d_b])] at h
    exact h
  have K2 : Hid (∀ W, Laid W → Calls Tryd.prog 10 #[.agg ((limsL [b.1, b.2]).map nv).toArray] W fun e w' => e = .returned (.agg (l_b.map bv).toArray) ∧ Below W.heap.size W w') := Lib.hid fun W L => by
    have h := encode_q b W ok_b L
    rw [show enc (pt b).1 = l_b from (by rw [q_b, d_l_b])] at h
    exact h
  have K3 : Hid (∀ W, Laid W → Calls Tryd.prog 8 #[.agg (l_b.map bv).toArray] W fun e w' => e = .returned (.tuple #[.agg ((limsL [b.1, b.2]).map nv).toArray, .int .i64 0]) ∧ Below W.heap.size W w') := Lib.hid fun W L => by
    have h := decode_q l_b W HL_l_b.out L
    rw [show dnum l_b = b from (by rw [d_l_b, dnum_enc, n_b]), show derr l_b = 0 from (by rw [d_l_b, derr_enc])] at h
    exact h
  have K4 : Hid (∀ W, Laid W → Calls Tryd.prog 8 #[.agg #[.int .u8 1, .int .u8 0, .int .u8 0, .int .u8 0, .int .u8 0, .int .u8 0, .int .u8 0, .int .u8 0, .int .u8 0, .int .u8 0, .int .u8 0, .int .u8 0, .int .u8 0, .int .u8 0, .int .u8 0, .int .u8 0, .int .u8 0, .int .u8 0, .int .u8 0, .int .u8 0, .int .u8 0, .int .u8 0, .int .u8 0, .int .u8 0, .int .u8 0, .int .u8 0, .int .u8 0, .int .u8 0, .int .u8 0, .int .u8 0, .int .u8 0, .int .u8 128]] W fun e w' => e = .returned (.tuple #[.agg ((limsL [z.1, z.2]).map nv).toArray, .int .i64 70]) ∧ Below W.heap.size W w') := Lib.hid fun W L => by
    have h := decode_q B3 W len_B3 L
    rw [show dnum B3 = z from (by rw [n_z, d_z]; exact (dnum_no none_B3).1), show derr B3 = 70 from (dnum_no none_B3).2] at h
    rw [← lit_B3] at h
    exact h
  have K5 : Hid (∀ W, Laid W → Calls Tryd.prog 8 #[.agg #[.int .u8 2, .int .u8 0, .int .u8 0, .int .u8 0, .int .u8 0, .int .u8 0, .int .u8 0, .int .u8 0, .int .u8 0, .int .u8 0, .int .u8 0, .int .u8 0, .int .u8 0, .int .u8 0, .int .u8 0, .int .u8 0, .int .u8 0, .int .u8 0, .int .u8 0, .int .u8 0, .int .u8 0, .int .u8 0, .int .u8 0, .int .u8 0, .int .u8 0, .int .u8 0, .int .u8 0, .int .u8 0, .int .u8 0, .int .u8 0, .int .u8 0, .int .u8 0]] W fun e w' => e = .returned (.tuple #[.agg ((limsL [z.1, z.2]).map nv).toArray, .int .i64 70]) ∧ Below W.heap.size W w') := Lib.hid fun W L => by
    have h := decode_q B2 W len_B2 L
    rw [show dnum B2 = z from (by rw [n_z, d_z]; exact (dnum_no none_B2).1), show derr B2 = 70 from (dnum_no none_B2).2] at h
    rw [← lit_B2] at h
    exact h
  have K6 : Hid (∀ W, Laid W → Calls Tryd.prog 18 #[] W fun e w' => e = .returned (.agg ((limsL [z.1, z.2]).map nv).toArray) ∧ Below W.heap.size W w') := Lib.hid fun W L => by
    have h := zero_q W L
    rw [show nums Pt.none = z from (by rw [n_z, d_z])] at h
    exact h
  have K7 : Hid (∀ W, Laid W → Calls Tryd.prog 10 #[.agg ((limsL [z.1, z.2]).map nv).toArray] W fun e w' => e = .returned (.agg #[.int .u8 1, .int .u8 0, .int .u8 0, .int .u8 0, .int .u8 0, .int .u8 0, .int .u8 0, .int .u8 0, .int .u8 0, .int .u8 0, .int .u8 0, .int .u8 0, .int .u8 0, .int .u8 0, .int .u8 0, .int .u8 0, .int .u8 0, .int .u8 0, .int .u8 0, .int .u8 0, .int .u8 0, .int .u8 0, .int .u8 0, .int .u8 0, .int .u8 0, .int .u8 0, .int .u8 0, .int .u8 0, .int .u8 0, .int .u8 0, .int .u8 0, .int .u8 0]) ∧ Below W.heap.size W w') := Lib.hid fun W L => by
    have h := encode_q z W ok_z L
    rw [show enc (pt z).1 = B1 from (by rw [q_z, d_z]; exact none_enc)] at h
    rw [lit_B1]
    exact h
  have K8 : Hid (∀ W, Laid W → Calls Tryd.prog 12 #[.agg ((limsL [z.1, z.2]).map nv).toArray] W fun e w' => e = .returned (.bool true) ∧ Below W.heap.size W w') := Lib.hid fun W L => by
    have h := small_q z W ok_z L
    rw [show decide (Pt.times 8 (pt z) = Pt.none) = true from (by rw [q_z, d_z, Pt.times_none]; exact decide_eq_true rfl)] at h
    exact h
  have K9 : Hid (∀ W, Laid W → Calls Tryd.prog 12 #[.agg ((limsL [b.1, b.2]).map nv).toArray] W fun e w' => e = .returned (.bool false) ∧ Below W.heap.size W w') := Lib.hid fun W L => by
    have h := small_q b W ok_b L
    rw [show decide (Pt.times 8 (pt b) = Pt.none) = false from (by rw [q_b, d_b]; exact decide_eq_false base_small)] at h
    exact h
  have K10 : Hid (∀ W, Laid W → Calls Tryd.prog 14 #[.agg #[.int .u64 1, .int .u64 0, .int .u64 0, .int .u64 0]] W fun e w' => e = .returned (.agg (l_b.map bv).toArray) ∧ Below W.heap.size W w') := Lib.hid fun W L => by
    have h := times_q 1 W (by decide) L
    rw [show enc (Pt.times (toS 1).val pbase).1 = l_b from (by rw [toS_small (by decide), Pt.times_one, d_l_b, d_b])] at h
    rw [← litS1] at h
    exact h
  have eq_b := fun W => eql_pp b ok_b W
  have eq_B1 : ∀ W, (binOp .eql 27 (.agg #[.int .u8 1, .int .u8 0, .int .u8 0, .int .u8 0, .int .u8 0, .int .u8 0, .int .u8 0, .int .u8 0, .int .u8 0, .int .u8 0, .int .u8 0, .int .u8 0, .int .u8 0, .int .u8 0, .int .u8 0, .int .u8 0, .int .u8 0, .int .u8 0, .int .u8 0, .int .u8 0, .int .u8 0, .int .u8 0, .int .u8 0, .int .u8 0, .int .u8 0, .int .u8 0, .int .u8 0, .int .u8 0, .int .u8 0, .int .u8 0, .int .u8 0, .int .u8 0]) (.agg #[.int .u8 1, .int .u8 0, .int .u8 0, .int .u8 0, .int .u8 0, .int .u8 0, .int .u8 0, .int .u8 0, .int .u8 0, .int .u8 0, .int .u8 0, .int .u8 0, .int .u8 0, .int .u8 0, .int .u8 0, .int .u8 0, .int .u8 0, .int .u8 0, .int .u8 0, .int .u8 0, .int .u8 0, .int .u8 0, .int .u8 0, .int .u8 0, .int .u8 0, .int .u8 0, .int .u8 0, .int .u8 0, .int .u8 0, .int .u8 0, .int .u8 0, .int .u8 0])).run Tryd.prog W = .ok (.bool true) W := fun W => by
    rw [lit_B1]
    exact eql_bb B1 len_B1 W
  have eq_l_b := fun W => eql_bb l_b HL_l_b.out W
  have gf := fun x y c d W => run_guard_pt x y c d W
  have gb := fun x y c d W => Byt.run_guard_b x y c d W
  clear L0 hsz0 d_l_b d_b n_b ok_b q_b d_z n_z ok_z q_z
  have F0 : Bs w (w.heap.size) [] w := Bs.nil
  go_enter Tryd.func7, Tryd.ntmps7
  go_upto_region 1 with (fail)
  go_upto_region 2 with (first
    | (go_at_call 22
       with_reducible refine (K1.out _ (LK.out _ F0.below)).mono ?_
       rintro e w1 ⟨rfl, hb1⟩
       have F1 := Bs.stay _ _ F0 hb1)
    | (go_at_call 10
       with_reducible refine (K2.out _ (LK.out _ F1.below)).mono ?_
       rintro e w2 ⟨rfl, hb2⟩
       have F2 := Bs.stay _ _ F1 hb2
       have F2a := Bs.stay _ _ F2 ((Below.refl _ w2).alloc (Nat.le_refl _) (.cells zb 27))
       have z2 := b32_new w2)
    | (with_reducible refine wpList_store_b rfl 27 (.tmp 1) (.tmp 9) rfl w2.heap.size l_b rfl rfl HL_l_b.out (List.replicate 32 0) (by with_unfolding_all exact z2) Tryd.infoB32 (by simp) w.heap.size w (by with_unfolding_all exact F2a.below) F2.below.size ?_
       intro w3 H3 o3 s3 b3
       have F3 := Bs.add (by with_unfolding_all exact F2a) F2.len H3 o3 b3
       clear s3)
    | fail)
  have hg2 := F2.len
  clear hb1 F0 hb2 F1 F2a z2 o3 H3 b3 F2
  generalize w2.heap.size = g1 at *
  have hL1 := F3.getB (g := g1) (l := l_b) (by repeat (first | exact List.mem_cons_self .. | refine List.mem_cons_of_mem _ ?_))
  go_upto_region 3 with (first
    | (with_reducible refine wpList_load_b rfl 27 (.tmp 1) rfl (g1) rfl l_b hL1 HL_l_b.out Tryd.underlying27 Tryd.infoB32 ?_)
    | (go_at_call 8
       with_reducible refine (K3.out _ (LK.out _ F3.below)).mono ?_
       rintro e w4 ⟨rfl, hb4⟩
       have F4 := Bs.stay _ _ F3 hb4
       have F4a := Bs.stay _ _ F4 ((Below.refl _ w4).alloc (Nat.le_refl _) (.cells #[.int .u64 0, .int .u64 0, .int .u64 0, .int .u64 0, .int .u64 0, .int .u64 0, .int .u64 0, .int .u64 0] 26))
       have z4 := pt_new6 w4)
    | (with_reducible refine wpList_store_n rfl 26 (.tmp 2) (.tmp 13) rfl w4.heap.size (limsL [b.1, b.2]) 8 rfl rfl rfl (limsL [0, 0]) (by with_unfolding_all exact z4) Tryd.infoPt rfl w.heap.size w (by with_unfolding_all exact F4a.below) F4.below.size ?_
       intro w5 H5 o5 s5 b5
       have F5 := Bs.add (by with_unfolding_all exact F4a) F4.len H5 o5 b5
       clear s5)
    | fail)
  have hg4 := F4.len
  clear hL1 hb4 F3 F4a z4 o5 H5 b5 F4
  generalize w4.heap.size = g2 at *
  go_upto_region 4 with (first
    | (go_at_call 8
       with_reducible refine (K4.out _ (LK.out _ F5.below)).mono ?_
       rintro e w6 ⟨rfl, hb6⟩
       have F6 := Bs.stay _ _ F5 hb6
       have F6a := Bs.stay _ _ F6 ((Below.refl _ w6).alloc (Nat.le_refl _) (.cells #[.int .u64 0, .int .u64 0, .int .u64 0, .int .u64 0, .int .u64 0, .int .u64 0, .int .u64 0, .int .u64 0] 26))
       have z6 := pt_new6 w6)
    | (with_reducible refine wpList_store_n rfl 26 (.tmp 4) (.tmp 18) rfl w6.heap.size (limsL [z.1, z.2]) 8 rfl rfl rfl (limsL [0, 0]) (by with_unfolding_all exact z6) Tryd.infoPt rfl w.heap.size w (by with_unfolding_all exact F6a.below) F6.below.size ?_
       intro w7 H7 o7 s7 b7
       have F7 := Bs.add (by with_unfolding_all exact F6a) F6.len H7 o7 b7
       clear s7)
    | fail)
  have hg6 := F6.len
  clear hb6 F5 F6a z6 o7 H7 b7 F6
  generalize w6.heap.size = g4 at *
  go_upto_region 5 with (first
    | (go_at_call 8
       with_reducible refine (K5.out _ (LK.out _ F7.below)).mono ?_
       rintro e w8 ⟨rfl, hb8⟩
       have F8 := Bs.stay _ _ F7 hb8
       have F8a := Bs.stay _ _ F8 ((Below.refl _ w8).alloc (Nat.le_refl _) (.cells #[.int .u64 0, .int .u64 0, .int .u64 0, .int .u64 0, .int .u64 0, .int .u64 0, .int .u64 0, .int .u64 0] 26))
       have z8 := pt_new6 w8)
    | (with_reducible refine wpList_store_n rfl 26 (.tmp 6) (.tmp 23) rfl w8.heap.size (limsL [z.1, z.2]) 8 rfl rfl rfl (limsL [0, 0]) (by with_unfolding_all exact z8) Tryd.infoPt rfl w.heap.size w (by with_unfolding_all exact F8a.below) F8.below.size ?_
       intro w9 H9 o9 s9 b9
       have F9 := Bs.add (by with_unfolding_all exact F8a) F8.len H9 o9 b9
       clear s9)
    | fail)
  have hg8 := F8.len
  clear hb8 F7 F8a z8 o9 H9 b9 F8
  generalize w8.heap.size = g6 at *
  refine wp_region_lex 48 (fun _ => false) (fun _ _ _ => True) (Bs w (g6 + 1) [(g6, 26, ((limsL [z.1, z.2]).map nv).toArray), (g4, 26, ((limsL [z.1, z.2]).map nv).toArray), (g2, 26, ((limsL [b.1, b.2]).map nv).toArray), (g1, 27, (l_b.map bv).toArray)]) (by kernel_rfl) (by kernel_rfl) F9.drew Bs.stay (fun _ _ _ _ _ _ => trivial) lex_none ?_
  simp only [List.take_succ_cons, List.take_zero, List.drop_succ_cons, List.drop_zero]
  refine' lexW_call (by rfl) (by rfl) (fun W hW => ?_) (fun W hW => ?_) ?_
  rotate_left 3
  · go_simp <;> first | with_reducible rfl | exact ⟨rfl, rfl⟩
  · with_reducible exact K6.out W (LK.out _ hW.below)
  simp only [Act.put, List.setIfInBounds_toArray, List.set_cons_zero, List.set_cons_succ]
  refine' lexW_call (by rfl) (by rfl) (fun W hW => ?_) (fun W hW => ?_) ?_
  rotate_left 3
  · go_simp <;> first | with_reducible rfl | exact ⟨rfl, rfl⟩
  · with_reducible exact K7.out W (LK.out _ hW.below)
  simp only [Act.put, List.setIfInBounds_toArray, List.set_cons_zero, List.set_cons_succ]
  refine lexW_value (v := ?_) (by rfl) (by rfl) (fun W hW => ?_) ?_
  rotate_left
  · skip; go_simp <;> with_reducible rfl
  simp only [Act.put, List.setIfInBounds_toArray, List.set_cons_zero, List.set_cons_succ]
  refine lexW_value (v := ?_) (by rfl) (by rfl) (fun W hW => ?_) ?_
  rotate_left
  · skip; go_simp <;> with_reducible rfl
  simp only [Act.put, List.setIfInBounds_toArray, List.set_cons_zero, List.set_cons_succ]
  refine lexW_value (v := ?_) (by rfl) (by rfl) (fun W hW => ?_) ?_
  rotate_left
  · skip; go_simp <;> with_reducible rfl
  simp only [Act.put, List.setIfInBounds_toArray, List.set_cons_zero, List.set_cons_succ]
  refine lexW_value (v := ?_) (by rfl) (by rfl) (fun W hW => ?_) ?_
  rotate_left
  · skip; go_simp <;> with_reducible rfl
  simp only [Act.put, List.setIfInBounds_toArray, List.set_cons_zero, List.set_cons_succ]
  refine lexW_value (v := ?_) (by rfl) (by rfl) (fun W hW => ?_) ?_
  rotate_left
  · have l1 := cellb (hW.getB (g := g1) (l := l_b) (by repeat (first | exact List.mem_cons_self .. | refine List.mem_cons_of_mem _ ?_))) 0 88 c_l_b_0 (by rw [HL_l_b.out]; omega); go_simp <;> with_reducible rfl
  simp only [Act.put, List.setIfInBounds_toArray, List.set_cons_zero, List.set_cons_succ]
  refine lexW_value (v := ?_) (by rfl) (by rfl) (fun W hW => ?_) ?_
  rotate_left
  · skip; go_simp <;> with_reducible rfl
  simp only [Act.put, List.setIfInBounds_toArray, List.set_cons_zero, List.set_cons_succ]
  refine lexW_value (v := ?_) (by rfl) (by rfl) (fun W hW => ?_) ?_
  rotate_left
  · skip; go_simp <;> with_reducible rfl
  simp only [Act.put, List.setIfInBounds_toArray, List.set_cons_zero, List.set_cons_succ]
  refine lexW_value (v := ?_) (by rfl) (by rfl) (fun W hW => ?_) ?_
  rotate_left
  · skip; go_simp <;> with_reducible rfl
  simp only [Act.put, List.setIfInBounds_toArray, List.set_cons_zero, List.set_cons_succ]
  refine lexW_value (v := ?_) (by rfl) (by rfl) (fun W hW => ?_) ?_
  rotate_left
  · skip; go_simp <;> with_reducible rfl
  simp only [Act.put, List.setIfInBounds_toArray, List.set_cons_zero, List.set_cons_succ]
  refine lexW_value (v := ?_) (by rfl) (by rfl) (fun W hW => ?_) ?_
  rotate_left
  · have l1 := cellb (hW.getB (g := g1) (l := l_b) (by repeat (first | exact List.mem_cons_self .. | refine List.mem_cons_of_mem _ ?_))) 31 102 c_l_b_31 (by rw [HL_l_b.out]; omega); go_simp <;> with_reducible rfl
  simp only [Act.put, List.setIfInBounds_toArray, List.set_cons_zero, List.set_cons_succ]
  refine lexW_value (v := ?_) (by rfl) (by rfl) (fun W hW => ?_) ?_
  rotate_left
  · skip; go_simp <;> with_reducible rfl
  simp only [Act.put, List.setIfInBounds_toArray, List.set_cons_zero, List.set_cons_succ]
  refine lexW_value (v := ?_) (by rfl) (by rfl) (fun W hW => ?_) ?_
  rotate_left
  · skip; go_simp <;> with_reducible rfl
  simp only [Act.put, List.setIfInBounds_toArray, List.set_cons_zero, List.set_cons_succ]
  refine lexW_value (v := ?_) (by rfl) (by rfl) (fun W hW => ?_) ?_
  rotate_left
  · skip; go_simp <;> with_reducible rfl
  simp only [Act.put, List.setIfInBounds_toArray, List.set_cons_zero, List.set_cons_succ]
  refine lexW_value (v := ?_) (by rfl) (by rfl) (fun W hW => ?_) ?_
  rotate_left
  · have l1 := run_ldP (hW.getN (g := g2) (l := limsL [b.1, b.2]) (by repeat (first | exact List.mem_cons_self .. | refine List.mem_cons_of_mem _ ?_))); go_simp <;> with_reducible rfl
  simp only [Act.put, List.setIfInBounds_toArray, List.set_cons_zero, List.set_cons_succ]
  refine' lexW_call (by rfl) (by rfl) (fun W hW => ?_) (fun W hW => ?_) ?_
  rotate_left 3
  · go_simp <;> first | with_reducible rfl | exact ⟨rfl, rfl⟩
  · with_reducible exact K1.out W (LK.out _ hW.below)
  simp only [Act.put, List.setIfInBounds_toArray, List.set_cons_zero, List.set_cons_succ]
  refine lexW_value (v := ?_) (by rfl) (by rfl) (fun W hW => ?_) ?_
  rotate_left
  · skip; go_simp <;> with_reducible rfl
  simp only [Act.put, List.setIfInBounds_toArray, List.set_cons_zero, List.set_cons_succ]
  refine lexW_value (v := ?_) (by rfl) (by rfl) (fun W hW => ?_) ?_
  rotate_left
  · skip; go_simp <;> with_reducible rfl
  simp only [Act.put, List.setIfInBounds_toArray, List.set_cons_zero, List.set_cons_succ]
  refine lexW_value (v := ?_) (by rfl) (by rfl) (fun W hW => ?_) ?_
  rotate_left
  · skip; go_simp <;> with_reducible rfl
  simp only [Act.put, List.setIfInBounds_toArray, List.set_cons_zero, List.set_cons_succ]
  refine lexW_value (v := ?_) (by rfl) (by rfl) (fun W hW => ?_) ?_
  rotate_left
  · skip; go_simp <;> with_reducible rfl
  simp only [Act.put, List.setIfInBounds_toArray, List.set_cons_zero, List.set_cons_succ]
  refine lexW_value (v := ?_) (by rfl) (by rfl) (fun W hW => ?_) ?_
  rotate_left
  · skip; go_simp <;> with_reducible rfl
  simp only [Act.put, List.setIfInBounds_toArray, List.set_cons_zero, List.set_cons_succ]
  refine lexW_value (v := ?_) (by rfl) (by rfl) (fun W hW => ?_) ?_
  rotate_left
  · skip; go_simp <;> with_reducible rfl
  simp only [Act.put, List.setIfInBounds_toArray, List.set_cons_zero, List.set_cons_succ]
  refine lexW_value (v := ?_) (by rfl) (by rfl) (fun W hW => ?_) ?_
  rotate_left
  · skip; go_simp <;> with_reducible rfl
  simp only [Act.put, List.setIfInBounds_toArray, List.set_cons_zero, List.set_cons_succ]
  refine lexW_value (v := ?_) (by rfl) (by rfl) (fun W hW => ?_) ?_
  rotate_left
  · skip; go_simp <;> with_reducible rfl
  simp only [Act.put, List.setIfInBounds_toArray, List.set_cons_zero, List.set_cons_succ]
  refine lexW_value (v := ?_) (by rfl) (by rfl) (fun W hW => ?_) ?_
  rotate_left
  · skip; go_simp <;> with_reducible rfl
  simp only [Act.put, List.setIfInBounds_toArray, List.set_cons_zero, List.set_cons_succ]
  refine lexW_value (v := ?_) (by rfl) (by rfl) (fun W hW => ?_) ?_
  rotate_left
  · skip; go_simp <;> with_reducible rfl
  simp only [Act.put, List.setIfInBounds_toArray, List.set_cons_zero, List.set_cons_succ]
  refine lexW_value (v := ?_) (by rfl) (by rfl) (fun W hW => ?_) ?_
  rotate_left
  · skip; go_simp <;> with_reducible rfl
  simp only [Act.put, List.setIfInBounds_toArray, List.set_cons_zero, List.set_cons_succ]
  refine lexW_value (v := ?_) (by rfl) (by rfl) (fun W hW => ?_) ?_
  rotate_left
  · skip; go_simp <;> with_reducible rfl
  simp only [Act.put, List.setIfInBounds_toArray, List.set_cons_zero, List.set_cons_succ]
  refine lexW_value (v := ?_) (by rfl) (by rfl) (fun W hW => ?_) ?_
  rotate_left
  · skip; go_simp <;> with_reducible rfl
  simp only [Act.put, List.setIfInBounds_toArray, List.set_cons_zero, List.set_cons_succ]
  refine lexW_value (v := ?_) (by rfl) (by rfl) (fun W hW => ?_) ?_
  rotate_left
  · skip; go_simp <;> with_reducible rfl
  simp only [Act.put, List.setIfInBounds_toArray, List.set_cons_zero, List.set_cons_succ]
  refine lexW_value (v := ?_) (by rfl) (by rfl) (fun W hW => ?_) ?_
  rotate_left
  · skip; go_simp <;> with_reducible rfl
  simp only [Act.put, List.setIfInBounds_toArray, List.set_cons_zero, List.set_cons_succ]
  refine' lexW_call (by rfl) (by rfl) (fun W hW => ?_) (fun W hW => ?_) ?_
  rotate_left 3
  · go_simp <;> first | with_reducible rfl | exact ⟨rfl, rfl⟩
  · with_reducible exact K6.out W (LK.out _ hW.below)
  simp only [Act.put, List.setIfInBounds_toArray, List.set_cons_zero, List.set_cons_succ]
  refine' lexW_call (by rfl) (by rfl) (fun W hW => ?_) (fun W hW => ?_) ?_
  rotate_left 3
  · go_simp <;> first | with_reducible rfl | exact ⟨rfl, rfl⟩
  · with_reducible exact K8.out W (LK.out _ hW.below)
  simp only [Act.put, List.setIfInBounds_toArray, List.set_cons_zero, List.set_cons_succ]
  refine lexW_value (v := ?_) (by rfl) (by rfl) (fun W hW => ?_) ?_
  rotate_left
  · skip; go_simp <;> with_reducible rfl
  simp only [Act.put, List.setIfInBounds_toArray, List.set_cons_zero, List.set_cons_succ]
  refine lexW_value (v := ?_) (by rfl) (by rfl) (fun W hW => ?_) ?_
  rotate_left
  · skip; go_simp <;> with_reducible rfl
  simp only [Act.put, List.setIfInBounds_toArray, List.set_cons_zero, List.set_cons_succ]
  refine' lexW_call (by rfl) (by rfl) (fun W hW => ?_) (fun W hW => ?_) ?_
  rotate_left 3
  · go_simp <;> first | with_reducible rfl | exact ⟨rfl, rfl⟩
  · with_reducible exact K1.out W (LK.out _ hW.below)
  simp only [Act.put, List.setIfInBounds_toArray, List.set_cons_zero, List.set_cons_succ]
  refine' lexW_call (by rfl) (by rfl) (fun W hW => ?_) (fun W hW => ?_) ?_
  rotate_left 3
  · go_simp <;> first | with_reducible rfl | exact ⟨rfl, rfl⟩
  · with_reducible exact K9.out W (LK.out _ hW.below)
  simp only [Act.put, List.setIfInBounds_toArray, List.set_cons_zero, List.set_cons_succ]
  refine lexW_value (v := ?_) (by rfl) (by rfl) (fun W hW => ?_) ?_
  rotate_left
  · skip; go_simp <;> with_reducible rfl
  simp only [Act.put, List.setIfInBounds_toArray, List.set_cons_zero, List.set_cons_succ]
  refine lexW_value (v := ?_) (by rfl) (by rfl) (fun W hW => ?_) ?_
  rotate_left
  · skip; go_simp <;> with_reducible rfl
  simp only [Act.put, List.setIfInBounds_toArray, List.set_cons_zero, List.set_cons_succ]
  refine lexW_value (v := ?_) (by rfl) (by rfl) (fun W hW => ?_) ?_
  rotate_left
  · skip; go_simp <;> with_reducible rfl
  simp only [Act.put, List.setIfInBounds_toArray, List.set_cons_zero, List.set_cons_succ]
  refine lexW_value (v := ?_) (by rfl) (by rfl) (fun W hW => ?_) ?_
  rotate_left
  · skip; go_simp <;> with_reducible rfl
  simp only [Act.put, List.setIfInBounds_toArray, List.set_cons_zero, List.set_cons_succ]
  refine' lexW_call (by rfl) (by rfl) (fun W hW => ?_) (fun W hW => ?_) ?_
  rotate_left 3
  · go_simp <;> first | with_reducible rfl | exact ⟨rfl, rfl⟩
  · with_reducible exact K10.out W (LK.out _ hW.below)
  simp only [Act.put, List.setIfInBounds_toArray, List.set_cons_zero, List.set_cons_succ]
  refine lexW_value (v := ?_) (by rfl) (by rfl) (fun W hW => ?_) ?_
  rotate_left
  · have l1 := Byt.run_loadBy (hW.getB (g := g1) (l := l_b) (by repeat (first | exact List.mem_cons_self .. | refine List.mem_cons_of_mem _ ?_))) HL_l_b.out; go_simp <;> with_reducible rfl
  simp only [Act.put, List.setIfInBounds_toArray, List.set_cons_zero, List.set_cons_succ]
  refine lexW_value (v := ?_) (by rfl) (by rfl) (fun W hW => ?_) ?_
  rotate_left
  · skip; go_simp <;> with_reducible rfl
  simp only [Act.put, List.setIfInBounds_toArray, List.set_cons_zero, List.set_cons_succ]
  refine lexW_value (v := ?_) (by rfl) (by rfl) (fun W hW => ?_) ?_
  rotate_left
  · skip; go_simp <;> with_reducible rfl
  simp only [Act.put, List.setIfInBounds_toArray, List.set_cons_zero, List.set_cons_succ]
  refine lexW_value (v := ?_) (by rfl) (by rfl) (fun W hW => ?_) ?_
  rotate_left
  · skip; go_simp <;> with_reducible rfl
  simp only [Act.put, List.setIfInBounds_toArray, List.set_cons_zero, List.set_cons_succ]
  refine lexW_value (v := ?_) (by rfl) (by rfl) (fun W hW => ?_) ?_
  rotate_left
  · skip; go_simp <;> with_reducible rfl
  simp only [Act.put, List.setIfInBounds_toArray, List.set_cons_zero, List.set_cons_succ]
  refine lexW_nil (fun b10 W10 F10 E10 => ?_)
  obtain rfl := lexEnd_none E10
  go_wp2
  go_ret
  exact ⟨rfl, F10.below⟩
end
end Pnt
end Go.Proofs.YtlfkohanfeejfaaDoor

namespace Go.Proofs.YtlfkohanfeejfaaDoor
open Go.ChangeShapes Go.WideShapes Go.ChangeAt Go.RowKit Go.Deep

theorem Tryd.own : ownKnob Tryd.prog.godebug = none := by kernel_rfl
theorem Tryd.laidOut : laidOutB Tryd.prog = true := by kernel_rfl

section
variable {H : Type} {enc : TypeId × Value → H} {P : Program}

/-- The types can be read, and lie in the table. -/
def typesRead (P : Program) (ts : List TypeId) : Bool := ts.all fun t => P.readableRec t && decide (t < P.types.size)

theorem below_trodAll (hl : laidOutB P = true) {W W' : World} (hb : Below W.heap.size W W') {sp : Nat → Bool} :
    ∀ {ts : List TypeId} {vs : List Value} {ds : List (DataW H)} {ps : List MemPlace}, typesRead P ts = true → DataW.TrodAll enc P W 0 (fun _ => true) true ts vs ds ps → (∀ x ∈ ps, x.block < W.heap.size) → (∀ x ∈ ps, sp x.block = true) →
      DataW.TrodAll enc P W' 0 sp true ts vs ds ps
  | [], _, _, _, _, h, _, _ => by
    obtain ⟨rfl, rfl, rfl⟩ := trodAll_nil h
    rfl
  | t :: ts, _, _, _, hr, h, hlt, hs => by
    obtain ⟨v, vs', d, ds', p, q, rfl, rfl, rfl, h1, h2⟩ := trodAll_cons h
    have hr' : (P.readableRec t = true ∧ t < P.types.size) ∧ typesRead P ts = true := by simpa [typesRead] using hr
    exact ⟨p, q, WideElems.Trod_stays hl hr'.1.1 hr'.1.2 h1 (fun x hx => hb.same (hlt x (by simp [hx]))) (fun x hx => hs x (by simp [hx])),
      below_trodAll hl hb hr'.2 h2 (fun x hx => hlt x (by simp [hx])) (fun x hx => hs x (by simp [hx])), rfl⟩

/-- 'true', and the arguments as they were: where below the heap's old size nothing has turned. -/
theorem post_true {f : Func} {s : ChangeSpec} {apart fresh handsOn again : Bool} {W W' : World} {args : Array Value} {ds gs : List (DataW H)} {before : List MemPlace} {tb : TypeId}
    (hl : laidOutB P = true) (hps : typesRead P f.params.toList = true) (hrt : f.resultTypes = #[tb]) (htb : P.underlying tb = some .bool) (hvs : s.vars = [])
    (hW : DataW.Whole enc P f.params.toList s.vars apart W args.toList ds gs before)
    (hr : (s.fn H (ds ++ gs)).results = [.lit (.bool true)]) (ha : (s.fn H (ds ++ gs)).args = ds) (hv : (s.fn H (ds ++ gs)).vars = [])
    (hb : Below W.heap.size W W') : s.post enc P f apart fresh handsOn again W args (.bool true) W' := by
  have hlt : ∀ p ∈ before, p.block < W.heap.size := fun p hp => by simpa using hW.lt p hp
  have hW0 := hW
  obtain ⟨p, q, hA, hV, rfl, hz, hn⟩ := hW
  rw [hvs] at hV
  obtain ⟨rfl, rfl⟩ := trodVars_none hV
  simp only [List.append_nil] at hlt hz hn hW0 hr ha hv ⊢
  have hres : ∀ (b : Nat) (sp : Nat → Bool) (hd : Bool), DataW.TrodAll enc P W' b sp hd f.resultTypes.toList ((Value.bool true).resultList f.resultTypes.size) [.lit (.bool true)] [] := fun b sp hd => by
    rw [hrt]
    exact trodAll_mk1 (shut_bool htb true)
  have hargs : ∀ sp : Nat → Bool, (∀ x ∈ p, sp x.block = true) → DataW.TrodAll enc P W' 0 sp true f.params.toList args.toList ds p := fun sp hs => below_trodAll hl hb hps hA hlt hs
  have hvars : ∀ sp : Nat → Bool, DataW.TrodVars enc P W' sp s.vars [] [] := fun sp => by rw [hvs]; rfl
  refine ⟨ds, [], p, [], p, [], hW0, ?_, ?_, ?_, World.keptBut_mono (fun x hx => ⟨hx, Or.inr (Or.inl hx)⟩) (hb.frame (· ∈ p)), fun _ => ?_⟩
  · simp only [List.append_nil, hr]; exact hres _ _ _
  · simp only [List.append_nil, ha]; exact hargs _ (fun x hx => by simpa using hlt x hx)
  · simp only [List.append_nil, hv]; exact hvars _
  · refine ⟨ok_one hrt rfl (okWide_bool_mk htb true), _, _, ([] ++ p) ++ [], ⟨[] ++ p, [], trodAll_append (hargs _ (fun _ _ => rfl)) (hres _ _ _), hvars _, rfl, ?_, ?_⟩, ?_⟩
    · intro b off hp
      have hp' : MemPlace.cell b off ∈ p := by simpa using hp
      rw [hb.frozen (p := ⟨b, off, none⟩) (hlt _ hp')]
      exact hz b off hp'
    · intro h
      simpa using hn h
    · intro x hx _
      simpa using hx

/-- A byte as a number of its range. -/
theorem byte_of_wf {n : Int} (h : (Lit.int .u8 n).wf = true) : ∃ x : UInt8, n = x.toNat := by
  have := bounds_u8 h
  exact ⟨UInt8.ofNat n.toNat, by rw [UInt8.toNat_ofNat']; omega⟩

theorem bytes_of_wf : ∀ zs : List Int, (∀ n ∈ zs, (Lit.int .u8 n).wf = true) → ∃ l : List UInt8, zs = l.map fun x => (x.toNat : Int)
  | [], _ => ⟨[], rfl⟩
  | z :: zs, h => by
    obtain ⟨x, hx⟩ := byte_of_wf (h z (by simp))
    obtain ⟨l, hl⟩ := bytes_of_wf zs (fun n hn => h n (by simp [hn]))
    exact ⟨x :: l, by rw [hx, hl]; rfl⟩

/-- An array of bytes, read. -/
theorem open_key {W : World} {base b0 n : Nat} {sp : Nat → Bool} {hd : Bool} {r : Reach} {t e : TypeId} {v : Value} {d : DataW H} {ps : List MemPlace} (ht : P.underlying t = some (.array n e)) (he : P.underlying e = some (.int .u8)) (hce : P.cellsOf e = 1)
    (hct : P.cellsOf t = n) (hval : Value.okWide P W r b0 t v) (hd' : DataW.Trod enc P W base sp hd t v d ps) : ∃ l : List UInt8, l.length = n ∧ v = .agg (l.map bv).toArray := by
  obtain ⟨cs, rfl, hsz, _⟩ : ∃ cs, v = .agg cs ∧ cs.size = P.cellsOf t ∧ Row.okWide P W r b0 t cs := by
    simpa [Value.okWide, ht] using hval
  obtain ⟨fuel, hf⟩ := hd'
  obtain ⟨xs, m, _, _, hcl, hxl, hx⟩ := DataW.trod_array ht hf
  have each : ∀ i, i < n → ∃ x : UInt8, cs[i]? = some (bv x) := fun i hi => by
    have hi' : i < cs.size := by omega
    have h := hx i hi
    rw [hce] at h
    have hcells : (Value.agg cs).cells.toList = cs.toList := rfl
    rw [hcells, Nat.mul_one] at h
    have e1 : (cs.toList.drop i).take 1 = [cs[i]] := by
      rw [List.take_one, List.head?_drop]
      simp [hi']
    rw [e1, List.getElem?_eq_getElem (by omega)] at h
    obtain ⟨z, hz, _, hw⟩ := DataW.trod_int he h
    obtain ⟨x, hx⟩ := byte_of_wf hw
    refine ⟨x, ?_⟩
    rw [Array.getElem?_eq_getElem hi']
    simp only [List.cons.injEq, and_true] at hz
    rw [hz, hx]; rfl
  obtain ⟨g, hg⟩ := choose_lt each
  refine ⟨(List.range n).map g, by simp, ?_⟩
  show Value.agg cs = .agg _
  congr 1
  apply Array.ext_getElem?
  intro i
  by_cases hi : i < n
  · rw [hg i hi]; simp [hi]
  · rw [Array.getElem?_eq_none (by omega)]
    simp [hi]

theorem word_of_wf {n : Int} (h : (Lit.int .u64 n).wf = true) : ∃ x : UInt64, n = x.toNat := by
  have h2 : 0 ≤ n ∧ n ≤ 18446744073709551615 := by simpa [Lit.wf, IntKind.min, IntKind.max, IntKind.signed, IntKind.bits] using h
  exact ⟨UInt64.ofNat n.toNat, by rw [UInt64.toNat_ofNat']; omega⟩

/-- An array of 64-bit numbers, read. -/
theorem open_words {W : World} {base n fuel : Nat} {sp : Nat → Bool} {hd : Bool} {t e : TypeId} {cs : List Value} {x : DataW H × List MemPlace} (ht : P.underlying t = some (.array n e)) (he : P.underlying e = some (.int .u64)) (hce : P.cellsOf e = 1)
    (hct : P.cellsOf t = n) (h : DataW.trod enc P W base sp hd fuel t cs = some x) :
    ∃ L : List Int, L.length = n ∧ cs = L.map (Value.int .u64) ∧ x.1 = .agg (L.map fun z => .lit (.int .u64 z)) ∧ ∀ z ∈ L, ∃ y : UInt64, z = y.toNat := by
  obtain ⟨xs, m, _, rfl, hcl, hxl, hx⟩ := DataW.trod_array ht h
  rw [hct] at hcl
  have each : ∀ i, i < n → ∃ z : Int, cs[i]? = some (.int .u64 z) ∧ xs[i]? = some (.lit (.int .u64 z), []) ∧ ∃ y : UInt64, z = y.toNat := fun i hi => by
    have h := hx i hi
    rw [hce, Nat.mul_one, List.take_one, List.head?_drop] at h
    rw [List.getElem?_eq_getElem (by omega), List.getElem?_eq_getElem (by omega)] at h
    obtain ⟨z, hz, hz2, hw⟩ := DataW.trod_int he h
    refine ⟨z, ?_, ?_, word_of_wf hw⟩
    · rw [List.getElem?_eq_getElem (by omega)]
      simp only [Option.toList_some, List.cons.injEq, and_true] at hz
      rw [hz]
    · rw [List.getElem?_eq_getElem (by omega), hz2]
  obtain ⟨g, hg⟩ := choose_lt each
  refine ⟨(List.range n).map g, by simp, ?_, ?_, ?_⟩
  · apply List.ext_getElem?
    intro i
    by_cases hi : i < n
    · rw [(hg i hi).1]; simp [hi]
    · rw [List.getElem?_eq_none (by omega)]; simp [hi]
  · show DataW.agg _ = _
    congr 1
    apply List.ext_getElem?
    intro i
    by_cases hi : i < n
    · rw [List.getElem?_map, (hg i hi).2.1]; simp [hi]
    · rw [List.getElem?_eq_none (by rw [List.length_map]; omega)]; simp [hi]
  · intro z hz
    obtain ⟨i, hi, rfl⟩ := List.mem_map.1 hz
    exact (hg i (List.mem_range.1 hi)).2.2

theorem map_lit_inj : ∀ {L M : List Int}, (L.map fun z => (DataW.lit (.int .u64 z) : DataW H)) = (M.map fun z => .lit (.int .u64 z)) → L = M
  | [], [], _ => rfl
  | [], _ :: _, h => by cases h
  | _ :: _, [], h => by cases h
  | a :: L, b :: M, h => by
    simp only [List.map_cons, List.cons.injEq, DataW.lit.injEq, Lit.int.injEq, true_and] at h
    rw [h.1, map_lit_inj h.2]
end


theorem cell_of_lims {n j : Nat} (hj : j < 4) : (((lims n).map fun x : Nat => (x : Int)).map (Value.int .u64))[j]? = some (.int .u64 (limb n j : Int)) := by
  match j, hj with
  | 0, _ => rfl
  | 1, _ => rfl
  | 2, _ => rfl
  | 3, _ => rfl

section
variable {H : Type} {enc : TypeId × Value → H} {P : Program}
theorem limbs_lt' {a b c d : Nat} (ha : a < 18446744073709551616) (hb : b < 18446744073709551616) (hc : c < 18446744073709551616) (hd : d < 18446744073709551616) : limbs a b c d < big := by
  unfold limbs big; omega
/-- A number of four limbs, read. -/
theorem open_four {W : World} {base b0 : Nat} {sp : Nat → Bool} {hd : Bool} {r : Reach} {t e : TypeId} {v : Value} {d : DataW H} {ps : List MemPlace} (ht : P.underlying t = some (.array 4 e)) (he : P.underlying e = some (.int .u64)) (hce : P.cellsOf e = 1) (hct : P.cellsOf t = 4)
    (hval : Value.okWide P W r b0 t v) (h : DataW.Trod enc P W base sp hd t v d ps) : ∃ m, m < big ∧ v = fev m := by
  obtain ⟨cs, rfl, hsz, _⟩ : ∃ cs, v = .agg cs ∧ cs.size = P.cellsOf t ∧ Row.okWide P W r b0 t cs := by
    simpa [Value.okWide, ht] using hval
  obtain ⟨fuel, hf⟩ := h
  have hf' : DataW.trod enc P W base sp hd fuel t cs.toList = some (d, ps) := hf
  obtain ⟨L, hL, hc, _, hw⟩ := open_words ht he hce hct hf'
  match L, hL, hc, hw with
  | [z0, z1, z2, z3], _, hc, hw =>
    obtain ⟨y0, rfl⟩ := hw z0 (by simp)
    obtain ⟨y1, rfl⟩ := hw z1 (by simp)
    obtain ⟨y2, rfl⟩ := hw z2 (by simp)
    obtain ⟨y3, rfl⟩ := hw z3 (by simp)
    refine ⟨limbs y0.toNat y1.toNat y2.toNat y3.toNat, limbs_lt' y0.toNat_lt y1.toNat_lt y2.toNat_lt y3.toNat_lt, ?_⟩
    rw [← fev_of y0.toNat_lt y1.toNat_lt y2.toNat_lt y3.toNat_lt]
    congr 1
    exact Array.ext' hc
/-- A word, read. -/
theorem open_word {W : World} {base b0 : Nat} {sp : Nat → Bool} {hd : Bool} {r : Reach} {t : TypeId} {v : Value} {d : DataW H} {ps : List MemPlace} (ht : P.underlying t = some (.int .u64))
    (hval : Value.okWide P W r b0 t v) (h : DataW.Trod enc P W base sp hd t v d ps) : ∃ n : Nat, n < 18446744073709551616 ∧ v = .int .u64 (n : Int) := by
  obtain ⟨fuel, hf⟩ := h
  obtain ⟨z, hz, _, hw⟩ := DataW.trod_int ht hf
  obtain ⟨x, rfl⟩ := word_of_wf hw
  refine ⟨x.toNat, x.toNat_lt, ?_⟩
  simp only [Value.okWide, ht] at hval
  cases v <;> simp_all [Value.cells, Cell.okWide, Cell.ok]
/-- A package variable that holds four words, as its datum says. -/
theorem var_four {W : World} {t e : TypeId} {fuel base : Nat} {sp : Nat → Bool} {hd : Bool} {cs : Array Value} {dt : DataW H} {ps : List MemPlace} {n : Nat} (ht : P.underlying t = some (.array 4 e)) (he : P.underlying e = some (.int .u64)) (hce : P.cellsOf e = 1) (hct : P.cellsOf t = 4)
    (hd0 : DataW.trod enc P W base sp hd fuel t cs.toList = some (dt, ps)) (hdt : dt = .agg (((lims n).map fun x : Nat => (x : Int)).map fun z => .lit (.int .u64 z))) : ∀ j, j < 4 → cs[j]? = some (.int .u64 (limb n j : Int)) := by
  obtain ⟨L, hL, hc, hx, _⟩ := open_words ht he hce hct hd0
  have e1 : L = (lims n).map fun x : Nat => (x : Int) := map_lit_inj (DataW.agg.inj (hx.symm.trans hdt))
  intro j hj
  rw [← Array.getElem?_toList, hc, e1]
  exact cell_of_lims hj
end
end Go.Proofs.YtlfkohanfeejfaaDoor
