/-
  The statements' head, walked.
-/
import Derived.Test.YthhcjknkmdaeeaaDoorSLaw
namespace Go.Proofs.YthhcjknkmdaeeaaDoor
open Go.RowKit

def LB5 : List UInt8 := [237, 211, 245, 92, 26, 99, 18, 88, 214, 156, 247, 162, 222, 249, 222, 20, 0, 0, 0, 0, 0, 0, 0, 0, 0, 0, 0, 0, 0, 0, 0, 16]
theorem num_LB : leNum LB5 = LL := by decide +kernel
theorem lit_LB : Value.agg (LB5.map bv).toArray = .agg #[.int .u8 237, .int .u8 211, .int .u8 245, .int .u8 92, .int .u8 26, .int .u8 99, .int .u8 18, .int .u8 88, .int .u8 214, .int .u8 156, .int .u8 247, .int .u8 162, .int .u8 222, .int .u8 249, .int .u8 222, .int .u8 20, .int .u8 0, .int .u8 0, .int .u8 0, .int .u8 0, .int .u8 0, .int .u8 0, .int .u8 0, .int .u8 0, .int .u8 0, .int .u8 0, .int .u8 0, .int .u8 0, .int .u8 0, .int .u8 0, .int .u8 0, .int .u8 16] := by kernel_rfl
theorem len_LB : LB5.length = 32 := by decide
def b2585 : List UInt8 := 2 :: 1 :: List.replicate 30 0
theorem num_b258 : leNum b2585 = 258 := by decide +kernel
theorem lit_b258 : Value.agg (b2585.map bv).toArray = .agg #[.int .u8 2, .int .u8 1, .int .u8 0, .int .u8 0, .int .u8 0, .int .u8 0, .int .u8 0, .int .u8 0, .int .u8 0, .int .u8 0, .int .u8 0, .int .u8 0, .int .u8 0, .int .u8 0, .int .u8 0, .int .u8 0, .int .u8 0, .int .u8 0, .int .u8 0, .int .u8 0, .int .u8 0, .int .u8 0, .int .u8 0, .int .u8 0, .int .u8 0, .int .u8 0, .int .u8 0, .int .u8 0, .int .u8 0, .int .u8 0, .int .u8 0, .int .u8 0] := by kernel_rfl
theorem len_b258 : b2585.length = 32 := by decide
def c2585 : List UInt8 := 2 :: 1 :: List.replicate 62 0
theorem num_c258 : leNum c2585 = 258 := by decide +kernel
theorem lit_c258 : Value.agg (c2585.map bv).toArray = .agg #[.int .u8 2, .int .u8 1, .int .u8 0, .int .u8 0, .int .u8 0, .int .u8 0, .int .u8 0, .int .u8 0, .int .u8 0, .int .u8 0, .int .u8 0, .int .u8 0, .int .u8 0, .int .u8 0, .int .u8 0, .int .u8 0, .int .u8 0, .int .u8 0, .int .u8 0, .int .u8 0, .int .u8 0, .int .u8 0, .int .u8 0, .int .u8 0, .int .u8 0, .int .u8 0, .int .u8 0, .int .u8 0, .int .u8 0, .int .u8 0, .int .u8 0, .int .u8 0, .int .u8 0, .int .u8 0, .int .u8 0, .int .u8 0, .int .u8 0, .int .u8 0, .int .u8 0, .int .u8 0, .int .u8 0, .int .u8 0, .int .u8 0, .int .u8 0, .int .u8 0, .int .u8 0, .int .u8 0, .int .u8 0, .int .u8 0, .int .u8 0, .int .u8 0, .int .u8 0, .int .u8 0, .int .u8 0, .int .u8 0, .int .u8 0, .int .u8 0, .int .u8 0, .int .u8 0, .int .u8 0, .int .u8 0, .int .u8 0, .int .u8 0, .int .u8 0] := by kernel_rfl
theorem len_c258 : c2585.length = 64 := by decide
def b15 : List UInt8 := 1 :: List.replicate 31 0
theorem num_b1 : leNum b15 = 1 := by decide +kernel
theorem lit_b1 : Value.agg (b15.map bv).toArray = .agg #[.int .u8 1, .int .u8 0, .int .u8 0, .int .u8 0, .int .u8 0, .int .u8 0, .int .u8 0, .int .u8 0, .int .u8 0, .int .u8 0, .int .u8 0, .int .u8 0, .int .u8 0, .int .u8 0, .int .u8 0, .int .u8 0, .int .u8 0, .int .u8 0, .int .u8 0, .int .u8 0, .int .u8 0, .int .u8 0, .int .u8 0, .int .u8 0, .int .u8 0, .int .u8 0, .int .u8 0, .int .u8 0, .int .u8 0, .int .u8 0, .int .u8 0, .int .u8 0] := by kernel_rfl
theorem len_b1 : b15.length = 32 := by decide
theorem bytes258 : leBytes 258 32 = b2585 := by decide
theorem lit_eM : Value.agg #[.int .u64 6346243789798364140, .int .u64 1503914060200516822, .int .u64 0, .int .u64 1152921504606846976] = fev (LL - 1) := by kernel_rfl

set_option maxRecDepth 100000 in
theorem lorder_any (w : World) : Calls Tryd.prog 22 #[] w fun e w' => e = .returned (.agg #[.int .u8 237, .int .u8 211, .int .u8 245, .int .u8 92, .int .u8 26, .int .u8 99, .int .u8 18, .int .u8 88, .int .u8 214, .int .u8 156, .int .u8 247, .int .u8 162, .int .u8 222, .int .u8 249, .int .u8 222, .int .u8 20, .int .u8 0, .int .u8 0, .int .u8 0, .int .u8 0, .int .u8 0, .int .u8 0, .int .u8 0, .int .u8 0, .int .u8 0, .int .u8 0, .int .u8 0, .int .u8 0, .int .u8 0, .int .u8 0, .int .u8 0, .int .u8 16]) ∧ Below w.heap.size w w' := by
  have z0 : HoldsB (w.alloc (.cells zb 26)) 26 w.heap.size (List.replicate 32 0) := holdsB_new w _ _ _ _ rfl rfl
  have b0 := (Below.refl w.heap.size w).alloc (Nat.le_refl _) (.cells zb 26)
  go_enter Tryd.func22, Tryd.ntmps22
  go_wp2_with (with_reducible refine wpList_store_b rfl 26 (.tmp 0) (.tmp 1) rfl w.heap.size LB5 rfl (by with_unfolding_all exact lit_LB.symm) (by decide) (List.replicate 32 0) (by with_unfolding_all exact z0) Tryd.infoB32 (by simp) w.heap.size w (by with_unfolding_all exact b0) (Nat.le_refl _) ?_; intro w2 Hg _ _ hb2)
  exact bodyPost_ret (results_cell_row rfl _ _ w.heap.size _ _ _ _ rfl Hg Tryd.underlying26 rfl (by rw [Tryd.infoB32]; decide)) rfl ⟨by rw [lit_LB], hb2⟩

set_option maxRecDepth 100000 in
set_option maxHeartbeats 4000000 in
theorem awake_any (w : World) (L0 : Laid w) : Calls Tryd.prog 7 #[] w fun e w' => e = .returned (.bool true) ∧ Below w.heap.size w w' := by
  have hsz0 := L0.size
  have LK : Hid (∀ W, Below w.heap.size w W → Laid W) := Lib.hid fun W hb => L0.keep hb hsz0
  have K1 : Hid (∀ W, Calls Tryd.prog 22 #[] W fun e w' => e = .returned (.agg #[.int .u8 237, .int .u8 211, .int .u8 245, .int .u8 92, .int .u8 26, .int .u8 99, .int .u8 18, .int .u8 88, .int .u8 214, .int .u8 156, .int .u8 247, .int .u8 162, .int .u8 222, .int .u8 249, .int .u8 222, .int .u8 20, .int .u8 0, .int .u8 0, .int .u8 0, .int .u8 0, .int .u8 0, .int .u8 0, .int .u8 0, .int .u8 0, .int .u8 0, .int .u8 0, .int .u8 0, .int .u8 0, .int .u8 0, .int .u8 0, .int .u8 0, .int .u8 16]) ∧ Below W.heap.size W w') := Lib.hid fun W => by
    exact lorder_any W
  have K2 : Hid (∀ W, Laid W → Calls Tryd.prog 16 #[.agg #[.int .u8 237, .int .u8 211, .int .u8 245, .int .u8 92, .int .u8 26, .int .u8 99, .int .u8 18, .int .u8 88, .int .u8 214, .int .u8 156, .int .u8 247, .int .u8 162, .int .u8 222, .int .u8 249, .int .u8 222, .int .u8 20, .int .u8 0, .int .u8 0, .int .u8 0, .int .u8 0, .int .u8 0, .int .u8 0, .int .u8 0, .int .u8 0, .int .u8 0, .int .u8 0, .int .u8 0, .int .u8 0, .int .u8 0, .int .u8 0, .int .u8 0, .int .u8 16]] W fun e w' => e = .returned (.agg #[.int .u64 0, .int .u64 0, .int .u64 0, .int .u64 0]) ∧ Below W.heap.size W w') := Lib.hid fun W L => by
    have h := From_any LB5 W len_LB L
    rw [num_LB, show (toS LL).val = 0 by decide, lit_LB] at h
    rw [lit_e0]
    exact h
  have K3 : Hid (∀ W, Laid W → Calls Tryd.prog 14 #[.agg #[.int .u8 2, .int .u8 1, .int .u8 0, .int .u8 0, .int .u8 0, .int .u8 0, .int .u8 0, .int .u8 0, .int .u8 0, .int .u8 0, .int .u8 0, .int .u8 0, .int .u8 0, .int .u8 0, .int .u8 0, .int .u8 0, .int .u8 0, .int .u8 0, .int .u8 0, .int .u8 0, .int .u8 0, .int .u8 0, .int .u8 0, .int .u8 0, .int .u8 0, .int .u8 0, .int .u8 0, .int .u8 0, .int .u8 0, .int .u8 0, .int .u8 0, .int .u8 0, .int .u8 0, .int .u8 0, .int .u8 0, .int .u8 0, .int .u8 0, .int .u8 0, .int .u8 0, .int .u8 0, .int .u8 0, .int .u8 0, .int .u8 0, .int .u8 0, .int .u8 0, .int .u8 0, .int .u8 0, .int .u8 0, .int .u8 0, .int .u8 0, .int .u8 0, .int .u8 0, .int .u8 0, .int .u8 0, .int .u8 0, .int .u8 0, .int .u8 0, .int .u8 0, .int .u8 0, .int .u8 0, .int .u8 0, .int .u8 0, .int .u8 0, .int .u8 0]] W fun e w' => e = .returned (.agg #[.int .u64 258, .int .u64 0, .int .u64 0, .int .u64 0]) ∧ Below W.heap.size W w') := Lib.hid fun W L => by
    have h := Of_any c2585 W len_c258 L
    rw [num_c258, show (toS 258).val = 258 by decide, lit_c258] at h
    rw [lit_e258]
    exact h
  have K4 : Hid (∀ W, Laid W → Calls Tryd.prog 18 #[.agg #[.int .u64 258, .int .u64 0, .int .u64 0, .int .u64 0]] W fun e w' => e = .returned (.agg #[.int .u8 2, .int .u8 1, .int .u8 0, .int .u8 0, .int .u8 0, .int .u8 0, .int .u8 0, .int .u8 0, .int .u8 0, .int .u8 0, .int .u8 0, .int .u8 0, .int .u8 0, .int .u8 0, .int .u8 0, .int .u8 0, .int .u8 0, .int .u8 0, .int .u8 0, .int .u8 0, .int .u8 0, .int .u8 0, .int .u8 0, .int .u8 0, .int .u8 0, .int .u8 0, .int .u8 0, .int .u8 0, .int .u8 0, .int .u8 0, .int .u8 0, .int .u8 0]) ∧ Below W.heap.size W w') := Lib.hid fun W L => by
    have h := Bytes_any 258 W (by decide) L
    rw [show (toS 258).val = 258 by decide, bytes258, ← lit_e258, lit_b258] at h
    exact h
  have K5 : Hid (∀ W, Laid W → Calls Tryd.prog 20 #[.agg #[.int .u8 237, .int .u8 211, .int .u8 245, .int .u8 92, .int .u8 26, .int .u8 99, .int .u8 18, .int .u8 88, .int .u8 214, .int .u8 156, .int .u8 247, .int .u8 162, .int .u8 222, .int .u8 249, .int .u8 222, .int .u8 20, .int .u8 0, .int .u8 0, .int .u8 0, .int .u8 0, .int .u8 0, .int .u8 0, .int .u8 0, .int .u8 0, .int .u8 0, .int .u8 0, .int .u8 0, .int .u8 0, .int .u8 0, .int .u8 0, .int .u8 0, .int .u8 16]] W fun e w' => e = .returned (.bool false) ∧ Below W.heap.size W w') := Lib.hid fun W L => by
    have h := Check_any LB5 W len_LB L
    rw [num_LB, show decide (LL < LL) = false by decide, lit_LB] at h
    exact h
  have K6 : Hid (∀ W, Laid W → Calls Tryd.prog 20 #[.agg #[.int .u8 1, .int .u8 0, .int .u8 0, .int .u8 0, .int .u8 0, .int .u8 0, .int .u8 0, .int .u8 0, .int .u8 0, .int .u8 0, .int .u8 0, .int .u8 0, .int .u8 0, .int .u8 0, .int .u8 0, .int .u8 0, .int .u8 0, .int .u8 0, .int .u8 0, .int .u8 0, .int .u8 0, .int .u8 0, .int .u8 0, .int .u8 0, .int .u8 0, .int .u8 0, .int .u8 0, .int .u8 0, .int .u8 0, .int .u8 0, .int .u8 0, .int .u8 0]] W fun e w' => e = .returned (.bool true) ∧ Below W.heap.size W w') := Lib.hid fun W L => by
    have h := Check_any b15 W len_b1 L
    rw [num_b1, show decide (1 < LL) = true by decide, lit_b1] at h
    exact h
  have K7 : Hid (∀ W, Laid W → Calls Tryd.prog 12 #[.agg #[.int .u64 1, .int .u64 0, .int .u64 0, .int .u64 0]] W fun e w' => e = .returned (.agg #[.int .u64 6346243789798364140, .int .u64 1503914060200516822, .int .u64 0, .int .u64 1152921504606846976]) ∧ Below W.heap.size W w') := Lib.hid fun W L => by
    have h := Neg_any 1 W (by decide) L
    rw [show (-toS 1).val = LL - 1 by decide, ← lit_e1] at h
    rw [lit_eM]
    exact h
  have K8 : Hid (∀ W, Laid W → Calls Tryd.prog 8 #[.agg #[.int .u64 6346243789798364140, .int .u64 1503914060200516822, .int .u64 0, .int .u64 1152921504606846976], .agg #[.int .u64 3, .int .u64 0, .int .u64 0, .int .u64 0]] W fun e w' => e = .returned (.agg #[.int .u64 2, .int .u64 0, .int .u64 0, .int .u64 0]) ∧ Below W.heap.size W w') := Lib.hid fun W L => by
    have h := Add_any (LL - 1) 3 W (by decide) (by decide) L
    rw [show (toS (LL - 1) + toS 3).val = 2 by decide, ← lit_eM, ← lit_e3] at h
    rw [lit_e2]
    exact h
  have K9 : Hid (∀ W, Laid W → Calls Tryd.prog 10 #[.agg #[.int .u64 3, .int .u64 0, .int .u64 0, .int .u64 0], .agg #[.int .u64 5, .int .u64 0, .int .u64 0, .int .u64 0]] W fun e w' => e = .returned (.agg #[.int .u64 15, .int .u64 0, .int .u64 0, .int .u64 0]) ∧ Below W.heap.size W w') := Lib.hid fun W L => by
    have h := Mul_any 3 5 W (by decide) (by decide) L
    rw [show (toS 3 * toS 5).val = 15 by decide, ← lit_e3, ← lit_e5] at h
    rw [lit_e15]
    exact h
  have q0 : ∀ W, (binOp .eql 24 (.agg #[.int .u64 0, .int .u64 0, .int .u64 0, .int .u64 0]) (.agg #[.int .u64 0, .int .u64 0, .int .u64 0, .int .u64 0])).run Tryd.prog W = .ok (.bool true) W := fun W => by
    have h := run_eql_sc 0 0 W (by decide) (by decide)
    rw [decide_eq_true rfl] at h
    rw [lit_e0]
    exact h
  have q258 : ∀ W, (binOp .eql 24 (.agg #[.int .u64 258, .int .u64 0, .int .u64 0, .int .u64 0]) (.agg #[.int .u64 258, .int .u64 0, .int .u64 0, .int .u64 0])).run Tryd.prog W = .ok (.bool true) W := fun W => by
    have h := run_eql_sc 258 258 W (by decide) (by decide)
    rw [decide_eq_true rfl] at h
    rw [lit_e258]
    exact h
  have q2 : ∀ W, (binOp .eql 24 (.agg #[.int .u64 2, .int .u64 0, .int .u64 0, .int .u64 0]) (.agg #[.int .u64 2, .int .u64 0, .int .u64 0, .int .u64 0])).run Tryd.prog W = .ok (.bool true) W := fun W => by
    have h := run_eql_sc 2 2 W (by decide) (by decide)
    rw [decide_eq_true rfl] at h
    rw [lit_e2]
    exact h
  have q15 : ∀ W, (binOp .eql 24 (.agg #[.int .u64 15, .int .u64 0, .int .u64 0, .int .u64 0]) (.agg #[.int .u64 15, .int .u64 0, .int .u64 0, .int .u64 0])).run Tryd.prog W = .ok (.bool true) W := fun W => by
    have h := run_eql_sc 15 15 W (by decide) (by decide)
    rw [decide_eq_true rfl] at h
    rw [lit_e15]
    exact h
  have qb : ∀ W, (binOp .eql 26 (.agg #[.int .u8 2, .int .u8 1, .int .u8 0, .int .u8 0, .int .u8 0, .int .u8 0, .int .u8 0, .int .u8 0, .int .u8 0, .int .u8 0, .int .u8 0, .int .u8 0, .int .u8 0, .int .u8 0, .int .u8 0, .int .u8 0, .int .u8 0, .int .u8 0, .int .u8 0, .int .u8 0, .int .u8 0, .int .u8 0, .int .u8 0, .int .u8 0, .int .u8 0, .int .u8 0, .int .u8 0, .int .u8 0, .int .u8 0, .int .u8 0, .int .u8 0, .int .u8 0]) (.agg #[.int .u8 2, .int .u8 1, .int .u8 0, .int .u8 0, .int .u8 0, .int .u8 0, .int .u8 0, .int .u8 0, .int .u8 0, .int .u8 0, .int .u8 0, .int .u8 0, .int .u8 0, .int .u8 0, .int .u8 0, .int .u8 0, .int .u8 0, .int .u8 0, .int .u8 0, .int .u8 0, .int .u8 0, .int .u8 0, .int .u8 0, .int .u8 0, .int .u8 0, .int .u8 0, .int .u8 0, .int .u8 0, .int .u8 0, .int .u8 0, .int .u8 0, .int .u8 0])).run Tryd.prog W = .ok (.bool true) W := fun W => by
    have h := run_eql_b b2585 b2585 len_b258 len_b258 W
    rw [decide_eq_true rfl, lit_b258] at h
    exact h
  have gf := fun x y c d W => run_guard_sc x y c d W
  have gb := fun x y c d W => run_guard_b x y c d W
  have B0 := Below.refl w.heap.size w
  clear L0 hsz0
  go_enter Tryd.func7, Tryd.ntmps7
  go_wp2_with (first
    | (go_at_call 22
       with_reducible refine (K1.out _).mono ?_
       rintro e w1 ⟨rfl, hb1⟩
       have B1 := B0.trans (hb1.mono B0.size)
       clear hb1)
    | (go_at_call 16
       with_reducible refine (K2.out _ (LK.out _ B1)).mono ?_
       rintro e w2 ⟨rfl, hb2⟩
       have B2 := B1.trans (hb2.mono B1.size)
       clear hb2)
    | (go_at_call 14
       with_reducible refine (K3.out _ (LK.out _ B2)).mono ?_
       rintro e w3 ⟨rfl, hb3⟩
       have B3 := B2.trans (hb3.mono B2.size)
       clear hb3)
    | (go_at_call 18
       with_reducible refine (K4.out _ (LK.out _ B3)).mono ?_
       rintro e w4 ⟨rfl, hb4⟩
       have B4 := B3.trans (hb4.mono B3.size)
       clear hb4)
    | (go_at_call 22
       with_reducible refine (K1.out _).mono ?_
       rintro e w5 ⟨rfl, hb5⟩
       have B5 := B4.trans (hb5.mono B4.size)
       clear hb5)
    | (go_at_call 20
       with_reducible refine (K5.out _ (LK.out _ B5)).mono ?_
       rintro e w6 ⟨rfl, hb6⟩
       have B6 := B5.trans (hb6.mono B5.size)
       clear hb6)
    | (go_at_call 20
       with_reducible refine (K6.out _ (LK.out _ B6)).mono ?_
       rintro e w7 ⟨rfl, hb7⟩
       have B7 := B6.trans (hb7.mono B6.size)
       clear hb7)
    | (go_at_call 12
       with_reducible refine (K7.out _ (LK.out _ B7)).mono ?_
       rintro e w8 ⟨rfl, hb8⟩
       have B8 := B7.trans (hb8.mono B7.size)
       clear hb8)
    | (go_at_call 8
       with_reducible refine (K8.out _ (LK.out _ B8)).mono ?_
       rintro e w9 ⟨rfl, hb9⟩
       have B9 := B8.trans (hb9.mono B8.size)
       clear hb9)
    | (go_at_call 10
       with_reducible refine (K9.out _ (LK.out _ B9)).mono ?_
       rintro e w10 ⟨rfl, hb10⟩
       have B10 := B9.trans (hb10.mono B9.size)
       clear hb10)
    | fail)
  go_ret
  exact ⟨rfl, B10⟩
end Go.Proofs.YthhcjknkmdaeeaaDoor
