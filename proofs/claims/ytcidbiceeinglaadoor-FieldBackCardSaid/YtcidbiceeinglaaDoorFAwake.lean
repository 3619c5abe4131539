/-
  The statements' head, walked.
-/
import Derived.Test.YtcidbiceeinglaaDoorFHead
namespace Go.Proofs.YtcidbiceeinglaaDoor
open Go.RowKit

theorem lit_e0 : Value.agg #[.int .u64 0, .int .u64 0, .int .u64 0, .int .u64 0] = fev 0 := by kernel_rfl
theorem lit_e1 : Value.agg #[.int .u64 1, .int .u64 0, .int .u64 0, .int .u64 0] = fev 1 := by kernel_rfl
theorem lit_e2 : Value.agg #[.int .u64 2, .int .u64 0, .int .u64 0, .int .u64 0] = fev 2 := by kernel_rfl
theorem lit_e3 : Value.agg #[.int .u64 3, .int .u64 0, .int .u64 0, .int .u64 0] = fev 3 := by kernel_rfl
theorem lit_e4 : Value.agg #[.int .u64 4, .int .u64 0, .int .u64 0, .int .u64 0] = fev 4 := by kernel_rfl
theorem lit_e5 : Value.agg #[.int .u64 5, .int .u64 0, .int .u64 0, .int .u64 0] = fev 5 := by kernel_rfl
theorem lit_eh : Value.agg #[.int .u64 18446744073709551607, .int .u64 18446744073709551615, .int .u64 18446744073709551615, .int .u64 4611686018427387903] = fev HALF := by kernel_rfl
theorem lit_em : Value.agg #[.int .u64 18446744073709551596, .int .u64 18446744073709551615, .int .u64 18446744073709551615, .int .u64 9223372036854775807] = fev (PP - 1) := by kernel_rfl
theorem lit_eP : Value.agg #[.int .u64 18446744073709551597, .int .u64 18446744073709551615, .int .u64 18446744073709551615, .int .u64 9223372036854775807] = fev PP := by kernel_rfl
theorem lit_eq : Value.agg #[.int .u64 258, .int .u64 0, .int .u64 0, .int .u64 0] = fev 258 := by kernel_rfl
theorem val_eq {a b : F} {n : Nat} (h : a = b) (hb : b.val = n) : a.val = n := by rw [h, hb]
def by258 : List UInt8 := 2 :: 1 :: List.replicate 30 0
theorem bytes258 : leBytes 258 32 = by258 := by decide
theorem num258 : leNum by258 = 258 := by decide
theorem lit_b : Value.agg (by258.map bv).toArray = .agg #[.int .u8 2, .int .u8 1, .int .u8 0, .int .u8 0, .int .u8 0, .int .u8 0, .int .u8 0, .int .u8 0, .int .u8 0, .int .u8 0, .int .u8 0, .int .u8 0, .int .u8 0, .int .u8 0, .int .u8 0, .int .u8 0, .int .u8 0, .int .u8 0, .int .u8 0, .int .u8 0, .int .u8 0, .int .u8 0, .int .u8 0, .int .u8 0, .int .u8 0, .int .u8 0, .int .u8 0, .int .u8 0, .int .u8 0, .int .u8 0, .int .u8 0, .int .u8 0] := by kernel_rfl

set_option maxRecDepth 100000 in
set_option maxHeartbeats 4000000 in
theorem awake_any (w : World) (L0 : Laid w) : Calls Tryd.prog 9 #[] w fun e w' => e = .returned (.bool true) ∧ Below w.heap.size w w' := by
  have hsz0 := L0.size
  have LK : Hid (∀ W, Below w.heap.size w W → Laid W) := Lib.hid fun W hb => L0.keep hb hsz0
  have K1 : Hid (∀ W, Laid W → Calls Tryd.prog 27 #[.agg #[.int .u64 4, .int .u64 0, .int .u64 0, .int .u64 0], .agg #[.int .u64 1, .int .u64 0, .int .u64 0, .int .u64 0]] W fun e w' => e = .returned (.tuple #[.agg #[.int .u64 2, .int .u64 0, .int .u64 0, .int .u64 0], .bool true]) ∧ Below W.heap.size W w') := Lib.hid fun W L => by
    have h := Root_any 4 1 W (by decide) (by decide) L
    rw [root_four, ← lit_e4, ← lit_e1] at h
    rw [lit_e2]
    exact h
  obtain ⟨r2, hr2⟩ : ∃ r, r = (froot (toF 2) (toF 1)).1.val := ⟨_, rfl⟩
  have K2 : Hid (∀ W, Laid W → Calls Tryd.prog 27 #[.agg #[.int .u64 2, .int .u64 0, .int .u64 0, .int .u64 0], .agg #[.int .u64 1, .int .u64 0, .int .u64 0, .int .u64 0]] W fun e w' => e = .returned (.tuple #[.agg ((lims r2).map nv).toArray, .bool false]) ∧ Below W.heap.size W w') := Lib.hid fun W L => by
    have h := Root_any 2 1 W (by decide) (by decide) L
    rw [root_two, ← hr2, ← lit_e2, ← lit_e1] at h
    exact h
  clear hr2
  have K3 : Hid (∀ W, Calls Tryd.prog 31 #[] W fun e w' => e = .returned (.agg #[.int .u64 18446744073709551607, .int .u64 18446744073709551615, .int .u64 18446744073709551615, .int .u64 4611686018427387903]) ∧ Below W.heap.size W w') := Lib.hid fun W => half_any W
  have K4 : Hid (∀ W, Calls Tryd.prog 14 #[.agg #[.int .u64 2, .int .u64 0, .int .u64 0, .int .u64 0], .agg #[.int .u64 18446744073709551607, .int .u64 18446744073709551615, .int .u64 18446744073709551615, .int .u64 4611686018427387903]] W fun e w' => e = .returned (.agg #[.int .u64 1, .int .u64 0, .int .u64 0, .int .u64 0]) ∧ Below W.heap.size W w') := Lib.hid fun W => by
    have h := Mul_any 2 HALF W (by decide) (by decide)
    rw [two_half, ← lit_e2, ← lit_eh] at h
    rw [lit_e1]
    exact h
  have K5 : Hid (∀ W, Calls Tryd.prog 29 #[.agg #[.int .u64 2, .int .u64 0, .int .u64 0, .int .u64 0]] W fun e w' => e = .returned (.agg #[.int .u64 18446744073709551607, .int .u64 18446744073709551615, .int .u64 18446744073709551615, .int .u64 4611686018427387903]) ∧ Below W.heap.size W w') := Lib.hid fun W => by
    have h := Inv_any 2 W (by decide)
    rw [finv_eq two_half, ← lit_e2] at h
    rw [lit_eh]
    exact h
  have K6 : Hid (∀ W, Laid W → Calls Tryd.prog 16 #[.agg #[.int .u64 1, .int .u64 0, .int .u64 0, .int .u64 0]] W fun e w' => e = .returned (.agg #[.int .u64 18446744073709551596, .int .u64 18446744073709551615, .int .u64 18446744073709551615, .int .u64 9223372036854775807]) ∧ Below W.heap.size W w') := Lib.hid fun W L => by
    have h := Neg_any 1 W (by decide) L
    rw [← lit_e1] at h
    rw [lit_em]
    exact h
  have K7 : Hid (∀ W, Calls Tryd.prog 10 #[.agg #[.int .u64 18446744073709551596, .int .u64 18446744073709551615, .int .u64 18446744073709551615, .int .u64 9223372036854775807], .agg #[.int .u64 1, .int .u64 0, .int .u64 0, .int .u64 0]] W fun e w' => e = .returned (.agg #[.int .u64 0, .int .u64 0, .int .u64 0, .int .u64 0]) ∧ Below W.heap.size W w') := Lib.hid fun W => by
    have h := Add_any (PP - 1) 1 W (by decide) (by decide)
    rw [show (toF (PP - 1) + toF 1).val = 0 by decide, ← lit_em, ← lit_e1] at h
    rw [lit_e0]
    exact h
  have K8 : Hid (∀ W, Laid W → Calls Tryd.prog 12 #[.agg #[.int .u64 5, .int .u64 0, .int .u64 0, .int .u64 0], .agg #[.int .u64 3, .int .u64 0, .int .u64 0, .int .u64 0]] W fun e w' => e = .returned (.agg #[.int .u64 2, .int .u64 0, .int .u64 0, .int .u64 0]) ∧ Below W.heap.size W w') := Lib.hid fun W L => by
    have h := Sub_any 5 3 W (by decide) (by decide) L
    rw [show (toF 5 - toF 3).val = 2 by decide, ← lit_e5, ← lit_e3] at h
    rw [lit_e2]
    exact h
  have K9 : Hid (∀ W, Calls Tryd.prog 22 #[.int .u64 258] W fun e w' => e = .returned (.agg #[.int .u64 258, .int .u64 0, .int .u64 0, .int .u64 0]) ∧ Below W.heap.size W w') := Lib.hid fun W => by
    have h := Small_any 258 W (by decide)
    rw [lit_eq]
    exact h
  have K10 : Hid (∀ W, Calls Tryd.prog 20 #[.agg #[.int .u64 258, .int .u64 0, .int .u64 0, .int .u64 0]] W fun e w' => e = .returned (.agg #[.int .u8 2, .int .u8 1, .int .u8 0, .int .u8 0, .int .u8 0, .int .u8 0, .int .u8 0, .int .u8 0, .int .u8 0, .int .u8 0, .int .u8 0, .int .u8 0, .int .u8 0, .int .u8 0, .int .u8 0, .int .u8 0, .int .u8 0, .int .u8 0, .int .u8 0, .int .u8 0, .int .u8 0, .int .u8 0, .int .u8 0, .int .u8 0, .int .u8 0, .int .u8 0, .int .u8 0, .int .u8 0, .int .u8 0, .int .u8 0, .int .u8 0, .int .u8 0]) ∧ Below W.heap.size W w') := Lib.hid fun W => by
    have h := Bytes_any 258 W (by decide)
    rw [show (toF 258).val = 258 by decide, bytes258, ← lit_eq, lit_b] at h
    exact h
  have K11 : Hid (∀ W, Calls Tryd.prog 18 #[.agg #[.int .u8 2, .int .u8 1, .int .u8 0, .int .u8 0, .int .u8 0, .int .u8 0, .int .u8 0, .int .u8 0, .int .u8 0, .int .u8 0, .int .u8 0, .int .u8 0, .int .u8 0, .int .u8 0, .int .u8 0, .int .u8 0, .int .u8 0, .int .u8 0, .int .u8 0, .int .u8 0, .int .u8 0, .int .u8 0, .int .u8 0, .int .u8 0, .int .u8 0, .int .u8 0, .int .u8 0, .int .u8 0, .int .u8 0, .int .u8 0, .int .u8 0, .int .u8 0]] W fun e w' => e = .returned (.agg #[.int .u64 258, .int .u64 0, .int .u64 0, .int .u64 0]) ∧ Below W.heap.size W w') := Lib.hid fun W => by
    have h := Of_any by258 W (by decide)
    rw [num258, show (toF 258).val = 258 by decide, lit_b] at h
    rw [lit_eq]
    exact h
  have K12 : Hid (∀ W, Calls Tryd.prog 25 #[.agg #[.int .u64 3, .int .u64 0, .int .u64 0, .int .u64 0]] W fun e w' => e = .returned (.bool true) ∧ Below W.heap.size W w') := Lib.hid fun W => by
    have h := Odd_any 3 W (by decide)
    rw [show fodd (toF 3) = true by decide, ← lit_e3] at h
    exact h
  have K13 : Hid (∀ W, Calls Tryd.prog 23 #[.agg #[.int .u64 18446744073709551597, .int .u64 18446744073709551615, .int .u64 18446744073709551615, .int .u64 9223372036854775807], .agg #[.int .u64 0, .int .u64 0, .int .u64 0, .int .u64 0]] W fun e w' => e = .returned (.bool true) ∧ Below W.heap.size W w') := Lib.hid fun W => by
    have h := Same_any PP 0 W (by decide) (by decide)
    rw [show decide (toF PP = toF 0) = true by decide, ← lit_eP, ← lit_e0] at h
    exact h
  have q1 : ∀ W, (binOp .eql 24 (.agg #[.int .u64 1, .int .u64 0, .int .u64 0, .int .u64 0]) (.agg #[.int .u64 1, .int .u64 0, .int .u64 0, .int .u64 0])).run Tryd.prog W = .ok (.bool true) W := fun W => by
    have h := run_eql_fe 1 1 W (by decide) (by decide)
    rw [decide_eq_true rfl] at h
    rw [lit_e1]
    exact h
  have qh : ∀ W, (binOp .eql 24 (.agg #[.int .u64 18446744073709551607, .int .u64 18446744073709551615, .int .u64 18446744073709551615, .int .u64 4611686018427387903]) (.agg #[.int .u64 18446744073709551607, .int .u64 18446744073709551615, .int .u64 18446744073709551615, .int .u64 4611686018427387903])).run Tryd.prog W = .ok (.bool true) W := fun W => by
    have h := run_eql_fe HALF HALF W (by decide) (by decide)
    rw [decide_eq_true rfl] at h
    rw [lit_eh]
    exact h
  have q2 : ∀ W, (binOp .eql 24 (.agg #[.int .u64 2, .int .u64 0, .int .u64 0, .int .u64 0]) (.agg #[.int .u64 2, .int .u64 0, .int .u64 0, .int .u64 0])).run Tryd.prog W = .ok (.bool true) W := fun W => by
    have h := run_eql_fe 2 2 W (by decide) (by decide)
    rw [decide_eq_true rfl] at h
    rw [lit_e2]
    exact h
  have q0 : ∀ W, (binOp .eql 24 (.agg #[.int .u64 0, .int .u64 0, .int .u64 0, .int .u64 0]) (.agg #[.int .u64 0, .int .u64 0, .int .u64 0, .int .u64 0])).run Tryd.prog W = .ok (.bool true) W := fun W => by
    have h := run_eql_fe 0 0 W (by decide) (by decide)
    rw [decide_eq_true rfl] at h
    rw [lit_e0]
    exact h
  have qq : ∀ W, (binOp .eql 24 (.agg #[.int .u64 258, .int .u64 0, .int .u64 0, .int .u64 0]) (.agg #[.int .u64 258, .int .u64 0, .int .u64 0, .int .u64 0])).run Tryd.prog W = .ok (.bool true) W := fun W => by
    have h := run_eql_fe 258 258 W (by decide) (by decide)
    rw [decide_eq_true rfl] at h
    rw [lit_eq]
    exact h
  have qb : ∀ W, (binOp .eql 25 (.agg #[.int .u8 2, .int .u8 1, .int .u8 0, .int .u8 0, .int .u8 0, .int .u8 0, .int .u8 0, .int .u8 0, .int .u8 0, .int .u8 0, .int .u8 0, .int .u8 0, .int .u8 0, .int .u8 0, .int .u8 0, .int .u8 0, .int .u8 0, .int .u8 0, .int .u8 0, .int .u8 0, .int .u8 0, .int .u8 0, .int .u8 0, .int .u8 0, .int .u8 0, .int .u8 0, .int .u8 0, .int .u8 0, .int .u8 0, .int .u8 0, .int .u8 0, .int .u8 0]) (.agg #[.int .u8 2, .int .u8 1, .int .u8 0, .int .u8 0, .int .u8 0, .int .u8 0, .int .u8 0, .int .u8 0, .int .u8 0, .int .u8 0, .int .u8 0, .int .u8 0, .int .u8 0, .int .u8 0, .int .u8 0, .int .u8 0, .int .u8 0, .int .u8 0, .int .u8 0, .int .u8 0, .int .u8 0, .int .u8 0, .int .u8 0, .int .u8 0, .int .u8 0, .int .u8 0, .int .u8 0, .int .u8 0, .int .u8 0, .int .u8 0, .int .u8 0, .int .u8 0])).run Tryd.prog W = .ok (.bool true) W := fun W => by
    have h := run_eql_b by258 by258 (by decide) (by decide) W
    rw [decide_eq_true rfl, lit_b] at h
    exact h
  have gf := fun x y c d W => run_guard_fe x y c d W
  have gb := fun x y c d W => run_guard_b x y c d W
  have B0 := Below.refl w.heap.size w
  clear L0 hsz0
  go_enter Tryd.func9, Tryd.ntmps9
  go_upto_region 3 with (first
    | (go_at_call 27
       with_reducible refine (K1.out _ (LK.out _ B0)).mono ?_
       rintro e w1 ⟨rfl, hb1⟩
       have B1 := B0.trans (hb1.mono B0.size)
       have z1 := zero_new w1
       have B1a := B1.alloc B1.size (.cells #[.int .u64 0, .int .u64 0, .int .u64 0, .int .u64 0] 24))
    | (with_reducible refine wpList_store_n rfl 24 (.tmp 1) (.tmp 9) rfl w1.heap.size (lims 2) 4 rfl (by with_unfolding_all exact lit_e2) rfl (lims 0) (by with_unfolding_all exact z1) Tryd.infoFe rfl w.heap.size w (by with_unfolding_all exact B1a) B1.size ?_
       intro w2 H2 o2 s2 B2
       clear s2 o2)
    | (go_at_call 27
       with_reducible refine (K2.out _ (LK.out _ B2)).mono ?_
       rintro e w3 ⟨rfl, hb3⟩
       have B3 := B2.trans (hb3.mono B2.size)
       have H3 := H2.keep hb3 H2.lt
       have l3 := H3.lt
       have z3 := zero_new w3
       have H3a := H3.alloc (.cells #[.int .u64 0, .int .u64 0, .int .u64 0, .int .u64 0] 24)
       have B3a := B3.alloc B3.size (.cells #[.int .u64 0, .int .u64 0, .int .u64 0, .int .u64 0] 24))
    | (with_reducible refine wpList_store_n rfl 24 (.tmp 3) (.tmp 15) rfl w3.heap.size (lims r2) 4 rfl rfl rfl (lims 0) (by with_unfolding_all exact z3) Tryd.infoFe rfl w.heap.size w (by with_unfolding_all exact B3a) B3.size ?_
       intro w4 H4 o4 s4 B4
       have H4 : HoldsN w4 24 w1.heap.size (lims 2) := (o4 _ (by omega)).trans (by with_unfolding_all exact H3a)
       clear s4 o4)
    | fail)
  go_wp2_with (first
    | (go_at_call 31
       with_reducible refine (K3.out _).mono ?_
       rintro e w5 ⟨rfl, hb5⟩
       have B5 := B4.trans (hb5.mono B4.size)
       have H5 := H4.keep hb5 H4.lt
       clear hb5)
    | (go_at_call 14
       with_reducible refine (K4.out _).mono ?_
       rintro e w6 ⟨rfl, hb6⟩
       have B6 := B5.trans (hb6.mono B5.size)
       have H6 := H5.keep hb6 H5.lt
       clear hb6)
    | (go_at_call 29
       with_reducible refine (K5.out _).mono ?_
       rintro e w7 ⟨rfl, hb7⟩
       have B7 := B6.trans (hb7.mono B6.size)
       have H7 := H6.keep hb7 H6.lt
       clear hb7)
    | (go_at_call 31
       with_reducible refine (K3.out _).mono ?_
       rintro e w8 ⟨rfl, hb8⟩
       have B8 := B7.trans (hb8.mono B7.size)
       have H8 := H7.keep hb8 H7.lt
       have c0 : w8.cell? ⟨w1.heap.size, 0, none⟩ = some (.int .u64 2) := H8.cell (j := 0) (by decide)
       have c1 : w8.cell? ⟨w1.heap.size, 1, none⟩ = some (.int .u64 0) := H8.cell (j := 1) (by decide)
       have c2 : w8.cell? ⟨w1.heap.size, 2, none⟩ = some (.int .u64 0) := H8.cell (j := 2) (by decide)
       have c3 : w8.cell? ⟨w1.heap.size, 3, none⟩ = some (.int .u64 0) := H8.cell (j := 3) (by decide)
       clear hb8)
    | (go_at_call 16
       with_reducible refine (K6.out _ (LK.out _ B8)).mono ?_
       rintro e w9 ⟨rfl, hb9⟩
       have B9 := B8.trans (hb9.mono B8.size)
       clear hb9)
    | (go_at_call 10
       with_reducible refine (K7.out _).mono ?_
       rintro e w10 ⟨rfl, hb10⟩
       have B10 := B9.trans (hb10.mono B9.size)
       clear hb10)
    | (go_at_call 12
       with_reducible refine (K8.out _ (LK.out _ B10)).mono ?_
       rintro e w11 ⟨rfl, hb11⟩
       have B11 := B10.trans (hb11.mono B10.size)
       clear hb11)
    | (go_at_call 22
       with_reducible refine (K9.out _).mono ?_
       rintro e w12 ⟨rfl, hb12⟩
       have B12 := B11.trans (hb12.mono B11.size)
       clear hb12)
    | (go_at_call 20
       with_reducible refine (K10.out _).mono ?_
       rintro e w13 ⟨rfl, hb13⟩
       have B13 := B12.trans (hb13.mono B12.size)
       clear hb13)
    | (go_at_call 18
       with_reducible refine (K11.out _).mono ?_
       rintro e w14 ⟨rfl, hb14⟩
       have B14 := B13.trans (hb14.mono B13.size)
       clear hb14)
    | (go_at_call 25
       with_reducible refine (K12.out _).mono ?_
       rintro e w15 ⟨rfl, hb15⟩
       have B15 := B14.trans (hb15.mono B14.size)
       clear hb15)
    | (go_at_call 23
       with_reducible refine (K13.out _).mono ?_
       rintro e w16 ⟨rfl, hb16⟩
       have B16 := B15.trans (hb16.mono B15.size)
       clear hb16)
    | fail)
  go_ret
  exact ⟨rfl, B16⟩
end Go.Proofs.YtcidbiceeinglaaDoor
