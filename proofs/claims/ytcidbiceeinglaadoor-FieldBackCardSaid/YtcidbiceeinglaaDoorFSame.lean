/-
  The program's numbers modulo P: a small number; which are one; which are odd.
-/
import Derived.Test.YtcidbiceeinglaaDoorFBytes
import Derived.Test.YtcidbiceeinglaaDoorFRefL
namespace Go.Proofs.YtcidbiceeinglaaDoor
open Go.RowKit

theorem RB.stay {w : World} {m n : Nat} : ∀ W W', RB w m n W → Below W.heap.size W W' → RB w m n W' := fun _ _ h hb => h.keep hb
theorem below_zero (m : Nat) (w : World) (hm : m < big) :
    Calls Tryd.prog 33 #[.agg ((lims m).map nv).toArray, .int .u64 0] w fun e w' => e = .returned (.agg ((lims (toF m).val).map nv).toArray) ∧ Below w.heap.size w w' := by
  have := below_any m 0 w hm (by omega)
  rw [Nat.zero_mul, Nat.add_zero] at this
  exact this
theorem small_fev {n : Nat} (hn : n < 18446744073709551616) : Value.agg #[.int .u64 (n : Int), .int .u64 0, .int .u64 0, .int .u64 0] = fev n := by
  have h0 : limb n 0 = n := by unfold limb; omega
  have h1 : limb n 1 = 0 := by unfold limb; omega
  have h2 : limb n 2 = 0 := limb_of_lt (by have : (18446744073709551616 : Nat) ^ 2 = 340282366920938463463374607431768211456 := by decide
                                           omega)
  have h3 : limb n 3 = 0 := limb_of_lt (by have : (18446744073709551616 : Nat) ^ 3 = 6277101735386680763835789423207666416102355444464034512896 := by decide
                                           omega)
  unfold fev
  rw [h0, h1, h2, h3]
  rfl

set_option maxRecDepth 100000 in
set_option maxHeartbeats 1000000 in
theorem Small_any (n : Nat) (w : World) (hn : n < 18446744073709551616) :
    Calls Tryd.prog 22 #[.int .u64 (n : Int)] w (GaveF w n) := by
  obtain ⟨hA, hb, hsz⟩ := fe_start w 0 #[.int .u64 0, .int .u64 0, .int .u64 0, .int .u64 0] (by kernel_rfl)
  have hv : Value.agg #[.int .u64 (n : Int), .int .u64 0, .int .u64 0, .int .u64 0] = .agg ((lims n).map nv).toArray := small_fev hn
  have HV := Lib.hid hv
  clear hv
  go_enter Tryd.func22, Tryd.ntmps22
  go_wp2_with (first
    | (with_reducible refine wpList_store_n rfl 24 (.tmp 2) (.tmp 4) rfl w.heap.size (lims n) 4 rfl (by with_unfolding_all exact HV.out) rfl (lims 0) (by with_unfolding_all exact hA) Tryd.infoFe rfl w.heap.size w (by with_unfolding_all exact hb) (Nat.le_refl _) ?_; intro w7 Hg _ _ hb7)
    | fail)
  exact bodyPost_ret (results_cell_row rfl _ _ _ _ _ _ _ rfl Hg Tryd.underlying24 rfl (by rw [Tryd.infoFe]; rfl)) rfl ⟨rfl, hb7⟩

/-- The blocks of a call of two numbers. -/
structure FeAB (w : World) (m n : Nat) (W : World) : Prop where
  a : HoldsN W 24 w.heap.size (lims m)
  b : HoldsN W 24 (w.heap.size + 1) (lims n)
  d : Below w.heap.size w W
theorem FeAB.stay {w : World} {m n : Nat} : ∀ W W', FeAB w m n W → Below W.heap.size W W' → FeAB w m n W' := fun _ _ h hb => ⟨h.a.keep hb h.a.lt, h.b.keep hb h.b.lt, h.d.trans (hb.mono h.d.size)⟩

section
attribute [local go_sem ↓] load_fe

set_option maxRecDepth 100000 in
set_option maxHeartbeats 1000000 in
theorem Same_any (m n : Nat) (w : World) (hm : m < big) (hn : n < big) :
    Calls Tryd.prog 23 #[fev m, fev n] w fun e w' => e = .returned (.bool (decide (toF m = toF n))) ∧ Below w.heap.size w w' := by
  obtain ⟨hA, hB, hb, hsz⟩ := fe_start2 w m n _ _ rfl rfl
  have F0 : FeAB w m n _ := ⟨hA, hB, hb⟩
  clear hA hB hb hsz
  have LM : Hid (∀ W, Calls Tryd.prog 33 #[.agg ((lims m).map nv).toArray, .int .u64 0] W fun e w' => e = .returned (.agg ((lims (toF m).val).map nv).toArray) ∧ Below W.heap.size W w') := Lib.hid fun W => below_zero m W hm
  have LN : Hid (∀ W, Calls Tryd.prog 33 #[.agg ((lims n).map nv).toArray, .int .u64 0] W fun e w' => e = .returned (.agg ((lims (toF n).val).map nv).toArray) ∧ Below W.heap.size W w') := Lib.hid fun W => below_zero n W hn
  rw [fev_eq, fev_eq]
  generalize toF m = a at *
  generalize toF n = b at *
  have q1 := fun W => run_eql_F a b W
  have q2 := fun x y c d W => run_guard_fe x y c d W
  generalize decide (a = b) = res at *
  go_enter Tryd.func23, Tryd.ntmps23
  go_upto_region 1 with (fail)
  generalize (w.alloc (.cells ((lims m).map nv).toArray 24)).alloc (.cells ((lims n).map nv).toArray 24) = wv at *
  refine wp_region_lex 5 (fun _ => false) (MadeFe 0) (FeAB w m n) (by kernel_rfl) (by kernel_rfl) (FeAB.stay _ _ F0 (Below.refl _ wv).drew) FeAB.stay MadeFe.stay lex_none ?_
  simp only [List.take_succ_cons, List.take_zero, List.drop_succ_cons, List.drop_zero]
  refine lexW_value (v := ?_) (by rfl) (by rfl) (fun W hW => ?_) ?_
  rotate_left
  · have l1 := run_loadFe hW.a; go_simp <;> with_reducible rfl
  simp only [Act.put, List.setIfInBounds_toArray, List.set_cons_zero, List.set_cons_succ]
  refine' lexW_call (by rfl) (by rfl) (fun W hW => ?_) (fun W hW => ?_) ?_
  rotate_left 3
  · go_simp <;> first | with_reducible rfl | exact ⟨rfl, rfl⟩
  · with_reducible exact LM.out W
  simp only [Act.put, List.setIfInBounds_toArray, List.set_cons_zero, List.set_cons_succ]
  refine lexW_value (v := ?_) (by rfl) (by rfl) (fun W hW => ?_) ?_
  rotate_left
  · have l1 := run_loadFe hW.b; go_simp <;> with_reducible rfl
  simp only [Act.put, List.setIfInBounds_toArray, List.set_cons_zero, List.set_cons_succ]
  refine' lexW_call (by rfl) (by rfl) (fun W hW => ?_) (fun W hW => ?_) ?_
  rotate_left 3
  · go_simp <;> first | with_reducible rfl | exact ⟨rfl, rfl⟩
  · with_reducible exact LN.out W
  simp only [Act.put, List.setIfInBounds_toArray, List.set_cons_zero, List.set_cons_succ]
  refine lexW_value (v := ?_) (by rfl) (by rfl) (fun W hW => ?_) ?_
  rotate_left
  · skip; go_simp <;> with_reducible rfl
  simp only [Act.put, List.setIfInBounds_toArray, List.set_cons_zero, List.set_cons_succ]
  refine lexW_nil (fun b W hW hE => ?_)
  obtain rfl := lexEnd_none hE
  go_wp2
  go_ret
  exact ⟨rfl, hW.d⟩
end

set_option maxRecDepth 100000 in
set_option maxHeartbeats 1000000 in
theorem Odd_any (m : Nat) (w : World) (hm : m < big) :
    Calls Tryd.prog 25 #[fev m] w fun e w' => e = .returned (.bool (fodd (toF m))) ∧ Below w.heap.size w w' := by
  obtain ⟨hA, hb, hsz⟩ := fe_start w m _ rfl
  have LM : Hid (∀ W, Calls Tryd.prog 33 #[.agg ((lims m).map nv).toArray, .int .u64 0] W fun e w' => e = .returned (.agg ((lims (toF m).val).map nv).toArray) ∧ Below W.heap.size W w') := Lib.hid fun W => below_zero m W hm
  rw [fev_eq]
  generalize toF m = a at *
  have hodd := Lib.hid (odd_val a)
  have ix : ∀ W, (Instr.index 24 (.agg ((lims a.val).map nv).toArray) (.int .i64 0)).run Tryd.prog W = .ok (.int .u64 (limb a.val 0 : Int)) W := fun W => run_index_fe a.val 0 W (by omega)
  generalize limb a.val 0 = x at *
  go_enter Tryd.func25, Tryd.ntmps25
  go_upto_region 1 with (fail)
  generalize w.alloc (.cells ((lims m).map nv).toArray 24) = wv at *
  have hm2 : (x : Int).tmod 2 = ((x % 2 : Nat) : Int) := by rw [Int.tmod_eq_emod_of_nonneg (Int.natCast_nonneg _)]; rfl
  go_wp2_with (first
    | (with_reducible refine wpList_load_n rfl 24 (.tmp 1) rfl w.heap.size rfl (lims m) 4 hA rfl Tryd.underlying24 Tryd.infoFe ?_)
    | (go_at_call 33
       with_reducible refine (LM.out _).mono ?_
       rintro e w3 ⟨rfl, hb3⟩
       have b3 := hb.trans (hb3.mono hb.size))
    | fail)
  go_ret
  refine ⟨?_, b3⟩
  rw [← hodd.out]
  have hx : x % 2 < 2 := Nat.mod_lt _ (by omega)
  by_cases h : x % 2 = 1
  · rw [decide_eq_true h]
    simp []
    omega
  · rw [decide_eq_false h]
    simp []
    omega
end Go.Proofs.YtcidbiceeinglaaDoor
