/-
  The statements' head: calls whose answers the document fixes.
-/
import Derived.Test.YtcidbiceeinglaaDoorFRoot
namespace Go.Proofs.YtcidbiceeinglaaDoor
open Go.RowKit

def HALF : Nat := 28948022309329048855892746252171976963317496166410141009864396001978282409975
theorem two_half : toF 2 * toF HALF = 1 := Fin.ext (by decide)
theorem chi_two : chi 2 = -1 := by
  rw [← fI_sq]
  unfold chi fI
  rw [← fpow_add, show (PP - 1) / 4 + (PP - 1) / 4 = (PP - 1) / 2 by decide]
theorem root_four : froot (toF 4) (toF 1) = (toF 2, true) := froot_unique (Fin.ext (by decide)) (by decide) (fun h => absurd (congrArg Fin.val h) (by decide))
theorem root_two : (froot (toF 2) (toF 1)).2 = false := by
  have e : toF 1 = 1 := rfl
  have e2 : toF 2 = 2 := rfl
  rw [e, e2]
  cases h : (froot 2 1).2 with
  | false => rfl
  | true => rcases (froot_one 2).1 h with h1 | h1
            · exact absurd h1 F.two_ne
            · exact absurd (h1.symm.trans chi_two) one_ne_neg

/-- Arrays of thirty-two bytes, compared. -/
theorem eq_bytes (a b : List UInt8) (ha : a.length = 32) (hb : b.length = 32) : (List.range 32).all (fun i => (a.map fun x : UInt8 => (x.toNat : Int)).getD i 0 == (b.map fun x : UInt8 => (x.toNat : Int)).getD i 0) = decide (a = b) := by
  rw [Bool.eq_iff_iff, List.all_eq_true, decide_eq_true_eq]
  constructor
  · intro h
    refine List.ext_getElem (by rw [ha, hb]) fun i h1 h2 => ?_
    have := h i (List.mem_range.2 (by omega))
    rw [List.getD_eq_getElem?_getD, List.getD_eq_getElem?_getD, List.getElem?_map, List.getElem?_map, List.getElem?_eq_getElem h1, List.getElem?_eq_getElem h2] at this
    simp only [Option.map_some, Option.getD_some, beq_iff_eq] at this
    exact UInt8.toNat_inj.1 (by omega)
  · rintro rfl i _
    simp
theorem run_eql_b (a b : List UInt8) (ha : a.length = 32) (hb : b.length = 32) (w : World) : (binOp .eql 25 (.agg (a.map bv).toArray) (.agg (b.map bv).toArray)).run Tryd.prog w = .ok (.bool (decide (a = b))) w := by
  obtain ⟨i, hi, _⟩ := info_parts Tryd.infoU8
  have em : ∀ l : List UInt8, l.map bv = (l.map fun x : UInt8 => (x.toNat : Int)).map (Value.int .u8) := fun l => by rw [List.map_map]; rfl
  rw [em, em]
  have h := run_equalIn_array (P := Tryd.prog) w 9999 ((a.map fun x : UInt8 => (x.toNat : Int)).map (Value.int .u8)).toArray ((b.map fun x : UInt8 => (x.toNat : Int)).map (Value.int .u8)).toArray Tryd.underlying25 hi
  rw [Tryd.cellsU8, eqItems_ints Tryd.underlying5 Tryd.plainU8 9998 _ _ _ (fun i hi => by simp only [List.length_map, ha, hb]; exact ⟨List.mem_range.1 hi, List.mem_range.1 hi⟩), eq_bytes a b ha hb] at h
  generalize ((a.map fun x : UInt8 => (x.toNat : Int)).map (Value.int .u8)).toArray = xs at *
  generalize ((b.map fun x : UInt8 => (x.toNat : Int)).map (Value.int .u8)).toArray = ys at *
  simp only [binOp]
  simp [Op.equal, Op.maxDepth, h]
theorem run_guard_b (x y : Operand) (a b : Array Value) (w : World) : (eqGuard .eql 25 x y (.agg a) (.agg b)).run Tryd.prog w = .ok () w := by
  simp [eqGuard]

set_option maxRecDepth 100000 in
theorem half_any (w : World) : Calls Tryd.prog 31 #[] w fun e w' => e = .returned (.agg #[.int .u64 18446744073709551607, .int .u64 18446744073709551615, .int .u64 18446744073709551615, .int .u64 4611686018427387903]) ∧ Below w.heap.size w w' := by
  obtain ⟨z0, b0, _⟩ := fe_start w 0 #[.int .u64 0, .int .u64 0, .int .u64 0, .int .u64 0] (by kernel_rfl)
  have hP : Hid (Value.agg #[.int .u64 18446744073709551607, .int .u64 18446744073709551615, .int .u64 18446744073709551615, .int .u64 4611686018427387903] = .agg ((lims HALF).map nv).toArray) := Lib.hid (by kernel_rfl)
  go_enter Tryd.func31, Tryd.ntmps31
  go_wp2_with (with_reducible refine wpList_store_n rfl 24 (.tmp 0) (.tmp 1) rfl w.heap.size (lims HALF) 4 rfl (by with_unfolding_all exact hP.out) rfl (lims 0) (by with_unfolding_all exact z0) Tryd.infoFe rfl w.heap.size w (by with_unfolding_all exact b0) (Nat.le_refl _) ?_; intro w2 Hg _ _ hb2)
  exact bodyPost_ret (results_cell_row rfl _ _ w.heap.size _ _ _ _ rfl Hg Tryd.underlying24 rfl (by rw [Tryd.infoFe]; rfl)) rfl ⟨by rw [hP.out], hb2⟩

end Go.Proofs.YtcidbiceeinglaaDoor
