/-
  What layer 6's rows need: an argument read as data is a point's two numbers; a byte.
  What layer 7's rows need: the package variables.
  Numbers modulo L compared as arrays, and a block made for one (beside the field's: XFEq).
-/
import Derived.Test.YtlfkohanfeejfaaDoorMag
import Derived.Test.YtlfkohanfeejfaaDoorMal
import Derived.Test.YtlfkohanfeejfaaDoorMbi
namespace Go.Proofs.YtlfkohanfeejfaaDoor
open Go.ChangeShapes Go.WideShapes Go.ChangeAt Go.RowKit Go.Deep

theorem Tryd.cellsFe : Tryd.prog.cellsOf 24 = 4 := by kernel_rfl
theorem Tryd.cellsPt : Tryd.prog.cellsOf 26 = 8 := by kernel_rfl
section
variable {H : Type} {enc : TypeId × Value → H}
theorem okWide_struct_pt {W : World} {b0 : Nat} {r : Reach} {v : Value} (hval : Value.okWide Tryd.prog W r b0 26 v) : ∃ cs : Array Value, v = .agg cs ∧ cs.size = 8 := by
  have hu := Tryd.underlying26
  have h8 := Tryd.cellsPt
  obtain ⟨cs, rfl, hsz, _⟩ : ∃ cs, v = .agg cs ∧ cs.size = Tryd.prog.cellsOf 26 ∧ Row.okWide Tryd.prog W r b0 26 cs := by
    simpa [Value.okWide, hu] using hval
  exact ⟨cs, rfl, by rw [hsz, h8]⟩
theorem four_of {fuel : Nat} {W : World} {base : Nat} {sp : Nat → Bool} {hd : Bool} {cs : List Value} {x : DataW H × List MemPlace} (h : DataW.trod enc Tryd.prog W base sp hd fuel 24 cs = some x) : ∃ m, m < big ∧ cs = (lims m).map nv := by
  obtain ⟨L, hL, hc, _, hw⟩ := open_words Tryd.underlying24 Tryd.underlying22 (by kernel_rfl) Tryd.cellsFe h
  match L, hL, hc, hw with
  | [z0, z1, z2, z3], _, hc, hw =>
    obtain ⟨y0, rfl⟩ := hw z0 (by simp)
    obtain ⟨y1, rfl⟩ := hw z1 (by simp)
    obtain ⟨y2, rfl⟩ := hw z2 (by simp)
    obtain ⟨y3, rfl⟩ := hw z3 (by simp)
    refine ⟨limbs y0.toNat y1.toNat y2.toNat y3.toNat, limbs_lt' y0.toNat_lt y1.toNat_lt y2.toNat_lt y3.toNat_lt, ?_⟩
    rw [lims_limbs y0.toNat_lt y1.toNat_lt y2.toNat_lt y3.toNat_lt]
    exact hc
/-- A point's two numbers, read. -/
theorem open_pt {W : World} {base b0 : Nat} {sp : Nat → Bool} {hd : Bool} {r : Reach} {v : Value} {d : DataW H} {ps : List MemPlace}
    (hval : Value.okWide Tryd.prog W r b0 26 v) (h : DataW.Trod enc Tryd.prog W base sp hd 26 v d ps) : ∃ s : Nat × Nat, (s.1 < big ∧ s.2 < big) ∧ v = .agg ((limsL [s.1, s.2]).map nv).toArray := by
  obtain ⟨cs, rfl, hsz⟩ := okWide_struct_pt hval
  obtain ⟨fuel, hf⟩ := h
  have hf' : DataW.trod enc Tryd.prog W base sp hd fuel 26 cs.toList = some (d, ps) := hf
  obtain ⟨xs, n, _, _, _, hxl, hx⟩ := DataW.trod_struct Tryd.underlying26 hf'
  obtain ⟨l⟩ := cs
  match l, hsz, hx with
  | [c0, c1, c2, c3, c4, c5, c6, c7], _, hx =>
    match xs, hxl, hx with
    | [x0, x1], _, hx =>
      have h0 : DataW.trod enc Tryd.prog W base sp hd n 24 (List.take (Tryd.prog.cellsOf 24) [c0, c1, c2, c3, c4, c5, c6, c7]) = some x0 := hx 0 _ rfl
      have h1 : DataW.trod enc Tryd.prog W base sp hd n 24 (List.take (Tryd.prog.cellsOf 24) [c4, c5, c6, c7]) = some x1 := hx 1 _ rfl
      rw [Tryd.cellsFe] at h0 h1
      obtain ⟨a, ha, ea⟩ := four_of h0
      obtain ⟨b, hb, eb⟩ := four_of h1
      refine ⟨(a, b), ⟨ha, hb⟩, ?_⟩
      have ea' : [c0, c1, c2, c3] = (lims a).map nv := ea
      have eb' : [c4, c5, c6, c7] = (lims b).map nv := eb
      show Value.agg [c0, c1, c2, c3, c4, c5, c6, c7].toArray = .agg ((limsL [a, b]).map nv).toArray
      rw [show [c0, c1, c2, c3, c4, c5, c6, c7] = [c0, c1, c2, c3] ++ [c4, c5, c6, c7] from rfl, ea', eb', ← List.map_append]
      congr 3
/-- A byte, read. -/
theorem open_byte {W : World} {base b0 : Nat} {sp : Nat → Bool} {hd : Bool} {r : Reach} {t : TypeId} {v : Value} {d : DataW H} {ps : List MemPlace} (ht : Tryd.prog.underlying t = some (.int .u8))
    (hval : Value.okWide Tryd.prog W r b0 t v) (h : DataW.Trod enc Tryd.prog W base sp hd t v d ps) : ∃ n : Nat, n < 256 ∧ v = .int .u8 (n : Int) := by
  obtain ⟨fuel, hf⟩ := h
  obtain ⟨z, hz, _, hw⟩ := DataW.trod_int ht hf
  obtain ⟨x, rfl⟩ := byte_of_wf hw
  refine ⟨x.toNat, x.toNat_lt, ?_⟩
  simp only [Value.okWide, ht] at hval
  cases v <;> simp_all [Value.cells, Cell.okWide, Cell.ok]
end
end Go.Proofs.YtlfkohanfeejfaaDoor

namespace Go.Proofs.YtlfkohanfeejfaaDoor
open Go.ChangeShapes Go.WideShapes Go.ChangeAt Go.RowKit Go.Deep

def laid4 : List (String × DataW Unit) := [("yashmak/field.fourPrimes", Rows.laid_yashmak_field_fourPrimes), ("yashmak/field.rootOfMinus", Rows.laid_yashmak_field_rootOfMinus), ("yashmak/scalar.order", Rows.laid_yashmak_scalar_order), ("yashmak/curve.d", Rows.laid_yashmak_curve_d)]
theorem Tryd.gFour : Tryd.prog.globalNamed "yashmak/field.fourPrimes" = some 1 := by kernel_rfl
theorem Tryd.tFour : (Tryd.prog.globals[1]?).map (·.type) = some 24 := by kernel_rfl
theorem datumFour : (Rows.laid_yashmak_field_fourPrimes : DataW Unit) = .agg (((lims FP4).map fun x : Nat => (x : Int)).map fun z => .lit (.int .u64 z)) := by kernel_rfl
theorem Tryd.gRM : Tryd.prog.globalNamed "yashmak/field.rootOfMinus" = some 2 := by kernel_rfl
theorem Tryd.tRM : (Tryd.prog.globals[2]?).map (·.type) = some 24 := by kernel_rfl
theorem datumRM : (Rows.laid_yashmak_field_rootOfMinus : DataW Unit) = .agg (((lims RM).map fun x : Nat => (x : Int)).map fun z => .lit (.int .u64 z)) := by kernel_rfl
theorem Tryd.gOrder : Tryd.prog.globalNamed "yashmak/scalar.order" = some 3 := by kernel_rfl
theorem Tryd.tOrder : (Tryd.prog.globals[3]?).map (·.type) = some 28 := by kernel_rfl
theorem datumOrder : (Rows.laid_yashmak_scalar_order : DataW Unit) = .agg (((lims LL).map fun x : Nat => (x : Int)).map fun z => .lit (.int .u64 z)) := by kernel_rfl
theorem Tryd.gDee : Tryd.prog.globalNamed "yashmak/curve.d" = some 0 := by kernel_rfl
theorem Tryd.tDee : (Tryd.prog.globals[0]?).map (·.type) = some 24 := by kernel_rfl
theorem datumDee : (Rows.laid_yashmak_curve_d : DataW Unit) = .agg (((lims DEE).map fun x : Nat => (x : Int)).map fun z => .lit (.int .u64 z)) := by kernel_rfl
theorem Tryd.cellsSc : Tryd.prog.cellsOf 28 = 4 := by kernel_rfl
theorem Tryd.cellsB32 : Tryd.prog.cellsOf 27 = 32 := by kernel_rfl
theorem of_laid {W : World} (h : laidMetH Tryd.prog laid4 W) : Pnt.Laid W := by
  rw [MakeChecks.laidMetH_plain _ _ _ (by kernel_rfl)] at h
  obtain ⟨ps, ⟨g0, t0, cs0, f0, p0, q0, hg0, ht0, hv0, hd0, ⟨g1, t1, cs1, f1, p1, q1, hg1, ht1, hv1, hd1, ⟨g2, t2, cs2, f2, p2, q2, hg2, ht2, hv2, hd2, ⟨g3, t3, cs3, f3, p3, q3, hg3, ht3, hv3, hd3, _, _⟩, _⟩, _⟩, _⟩, _, _⟩ := h
  obtain rfl := Option.some.inj (Tryd.gFour.symm.trans hg0)
  obtain rfl := Option.some.inj (Tryd.tFour.symm.trans ht0)
  have e0 := var_four Tryd.underlying24 Tryd.underlying22 Tryd.cellsU64 Tryd.cellsFe hd0 datumFour
  obtain rfl := Option.some.inj (Tryd.gRM.symm.trans hg1)
  obtain rfl := Option.some.inj (Tryd.tRM.symm.trans ht1)
  have e1 := var_four Tryd.underlying24 Tryd.underlying22 Tryd.cellsU64 Tryd.cellsFe hd1 datumRM
  obtain rfl := Option.some.inj (Tryd.gOrder.symm.trans hg2)
  obtain rfl := Option.some.inj (Tryd.tOrder.symm.trans ht2)
  have e2 := var_four Tryd.underlying28 Tryd.underlying22 Tryd.cellsU64 Tryd.cellsSc hd2 datumOrder
  obtain rfl := Option.some.inj (Tryd.gDee.symm.trans hg3)
  obtain rfl := Option.some.inj (Tryd.tDee.symm.trans ht3)
  have e3 := var_four Tryd.underlying24 Tryd.underlying22 Tryd.cellsU64 Tryd.cellsFe hd3 datumDee
  exact ⟨⟨fun j hj => by rw [World.var?_cell hg2 hv2 j]; exact e2 j hj, fun j hj => by rw [World.var?_cell hg0 hv0 j]; exact e0 j hj, fun j hj => by rw [World.var?_cell hg3 hv3 j]; exact e3 j hj⟩, ⟨fun j hj => by rw [World.var?_cell hg0 hv0 j]; exact e0 j hj, fun j hj => by rw [World.var?_cell hg1 hv1 j]; exact e1 j hj⟩⟩

set_option maxRecDepth 100000 in
/-- The door's own heap meets the condition. -/
theorem door_met (os : Os) (args : Array Value) : laidMetH Tryd.prog laid4 ((World.doorLaid Tryd.prog 400 os).forCall (fun _ _ => 0) ⟨#[], args, []⟩).memory :=
  laidMetH_of_parts3 (fuel := 8) (laidMet_of_run' 8 (by kernel_rfl) (by kernel_rfl)) (by kernel_rfl) (by kernel_rfl)
end Go.Proofs.YtlfkohanfeejfaaDoor

namespace Go.Proofs.YtlfkohanfeejfaaDoor
open Go.RowKit
namespace Scq
theorem run_eql_sc (m n : Nat) (w : World) (hm : m < big) (hn : n < big) : (binOp .eql 28 (.agg ((lims m).map nv).toArray) (.agg ((lims n).map nv).toArray)).run Tryd.prog w = .ok (.bool (decide (m = n))) w := by
  obtain ⟨i, hi, _⟩ := info_parts Tryd.infoU64
  have em : ∀ k : Nat, (lims k).map nv = ((lims k).map fun x : Nat => (x : Int)).map (Value.int .u64) := fun k => by rw [List.map_map]; rfl
  rw [em, em]
  have h := run_equalIn_array (P := Tryd.prog) w 9999 (((lims m).map fun x : Nat => (x : Int)).map (Value.int .u64)).toArray (((lims n).map fun x : Nat => (x : Int)).map (Value.int .u64)).toArray Tryd.underlying28 hi
  rw [Tryd.cellsU64, eqItems_ints Tryd.underlying22 Tryd.plainU64 9998 _ _ _ (fun i hi => by simp only [List.length_map, lims_length]; exact ⟨List.mem_range.1 hi, List.mem_range.1 hi⟩), lims_eq] at h
  have hd : decide (lims m = lims n) = decide (m = n) := by
    by_cases e : m = n
    · rw [decide_eq_true e, decide_eq_true (by rw [e])]
    · rw [decide_eq_false e, decide_eq_false (fun h => e (lims_inj hm hn h))]
  rw [hd] at h
  generalize (((lims m).map fun x : Nat => (x : Int)).map (Value.int .u64)).toArray = xs at *
  generalize (((lims n).map fun x : Nat => (x : Int)).map (Value.int .u64)).toArray = ys at *
  simp only [binOp]
  simp [Op.equal, Op.maxDepth, h]
theorem run_guard_sc (x y : Operand) (a b : Array Value) (w : World) : (eqGuard .eql 28 x y (.agg a) (.agg b)).run Tryd.prog w = .ok () w := by
  simp [eqGuard]
theorem sc_new (w : World) : (w.alloc (.cells #[.int .u64 0, .int .u64 0, .int .u64 0, .int .u64 0] 28)).heap[w.heap.size]? = some (.cells ((lims 0).map nv).toArray 28 (0, 0)) := holdsN_new w _ _ _ (lims 0) rfl (by kernel_rfl)
end Scq
end Go.Proofs.YtlfkohanfeejfaaDoor
