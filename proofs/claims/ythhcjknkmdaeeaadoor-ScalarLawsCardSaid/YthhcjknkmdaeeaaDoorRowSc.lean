/-
  What layer 5's rows need: the package variable.
-/
import Derived.Test.YthhcjknkmdaeeaaDoorRowG
import Derived.Test.YthhcjknkmdaeeaaDoorSLaw
namespace Go.Proofs.YthhcjknkmdaeeaaDoor
open Go.ChangeShapes Go.WideShapes Go.ChangeAt Go.RowKit Go.Deep

def laid1 : List (String × DataW Unit) := [("yashmak/scalar.order", Rows.laid_yashmak_scalar_order)]
theorem Tryd.gOrder : Tryd.prog.globalNamed "yashmak/scalar.order" = some 0 := by kernel_rfl
theorem Tryd.tOrder : (Tryd.prog.globals[0]?).map (·.type) = some 24 := by kernel_rfl
theorem Tryd.cellsSc : Tryd.prog.cellsOf 24 = 4 := by kernel_rfl
theorem Tryd.cellsB32 : Tryd.prog.cellsOf 26 = 32 := by kernel_rfl
theorem Tryd.cellsB64 : Tryd.prog.cellsOf 25 = 64 := by kernel_rfl
theorem order_datum : (Rows.laid_yashmak_scalar_order : DataW Unit) = .agg (((lims LL).map fun x : Nat => (x : Int)).map fun z => .lit (.int .u64 z)) := by kernel_rfl
theorem of_laid {W : World} (h : laidMetH Tryd.prog laid1 W) : Laid W := by
  rw [MakeChecks.laidMetH_plain _ _ _ (by kernel_rfl)] at h
  obtain ⟨ps, ⟨g0, t0, cs0, f0, p0, q0, hg0, ht0, hv0, hd0, _, _⟩, _, _⟩ := h
  obtain rfl := Option.some.inj (Tryd.gOrder.symm.trans hg0)
  obtain rfl := Option.some.inj (Tryd.tOrder.symm.trans ht0)
  have hv := var_four Tryd.underlying24 Tryd.underlying22 Tryd.cellsU64 Tryd.cellsSc hd0 order_datum
  exact fun j hj => by rw [World.var?_cell hg0 hv0 j]; exact hv j hj

set_option maxRecDepth 100000 in
/-- The door's own heap meets the condition. -/
theorem door_met (os : Os) (args : Array Value) : laidMetH Tryd.prog laid1 ((World.doorLaid Tryd.prog 400 os).forCall (fun _ _ => 0) ⟨#[], args, []⟩).memory :=
  laidMetH_of_parts3 (fuel := 8) (laidMet_of_run' 8 (by kernel_rfl) (by kernel_rfl)) (by kernel_rfl) (by kernel_rfl)
end Go.Proofs.YthhcjknkmdaeeaaDoor
