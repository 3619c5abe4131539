/-
  PointApart: both cases.
-/
import Derived.Test.YtlfkohanfeejfaaDoorPApartzero
import Derived.Test.YtlfkohanfeejfaaDoorPApartmore
namespace Go.Proofs.YtlfkohanfeejfaaDoor
open Go.RowKit
namespace Pnt
open Crv
theorem PointApart_any (p q : Nat × Nat) (w : World) (ok_p : ok p) (ok_q : ok q) (L0 : Laid w) :
    Calls Tryd.prog 5 #[.agg ((limsL [p.1, p.2]).map nv).toArray, .agg ((limsL [q.1, q.2]).map nv).toArray] w fun e w' => e = .returned (.bool true) ∧ Below w.heap.size w w' := by
  by_cases h : (pt p).1.1 = 0
  · exact PointApart_zero p q w ok_p ok_q h L0
  · exact PointApart_more p q w ok_p ok_q h L0
end Pnt
end Go.Proofs.YtlfkohanfeejfaaDoor
