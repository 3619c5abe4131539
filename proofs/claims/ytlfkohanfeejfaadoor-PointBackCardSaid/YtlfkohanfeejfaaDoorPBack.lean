/-
  PointBack: a point is read as it was written, and bytes that are a point are its. Whatever the numbers, and the bytes, are.
-/
import Derived.Test.YtlfkohanfeejfaaDoorPBackyes
import Derived.Test.YtlfkohanfeejfaaDoorPBackno
namespace Go.Proofs.YtlfkohanfeejfaaDoor
open Go.RowKit
namespace Pnt
open Crv
theorem PointBack_any (p : Nat × Nat) (b : List UInt8) (w : World) (ok_p : ok p) (hlb : b.length = 32) (L0 : Laid w) :
    Calls Tryd.prog 4 #[.agg ((limsL [p.1, p.2]).map nv).toArray, .agg (b.map bv).toArray] w fun e w' => e = .returned (.bool true) ∧ Below w.heap.size w w' := by
  cases hd : (dec b).2 with
  | true => exact PointBack_yes p b w ok_p hlb hd L0
  | false => exact PointBack_no p b w ok_p hlb hd L0
end Pnt
end Go.Proofs.YtlfkohanfeejfaaDoor
