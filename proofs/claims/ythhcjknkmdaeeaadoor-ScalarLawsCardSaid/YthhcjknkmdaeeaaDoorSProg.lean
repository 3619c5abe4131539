/-
  The program's numbers modulo L: what the laws want of its functions.
-/
import Derived.Test.YthhcjknkmdaeeaaDoorSBytes
namespace Go.Proofs.YthhcjknkmdaeeaaDoor
open Go.RowKit

/-- The program's variable holds what its text lays in it. -/
def Laid (W : World) : Prop := Sca.Laid W
theorem Laid.size {W : World} (h : Laid W) : 0 + 1 ≤ W.heap.size := Sca.Laid.size h
theorem Laid.keep {W W' : World} (h : Laid W) {D : Nat} (hb : Below D W W') (hD : 0 + 1 ≤ D) : Laid W' := Sca.Laid.keep h hb hD
theorem Add_any (m n : Nat) (w : World) (hm : m < big) (hn : n < big) (L : Laid w) : Calls Tryd.prog 8 #[fev m, fev n] w (GaveF w (toS m + toS n).val) := Sca.Add_any m n w hm hn L
theorem Mul_any (m n : Nat) (w : World) (hm : m < big) (hn : n < big) (L : Laid w) : Calls Tryd.prog 10 #[fev m, fev n] w (GaveF w (toS m * toS n).val) := Sca.Mul_any m n w hm hn L
theorem Neg_any (m : Nat) (w : World) (hm : m < big) (L : Laid w) : Calls Tryd.prog 12 #[fev m] w (GaveF w (-toS m).val) := Sca.Neg_any m w hm L
theorem Of_any (l : List UInt8) (w : World) (hl : l.length = 64) (L : Laid w) : Calls Tryd.prog 14 #[.agg (l.map bv).toArray] w (GaveF w (toS (leNum l)).val) := Sca.Of_any l w hl L
theorem From_any (l : List UInt8) (w : World) (hl : l.length = 32) (L : Laid w) : Calls Tryd.prog 16 #[.agg (l.map bv).toArray] w (GaveF w (toS (leNum l)).val) := Sca.From_any l w hl L
theorem Bytes_any (m : Nat) (w : World) (hm : m < big) (L : Laid w) : Calls Tryd.prog 18 #[fev m] w fun e w' => e = .returned (.agg ((leBytes (toS m).val 32).map bv).toArray) ∧ Below w.heap.size w w' := Sca.Bytes_any m w hm L
theorem Check_any (l : List UInt8) (w : World) (hl : l.length = 32) (L : Laid w) : Calls Tryd.prog 20 #[.agg (l.map bv).toArray] w fun e w' => e = .returned (.bool (decide (leNum l < LL))) ∧ Below w.heap.size w w' := Sca.Check_any l w hl L
end Go.Proofs.YthhcjknkmdaeeaaDoor
