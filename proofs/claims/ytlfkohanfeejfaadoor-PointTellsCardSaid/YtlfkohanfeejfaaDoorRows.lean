/-
  NARROWER THAN 'FOR EVERY INPUT', by the rows' own cells (each row's printed sentence says how): PointTells: laid · PointBack: laid · PointApart: laid · PointTimes: laid.
  DERIVED. THE GIVEN ROWS OF THIS SEAT. 4 by the template 'for every input the law returns true; each argument reads behind the call as it read before'; 0 by the template 'total and deterministic' (their statements: YtlfkohanfeejfaaDoorTotals.lean).
  GIVEN WITH THE SEED: the statements are not yours to turn. If you find one false, say at which input.
  Laid BY PROGRAM, IN A SANDBOX (cutbox-rows.mjs): the forced cells as the released guide's own fill.sh prints them over the translation 88bc017c9aa055c4… (all of the seat's roots in one cut). By AI agents, Wed Nov 11 2026. No macro, syntax, notation, axiom, sorry.
-/
import Derived.Test.YtlfkohanfeejfaaDoorChecked
import GoSem.Claim
import GoSem.ClaimJoined
import GoSem.ClaimMapViews
import Derived.JoinedTies
import Derived.KernelRfl
namespace Go.Proofs.YtlfkohanfeejfaaDoor
/- THE CELL 'sum', in the pinned program and in every row, IS THE sha256 OF THE DUMP (.gsa) THAT YtlfkohanfeejfaaDoorProg.lean LOADS. Nothing in Lean hashes anything: it is a label: what it is worth is what the hold of that sum in a sandbox is worth. -/
noncomputable def Tryd.pinned : Pinned := { name := "ytlfkohanfeejfaadoor", sum := "88bc017c9aa055c40f55179f865cc05d2975d5e8ca41024e33f59b69f83c036d", checked := Tryd.checked }
namespace Rows
def none {H : Type} : Left H := { results := [], args := [] }

/- WHAT THE LISTED PACKAGE-LEVEL VARIABLES READ AS WHEN THE CALL BEGINS. Each datum BY PROGRAM (the guide's laid-datum.mjs) off the statement by which the dump's own 'gosem.cut.vars' lays the variable. In a bare row this is a premise. The card (YtlfkohanfeejfaaDoorCards.lean) ties it to the program's text. -/
def laid_yashmak_field_fourPrimes {H : Type} : DataW H := .agg [.lit (.int .u64 18446744073709551540), .lit (.int .u64 18446744073709551615), .lit (.int .u64 18446744073709551615), .lit (.int .u64 18446744073709551615)]
def laid_yashmak_field_rootOfMinus {H : Type} : DataW H := .agg [.lit (.int .u64 14190309331451158704), .lit (.int .u64 3405592160176694392), .lit (.int .u64 3120150775007532967), .lit (.int .u64 3135389899092516619)]
def laid_yashmak_scalar_order {H : Type} : DataW H := .agg [.lit (.int .u64 6346243789798364141), .lit (.int .u64 1503914060200516822), .lit (.int .u64 0), .lit (.int .u64 1152921504606846976)]
def laid_yashmak_curve_d {H : Type} : DataW H := .agg [.lit (.int .u64 8496970652267935907), .lit (.int .u64 31536524315187371), .lit (.int .u64 10144147576115030168), .lit (.int .u64 5909686906226998899)]

/-- 'yashmaklaw07.PointTells': WHATEVER THE INPUT: true; the input reads as it did. -/
def pointTellsSpec : ChangeSpec := { name := "pointTells", fn := fun _ => fun
  | [d1, d2, d3] => { results := [.lit (.bool true)], args := [d1, d2, d3] }
  | _ => none }
def pointTellsRow : OpenClaim := { program := "ytlfkohanfeejfaadoor", sum := "88bc017c9aa055c40f55179f865cc05d2975d5e8ca41024e33f59b69f83c036d", func := "yashmak/yashmaklaw07.PointTells", spec := "pointTells", inPlace := ["math/bits.Add64", "math/bits.Sub64"], unfollowed := true, recurses := true, named := ["yashmak/curve.d", "yashmak/field.fourPrimes", "yashmak/field.rootOfMinus", "yashmak/scalar.order"], apart := false, laid := [("yashmak/field.fourPrimes", laid_yashmak_field_fourPrimes), ("yashmak/field.rootOfMinus", laid_yashmak_field_rootOfMinus), ("yashmak/scalar.order", laid_yashmak_scalar_order), ("yashmak/curve.d", laid_yashmak_curve_d)] }
def PointTellsSaid : Prop := pointTellsRow.holds Tryd.pinned (OpenSpec.ofChange pointTellsSpec)

/-- ITS FALSE NEIGHBOUR: 'it returns false'. Refute it at one input. -/
def pointTellsWrong : ChangeSpec := { name := "pointTells", fn := fun _ => fun
  | [d1, d2, d3] => { results := [.lit (.bool false)], args := [d1, d2, d3] }
  | _ => none }
def PointTellsWrongFalsely : Prop := pointTellsRow.holds Tryd.pinned (OpenSpec.ofChange pointTellsWrong)

/-- 'yashmaklaw07.PointBack': WHATEVER THE INPUT: true; the input reads as it did. -/
def pointBackSpec : ChangeSpec := { name := "pointBack", fn := fun _ => fun
  | [d1, d2] => { results := [.lit (.bool true)], args := [d1, d2] }
  | _ => none }
def pointBackRow : OpenClaim := { program := "ytlfkohanfeejfaadoor", sum := "88bc017c9aa055c40f55179f865cc05d2975d5e8ca41024e33f59b69f83c036d", func := "yashmak/yashmaklaw07.PointBack", spec := "pointBack", inPlace := ["math/bits.Add64", "math/bits.Sub64"], unfollowed := true, recurses := true, named := ["yashmak/curve.d", "yashmak/field.fourPrimes", "yashmak/field.rootOfMinus", "yashmak/scalar.order"], apart := false, laid := [("yashmak/field.fourPrimes", laid_yashmak_field_fourPrimes), ("yashmak/field.rootOfMinus", laid_yashmak_field_rootOfMinus), ("yashmak/scalar.order", laid_yashmak_scalar_order), ("yashmak/curve.d", laid_yashmak_curve_d)] }
def PointBackSaid : Prop := pointBackRow.holds Tryd.pinned (OpenSpec.ofChange pointBackSpec)

/-- ITS FALSE NEIGHBOUR: 'it returns false'. Refute it at one input. -/
def pointBackWrong : ChangeSpec := { name := "pointBack", fn := fun _ => fun
  | [d1, d2] => { results := [.lit (.bool false)], args := [d1, d2] }
  | _ => none }
def PointBackWrongFalsely : Prop := pointBackRow.holds Tryd.pinned (OpenSpec.ofChange pointBackWrong)

/-- 'yashmaklaw07.PointApart': WHATEVER THE INPUT: true; the input reads as it did. -/
def pointApartSpec : ChangeSpec := { name := "pointApart", fn := fun _ => fun
  | [d1, d2] => { results := [.lit (.bool true)], args := [d1, d2] }
  | _ => none }
def pointApartRow : OpenClaim := { program := "ytlfkohanfeejfaadoor", sum := "88bc017c9aa055c40f55179f865cc05d2975d5e8ca41024e33f59b69f83c036d", func := "yashmak/yashmaklaw07.PointApart", spec := "pointApart", inPlace := ["math/bits.Add64", "math/bits.Sub64"], unfollowed := true, recurses := true, named := ["yashmak/curve.d", "yashmak/field.fourPrimes", "yashmak/field.rootOfMinus", "yashmak/scalar.order"], apart := false, laid := [("yashmak/field.fourPrimes", laid_yashmak_field_fourPrimes), ("yashmak/field.rootOfMinus", laid_yashmak_field_rootOfMinus), ("yashmak/scalar.order", laid_yashmak_scalar_order), ("yashmak/curve.d", laid_yashmak_curve_d)] }
def PointApartSaid : Prop := pointApartRow.holds Tryd.pinned (OpenSpec.ofChange pointApartSpec)

/-- ITS FALSE NEIGHBOUR: 'it returns false'. Refute it at one input. -/
def pointApartWrong : ChangeSpec := { name := "pointApart", fn := fun _ => fun
  | [d1, d2] => { results := [.lit (.bool false)], args := [d1, d2] }
  | _ => none }
def PointApartWrongFalsely : Prop := pointApartRow.holds Tryd.pinned (OpenSpec.ofChange pointApartWrong)

/-- 'yashmaklaw07.PointTimes': WHATEVER THE INPUT: true; the input reads as it did. -/
def pointTimesSpec : ChangeSpec := { name := "pointTimes", fn := fun _ => fun
  | [d1, d2] => { results := [.lit (.bool true)], args := [d1, d2] }
  | _ => none }
def pointTimesRow : OpenClaim := { program := "ytlfkohanfeejfaadoor", sum := "88bc017c9aa055c40f55179f865cc05d2975d5e8ca41024e33f59b69f83c036d", func := "yashmak/yashmaklaw07.PointTimes", spec := "pointTimes", inPlace := ["math/bits.Add64", "math/bits.Sub64"], unfollowed := true, recurses := true, named := ["yashmak/curve.d", "yashmak/field.fourPrimes", "yashmak/field.rootOfMinus", "yashmak/scalar.order"], apart := false, laid := [("yashmak/field.fourPrimes", laid_yashmak_field_fourPrimes), ("yashmak/field.rootOfMinus", laid_yashmak_field_rootOfMinus), ("yashmak/scalar.order", laid_yashmak_scalar_order), ("yashmak/curve.d", laid_yashmak_curve_d)] }
def PointTimesSaid : Prop := pointTimesRow.holds Tryd.pinned (OpenSpec.ofChange pointTimesSpec)

/-- ITS FALSE NEIGHBOUR: 'it returns false'. Refute it at one input. -/
def pointTimesWrong : ChangeSpec := { name := "pointTimes", fn := fun _ => fun
  | [d1, d2] => { results := [.lit (.bool false)], args := [d1, d2] }
  | _ => none }
def PointTimesWrongFalsely : Prop := pointTimesRow.holds Tryd.pinned (OpenSpec.ofChange pointTimesWrong)

/- THE SECOND FORM. 'bulk': how many values and letters a reading holds, each counted each time it is reached (what is shared counts as often as it is met; a slice's spare places count too). A statement '..UptoSaid' is the law's where the arguments, and the package variables that the reading takes, are together of bulk at most 1048576: NARROWER than '..Said'. Prove '..Said' where nothing that the law and all that it calls make is longer than what came in: it says more and counts as full. Else prove '..UptoSaid'. A law counts once. -/
mutual
def uptoBulk {H : Type} : DataW H → Nat
  | .lit (.string bytes) => bytes.length + 1
  | .lit _ => 1
  | .nil => 1
  | .ptr d => uptoBulk d + 1
  | .slice elems spare => uptoBulkAll elems + uptoBulkAll spare + 1
  | .agg parts => uptoBulkAll parts + 1
  | .iface _ d => uptoBulk d + 1
  | .map entries => uptoBulkEntries entries + 1
  | .held _ => 1
def uptoBulkAll {H : Type} : List (DataW H) → Nat
  | [] => 0
  | d :: r => uptoBulk d + uptoBulkAll r
def uptoBulkEntries {H : Type} : List (Lit × DataW H) → Nat
  | [] => 0
  | x :: r => uptoBulkEntry x + uptoBulkEntries r
def uptoBulkEntry {H : Type} : Lit × DataW H → Nat
  | (.string bytes, d) => bytes.length + uptoBulk d + 1
  | (_, d) => uptoBulk d + 1
 end
def uptoSmall : (H : Type) → List (DataW H) → Bool := fun _ ds => decide (uptoBulkAll ds ≤ 1048576)
def OpenSpec.upto (s : _root_.Go.ChangeSpec) : _root_.Go.OpenSpec := { _root_.Go.OpenSpec.ofChange s with cond := some uptoSmall }

/-- 'yashmaklaw07.PointTells', WHERE WHAT IT READS IS OF BULK AT MOST 1048576: true; the input reads as it did. -/
def pointTellsUptoRow : OpenClaim := { program := "ytlfkohanfeejfaadoor", sum := "88bc017c9aa055c40f55179f865cc05d2975d5e8ca41024e33f59b69f83c036d", func := "yashmak/yashmaklaw07.PointTells", spec := "pointTells", inPlace := ["math/bits.Add64", "math/bits.Sub64"], unfollowed := true, recurses := true, named := ["yashmak/curve.d", "yashmak/field.fourPrimes", "yashmak/field.rootOfMinus", "yashmak/scalar.order"], apart := false, laid := [("yashmak/field.fourPrimes", laid_yashmak_field_fourPrimes), ("yashmak/field.rootOfMinus", laid_yashmak_field_rootOfMinus), ("yashmak/scalar.order", laid_yashmak_scalar_order), ("yashmak/curve.d", laid_yashmak_curve_d)], narrowed := true }
def PointTellsUptoSaid : Prop := pointTellsUptoRow.holds Tryd.pinned (OpenSpec.upto pointTellsSpec)

/-- 'yashmaklaw07.PointBack', WHERE WHAT IT READS IS OF BULK AT MOST 1048576: true; the input reads as it did. -/
def pointBackUptoRow : OpenClaim := { program := "ytlfkohanfeejfaadoor", sum := "88bc017c9aa055c40f55179f865cc05d2975d5e8ca41024e33f59b69f83c036d", func := "yashmak/yashmaklaw07.PointBack", spec := "pointBack", inPlace := ["math/bits.Add64", "math/bits.Sub64"], unfollowed := true, recurses := true, named := ["yashmak/curve.d", "yashmak/field.fourPrimes", "yashmak/field.rootOfMinus", "yashmak/scalar.order"], apart := false, laid := [("yashmak/field.fourPrimes", laid_yashmak_field_fourPrimes), ("yashmak/field.rootOfMinus", laid_yashmak_field_rootOfMinus), ("yashmak/scalar.order", laid_yashmak_scalar_order), ("yashmak/curve.d", laid_yashmak_curve_d)], narrowed := true }
def PointBackUptoSaid : Prop := pointBackUptoRow.holds Tryd.pinned (OpenSpec.upto pointBackSpec)

/-- 'yashmaklaw07.PointApart', WHERE WHAT IT READS IS OF BULK AT MOST 1048576: true; the input reads as it did. -/
def pointApartUptoRow : OpenClaim := { program := "ytlfkohanfeejfaadoor", sum := "88bc017c9aa055c40f55179f865cc05d2975d5e8ca41024e33f59b69f83c036d", func := "yashmak/yashmaklaw07.PointApart", spec := "pointApart", inPlace := ["math/bits.Add64", "math/bits.Sub64"], unfollowed := true, recurses := true, named := ["yashmak/curve.d", "yashmak/field.fourPrimes", "yashmak/field.rootOfMinus", "yashmak/scalar.order"], apart := false, laid := [("yashmak/field.fourPrimes", laid_yashmak_field_fourPrimes), ("yashmak/field.rootOfMinus", laid_yashmak_field_rootOfMinus), ("yashmak/scalar.order", laid_yashmak_scalar_order), ("yashmak/curve.d", laid_yashmak_curve_d)], narrowed := true }
def PointApartUptoSaid : Prop := pointApartUptoRow.holds Tryd.pinned (OpenSpec.upto pointApartSpec)

/-- 'yashmaklaw07.PointTimes', WHERE WHAT IT READS IS OF BULK AT MOST 1048576: true; the input reads as it did. -/
def pointTimesUptoRow : OpenClaim := { program := "ytlfkohanfeejfaadoor", sum := "88bc017c9aa055c40f55179f865cc05d2975d5e8ca41024e33f59b69f83c036d", func := "yashmak/yashmaklaw07.PointTimes", spec := "pointTimes", inPlace := ["math/bits.Add64", "math/bits.Sub64"], unfollowed := true, recurses := true, named := ["yashmak/curve.d", "yashmak/field.fourPrimes", "yashmak/field.rootOfMinus", "yashmak/scalar.order"], apart := false, laid := [("yashmak/field.fourPrimes", laid_yashmak_field_fourPrimes), ("yashmak/field.rootOfMinus", laid_yashmak_field_rootOfMinus), ("yashmak/scalar.order", laid_yashmak_scalar_order), ("yashmak/curve.d", laid_yashmak_curve_d)], narrowed := true }
def PointTimesUptoSaid : Prop := pointTimesUptoRow.holds Tryd.pinned (OpenSpec.upto pointTimesSpec)

end Rows
end Go.Proofs.YtlfkohanfeejfaaDoor
