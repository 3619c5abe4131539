/-
  NARROWER THAN 'FOR EVERY INPUT', by the rows' own cells (each row's printed sentence says how): FieldTells: laid · FieldRoots: laid · FieldLaws: laid · FieldBack: laid · FieldInverses: laid · FieldSquares: laid.
  DERIVED. THE GIVEN ROWS OF THIS SEAT. 6 by the template 'for every input the law returns true; each argument reads behind the call as it read before'; 0 by the template 'total and deterministic' (their statements: YtcidbiceeinglaaDoorTotals.lean).
  GIVEN WITH THE SEED: the statements are not yours to turn. If you find one false, say at which input.
  Laid BY PROGRAM, IN A SANDBOX (cutbox-rows.mjs): the forced cells as the released guide's own fill.sh prints them over the translation 76b299916c0986d5… (all of the seat's roots in one cut). By AI agents, Wed Nov 11 2026. No macro, syntax, notation, axiom, sorry.
-/
import Derived.Test.YtcidbiceeinglaaDoorChecked
import GoSem.Claim
import GoSem.ClaimJoined
import GoSem.ClaimMapViews
import Derived.JoinedTies
import Derived.KernelRfl
namespace Go.Proofs.YtcidbiceeinglaaDoor
/- THE CELL 'sum', in the pinned program and in every row, IS THE sha256 OF THE DUMP (.gsa) THAT YtcidbiceeinglaaDoorProg.lean LOADS. Nothing in Lean hashes anything: it is a label: what it is worth is what the hold of that sum in a sandbox is worth. -/
noncomputable def Tryd.pinned : Pinned := { name := "ytcidbiceeinglaadoor", sum := "76b299916c0986d58289ba907540f4da8e045100720a42892f0e9b82e6447497", checked := Tryd.checked }
namespace Rows
def none {H : Type} : Left H := { results := [], args := [] }

/- WHAT THE LISTED PACKAGE-LEVEL VARIABLES READ AS WHEN THE CALL BEGINS. Each datum BY PROGRAM (the guide's laid-datum.mjs) off the statement by which the dump's own 'gosem.cut.vars' lays the variable. In a bare row this is a premise. The card (YtcidbiceeinglaaDoorCards.lean) ties it to the program's text. -/
def laid_yashmak_field_fourPrimes {H : Type} : DataW H := .agg [.lit (.int .u64 18446744073709551540), .lit (.int .u64 18446744073709551615), .lit (.int .u64 18446744073709551615), .lit (.int .u64 18446744073709551615)]
def laid_yashmak_field_rootOfMinus {H : Type} : DataW H := .agg [.lit (.int .u64 14190309331451158704), .lit (.int .u64 3405592160176694392), .lit (.int .u64 3120150775007532967), .lit (.int .u64 3135389899092516619)]

/-- 'yashmaklaw04.FieldTells': WHATEVER THE INPUT: true; the input reads as it did. -/
def fieldTellsSpec : ChangeSpec := { name := "fieldTells", fn := fun _ => fun
  | [d1, d2, d3, d4] => { results := [.lit (.bool true)], args := [d1, d2, d3, d4] }
  | _ => none }
def fieldTellsRow : OpenClaim := { program := "ytcidbiceeinglaadoor", sum := "76b299916c0986d58289ba907540f4da8e045100720a42892f0e9b82e6447497", func := "yashmak/yashmaklaw04.FieldTells", spec := "fieldTells", inPlace := ["math/bits.Add64", "math/bits.Sub64"], recurses := true, named := ["yashmak/field.rootOfMinus", "yashmak/field.fourPrimes"], apart := false, laid := [("yashmak/field.fourPrimes", laid_yashmak_field_fourPrimes), ("yashmak/field.rootOfMinus", laid_yashmak_field_rootOfMinus)] }
def FieldTellsSaid : Prop := fieldTellsRow.holds Tryd.pinned (OpenSpec.ofChange fieldTellsSpec)

/-- ITS FALSE NEIGHBOUR: 'it returns false'. Refute it at one input. -/
def fieldTellsWrong : ChangeSpec := { name := "fieldTells", fn := fun _ => fun
  | [d1, d2, d3, d4] => { results := [.lit (.bool false)], args := [d1, d2, d3, d4] }
  | _ => none }
def FieldTellsWrongFalsely : Prop := fieldTellsRow.holds Tryd.pinned (OpenSpec.ofChange fieldTellsWrong)

/-- 'yashmaklaw04.FieldRoots': WHATEVER THE INPUT: true; the input reads as it did. -/
def fieldRootsSpec : ChangeSpec := { name := "fieldRoots", fn := fun _ => fun
  | [d1, d2] => { results := [.lit (.bool true)], args := [d1, d2] }
  | _ => none }
def fieldRootsRow : OpenClaim := { program := "ytcidbiceeinglaadoor", sum := "76b299916c0986d58289ba907540f4da8e045100720a42892f0e9b82e6447497", func := "yashmak/yashmaklaw04.FieldRoots", spec := "fieldRoots", inPlace := ["math/bits.Add64", "math/bits.Sub64"], recurses := true, named := ["yashmak/field.rootOfMinus", "yashmak/field.fourPrimes"], apart := false, laid := [("yashmak/field.fourPrimes", laid_yashmak_field_fourPrimes), ("yashmak/field.rootOfMinus", laid_yashmak_field_rootOfMinus)] }
def FieldRootsSaid : Prop := fieldRootsRow.holds Tryd.pinned (OpenSpec.ofChange fieldRootsSpec)

/-- ITS FALSE NEIGHBOUR: 'it returns false'. Refute it at one input. -/
def fieldRootsWrong : ChangeSpec := { name := "fieldRoots", fn := fun _ => fun
  | [d1, d2] => { results := [.lit (.bool false)], args := [d1, d2] }
  | _ => none }
def FieldRootsWrongFalsely : Prop := fieldRootsRow.holds Tryd.pinned (OpenSpec.ofChange fieldRootsWrong)

/-- 'yashmaklaw04.FieldLaws': WHATEVER THE INPUT: true; the input reads as it did. -/
def fieldLawsSpec : ChangeSpec := { name := "fieldLaws", fn := fun _ => fun
  | [d1, d2, d3] => { results := [.lit (.bool true)], args := [d1, d2, d3] }
  | _ => none }
def fieldLawsRow : OpenClaim := { program := "ytcidbiceeinglaadoor", sum := "76b299916c0986d58289ba907540f4da8e045100720a42892f0e9b82e6447497", func := "yashmak/yashmaklaw04.FieldLaws", spec := "fieldLaws", inPlace := ["math/bits.Add64", "math/bits.Sub64"], recurses := true, named := ["yashmak/field.rootOfMinus", "yashmak/field.fourPrimes"], apart := false, laid := [("yashmak/field.fourPrimes", laid_yashmak_field_fourPrimes), ("yashmak/field.rootOfMinus", laid_yashmak_field_rootOfMinus)] }
def FieldLawsSaid : Prop := fieldLawsRow.holds Tryd.pinned (OpenSpec.ofChange fieldLawsSpec)

/-- ITS FALSE NEIGHBOUR: 'it returns false'. Refute it at one input. -/
def fieldLawsWrong : ChangeSpec := { name := "fieldLaws", fn := fun _ => fun
  | [d1, d2, d3] => { results := [.lit (.bool false)], args := [d1, d2, d3] }
  | _ => none }
def FieldLawsWrongFalsely : Prop := fieldLawsRow.holds Tryd.pinned (OpenSpec.ofChange fieldLawsWrong)

/-- 'yashmaklaw04.FieldBack': WHATEVER THE INPUT: true; the input reads as it did. -/
def fieldBackSpec : ChangeSpec := { name := "fieldBack", fn := fun _ => fun
  | [d1, d2] => { results := [.lit (.bool true)], args := [d1, d2] }
  | _ => none }
def fieldBackRow : OpenClaim := { program := "ytcidbiceeinglaadoor", sum := "76b299916c0986d58289ba907540f4da8e045100720a42892f0e9b82e6447497", func := "yashmak/yashmaklaw04.FieldBack", spec := "fieldBack", inPlace := ["math/bits.Add64", "math/bits.Sub64"], recurses := true, named := ["yashmak/field.rootOfMinus", "yashmak/field.fourPrimes"], apart := false, laid := [("yashmak/field.fourPrimes", laid_yashmak_field_fourPrimes), ("yashmak/field.rootOfMinus", laid_yashmak_field_rootOfMinus)] }
def FieldBackSaid : Prop := fieldBackRow.holds Tryd.pinned (OpenSpec.ofChange fieldBackSpec)

/-- ITS FALSE NEIGHBOUR: 'it returns false'. Refute it at one input. -/
def fieldBackWrong : ChangeSpec := { name := "fieldBack", fn := fun _ => fun
  | [d1, d2] => { results := [.lit (.bool false)], args := [d1, d2] }
  | _ => none }
def FieldBackWrongFalsely : Prop := fieldBackRow.holds Tryd.pinned (OpenSpec.ofChange fieldBackWrong)

/-- 'yashmaklaw04.FieldInverses': WHATEVER THE INPUT: true; the input reads as it did. -/
def fieldInversesSpec : ChangeSpec := { name := "fieldInverses", fn := fun _ => fun
  | [d1, d2] => { results := [.lit (.bool true)], args := [d1, d2] }
  | _ => none }
def fieldInversesRow : OpenClaim := { program := "ytcidbiceeinglaadoor", sum := "76b299916c0986d58289ba907540f4da8e045100720a42892f0e9b82e6447497", func := "yashmak/yashmaklaw04.FieldInverses", spec := "fieldInverses", inPlace := ["math/bits.Add64", "math/bits.Sub64"], recurses := true, named := ["yashmak/field.rootOfMinus", "yashmak/field.fourPrimes"], apart := false, laid := [("yashmak/field.fourPrimes", laid_yashmak_field_fourPrimes), ("yashmak/field.rootOfMinus", laid_yashmak_field_rootOfMinus)] }
def FieldInversesSaid : Prop := fieldInversesRow.holds Tryd.pinned (OpenSpec.ofChange fieldInversesSpec)

/-- ITS FALSE NEIGHBOUR: 'it returns false'. Refute it at one input. -/
def fieldInversesWrong : ChangeSpec := { name := "fieldInverses", fn := fun _ => fun
  | [d1, d2] => { results := [.lit (.bool false)], args := [d1, d2] }
  | _ => none }
def FieldInversesWrongFalsely : Prop := fieldInversesRow.holds Tryd.pinned (OpenSpec.ofChange fieldInversesWrong)

/-- 'yashmaklaw04.FieldSquares': WHATEVER THE INPUT: true; the input reads as it did. -/
def fieldSquaresSpec : ChangeSpec := { name := "fieldSquares", fn := fun _ => fun
  | [d1, d2] => { results := [.lit (.bool true)], args := [d1, d2] }
  | _ => none }
def fieldSquaresRow : OpenClaim := { program := "ytcidbiceeinglaadoor", sum := "76b299916c0986d58289ba907540f4da8e045100720a42892f0e9b82e6447497", func := "yashmak/yashmaklaw04.FieldSquares", spec := "fieldSquares", inPlace := ["math/bits.Add64", "math/bits.Sub64"], recurses := true, named := ["yashmak/field.rootOfMinus", "yashmak/field.fourPrimes"], apart := false, laid := [("yashmak/field.fourPrimes", laid_yashmak_field_fourPrimes), ("yashmak/field.rootOfMinus", laid_yashmak_field_rootOfMinus)] }
def FieldSquaresSaid : Prop := fieldSquaresRow.holds Tryd.pinned (OpenSpec.ofChange fieldSquaresSpec)

/-- ITS FALSE NEIGHBOUR: 'it returns false'. Refute it at one input. -/
def fieldSquaresWrong : ChangeSpec := { name := "fieldSquares", fn := fun _ => fun
  | [d1, d2] => { results := [.lit (.bool false)], args := [d1, d2] }
  | _ => none }
def FieldSquaresWrongFalsely : Prop := fieldSquaresRow.holds Tryd.pinned (OpenSpec.ofChange fieldSquaresWrong)

/- THE SECOND FORM. 'bulk': how many values and letters a reading holds, each counted each time it is reached (what is shared counts as often as it is met; a slice's spare places count too). A statement '..UptoSaid' is the law's where the arguments, and the package variables that the reading takes, are together of bulk at most 1048576: NARROWER than '..Said'. Prove '..Said' where nothing that the law and all that it calls make is longer than what came in: it says more and counts as full. Else prove '..UptoSaid'. A law counts once. -/
mutual
def uptoBulk {H : Type} : DataW H → Nat
  | .lit (.string bytes) => bytes.length + 1
  | .lit _ => 1
  | .nil => 1
  | .ptr d => uptoBulk d + 1
  | .slice elems spare => uptoBulkAll elems + uptoBulkAll spare + 1
  | .agg parts => uptoBulkAll parts + 1
  | .iface _ d => uptoBulk d + 1
  | .map entries => uptoBulkEntries entries + 1
  | .held _ => 1
def uptoBulkAll {H : Type} : List (DataW H) → Nat
  | [] => 0
  | d :: r => uptoBulk d + uptoBulkAll r
def uptoBulkEntries {H : Type} : List (Lit × DataW H) → Nat
  | [] => 0
  | x :: r => uptoBulkEntry x + uptoBulkEntries r
def uptoBulkEntry {H : Type} : Lit × DataW H → Nat
  | (.string bytes, d) => bytes.length + uptoBulk d + 1
  | (_, d) => uptoBulk d + 1
 end
def uptoSmall : (H : Type) → List (DataW H) → Bool := fun _ ds => decide (uptoBulkAll ds ≤ 1048576)
def OpenSpec.upto (s : _root_.Go.ChangeSpec) : _root_.Go.OpenSpec := { _root_.Go.OpenSpec.ofChange s with cond := some uptoSmall }

/-- 'yashmaklaw04.FieldTells', WHERE WHAT IT READS IS OF BULK AT MOST 1048576: true; the input reads as it did. -/
def fieldTellsUptoRow : OpenClaim := { program := "ytcidbiceeinglaadoor", sum := "76b299916c0986d58289ba907540f4da8e045100720a42892f0e9b82e6447497", func := "yashmak/yashmaklaw04.FieldTells", spec := "fieldTells", inPlace := ["math/bits.Add64", "math/bits.Sub64"], recurses := true, named := ["yashmak/field.rootOfMinus", "yashmak/field.fourPrimes"], apart := false, laid := [("yashmak/field.fourPrimes", laid_yashmak_field_fourPrimes), ("yashmak/field.rootOfMinus", laid_yashmak_field_rootOfMinus)], narrowed := true }
def FieldTellsUptoSaid : Prop := fieldTellsUptoRow.holds Tryd.pinned (OpenSpec.upto fieldTellsSpec)

/-- 'yashmaklaw04.FieldRoots', WHERE WHAT IT READS IS OF BULK AT MOST 1048576: true; the input reads as it did. -/
def fieldRootsUptoRow : OpenClaim := { program := "ytcidbiceeinglaadoor", sum := "76b299916c0986d58289ba907540f4da8e045100720a42892f0e9b82e6447497", func := "yashmak/yashmaklaw04.FieldRoots", spec := "fieldRoots", inPlace := ["math/bits.Add64", "math/bits.Sub64"], recurses := true, named := ["yashmak/field.rootOfMinus", "yashmak/field.fourPrimes"], apart := false, laid := [("yashmak/field.fourPrimes", laid_yashmak_field_fourPrimes), ("yashmak/field.rootOfMinus", laid_yashmak_field_rootOfMinus)], narrowed := true }
def FieldRootsUptoSaid : Prop := fieldRootsUptoRow.holds Tryd.pinned (OpenSpec.upto fieldRootsSpec)

/-- 'yashmaklaw04.FieldLaws', WHERE WHAT IT READS IS OF BULK AT MOST 1048576: true; the input reads as it did. -/
def fieldLawsUptoRow : OpenClaim := { program := "ytcidbiceeinglaadoor", sum := "76b299916c0986d58289ba907540f4da8e045100720a42892f0e9b82e6447497", func := "yashmak/yashmaklaw04.FieldLaws", spec := "fieldLaws", inPlace := ["math/bits.Add64", "math/bits.Sub64"], recurses := true, named := ["yashmak/field.rootOfMinus", "yashmak/field.fourPrimes"], apart := false, laid := [("yashmak/field.fourPrimes", laid_yashmak_field_fourPrimes), ("yashmak/field.rootOfMinus", laid_yashmak_field_rootOfMinus)], narrowed := true }
def FieldLawsUptoSaid : Prop := fieldLawsUptoRow.holds Tryd.pinned (OpenSpec.upto fieldLawsSpec)

/-- 'yashmaklaw04.FieldBack', WHERE WHAT IT READS IS OF BULK AT MOST 1048576: true; the input reads as it did. -/
def fieldBackUptoRow : OpenClaim := { program := "ytcidbiceeinglaadoor", sum := "76b299916c0986d58289ba907540f4da8e045100720a42892f0e9b82e6447497", func := "yashmak/yashmaklaw04.FieldBack", spec := "fieldBack", inPlace := ["math/bits.Add64", "math/bits.Sub64"], recurses := true, named := ["yashmak/field.rootOfMinus", "yashmak/field.fourPrimes"], apart := false, laid := [("yashmak/field.fourPrimes", laid_yashmak_field_fourPrimes), ("yashmak/field.rootOfMinus", laid_yashmak_field_rootOfMinus)], narrowed := true }
def FieldBackUptoSaid : Prop := fieldBackUptoRow.holds Tryd.pinned (OpenSpec.upto fieldBackSpec)

/-- 'yashmaklaw04.FieldInverses', WHERE WHAT IT READS IS OF BULK AT MOST 1048576: true; the input reads as it did. -/
def fieldInversesUptoRow : OpenClaim := { program := "ytcidbiceeinglaadoor", sum := "76b299916c0986d58289ba907540f4da8e045100720a42892f0e9b82e6447497", func := "yashmak/yashmaklaw04.FieldInverses", spec := "fieldInverses", inPlace := ["math/bits.Add64", "math/bits.Sub64"], recurses := true, named := ["yashmak/field.rootOfMinus", "yashmak/field.fourPrimes"], apart := false, laid := [("yashmak/field.fourPrimes", laid_yashmak_field_fourPrimes), ("yashmak/field.rootOfMinus", laid_yashmak_field_rootOfMinus)], narrowed := true }
def FieldInversesUptoSaid : Prop := fieldInversesUptoRow.holds Tryd.pinned (OpenSpec.upto fieldInversesSpec)

/-- 'yashmaklaw04.FieldSquares', WHERE WHAT IT READS IS OF BULK AT MOST 1048576: true; the input reads as it did. -/
def fieldSquaresUptoRow : OpenClaim := { program := "ytcidbiceeinglaadoor", sum := "76b299916c0986d58289ba907540f4da8e045100720a42892f0e9b82e6447497", func := "yashmak/yashmaklaw04.FieldSquares", spec := "fieldSquares", inPlace := ["math/bits.Add64", "math/bits.Sub64"], recurses := true, named := ["yashmak/field.rootOfMinus", "yashmak/field.fourPrimes"], apart := false, laid := [("yashmak/field.fourPrimes", laid_yashmak_field_fourPrimes), ("yashmak/field.rootOfMinus", laid_yashmak_field_rootOfMinus)], narrowed := true }
def FieldSquaresUptoSaid : Prop := fieldSquaresUptoRow.holds Tryd.pinned (OpenSpec.upto fieldSquaresSpec)

end Rows
end Go.Proofs.YtcidbiceeinglaaDoor
