/-
  DERIVED. GIVEN WITH THE SEED: THE CARDS: each row of YthhcjknkmdaeeaaDoorRows.lean that lists a variable, with what it lists TIED to the program's text (the seventh form; the later family's looks); each row that meets fmt, with fmt's text TOLD by the authors' own Lean function (tested against real Go, not proved from fmt's source: count such statements apart). THE CARD IS WHAT COUNTS. Prove the row's statement (the work); the ties are given (YthhcjknkmdaeeaaDoorTie.lean); close each card by the builder's one call (the guide's Derived/Test/ToyasCard.lean, 'card_holds'). Laid BY PROGRAM, IN A SANDBOX (cutbox-door.mjs). By AI agents, Wed Nov 11 2026. No macro, syntax, notation, axiom, sorry.
-/
import Derived.Test.YthhcjknkmdaeeaaDoorRows
import GoSem.ClaimSeven
namespace Go.Proofs.YthhcjknkmdaeeaaDoor
namespace Rows

/-- THE TIED CARD OF 'yashmaklaw05.ScalarTells'. -/
def scalarTellsCard : Claim7 := { stood := { row := scalarTellsRow, standIns := [], harness := (true, "dd4d81d982ec93b8e72cfafb77694c6a41bef1de6c2cb4ce31c32a018bb55580"), looks := false }, kinds := [], alts := [], laidByText := true, laidKinds := [.data], laidTests := true, laidLooks := .later }
def ScalarTellsCardSaid : Prop := Claim7.holds Tryd.pinned (.plain (OpenSpec.ofChange scalarTellsSpec)) scalarTellsCard

/-- THE TIED CARD OF 'yashmaklaw05.ScalarLaws'. -/
def scalarLawsCard : Claim7 := { stood := { row := scalarLawsRow, standIns := [], harness := (true, "dd4d81d982ec93b8e72cfafb77694c6a41bef1de6c2cb4ce31c32a018bb55580"), looks := false }, kinds := [], alts := [], laidByText := true, laidKinds := [.data], laidTests := true, laidLooks := .later }
def ScalarLawsCardSaid : Prop := Claim7.holds Tryd.pinned (.plain (OpenSpec.ofChange scalarLawsSpec)) scalarLawsCard

/-- THE TIED CARD OF 'yashmaklaw05.ScalarBack'. -/
def scalarBackCard : Claim7 := { stood := { row := scalarBackRow, standIns := [], harness := (true, "dd4d81d982ec93b8e72cfafb77694c6a41bef1de6c2cb4ce31c32a018bb55580"), looks := false }, kinds := [], alts := [], laidByText := true, laidKinds := [.data], laidTests := true, laidLooks := .later }
def ScalarBackCardSaid : Prop := Claim7.holds Tryd.pinned (.plain (OpenSpec.ofChange scalarBackSpec)) scalarBackCard

/-- THE TIED CARD OF 'yashmaklaw05.ScalarNegs'. -/
def scalarNegsCard : Claim7 := { stood := { row := scalarNegsRow, standIns := [], harness := (true, "dd4d81d982ec93b8e72cfafb77694c6a41bef1de6c2cb4ce31c32a018bb55580"), looks := false }, kinds := [], alts := [], laidByText := true, laidKinds := [.data], laidTests := true, laidLooks := .later }
def ScalarNegsCardSaid : Prop := Claim7.holds Tryd.pinned (.plain (OpenSpec.ofChange scalarNegsSpec)) scalarNegsCard

/-- THE SECOND FORM's CARD OF 'yashmaklaw05.ScalarTells'. -/
def scalarTellsUptoCard : Claim7 := { stood := { row := scalarTellsUptoRow, standIns := [], harness := (true, "dd4d81d982ec93b8e72cfafb77694c6a41bef1de6c2cb4ce31c32a018bb55580"), looks := false }, kinds := [], alts := [], laidByText := true, laidKinds := [.data], laidTests := true, laidLooks := .later }
def ScalarTellsUptoCardSaid : Prop := Claim7.holds Tryd.pinned (.plain (OpenSpec.upto scalarTellsSpec)) scalarTellsUptoCard

/-- THE SECOND FORM's CARD OF 'yashmaklaw05.ScalarLaws'. -/
def scalarLawsUptoCard : Claim7 := { stood := { row := scalarLawsUptoRow, standIns := [], harness := (true, "dd4d81d982ec93b8e72cfafb77694c6a41bef1de6c2cb4ce31c32a018bb55580"), looks := false }, kinds := [], alts := [], laidByText := true, laidKinds := [.data], laidTests := true, laidLooks := .later }
def ScalarLawsUptoCardSaid : Prop := Claim7.holds Tryd.pinned (.plain (OpenSpec.upto scalarLawsSpec)) scalarLawsUptoCard

/-- THE SECOND FORM's CARD OF 'yashmaklaw05.ScalarBack'. -/
def scalarBackUptoCard : Claim7 := { stood := { row := scalarBackUptoRow, standIns := [], harness := (true, "dd4d81d982ec93b8e72cfafb77694c6a41bef1de6c2cb4ce31c32a018bb55580"), looks := false }, kinds := [], alts := [], laidByText := true, laidKinds := [.data], laidTests := true, laidLooks := .later }
def ScalarBackUptoCardSaid : Prop := Claim7.holds Tryd.pinned (.plain (OpenSpec.upto scalarBackSpec)) scalarBackUptoCard

/-- THE SECOND FORM's CARD OF 'yashmaklaw05.ScalarNegs'. -/
def scalarNegsUptoCard : Claim7 := { stood := { row := scalarNegsUptoRow, standIns := [], harness := (true, "dd4d81d982ec93b8e72cfafb77694c6a41bef1de6c2cb4ce31c32a018bb55580"), looks := false }, kinds := [], alts := [], laidByText := true, laidKinds := [.data], laidTests := true, laidLooks := .later }
def ScalarNegsUptoCardSaid : Prop := Claim7.holds Tryd.pinned (.plain (OpenSpec.upto scalarNegsSpec)) scalarNegsUptoCard
end Rows
end Go.Proofs.YthhcjknkmdaeeaaDoor
