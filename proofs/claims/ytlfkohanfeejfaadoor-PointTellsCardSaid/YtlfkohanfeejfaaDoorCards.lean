/-
  DERIVED. GIVEN WITH THE SEED: THE CARDS: each row of YtlfkohanfeejfaaDoorRows.lean that lists a variable, with what it lists TIED to the program's text (the seventh form; the later family's looks); each row that meets fmt, with fmt's text TOLD by the authors' own Lean function (tested against real Go, not proved from fmt's source: count such statements apart). THE CARD IS WHAT COUNTS. Prove the row's statement (the work); the ties are given (YtlfkohanfeejfaaDoorTie.lean); close each card by the builder's one call (the guide's Derived/Test/ToyasCard.lean, 'card_holds'). Laid BY PROGRAM, IN A SANDBOX (cutbox-door.mjs). By AI agents, Wed Nov 11 2026. No macro, syntax, notation, axiom, sorry.
-/
import Derived.Test.YtlfkohanfeejfaaDoorRows
import GoSem.ClaimSeven
namespace Go.Proofs.YtlfkohanfeejfaaDoor
namespace Rows

/-- THE TIED CARD OF 'yashmaklaw07.PointTells'. -/
def pointTellsCard : Claim7 := { stood := { row := pointTellsRow, standIns := [], harness := (true, "1c59c72583cc027102a61f676f7b014ca79bce14c2ad7553847d9f18dfa2a591"), looks := false }, kinds := [], alts := [], laidByText := true, laidKinds := [.data, .data, .data, .data], laidTests := true, laidLooks := .later }
def PointTellsCardSaid : Prop := Claim7.holds Tryd.pinned (.plain (OpenSpec.ofChange pointTellsSpec)) pointTellsCard

/-- THE TIED CARD OF 'yashmaklaw07.PointBack'. -/
def pointBackCard : Claim7 := { stood := { row := pointBackRow, standIns := [], harness := (true, "1c59c72583cc027102a61f676f7b014ca79bce14c2ad7553847d9f18dfa2a591"), looks := false }, kinds := [], alts := [], laidByText := true, laidKinds := [.data, .data, .data, .data], laidTests := true, laidLooks := .later }
def PointBackCardSaid : Prop := Claim7.holds Tryd.pinned (.plain (OpenSpec.ofChange pointBackSpec)) pointBackCard

/-- THE TIED CARD OF 'yashmaklaw07.PointApart'. -/
def pointApartCard : Claim7 := { stood := { row := pointApartRow, standIns := [], harness := (true, "1c59c72583cc027102a61f676f7b014ca79bce14c2ad7553847d9f18dfa2a591"), looks := false }, kinds := [], alts := [], laidByText := true, laidKinds := [.data, .data, .data, .data], laidTests := true, laidLooks := .later }
def PointApartCardSaid : Prop := Claim7.holds Tryd.pinned (.plain (OpenSpec.ofChange pointApartSpec)) pointApartCard

/-- THE TIED CARD OF 'yashmaklaw07.PointTimes'. -/
def pointTimesCard : Claim7 := { stood := { row := pointTimesRow, standIns := [], harness := (true, "1c59c72583cc027102a61f676f7b014ca79bce14c2ad7553847d9f18dfa2a591"), looks := false }, kinds := [], alts := [], laidByText := true, laidKinds := [.data, .data, .data, .data], laidTests := true, laidLooks := .later }
def PointTimesCardSaid : Prop := Claim7.holds Tryd.pinned (.plain (OpenSpec.ofChange pointTimesSpec)) pointTimesCard

/-- THE SECOND FORM's CARD OF 'yashmaklaw07.PointTells'. -/
def pointTellsUptoCard : Claim7 := { stood := { row := pointTellsUptoRow, standIns := [], harness := (true, "1c59c72583cc027102a61f676f7b014ca79bce14c2ad7553847d9f18dfa2a591"), looks := false }, kinds := [], alts := [], laidByText := true, laidKinds := [.data, .data, .data, .data], laidTests := true, laidLooks := .later }
def PointTellsUptoCardSaid : Prop := Claim7.holds Tryd.pinned (.plain (OpenSpec.upto pointTellsSpec)) pointTellsUptoCard

/-- THE SECOND FORM's CARD OF 'yashmaklaw07.PointBack'. -/
def pointBackUptoCard : Claim7 := { stood := { row := pointBackUptoRow, standIns := [], harness := (true, "1c59c72583cc027102a61f676f7b014ca79bce14c2ad7553847d9f18dfa2a591"), looks := false }, kinds := [], alts := [], laidByText := true, laidKinds := [.data, .data, .data, .data], laidTests := true, laidLooks := .later }
def PointBackUptoCardSaid : Prop := Claim7.holds Tryd.pinned (.plain (OpenSpec.upto pointBackSpec)) pointBackUptoCard

/-- THE SECOND FORM's CARD OF 'yashmaklaw07.PointApart'. -/
def pointApartUptoCard : Claim7 := { stood := { row := pointApartUptoRow, standIns := [], harness := (true, "1c59c72583cc027102a61f676f7b014ca79bce14c2ad7553847d9f18dfa2a591"), looks := false }, kinds := [], alts := [], laidByText := true, laidKinds := [.data, .data, .data, .data], laidTests := true, laidLooks := .later }
def PointApartUptoCardSaid : Prop := Claim7.holds Tryd.pinned (.plain (OpenSpec.upto pointApartSpec)) pointApartUptoCard

/-- THE SECOND FORM's CARD OF 'yashmaklaw07.PointTimes'. -/
def pointTimesUptoCard : Claim7 := { stood := { row := pointTimesUptoRow, standIns := [], harness := (true, "1c59c72583cc027102a61f676f7b014ca79bce14c2ad7553847d9f18dfa2a591"), looks := false }, kinds := [], alts := [], laidByText := true, laidKinds := [.data, .data, .data, .data], laidTests := true, laidLooks := .later }
def PointTimesUptoCardSaid : Prop := Claim7.holds Tryd.pinned (.plain (OpenSpec.upto pointTimesSpec)) pointTimesUptoCard
end Rows
end Go.Proofs.YtlfkohanfeejfaaDoor
