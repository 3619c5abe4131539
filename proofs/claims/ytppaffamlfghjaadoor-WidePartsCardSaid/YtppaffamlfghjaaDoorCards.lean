/-
  DERIVED. GIVEN WITH THE SEED: THE CARDS: each row of YtppaffamlfghjaaDoorRows.lean that lists a variable, with what it lists TIED to the program's text (the seventh form; the later family's looks); each row that meets fmt, with fmt's text TOLD by the authors' own Lean function (tested against real Go, not proved from fmt's source: count such statements apart). THE CARD IS WHAT COUNTS. Prove the row's statement (the work); the ties are given (YtppaffamlfghjaaDoorTie.lean); close each card by the builder's one call (the guide's Derived/Test/ToyasCard.lean, 'card_holds'). Laid BY PROGRAM, IN A SANDBOX (cutbox-door.mjs). By AI agents, Wed Nov 11 2026. No macro, syntax, notation, axiom, sorry.
-/
import Derived.Test.YtppaffamlfghjaaDoorRows
import GoSem.ClaimSeven
namespace Go.Proofs.YtppaffamlfghjaaDoor
namespace Rows

/-- THE TIED CARD OF 'yashmaklaw02.ShaTells'. -/
def shaTellsCard : Claim7 := { stood := { row := shaTellsRow, standIns := [], harness := (true, "dbd13bbf12ea53a7a518aadfeef294e664f8e798a744640d54fbc3820d8f89c4"), looks := false }, kinds := [], alts := [], laidByText := true, laidKinds := [.data, .data], laidTests := true, laidLooks := .later }
def ShaTellsCardSaid : Prop := Claim7.holds Tryd.pinned (.plain (OpenSpec.ofChange shaTellsSpec)) shaTellsCard

/-- THE TIED CARD OF 'yashmaklaw02.ShaParts'. -/
def shaPartsCard : Claim7 := { stood := { row := shaPartsRow, standIns := [], harness := (true, "dbd13bbf12ea53a7a518aadfeef294e664f8e798a744640d54fbc3820d8f89c4"), looks := false }, kinds := [], alts := [], laidByText := true, laidKinds := [.data, .data], laidTests := true, laidLooks := .later }
def ShaPartsCardSaid : Prop := Claim7.holds Tryd.pinned (.plain (OpenSpec.ofChange shaPartsSpec)) shaPartsCard

/-- THE TIED CARD OF 'yashmaklaw02.ShaBlocks'. -/
def shaBlocksCard : Claim7 := { stood := { row := shaBlocksRow, standIns := [], harness := (true, "dbd13bbf12ea53a7a518aadfeef294e664f8e798a744640d54fbc3820d8f89c4"), looks := false }, kinds := [], alts := [], laidByText := true, laidKinds := [.data, .data], laidTests := true, laidLooks := .later }
def ShaBlocksCardSaid : Prop := Claim7.holds Tryd.pinned (.plain (OpenSpec.ofChange shaBlocksSpec)) shaBlocksCard

/-- THE TIED CARD OF 'yashmaklaw02.ShaNothing'. -/
def shaNothingCard : Claim7 := { stood := { row := shaNothingRow, standIns := [], harness := (true, "dbd13bbf12ea53a7a518aadfeef294e664f8e798a744640d54fbc3820d8f89c4"), looks := false }, kinds := [], alts := [], laidByText := true, laidKinds := [.data, .data], laidTests := true, laidLooks := .later }
def ShaNothingCardSaid : Prop := Claim7.holds Tryd.pinned (.plain (OpenSpec.ofChange shaNothingSpec)) shaNothingCard

/-- THE TIED CARD OF 'yashmaklaw03.WideTells'. -/
def wideTellsCard : Claim7 := { stood := { row := wideTellsRow, standIns := [], harness := (true, "dbd13bbf12ea53a7a518aadfeef294e664f8e798a744640d54fbc3820d8f89c4"), looks := false }, kinds := [], alts := [], laidByText := true, laidKinds := [.data, .data], laidTests := true, laidLooks := .later }
def WideTellsCardSaid : Prop := Claim7.holds Tryd.pinned (.plain (OpenSpec.ofChange wideTellsSpec)) wideTellsCard

/-- THE TIED CARD OF 'yashmaklaw03.WideParts'. -/
def widePartsCard : Claim7 := { stood := { row := widePartsRow, standIns := [], harness := (true, "dbd13bbf12ea53a7a518aadfeef294e664f8e798a744640d54fbc3820d8f89c4"), looks := false }, kinds := [], alts := [], laidByText := true, laidKinds := [.data, .data], laidTests := true, laidLooks := .later }
def WidePartsCardSaid : Prop := Claim7.holds Tryd.pinned (.plain (OpenSpec.ofChange widePartsSpec)) widePartsCard

/-- THE TIED CARD OF 'yashmaklaw03.WideBlocks'. -/
def wideBlocksCard : Claim7 := { stood := { row := wideBlocksRow, standIns := [], harness := (true, "dbd13bbf12ea53a7a518aadfeef294e664f8e798a744640d54fbc3820d8f89c4"), looks := false }, kinds := [], alts := [], laidByText := true, laidKinds := [.data, .data], laidTests := true, laidLooks := .later }
def WideBlocksCardSaid : Prop := Claim7.holds Tryd.pinned (.plain (OpenSpec.ofChange wideBlocksSpec)) wideBlocksCard

/-- THE TIED CARD OF 'yashmaklaw03.WideNothing'. -/
def wideNothingCard : Claim7 := { stood := { row := wideNothingRow, standIns := [], harness := (true, "dbd13bbf12ea53a7a518aadfeef294e664f8e798a744640d54fbc3820d8f89c4"), looks := false }, kinds := [], alts := [], laidByText := true, laidKinds := [.data, .data], laidTests := true, laidLooks := .later }
def WideNothingCardSaid : Prop := Claim7.holds Tryd.pinned (.plain (OpenSpec.ofChange wideNothingSpec)) wideNothingCard

/-- THE SECOND FORM's CARD OF 'yashmaklaw02.ShaTells'. -/
def shaTellsUptoCard : Claim7 := { stood := { row := shaTellsUptoRow, standIns := [], harness := (true, "dbd13bbf12ea53a7a518aadfeef294e664f8e798a744640d54fbc3820d8f89c4"), looks := false }, kinds := [], alts := [], laidByText := true, laidKinds := [.data, .data], laidTests := true, laidLooks := .later }
def ShaTellsUptoCardSaid : Prop := Claim7.holds Tryd.pinned (.plain (OpenSpec.upto shaTellsSpec)) shaTellsUptoCard

/-- THE SECOND FORM's CARD OF 'yashmaklaw02.ShaParts'. -/
def shaPartsUptoCard : Claim7 := { stood := { row := shaPartsUptoRow, standIns := [], harness := (true, "dbd13bbf12ea53a7a518aadfeef294e664f8e798a744640d54fbc3820d8f89c4"), looks := false }, kinds := [], alts := [], laidByText := true, laidKinds := [.data, .data], laidTests := true, laidLooks := .later }
def ShaPartsUptoCardSaid : Prop := Claim7.holds Tryd.pinned (.plain (OpenSpec.upto shaPartsSpec)) shaPartsUptoCard

/-- THE SECOND FORM's CARD OF 'yashmaklaw02.ShaBlocks'. -/
def shaBlocksUptoCard : Claim7 := { stood := { row := shaBlocksUptoRow, standIns := [], harness := (true, "dbd13bbf12ea53a7a518aadfeef294e664f8e798a744640d54fbc3820d8f89c4"), looks := false }, kinds := [], alts := [], laidByText := true, laidKinds := [.data, .data], laidTests := true, laidLooks := .later }
def ShaBlocksUptoCardSaid : Prop := Claim7.holds Tryd.pinned (.plain (OpenSpec.upto shaBlocksSpec)) shaBlocksUptoCard

/-- THE SECOND FORM's CARD OF 'yashmaklaw02.ShaNothing'. -/
def shaNothingUptoCard : Claim7 := { stood := { row := shaNothingUptoRow, standIns := [], harness := (true, "dbd13bbf12ea53a7a518aadfeef294e664f8e798a744640d54fbc3820d8f89c4"), looks := false }, kinds := [], alts := [], laidByText := true, laidKinds := [.data, .data], laidTests := true, laidLooks := .later }
def ShaNothingUptoCardSaid : Prop := Claim7.holds Tryd.pinned (.plain (OpenSpec.upto shaNothingSpec)) shaNothingUptoCard

/-- THE SECOND FORM's CARD OF 'yashmaklaw03.WideTells'. -/
def wideTellsUptoCard : Claim7 := { stood := { row := wideTellsUptoRow, standIns := [], harness := (true, "dbd13bbf12ea53a7a518aadfeef294e664f8e798a744640d54fbc3820d8f89c4"), looks := false }, kinds := [], alts := [], laidByText := true, laidKinds := [.data, .data], laidTests := true, laidLooks := .later }
def WideTellsUptoCardSaid : Prop := Claim7.holds Tryd.pinned (.plain (OpenSpec.upto wideTellsSpec)) wideTellsUptoCard

/-- THE SECOND FORM's CARD OF 'yashmaklaw03.WideParts'. -/
def widePartsUptoCard : Claim7 := { stood := { row := widePartsUptoRow, standIns := [], harness := (true, "dbd13bbf12ea53a7a518aadfeef294e664f8e798a744640d54fbc3820d8f89c4"), looks := false }, kinds := [], alts := [], laidByText := true, laidKinds := [.data, .data], laidTests := true, laidLooks := .later }
def WidePartsUptoCardSaid : Prop := Claim7.holds Tryd.pinned (.plain (OpenSpec.upto widePartsSpec)) widePartsUptoCard

/-- THE SECOND FORM's CARD OF 'yashmaklaw03.WideBlocks'. -/
def wideBlocksUptoCard : Claim7 := { stood := { row := wideBlocksUptoRow, standIns := [], harness := (true, "dbd13bbf12ea53a7a518aadfeef294e664f8e798a744640d54fbc3820d8f89c4"), looks := false }, kinds := [], alts := [], laidByText := true, laidKinds := [.data, .data], laidTests := true, laidLooks := .later }
def WideBlocksUptoCardSaid : Prop := Claim7.holds Tryd.pinned (.plain (OpenSpec.upto wideBlocksSpec)) wideBlocksUptoCard

/-- THE SECOND FORM's CARD OF 'yashmaklaw03.WideNothing'. -/
def wideNothingUptoCard : Claim7 := { stood := { row := wideNothingUptoRow, standIns := [], harness := (true, "dbd13bbf12ea53a7a518aadfeef294e664f8e798a744640d54fbc3820d8f89c4"), looks := false }, kinds := [], alts := [], laidByText := true, laidKinds := [.data, .data], laidTests := true, laidLooks := .later }
def WideNothingUptoCardSaid : Prop := Claim7.holds Tryd.pinned (.plain (OpenSpec.upto wideNothingSpec)) wideNothingUptoCard
end Rows
end Go.Proofs.YtppaffamlfghjaaDoor
