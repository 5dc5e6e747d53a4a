/-
  DERIVED. GIVEN WITH THE SEED: THE CARDS: each row of YtkcklnnmcmjnjaaGreatDoorRows.lean that lists a variable, with what it lists TIED to the program's text (the seventh form; the later family's looks); each row that meets fmt, with fmt's text TOLD by the authors' own Lean function (tested against real Go, not proved from fmt's source: count such statements apart). THE CARD IS WHAT COUNTS. Prove the row's statement (the work); the ties are given (YtkcklnnmcmjnjaaGreatDoorTie.lean); close each card by the builder's one call (the guide's Derived/Test/ToyasCard.lean, 'card_holds'). Laid BY PROGRAM, IN A SANDBOX (cutbox-door.mjs). By AI agents, Wed Nov 11 2026. No macro, syntax, notation, axiom, sorry.
-/
import Derived.Test.YtkcklnnmcmjnjaaGreatDoorRows
import GoSem.ClaimSeven
namespace Go.Proofs.YtkcklnnmcmjnjaaGreatDoor
namespace Rows

/-- THE TIED CARD OF 'stanzakeeplaw09.EditChecks'. -/
def editChecksCard : Claim7 := { stood := { row := editChecksRow, standIns := [], harness := (true, "b663c89fc078b7bc03bbc01c425e3dad4c02864999e61e57d1dea4037c8e34cb"), looks := true }, kinds := [], alts := [], laidByText := true, laidKinds := [.data, .handle, .pinned], laidTests := true, laidLooks := .later }
def EditChecksCardSaid : Prop := Claim7.holds Tryz.pinned (.plain (OpenSpec.ofChange editChecksSpec)) editChecksCard

/-- THE TIED CARD OF 'stanzakeeplaw09.EditBacks'. -/
def editBacksCard : Claim7 := { stood := { row := editBacksRow, standIns := [], harness := (true, "b663c89fc078b7bc03bbc01c425e3dad4c02864999e61e57d1dea4037c8e34cb"), looks := true }, kinds := [], alts := [], laidByText := true, laidKinds := [.data, .handle, .pinned], laidTests := true, laidLooks := .later }
def EditBacksCardSaid : Prop := Claim7.holds Tryz.pinned (.plain (OpenSpec.ofChange editBacksSpec)) editBacksCard

/-- THE TIED CARD OF 'stanzakeeplaw10.AmendEncodes'. -/
def amendEncodesCard : Claim7 := { stood := { row := amendEncodesRow, standIns := [], harness := (true, "b663c89fc078b7bc03bbc01c425e3dad4c02864999e61e57d1dea4037c8e34cb"), looks := true }, kinds := [], alts := [], laidByText := true, laidKinds := [.data, .data, .data, .data, .handle, .sentinel, .sentinel, .pinned], laidTests := true, laidLooks := .later }
def AmendEncodesCardSaid : Prop := Claim7.holds Tryz.pinned (.plain (OpenSpec.ofChange amendEncodesSpec)) amendEncodesCard

/-- THE TIED CARD OF 'stanzakeeplaw10.AmendDecodes'. -/
def amendDecodesCard : Claim7 := { stood := { row := amendDecodesRow, standIns := [], harness := (true, "b663c89fc078b7bc03bbc01c425e3dad4c02864999e61e57d1dea4037c8e34cb"), looks := true }, kinds := [], alts := [], laidByText := true, laidKinds := [.data, .data, .data, .data, .handle, .sentinel, .sentinel, .pinned], laidTests := true, laidLooks := .later }
def AmendDecodesCardSaid : Prop := Claim7.holds Tryz.pinned (.plain (OpenSpec.ofChange amendDecodesSpec)) amendDecodesCard

/-- THE TIED CARD OF 'stanzakeeplaw10.AmendLines'. -/
def amendLinesCard : Claim7 := { stood := { row := amendLinesRow, standIns := [], harness := (true, "b663c89fc078b7bc03bbc01c425e3dad4c02864999e61e57d1dea4037c8e34cb"), looks := true }, kinds := [], alts := [], laidByText := true, laidKinds := [.data, .data, .data, .data, .handle, .sentinel, .sentinel, .pinned], laidTests := true, laidLooks := .later }
def AmendLinesCardSaid : Prop := Claim7.holds Tryz.pinned (.plain (OpenSpec.ofChange amendLinesSpec)) amendLinesCard

/-- THE TIED CARD OF 'stanzakeeplaw10.AmendCuts'. -/
def amendCutsCard : Claim7 := { stood := { row := amendCutsRow, standIns := [], harness := (true, "b663c89fc078b7bc03bbc01c425e3dad4c02864999e61e57d1dea4037c8e34cb"), looks := true }, kinds := [], alts := [], laidByText := true, laidKinds := [.data, .data, .data, .data, .handle, .sentinel, .sentinel, .pinned], laidTests := true, laidLooks := .later }
def AmendCutsCardSaid : Prop := Claim7.holds Tryz.pinned (.plain (OpenSpec.ofChange amendCutsSpec)) amendCutsCard

/-- THE SECOND FORM's CARD OF 'stanzakeeplaw09.EditChecks'. -/
def editChecksUptoCard : Claim7 := { stood := { row := editChecksUptoRow, standIns := [], harness := (true, "b663c89fc078b7bc03bbc01c425e3dad4c02864999e61e57d1dea4037c8e34cb"), looks := true }, kinds := [], alts := [], laidByText := true, laidKinds := [.data, .handle, .pinned], laidTests := true, laidLooks := .later }
def EditChecksUptoCardSaid : Prop := Claim7.holds Tryz.pinned (.plain (OpenSpec.upto editChecksSpec)) editChecksUptoCard

/-- THE SECOND FORM's CARD OF 'stanzakeeplaw09.EditBacks'. -/
def editBacksUptoCard : Claim7 := { stood := { row := editBacksUptoRow, standIns := [], harness := (true, "b663c89fc078b7bc03bbc01c425e3dad4c02864999e61e57d1dea4037c8e34cb"), looks := true }, kinds := [], alts := [], laidByText := true, laidKinds := [.data, .handle, .pinned], laidTests := true, laidLooks := .later }
def EditBacksUptoCardSaid : Prop := Claim7.holds Tryz.pinned (.plain (OpenSpec.upto editBacksSpec)) editBacksUptoCard

/-- THE SECOND FORM's CARD OF 'stanzakeeplaw10.AmendEncodes'. -/
def amendEncodesUptoCard : Claim7 := { stood := { row := amendEncodesUptoRow, standIns := [], harness := (true, "b663c89fc078b7bc03bbc01c425e3dad4c02864999e61e57d1dea4037c8e34cb"), looks := true }, kinds := [], alts := [], laidByText := true, laidKinds := [.data, .data, .data, .data, .handle, .sentinel, .sentinel, .pinned], laidTests := true, laidLooks := .later }
def AmendEncodesUptoCardSaid : Prop := Claim7.holds Tryz.pinned (.plain (OpenSpec.upto amendEncodesSpec)) amendEncodesUptoCard

/-- THE SECOND FORM's CARD OF 'stanzakeeplaw10.AmendDecodes'. -/
def amendDecodesUptoCard : Claim7 := { stood := { row := amendDecodesUptoRow, standIns := [], harness := (true, "b663c89fc078b7bc03bbc01c425e3dad4c02864999e61e57d1dea4037c8e34cb"), looks := true }, kinds := [], alts := [], laidByText := true, laidKinds := [.data, .data, .data, .data, .handle, .sentinel, .sentinel, .pinned], laidTests := true, laidLooks := .later }
def AmendDecodesUptoCardSaid : Prop := Claim7.holds Tryz.pinned (.plain (OpenSpec.upto amendDecodesSpec)) amendDecodesUptoCard

/-- THE SECOND FORM's CARD OF 'stanzakeeplaw10.AmendLines'. -/
def amendLinesUptoCard : Claim7 := { stood := { row := amendLinesUptoRow, standIns := [], harness := (true, "b663c89fc078b7bc03bbc01c425e3dad4c02864999e61e57d1dea4037c8e34cb"), looks := true }, kinds := [], alts := [], laidByText := true, laidKinds := [.data, .data, .data, .data, .handle, .sentinel, .sentinel, .pinned], laidTests := true, laidLooks := .later }
def AmendLinesUptoCardSaid : Prop := Claim7.holds Tryz.pinned (.plain (OpenSpec.upto amendLinesSpec)) amendLinesUptoCard

/-- THE SECOND FORM's CARD OF 'stanzakeeplaw10.AmendCuts'. -/
def amendCutsUptoCard : Claim7 := { stood := { row := amendCutsUptoRow, standIns := [], harness := (true, "b663c89fc078b7bc03bbc01c425e3dad4c02864999e61e57d1dea4037c8e34cb"), looks := true }, kinds := [], alts := [], laidByText := true, laidKinds := [.data, .data, .data, .data, .handle, .sentinel, .sentinel, .pinned], laidTests := true, laidLooks := .later }
def AmendCutsUptoCardSaid : Prop := Claim7.holds Tryz.pinned (.plain (OpenSpec.upto amendCutsSpec)) amendCutsUptoCard
end Rows
end Go.Proofs.YtkcklnnmcmjnjaaGreatDoor
