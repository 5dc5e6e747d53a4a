/-
  DERIVED. GIVEN WITH THE SEED: THE CARDS: each row of YtgaooalckjjplaaGreatDoorRows.lean that lists a variable, with what it lists TIED to the program's text (the seventh form; the later family's looks); each row that meets fmt, with fmt's text TOLD by the authors' own Lean function (tested against real Go, not proved from fmt's source: count such statements apart). THE CARD IS WHAT COUNTS. Prove the row's statement (the work); the ties are given (YtgaooalckjjplaaGreatDoorTie.lean); close each card by the builder's one call (the guide's Derived/Test/ToyasCard.lean, 'card_holds'). Laid BY PROGRAM, IN A SANDBOX (cutbox-door.mjs). By AI agents, Wed Nov 11 2026. No macro, syntax, notation, axiom, sorry.
-/
import Derived.Test.YtgaooalckjjplaaGreatDoorRows
import GoSem.ClaimSeven
namespace Go.Proofs.YtgaooalckjjplaaGreatDoor
namespace Rows

/-- THE TIED CARD OF 'stanzakeeplaw09.EditBacks'. -/
def editBacksCard : Claim7 := { stood := { row := editBacksRow, standIns := [], harness := (true, "5a9b7d74f3beac61d5a5470cdba5eaeb03421bbb59c01fb6284d14c65ba2efd6"), looks := true }, kinds := [], alts := [], laidByText := true, laidKinds := [.data, .handle, .pinned], laidTests := true, laidLooks := .later }
def EditBacksCardSaid : Prop := Claim7.holds Tryz.pinned (.plain (OpenSpec.ofChange editBacksSpec)) editBacksCard

/-- THE TIED CARD OF 'stanzakeeplaw10.AmendDecodes'. -/
def amendDecodesCard : Claim7 := { stood := { row := amendDecodesRow, standIns := [], harness := (true, "5a9b7d74f3beac61d5a5470cdba5eaeb03421bbb59c01fb6284d14c65ba2efd6"), looks := true }, kinds := [], alts := [], laidByText := true, laidKinds := [.data, .data, .data, .data, .handle, .sentinel, .sentinel, .pinned], laidTests := true, laidLooks := .later }
def AmendDecodesCardSaid : Prop := Claim7.holds Tryz.pinned (.plain (OpenSpec.ofChange amendDecodesSpec)) amendDecodesCard

/-- THE TIED CARD OF 'stanzakeeplaw11.FrameAmends'. -/
def frameAmendsCard : Claim7 := { stood := { row := frameAmendsRow, standIns := [], harness := (true, "5a9b7d74f3beac61d5a5470cdba5eaeb03421bbb59c01fb6284d14c65ba2efd6"), looks := true }, kinds := [], alts := [], laidByText := true, laidKinds := [.data, .data, .data, .data, .handle, .sentinel, .sentinel, .pinned], laidTests := true, laidLooks := .later }
def FrameAmendsCardSaid : Prop := Claim7.holds Tryz.pinned (.plain (OpenSpec.ofChange frameAmendsSpec)) frameAmendsCard

/-- THE SECOND FORM's CARD OF 'stanzakeeplaw09.EditBacks'. -/
def editBacksUptoCard : Claim7 := { stood := { row := editBacksUptoRow, standIns := [], harness := (true, "5a9b7d74f3beac61d5a5470cdba5eaeb03421bbb59c01fb6284d14c65ba2efd6"), looks := true }, kinds := [], alts := [], laidByText := true, laidKinds := [.data, .handle, .pinned], laidTests := true, laidLooks := .later }
def EditBacksUptoCardSaid : Prop := Claim7.holds Tryz.pinned (.plain (OpenSpec.upto editBacksSpec)) editBacksUptoCard

/-- THE SECOND FORM's CARD OF 'stanzakeeplaw10.AmendDecodes'. -/
def amendDecodesUptoCard : Claim7 := { stood := { row := amendDecodesUptoRow, standIns := [], harness := (true, "5a9b7d74f3beac61d5a5470cdba5eaeb03421bbb59c01fb6284d14c65ba2efd6"), looks := true }, kinds := [], alts := [], laidByText := true, laidKinds := [.data, .data, .data, .data, .handle, .sentinel, .sentinel, .pinned], laidTests := true, laidLooks := .later }
def AmendDecodesUptoCardSaid : Prop := Claim7.holds Tryz.pinned (.plain (OpenSpec.upto amendDecodesSpec)) amendDecodesUptoCard

/-- THE SECOND FORM's CARD OF 'stanzakeeplaw11.FrameAmends'. -/
def frameAmendsUptoCard : Claim7 := { stood := { row := frameAmendsUptoRow, standIns := [], harness := (true, "5a9b7d74f3beac61d5a5470cdba5eaeb03421bbb59c01fb6284d14c65ba2efd6"), looks := true }, kinds := [], alts := [], laidByText := true, laidKinds := [.data, .data, .data, .data, .handle, .sentinel, .sentinel, .pinned], laidTests := true, laidLooks := .later }
def FrameAmendsUptoCardSaid : Prop := Claim7.holds Tryz.pinned (.plain (OpenSpec.upto frameAmendsSpec)) frameAmendsUptoCard
end Rows
end Go.Proofs.YtgaooalckjjplaaGreatDoor
