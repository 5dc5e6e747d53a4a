/-
  DERIVED. GIVEN WITH THE SEED: THE CARDS: each row of YtfjklpgmnakcaaaGreatDoorRows.lean that lists a variable, with what it lists TIED to the program's text (the seventh form; the later family's looks); each row that meets fmt, with fmt's text TOLD by the authors' own Lean function (tested against real Go, not proved from fmt's source: count such statements apart). THE CARD IS WHAT COUNTS. Prove the row's statement (the work); the ties are given (YtfjklpgmnakcaaaGreatDoorTie.lean); close each card by the builder's one call (the guide's Derived/Test/ToyasCard.lean, 'card_holds'). Laid BY PROGRAM, IN A SANDBOX (cutbox-door.mjs). By AI agents, Wed Nov 11 2026. No macro, syntax, notation, axiom, sorry.
-/
import Derived.Test.YtfjklpgmnakcaaaGreatDoorRows
import GoSem.ClaimSeven
namespace Go.Proofs.YtfjklpgmnakcaaaGreatDoor
namespace Rows

/-- THE TIED CARD OF 'stanzakeeplaw09.EditBacks'. -/
def editBacksCard : Claim7 := { stood := { row := editBacksRow, standIns := [], harness := (true, "3ccbc21508e24326a2ea4745c3b874e1649d3840fd614a8b9731c20f44092816"), looks := true }, kinds := [], alts := [], laidByText := true, laidKinds := [.data, .handle, .pinned], laidTests := true, laidLooks := .later }
def EditBacksCardSaid : Prop := Claim7.holds Tryz.pinned (.plain (OpenSpec.ofChange editBacksSpec)) editBacksCard

/-- THE SECOND FORM's CARD OF 'stanzakeeplaw09.EditBacks'. -/
def editBacksUptoCard : Claim7 := { stood := { row := editBacksUptoRow, standIns := [], harness := (true, "3ccbc21508e24326a2ea4745c3b874e1649d3840fd614a8b9731c20f44092816"), looks := true }, kinds := [], alts := [], laidByText := true, laidKinds := [.data, .handle, .pinned], laidTests := true, laidLooks := .later }
def EditBacksUptoCardSaid : Prop := Claim7.holds Tryz.pinned (.plain (OpenSpec.upto editBacksSpec)) editBacksUptoCard
end Rows
end Go.Proofs.YtfjklpgmnakcaaaGreatDoor
