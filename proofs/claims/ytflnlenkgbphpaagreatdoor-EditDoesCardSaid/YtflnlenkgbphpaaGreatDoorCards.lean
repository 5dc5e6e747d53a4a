/-
  DERIVED. GIVEN WITH THE SEED: THE CARDS: each row of YtflnlenkgbphpaaGreatDoorRows.lean that lists a variable, with what it lists TIED to the program's text (the seventh form; the later family's looks); each row that meets fmt, with fmt's text TOLD by the authors' own Lean function (tested against real Go, not proved from fmt's source: count such statements apart). THE CARD IS WHAT COUNTS. Prove the row's statement (the work); the ties are given (YtflnlenkgbphpaaGreatDoorTie.lean); close each card by the builder's one call (the guide's Derived/Test/ToyasCard.lean, 'card_holds'). Laid BY PROGRAM, IN A SANDBOX (cutbox-door.mjs). By AI agents, Wed Nov 11 2026. No macro, syntax, notation, axiom, sorry.
-/
import Derived.Test.YtflnlenkgbphpaaGreatDoorRows
import GoSem.ClaimSeven
namespace Go.Proofs.YtflnlenkgbphpaaGreatDoor
namespace Rows

/-- THE TIED CARD OF 'stanzakeeplaw09.EditChecks'. -/
def editChecksCard : Claim7 := { stood := { row := editChecksRow, standIns := [], harness := (true, "abbb90d1cdf576ecbe6ac3dae2eba3535ab7a8b63189093b6591a4f80a70e4fb"), looks := true }, kinds := [], alts := [], laidByText := true, laidKinds := [.data, .handle, .pinned], laidTests := true, laidLooks := .later }
def EditChecksCardSaid : Prop := Claim7.holds Tryz.pinned (.plain (OpenSpec.ofChange editChecksSpec)) editChecksCard

/-- THE TIED CARD OF 'stanzakeeplaw09.EditDoes'. -/
def editDoesCard : Claim7 := { stood := { row := editDoesRow, standIns := [], harness := (true, "abbb90d1cdf576ecbe6ac3dae2eba3535ab7a8b63189093b6591a4f80a70e4fb"), looks := true }, kinds := [], alts := [], laidByText := true, laidKinds := [.data, .handle, .pinned], laidTests := true, laidLooks := .later }
def EditDoesCardSaid : Prop := Claim7.holds Tryz.pinned (.plain (OpenSpec.ofChange editDoesSpec)) editDoesCard

/-- THE TIED CARD OF 'stanzakeeplaw09.EditBacks'. -/
def editBacksCard : Claim7 := { stood := { row := editBacksRow, standIns := [], harness := (true, "abbb90d1cdf576ecbe6ac3dae2eba3535ab7a8b63189093b6591a4f80a70e4fb"), looks := true }, kinds := [], alts := [], laidByText := true, laidKinds := [.data, .handle, .pinned], laidTests := true, laidLooks := .later }
def EditBacksCardSaid : Prop := Claim7.holds Tryz.pinned (.plain (OpenSpec.ofChange editBacksSpec)) editBacksCard

/-- THE TIED CARD OF 'stanzakeeplaw09.EditTwo'. -/
def editTwoCard : Claim7 := { stood := { row := editTwoRow, standIns := [], harness := (true, "abbb90d1cdf576ecbe6ac3dae2eba3535ab7a8b63189093b6591a4f80a70e4fb"), looks := true }, kinds := [], alts := [], laidByText := true, laidKinds := [.data, .handle, .pinned], laidTests := true, laidLooks := .later }
def EditTwoCardSaid : Prop := Claim7.holds Tryz.pinned (.plain (OpenSpec.ofChange editTwoSpec)) editTwoCard

/-- THE TIED CARD OF 'stanzakeeplaw09.EditNone'. -/
def editNoneCard : Claim7 := { stood := { row := editNoneRow, standIns := [], harness := (true, "abbb90d1cdf576ecbe6ac3dae2eba3535ab7a8b63189093b6591a4f80a70e4fb"), looks := true }, kinds := [], alts := [], laidByText := true, laidKinds := [.data, .handle, .pinned], laidTests := true, laidLooks := .later }
def EditNoneCardSaid : Prop := Claim7.holds Tryz.pinned (.plain (OpenSpec.ofChange editNoneSpec)) editNoneCard

/-- THE SECOND FORM's CARD OF 'stanzakeeplaw09.EditChecks'. -/
def editChecksUptoCard : Claim7 := { stood := { row := editChecksUptoRow, standIns := [], harness := (true, "abbb90d1cdf576ecbe6ac3dae2eba3535ab7a8b63189093b6591a4f80a70e4fb"), looks := true }, kinds := [], alts := [], laidByText := true, laidKinds := [.data, .handle, .pinned], laidTests := true, laidLooks := .later }
def EditChecksUptoCardSaid : Prop := Claim7.holds Tryz.pinned (.plain (OpenSpec.upto editChecksSpec)) editChecksUptoCard

/-- THE SECOND FORM's CARD OF 'stanzakeeplaw09.EditDoes'. -/
def editDoesUptoCard : Claim7 := { stood := { row := editDoesUptoRow, standIns := [], harness := (true, "abbb90d1cdf576ecbe6ac3dae2eba3535ab7a8b63189093b6591a4f80a70e4fb"), looks := true }, kinds := [], alts := [], laidByText := true, laidKinds := [.data, .handle, .pinned], laidTests := true, laidLooks := .later }
def EditDoesUptoCardSaid : Prop := Claim7.holds Tryz.pinned (.plain (OpenSpec.upto editDoesSpec)) editDoesUptoCard

/-- THE SECOND FORM's CARD OF 'stanzakeeplaw09.EditBacks'. -/
def editBacksUptoCard : Claim7 := { stood := { row := editBacksUptoRow, standIns := [], harness := (true, "abbb90d1cdf576ecbe6ac3dae2eba3535ab7a8b63189093b6591a4f80a70e4fb"), looks := true }, kinds := [], alts := [], laidByText := true, laidKinds := [.data, .handle, .pinned], laidTests := true, laidLooks := .later }
def EditBacksUptoCardSaid : Prop := Claim7.holds Tryz.pinned (.plain (OpenSpec.upto editBacksSpec)) editBacksUptoCard

/-- THE SECOND FORM's CARD OF 'stanzakeeplaw09.EditTwo'. -/
def editTwoUptoCard : Claim7 := { stood := { row := editTwoUptoRow, standIns := [], harness := (true, "abbb90d1cdf576ecbe6ac3dae2eba3535ab7a8b63189093b6591a4f80a70e4fb"), looks := true }, kinds := [], alts := [], laidByText := true, laidKinds := [.data, .handle, .pinned], laidTests := true, laidLooks := .later }
def EditTwoUptoCardSaid : Prop := Claim7.holds Tryz.pinned (.plain (OpenSpec.upto editTwoSpec)) editTwoUptoCard

/-- THE SECOND FORM's CARD OF 'stanzakeeplaw09.EditNone'. -/
def editNoneUptoCard : Claim7 := { stood := { row := editNoneUptoRow, standIns := [], harness := (true, "abbb90d1cdf576ecbe6ac3dae2eba3535ab7a8b63189093b6591a4f80a70e4fb"), looks := true }, kinds := [], alts := [], laidByText := true, laidKinds := [.data, .handle, .pinned], laidTests := true, laidLooks := .later }
def EditNoneUptoCardSaid : Prop := Claim7.holds Tryz.pinned (.plain (OpenSpec.upto editNoneSpec)) editNoneUptoCard
end Rows
end Go.Proofs.YtflnlenkgbphpaaGreatDoor
