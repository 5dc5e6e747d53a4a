/-
  DERIVED. GIVEN WITH THE SEED: THE CARDS: each row of YtpibhbjmcmfnmaaGreatDoorRows.lean that lists a variable, with what it lists TIED to the program's text (the seventh form; the later family's looks); each row that meets fmt, with fmt's text TOLD by the authors' own Lean function (tested against real Go, not proved from fmt's source: count such statements apart). THE CARD IS WHAT COUNTS. Prove the row's statement (the work); the ties are given (YtpibhbjmcmfnmaaGreatDoorTie.lean); close each card by the builder's one call (the guide's Derived/Test/ToyasCard.lean, 'card_holds'). Laid BY PROGRAM, IN A SANDBOX (cutbox-door.mjs). By AI agents, Wed Nov 11 2026. No macro, syntax, notation, axiom, sorry.
-/
import Derived.Test.YtpibhbjmcmfnmaaGreatDoorRows
import GoSem.ClaimSeven
namespace Go.Proofs.YtpibhbjmcmfnmaaGreatDoor
namespace Rows

/-- THE TIED CARD OF 'stanzakeeplaw15.FileKeeps'. -/
def fileKeepsCard : Claim7 := { stood := { row := fileKeepsRow, standIns := [], harness := (true, "e5195b3aeaf4a0dbf84df0ffb818a624d2d1c206853cf612eaf5a4f6e4533d01"), looks := true }, kinds := [], alts := [], laidByText := true, laidKinds := [.data, .data, .data, .data, .handle, .sentinel, .sentinel, .pinned], laidTests := true, laidLooks := .later }
def FileKeepsCardSaid : Prop := Claim7.holds Tryz.pinned (.plain (OpenSpec.ofChange fileKeepsSpec)) fileKeepsCard

/-- THE TIED CARD OF 'stanzakeeplaw15.FileAgain'. -/
def fileAgainCard : Claim7 := { stood := { row := fileAgainRow, standIns := [], harness := (true, "e5195b3aeaf4a0dbf84df0ffb818a624d2d1c206853cf612eaf5a4f6e4533d01"), looks := true }, kinds := [], alts := [], laidByText := true, laidKinds := [.data, .data, .data, .data, .handle, .sentinel, .sentinel, .pinned], laidTests := true, laidLooks := .later }
def FileAgainCardSaid : Prop := Claim7.holds Tryz.pinned (.plain (OpenSpec.ofChange fileAgainSpec)) fileAgainCard

/-- THE TIED CARD OF 'stanzakeeplaw15.FileNames'. -/
def fileNamesCard : Claim7 := { stood := { row := fileNamesRow, standIns := [], harness := (true, "e5195b3aeaf4a0dbf84df0ffb818a624d2d1c206853cf612eaf5a4f6e4533d01"), looks := true }, kinds := [], alts := [], laidByText := true, laidKinds := [.data, .data, .data, .data, .handle, .sentinel, .sentinel, .pinned], laidTests := true, laidLooks := .later }
def FileNamesCardSaid : Prop := Claim7.holds Tryz.pinned (.plain (OpenSpec.ofChange fileNamesSpec)) fileNamesCard

/-- THE SECOND FORM's CARD OF 'stanzakeeplaw15.FileKeeps'. -/
def fileKeepsUptoCard : Claim7 := { stood := { row := fileKeepsUptoRow, standIns := [], harness := (true, "e5195b3aeaf4a0dbf84df0ffb818a624d2d1c206853cf612eaf5a4f6e4533d01"), looks := true }, kinds := [], alts := [], laidByText := true, laidKinds := [.data, .data, .data, .data, .handle, .sentinel, .sentinel, .pinned], laidTests := true, laidLooks := .later }
def FileKeepsUptoCardSaid : Prop := Claim7.holds Tryz.pinned (.plain (OpenSpec.upto fileKeepsSpec)) fileKeepsUptoCard

/-- THE SECOND FORM's CARD OF 'stanzakeeplaw15.FileAgain'. -/
def fileAgainUptoCard : Claim7 := { stood := { row := fileAgainUptoRow, standIns := [], harness := (true, "e5195b3aeaf4a0dbf84df0ffb818a624d2d1c206853cf612eaf5a4f6e4533d01"), looks := true }, kinds := [], alts := [], laidByText := true, laidKinds := [.data, .data, .data, .data, .handle, .sentinel, .sentinel, .pinned], laidTests := true, laidLooks := .later }
def FileAgainUptoCardSaid : Prop := Claim7.holds Tryz.pinned (.plain (OpenSpec.upto fileAgainSpec)) fileAgainUptoCard

/-- THE SECOND FORM's CARD OF 'stanzakeeplaw15.FileNames'. -/
def fileNamesUptoCard : Claim7 := { stood := { row := fileNamesUptoRow, standIns := [], harness := (true, "e5195b3aeaf4a0dbf84df0ffb818a624d2d1c206853cf612eaf5a4f6e4533d01"), looks := true }, kinds := [], alts := [], laidByText := true, laidKinds := [.data, .data, .data, .data, .handle, .sentinel, .sentinel, .pinned], laidTests := true, laidLooks := .later }
def FileNamesUptoCardSaid : Prop := Claim7.holds Tryz.pinned (.plain (OpenSpec.upto fileNamesSpec)) fileNamesUptoCard
end Rows
end Go.Proofs.YtpibhbjmcmfnmaaGreatDoor
