/-
  DERIVED. GIVEN WITH THE SEED: THE CARDS: each row of YtbapfpekklcicaaGreatDoorRows.lean that lists a variable, with what it lists TIED to the program's text (the seventh form; the later family's looks); each row that meets fmt, with fmt's text TOLD by the authors' own Lean function (tested against real Go, not proved from fmt's source: count such statements apart). THE CARD IS WHAT COUNTS. Prove the row's statement (the work); the ties are given (YtbapfpekklcicaaGreatDoorTie.lean); close each card by the builder's one call (the guide's Derived/Test/ToyasCard.lean, 'card_holds'). Laid BY PROGRAM, IN A SANDBOX (cutbox-door.mjs). By AI agents, Wed Nov 11 2026. No macro, syntax, notation, axiom, sorry.
-/
import Derived.Test.YtbapfpekklcicaaGreatDoorRows
import GoSem.ClaimSeven
namespace Go.Proofs.YtbapfpekklcicaaGreatDoor
namespace Rows

/-- THE TIED CARD OF 'stanzakeeplaw14.ReplayBooks'. -/
def replayBooksCard : Claim7 := { stood := { row := replayBooksRow, standIns := [], harness := (true, "c1c12579b343533890a49a55f1a9f163145de21f6d948fb13798bbf1aa8f3747"), looks := true }, kinds := [], alts := [], laidByText := true, laidKinds := [.data, .data, .data, .data, .handle, .sentinel, .sentinel, .pinned], laidTests := true, laidLooks := .later }
def ReplayBooksCardSaid : Prop := Claim7.holds Tryz.pinned (.plain (OpenSpec.ofChange replayBooksSpec)) replayBooksCard

/-- THE TIED CARD OF 'stanzakeeplaw14.ReplayTexts'. -/
def replayTextsCard : Claim7 := { stood := { row := replayTextsRow, standIns := [], harness := (true, "c1c12579b343533890a49a55f1a9f163145de21f6d948fb13798bbf1aa8f3747"), looks := true }, kinds := [], alts := [], laidByText := true, laidKinds := [.data, .data, .data, .data, .handle, .sentinel, .sentinel, .pinned], laidTests := true, laidLooks := .later }
def ReplayTextsCardSaid : Prop := Claim7.holds Tryz.pinned (.plain (OpenSpec.ofChange replayTextsSpec)) replayTextsCard

/-- THE TIED CARD OF 'stanzakeeplaw14.ReplayBase'. -/
def replayBaseCard : Claim7 := { stood := { row := replayBaseRow, standIns := [], harness := (true, "c1c12579b343533890a49a55f1a9f163145de21f6d948fb13798bbf1aa8f3747"), looks := true }, kinds := [], alts := [], laidByText := true, laidKinds := [.data, .data, .data, .data, .handle, .sentinel, .sentinel, .pinned], laidTests := true, laidLooks := .later }
def ReplayBaseCardSaid : Prop := Claim7.holds Tryz.pinned (.plain (OpenSpec.ofChange replayBaseSpec)) replayBaseCard

/-- THE SECOND FORM's CARD OF 'stanzakeeplaw14.ReplayBooks'. -/
def replayBooksUptoCard : Claim7 := { stood := { row := replayBooksUptoRow, standIns := [], harness := (true, "c1c12579b343533890a49a55f1a9f163145de21f6d948fb13798bbf1aa8f3747"), looks := true }, kinds := [], alts := [], laidByText := true, laidKinds := [.data, .data, .data, .data, .handle, .sentinel, .sentinel, .pinned], laidTests := true, laidLooks := .later }
def ReplayBooksUptoCardSaid : Prop := Claim7.holds Tryz.pinned (.plain (OpenSpec.upto replayBooksSpec)) replayBooksUptoCard

/-- THE SECOND FORM's CARD OF 'stanzakeeplaw14.ReplayTexts'. -/
def replayTextsUptoCard : Claim7 := { stood := { row := replayTextsUptoRow, standIns := [], harness := (true, "c1c12579b343533890a49a55f1a9f163145de21f6d948fb13798bbf1aa8f3747"), looks := true }, kinds := [], alts := [], laidByText := true, laidKinds := [.data, .data, .data, .data, .handle, .sentinel, .sentinel, .pinned], laidTests := true, laidLooks := .later }
def ReplayTextsUptoCardSaid : Prop := Claim7.holds Tryz.pinned (.plain (OpenSpec.upto replayTextsSpec)) replayTextsUptoCard

/-- THE SECOND FORM's CARD OF 'stanzakeeplaw14.ReplayBase'. -/
def replayBaseUptoCard : Claim7 := { stood := { row := replayBaseUptoRow, standIns := [], harness := (true, "c1c12579b343533890a49a55f1a9f163145de21f6d948fb13798bbf1aa8f3747"), looks := true }, kinds := [], alts := [], laidByText := true, laidKinds := [.data, .data, .data, .data, .handle, .sentinel, .sentinel, .pinned], laidTests := true, laidLooks := .later }
def ReplayBaseUptoCardSaid : Prop := Claim7.holds Tryz.pinned (.plain (OpenSpec.upto replayBaseSpec)) replayBaseUptoCard
end Rows
end Go.Proofs.YtbapfpekklcicaaGreatDoor
