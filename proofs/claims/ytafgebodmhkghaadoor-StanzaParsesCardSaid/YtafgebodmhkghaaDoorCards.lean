/-
  DERIVED. GIVEN WITH THE SEED: THE CARDS: each row of YtafgebodmhkghaaDoorRows.lean that lists a variable, with what it lists TIED to the program's text (the seventh form; the later family's looks); each row that meets fmt, with fmt's text TOLD by the authors' own Lean function (tested against real Go, not proved from fmt's source: count such statements apart). THE CARD IS WHAT COUNTS. Prove the row's statement (the work); the ties are given (YtafgebodmhkghaaDoorTie.lean); close each card by the builder's one call (the guide's Derived/Test/ToyasCard.lean, 'card_holds'). Laid BY PROGRAM, IN A SANDBOX (cutbox-door.mjs). By AI agents, Wed Nov 11 2026. No macro, syntax, notation, axiom, sorry.
-/
import Derived.Test.YtafgebodmhkghaaDoorRows
import GoSem.ClaimSeven
namespace Go.Proofs.YtafgebodmhkghaaDoor
namespace Rows

/-- THE TIED CARD OF 'stanzakeeplaw05.StanzaParses'. -/
def stanzaParsesCard : Claim7 := { stood := { row := stanzaParsesRow, standIns := [], harness := (true, "0c37349d7ac2db1249a1aa31ff33c40b2fb8a5fadbf32bdfbb37da8373c5beea"), looks := true }, kinds := [], alts := [], laidByText := true, laidKinds := [.data, .pinned], laidTests := true, laidLooks := .later }
def StanzaParsesCardSaid : Prop := Claim7.holds Tryd.pinned (.plain (OpenSpec.ofChange stanzaParsesSpec)) stanzaParsesCard

/-- THE TIED CARD OF 'stanzakeeplaw06.PrintStanzas'. -/
def printStanzasCard : Claim7 := { stood := { row := printStanzasRow, standIns := [], harness := (true, "0c37349d7ac2db1249a1aa31ff33c40b2fb8a5fadbf32bdfbb37da8373c5beea"), looks := true }, kinds := [], alts := [], laidByText := true, laidKinds := [.data, .pinned], laidTests := true, laidLooks := .later }
def PrintStanzasCardSaid : Prop := Claim7.holds Tryd.pinned (.plain (OpenSpec.ofChange printStanzasSpec)) printStanzasCard

/-- THE TIED CARD OF 'stanzakeeplaw06.PrintTexts'. -/
def printTextsCard : Claim7 := { stood := { row := printTextsRow, standIns := [], harness := (true, "0c37349d7ac2db1249a1aa31ff33c40b2fb8a5fadbf32bdfbb37da8373c5beea"), looks := true }, kinds := [], alts := [], laidByText := true, laidKinds := [.data, .pinned], laidTests := true, laidLooks := .later }
def PrintTextsCardSaid : Prop := Claim7.holds Tryd.pinned (.plain (OpenSpec.ofChange printTextsSpec)) printTextsCard

/-- THE TIED CARD OF 'stanzakeeplaw06.PrintApart'. -/
def printApartCard : Claim7 := { stood := { row := printApartRow, standIns := [], harness := (true, "0c37349d7ac2db1249a1aa31ff33c40b2fb8a5fadbf32bdfbb37da8373c5beea"), looks := true }, kinds := [], alts := [], laidByText := true, laidKinds := [.data, .pinned], laidTests := true, laidLooks := .later }
def PrintApartCardSaid : Prop := Claim7.holds Tryd.pinned (.plain (OpenSpec.ofChange printApartSpec)) printApartCard

/-- THE TIED CARD OF 'stanzakeeplaw06.PrintVerbatim'. -/
def printVerbatimCard : Claim7 := { stood := { row := printVerbatimRow, standIns := [], harness := (true, "0c37349d7ac2db1249a1aa31ff33c40b2fb8a5fadbf32bdfbb37da8373c5beea"), looks := true }, kinds := [], alts := [], laidByText := true, laidKinds := [.data, .pinned], laidTests := true, laidLooks := .later }
def PrintVerbatimCardSaid : Prop := Claim7.holds Tryd.pinned (.plain (OpenSpec.ofChange printVerbatimSpec)) printVerbatimCard

/-- THE TIED CARD OF 'stanzakeeplaw06.PrintMixes'. -/
def printMixesCard : Claim7 := { stood := { row := printMixesRow, standIns := [], harness := (true, "0c37349d7ac2db1249a1aa31ff33c40b2fb8a5fadbf32bdfbb37da8373c5beea"), looks := true }, kinds := [], alts := [], laidByText := true, laidKinds := [.data, .pinned], laidTests := true, laidLooks := .later }
def PrintMixesCardSaid : Prop := Claim7.holds Tryd.pinned (.plain (OpenSpec.ofChange printMixesSpec)) printMixesCard

/-- THE SECOND FORM's CARD OF 'stanzakeeplaw05.StanzaParses'. -/
def stanzaParsesUptoCard : Claim7 := { stood := { row := stanzaParsesUptoRow, standIns := [], harness := (true, "0c37349d7ac2db1249a1aa31ff33c40b2fb8a5fadbf32bdfbb37da8373c5beea"), looks := true }, kinds := [], alts := [], laidByText := true, laidKinds := [.data, .pinned], laidTests := true, laidLooks := .later }
def StanzaParsesUptoCardSaid : Prop := Claim7.holds Tryd.pinned (.plain (OpenSpec.upto stanzaParsesSpec)) stanzaParsesUptoCard

/-- THE SECOND FORM's CARD OF 'stanzakeeplaw06.PrintStanzas'. -/
def printStanzasUptoCard : Claim7 := { stood := { row := printStanzasUptoRow, standIns := [], harness := (true, "0c37349d7ac2db1249a1aa31ff33c40b2fb8a5fadbf32bdfbb37da8373c5beea"), looks := true }, kinds := [], alts := [], laidByText := true, laidKinds := [.data, .pinned], laidTests := true, laidLooks := .later }
def PrintStanzasUptoCardSaid : Prop := Claim7.holds Tryd.pinned (.plain (OpenSpec.upto printStanzasSpec)) printStanzasUptoCard

/-- THE SECOND FORM's CARD OF 'stanzakeeplaw06.PrintTexts'. -/
def printTextsUptoCard : Claim7 := { stood := { row := printTextsUptoRow, standIns := [], harness := (true, "0c37349d7ac2db1249a1aa31ff33c40b2fb8a5fadbf32bdfbb37da8373c5beea"), looks := true }, kinds := [], alts := [], laidByText := true, laidKinds := [.data, .pinned], laidTests := true, laidLooks := .later }
def PrintTextsUptoCardSaid : Prop := Claim7.holds Tryd.pinned (.plain (OpenSpec.upto printTextsSpec)) printTextsUptoCard

/-- THE SECOND FORM's CARD OF 'stanzakeeplaw06.PrintApart'. -/
def printApartUptoCard : Claim7 := { stood := { row := printApartUptoRow, standIns := [], harness := (true, "0c37349d7ac2db1249a1aa31ff33c40b2fb8a5fadbf32bdfbb37da8373c5beea"), looks := true }, kinds := [], alts := [], laidByText := true, laidKinds := [.data, .pinned], laidTests := true, laidLooks := .later }
def PrintApartUptoCardSaid : Prop := Claim7.holds Tryd.pinned (.plain (OpenSpec.upto printApartSpec)) printApartUptoCard

/-- THE SECOND FORM's CARD OF 'stanzakeeplaw06.PrintVerbatim'. -/
def printVerbatimUptoCard : Claim7 := { stood := { row := printVerbatimUptoRow, standIns := [], harness := (true, "0c37349d7ac2db1249a1aa31ff33c40b2fb8a5fadbf32bdfbb37da8373c5beea"), looks := true }, kinds := [], alts := [], laidByText := true, laidKinds := [.data, .pinned], laidTests := true, laidLooks := .later }
def PrintVerbatimUptoCardSaid : Prop := Claim7.holds Tryd.pinned (.plain (OpenSpec.upto printVerbatimSpec)) printVerbatimUptoCard

/-- THE SECOND FORM's CARD OF 'stanzakeeplaw06.PrintMixes'. -/
def printMixesUptoCard : Claim7 := { stood := { row := printMixesUptoRow, standIns := [], harness := (true, "0c37349d7ac2db1249a1aa31ff33c40b2fb8a5fadbf32bdfbb37da8373c5beea"), looks := true }, kinds := [], alts := [], laidByText := true, laidKinds := [.data, .pinned], laidTests := true, laidLooks := .later }
def PrintMixesUptoCardSaid : Prop := Claim7.holds Tryd.pinned (.plain (OpenSpec.upto printMixesSpec)) printMixesUptoCard
end Rows
end Go.Proofs.YtafgebodmhkghaaDoor
