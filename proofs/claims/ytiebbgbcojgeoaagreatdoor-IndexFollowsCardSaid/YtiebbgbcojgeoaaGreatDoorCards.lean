/-
  DERIVED. GIVEN WITH THE SEED: THE CARDS: each row of YtiebbgbcojgeoaaGreatDoorRows.lean that lists a variable, with what it lists TIED to the program's text (the seventh form; the later family's looks); each row that meets fmt, with fmt's text TOLD by the authors' own Lean function (tested against real Go, not proved from fmt's source: count such statements apart). THE CARD IS WHAT COUNTS. Prove the row's statement (the work); the ties are given (YtiebbgbcojgeoaaGreatDoorTie.lean); close each card by the builder's one call (the guide's Derived/Test/ToyasCard.lean, 'card_holds'). Laid BY PROGRAM, IN A SANDBOX (cutbox-door.mjs). By AI agents, Wed Nov 11 2026. No macro, syntax, notation, axiom, sorry.
-/
import Derived.Test.YtiebbgbcojgeoaaGreatDoorRows
import GoSem.ClaimSeven
namespace Go.Proofs.YtiebbgbcojgeoaaGreatDoor
namespace Rows

/-- THE TIED CARD OF 'stanzakeeplaw07.ListPlays'. -/
def listPlaysCard : Claim7 := { stood := { row := listPlaysRow, standIns := [], harness := (true, "3b3628370f34db0a9ce0deafb969883087960c113eb7862fbba895dd1f94fa09"), looks := true }, kinds := [], alts := [], laidByText := true, laidKinds := [.data, .pinned], laidTests := true, laidLooks := .later }
def ListPlaysCardSaid : Prop := Claim7.holds Tryz.pinned (.plain (OpenSpec.ofChange listPlaysSpec)) listPlaysCard

/-- THE TIED CARD OF 'stanzakeeplaw07.ListParses'. -/
def listParsesCard : Claim7 := { stood := { row := listParsesRow, standIns := [], harness := (true, "3b3628370f34db0a9ce0deafb969883087960c113eb7862fbba895dd1f94fa09"), looks := true }, kinds := [], alts := [], laidByText := true, laidKinds := [.data, .pinned], laidTests := true, laidLooks := .later }
def ListParsesCardSaid : Prop := Claim7.holds Tryz.pinned (.plain (OpenSpec.ofChange listParsesSpec)) listParsesCard

/-- THE TIED CARD OF 'stanzakeeplaw07.ListVerbatim'. -/
def listVerbatimCard : Claim7 := { stood := { row := listVerbatimRow, standIns := [], harness := (true, "3b3628370f34db0a9ce0deafb969883087960c113eb7862fbba895dd1f94fa09"), looks := true }, kinds := [], alts := [], laidByText := true, laidKinds := [.data, .pinned], laidTests := true, laidLooks := .later }
def ListVerbatimCardSaid : Prop := Claim7.holds Tryz.pinned (.plain (OpenSpec.ofChange listVerbatimSpec)) listVerbatimCard

/-- THE TIED CARD OF 'stanzakeeplaw07.ListNumbers'. -/
def listNumbersCard : Claim7 := { stood := { row := listNumbersRow, standIns := [], harness := (true, "3b3628370f34db0a9ce0deafb969883087960c113eb7862fbba895dd1f94fa09"), looks := true }, kinds := [], alts := [], laidByText := true, laidKinds := [.data, .pinned], laidTests := true, laidLooks := .later }
def ListNumbersCardSaid : Prop := Claim7.holds Tryz.pinned (.plain (OpenSpec.ofChange listNumbersSpec)) listNumbersCard

/-- THE TIED CARD OF 'stanzakeeplaw07.ListCopies'. -/
def listCopiesCard : Claim7 := { stood := { row := listCopiesRow, standIns := [], harness := (true, "3b3628370f34db0a9ce0deafb969883087960c113eb7862fbba895dd1f94fa09"), looks := true }, kinds := [], alts := [], laidByText := true, laidKinds := [.data, .pinned], laidTests := true, laidLooks := .later }
def ListCopiesCardSaid : Prop := Claim7.holds Tryz.pinned (.plain (OpenSpec.ofChange listCopiesSpec)) listCopiesCard

/-- THE TIED CARD OF 'stanzakeeplaw08.IndexFollows'. -/
def indexFollowsCard : Claim7 := { stood := { row := indexFollowsRow, standIns := [], harness := (true, "3b3628370f34db0a9ce0deafb969883087960c113eb7862fbba895dd1f94fa09"), looks := true }, kinds := [], alts := [], laidByText := true, laidKinds := [.data, .pinned], laidTests := true, laidLooks := .later }
def IndexFollowsCardSaid : Prop := Claim7.holds Tryz.pinned (.plain (OpenSpec.ofChange indexFollowsSpec)) indexFollowsCard

/-- THE TIED CARD OF 'stanzakeeplaw08.IndexWithin'. -/
def indexWithinCard : Claim7 := { stood := { row := indexWithinRow, standIns := [], harness := (true, "3b3628370f34db0a9ce0deafb969883087960c113eb7862fbba895dd1f94fa09"), looks := true }, kinds := [], alts := [], laidByText := true, laidKinds := [.data, .pinned], laidTests := true, laidLooks := .later }
def IndexWithinCardSaid : Prop := Claim7.holds Tryz.pinned (.plain (OpenSpec.ofChange indexWithinSpec)) indexWithinCard

/-- THE SECOND FORM's CARD OF 'stanzakeeplaw07.ListPlays'. -/
def listPlaysUptoCard : Claim7 := { stood := { row := listPlaysUptoRow, standIns := [], harness := (true, "3b3628370f34db0a9ce0deafb969883087960c113eb7862fbba895dd1f94fa09"), looks := true }, kinds := [], alts := [], laidByText := true, laidKinds := [.data, .pinned], laidTests := true, laidLooks := .later }
def ListPlaysUptoCardSaid : Prop := Claim7.holds Tryz.pinned (.plain (OpenSpec.upto listPlaysSpec)) listPlaysUptoCard

/-- THE SECOND FORM's CARD OF 'stanzakeeplaw07.ListParses'. -/
def listParsesUptoCard : Claim7 := { stood := { row := listParsesUptoRow, standIns := [], harness := (true, "3b3628370f34db0a9ce0deafb969883087960c113eb7862fbba895dd1f94fa09"), looks := true }, kinds := [], alts := [], laidByText := true, laidKinds := [.data, .pinned], laidTests := true, laidLooks := .later }
def ListParsesUptoCardSaid : Prop := Claim7.holds Tryz.pinned (.plain (OpenSpec.upto listParsesSpec)) listParsesUptoCard

/-- THE SECOND FORM's CARD OF 'stanzakeeplaw07.ListVerbatim'. -/
def listVerbatimUptoCard : Claim7 := { stood := { row := listVerbatimUptoRow, standIns := [], harness := (true, "3b3628370f34db0a9ce0deafb969883087960c113eb7862fbba895dd1f94fa09"), looks := true }, kinds := [], alts := [], laidByText := true, laidKinds := [.data, .pinned], laidTests := true, laidLooks := .later }
def ListVerbatimUptoCardSaid : Prop := Claim7.holds Tryz.pinned (.plain (OpenSpec.upto listVerbatimSpec)) listVerbatimUptoCard

/-- THE SECOND FORM's CARD OF 'stanzakeeplaw07.ListNumbers'. -/
def listNumbersUptoCard : Claim7 := { stood := { row := listNumbersUptoRow, standIns := [], harness := (true, "3b3628370f34db0a9ce0deafb969883087960c113eb7862fbba895dd1f94fa09"), looks := true }, kinds := [], alts := [], laidByText := true, laidKinds := [.data, .pinned], laidTests := true, laidLooks := .later }
def ListNumbersUptoCardSaid : Prop := Claim7.holds Tryz.pinned (.plain (OpenSpec.upto listNumbersSpec)) listNumbersUptoCard

/-- THE SECOND FORM's CARD OF 'stanzakeeplaw07.ListCopies'. -/
def listCopiesUptoCard : Claim7 := { stood := { row := listCopiesUptoRow, standIns := [], harness := (true, "3b3628370f34db0a9ce0deafb969883087960c113eb7862fbba895dd1f94fa09"), looks := true }, kinds := [], alts := [], laidByText := true, laidKinds := [.data, .pinned], laidTests := true, laidLooks := .later }
def ListCopiesUptoCardSaid : Prop := Claim7.holds Tryz.pinned (.plain (OpenSpec.upto listCopiesSpec)) listCopiesUptoCard

/-- THE SECOND FORM's CARD OF 'stanzakeeplaw08.IndexFollows'. -/
def indexFollowsUptoCard : Claim7 := { stood := { row := indexFollowsUptoRow, standIns := [], harness := (true, "3b3628370f34db0a9ce0deafb969883087960c113eb7862fbba895dd1f94fa09"), looks := true }, kinds := [], alts := [], laidByText := true, laidKinds := [.data, .pinned], laidTests := true, laidLooks := .later }
def IndexFollowsUptoCardSaid : Prop := Claim7.holds Tryz.pinned (.plain (OpenSpec.upto indexFollowsSpec)) indexFollowsUptoCard

/-- THE SECOND FORM's CARD OF 'stanzakeeplaw08.IndexWithin'. -/
def indexWithinUptoCard : Claim7 := { stood := { row := indexWithinUptoRow, standIns := [], harness := (true, "3b3628370f34db0a9ce0deafb969883087960c113eb7862fbba895dd1f94fa09"), looks := true }, kinds := [], alts := [], laidByText := true, laidKinds := [.data, .pinned], laidTests := true, laidLooks := .later }
def IndexWithinUptoCardSaid : Prop := Claim7.holds Tryz.pinned (.plain (OpenSpec.upto indexWithinSpec)) indexWithinUptoCard
end Rows
end Go.Proofs.YtiebbgbcojgeoaaGreatDoor
