/-
  DERIVED. GIVEN WITH THE SEED: THE CARDS: each row of YtngngamfceoklaaDoorRows.lean that lists a variable, with what it lists TIED to the program's text (the seventh form; the later family's looks); each row that meets fmt, with fmt's text TOLD by the authors' own Lean function (tested against real Go, not proved from fmt's source: count such statements apart). THE CARD IS WHAT COUNTS. Prove the row's statement (the work); the ties are given (YtngngamfceoklaaDoorTie.lean); close each card by the builder's one call (the guide's Derived/Test/ToyasCard.lean, 'card_holds'). Laid BY PROGRAM, IN A SANDBOX (cutbox-door.mjs). By AI agents, Wed Nov 11 2026. No macro, syntax, notation, axiom, sorry.
-/
import Derived.Test.YtngngamfceoklaaDoorRows
import GoSem.ClaimSeven
namespace Go.Proofs.YtngngamfceoklaaDoor
namespace Rows

/-- THE TIED CARD OF 'stanzakeeplaw05.StanzaParses'. -/
def stanzaParsesCard : Claim7 := { stood := { row := stanzaParsesRow, standIns := [], harness := (true, "742e3e8828f3c5315b14694fe1a4e6f9afa28fff1e9fb8d8e25a24234a66b23d"), looks := true }, kinds := [], alts := [], laidByText := true, laidKinds := [.data, .pinned], laidTests := true, laidLooks := .later }
def StanzaParsesCardSaid : Prop := Claim7.holds Tryd.pinned (.plain (OpenSpec.ofChange stanzaParsesSpec)) stanzaParsesCard

/-- THE TIED CARD OF 'stanzakeeplaw05.StanzaMany'. -/
def stanzaManyCard : Claim7 := { stood := { row := stanzaManyRow, standIns := [], harness := (true, "742e3e8828f3c5315b14694fe1a4e6f9afa28fff1e9fb8d8e25a24234a66b23d"), looks := true }, kinds := [], alts := [], laidByText := true, laidKinds := [.data, .pinned], laidTests := true, laidLooks := .later }
def StanzaManyCardSaid : Prop := Claim7.holds Tryd.pinned (.plain (OpenSpec.ofChange stanzaManySpec)) stanzaManyCard

/-- THE TIED CARD OF 'stanzakeeplaw05.StanzaJoins'. -/
def stanzaJoinsCard : Claim7 := { stood := { row := stanzaJoinsRow, standIns := [], harness := (true, "742e3e8828f3c5315b14694fe1a4e6f9afa28fff1e9fb8d8e25a24234a66b23d"), looks := true }, kinds := [], alts := [], laidByText := true, laidKinds := [.data, .pinned], laidTests := true, laidLooks := .later }
def StanzaJoinsCardSaid : Prop := Claim7.holds Tryd.pinned (.plain (OpenSpec.ofChange stanzaJoinsSpec)) stanzaJoinsCard

/-- THE TIED CARD OF 'stanzakeeplaw05.StanzaFolds'. -/
def stanzaFoldsCard : Claim7 := { stood := { row := stanzaFoldsRow, standIns := [], harness := (true, "742e3e8828f3c5315b14694fe1a4e6f9afa28fff1e9fb8d8e25a24234a66b23d"), looks := true }, kinds := [], alts := [], laidByText := true, laidKinds := [.data, .pinned], laidTests := true, laidLooks := .later }
def StanzaFoldsCardSaid : Prop := Claim7.holds Tryd.pinned (.plain (OpenSpec.ofChange stanzaFoldsSpec)) stanzaFoldsCard

/-- THE TIED CARD OF 'stanzakeeplaw05.StanzaCuts'. -/
def stanzaCutsCard : Claim7 := { stood := { row := stanzaCutsRow, standIns := [], harness := (true, "742e3e8828f3c5315b14694fe1a4e6f9afa28fff1e9fb8d8e25a24234a66b23d"), looks := true }, kinds := [], alts := [], laidByText := true, laidKinds := [.data, .pinned], laidTests := true, laidLooks := .later }
def StanzaCutsCardSaid : Prop := Claim7.holds Tryd.pinned (.plain (OpenSpec.ofChange stanzaCutsSpec)) stanzaCutsCard

/-- THE SECOND FORM's CARD OF 'stanzakeeplaw05.StanzaParses'. -/
def stanzaParsesUptoCard : Claim7 := { stood := { row := stanzaParsesUptoRow, standIns := [], harness := (true, "742e3e8828f3c5315b14694fe1a4e6f9afa28fff1e9fb8d8e25a24234a66b23d"), looks := true }, kinds := [], alts := [], laidByText := true, laidKinds := [.data, .pinned], laidTests := true, laidLooks := .later }
def StanzaParsesUptoCardSaid : Prop := Claim7.holds Tryd.pinned (.plain (OpenSpec.upto stanzaParsesSpec)) stanzaParsesUptoCard

/-- THE SECOND FORM's CARD OF 'stanzakeeplaw05.StanzaMany'. -/
def stanzaManyUptoCard : Claim7 := { stood := { row := stanzaManyUptoRow, standIns := [], harness := (true, "742e3e8828f3c5315b14694fe1a4e6f9afa28fff1e9fb8d8e25a24234a66b23d"), looks := true }, kinds := [], alts := [], laidByText := true, laidKinds := [.data, .pinned], laidTests := true, laidLooks := .later }
def StanzaManyUptoCardSaid : Prop := Claim7.holds Tryd.pinned (.plain (OpenSpec.upto stanzaManySpec)) stanzaManyUptoCard

/-- THE SECOND FORM's CARD OF 'stanzakeeplaw05.StanzaJoins'. -/
def stanzaJoinsUptoCard : Claim7 := { stood := { row := stanzaJoinsUptoRow, standIns := [], harness := (true, "742e3e8828f3c5315b14694fe1a4e6f9afa28fff1e9fb8d8e25a24234a66b23d"), looks := true }, kinds := [], alts := [], laidByText := true, laidKinds := [.data, .pinned], laidTests := true, laidLooks := .later }
def StanzaJoinsUptoCardSaid : Prop := Claim7.holds Tryd.pinned (.plain (OpenSpec.upto stanzaJoinsSpec)) stanzaJoinsUptoCard

/-- THE SECOND FORM's CARD OF 'stanzakeeplaw05.StanzaFolds'. -/
def stanzaFoldsUptoCard : Claim7 := { stood := { row := stanzaFoldsUptoRow, standIns := [], harness := (true, "742e3e8828f3c5315b14694fe1a4e6f9afa28fff1e9fb8d8e25a24234a66b23d"), looks := true }, kinds := [], alts := [], laidByText := true, laidKinds := [.data, .pinned], laidTests := true, laidLooks := .later }
def StanzaFoldsUptoCardSaid : Prop := Claim7.holds Tryd.pinned (.plain (OpenSpec.upto stanzaFoldsSpec)) stanzaFoldsUptoCard

/-- THE SECOND FORM's CARD OF 'stanzakeeplaw05.StanzaCuts'. -/
def stanzaCutsUptoCard : Claim7 := { stood := { row := stanzaCutsUptoRow, standIns := [], harness := (true, "742e3e8828f3c5315b14694fe1a4e6f9afa28fff1e9fb8d8e25a24234a66b23d"), looks := true }, kinds := [], alts := [], laidByText := true, laidKinds := [.data, .pinned], laidTests := true, laidLooks := .later }
def StanzaCutsUptoCardSaid : Prop := Claim7.holds Tryd.pinned (.plain (OpenSpec.upto stanzaCutsSpec)) stanzaCutsUptoCard
end Rows
end Go.Proofs.YtngngamfceoklaaDoor
