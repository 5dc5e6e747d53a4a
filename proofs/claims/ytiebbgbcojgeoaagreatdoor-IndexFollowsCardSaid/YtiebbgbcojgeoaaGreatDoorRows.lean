/-
  NARROWER THAN 'FOR EVERY INPUT', by the rows' own cells (each row's printed sentence says how): ListPlays: laid · ListParses: laid · ListVerbatim: laid · ListNumbers: laid · ListCopies: laid · IndexFollows: laid · IndexWithin: laid.
  DERIVED. THE GIVEN ROWS OF THIS SEAT. 7 by the template 'for every input the law returns true; each argument reads behind the call as it read before'; 0 by the template 'total and deterministic' (their statements: YtiebbgbcojgeoaaGreatDoorTotals.lean).
  GIVEN WITH THE SEED: the statements are not yours to turn. If you find one false, say at which input.
  Laid BY PROGRAM, IN A SANDBOX (cutbox-rows.mjs): the forced cells as the released guide's own fill.sh prints them over the translation e6b9d05b78a79409… (all of the seat's roots in one cut). By AI agents, Wed Nov 11 2026. No macro, syntax, notation, axiom, sorry.
-/
import Derived.Test.YtiebbgbcojgeoaaGreatDoorChecked
import GoSem.PinnedTables
import GoSem.Claim
import GoSem.ClaimJoined
import GoSem.ClaimMapViews
import Derived.JoinedTies
import Derived.KernelRfl
namespace Go.Proofs.YtiebbgbcojgeoaaGreatDoor
/- THE CELL 'sum', in the pinned program and in every row, IS THE sha256 OF THE DUMP (.gsa) THAT YtiebbgbcojgeoaaGreatDoorProg.lean LOADS. Nothing in Lean hashes anything: it is a label: what it is worth is what the hold of that sum in a sandbox is worth. -/
noncomputable def Tryz.pinned : Pinned := { name := "ytiebbgbcojgeoaagreatdoor", sum := "e6b9d05b78a7940902013ff77d134005e0b346660ec01eaf0743f1b1617a82f4", checked := Tryz.checked }
namespace Rows
def none {H : Type} : Left H := { results := [], args := [] }

/- WHAT THE LISTED PACKAGE-LEVEL VARIABLES READ AS WHEN THE CALL BEGINS. Each datum BY PROGRAM (the guide's laid-datum.mjs) off the statement by which the dump's own 'gosem.cut.vars' lays the variable. In a bare row this is a premise. The card (YtiebbgbcojgeoaaGreatDoorCards.lean) ties it to the program's text. -/
def laid_unicode_utf8_acceptRanges {H : Type} : DataW H := .agg [.agg [.lit (.int .u8 128), .lit (.int .u8 191)], .agg [.lit (.int .u8 160), .lit (.int .u8 191)], .agg [.lit (.int .u8 128), .lit (.int .u8 159)], .agg [.lit (.int .u8 144), .lit (.int .u8 191)], .agg [.lit (.int .u8 128), .lit (.int .u8 143)], .agg [.lit (.int .u8 0), .lit (.int .u8 0)], .agg [.lit (.int .u8 0), .lit (.int .u8 0)], .agg [.lit (.int .u8 0), .lit (.int .u8 0)], .agg [.lit (.int .u8 0), .lit (.int .u8 0)], .agg [.lit (.int .u8 0), .lit (.int .u8 0)], .agg [.lit (.int .u8 0), .lit (.int .u8 0)], .agg [.lit (.int .u8 0), .lit (.int .u8 0)], .agg [.lit (.int .u8 0), .lit (.int .u8 0)], .agg [.lit (.int .u8 0), .lit (.int .u8 0)], .agg [.lit (.int .u8 0), .lit (.int .u8 0)], .agg [.lit (.int .u8 0), .lit (.int .u8 0)]]
/-- One of Go's own tables, pinned by name: the form's constant. -/
def laid_unicode_utf8_first : DataW Unit := Go.Pinned.utf8First

/-- 'stanzakeeplaw07.ListPlays': WHATEVER THE INPUT: true; the input reads as it did. -/
def listPlaysSpec : ChangeSpec := { name := "listPlays", fn := fun _ => fun
  | [d1, d2, d3] => { results := [.lit (.bool true)], args := [d1, d2, d3] }
  | _ => none }
def listPlaysRow : OpenClaim := { program := "ytiebbgbcojgeoaagreatdoor", sum := "e6b9d05b78a7940902013ff77d134005e0b346660ec01eaf0743f1b1617a82f4", func := "stanzakeep/stanzakeeplaw07.ListPlays", spec := "listPlays", inPlace := ["internal/bytealg.IndexByteString", "internal/bytealg.IndexString", "internal/abi.NoEscape", "internal/bytealg.MakeNoZero", "internal/bytealg.CountString", "slices.overlaps[stanzakeep/list.entry]"], unfollowed := true, recurses := true, named := ["internal/bytealg.MaxLen", "unicode/utf8.first", "unicode/utf8.acceptRanges"], apart := false, laid := [("unicode/utf8.acceptRanges", laid_unicode_utf8_acceptRanges), ("unicode/utf8.first", laid_unicode_utf8_first)] }
def ListPlaysSaid : Prop := listPlaysRow.holds Tryz.pinned (OpenSpec.ofChange listPlaysSpec)

/-- ITS FALSE NEIGHBOUR: 'it returns false'. Refute it at one input. -/
def listPlaysWrong : ChangeSpec := { name := "listPlays", fn := fun _ => fun
  | [d1, d2, d3] => { results := [.lit (.bool false)], args := [d1, d2, d3] }
  | _ => none }
def ListPlaysWrongFalsely : Prop := listPlaysRow.holds Tryz.pinned (OpenSpec.ofChange listPlaysWrong)

/-- 'stanzakeeplaw07.ListParses': WHATEVER THE INPUT: true; the input reads as it did. -/
def listParsesSpec : ChangeSpec := { name := "listParses", fn := fun _ => fun
  | [d1, d2] => { results := [.lit (.bool true)], args := [d1, d2] }
  | _ => none }
def listParsesRow : OpenClaim := { program := "ytiebbgbcojgeoaagreatdoor", sum := "e6b9d05b78a7940902013ff77d134005e0b346660ec01eaf0743f1b1617a82f4", func := "stanzakeep/stanzakeeplaw07.ListParses", spec := "listParses", inPlace := ["internal/bytealg.IndexByteString", "internal/bytealg.IndexString", "internal/abi.NoEscape", "internal/bytealg.MakeNoZero", "internal/bytealg.CountString", "slices.overlaps[stanzakeep/list.entry]"], unfollowed := true, recurses := true, named := ["internal/bytealg.MaxLen", "unicode/utf8.first", "unicode/utf8.acceptRanges"], apart := false, laid := [("unicode/utf8.acceptRanges", laid_unicode_utf8_acceptRanges), ("unicode/utf8.first", laid_unicode_utf8_first)] }
def ListParsesSaid : Prop := listParsesRow.holds Tryz.pinned (OpenSpec.ofChange listParsesSpec)

/-- ITS FALSE NEIGHBOUR: 'it returns false'. Refute it at one input. -/
def listParsesWrong : ChangeSpec := { name := "listParses", fn := fun _ => fun
  | [d1, d2] => { results := [.lit (.bool false)], args := [d1, d2] }
  | _ => none }
def ListParsesWrongFalsely : Prop := listParsesRow.holds Tryz.pinned (OpenSpec.ofChange listParsesWrong)

/-- 'stanzakeeplaw07.ListVerbatim': WHATEVER THE INPUT: true; the input reads as it did. -/
def listVerbatimSpec : ChangeSpec := { name := "listVerbatim", fn := fun _ => fun
  | [d1, d2] => { results := [.lit (.bool true)], args := [d1, d2] }
  | _ => none }
def listVerbatimRow : OpenClaim := { program := "ytiebbgbcojgeoaagreatdoor", sum := "e6b9d05b78a7940902013ff77d134005e0b346660ec01eaf0743f1b1617a82f4", func := "stanzakeep/stanzakeeplaw07.ListVerbatim", spec := "listVerbatim", inPlace := ["internal/bytealg.IndexByteString", "internal/bytealg.IndexString", "internal/abi.NoEscape", "internal/bytealg.MakeNoZero", "internal/bytealg.CountString", "slices.overlaps[stanzakeep/list.entry]"], unfollowed := true, recurses := true, named := ["internal/bytealg.MaxLen", "unicode/utf8.first", "unicode/utf8.acceptRanges"], apart := false, laid := [("unicode/utf8.acceptRanges", laid_unicode_utf8_acceptRanges), ("unicode/utf8.first", laid_unicode_utf8_first)] }
def ListVerbatimSaid : Prop := listVerbatimRow.holds Tryz.pinned (OpenSpec.ofChange listVerbatimSpec)

/-- ITS FALSE NEIGHBOUR: 'it returns false'. Refute it at one input. -/
def listVerbatimWrong : ChangeSpec := { name := "listVerbatim", fn := fun _ => fun
  | [d1, d2] => { results := [.lit (.bool false)], args := [d1, d2] }
  | _ => none }
def ListVerbatimWrongFalsely : Prop := listVerbatimRow.holds Tryz.pinned (OpenSpec.ofChange listVerbatimWrong)

/-- 'stanzakeeplaw07.ListNumbers': WHATEVER THE INPUT: true; the input reads as it did. -/
def listNumbersSpec : ChangeSpec := { name := "listNumbers", fn := fun _ => fun
  | [d1, d2] => { results := [.lit (.bool true)], args := [d1, d2] }
  | _ => none }
def listNumbersRow : OpenClaim := { program := "ytiebbgbcojgeoaagreatdoor", sum := "e6b9d05b78a7940902013ff77d134005e0b346660ec01eaf0743f1b1617a82f4", func := "stanzakeep/stanzakeeplaw07.ListNumbers", spec := "listNumbers", inPlace := ["internal/bytealg.IndexByteString", "internal/bytealg.IndexString", "internal/abi.NoEscape", "internal/bytealg.MakeNoZero", "internal/bytealg.CountString", "slices.overlaps[stanzakeep/list.entry]"], unfollowed := true, recurses := true, named := ["internal/bytealg.MaxLen", "unicode/utf8.first", "unicode/utf8.acceptRanges"], apart := false, laid := [("unicode/utf8.acceptRanges", laid_unicode_utf8_acceptRanges), ("unicode/utf8.first", laid_unicode_utf8_first)] }
def ListNumbersSaid : Prop := listNumbersRow.holds Tryz.pinned (OpenSpec.ofChange listNumbersSpec)

/-- ITS FALSE NEIGHBOUR: 'it returns false'. Refute it at one input. -/
def listNumbersWrong : ChangeSpec := { name := "listNumbers", fn := fun _ => fun
  | [d1, d2] => { results := [.lit (.bool false)], args := [d1, d2] }
  | _ => none }
def ListNumbersWrongFalsely : Prop := listNumbersRow.holds Tryz.pinned (OpenSpec.ofChange listNumbersWrong)

/-- 'stanzakeeplaw07.ListCopies': WHATEVER THE INPUT: true; the input reads as it did. -/
def listCopiesSpec : ChangeSpec := { name := "listCopies", fn := fun _ => fun
  | [d1, d2, d3] => { results := [.lit (.bool true)], args := [d1, d2, d3] }
  | _ => none }
def listCopiesRow : OpenClaim := { program := "ytiebbgbcojgeoaagreatdoor", sum := "e6b9d05b78a7940902013ff77d134005e0b346660ec01eaf0743f1b1617a82f4", func := "stanzakeep/stanzakeeplaw07.ListCopies", spec := "listCopies", inPlace := ["internal/bytealg.IndexByteString", "internal/bytealg.IndexString", "internal/abi.NoEscape", "internal/bytealg.MakeNoZero", "internal/bytealg.CountString", "slices.overlaps[stanzakeep/list.entry]"], unfollowed := true, recurses := true, named := ["internal/bytealg.MaxLen", "unicode/utf8.first", "unicode/utf8.acceptRanges"], apart := false, laid := [("unicode/utf8.acceptRanges", laid_unicode_utf8_acceptRanges), ("unicode/utf8.first", laid_unicode_utf8_first)] }
def ListCopiesSaid : Prop := listCopiesRow.holds Tryz.pinned (OpenSpec.ofChange listCopiesSpec)

/-- ITS FALSE NEIGHBOUR: 'it returns false'. Refute it at one input. -/
def listCopiesWrong : ChangeSpec := { name := "listCopies", fn := fun _ => fun
  | [d1, d2, d3] => { results := [.lit (.bool false)], args := [d1, d2, d3] }
  | _ => none }
def ListCopiesWrongFalsely : Prop := listCopiesRow.holds Tryz.pinned (OpenSpec.ofChange listCopiesWrong)

/-- 'stanzakeeplaw08.IndexFollows': WHATEVER THE INPUT: true; the input reads as it did. -/
def indexFollowsSpec : ChangeSpec := { name := "indexFollows", fn := fun _ => fun
  | [d1, d2, d3] => { results := [.lit (.bool true)], args := [d1, d2, d3] }
  | _ => none }
def indexFollowsRow : OpenClaim := { program := "ytiebbgbcojgeoaagreatdoor", sum := "e6b9d05b78a7940902013ff77d134005e0b346660ec01eaf0743f1b1617a82f4", func := "stanzakeep/stanzakeeplaw08.IndexFollows", spec := "indexFollows", inPlace := ["internal/bytealg.IndexByteString", "internal/bytealg.IndexString", "internal/abi.NoEscape", "internal/bytealg.MakeNoZero", "internal/bytealg.CountString", "slices.overlaps[stanzakeep/list.entry]"], unfollowed := true, recurses := true, named := ["internal/bytealg.MaxLen", "unicode/utf8.first", "unicode/utf8.acceptRanges"], apart := false, laid := [("unicode/utf8.acceptRanges", laid_unicode_utf8_acceptRanges), ("unicode/utf8.first", laid_unicode_utf8_first)] }
def IndexFollowsSaid : Prop := indexFollowsRow.holds Tryz.pinned (OpenSpec.ofChange indexFollowsSpec)

/-- ITS FALSE NEIGHBOUR: 'it returns false'. Refute it at one input. -/
def indexFollowsWrong : ChangeSpec := { name := "indexFollows", fn := fun _ => fun
  | [d1, d2, d3] => { results := [.lit (.bool false)], args := [d1, d2, d3] }
  | _ => none }
def IndexFollowsWrongFalsely : Prop := indexFollowsRow.holds Tryz.pinned (OpenSpec.ofChange indexFollowsWrong)

/-- 'stanzakeeplaw08.IndexWithin': WHATEVER THE INPUT: true; the input reads as it did. -/
def indexWithinSpec : ChangeSpec := { name := "indexWithin", fn := fun _ => fun
  | [d1, d2] => { results := [.lit (.bool true)], args := [d1, d2] }
  | _ => none }
def indexWithinRow : OpenClaim := { program := "ytiebbgbcojgeoaagreatdoor", sum := "e6b9d05b78a7940902013ff77d134005e0b346660ec01eaf0743f1b1617a82f4", func := "stanzakeep/stanzakeeplaw08.IndexWithin", spec := "indexWithin", inPlace := ["internal/bytealg.IndexByteString", "internal/bytealg.IndexString", "internal/abi.NoEscape", "internal/bytealg.MakeNoZero"], unfollowed := true, recurses := true, named := ["internal/bytealg.MaxLen", "unicode/utf8.first", "unicode/utf8.acceptRanges"], apart := false, laid := [("unicode/utf8.acceptRanges", laid_unicode_utf8_acceptRanges), ("unicode/utf8.first", laid_unicode_utf8_first)] }
def IndexWithinSaid : Prop := indexWithinRow.holds Tryz.pinned (OpenSpec.ofChange indexWithinSpec)

/-- ITS FALSE NEIGHBOUR: 'it returns false'. Refute it at one input. -/
def indexWithinWrong : ChangeSpec := { name := "indexWithin", fn := fun _ => fun
  | [d1, d2] => { results := [.lit (.bool false)], args := [d1, d2] }
  | _ => none }
def IndexWithinWrongFalsely : Prop := indexWithinRow.holds Tryz.pinned (OpenSpec.ofChange indexWithinWrong)

/- THE SECOND FORM. 'bulk': how many values and letters a reading holds, each counted each time it is reached (what is shared counts as often as it is met; a slice's spare places count too). A statement '..UptoSaid' is the law's where the arguments, and the package variables that the reading takes, are together of bulk at most 1048576: NARROWER than '..Said'. Prove '..Said' where nothing that the law and all that it calls make is longer than what came in: it says more and counts as full. Else prove '..UptoSaid'. A law counts once. -/
mutual
def uptoBulk {H : Type} : DataW H → Nat
  | .lit (.string bytes) => bytes.length + 1
  | .lit _ => 1
  | .nil => 1
  | .ptr d => uptoBulk d + 1
  | .slice elems spare => uptoBulkAll elems + uptoBulkAll spare + 1
  | .agg parts => uptoBulkAll parts + 1
  | .iface _ d => uptoBulk d + 1
  | .map entries => uptoBulkEntries entries + 1
  | .held _ => 1
def uptoBulkAll {H : Type} : List (DataW H) → Nat
  | [] => 0
  | d :: r => uptoBulk d + uptoBulkAll r
def uptoBulkEntries {H : Type} : List (Lit × DataW H) → Nat
  | [] => 0
  | x :: r => uptoBulkEntry x + uptoBulkEntries r
def uptoBulkEntry {H : Type} : Lit × DataW H → Nat
  | (.string bytes, d) => bytes.length + uptoBulk d + 1
  | (_, d) => uptoBulk d + 1
 end
def uptoSmall : (H : Type) → List (DataW H) → Bool := fun _ ds => decide (uptoBulkAll ds ≤ 1048576)
def OpenSpec.upto (s : _root_.Go.ChangeSpec) : _root_.Go.OpenSpec := { _root_.Go.OpenSpec.ofChange s with cond := some uptoSmall }

/-- 'stanzakeeplaw07.ListPlays', WHERE WHAT IT READS IS OF BULK AT MOST 1048576: true; the input reads as it did. -/
def listPlaysUptoRow : OpenClaim := { program := "ytiebbgbcojgeoaagreatdoor", sum := "e6b9d05b78a7940902013ff77d134005e0b346660ec01eaf0743f1b1617a82f4", func := "stanzakeep/stanzakeeplaw07.ListPlays", spec := "listPlays", inPlace := ["internal/bytealg.IndexByteString", "internal/bytealg.IndexString", "internal/abi.NoEscape", "internal/bytealg.MakeNoZero", "internal/bytealg.CountString", "slices.overlaps[stanzakeep/list.entry]"], unfollowed := true, recurses := true, named := ["internal/bytealg.MaxLen", "unicode/utf8.first", "unicode/utf8.acceptRanges"], apart := false, laid := [("unicode/utf8.acceptRanges", laid_unicode_utf8_acceptRanges), ("unicode/utf8.first", laid_unicode_utf8_first)], narrowed := true }
def ListPlaysUptoSaid : Prop := listPlaysUptoRow.holds Tryz.pinned (OpenSpec.upto listPlaysSpec)

/-- 'stanzakeeplaw07.ListParses', WHERE WHAT IT READS IS OF BULK AT MOST 1048576: true; the input reads as it did. -/
def listParsesUptoRow : OpenClaim := { program := "ytiebbgbcojgeoaagreatdoor", sum := "e6b9d05b78a7940902013ff77d134005e0b346660ec01eaf0743f1b1617a82f4", func := "stanzakeep/stanzakeeplaw07.ListParses", spec := "listParses", inPlace := ["internal/bytealg.IndexByteString", "internal/bytealg.IndexString", "internal/abi.NoEscape", "internal/bytealg.MakeNoZero", "internal/bytealg.CountString", "slices.overlaps[stanzakeep/list.entry]"], unfollowed := true, recurses := true, named := ["internal/bytealg.MaxLen", "unicode/utf8.first", "unicode/utf8.acceptRanges"], apart := false, laid := [("unicode/utf8.acceptRanges", laid_unicode_utf8_acceptRanges), ("unicode/utf8.first", laid_unicode_utf8_first)], narrowed := true }
def ListParsesUptoSaid : Prop := listParsesUptoRow.holds Tryz.pinned (OpenSpec.upto listParsesSpec)

/-- 'stanzakeeplaw07.ListVerbatim', WHERE WHAT IT READS IS OF BULK AT MOST 1048576: true; the input reads as it did. -/
def listVerbatimUptoRow : OpenClaim := { program := "ytiebbgbcojgeoaagreatdoor", sum := "e6b9d05b78a7940902013ff77d134005e0b346660ec01eaf0743f1b1617a82f4", func := "stanzakeep/stanzakeeplaw07.ListVerbatim", spec := "listVerbatim", inPlace := ["internal/bytealg.IndexByteString", "internal/bytealg.IndexString", "internal/abi.NoEscape", "internal/bytealg.MakeNoZero", "internal/bytealg.CountString", "slices.overlaps[stanzakeep/list.entry]"], unfollowed := true, recurses := true, named := ["internal/bytealg.MaxLen", "unicode/utf8.first", "unicode/utf8.acceptRanges"], apart := false, laid := [("unicode/utf8.acceptRanges", laid_unicode_utf8_acceptRanges), ("unicode/utf8.first", laid_unicode_utf8_first)], narrowed := true }
def ListVerbatimUptoSaid : Prop := listVerbatimUptoRow.holds Tryz.pinned (OpenSpec.upto listVerbatimSpec)

/-- 'stanzakeeplaw07.ListNumbers', WHERE WHAT IT READS IS OF BULK AT MOST 1048576: true; the input reads as it did. -/
def listNumbersUptoRow : OpenClaim := { program := "ytiebbgbcojgeoaagreatdoor", sum := "e6b9d05b78a7940902013ff77d134005e0b346660ec01eaf0743f1b1617a82f4", func := "stanzakeep/stanzakeeplaw07.ListNumbers", spec := "listNumbers", inPlace := ["internal/bytealg.IndexByteString", "internal/bytealg.IndexString", "internal/abi.NoEscape", "internal/bytealg.MakeNoZero", "internal/bytealg.CountString", "slices.overlaps[stanzakeep/list.entry]"], unfollowed := true, recurses := true, named := ["internal/bytealg.MaxLen", "unicode/utf8.first", "unicode/utf8.acceptRanges"], apart := false, laid := [("unicode/utf8.acceptRanges", laid_unicode_utf8_acceptRanges), ("unicode/utf8.first", laid_unicode_utf8_first)], narrowed := true }
def ListNumbersUptoSaid : Prop := listNumbersUptoRow.holds Tryz.pinned (OpenSpec.upto listNumbersSpec)

/-- 'stanzakeeplaw07.ListCopies', WHERE WHAT IT READS IS OF BULK AT MOST 1048576: true; the input reads as it did. -/
def listCopiesUptoRow : OpenClaim := { program := "ytiebbgbcojgeoaagreatdoor", sum := "e6b9d05b78a7940902013ff77d134005e0b346660ec01eaf0743f1b1617a82f4", func := "stanzakeep/stanzakeeplaw07.ListCopies", spec := "listCopies", inPlace := ["internal/bytealg.IndexByteString", "internal/bytealg.IndexString", "internal/abi.NoEscape", "internal/bytealg.MakeNoZero", "internal/bytealg.CountString", "slices.overlaps[stanzakeep/list.entry]"], unfollowed := true, recurses := true, named := ["internal/bytealg.MaxLen", "unicode/utf8.first", "unicode/utf8.acceptRanges"], apart := false, laid := [("unicode/utf8.acceptRanges", laid_unicode_utf8_acceptRanges), ("unicode/utf8.first", laid_unicode_utf8_first)], narrowed := true }
def ListCopiesUptoSaid : Prop := listCopiesUptoRow.holds Tryz.pinned (OpenSpec.upto listCopiesSpec)

/-- 'stanzakeeplaw08.IndexFollows', WHERE WHAT IT READS IS OF BULK AT MOST 1048576: true; the input reads as it did. -/
def indexFollowsUptoRow : OpenClaim := { program := "ytiebbgbcojgeoaagreatdoor", sum := "e6b9d05b78a7940902013ff77d134005e0b346660ec01eaf0743f1b1617a82f4", func := "stanzakeep/stanzakeeplaw08.IndexFollows", spec := "indexFollows", inPlace := ["internal/bytealg.IndexByteString", "internal/bytealg.IndexString", "internal/abi.NoEscape", "internal/bytealg.MakeNoZero", "internal/bytealg.CountString", "slices.overlaps[stanzakeep/list.entry]"], unfollowed := true, recurses := true, named := ["internal/bytealg.MaxLen", "unicode/utf8.first", "unicode/utf8.acceptRanges"], apart := false, laid := [("unicode/utf8.acceptRanges", laid_unicode_utf8_acceptRanges), ("unicode/utf8.first", laid_unicode_utf8_first)], narrowed := true }
def IndexFollowsUptoSaid : Prop := indexFollowsUptoRow.holds Tryz.pinned (OpenSpec.upto indexFollowsSpec)

/-- 'stanzakeeplaw08.IndexWithin', WHERE WHAT IT READS IS OF BULK AT MOST 1048576: true; the input reads as it did. -/
def indexWithinUptoRow : OpenClaim := { program := "ytiebbgbcojgeoaagreatdoor", sum := "e6b9d05b78a7940902013ff77d134005e0b346660ec01eaf0743f1b1617a82f4", func := "stanzakeep/stanzakeeplaw08.IndexWithin", spec := "indexWithin", inPlace := ["internal/bytealg.IndexByteString", "internal/bytealg.IndexString", "internal/abi.NoEscape", "internal/bytealg.MakeNoZero"], unfollowed := true, recurses := true, named := ["internal/bytealg.MaxLen", "unicode/utf8.first", "unicode/utf8.acceptRanges"], apart := false, laid := [("unicode/utf8.acceptRanges", laid_unicode_utf8_acceptRanges), ("unicode/utf8.first", laid_unicode_utf8_first)], narrowed := true }
def IndexWithinUptoSaid : Prop := indexWithinUptoRow.holds Tryz.pinned (OpenSpec.upto indexWithinSpec)

end Rows
end Go.Proofs.YtiebbgbcojgeoaaGreatDoor
