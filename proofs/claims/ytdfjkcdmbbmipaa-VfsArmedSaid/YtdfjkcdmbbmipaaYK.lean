/- VfsSynced, over what came in. -/
import Derived.Test.YtdfjkcdmbbmipaaYJ
import Derived.WideShapes
namespace Go.Proofs.Ytdfjkcdmbbmipaa
open Go.RowKit Go.Maps Go.ChangeShapes Go.Joins Go.WideShapes
set_option maxRecDepth 100000 in
/-- The slice of operations that came in. -/
theorem script_of {H : Type} {enc : TypeId × Value → H} {v : Value} {d : DataW H} {p : List MemPlace} {W : World} {b0 : Nat} (hval : Value.okWide Try.prog W .any b0 22 v) {base : Nat} {sp : Nat → Bool} {held : Bool} (h : DataW.Trod enc Try.prog W base sp held 22 v d p) :
    ∃ ops a, Script W v ops a := by
  obtain ⟨n, hn⟩ := h
  obtain ⟨ao, len, cap, rfl⟩ := okWide_slice Try.underlying22 hval
  exact script_in (v := .slice ao len cap) hn
set_option maxRecDepth 100000 in
theorem syncedCall {H : Type} {enc : TypeId × Value → H} (v : Value) (d : DataW H) (p : List MemPlace) (keep : Int) (W : World) {b0 : Nat} (hval : Value.okWide Try.prog W .any b0 22 v) {base : Nat} {sp : Nat → Bool} {held : Bool} (h : DataW.Trod enc Try.prog W base sp held 22 v d p) (hw : (Lit.int .i64 keep).wf = true) :
    Calls Try.prog 4 #[v, .int .i64 keep] W fun e w' => e = .returned (.bool true) ∧ Below W.heap.size W w' := by
  obtain ⟨ops, a, hs⟩ := script_of hval h
  exact syncedLaw v ops a keep W hs hw
end Go.Proofs.Ytdfjkcdmbbmipaa
