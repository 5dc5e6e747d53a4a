/- Fields that came in; FoldApart. -/
import Derived.Test.YtcakphfjeplnnaaDoorFW
import Derived.Lib.SmallJoins
import Derived.ChangeSlices
import Derived.ChangeMaps5
import Derived.WideShapes
namespace Go.Proofs.YtcakphfjeplnnaaDoor
open Go.RowKit Go.Maps Go.ChangeShapes Go.Joins Go.WideShapes

set_option maxRecDepth 100000 in
theorem field_of {H : Type} {enc : TypeId × Value → H} (v : Value) (d : DataW H) (p : List MemPlace) (W : World) {b0 : Nat} (hval : Value.okWide Tryd.prog W .any b0 23 v) {base : Nat} {sp : Nat → Bool} {held : Bool} (h : DataW.Trod enc Tryd.prog W base sp held 23 v d p) :
    ∃ k x : List UInt8, v = fieldV k x := by
  obtain ⟨c0, c1, y0, y1, n, rfl, _, _, h0, h1⟩ := open_agg2 Tryd.underlying23 (by kernel_rfl) (by kernel_rfl) hval h
  obtain ⟨s0, e0, _, w0⟩ := DataW.trod_string Tryd.underlying9 h0
  obtain ⟨s1, e1, _, w1⟩ := DataW.trod_string Tryd.underlying9 h1
  simp at e0 e1
  subst e0 e1
  exact ⟨s0.data.toList, s1.data.toList, by unfold fieldV; rw [B_of, B_of]⟩
set_option maxRecDepth 100000 in
theorem apartCall {H : Type} {enc : TypeId × Value → H} (v : Value) (d : DataW H) (p : List MemPlace) (v' : Value) (d' : DataW H) (p' : List MemPlace) (W : World) {b0 b0' : Nat} (hval : Value.okWide Tryd.prog W .any b0 23 v) {base base' : Nat} {sp sp' : Nat → Bool} {held held' : Bool} (h : DataW.Trod enc Tryd.prog W base sp held 23 v d p)
    (hval' : Value.okWide Tryd.prog W .any b0' 23 v') (h' : DataW.Trod enc Tryd.prog W base' sp' held' 23 v' d' p') :
    Calls Tryd.prog 7 #[v, v'] W fun e w' => e = .returned (.bool true) ∧ Below W.heap.size W w' := by
  obtain ⟨k, x, rfl⟩ := field_of v d p W hval h
  obtain ⟨k', x', rfl⟩ := field_of v' d' p' W hval' h'
  exact apartLaw k x k' x' W
end Go.Proofs.YtcakphfjeplnnaaDoor
