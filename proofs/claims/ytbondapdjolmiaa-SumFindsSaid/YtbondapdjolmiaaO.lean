/- A slice of strings that came in: how it reads. -/
import Derived.Test.YtbondapdjolmiaaD
import Derived.ProofKit
import Derived.OpenShut
namespace Go.Proofs.Ytbondapdjolmiaa
open Go.RowKit Go.WideShapes Go.ChangeAt Go.ChangeShapes
structure StrsIn (w : World) (v : Value) (ss : List ByteArray) : Prop where
  strs : Strs w v ss
  len : ss.length ≤ maxLen
  each : ∀ (i : Nat) (s : ByteArray), ss[i]? = some s → s.size ≤ maxLen
theorem open_strs {P : Program} {H : Type} {enc : TypeId × Value → H} {W : World} {base : Nat} {held : Bool} {t e : TypeId} {v : Value} {d : DataW H} {p : List MemPlace} {r : Reach} {b0 : Nat}
    (ht : P.underlying t = some (.slice e)) (he : P.underlying e = some .string) (hc : P.cellsOf e = 1)
    (hv : Value.okWide P W r b0 t v) (h : DataW.Trod enc P W base (fun _ => true) held t v d p) : ∃ ss, StrsIn W v ss := by
  obtain ⟨a0, len, cap, rfl⟩ := okWide_slice ht hv
  obtain ⟨fuel, hf⟩ := h
  rcases open_strings ht he hc hf with ⟨hcs, _⟩ | ⟨a, len', cap', ss, hcs, _, hl, hm, hz, _, hcell, hws⟩
  · simp [Value.cells] at hcs
    obtain ⟨rfl, rfl, rfl⟩ := hcs
    exact ⟨[], ⟨⟨none, 0, rfl, fun i s h => by simp at h⟩, by simp, fun i s h => by simp at h⟩⟩
  · simp [Value.cells] at hcs
    obtain ⟨rfl, rfl, rfl⟩ := hcs
    have hz' : ss.length = cap := by simpa using hz
    refine ⟨ss.take len, ⟨⟨some a, cap, by simp; omega, fun i s h => ?_⟩, by simp; omega, fun i s h => hws s ?_⟩⟩
    · have hi : i < (ss.take len).length := by
        rcases Nat.lt_or_ge i (ss.take len).length with h' | h'
        · exact h'
        · rw [List.getElem?_eq_none h'] at h; cases h
      have hi' : i < ss.length := by simp at hi; omega
      have h0 := hcell 0 (by omega)
      obtain ⟨b, off, spot⟩ := a
      have hspot : spot = none := by simpa [Addr.add] using World.cell?_spot h0
      subst hspot
      have hc := hcell i hi'
      rw [add_plain] at hc
      have hs : ss.getD i ByteArray.empty = s := by
        rw [List.getElem?_take] at h
        rw [if_pos (by simp at hi; omega)] at h
        simp [List.getD, h]
      rw [hs] at hc
      exact ⟨b, off, rfl, block_lt_of_cell hc, hc⟩
    · have := List.mem_of_getElem? h
      exact List.mem_of_mem_take this
end Go.Proofs.Ytbondapdjolmiaa
