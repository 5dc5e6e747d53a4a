/- VfsSwaps, over what came in. -/
import Derived.Test.YtdfjkcdmbbmipaaYF
import Derived.Lib.SmallJoins
import Derived.ChangeSlices
import Derived.ChangeMaps5
namespace Go.Proofs.Ytdfjkcdmbbmipaa
open Go.RowKit Go.Maps Go.ChangeShapes Go.Joins

theorem add_block (a : Addr) (i : Nat) : (a.add i).block = a.block := by unfold Addr.add; split <;> rfl
/-- A slice of numbers that came in. -/
theorem ints_in {H : Type} {enc : TypeId × Value → H} {W : World} {base : Nat} {sp : Nat → Bool} {held : Bool} {fuel : Nat} {v : Value} {x : DataW H × List MemPlace} (h : DataW.trod enc Try.prog W base sp held fuel 38 [v] = some x) :
    ∃ ks ad, Ints W v ks ad ∧ ks.length ≤ maxLen := by
  rcases open_ints Try.underlying38 Try.underlying3 (by kernel_rfl) h with ⟨e, _⟩ | ⟨a, len, cap, zs, e, _, hl, hm, hz, _, hc, hw⟩
  · obtain rfl : v = .slice none 0 0 := by simpa using e
    exact ⟨[], ⟨0, 0, none⟩, ⟨⟨none, 0, rfl, fun h => by simp at h⟩, fun _ _ j h => by simp at h, fun k hk => by cases hk⟩, Nat.zero_le _⟩
  · obtain rfl : v = .slice (some a) len cap := by simpa using e
    have hlz : len ≤ zs.length := by rw [hz]; split <;> omega
    have hlen : (zs.take len).length = len := by rw [List.length_take]; omega
    refine ⟨zs.take len, a, ⟨⟨some a, cap, by rw [hlen], fun _ => rfl⟩, fun w' hb j hj => ?_, fun k hk => hw k (List.mem_of_mem_take hk)⟩, by rw [hlen]; omega⟩
    have hjz : j < zs.length := by omega
    have h1 := hc j hjz
    have hbl : (a.add j).block < W.heap.size := World.block_lt_of_cell? W _ h1
    rw [hb.cell hbl, h1, List.getElem_take]
    simp [List.getD, hjz]
set_option maxRecDepth 100000 in
theorem swapsCall {H : Type} {enc : TypeId × Value → H} (v : Value) (d : DataW H) (p : List MemPlace) (W : World) {b0 : Nat} (hval : Value.okWide Try.prog W .any b0 65 v) {base : Nat} {sp : Nat → Bool} {held : Bool} (h : DataW.Trod enc Try.prog W base sp held 65 v d p) :
    Calls Try.prog 7 #[v] W fun e w' => e = .returned (.bool true) ∧ Below W.heap.size W w' := by
  obtain ⟨c0, c1, c2, c3, y0, y1, y2, y3, n, rfl, _, _, h0, h1, h2, h3⟩ := open_agg4 Try.underlying65 (by kernel_rfl) (by kernel_rfl) hval h
  obtain ⟨s0, e0, _, w0⟩ := DataW.trod_string Try.underlying9 h0
  obtain ⟨s1, e1, _, w1⟩ := DataW.trod_string Try.underlying9 h1
  obtain ⟨k, e2, _, w2⟩ := DataW.trod_int Try.underlying3 h2
  obtain ⟨ks, ad, hi, hl⟩ := ints_in h3
  simp at e0 e1 e2
  subst e0 e1 e2
  exact swapsLaw s0 s1 k c3 ks ad W hi w2 w0 w1 hl
end Go.Proofs.Ytdfjkcdmbbmipaa
