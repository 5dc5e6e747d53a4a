/- A block is ended: endBlock. -/
import Derived.Test.YtngngamfceoklaaDoorPD
namespace Go.Proofs.YtngngamfceoklaaDoor
open Go.RowKit

theorem endItem_fit {p : PS} {kind e : Nat} {tx : List UInt8} (h : p.items.length ≤ p.at_) (h1 : p.at_ < e) : (endItemP tx p kind e).items.length ≤ (endItemP tx p kind e).at_ := by simp [endItemP]; omega
set_option maxRecDepth 100000 in
set_option maxHeartbeats 4000000 in
theorem endBlock_any {w : World} {T : Nat → Nat} {R b : Nat} {text : ByteArray} {p : PS} (h : ParserAt w T R b text p) (hR : R ≤ w.heap.size) (e : Nat) (h1 : p.at_ ≤ e) (h2 : e ≤ text.size) (h3 : text.size ≤ 1000000) (hn : p.items.length ≤ 1000000) (hs : p.stanzas ≤ 1000000) :
    Calls Tryd.prog 29 #[.pointer (some ⟨b, 0, none⟩), .int .i64 e] w fun e' w' => e' = .returned (.tuple #[]) ∧ ∃ T', ParserAt w' T' R b text (endBlockP text.data.toList p e) ∧ PStep w T w' T' := by
  obtain ⟨V, h⟩ := h
  obtain ⟨a6, c6, e6, _⟩ := own_slice h.r6
  have hl := h.lt
  have q5 : w.cell? ⟨b, 5, none⟩ = some (.int .i64 p.at_) := h.cells.cell 5
  have q6 : w.cell? ⟨b, 6, none⟩ = some (.slice a6 p.fields.length c6) := by rw [← e6]; exact h.cells.cell 6
  unfold endBlockP
  by_cases he : p.at_ = e
  · rw [if_pos he]
    have g : ParserAt w T R b text p := ⟨V, h⟩
    have x1 : ((p.at_ : Int) == (e : Int)) = true := by rw [he]; simp
    clear h
    go_enter Tryd.func29, Tryd.ntmps29
    go_wp2
    refine bodyPost_ret (results_none rfl _ _ _) rfl ?_
    exact ⟨rfl, T, g, PStep.refl _ _⟩
  · rw [if_neg he]
    have x1 : ((p.at_ : Int) == (e : Int)) = false := beq_eq_false_iff_ne.2 (by omega)
    by_cases hf : p.fields.length = 0
    · rw [if_pos hf]
      have x2 : ((p.fields.length : Int) == 0) = true := by rw [hf]; rfl
      have EI := Lib.hid (endItem_any h hR 2 e h1 h2 h3 hn)
      clear h
      go_enter Tryd.func29, Tryd.ntmps29
      go_wp2_with fail
      refine EI.out.mono ?_
      rintro e' w1 ⟨rfl, T1, g1, s1⟩
      go_wp2
      go_end0
      exact ⟨rfl, T1, g1, s1⟩
    · rw [if_neg hf]
      have x2 : ((p.fields.length : Int) == 0) = false := beq_eq_false_iff_ne.2 (by omega)
      have EI := Lib.hid (endItem_any h hR 3 e h1 h2 h3 hn)
      clear h
      go_enter Tryd.func29, Tryd.ntmps29
      go_wp2_with fail
      refine EI.out.mono ?_
      rintro e' w1 ⟨rfl, T1, ⟨V1, g1⟩, s1⟩
      have hl1 := g1.lt
      have k4 : w1.cell? ⟨b, 4, none⟩ = some (.int .i64 p.stanzas) := g1.cells.cell 4
      have kf4 := g1.cells.frozen 4
      have n1 : IntKind.i64.wrap ((p.stanzas : Int) + 1) = (p.stanzas : Int) + 1 := IntWalk.i64_in _ (by omega)
      go_wp2
      go_end0
      refine ⟨rfl, T1, ⟨V1, ?_⟩, s1.trans ⟨((Only.refl _ _).setCell (p := ⟨b, 4, none⟩) (.inl (by rw [g1.tp]; decide)) _), fun _ _ => Iff.rfl⟩⟩
      have hc : Cells (w1.setCell ⟨b, 4, none⟩ (.int .i64 ((p.stanzas : Int) + 1))) b 57 (pCells { endItemP text.data.toList p 3 e with stanzas := p.stanzas + 1 } text V1.v1 V1.v3 V1.v6) := by
        have := g1.cells.set 4 (.int .i64 ((p.stanzas : Int) + 1))
        simpa [pCells] using this
      have ne : ∀ {o : Option Nat} {t : Nat}, tagged T1 o t → t ≠ 1 → o ≠ some b := fun ht h1 e => h1 (by rw [← ht b e, g1.tp])
      exact ⟨hc, g1.tp, row_cell g1.r1 (ne g1.t1 (by decide)) _, g1.t1, row_cell g1.r3 (ne g1.t3 (by decide)) _, g1.t3, row_cell g1.r6 (ne g1.t6 (by decide)) _, g1.t6, g1.nf,
        fun i it v a c => ⟨row_cell (g1.rf i it v a c).1 (ne (g1.rf i it v a c).2 (by decide)) _, (g1.rf i it v a c).2⟩, fun k hk => by simpa [World.setCell] using g1.low k hk⟩
end Go.Proofs.YtngngamfceoklaaDoor
