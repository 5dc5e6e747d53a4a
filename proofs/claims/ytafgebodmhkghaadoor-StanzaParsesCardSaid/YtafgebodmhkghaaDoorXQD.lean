/- The document's parse in memory: the rows of lines and of kinds; behind, said. -/
import Derived.Test.YtafgebodmhkghaaDoorXQC
import Derived.Test.YtafgebodmhkghaaDoorXWM
import Derived.Test.YtafgebodmhkghaaDoorBase4
import Derived.Test.YtafgebodmhkghaaDoorXFU
set_option linter.unusedVariables false
namespace Go.Proofs.YtafgebodmhkghaaDoor
open Go.RowKit Go.Shelf

/-- A slice of lines, readable; a slice of their kinds. -/
def LnsR (w : World) (v : Value) (xs : List Ln) : Prop :=
  ∃ A cap, v = .slice A xs.length cap ∧ xs.length ≤ cap ∧ ∀ (i : Nat) (x : Ln), xs[i]? = some x → ∃ b off, A = some ⟨b, off, none⟩ ∧ b < w.heap.size ∧ w.cell? ⟨b, off + i * 4 + 1 + 1, none⟩ = some (.string (B x.text)) ∧ w.cell? ⟨b, off + i * 4 + 1 + 1 + 1, none⟩ = some (.bool x.ended)
theorem LnsR.below {w w' : World} {v : Value} {xs : List Ln} {n : Nat} (h : LnsR w v xs) (hb : Below n w w') (hn : w.heap.size ≤ n) : LnsR w' v xs := by
  obtain ⟨A, cap, hv, hle, hc⟩ := h
  refine ⟨A, cap, hv, hle, fun i x hi => ?_⟩
  obtain ⟨b, off, hA, hlt, c0, c1⟩ := hc i x hi
  have hlt' := Nat.lt_of_lt_of_le hlt hn
  exact ⟨b, off, hA, Nat.lt_of_lt_of_le hlt hb.size, (hb.cell (p := ⟨b, off + i * 4 + 1 + 1, none⟩) hlt').trans c0, (hb.cell (p := ⟨b, off + i * 4 + 1 + 1 + 1, none⟩) hlt').trans c1⟩
def KdsR (w : World) (v : Value) (xs : List Ln) : Prop :=
  ∃ A cap, v = .slice A xs.length cap ∧ xs.length ≤ cap ∧ ∀ (i : Nat) (x : Ln), xs[i]? = some x → ∃ b off, A = some ⟨b, off, none⟩ ∧ b < w.heap.size ∧ w.cell? ⟨b, off + i, none⟩ = some (.int .i64 (kindL x.text : Nat))
theorem KdsR.below {w w' : World} {v : Value} {xs : List Ln} {n : Nat} (h : KdsR w v xs) (hb : Below n w w') (hn : w.heap.size ≤ n) : KdsR w' v xs := by
  obtain ⟨A, cap, hv, hle, hc⟩ := h
  refine ⟨A, cap, hv, hle, fun i x hi => ?_⟩
  obtain ⟨b, off, hA, hlt, c0⟩ := hc i x hi
  exact ⟨b, off, hA, Nat.lt_of_lt_of_le hlt hb.size, (hb.cell (p := ⟨b, off + i, none⟩) (Nat.lt_of_lt_of_le hlt hn)).trans c0⟩
def kindCells (xs : List Ln) : List Value := xs.map fun x => .int .i64 (kindL x.text : Nat)
theorem kds_of_own {w : World} {base : Nat} {v : Value} {xs : List Ln} (h : w.ownsRow base 3 1 v xs.length (kindCells xs)) : KdsR w v xs := by
  rcases Joins.ownsRow_forms h with ⟨e, hn⟩ | ⟨g, cap, e⟩
  · have : xs = [] := List.length_eq_zero_iff.1 hn
    rw [e, this]
    exact ⟨none, 0, rfl, Nat.le_refl _, fun i it hi => by simp at hi⟩
  · refine ⟨some ⟨g, 0, none⟩, cap, e, (by rcases h.2 with ⟨q, _⟩ | ⟨g', cap', cur, q, _, _, q2, _⟩; · rw [e] at q; cases q
                                           · rw [e] at q; cases q; exact q2), fun i x hi => ?_⟩
    have hlt : i < xs.length := by
      rcases Nat.lt_or_ge i xs.length with q | q
      · exact q
      · rw [List.getElem?_eq_none q] at hi; cases hi
    rw [e] at h
    refine ⟨g, 0, rfl, (World.ownsRow.lt h g rfl).2, ?_⟩
    rw [Nat.zero_add, World.ownsRow.cellAt h i (by omega)]
    unfold kindCells
    rw [List.getElem?_map, hi]; rfl
theorem lns_of_own {w : World} {base : Nat} {v : Value} {xs : List Ln} (h : w.ownsRow base 80 4 v xs.length (cellsOf xs)) : LnsR w v xs := by
  rcases Joins.ownsRow_forms h with ⟨e, hn⟩ | ⟨g, cap, e⟩
  · have : xs = [] := List.length_eq_zero_iff.1 hn
    rw [e, this]
    exact ⟨none, 0, rfl, Nat.le_refl _, fun i it hi => by simp at hi⟩
  · refine ⟨some ⟨g, 0, none⟩, cap, e, (by rcases h.2 with ⟨q, _⟩ | ⟨g', cap', cur, q, _, _, q2, _⟩; · rw [e] at q; cases q
                                           · rw [e] at q; cases q; exact q2), fun i x hi => ?_⟩
    have hlt : i < xs.length := by
      rcases Nat.lt_or_ge i xs.length with q | q
      · exact q
      · rw [List.getElem?_eq_none q] at hi; cases hi
    rw [e] at h
    have hx : xs = xs.take i ++ x :: xs.drop (i + 1) := by
      have e := List.drop_eq_getElem_cons hlt
      rw [List.getElem?_eq_getElem hlt] at hi
      rw [Option.some.inj hi] at e
      rw [← e, List.take_append_drop]
    have hti : (xs.take i).length = i := by rw [List.length_take]; omega
    have c2 : (cellsOf xs)[i * 4 + 2]? = some (.string ⟨x.text.toArray⟩) := by
      have := cellsOf_at (xs.take i) x (xs.drop (i + 1)) 2 (by decide)
      rw [hti, ← hx] at this
      exact this
    have c3 : (cellsOf xs)[i * 4 + 3]? = some (.bool x.ended) := by
      have := cellsOf_at (xs.take i) x (xs.drop (i + 1)) 3 (by decide)
      rw [hti, ← hx] at this
      exact this
    refine ⟨g, 0, rfl, (World.ownsRow.lt h g rfl).2, ?_, ?_⟩
    · rw [Nat.zero_add, World.ownsRow.cellAt h (i * 4 + 1 + 1) (by omega)]; exact c2
    · rw [Nat.zero_add, World.ownsRow.cellAt h (i * 4 + 1 + 1 + 1) (by omega)]; exact c3
/-- Which kind the line ahead has; 0: there is none. -/
def prevK (xs : List Ln) (i : Nat) : Nat := if i = 0 then 0 else match xs[i - 1]? with | some x => kindL x.text | none => 0
set_option maxHeartbeats 1000000 in
theorem behind_any (xs : List Ln) (v : Value) (i : Nat) (w : World) (h : KdsR w v xs) (hi : i < xs.length) (hn : xs.length ≤ 1000000) :
    Calls Tryd.prog 69 #[v, .int .i64 i] w fun e w' => e = .returned (.bool (decide (prevK xs i = 4 ∨ prevK xs i = 3))) ∧ w = w' := by
  obtain ⟨A, cap, rfl, hle, hc⟩ := h
  by_cases h0 : i = 0
  · subst h0
    have e : decide (prevK xs 0 = 4 ∨ prevK xs 0 = 3) = false := rfl
    rw [e]
    clear hc
    go_enter Tryd.func69, Tryd.ntmps69
    go_wp2
    go_ret
    exact ⟨rfl, rfl⟩
  · obtain ⟨j, rfl⟩ : ∃ j, i = j + 1 := ⟨i - 1, by omega⟩
    obtain ⟨y, hy⟩ : ∃ y, xs[j]? = some y := ⟨_, List.getElem?_eq_getElem (by omega)⟩
    obtain ⟨b, off, rfl, hbb, c0⟩ := hc j y hy
    have hp : prevK xs (j + 1) = kindL y.text := by unfold prevK; rw [if_neg (by omega), Nat.add_sub_cancel, hy]
    rw [hp]
    have e1 : IntKind.i64.wrap (((j + 1 : Nat) : Int) - 1) = (j : Int) := by rw [IntWalk.i64_in _ (by omega)]; omega
    have e2 : (((j + 1 : Nat) : Int) - 1) = (j : Int) := by omega
    have e3 : (0 : Int) < ((j + 1 : Nat) : Int) := by omega
    clear hc hp hy
    rcases kindL_pos y.text with hk | hk | hk | hk | hk
    all_goals
      rw [hk] at c0 ⊢
      go_enter Tryd.func69, Tryd.ntmps69
      go_wp2
      go_ret
      exact ⟨rfl, rfl⟩
end Go.Proofs.YtafgebodmhkghaaDoor
