/- A field's lines. -/
import Derived.Test.YtngngamfceoklaaDoorFE
import Derived.OwnWalk
import Derived.Laws.AppendOwn
import Derived.Laws.OwnMore
import Derived.Lib.SmallJoins
import Derived.StillTailTactics
namespace Go.Proofs.YtngngamfceoklaaDoor
open Go.RowKit Go.Shelf

theorem own_kept {w w' : World} {base N : Nat} {e : TypeId} {size : Nat} {v : Value} {n : Nat} {xs : List Value} (h : w.ownsRow base e size v n xs) (hb : Below N w w') (hN : w.heap.size ≤ N) : w'.ownsRow base e size v n xs := by
  refine ⟨h.1, ?_⟩
  rcases h.2 with hn | ⟨g, cap, cur, hv, hg, hc, rest⟩
  · exact .inl hn
  · refine .inr ⟨g, cap, cur, hv, hg, ?_, rest⟩
    have : g < w.heap.size := (Array.getElem?_eq_some_iff.1 hc).1
    exact (hb.block g (by omega)).trans hc
/-- An owned row of texts. -/
def OwnS (w : World) (base : Nat) (v : Value) (ss : List ByteArray) : Prop := w.ownsRow base 9 1 v ss.length (ss.map Value.string)
theorem OwnS.kept {w w' : World} {base N : Nat} {v : Value} {ss : List ByteArray} (h : OwnS w base v ss) (hb : Below N w w') (hN : w.heap.size ≤ N) : OwnS w' base v ss := own_kept h hb hN
theorem OwnS.strs {w : World} {base : Nat} {v : Value} {ss : List ByteArray} (h : OwnS w base v ss) : Strs w v ss := by
  rcases Joins.ownsRow_forms h with ⟨rfl, hn⟩ | ⟨g, cap, rfl⟩
  · have : ss = [] := by cases ss with | nil => rfl | cons _ _ => simp at hn
    subst this
    exact Strs.none _ _
  · refine ⟨_, cap, rfl, (by rcases h.2 with ⟨q, _⟩ | ⟨g', cap', cur, q, _, _, q2, _⟩; cases q; cases q; exact q2), fun i s hs => ⟨g, 0, rfl, (World.ownsRow.lt h g rfl).2, ?_⟩⟩
    have hi : i < ss.length := by
      rcases Nat.lt_or_ge i ss.length with q | q
      · exact q
      · rw [List.getElem?_eq_none q] at hs; cases hs
    rw [Nat.zero_add, World.ownsRow.cellAt h i (by omega), List.getElem?_map, hs]; rfl
theorem OwnS.one (w : World) (base : Nat) (hb : base ≤ w.heap.size) (s : ByteArray) : OwnS (w.alloc (.cells #[.string s] 9)) base (.slice (some ⟨w.heap.size, 0, none⟩) 1 1) [s] :=
  World.ownsRow_lit w #[.string s] 1 hb (by decide) rfl
theorem strCell (W : World) (x : ByteArray) (t : TypeId) : ∀ (j : Nat) u, [Value.string x][j]? = some u → (W.alloc (.cells #[.string x] t)).cell? ((⟨W.heap.size, 0, none⟩ : Addr).add j) = some u := by
  intro j u h
  have hadd : (⟨W.heap.size, 0, none⟩ : Addr).add j = ⟨W.heap.size, j, none⟩ := by unfold Addr.add; split <;> simp_all
  rw [hadd, World.cell?_alloc_at _ _ _ _ rfl]
  match j, h with
  | 0, h => simpa using h
theorem linesLen {k v : List UInt8} {p : List UInt8} {r : List (List UInt8)} (h : partsL v = p :: r) : linesL k v = firstL k p :: r.map furtherL := by unfold linesL; rw [h]; rfl
theorem le_sum : ∀ (r : List (List UInt8)) (q : List UInt8), q ∈ r → q.length ≤ (r.map List.length).sum
  | [], q, h => by simp at h
  | a :: r, q, h => by
    rcases List.mem_cons.1 h with rfl | h
    · simp
    · have := le_sum r q h; simp; omega
theorem piece_le {v p : List UInt8} {r : List (List UInt8)} (h : partsL v = p :: r) : p.length ≤ v.length ∧ (∀ q ∈ r, q.length ≤ v.length) ∧ r.length ≤ v.length := by
  have a := parts_le v
  rw [h] at a
  simp only [List.map_cons, List.sum_cons, List.length_cons] at a
  refine ⟨by omega, fun q hq => ?_, by omega⟩
  have : q.length ≤ (r.map List.length).sum := le_sum _ _ hq
  omega

attribute [local go_sem] errV_0
set_option maxHeartbeats 1000000 in
theorem lines_bad (k v : List UInt8) (hk : k.length ≤ 100000) (hv : v.length ≤ 100000) (w : World) (h : checkN k v ≠ 0) :
    Calls Tryd.prog 38 #[fieldV k v] w fun e w' => e = .returned (.tuple #[.slice none 0 0, errV (checkN k v)]) ∧ Below w.heap.size w w' := by
  have C := fun w => check_any k v (by omega) (by omega) w
  rw [errV_pos _ (Nat.pos_of_ne_zero h)] at C ⊢
  generalize checkN k v = n at *
  unfold fieldV at *
  generalize B k = s at *
  generalize B v = t at *
  go_enter Tryd.func38, Tryd.ntmps38
  go_wp2_with (go_at_call 52; refine (C _).mono ?_; rintro e w1 ⟨rfl, b1⟩; have c0 := b1.cell (p := ⟨w.heap.size, 0, none⟩) (by simp); have c1 := b1.cell (p := ⟨w.heap.size, 1, none⟩) (by simp))
  go_ret2
  exact ⟨rfl, ((Below.refl _ _).alloc (Nat.le_refl _) _).trans (b1.mono (by simp))⟩
end Go.Proofs.YtngngamfceoklaaDoor
