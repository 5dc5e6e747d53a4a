/- Fold: what is folded, plainly; the frames of a builder beside rows of texts. -/
import Derived.Test.YtngngamfceoklaaDoorFK
import Derived.Test.YtngngamfceoklaaDoorBU
import Derived.Test.YtngngamfceoklaaDoorFL
namespace Go.Proofs.YtngngamfceoklaaDoor
open Go.RowKit Go.Shelf

def foldN : List (List UInt8 × List UInt8) → Nat
  | [] => 0
  | f :: r => if checkN f.1 f.2 = 0 then foldN r else checkN f.1 f.2
def foldG (fs : List (List UInt8 × List UInt8)) : List UInt8 := fs.flatMap fun f => textL (linesL f.1 f.2)
def foldT (fs : List (List UInt8 × List UInt8)) : List UInt8 := if foldN fs = 0 then foldG fs else []
theorem foldN_le : ∀ fs, foldN fs ≤ 6
  | [] => by decide
  | f :: r => by
    unfold foldN
    split
    · exact foldN_le r
    · unfold checkN; split
      · split <;> decide
      · decide
theorem checkN_zero {k v : List UInt8} (h : checkN k v = 0) : goodKey k = true ∧ v.length ≤ 1000 := by
  unfold checkN at h
  split at h
  · rename_i hg
    split at h
    · rename_i hl; exact ⟨hg, hl⟩
    · cases h
  · cases h
theorem text_le {k v : List UInt8} (h : checkN k v = 0) : (textL (linesL k v)).length ≤ 4000 := by
  obtain ⟨a, b⟩ := checkN_zero h
  have c := (good_parts a).2.1
  rw [textL_len]
  have := lines_sum k v
  omega
theorem foldG_snoc (fs : List (List UInt8 × List UInt8)) (f : List UInt8 × List UInt8) : foldG (fs ++ [f]) = foldG fs ++ textL (linesL f.1 f.2) := by unfold foldG; simp
theorem textL_snoc (ls : List (List UInt8)) (x : List UInt8) : textL (ls ++ [x]) = (textL ls ++ x) ++ [10] := by unfold textL; simp
theorem textL_take (ls : List (List UInt8)) (j : Nat) : (textL (ls.take j)).length ≤ (textL ls).length := by
  conv => rhs; rw [← List.take_append_drop j ls, textL_append, List.length_append]
  omega
/-- A row of texts beside a builder. -/
theorem OwnS.wrote {w w' : World} {base b R : Nat} {v : Value} {ss : List ByteArray} (h : OwnS w base v ss) (hw : Wrote b R w w') {cs : Array Value} (hb : w.heap[b]? = some (.cells cs 85 (0, 0))) : OwnS w' base v ss := by
  refine ⟨h.1, ?_⟩
  rcases h.2 with hn | ⟨g, cap, cur, hv, hg, hc, rest⟩
  · exact .inl hn
  · refine .inr ⟨g, cap, cur, hv, hg, hw.other hc ?_ (by decide), rest⟩
    rintro rfl
    rw [hb] at hc
    cases hc
theorem Bld.kept {b R N : Nat} {l : List UInt8} {W W' : World} (h : Bld b R l W) (hb : Below N W W') (hN : W.heap.size ≤ N) : Bld b R l W' := by
  have hlt := h.lt
  obtain ⟨p, v, hb', hp, hv⟩ := h
  exact ⟨p, v, (hb.block b (by omega)).trans hb', hp, own_kept hv hb hN⟩
theorem Bld.cells {b R : Nat} {l : List UInt8} {W : World} (h : Bld b R l W) : ∃ cs, W.heap[b]? = some (.cells cs 85 (0, 0)) := by
  obtain ⟨p, v, hb', _⟩ := h
  exact ⟨_, hb'⟩
end Go.Proofs.YtngngamfceoklaaDoor
