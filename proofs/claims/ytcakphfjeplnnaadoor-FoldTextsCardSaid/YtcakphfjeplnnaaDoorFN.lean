/- Fold: what is folded, plainly; the frames of a builder beside rows of texts. -/
import Derived.Test.YtcakphfjeplnnaaDoorFK
import Derived.Test.YtcakphfjeplnnaaDoorBU
namespace Go.Proofs.YtcakphfjeplnnaaDoor
open Go.RowKit Go.Shelf

/-- A slice of fields, readable. -/
def Flds (w : World) (v : Value) (fs : List (List UInt8 × List UInt8)) : Prop :=
  ∃ A cap, v = .slice A fs.length cap ∧ fs.length ≤ cap ∧ ∀ (i : Nat) (f : List UInt8 × List UInt8), fs[i]? = some f → ∃ b off, A = some ⟨b, off, none⟩ ∧ b < w.heap.size ∧ w.cell? ⟨b, off + i * 2, none⟩ = some (.string (B f.1)) ∧ w.cell? ⟨b, off + i * 2 + 1, none⟩ = some (.string (B f.2))
theorem Flds.below {w w' : World} {v : Value} {fs : List (List UInt8 × List UInt8)} {n : Nat} (h : Flds w v fs) (hb : Below n w w') (hn : w.heap.size ≤ n) : Flds w' v fs := by
  obtain ⟨A, cap, hv, hle, hc⟩ := h
  refine ⟨A, cap, hv, hle, fun i s hs => ?_⟩
  obtain ⟨b, off, hA, hlt, c0, c1⟩ := hc i s hs
  exact ⟨b, off, hA, Nat.lt_of_lt_of_le hlt hb.size, (hb.cell (p := ⟨b, off + i * 2, none⟩) (Nat.lt_of_lt_of_le hlt hn)).trans c0, (hb.cell (p := ⟨b, off + i * 2 + 1, none⟩) (Nat.lt_of_lt_of_le hlt hn)).trans c1⟩
theorem Flds.one (w : World) (t : TypeId) (k v : List UInt8) : Flds (w.alloc (.cells #[.string (B k), .string (B v)] t)) (.slice (some ⟨w.heap.size, 0, none⟩) 1 1) [(k, v)] := by
  refine ⟨_, 1, rfl, Nat.le_refl _, fun i f h => ⟨w.heap.size, 0, rfl, by simp, ?_⟩⟩
  rw [World.cell?_alloc_at _ _ _ _ rfl, World.cell?_alloc_at _ _ _ _ rfl]
  match i, h with
  | 0, h => simp at h; subst h; exact ⟨rfl, rfl⟩
  | n + 1, h => simp at h
theorem Flds.two (w : World) (t : TypeId) (k v k' v' : List UInt8) : Flds (w.alloc (.cells #[.string (B k), .string (B v), .string (B k'), .string (B v')] t)) (.slice (some ⟨w.heap.size, 0, none⟩) 2 2) [(k, v), (k', v')] := by
  refine ⟨_, 2, rfl, Nat.le_refl _, fun i f h => ⟨w.heap.size, 0, rfl, by simp, ?_⟩⟩
  rw [World.cell?_alloc_at _ _ _ _ rfl, World.cell?_alloc_at _ _ _ _ rfl]
  match i, h with
  | 0, h => simp at h; subst h; exact ⟨rfl, rfl⟩
  | 1, h => simp at h; subst h; exact ⟨rfl, rfl⟩
  | n + 2, h => simp at h

def foldN : List (List UInt8 × List UInt8) → Nat
  | [] => 0
  | f :: r => if checkN f.1 f.2 = 0 then foldN r else checkN f.1 f.2
def foldG (fs : List (List UInt8 × List UInt8)) : List UInt8 := fs.flatMap fun f => textL (linesL f.1 f.2)
def foldT (fs : List (List UInt8 × List UInt8)) : List UInt8 := if foldN fs = 0 then foldG fs else []
theorem foldN_le : ∀ fs, foldN fs ≤ 6
  | [] => by decide
  | f :: r => by
    unfold foldN
    split
    · exact foldN_le r
    · unfold checkN; split
      · split <;> decide
      · decide
theorem checkN_zero {k v : List UInt8} (h : checkN k v = 0) : goodKey k = true ∧ v.length ≤ 1000 := by
  unfold checkN at h
  split at h
  · rename_i hg
    split at h
    · rename_i hl; exact ⟨hg, hl⟩
    · cases h
  · cases h
theorem text_le {k v : List UInt8} (h : checkN k v = 0) : (textL (linesL k v)).length ≤ 4000 := by
  obtain ⟨a, b⟩ := checkN_zero h
  have c := (good_parts a).2.1
  rw [textL_len]
  have := lines_sum k v
  omega
theorem foldG_snoc (fs : List (List UInt8 × List UInt8)) (f : List UInt8 × List UInt8) : foldG (fs ++ [f]) = foldG fs ++ textL (linesL f.1 f.2) := by unfold foldG; simp
theorem textL_snoc (ls : List (List UInt8)) (x : List UInt8) : textL (ls ++ [x]) = (textL ls ++ x) ++ [10] := by unfold textL; simp
theorem textL_take (ls : List (List UInt8)) (j : Nat) : (textL (ls.take j)).length ≤ (textL ls).length := by
  conv => rhs; rw [← List.take_append_drop j ls, textL_append, List.length_append]
  omega
/-- A row of texts beside a builder. -/
theorem OwnS.wrote {w w' : World} {base b R : Nat} {v : Value} {ss : List ByteArray} (h : OwnS w base v ss) (hw : Wrote b R w w') {cs : Array Value} (hb : w.heap[b]? = some (.cells cs 68 (0, 0))) : OwnS w' base v ss := by
  refine ⟨h.1, ?_⟩
  rcases h.2 with hn | ⟨g, cap, cur, hv, hg, hc, rest⟩
  · exact .inl hn
  · refine .inr ⟨g, cap, cur, hv, hg, hw.other hc ?_ (by decide), rest⟩
    rintro rfl
    rw [hb] at hc
    cases hc
theorem Bld.kept {b R N : Nat} {l : List UInt8} {W W' : World} (h : Bld b R l W) (hb : Below N W W') (hN : W.heap.size ≤ N) : Bld b R l W' := by
  have hlt := h.lt
  obtain ⟨p, v, hb', hp, hv⟩ := h
  exact ⟨p, v, (hb.block b (by omega)).trans hb', hp, own_kept hv hb hN⟩
theorem Bld.cells {b R : Nat} {l : List UInt8} {W : World} (h : Bld b R l W) : ∃ cs, W.heap[b]? = some (.cells cs 68 (0, 0)) := by
  obtain ⟨p, v, hb', _⟩ := h
  exact ⟨_, hb'⟩
end Go.Proofs.YtcakphfjeplnnaaDoor
