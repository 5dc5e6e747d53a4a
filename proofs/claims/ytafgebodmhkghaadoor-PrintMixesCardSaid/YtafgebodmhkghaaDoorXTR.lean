/- PrintMixes' walk. -/
import Derived.Test.YtafgebodmhkghaaDoorBase4
set_option linter.unusedVariables false
namespace Go.Proofs.YtafgebodmhkghaaDoor
open Go.RowKit Go.Shelf Go.ChangeShapes Go.WideShapes

theorem pick_raw (l : List It) (k : Nat) : ((pickI l k).flatMap It.raw).length + ((l.take k).flatMap It.raw).length ≤ ((l.take (k + 1)).flatMap It.raw).length := by
  rw [List.take_add_one, List.flatMap_append, List.length_append]
  unfold pickI
  cases h : l[k]? with
  | none => simp only [List.flatMap_nil, List.length_nil, Option.toList_none]; omega
  | some it =>
    simp only [Option.toList_some]
    split
    · omega
    · simp only [List.flatMap_nil, List.length_nil]; omega
theorem mix_raw (turn : Bool) (l m : List It) : ∀ k, ((mixTo turn l m k).flatMap It.raw).length ≤ ((l.take k).flatMap It.raw).length + ((m.take k).flatMap It.raw).length
  | 0 => by simp [mixTo]
  | k + 1 => by
    have ih := mix_raw turn l m k
    have h1 := pick_raw l k
    have h2 := pick_raw m k
    show (((mixTo turn l m k ++ pickI l k) ++ (if turn = true then pickI m k else [])).flatMap It.raw).length ≤ _
    rw [List.flatMap_append, List.flatMap_append, List.length_append, List.length_append]
    split
    · omega
    · simp only [List.flatMap_nil, List.length_nil]; omega
theorem apart_raws : ∀ (b : Bool) (l : List It), ((apartOn b l).flatMap It.raw).length ≤ (l.flatMap It.raw).length + l.length
  | b, [] => by simp [apartOn]
  | b, x :: r => by
    have ih := apart_raws (x.kind != 1) r
    show (((if b = true ∧ x.kind ≠ 1 then [(⟨1, [10], []⟩ : It)] else []) ++ x :: apartOn (x.kind != 1) r).flatMap It.raw).length ≤ _
    rw [List.flatMap_append, List.length_append, List.flatMap_cons, List.length_append, List.flatMap_cons, List.length_append, List.length_cons]
    split
    · simp only [List.flatMap_cons, List.flatMap_nil, List.append_nil, List.length_cons, List.length_nil]; omega
    · simp only [List.flatMap_nil, List.length_nil]; omega
theorem raws_take (l : List It) (k : Nat) : ((l.take k).flatMap It.raw).length ≤ (l.flatMap It.raw).length := by
  conv => rhs; rw [← List.take_append_drop k l, List.flatMap_append, List.length_append]
  omega
theorem Its.lone (w : World) (t : TypeId) (it : It) (fv : Value) (hf : Flds w fv it.fields) : Its (w.alloc (.cells #[.int .i64 it.kind, .string (B it.raw), fv] t)) (.slice (some ⟨w.heap.size, 0, none⟩) 1 1) [it] := by
  refine ⟨_, 1, rfl, Nat.le_refl _, fun i x h => ?_⟩
  match i, h with
  | 0, h =>
    simp at h; subst h
    refine ⟨w.heap.size, 0, fv, rfl, by simp, ?_, ?_, ?_, hf.below ((Below.refl _ _).alloc (Nat.le_refl _) _) (Nat.le_refl _)⟩
    · rw [World.cell?_alloc_at _ _ _ _ (by simp)]; rfl
    · rw [World.cell?_alloc_at _ _ _ _ (by simp)]; rfl
    · rw [World.cell?_alloc_at _ _ _ _ (by simp)]; rfl
  | n + 1, h => simp at h
/-- The fields' slices that are nil have no room. -/
def NilF (fvs : List Value) : Prop := ∀ x ∈ fvs, ∀ n c, x = .slice none n c → c = 0
theorem NilF.snoc {fvs : List Value} {x : Value} (h : NilF fvs) (hx : ∀ n c, x = .slice none n c → c = 0) : NilF (fvs ++ [x]) := by
  intro y hy
  rcases List.mem_append.1 hy with hy | hy
  · exact h y hy
  · rw [List.mem_singleton.1 hy]; exact hx
theorem AccI.nilI {w wr : World} {v : Value} {fvs : List Value} {its : List It} (h : AccI w wr v fvs its) (hn : NilF fvs) : NilI wr v its := by
  intro i b off n cap m c e hlt hcell
  obtain ⟨it, hi⟩ : ∃ it, its[i]? = some it := ⟨_, List.getElem?_eq_getElem hlt⟩
  obtain ⟨fv, hfv⟩ : ∃ fv, fvs[i]? = some fv := ⟨_, List.getElem?_eq_getElem (by rw [h.len]; exact hlt)⟩
  obtain ⟨_, _, a2⟩ := itemsCells_at _ _ i it fv hi hfv
  have hr := h.row
  rcases Go.Joins.ownsRow_forms hr with ⟨e', hn'⟩ | ⟨g, cap', e'⟩
  · omega
  · rw [e'] at e hr
    cases e
    rw [Nat.zero_add, World.ownsRow.cellAt hr (i * 3 + 1 + 1) (by omega), a2] at hcell
    injection hcell with hcell
    exact hn fv (List.mem_of_getElem? hfv) m c hcell
theorem mix_blk {a b : List UInt8} {l m : List It} (ha : parseL a = .ok l) (hb : parseL b = .ok m) (turn : Bool) (k : Nat) : ∀ it ∈ mixTo turn l m k, Blk it := by
  intro it hi
  obtain ⟨h1, h2⟩ := mix_mem k hi
  rcases h1 with h1 | h1
  · exact (parse_blks ha).1 it h1 h2
  · exact (parse_blks hb).1 it h1 h2
theorem mix_parse {a b : List UInt8} {l m : List It} (ha : parseL a = .ok l) (hb : parseL b = .ok m) (turn : Bool) (k : Nat) (hn : (mixTo turn l m k).length ≤ 400) :
    parseL ((apartL (mixTo turn l m k)).flatMap It.raw) = .ok (apartL (mixTo turn l m k)) ∧ ((apartL (mixTo turn l m k)).flatMap It.raw).length ≤ a.length + b.length + 400 := by
  refine ⟨parse_between _ hn (mix_blk ha hb turn k), ?_⟩
  have h1 := apart_raws false (mixTo turn l m k)
  have h2 := mix_raw turn l m k
  have h3 := raws_take l k
  have h4 := raws_take m k
  have h5 := (parse_join ha).1
  have h6 := (parse_join hb).1
  rw [h5] at h3
  rw [h6] at h4
  unfold apartL
  omega
end Go.Proofs.YtafgebodmhkghaaDoor
