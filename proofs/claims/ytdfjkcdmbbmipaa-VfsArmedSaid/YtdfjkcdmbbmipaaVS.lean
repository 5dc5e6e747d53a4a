/- A disk's files: kept, waited for, found; a new disk. -/
import Derived.Test.YtdfjkcdmbbmipaaVR
namespace Go.Proofs.Ytdfjkcdmbbmipaa
open Go.RowKit Go.Maps

theorem getElem_set3 (cur : Array Value) (i : Nat) (v : Value) (h : cur[i]? = some v) : cur.setIfInBounds i v = cur := by
  apply Array.ext'
  simp only [Array.toList_setIfInBounds]
  obtain ⟨hlt, he⟩ := Array.getElem?_eq_some_iff.1 h
  rw [← he]
  exact List.set_getElem_self (by simpa using hlt)

def FileA.more (f : FileA) (a : ActA) : FileA := ⟨f.sure, f.waits ++ [a]⟩
theorem fkeep_disk {w : World} {T : Nat → Nat} {p n : Nat} {D : ADisk} {V : Vals} (h : DiskV w T p D V) (hf : Fine n D) (hn : n ≤ 500000) {i : Nat} (hi : i < D.files.length) {g cap m : Nat} (e8 : V.v8 = .slice (some ⟨g, 0, none⟩) m cap) (u0 : Int) (hw : (Lit.int .i64 u0).wf = true) :
    Calls Try.prog 53 #[.pointer (some ⟨g, i * 3, none⟩), .int .i64 u0] w fun e w' => e = .returned (.tuple #[]) ∧
      ∃ T' V', DiskV w' T' p { D with files := D.files.set i (D.files[i].kept u0) } V' ∧ Step w T w' T' ∧ V'.v8 = V.v8 := by
  obtain ⟨g', cap', cur, e, hc, h1, h2, h3, h4, tg, hfa⟩ := h.file hi
  rw [e] at e8
  obtain ⟨rfl, rfl, rfl⟩ : g' = g ∧ D.files.length = m ∧ cap' = cap := by cases e8; exact ⟨rfl, rfl, rfl⟩
  have ok := hf.files _ (List.getElem_mem hi)
  have hi' : i < V.fvs.length := by rw [h.nf]; exact hi
  have hsl : D.files[i].sure.data.toList.length = D.files[i].sure.size := (Lib.size_eq _).symm
  refine (fkeep_any g' (i * 3) cur D.files[i].sure V.fvs[i] D.files[i].waits _ u0 w hc hfa (by rw [← hsl]; exact ok.fits) (by have := ok.len; omega) hw (fun a ha => by have := ok.kinds a ha; omega) (by have := ok.many; omega)).mono ?_
  rintro e' w' ⟨rfl, hc', ho⟩
  refine ⟨rfl, ?_⟩
  have hk : (D.files[i].kept u0).seen = afterF D.files[i].waits u0 D.files[i].sure.data.toList := rfl
  obtain ⟨T', hd, hs⟩ := h.fturned hi (D.files[i].kept u0) (.slice none 0 0) e h1 h2 h3 h4 (by rw [hk]; exact hc') (World.ownsRow_nil _ _ _ _) (.inr rfl) (ho.mono fun r _ e => .inl e)
  exact ⟨T', _, hd, hs, rfl⟩
theorem fwait_disk {w : World} {T : Nat → Nat} {p n : Nat} {D : ADisk} {V : Vals} (h : DiskV w T p D V) (hf : Fine n D) (hn : n ≤ 500000) {i : Nat} (hi : i < D.files.length) {g cap m : Nat} (e8 : V.v8 = .slice (some ⟨g, 0, none⟩) m cap) (a : ActA)
    (ha : a.kind = 2 ∨ a.kind = 3) (hat : a.kind = 3 → a.at_ ≤ D.files[i].seen.length) (hb : a.bytes.size ≤ 1000) :
    Calls Try.prog 52 #[.pointer (some ⟨g, i * 3, none⟩), .agg #[.int .i64 a.kind, .string a.name, .string a.other, .string a.bytes, .int .i64 a.at_]] w fun e w' => e = .returned (.tuple #[]) ∧
      ∃ T' V', DiskV w' T' p { D with files := D.files.set i (D.files[i].more a) } V' ∧ Step w T w' T' := by
  obtain ⟨g', cap', cur, e, hc, h1, h2, h3, h4, tg, hfa⟩ := h.file hi
  rw [e] at e8
  obtain ⟨rfl, rfl, rfl⟩ : g' = g ∧ D.files.length = m ∧ cap' = cap := by cases e8; exact ⟨rfl, rfl, rfl⟩
  have ok := hf.files _ (List.getElem_mem hi)
  have hi' : i < V.fvs.length := by rw [h.nf]; exact hi
  have hsl : D.files[i].sure.data.toList.length = D.files[i].sure.size := (Lib.size_eq _).symm
  have hseen : D.files[i].seen.length ≤ n := by
    have := seenL_length_le D.files[i].waits D.files[i].sure.data.toList
    have := ok.len; unfold FileA.seen; omega
  have ti := (h.rf i hi hi').2
  have hne : (V.fvs[i]).ownBlock ≠ some g' := fun e => by have := ti g' e; omega
  have fin : ∀ (size' : Int) (w' : World), Waited g' (i * 3) cur V.fvs[i] D.files[i].waits.length (actsCells D.files[i].waits) a.cells size' w w' → size' = ((D.files[i].more a).seen.length : Nat) →
      ∃ T' V', DiskV w' T' p { D with files := D.files.set i (D.files[i].more a) } V' ∧ Step w T w' T' := by
    rintro _ w' ⟨⟨v', hc', hr, hk⟩, ho⟩ rfl
    obtain ⟨T', hd, hs⟩ := h.fturned hi (D.files[i].more a) v' e h1 h2 h3 h4 (by
      have e0 : cur[i * 3]? = some (.string D.files[i].sure) := by rw [← hc.cell]; exact hfa.c0
      have e1 : cur.setIfInBounds (i * 3) (.string (D.files[i].more a).sure) = cur := getElem_set3 cur _ _ e0
      rw [e1]; exact hc') (by
      show w'.ownsRow 0 _ 5 v' (D.files[i].waits ++ [a]).length (actsCells (D.files[i].waits ++ [a]))
      rw [List.length_append, actsCells_snoc]; exact hr) (.inl hk) ho
    exact ⟨T', _, hd, hs⟩
  have hsn : (D.files[i].more a).seen = stepF D.files[i].seen a := seenL_snoc _ _ _
  obtain ⟨kind, name, other, bytes, at_⟩ := a
  rcases ha with hk | hk
  · dsimp only at hk
    subst hk
    refine (wait_write g' (i * 3) cur V.fvs[i] D.files[i].seen.length D.files[i].waits.length (actsCells D.files[i].waits) name other bytes at_ w hc (by rw [← hc.cell]; exact hfa.c1) (by rw [← hc.cell]; exact hfa.c2) hfa.row hne (by have := ok.many; omega) (by omega) (by dsimp only at hb; omega)).mono ?_
    rintro e' w' ⟨rfl, hd⟩
    refine ⟨rfl, fin _ w' hd ?_⟩
    rw [hsn]
    unfold stepF
    rw [if_neg (by show ¬ (2 : Nat) = 3; decide), List.length_append, ← Lib.size_eq]
    simp
  · dsimp only at hk
    subst hk
    refine (wait_cut g' (i * 3) cur V.fvs[i] D.files[i].seen.length D.files[i].waits.length (actsCells D.files[i].waits) name other bytes at_ w hc (by rw [← hc.cell]; exact hfa.c1) (by rw [← hc.cell]; exact hfa.c2) hfa.row hne (by have := ok.many; omega)).mono ?_
    rintro e' w' ⟨rfl, hd⟩
    refine ⟨rfl, fin _ w' hd ?_⟩
    rw [hsn]
    unfold stepF
    rw [if_pos rfl, List.length_take]
    have := hat rfl
    dsimp only at this
    simp; omega
theorem after_disk {w : World} {T : Nat → Nat} {p n : Nat} {D : ADisk} {V : Vals} (h : DiskV w T p D V) (hf : Fine n D) (hn : n ≤ 500000) {i : Nat} (hi : i < D.files.length) {g cap m : Nat} (e8 : V.v8 = .slice (some ⟨g, 0, none⟩) m cap) (u0 : Int) (hw : (Lit.int .i64 u0).wf = true) :
    Calls Try.prog 54 #[.pointer (some ⟨g, i * 3, none⟩), .int .i64 u0] w fun e w' => e = .returned (.string ⟨(afterF D.files[i].waits u0 D.files[i].sure.data.toList).toArray⟩) ∧ Below w.heap.size w w' := by
  obtain ⟨g', cap', cur, e, hc, h1, h2, h3, h4, tg, hfa⟩ := h.file hi
  rw [e] at e8
  obtain ⟨rfl, rfl, rfl⟩ : g' = g ∧ D.files.length = m ∧ cap' = cap := by cases e8; exact ⟨rfl, rfl, rfl⟩
  have ok := hf.files _ (List.getElem_mem hi)
  have hi' : i < V.fvs.length := by rw [h.nf]; exact hi
  have hsl : D.files[i].sure.data.toList.length = D.files[i].sure.size := (Lib.size_eq _).symm
  exact after_any g' (i * 3) D.files[i].sure V.fvs[i] D.files[i].waits _ u0 w hfa hc.lt (by rw [← hsl]; exact ok.fits) (by have := ok.len; omega) hw (fun a ha => by have := ok.kinds a ha; omega) (by have := ok.many; omega)

/-- find, of a disk, by names in a new row. -/
theorem find_disk {w W : World} {T : Nat → Nat} {p n : Nat} {D : ADisk} {V : Vals} (h : DiskV w T p D V) (z : ByteArray) (zr : List ByteArray) (cap : Nat) (hb : Below w.heap.size w W) (hl : w.heap.size < W.heap.size)
    (hcl : ∀ j (h : j < (z :: zr).length), W.cell? ⟨w.heap.size, j, none⟩ = some (.string (z :: zr)[j])) (hs : ∀ x ∈ z :: zr, x.size ≤ 1000000) (hlen : (z :: zr).length ≤ 1000) :
    Calls Try.prog 50 #[.pointer (some ⟨p, 0, none⟩), .slice (some ⟨w.heap.size, 0, none⟩) (z :: zr).length cap] W fun e w' =>
      e = .returned (.tuple #[.int .i64 (findR (readyE D.gone (z :: zr)) (dget D.seen z.data.toList)).1, errV (findR (readyE D.gone (z :: zr)) (dget D.seen z.data.toList)).2]) ∧ Below w.heap.size w w' := by
  have h2 := h.below hb
  refine (find_any z zr w.heap.size cap p D.units D.armed D.left D.gone D.room V.v5 V.v6 V.v7 V.v8 V.v9 D.seen.length D.seen W h2.cells h2.m6 hcl hl hs hlen).mono ?_
  rintro e w' ⟨rfl, hb2⟩
  exact ⟨rfl, hb.trans (hb2.mono hb.size)⟩
theorem ready_disk {w W : World} {T : Nat → Nat} {p n : Nat} {D : ADisk} {V : Vals} (h : DiskV w T p D V) (zs : List ByteArray) (cap : Nat) (hb : Below w.heap.size w W) (hl : w.heap.size < W.heap.size)
    (hcl : ∀ j (h : j < zs.length), W.cell? ⟨w.heap.size, j, none⟩ = some (.string zs[j])) (hs : ∀ x ∈ zs, x.size ≤ 1000000) (hlen : zs.length ≤ 1000) :
    Calls Try.prog 46 #[.pointer (some ⟨p, 0, none⟩), .slice (some ⟨w.heap.size, 0, none⟩) zs.length cap] W fun e w' => e = .returned (errV (readyE D.gone zs)) ∧ Below w.heap.size w w' := by
  have h2 := h.below hb
  refine (ready_any zs w.heap.size cap p D.units D.armed D.left D.gone D.room V.v5 V.v6 V.v7 V.v8 V.v9 W h2.cells hcl hl hs hlen).mono ?_
  rintro e w' ⟨rfl, hb2⟩
  exact ⟨rfl, hb.trans (hb2.mono hb.size)⟩
end Go.Proofs.Ytdfjkcdmbbmipaa
