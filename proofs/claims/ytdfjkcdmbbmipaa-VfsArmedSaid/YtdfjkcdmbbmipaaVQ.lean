/- A disk in memory behind a directory made sure, and behind what is done with one of its files. -/
import Derived.Test.YtdfjkcdmbbmipaaVP
namespace Go.Proofs.Ytdfjkcdmbbmipaa
open Go.RowKit Go.Maps

/-- Behind a directory that was made sure. -/
theorem DiskV.dkept {w w' : World} {T : Nat → Nat} {p : Nat} {D : ADisk} {V : Vals} {nm k : Nat} (h : DiskV w T p D V)
    (hd : DKept p (fun x y => diskCells D.units D.armed D.left D.gone D.room V.v5 x y V.v8 V.v9) V.v5 nm (dplay (D.waits.take k) D.sure) w w') :
    ∃ T' v6', DiskV w' T' p { D with sure := dplay (D.waits.take k) D.sure, waits := [] } { V with v6 := v6', v7 := .slice none 0 0 } ∧ Step w T w' T' := by
  obtain ⟨⟨v6', hc, m5, m6, hnil, hk⟩, ho⟩ := hd
  have hl : ∀ {o : Option Nat} {t : Nat}, tagged T o t → t ≠ 0 → ∀ b, o = some b → b < w.heap.size := fun ht hne b hb => h.low b (by rw [ht b hb]; exact hne)
  have hk' : sameOr w.heap.size w'.heap.size none (mapBlock v6') := hk
  have hs : ∀ b, T b ≠ 0 → T b ≠ 1 → T b ≠ 2 → w'.heap[b]? = w.heap[b]? := fun b hb h1 h2 => ho.same b (h.low b hb) (by
    rintro (e | e)
    · exact h1 (by rw [e]; exact h.tp)
    · exact h2 (h.t5 b e.symm))
  have s : ∀ {o : Option Nat} {t : Nat}, tagged T o t → 3 ≤ t → ∀ b, o = some b → w'.heap[b]? = w.heap[b]? := fun ht hne b hb => hs b (by rw [ht b hb]; omega) (by rw [ht b hb]; omega) (by rw [ht b hb]; omega)
  refine ⟨retag T w.heap.size (mapBlock v6') 3, v6', ?_, ⟨ho.mono fun r _ e => by rcases e with e | e; rw [e, h.tp]; decide; rw [h.t5 r e.symm]; decide, fun r hr => retag_old hr⟩⟩
  refine ⟨hc, by rw [retag_old h.cells.lt]; exact h.tp, mapAt_fit m5, retag_other h.t5 (hl h.t5 (by decide)), mapAt_fit m6, retag_same hk' (fun b hb => by cases hb), hnil, fun _ => ⟨rfl, rfl⟩, World.ownsRow_nil _ _ _ _, (fun b hb => by cases hb),
    row_same h.r8 (s h.t8 (by decide)), retag_other h.t8 (hl h.t8 (by decide)), row_same h.r9 (s h.t9 (by decide)), retag_other h.t9 (hl h.t9 (by decide)), h.nf, fun i h1 h2 => ?_, retag_zero h.low ho.size hk' (fun k hk => by cases hk)⟩
  have := h.rf i h1 h2
  exact ⟨row_same this.1 (s this.2 (by omega)), retag_other this.2 (hl this.2 (by omega))⟩

theorem row_cells {w : World} {e : TypeId} {size : Nat} {v : Value} {n : Nat} {xs : List Value} (h : w.ownsRow 0 e size v n xs) (hn : 0 < n) :
    ∃ g cap cur, v = .slice (some ⟨g, 0, none⟩) n cap ∧ Cells w g e cur ∧ n ≤ cap ∧ cap ≤ maxLen ∧ cur.size = cap * size ∧ cur.toList.take (n * size) = xs := by
  rcases h.2 with ⟨_, h⟩ | ⟨g, cap, cur, rfl, _, hg, h1, h2, h3, h4⟩
  · omega
  · exact ⟨g, cap, cur, rfl, hg, h1, h2, h3, h4⟩
theorem row_of_cells {w : World} {e : TypeId} {size : Nat} {g n cap : Nat} {cur : Array Value} {xs : List Value} (hc : Cells w g e cur) (h1 : n ≤ cap) (h2 : cap ≤ maxLen) (h3 : cur.size = cap * size) (h4 : cur.toList.take (n * size) = xs) (hl : xs.length = n * size) :
    w.ownsRow 0 e size (.slice (some ⟨g, 0, none⟩) n cap) n xs := ⟨hl, .inr ⟨g, cap, cur, rfl, Nat.zero_le _, hc, h1, h2, h3, h4⟩⟩
theorem files_at : ∀ (fs : List FileA) (vs : List Value) (i : Nat) (h : i < fs.length) (h' : i < vs.length), (filesCells fs vs)[i * 3]? = some (.string fs[i].sure) ∧ (filesCells fs vs)[i * 3 + 1]? = some vs[i] ∧ (filesCells fs vs)[i * 3 + 2]? = some (.int .i64 (fs[i].seen.length : Nat))
  | [], _, i, h, _ => by simp at h
  | f :: fs, [], i, _, h' => by simp at h'
  | f :: fs, v :: vs, 0, _, _ => ⟨rfl, rfl, rfl⟩
  | f :: fs, v :: vs, i + 1, h, h' => by
    have ih := files_at fs vs i (by simpa using h) (by simpa using h')
    have sh : ∀ j, (filesCells (f :: fs) (v :: vs))[(i + 1) * 3 + j]? = (filesCells fs vs)[i * 3 + j]? := by
      intro j
      show (fileCells f v ++ filesCells fs vs)[_]? = _
      rw [List.getElem?_append_right (by simp [fileCells]; omega)]
      congr 1
      simp [fileCells]; omega
    exact ⟨(sh 0).trans ih.1, (sh 1).trans ih.2.1, (sh 2).trans ih.2.2⟩
theorem files_set : ∀ (fs : List FileA) (vs : List Value) (i : Nat) (f' : FileA) (v' : Value), i < fs.length → i < vs.length →
    filesCells (fs.set i f') (vs.set i v') = (((filesCells fs vs).set (i * 3) (.string f'.sure)).set (i * 3 + 1) v').set (i * 3 + 2) (.int .i64 (f'.seen.length : Nat))
  | [], _, i, _, _, h, _ => by simp at h
  | f :: fs, [], i, _, _, _, h' => by simp at h'
  | f :: fs, v :: vs, 0, f', v', _, _ => rfl
  | f :: fs, v :: vs, i + 1, f', v', h, h' => by
    have ih := files_set fs vs i f' v' (by simpa using h) (by simpa using h')
    show fileCells f v ++ filesCells (fs.set i f') (vs.set i v') = (((fileCells f v ++ filesCells fs vs).set _ _).set _ _).set _ _
    rw [ih]
    have sh : ∀ (xs : List Value) j (u : Value), (fileCells f v ++ xs).set ((i + 1) * 3 + j) u = fileCells f v ++ xs.set (i * 3 + j) u := by
      intro xs j u
      rw [List.set_append_right _ _ (by simp [fileCells]; omega)]
      congr 2
      simp [fileCells]; omega
    have s0 := sh (filesCells fs vs) 0 (.string f'.sure)
    rw [show (i + 1) * 3 + 0 = (i + 1) * 3 by omega, show i * 3 + 0 = i * 3 by omega] at s0
    rw [s0, sh, sh]

/-- What is known of one file of a disk. -/
theorem DiskV.file {w : World} {T : Nat → Nat} {p : Nat} {D : ADisk} {V : Vals} (h : DiskV w T p D V) {i : Nat} (hi : i < D.files.length) :
    ∃ g cap cur, V.v8 = .slice (some ⟨g, 0, none⟩) D.files.length cap ∧ Cells w g 105 cur ∧ D.files.length ≤ cap ∧ cap ≤ maxLen ∧ cur.size = cap * 3 ∧ cur.toList.take (D.files.length * 3) = filesCells D.files V.fvs ∧ T g = 5 ∧
      FileAt w g (i * 3) D.files[i].sure (V.fvs[i]'(by rw [h.nf]; exact hi)) D.files[i].waits (D.files[i].seen.length : Nat) := by
  obtain ⟨g, cap, cur, e, hc, h1, h2, h3, h4⟩ := row_cells h.r8 (by omega)
  obtain ⟨a0, a1, a2⟩ := files_at D.files V.fvs i hi (by rw [h.nf]; exact hi)
  have r8 := h.r8
  rw [e] at r8
  exact ⟨g, cap, cur, e, hc, h1, h2, h3, h4, h.t8 g (by rw [e]; rfl), ⟨row_at r8 a0, row_at r8 a1, row_at r8 a2, (h.rf i hi (by rw [h.nf]; exact hi)).1⟩⟩

theorem take_set3 (l : List Value) (n i : Nat) (a b c : Value) : (((l.set i a).set (i + 1) b).set (i + 2) c).take n = (((l.take n).set i a).set (i + 1) b).set (i + 2) c := by
  rw [List.take_set, List.take_set, List.take_set]

/-- Behind a turn of one file: its cells, and what waits of it. -/
theorem DiskV.fturned {w w' : World} {T : Nat → Nat} {p : Nat} {D : ADisk} {V : Vals} (h : DiskV w T p D V) {i : Nat} (hi : i < D.files.length) {g cap : Nat} {cur : Array Value} (f' : FileA) (v' : Value)
    (e8 : V.v8 = .slice (some ⟨g, 0, none⟩) D.files.length cap) (c1 : D.files.length ≤ cap) (c2 : cap ≤ maxLen) (c3 : cur.size = cap * 3) (c4 : cur.toList.take (D.files.length * 3) = filesCells D.files V.fvs)
    (hc : Cells w' g 105 (((cur.setIfInBounds (i * 3) (.string f'.sure)).setIfInBounds (i * 3 + 1) v').setIfInBounds (i * 3 + 2) (.int .i64 (f'.seen.length : Nat))))
    (hr : w'.ownsRow 0 94 5 v' f'.waits.length (actsCells f'.waits)) (hk : sameOr w.heap.size w'.heap.size (V.fvs[i]'(by rw [h.nf]; exact hi)).ownBlock v'.ownBlock ∨ v'.ownBlock = none)
    (ho : Only (fun r => r = g ∨ some r = (V.fvs[i]'(by rw [h.nf]; exact hi)).ownBlock) w w') :
    ∃ T', DiskV w' T' p { D with files := D.files.set i f' } { V with fvs := V.fvs.set i v' } ∧ Step w T w' T' := by
  have hi' : i < V.fvs.length := by rw [h.nf]; exact hi
  have tg : T g = 5 := h.t8 g (by rw [e8]; rfl)
  have ti := (h.rf i hi hi').2
  have hl : ∀ {o : Option Nat} {t : Nat}, tagged T o t → t ≠ 0 → ∀ b, o = some b → b < w.heap.size := fun ht hne b hb => h.low b (by rw [ht b hb]; exact hne)
  have hk' : sameOr w.heap.size w'.heap.size (if v'.ownBlock = none then none else (V.fvs[i]'hi').ownBlock) v'.ownBlock := by
    rcases hk with hk | hk
    · by_cases hn : v'.ownBlock = none
      · rw [if_pos hn]; exact .inl hn
      · rw [if_neg hn]; exact hk
    · rw [if_pos hk]; exact .inl hk
  have ti' : tagged T (if v'.ownBlock = none then none else (V.fvs[i]'hi').ownBlock) (7 + i) := by
    split
    · intro b hb; cases hb
    · exact ti
  have hs : ∀ b, T b ≠ 0 → T b ≠ 5 → T b ≠ 7 + i → w'.heap[b]? = w.heap[b]? := fun b hb h1 h2 => ho.same b (h.low b hb) (by
    rintro (e | e)
    · exact h1 (by rw [e]; exact tg)
    · exact h2 (ti b e.symm))
  have s : ∀ {o : Option Nat} {t : Nat}, tagged T o t → t ≠ 0 → t ≠ 5 → t ≠ 7 + i → ∀ b, o = some b → w'.heap[b]? = w.heap[b]? := fun ht h0 h5 h7 b hb => hs b (by rw [ht b hb]; exact h0) (by rw [ht b hb]; exact h5) (by rw [ht b hb]; exact h7)
  refine ⟨retag T w.heap.size v'.ownBlock (7 + i), ?_, ⟨ho.mono fun r _ e => by rcases e with e | e; rw [e, tg]; decide; rw [ti r e.symm]; omega, fun r hr => retag_old hr⟩⟩
  refine ⟨(hs p (by rw [h.tp]; decide) (by rw [h.tp]; decide) (by rw [h.tp]; omega)).trans h.cells, by rw [retag_old h.cells.lt]; exact h.tp, h.m5.same (s h.t5 (by decide) (by decide) (by omega)), retag_other h.t5 (hl h.t5 (by decide)), h.m6.same (s h.t6 (by decide) (by decide) (by omega)), retag_other h.t6 (hl h.t6 (by decide)), h.nil56, h.nilw,
    row_same h.r7 (s h.t7 (by decide) (by decide) (by omega)), retag_other h.t7 (hl h.t7 (by decide)), ?_, retag_other h.t8 (hl h.t8 (by decide)), row_same h.r9 (s h.t9 (by decide) (by decide) (by omega)), retag_other h.t9 (hl h.t9 (by decide)), by simp [h.nf], fun j h1 h2 => ?_, retag_zero h.low ho.size hk' (hl ti' (by omega))⟩
  · show w'.ownsRow 0 _ 3 V.v8 (D.files.set i f').length (filesCells (D.files.set i f') (V.fvs.set i v'))
    rw [e8, List.length_set]
    refine row_of_cells hc c1 c2 (by simp [c3]) ?_ ?_
    · rw [files_set _ _ _ _ _ hi hi', ← c4]
      simp only [Array.toList_setIfInBounds]
      exact take_set3 _ _ _ _ _ _
    · have := filesCells_length (D.files.set i f') (V.fvs.set i v') (by simp [h.nf])
      rw [this, List.length_set]
  · simp only [List.length_set] at h1 h2
    by_cases hij : i = j
    · subst hij
      simp only [List.getElem_set_self]
      exact ⟨hr, retag_same hk' ti'⟩
    · simp only [List.getElem_set_ne hij]
      have := h.rf j h1 h2
      exact ⟨row_same this.1 (s this.2 (by omega) (by omega) (by omega)), retag_other this.2 (hl this.2 (by omega))⟩
end Go.Proofs.Ytdfjkcdmbbmipaa
