/- A disk in memory: its cells, its maps, its rows; each block has a tag. -/
import Derived.Test.YtdfjkcdmbbmipaaDM
namespace Go.Proofs.Ytdfjkcdmbbmipaa
open Go.RowKit Go.Maps

def tagged (T : Nat → Nat) (o : Option Nat) (t : Nat) : Prop := ∀ b, o = some b → T b = t
def retag (T : Nat → Nat) (lo : Nat) (o : Option Nat) (t : Nat) : Nat → Nat := fun b => if lo ≤ b ∧ o = some b then t else T b
/-- The same block, or a new one from lo on, below hi. -/
def sameOr (lo hi : Nat) (a b : Option Nat) : Prop := b = a ∨ ∃ k, b = some k ∧ lo ≤ k ∧ k < hi
theorem retag_old {T : Nat → Nat} {lo : Nat} {o : Option Nat} {t b : Nat} (h : b < lo) : retag T lo o t b = T b := by
  unfold retag; rw [if_neg (by omega)]
theorem retag_same {T : Nat → Nat} {lo hi : Nat} {a b : Option Nat} {t : Nat} (h : sameOr lo hi a b) (ha : tagged T a t) : tagged (retag T lo b t) b t := by
  intro k hk
  unfold retag
  split
  · rfl
  · rename_i hn
    rcases h with h | ⟨j, h, h1, _⟩
    · exact ha k (by rw [← h]; exact hk)
    · rw [h] at hk; cases hk; exact absurd ⟨h1, h⟩ hn
theorem retag_other {T : Nat → Nat} {lo : Nat} {o c : Option Nat} {t u : Nat} (hc : tagged T c u) (hl : ∀ k, c = some k → k < lo) : tagged (retag T lo o t) c u := by
  intro k hk; rw [retag_old (hl k hk)]; exact hc k hk
theorem retag_zero {T : Nat → Nat} {lo hi m : Nat} {a o : Option Nat} {t : Nat} (hT : ∀ b, T b ≠ 0 → b < m) (hm : m ≤ hi) (h : sameOr lo hi a o) (ha : ∀ k, a = some k → k < m) : ∀ b, retag T lo o t b ≠ 0 → b < hi := by
  intro b hb
  unfold retag at hb
  split at hb
  · rename_i hn
    rcases h with h | ⟨j, h, _, h2⟩
    · have := ha b (by rw [← h]; exact hn.2); omega
    · have := hn.2; rw [h] at this; cases this; exact h2
  · have := hT b hb; omega

/-- A step of a tagged thing: other blocks lie as they lay; what was tagged is so still. -/
structure Step (w : World) (T : Nat → Nat) (w' : World) (T' : Nat → Nat) : Prop where
  only : Only (fun r => T r ≠ 0) w w'
  old : ∀ r, r < w.heap.size → T' r = T r
theorem Step.refl (w : World) (T : Nat → Nat) : Step w T w T := ⟨Only.refl _ _, fun _ _ => rfl⟩
theorem Step.trans {w w1 w2 : World} {T T1 T2 : Nat → Nat} (h : Step w T w1 T1) (g : Step w1 T1 w2 T2) : Step w T w2 T2 :=
  ⟨h.only.trans g.only (fun r hr hn => by rw [← h.old r hr]; exact hn), fun r hr => (g.old r (Nat.lt_of_lt_of_le hr h.only.size)).trans (h.old r hr)⟩
theorem Step.below {w w' : World} {T : Nat → Nat} (h : Below w.heap.size w w') : Step w T w' T := ⟨Only.of_below h (Nat.le_refl _), fun _ _ => rfl⟩

def fileCells (f : FileA) (v : Value) : List Value := [.string f.sure, v, .int .i64 (f.seen.length : Nat)]
def filesCells : List FileA → List Value → List Value
  | f :: fs, v :: vs => fileCells f v ++ filesCells fs vs
  | _, _ => []
theorem filesCells_length : ∀ (fs : List FileA) (vs : List Value), vs.length = fs.length → (filesCells fs vs).length = fs.length * 3
  | [], _, _ => by simp [filesCells]
  | f :: fs, [], h => by simp at h
  | f :: fs, v :: vs, h => by
    have := filesCells_length fs vs (by simpa using h)
    simp only [filesCells, List.length_append, List.length_cons, fileCells, List.length_nil] at this ⊢; omega

/-- The values of a disk's fields. -/
structure Vals where
  v5 : Value
  v6 : Value
  v7 : Value
  v8 : Value
  v9 : Value
  fvs : List Value
structure DiskV (w : World) (T : Nat → Nat) (p : Nat) (D : ADisk) (V : Vals) : Prop where
  cells : Cells w p 76 (diskCells D.units D.armed D.left D.gone D.room V.v5 V.v6 V.v7 V.v8 V.v9)
  tp : T p = 1
  m5 : MapAt w D.sure.length V.v5 D.sure
  t5 : tagged T (mapBlock V.v5) 2
  m6 : MapAt w D.seen.length V.v6 D.seen
  t6 : tagged T (mapBlock V.v6) 3
  nil56 : V.v5 = .map none ↔ V.v6 = .map none
  nilw : V.v5 = .map none → D.waits = [] ∧ V.v7 = .slice none 0 0
  r7 : w.ownsRow 0 103 3 V.v7 D.waits.length (changesCells D.waits)
  t7 : tagged T V.v7.ownBlock 4
  r8 : w.ownsRow 0 105 3 V.v8 D.files.length (filesCells D.files V.fvs)
  t8 : tagged T V.v8.ownBlock 5
  r9 : w.ownsRow 0 94 5 V.v9 D.acts.length (actsCells D.acts)
  t9 : tagged T V.v9.ownBlock 6
  nf : V.fvs.length = D.files.length
  rf : ∀ i (h : i < D.files.length) (h' : i < V.fvs.length), w.ownsRow 0 94 5 V.fvs[i] D.files[i].waits.length (actsCells D.files[i].waits) ∧ tagged T V.fvs[i].ownBlock (7 + i)
  low : ∀ b, T b ≠ 0 → b < w.heap.size
/-- A disk stands at p. -/
def DiskAt (w : World) (T : Nat → Nat) (p : Nat) (D : ADisk) : Prop := ∃ V, DiskV w T p D V

theorem mapAt_fit {w : World} {n : Nat} {v : Value} {l : Dir} (h : MapAt w n v l) : MapAt w l.length v l := by
  rcases h with h | ⟨b, rfl, es, clock, hb, F, hs, hD⟩
  · exact .inl h
  · refine .inr ⟨b, rfl, es, clock, hb, F, ?_, hD⟩
    have e := congrArg Maps.size hD
    simp only [dmapD, Maps.size, length_read, List.length_map] at e
    omega
theorem DiskV.same {w w' : World} {T : Nat → Nat} {p : Nat} {D : ADisk} {V : Vals} (h : DiskV w T p D V) (hs : ∀ b, T b ≠ 0 → w'.heap[b]? = w.heap[b]?) (hz : w.heap.size ≤ w'.heap.size) : DiskV w' T p D V := by
  have s : ∀ {o : Option Nat} {t : Nat}, tagged T o t → t ≠ 0 → ∀ b, o = some b → w'.heap[b]? = w.heap[b]? := fun ht hne b hb => hs b (by rw [ht b hb]; exact hne)
  exact ⟨(hs p (by rw [h.tp]; decide)).trans h.cells, h.tp, h.m5.same (s h.t5 (by decide)), h.t5, h.m6.same (s h.t6 (by decide)), h.t6, h.nil56, h.nilw, row_same h.r7 (s h.t7 (by decide)), h.t7, row_same h.r8 (s h.t8 (by decide)), h.t8,
    row_same h.r9 (s h.t9 (by decide)), h.t9, h.nf, fun i h1 h2 => ⟨row_same (h.rf i h1 h2).1 (s (h.rf i h1 h2).2 (by omega)), (h.rf i h1 h2).2⟩, fun b hb => Nat.lt_of_lt_of_le (h.low b hb) hz⟩
theorem DiskV.below {w w' : World} {T : Nat → Nat} {p : Nat} {D : ADisk} {V : Vals} (h : DiskV w T p D V) (hb : Below w.heap.size w w') : DiskV w' T p D V :=
  h.same (fun b hn => hb.block b (h.low b hn)) hb.size
theorem DiskAt.below {w w' : World} {T : Nat → Nat} {p : Nat} {D : ADisk} (h : DiskAt w T p D) (hb : Below w.heap.size w w') : DiskAt w' T p D := by
  obtain ⟨V, h⟩ := h; exact ⟨V, h.below hb⟩
theorem DiskAt.low {w : World} {T : Nat → Nat} {p : Nat} {D : ADisk} (h : DiskAt w T p D) : ∀ b, T b ≠ 0 → b < w.heap.size := by
  obtain ⟨V, h⟩ := h; exact h.low

/-- Of a disk whose power alone has turned. -/
theorem DiskV.power {w w' : World} {T : Nat → Nat} {p : Nat} {D D' : ADisk} {V : Vals} (h : DiskV w T p D V) (hc : Cells w' p 76 (diskCells D'.units D'.armed D'.left D'.gone D'.room V.v5 V.v6 V.v7 V.v8 V.v9)) (ho : Only (· = p) w w')
    (e1 : D'.sure = D.sure) (e2 : D'.waits = D.waits) (e3 : D'.files = D.files) (e4 : D'.acts = D.acts) : DiskV w' T p D' V := by
  have hs : ∀ b, T b ≠ 0 → T b ≠ 1 → w'.heap[b]? = w.heap[b]? := fun b hb h1 => ho.same b (h.low b hb) (fun e => h1 (by rw [e]; exact h.tp))
  have s : ∀ {o : Option Nat} {t : Nat}, tagged T o t → 2 ≤ t → ∀ b, o = some b → w'.heap[b]? = w.heap[b]? := fun ht hne b hb => hs b (by rw [ht b hb]; omega) (by rw [ht b hb]; omega)
  have e5 : D'.seen = D.seen := by unfold ADisk.seen; rw [e1, e2]
  refine ⟨hc, h.tp, ?_, h.t5, ?_, h.t6, h.nil56, ?_, ?_, h.t7, ?_, h.t8, ?_, h.t9, by rw [e3]; exact h.nf, fun i h1 h2 => ?_, fun b hb => Nat.lt_of_lt_of_le (h.low b hb) ho.size⟩
  · rw [e1]; exact h.m5.same (s h.t5 (by decide))
  · rw [e5]; exact h.m6.same (s h.t6 (by decide))
  · rw [e2]; exact h.nilw
  · rw [e2]; exact row_same h.r7 (s h.t7 (by decide))
  · rw [e3]; exact row_same h.r8 (s h.t8 (by decide))
  · rw [e4]; exact row_same h.r9 (s h.t9 (by decide))
  · have := h.rf i (by rw [← e3]; exact h1) h2
    simp only [e3]
    exact ⟨row_same this.1 (s this.2 (by omega)), this.2⟩
theorem tag_ne {T : Nat → Nat} {a b : Option Nat} {t u : Nat} (ha : tagged T a t) (hb : tagged T b u) (h : t ≠ u) : ∀ k, a = some k → b ≠ some k := fun k h1 h2 => h ((ha k h1).symm.trans (hb k h2))
theorem step_p {w w' : World} {T : Nat → Nat} {p : Nat} (hp : T p = 1) (ho : Only (· = p) w w') : Step w T w' T :=
  ⟨ho.mono fun r _ e => by rw [e, hp]; decide, fun _ _ => rfl⟩

/-- Behind an act that was done. -/
theorem DiskV.did {w w' : World} {T : Nat → Nat} {p : Nat} {D D' : ADisk} {V : Vals} {a : ActA} (h : DiskV w T p D V)
    (hd : Did p (diskCells D'.units D'.armed D'.left D'.gone D'.room V.v5 V.v6 V.v7 V.v8) V.v9 D.acts.length (actsCells D.acts) a.cells w w')
    (e1 : D'.sure = D.sure) (e2 : D'.waits = D.waits) (e3 : D'.files = D.files) (e4 : D'.acts = D.acts ++ [a]) : ∃ T' v9', DiskV w' T' p D' { V with v9 := v9' } ∧ Step w T w' T' := by
  obtain ⟨⟨v9', hc, hr, hk⟩, ho⟩ := hd
  have hl9 : ∀ k, V.v9.ownBlock = some k → k < w.heap.size := fun k hk => (h.r9.lt k hk).2
  refine ⟨retag T w.heap.size v9'.ownBlock 6, v9', ?_, ?_⟩
  · have hs : ∀ b, T b ≠ 0 → T b ≠ 1 → T b ≠ 6 → w'.heap[b]? = w.heap[b]? := fun b hb h1 h6 => ho.same b (h.low b hb) (by
      rintro (e | e)
      · exact h1 (by rw [e]; exact h.tp)
      · exact h6 (h.t9 b e.symm))
    have s : ∀ {o : Option Nat} {t : Nat}, tagged T o t → 2 ≤ t → t ≠ 6 → ∀ b, o = some b → w'.heap[b]? = w.heap[b]? := fun ht hne h6 b hb => hs b (by rw [ht b hb]; omega) (by rw [ht b hb]; omega) (by rw [ht b hb]; exact h6)
    have lo : ∀ {o : Option Nat} {t : Nat}, tagged T o t → t ≠ 0 → ∀ b, o = some b → b < w.heap.size := fun ht hne b hb => h.low b (by rw [ht b hb]; exact hne)
    have e5 : D'.seen = D.seen := by unfold ADisk.seen; rw [e1, e2]
    refine ⟨hc, by rw [retag_old (h.cells.lt)]; exact h.tp, ?_, retag_other h.t5 (lo h.t5 (by decide)), ?_, retag_other h.t6 (lo h.t6 (by decide)), h.nil56, ?_, ?_, retag_other h.t7 (lo h.t7 (by decide)), ?_, retag_other h.t8 (lo h.t8 (by decide)), ?_, retag_same hk h.t9, by rw [e3]; exact h.nf, fun i h1 h2 => ?_, retag_zero h.low ho.size hk hl9⟩
    · rw [e1]; exact h.m5.same (s h.t5 (by decide) (by decide))
    · rw [e5]; exact h.m6.same (s h.t6 (by decide) (by decide))
    · rw [e2]; exact h.nilw
    · rw [e2]; exact row_same h.r7 (s h.t7 (by decide) (by decide))
    · rw [e3]; exact row_same h.r8 (s h.t8 (by decide) (by decide))
    · rw [e4, List.length_append, actsCells_snoc]; exact hr
    · have := h.rf i (by rw [← e3]; exact h1) h2
      simp only [e3]
      exact ⟨row_same this.1 (s this.2 (by omega) (by omega)), retag_other this.2 (lo this.2 (by omega))⟩
  · exact ⟨ho.mono fun r _ e => by rcases e with e | e; rw [e, h.tp]; decide; rw [h.t9 r e.symm]; decide, fun r hr => retag_old hr⟩

theorem dplay_snoc (cs : List ChangeA) (c : ChangeA) (l : Dir) : dplay (cs ++ [c]) l = capply c.off.data.toList c.on.data.toList c.file (dplay cs l) := by unfold dplay; simp
theorem changesCells_snoc (cs : List ChangeA) (c : ChangeA) : changesCells (cs ++ [c]) = changesCells cs ++ c.cells := by unfold changesCells; simp
/-- Behind a change of names that waits. -/
theorem DiskV.dwaited {w w' : World} {T : Nat → Nat} {p : Nat} {D : ADisk} {V : Vals} {c : ChangeA} {nm : Nat} (h : DiskV w T p D V)
    (hd : DWaited p (fun x y z => diskCells D.units D.armed D.left D.gone D.room x y z V.v8 V.v9) V.v5 V.v6 V.v7 nm D.sure (capply c.off.data.toList c.on.data.toList c.file D.seen) D.waits.length (changesCells D.waits) c.cells w w') :
    ∃ T' v5' v6' v7', DiskV w' T' p { D with waits := D.waits ++ [c] } { V with v5 := v5', v6 := v6', v7 := v7' } ∧ Step w T w' T' := by
  obtain ⟨⟨v5', v6', v7', hc, m5, m6, n5, n6, hr, k5, k6, k7, a1, a2, a3⟩, ho⟩ := hd
  have hl : ∀ {o : Option Nat} {t : Nat}, tagged T o t → t ≠ 0 → ∀ b, o = some b → b < w.heap.size := fun ht hne b hb => h.low b (by rw [ht b hb]; exact hne)
  have q5 := retag_same k5 h.t5
  let T1 := retag T w.heap.size (mapBlock v5') 2
  let T2 := retag T1 w.heap.size (mapBlock v6') 3
  let T3 := retag T2 w.heap.size v7'.ownBlock 4
  have o1 : ∀ r, r < w.heap.size → T1 r = T r := fun r hr => retag_old hr
  have o2 : ∀ r, r < w.heap.size → T2 r = T r := fun r hr => (retag_old hr).trans (o1 r hr)
  have o3 : ∀ r, r < w.heap.size → T3 r = T r := fun r hr => (retag_old hr).trans (o2 r hr)
  have oth : ∀ {o : Option Nat} {t : Nat}, tagged T o t → t ≠ 0 → tagged T3 o t := fun ht hne b hb => by rw [o3 b (hl ht hne b hb)]; exact ht b hb
  have t6' : tagged T1 (mapBlock V.v6) 3 := retag_other h.t6 (hl h.t6 (by decide))
  have t7' : tagged T2 V.v7.ownBlock 4 := retag_other (retag_other h.t7 (hl h.t7 (by decide))) (hl h.t7 (by decide))
  have f5 : tagged T3 (mapBlock v5') 2 := by
    intro b hb
    show retag T2 _ _ _ b = 2
    unfold retag
    rw [if_neg (by rintro ⟨_, e⟩; exact a2 b hb e)]
    show retag T1 _ _ _ b = 2
    unfold retag
    rw [if_neg (by rintro ⟨_, e⟩; exact a1 b hb e)]
    exact q5 b hb
  have f6 : tagged T3 (mapBlock v6') 3 := by
    intro b hb
    show retag T2 _ _ _ b = 3
    unfold retag
    rw [if_neg (by rintro ⟨_, e⟩; exact a3 b hb e)]
    exact retag_same k6 t6' b hb
  have f7 : tagged T3 v7'.ownBlock 4 := retag_same k7 t7'
  have z1 := retag_zero (t := 2) h.low ho.size k5 (hl h.t5 (by decide))
  have z2 := retag_zero (t := 3) (m := w'.heap.size) (lo := w.heap.size) z1 (Nat.le_refl _) k6 (fun k hk => Nat.lt_of_lt_of_le (hl h.t6 (by decide) k hk) ho.size)
  have z3 := retag_zero (t := 4) (m := w'.heap.size) (lo := w.heap.size) z2 (Nat.le_refl _) k7 (fun k hk => Nat.lt_of_lt_of_le (hl h.t7 (by decide) k hk) ho.size)
  have hs : ∀ b, T b ≠ 0 → T b ≠ 1 → T b ≠ 3 → T b ≠ 4 → w'.heap[b]? = w.heap[b]? := fun b hb h1 h3 h4 => ho.same b (h.low b hb) (by
    rintro (e | e | e)
    · exact h1 (by rw [e]; exact h.tp)
    · exact h3 (h.t6 b e.symm)
    · exact h4 (h.t7 b e.symm))
  have s : ∀ {o : Option Nat} {t : Nat}, tagged T o t → 5 ≤ t → ∀ b, o = some b → w'.heap[b]? = w.heap[b]? := fun ht hne b hb => hs b (by rw [ht b hb]; omega) (by rw [ht b hb]; omega) (by rw [ht b hb]; omega) (by rw [ht b hb]; omega)
  refine ⟨T3, v5', v6', v7', ?_, ⟨ho.mono fun r _ e => by rcases e with e | e | e; rw [e, h.tp]; decide; rw [h.t6 r e.symm]; decide; rw [h.t7 r e.symm]; decide, o3⟩⟩
  have es : ADisk.seen { D with waits := D.waits ++ [c] } = capply c.off.data.toList c.on.data.toList c.file D.seen := dplay_snoc _ _ _
  refine ⟨hc, by rw [o3 p h.cells.lt]; exact h.tp, mapAt_fit m5, f5, by rw [es]; exact mapAt_fit m6, f6, ⟨fun e => absurd e n5, fun e => absurd e n6⟩, fun e => absurd e n5, ?_, f7,
    row_same h.r8 (s h.t8 (by decide)), oth h.t8 (by decide), row_same h.r9 (s h.t9 (by decide)), oth h.t9 (by decide), h.nf, fun i h1 h2 => ?_, z3⟩
  · show w'.ownsRow 0 _ 3 v7' (D.waits ++ [c]).length (changesCells (D.waits ++ [c]))
    rw [List.length_append, changesCells_snoc]; exact hr
  · have := h.rf i h1 h2
    exact ⟨row_same this.1 (s this.2 (by omega)), oth this.2 (by omega)⟩
end Go.Proofs.Ytdfjkcdmbbmipaa
