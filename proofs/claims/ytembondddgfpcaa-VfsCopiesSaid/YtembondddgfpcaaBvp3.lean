/- Texts put together: DM, VP, VQ, VR, VS, VT, VU. -/
import Derived.Test.YtembondddgfpcaaBvp2
set_option linter.unusedVariables false
namespace Go.Proofs.Ytembondddgfpcaa

def stepF (s : List UInt8) (a : ActA) : List UInt8 := if a.kind = 3 then s.take a.at_ else s ++ a.bytes.data.toList
def seenL (l : List ActA) (s : List UInt8) : List UInt8 := l.foldl stepF s
def unitsL (l : List ActA) : Nat := (l.map fun a => if a.kind = 3 then 1 else a.bytes.size).sum
theorem afterF_all : ∀ (l : List ActA) (u : Int) (s : List UInt8), (unitsL l : Int) < u → afterF l u s = seenL l s
  | [], _, _, _ => rfl
  | a :: r, u, s, h => by
    have e : unitsL (a :: r) = (if a.kind = 3 then 1 else a.bytes.size) + unitsL r := rfl
    have hu : ¬ u ≤ 0 := by omega
    by_cases hk : a.kind = 3
    · rw [if_pos hk] at e
      rw [afterF_cut hu hk, afterF_all r _ _ (by omega)]
      show _ = seenL r (stepF s a)
      unfold stepF; rw [if_pos hk]
    · rw [if_neg hk] at e
      have hm : min u.toNat a.bytes.size = a.bytes.size := by omega
      rw [afterF_write hu hk, hm, afterF_all r _ _ (by omega)]
      show _ = seenL r (stepF s a)
      unfold stepF; rw [if_neg hk, List.take_of_length_le (by rw [← Lib.size_eq]; exact Nat.le_refl _)]
theorem seenL_snoc (l : List ActA) (a : ActA) (s : List UInt8) : seenL (l ++ [a]) s = stepF (seenL l s) a := by unfold seenL; simp
theorem lenW_snoc (l : List ActA) (a : ActA) : lenW (l ++ [a]) = lenW l + a.bytes.size := by unfold lenW; simp
theorem unitsL_snoc (l : List ActA) (a : ActA) : unitsL (l ++ [a]) = unitsL l + (if a.kind = 3 then 1 else a.bytes.size) := by unfold unitsL; simp
theorem fitsW_snoc (a : ActA) : ∀ (l : List ActA) (s : List UInt8), fitsW l s.length → (a.kind = 3 → a.at_ ≤ (seenL l s).length) → fitsW (l ++ [a]) s.length
  | [], s, _, h => by
    show fitsW [a] s.length
    unfold fitsW
    by_cases hk : a.kind = 3
    · rw [if_pos hk]; exact ⟨h hk, trivial⟩
    · rw [if_neg hk]; exact trivial
  | b :: r, s, hf, h => by
    show fitsW (b :: (r ++ [a])) s.length
    unfold fitsW at hf ⊢
    by_cases hk : b.kind = 3
    · rw [if_pos hk] at hf ⊢
      refine ⟨hf.1, ?_⟩
      have e : (s.take b.at_).length = b.at_ := by rw [List.length_take]; omega
      have := fitsW_snoc a r (s.take b.at_) (by rw [e]; exact hf.2) (fun hh => by have := h hh; unfold seenL at this ⊢; simpa [stepF, hk] using this)
      rwa [e] at this
    · rw [if_neg hk] at hf ⊢
      have e : (s ++ b.bytes.data.toList).length = s.length + b.bytes.size := by rw [List.length_append, ← Lib.size_eq]
      have := fitsW_snoc a r (s ++ b.bytes.data.toList) (by rw [e]; exact hf) (fun hh => by have := h hh; unfold seenL at this ⊢; simpa [stepF, hk] using this)
      rwa [e] at this
theorem seenL_length_le : ∀ (l : List ActA) (s : List UInt8), (seenL l s).length ≤ s.length + lenW l
  | [], s => Nat.le_refl _
  | a :: r, s => by
    have e : lenW (a :: r) = a.bytes.size + lenW r := rfl
    have := seenL_length_le r (stepF s a)
    have h2 : (stepF s a).length ≤ s.length + a.bytes.size := by
      unfold stepF; split
      · rw [List.length_take]; omega
      · rw [List.length_append, ← Lib.size_eq]; exact Nat.le_refl _
    show (seenL r (stepF s a)).length ≤ _
    omega
theorem afterF_length_le : ∀ (l : List ActA) (u : Int) (s : List UInt8), (afterF l u s).length ≤ s.length + lenW l
  | [], _, s => Nat.le_refl _
  | a :: r, u, s => by
    have e : lenW (a :: r) = a.bytes.size + lenW r := rfl
    by_cases hu : u ≤ 0
    · rw [afterF_stop hu]; omega
    · by_cases hk : a.kind = 3
      · rw [afterF_cut hu hk]
        have := afterF_length_le r (u - 1) (s.take a.at_)
        rw [List.length_take] at this; omega
      · rw [afterF_write hu hk]
        have := afterF_length_le r (u - (min u.toNat a.bytes.size : Nat)) (s ++ a.bytes.data.toList.take (min u.toNat a.bytes.size))
        rw [List.length_append, List.length_take, ← Lib.size_eq] at this; omega

/-- A file. -/
structure FileA where
  sure : ByteArray
  waits : List ActA
def FileA.seen (f : FileA) : List UInt8 := seenL f.waits f.sure.data.toList
def FileA.kept (f : FileA) (u : Int) : FileA := ⟨⟨(afterF f.waits u f.sure.data.toList).toArray⟩, []⟩
/-- A disk. -/
structure ADisk where
  units : Int
  armed : Bool
  left : Int
  gone : Bool
  room : Int
  sure : Dir
  waits : List ChangeA
  files : List FileA
  acts : List ActA
def ADisk.seen (D : ADisk) : Dir := dplay D.waits D.sure
def allU : Int := 9223372036854775807

/-- One file is within n. -/
structure FileOk (n : Nat) (f : FileA) : Prop where
  fits : fitsW f.waits f.sure.data.toList.length
  len : f.sure.size + lenW f.waits ≤ n
  units : unitsL f.waits ≤ n
  many : f.waits.length ≤ n
  kinds : ∀ a ∈ f.waits, a.kind ≤ 3
/-- A disk is within n. -/
structure Fine (n : Nat) (D : ADisk) : Prop where
  u0 : 0 ≤ D.units
  u1 : D.units ≤ n
  l0 : 0 ≤ D.left
  l1 : D.left ≤ 9223372036854775807
  r0 : 0 ≤ D.room
  r1 : D.room ≤ 9223372036854775807
  dirs : D.sure.length + D.waits.length ≤ n
  nfiles : D.files.length ≤ n
  nacts : D.acts.length ≤ n
  files : ∀ f ∈ D.files, FileOk n f
  changes : ∀ c ∈ D.waits, c.off.size ≤ 1000000 ∧ c.on.size ≤ 1000000 ∧ c.file < D.files.length
  names : ∀ x ∈ D.sure, x.2 < D.files.length
theorem FileOk.mono {n m : Nat} {f : FileA} (h : FileOk n f) (hm : n ≤ m) : FileOk m f := ⟨h.fits, by have := h.len; omega, by have := h.units; omega, by have := h.many; omega, h.kinds⟩
theorem Fine.mono {n m : Nat} {D : ADisk} (h : Fine n D) (hm : n ≤ m) : Fine m D :=
  ⟨h.u0, by have := h.u1; omega, h.l0, h.l1, h.r0, h.r1, by have := h.dirs; omega, by have := h.nfiles; omega, by have := h.nacts; omega, fun f hf => (h.files f hf).mono hm, h.changes, h.names⟩
theorem dins_mem {x y : List UInt8 × Nat} : ∀ {l : Dir}, y ∈ dins x l → y = x ∨ y ∈ l
  | [], h => by simp [dins] at h; exact .inl h
  | z :: r, h => by
    unfold dins at h
    split at h
    · simpa using h
    · rcases List.mem_cons.1 h with h | h
      · exact .inr (by rw [h]; simp)
      · rcases dins_mem h with h | h
        · exact .inl h
        · exact .inr (List.mem_cons_of_mem _ h)
theorem capply_mem {off on : List UInt8} {file : Nat} {l : Dir} {y : List UInt8 × Nat} (h : y ∈ capply off on file l) : y ∈ l ∨ y = (on, file) := by
  unfold capply at h
  split at h
  · exact .inl (List.mem_filter.1 h).1
  · unfold dput at h
    rcases dins_mem h with h | h
    · exact .inr h
    · exact .inl (List.mem_filter.1 (List.mem_filter.1 h).1).1
theorem capply_length (off on : List UInt8) (file : Nat) (l : Dir) : (capply off on file l).length ≤ l.length + 1 := by
  unfold capply
  split
  · have := ddel_length l off; omega
  · have h1 := dput_length (ddel l off) on file; have := ddel_length l off; omega
theorem dplay_mem : ∀ {cs : List ChangeA} {l : Dir} {y : List UInt8 × Nat}, y ∈ dplay cs l → y ∈ l ∨ ∃ c ∈ cs, y.2 = c.file
  | [], _, _, h => .inl h
  | c :: cs, l, y, h => by
    rcases dplay_mem (cs := cs) (l := capply c.off.data.toList c.on.data.toList c.file l) h with h | ⟨d, hd, e⟩
    · rcases capply_mem h with h | h
      · exact .inl h
      · exact .inr ⟨c, by simp, by rw [h]⟩
    · exact .inr ⟨d, by simp [hd], e⟩
theorem dplay_length : ∀ (cs : List ChangeA) (l : Dir), (dplay cs l).length ≤ l.length + cs.length
  | [], l => Nat.le_refl _
  | c :: cs, l => by
    have h1 := dplay_length cs (capply c.off.data.toList c.on.data.toList c.file l)
    have h2 := capply_length c.off.data.toList c.on.data.toList c.file l
    show (dplay cs (capply c.off.data.toList c.on.data.toList c.file l)).length ≤ _
    simp only [List.length_cons]; omega
theorem Fine.seen_lt {n : Nat} {D : ADisk} (h : Fine n D) : ∀ x ∈ D.seen, x.2 < D.files.length := by
  intro x hx
  rcases dplay_mem hx with hx | ⟨c, hc, e⟩
  · exact h.names x hx
  · rw [e]; exact (h.changes c hc).2.2
theorem dget_lt {l : Dir} {m : Nat} (h : ∀ x ∈ l, x.2 < m) {k : List UInt8} {f : Nat} (hf : dget l k = some f) : f < m := by
  unfold dget at hf
  cases hq : l.find? (fun p => p.1 == k) with
  | none => rw [hq] at hf; simp at hf
  | some p =>
    rw [hq] at hf; simp at hf
    have := h p (List.mem_of_find?_eq_some hq)
    omega
end Go.Proofs.Ytembondddgfpcaa

namespace Go.Proofs.Ytembondddgfpcaa
open Go.RowKit Go.Maps

def fileCells (f : FileA) (v : Value) : List Value := [.string f.sure, v, .int .i64 (f.seen.length : Nat)]
def filesCells : List FileA → List Value → List Value
  | f :: fs, v :: vs => fileCells f v ++ filesCells fs vs
  | _, _ => []
theorem filesCells_length : ∀ (fs : List FileA) (vs : List Value), vs.length = fs.length → (filesCells fs vs).length = fs.length * 3
  | [], _, _ => by simp [filesCells]
  | f :: fs, [], h => by simp at h
  | f :: fs, v :: vs, h => by
    have := filesCells_length fs vs (by simpa using h)
    simp only [filesCells, List.length_append, List.length_cons, fileCells, List.length_nil] at this ⊢; omega

/-- The values of a disk's fields. -/
structure Vals where
  v5 : Value
  v6 : Value
  v7 : Value
  v8 : Value
  v9 : Value
  fvs : List Value
structure DiskV (w : World) (T : Nat → Nat) (p : Nat) (D : ADisk) (V : Vals) : Prop where
  cells : Cells w p 71 (diskCells D.units D.armed D.left D.gone D.room V.v5 V.v6 V.v7 V.v8 V.v9)
  tp : T p = 1
  m5 : MapAt w D.sure.length V.v5 D.sure
  t5 : tagged T (mapBlock V.v5) 2
  m6 : MapAt w D.seen.length V.v6 D.seen
  t6 : tagged T (mapBlock V.v6) 3
  nil56 : V.v5 = .map none ↔ V.v6 = .map none
  nilw : V.v5 = .map none → D.waits = [] ∧ V.v7 = .slice none 0 0
  r7 : w.ownsRow 0 107 3 V.v7 D.waits.length (changesCells D.waits)
  t7 : tagged T V.v7.ownBlock 4
  r8 : w.ownsRow 0 96 3 V.v8 D.files.length (filesCells D.files V.fvs)
  t8 : tagged T V.v8.ownBlock 5
  r9 : w.ownsRow 0 89 5 V.v9 D.acts.length (actsCells D.acts)
  t9 : tagged T V.v9.ownBlock 6
  nf : V.fvs.length = D.files.length
  rf : ∀ i (h : i < D.files.length) (h' : i < V.fvs.length), w.ownsRow 0 89 5 V.fvs[i] D.files[i].waits.length (actsCells D.files[i].waits) ∧ tagged T V.fvs[i].ownBlock (7 + i)
  low : ∀ b, T b ≠ 0 → b < w.heap.size
/-- A disk stands at p. -/
def DiskAt (w : World) (T : Nat → Nat) (p : Nat) (D : ADisk) : Prop := ∃ V, DiskV w T p D V

theorem mapAt_fit {w : World} {n : Nat} {v : Value} {l : Dir} (h : MapAt w n v l) : MapAt w l.length v l := by
  rcases h with h | ⟨b, rfl, es, clock, hb, F, hs, hD⟩
  · exact .inl h
  · refine .inr ⟨b, rfl, es, clock, hb, F, ?_, hD⟩
    have e := congrArg Maps.size hD
    simp only [dmapD, Maps.size, length_read, List.length_map] at e
    omega
theorem DiskV.same {w w' : World} {T : Nat → Nat} {p : Nat} {D : ADisk} {V : Vals} (h : DiskV w T p D V) (hs : ∀ b, T b ≠ 0 → w'.heap[b]? = w.heap[b]?) (hz : w.heap.size ≤ w'.heap.size) : DiskV w' T p D V := by
  have s : ∀ {o : Option Nat} {t : Nat}, tagged T o t → t ≠ 0 → ∀ b, o = some b → w'.heap[b]? = w.heap[b]? := fun ht hne b hb => hs b (by rw [ht b hb]; exact hne)
  exact ⟨(hs p (by rw [h.tp]; decide)).trans h.cells, h.tp, h.m5.same (s h.t5 (by decide)), h.t5, h.m6.same (s h.t6 (by decide)), h.t6, h.nil56, h.nilw, row_same h.r7 (s h.t7 (by decide)), h.t7, row_same h.r8 (s h.t8 (by decide)), h.t8,
    row_same h.r9 (s h.t9 (by decide)), h.t9, h.nf, fun i h1 h2 => ⟨row_same (h.rf i h1 h2).1 (s (h.rf i h1 h2).2 (by omega)), (h.rf i h1 h2).2⟩, fun b hb => Nat.lt_of_lt_of_le (h.low b hb) hz⟩
theorem DiskV.below {w w' : World} {T : Nat → Nat} {p : Nat} {D : ADisk} {V : Vals} (h : DiskV w T p D V) (hb : Below w.heap.size w w') : DiskV w' T p D V :=
  h.same (fun b hn => hb.block b (h.low b hn)) hb.size
theorem DiskAt.below {w w' : World} {T : Nat → Nat} {p : Nat} {D : ADisk} (h : DiskAt w T p D) (hb : Below w.heap.size w w') : DiskAt w' T p D := by
  obtain ⟨V, h⟩ := h; exact ⟨V, h.below hb⟩
theorem DiskAt.low {w : World} {T : Nat → Nat} {p : Nat} {D : ADisk} (h : DiskAt w T p D) : ∀ b, T b ≠ 0 → b < w.heap.size := by
  obtain ⟨V, h⟩ := h; exact h.low

/-- Of a disk whose power alone has turned. -/
theorem DiskV.power {w w' : World} {T : Nat → Nat} {p : Nat} {D D' : ADisk} {V : Vals} (h : DiskV w T p D V) (hc : Cells w' p 71 (diskCells D'.units D'.armed D'.left D'.gone D'.room V.v5 V.v6 V.v7 V.v8 V.v9)) (ho : Only (· = p) w w')
    (e1 : D'.sure = D.sure) (e2 : D'.waits = D.waits) (e3 : D'.files = D.files) (e4 : D'.acts = D.acts) : DiskV w' T p D' V := by
  have hs : ∀ b, T b ≠ 0 → T b ≠ 1 → w'.heap[b]? = w.heap[b]? := fun b hb h1 => ho.same b (h.low b hb) (fun e => h1 (by rw [e]; exact h.tp))
  have s : ∀ {o : Option Nat} {t : Nat}, tagged T o t → 2 ≤ t → ∀ b, o = some b → w'.heap[b]? = w.heap[b]? := fun ht hne b hb => hs b (by rw [ht b hb]; omega) (by rw [ht b hb]; omega)
  have e5 : D'.seen = D.seen := by unfold ADisk.seen; rw [e1, e2]
  refine ⟨hc, h.tp, ?_, h.t5, ?_, h.t6, h.nil56, ?_, ?_, h.t7, ?_, h.t8, ?_, h.t9, by rw [e3]; exact h.nf, fun i h1 h2 => ?_, fun b hb => Nat.lt_of_lt_of_le (h.low b hb) ho.size⟩
  · rw [e1]; exact h.m5.same (s h.t5 (by decide))
  · rw [e5]; exact h.m6.same (s h.t6 (by decide))
  · rw [e2]; exact h.nilw
  · rw [e2]; exact row_same h.r7 (s h.t7 (by decide))
  · rw [e3]; exact row_same h.r8 (s h.t8 (by decide))
  · rw [e4]; exact row_same h.r9 (s h.t9 (by decide))
  · have := h.rf i (by rw [← e3]; exact h1) h2
    simp only [e3]
    exact ⟨row_same this.1 (s this.2 (by omega)), this.2⟩
theorem tag_ne {T : Nat → Nat} {a b : Option Nat} {t u : Nat} (ha : tagged T a t) (hb : tagged T b u) (h : t ≠ u) : ∀ k, a = some k → b ≠ some k := fun k h1 h2 => h ((ha k h1).symm.trans (hb k h2))
theorem step_p {w w' : World} {T : Nat → Nat} {p : Nat} (hp : T p = 1) (ho : Only (· = p) w w') : Step w T w' T :=
  ⟨ho.mono fun r _ e => by rw [e, hp]; decide, fun _ _ => rfl⟩

/-- Behind an act that was done. -/
theorem DiskV.did {w w' : World} {T : Nat → Nat} {p : Nat} {D D' : ADisk} {V : Vals} {a : ActA} (h : DiskV w T p D V)
    (hd : Did p (diskCells D'.units D'.armed D'.left D'.gone D'.room V.v5 V.v6 V.v7 V.v8) V.v9 D.acts.length (actsCells D.acts) a.cells w w')
    (e1 : D'.sure = D.sure) (e2 : D'.waits = D.waits) (e3 : D'.files = D.files) (e4 : D'.acts = D.acts ++ [a]) : ∃ T' v9', DiskV w' T' p D' { V with v9 := v9' } ∧ Step w T w' T' := by
  obtain ⟨⟨v9', hc, hr, hk⟩, ho⟩ := hd
  have hl9 : ∀ k, V.v9.ownBlock = some k → k < w.heap.size := fun k hk => (h.r9.lt k hk).2
  refine ⟨retag T w.heap.size v9'.ownBlock 6, v9', ?_, ?_⟩
  · have hs : ∀ b, T b ≠ 0 → T b ≠ 1 → T b ≠ 6 → w'.heap[b]? = w.heap[b]? := fun b hb h1 h6 => ho.same b (h.low b hb) (by
      rintro (e | e)
      · exact h1 (by rw [e]; exact h.tp)
      · exact h6 (h.t9 b e.symm))
    have s : ∀ {o : Option Nat} {t : Nat}, tagged T o t → 2 ≤ t → t ≠ 6 → ∀ b, o = some b → w'.heap[b]? = w.heap[b]? := fun ht hne h6 b hb => hs b (by rw [ht b hb]; omega) (by rw [ht b hb]; omega) (by rw [ht b hb]; exact h6)
    have lo : ∀ {o : Option Nat} {t : Nat}, tagged T o t → t ≠ 0 → ∀ b, o = some b → b < w.heap.size := fun ht hne b hb => h.low b (by rw [ht b hb]; exact hne)
    have e5 : D'.seen = D.seen := by unfold ADisk.seen; rw [e1, e2]
    refine ⟨hc, by rw [retag_old (h.cells.lt)]; exact h.tp, ?_, retag_other h.t5 (lo h.t5 (by decide)), ?_, retag_other h.t6 (lo h.t6 (by decide)), h.nil56, ?_, ?_, retag_other h.t7 (lo h.t7 (by decide)), ?_, retag_other h.t8 (lo h.t8 (by decide)), ?_, retag_same hk h.t9, by rw [e3]; exact h.nf, fun i h1 h2 => ?_, retag_zero h.low ho.size hk hl9⟩
    · rw [e1]; exact h.m5.same (s h.t5 (by decide) (by decide))
    · rw [e5]; exact h.m6.same (s h.t6 (by decide) (by decide))
    · rw [e2]; exact h.nilw
    · rw [e2]; exact row_same h.r7 (s h.t7 (by decide) (by decide))
    · rw [e3]; exact row_same h.r8 (s h.t8 (by decide) (by decide))
    · rw [e4, List.length_append, actsCells_snoc]; exact hr
    · have := h.rf i (by rw [← e3]; exact h1) h2
      simp only [e3]
      exact ⟨row_same this.1 (s this.2 (by omega) (by omega)), retag_other this.2 (lo this.2 (by omega))⟩
  · exact ⟨ho.mono fun r _ e => by rcases e with e | e; rw [e, h.tp]; decide; rw [h.t9 r e.symm]; decide, fun r hr => retag_old hr⟩

theorem dplay_snoc (cs : List ChangeA) (c : ChangeA) (l : Dir) : dplay (cs ++ [c]) l = capply c.off.data.toList c.on.data.toList c.file (dplay cs l) := by unfold dplay; simp
theorem changesCells_snoc (cs : List ChangeA) (c : ChangeA) : changesCells (cs ++ [c]) = changesCells cs ++ c.cells := by unfold changesCells; simp
/-- Behind a change of names that waits. -/
theorem DiskV.dwaited {w w' : World} {T : Nat → Nat} {p : Nat} {D : ADisk} {V : Vals} {c : ChangeA} {nm : Nat} (h : DiskV w T p D V)
    (hd : DWaited p (fun x y z => diskCells D.units D.armed D.left D.gone D.room x y z V.v8 V.v9) V.v5 V.v6 V.v7 nm D.sure (capply c.off.data.toList c.on.data.toList c.file D.seen) D.waits.length (changesCells D.waits) c.cells w w') :
    ∃ T' v5' v6' v7', DiskV w' T' p { D with waits := D.waits ++ [c] } { V with v5 := v5', v6 := v6', v7 := v7' } ∧ Step w T w' T' := by
  obtain ⟨⟨v5', v6', v7', hc, m5, m6, n5, n6, hr, k5, k6, k7, a1, a2, a3⟩, ho⟩ := hd
  have hl : ∀ {o : Option Nat} {t : Nat}, tagged T o t → t ≠ 0 → ∀ b, o = some b → b < w.heap.size := fun ht hne b hb => h.low b (by rw [ht b hb]; exact hne)
  have q5 := retag_same k5 h.t5
  let T1 := retag T w.heap.size (mapBlock v5') 2
  let T2 := retag T1 w.heap.size (mapBlock v6') 3
  let T3 := retag T2 w.heap.size v7'.ownBlock 4
  have o1 : ∀ r, r < w.heap.size → T1 r = T r := fun r hr => retag_old hr
  have o2 : ∀ r, r < w.heap.size → T2 r = T r := fun r hr => (retag_old hr).trans (o1 r hr)
  have o3 : ∀ r, r < w.heap.size → T3 r = T r := fun r hr => (retag_old hr).trans (o2 r hr)
  have oth : ∀ {o : Option Nat} {t : Nat}, tagged T o t → t ≠ 0 → tagged T3 o t := fun ht hne b hb => by rw [o3 b (hl ht hne b hb)]; exact ht b hb
  have t6' : tagged T1 (mapBlock V.v6) 3 := retag_other h.t6 (hl h.t6 (by decide))
  have t7' : tagged T2 V.v7.ownBlock 4 := retag_other (retag_other h.t7 (hl h.t7 (by decide))) (hl h.t7 (by decide))
  have f5 : tagged T3 (mapBlock v5') 2 := by
    intro b hb
    show retag T2 _ _ _ b = 2
    unfold retag
    rw [if_neg (by rintro ⟨_, e⟩; exact a2 b hb e)]
    show retag T1 _ _ _ b = 2
    unfold retag
    rw [if_neg (by rintro ⟨_, e⟩; exact a1 b hb e)]
    exact q5 b hb
  have f6 : tagged T3 (mapBlock v6') 3 := by
    intro b hb
    show retag T2 _ _ _ b = 3
    unfold retag
    rw [if_neg (by rintro ⟨_, e⟩; exact a3 b hb e)]
    exact retag_same k6 t6' b hb
  have f7 : tagged T3 v7'.ownBlock 4 := retag_same k7 t7'
  have z1 := retag_zero (t := 2) h.low ho.size k5 (hl h.t5 (by decide))
  have z2 := retag_zero (t := 3) (m := w'.heap.size) (lo := w.heap.size) z1 (Nat.le_refl _) k6 (fun k hk => Nat.lt_of_lt_of_le (hl h.t6 (by decide) k hk) ho.size)
  have z3 := retag_zero (t := 4) (m := w'.heap.size) (lo := w.heap.size) z2 (Nat.le_refl _) k7 (fun k hk => Nat.lt_of_lt_of_le (hl h.t7 (by decide) k hk) ho.size)
  have hs : ∀ b, T b ≠ 0 → T b ≠ 1 → T b ≠ 3 → T b ≠ 4 → w'.heap[b]? = w.heap[b]? := fun b hb h1 h3 h4 => ho.same b (h.low b hb) (by
    rintro (e | e | e)
    · exact h1 (by rw [e]; exact h.tp)
    · exact h3 (h.t6 b e.symm)
    · exact h4 (h.t7 b e.symm))
  have s : ∀ {o : Option Nat} {t : Nat}, tagged T o t → 5 ≤ t → ∀ b, o = some b → w'.heap[b]? = w.heap[b]? := fun ht hne b hb => hs b (by rw [ht b hb]; omega) (by rw [ht b hb]; omega) (by rw [ht b hb]; omega) (by rw [ht b hb]; omega)
  refine ⟨T3, v5', v6', v7', ?_, ⟨ho.mono fun r _ e => by rcases e with e | e | e; rw [e, h.tp]; decide; rw [h.t6 r e.symm]; decide; rw [h.t7 r e.symm]; decide, o3⟩⟩
  have es : ADisk.seen { D with waits := D.waits ++ [c] } = capply c.off.data.toList c.on.data.toList c.file D.seen := dplay_snoc _ _ _
  refine ⟨hc, by rw [o3 p h.cells.lt]; exact h.tp, mapAt_fit m5, f5, by rw [es]; exact mapAt_fit m6, f6, ⟨fun e => absurd e n5, fun e => absurd e n6⟩, fun e => absurd e n5, ?_, f7,
    row_same h.r8 (s h.t8 (by decide)), oth h.t8 (by decide), row_same h.r9 (s h.t9 (by decide)), oth h.t9 (by decide), h.nf, fun i h1 h2 => ?_, z3⟩
  · show w'.ownsRow 0 _ 3 v7' (D.waits ++ [c]).length (changesCells (D.waits ++ [c]))
    rw [List.length_append, changesCells_snoc]; exact hr
  · have := h.rf i h1 h2
    exact ⟨row_same this.1 (s this.2 (by omega)), oth this.2 (by omega)⟩
end Go.Proofs.Ytembondddgfpcaa

namespace Go.Proofs.Ytembondddgfpcaa
open Go.RowKit Go.Maps

/-- Behind a directory that was made sure. -/
theorem DiskV.dkept {w w' : World} {T : Nat → Nat} {p : Nat} {D : ADisk} {V : Vals} {nm k : Nat} (h : DiskV w T p D V)
    (hd : DKept p (fun x y => diskCells D.units D.armed D.left D.gone D.room V.v5 x y V.v8 V.v9) V.v5 nm (dplay (D.waits.take k) D.sure) w w') :
    ∃ T' v6', DiskV w' T' p { D with sure := dplay (D.waits.take k) D.sure, waits := [] } { V with v6 := v6', v7 := .slice none 0 0 } ∧ Step w T w' T' := by
  obtain ⟨⟨v6', hc, m5, m6, hnil, hk⟩, ho⟩ := hd
  have hl : ∀ {o : Option Nat} {t : Nat}, tagged T o t → t ≠ 0 → ∀ b, o = some b → b < w.heap.size := fun ht hne b hb => h.low b (by rw [ht b hb]; exact hne)
  have hk' : sameOr w.heap.size w'.heap.size none (mapBlock v6') := hk
  have hs : ∀ b, T b ≠ 0 → T b ≠ 1 → T b ≠ 2 → w'.heap[b]? = w.heap[b]? := fun b hb h1 h2 => ho.same b (h.low b hb) (by
    rintro (e | e)
    · exact h1 (by rw [e]; exact h.tp)
    · exact h2 (h.t5 b e.symm))
  have s : ∀ {o : Option Nat} {t : Nat}, tagged T o t → 3 ≤ t → ∀ b, o = some b → w'.heap[b]? = w.heap[b]? := fun ht hne b hb => hs b (by rw [ht b hb]; omega) (by rw [ht b hb]; omega) (by rw [ht b hb]; omega)
  refine ⟨retag T w.heap.size (mapBlock v6') 3, v6', ?_, ⟨ho.mono fun r _ e => by rcases e with e | e; rw [e, h.tp]; decide; rw [h.t5 r e.symm]; decide, fun r hr => retag_old hr⟩⟩
  refine ⟨hc, by rw [retag_old h.cells.lt]; exact h.tp, mapAt_fit m5, retag_other h.t5 (hl h.t5 (by decide)), mapAt_fit m6, retag_same hk' (fun b hb => by cases hb), hnil, fun _ => ⟨rfl, rfl⟩, World.ownsRow_nil _ _ _ _, (fun b hb => by cases hb),
    row_same h.r8 (s h.t8 (by decide)), retag_other h.t8 (hl h.t8 (by decide)), row_same h.r9 (s h.t9 (by decide)), retag_other h.t9 (hl h.t9 (by decide)), h.nf, fun i h1 h2 => ?_, retag_zero h.low ho.size hk' (fun k hk => by cases hk)⟩
  have := h.rf i h1 h2
  exact ⟨row_same this.1 (s this.2 (by omega)), retag_other this.2 (hl this.2 (by omega))⟩

theorem row_cells {w : World} {e : TypeId} {size : Nat} {v : Value} {n : Nat} {xs : List Value} (h : w.ownsRow 0 e size v n xs) (hn : 0 < n) :
    ∃ g cap cur, v = .slice (some ⟨g, 0, none⟩) n cap ∧ Cells w g e cur ∧ n ≤ cap ∧ cap ≤ maxLen ∧ cur.size = cap * size ∧ cur.toList.take (n * size) = xs := by
  rcases h.2 with ⟨_, h⟩ | ⟨g, cap, cur, rfl, _, hg, h1, h2, h3, h4⟩
  · omega
  · exact ⟨g, cap, cur, rfl, hg, h1, h2, h3, h4⟩
theorem row_of_cells {w : World} {e : TypeId} {size : Nat} {g n cap : Nat} {cur : Array Value} {xs : List Value} (hc : Cells w g e cur) (h1 : n ≤ cap) (h2 : cap ≤ maxLen) (h3 : cur.size = cap * size) (h4 : cur.toList.take (n * size) = xs) (hl : xs.length = n * size) :
    w.ownsRow 0 e size (.slice (some ⟨g, 0, none⟩) n cap) n xs := ⟨hl, .inr ⟨g, cap, cur, rfl, Nat.zero_le _, hc, h1, h2, h3, h4⟩⟩
theorem files_at : ∀ (fs : List FileA) (vs : List Value) (i : Nat) (h : i < fs.length) (h' : i < vs.length), (filesCells fs vs)[i * 3]? = some (.string fs[i].sure) ∧ (filesCells fs vs)[i * 3 + 1]? = some vs[i] ∧ (filesCells fs vs)[i * 3 + 2]? = some (.int .i64 (fs[i].seen.length : Nat))
  | [], _, i, h, _ => by simp at h
  | f :: fs, [], i, _, h' => by simp at h'
  | f :: fs, v :: vs, 0, _, _ => ⟨rfl, rfl, rfl⟩
  | f :: fs, v :: vs, i + 1, h, h' => by
    have ih := files_at fs vs i (by simpa using h) (by simpa using h')
    have sh : ∀ j, (filesCells (f :: fs) (v :: vs))[(i + 1) * 3 + j]? = (filesCells fs vs)[i * 3 + j]? := by
      intro j
      show (fileCells f v ++ filesCells fs vs)[_]? = _
      rw [List.getElem?_append_right (by simp [fileCells]; omega)]
      congr 1
      simp [fileCells]; omega
    exact ⟨(sh 0).trans ih.1, (sh 1).trans ih.2.1, (sh 2).trans ih.2.2⟩
theorem files_set : ∀ (fs : List FileA) (vs : List Value) (i : Nat) (f' : FileA) (v' : Value), i < fs.length → i < vs.length →
    filesCells (fs.set i f') (vs.set i v') = (((filesCells fs vs).set (i * 3) (.string f'.sure)).set (i * 3 + 1) v').set (i * 3 + 2) (.int .i64 (f'.seen.length : Nat))
  | [], _, i, _, _, h, _ => by simp at h
  | f :: fs, [], i, _, _, _, h' => by simp at h'
  | f :: fs, v :: vs, 0, f', v', _, _ => rfl
  | f :: fs, v :: vs, i + 1, f', v', h, h' => by
    have ih := files_set fs vs i f' v' (by simpa using h) (by simpa using h')
    show fileCells f v ++ filesCells (fs.set i f') (vs.set i v') = (((fileCells f v ++ filesCells fs vs).set _ _).set _ _).set _ _
    rw [ih]
    have sh : ∀ (xs : List Value) j (u : Value), (fileCells f v ++ xs).set ((i + 1) * 3 + j) u = fileCells f v ++ xs.set (i * 3 + j) u := by
      intro xs j u
      rw [List.set_append_right _ _ (by simp [fileCells]; omega)]
      congr 2
      simp [fileCells]; omega
    have s0 := sh (filesCells fs vs) 0 (.string f'.sure)
    rw [show (i + 1) * 3 + 0 = (i + 1) * 3 by omega, show i * 3 + 0 = i * 3 by omega] at s0
    rw [s0, sh, sh]

/-- What is known of one file of a disk. -/
theorem DiskV.file {w : World} {T : Nat → Nat} {p : Nat} {D : ADisk} {V : Vals} (h : DiskV w T p D V) {i : Nat} (hi : i < D.files.length) :
    ∃ g cap cur, V.v8 = .slice (some ⟨g, 0, none⟩) D.files.length cap ∧ Cells w g 96 cur ∧ D.files.length ≤ cap ∧ cap ≤ maxLen ∧ cur.size = cap * 3 ∧ cur.toList.take (D.files.length * 3) = filesCells D.files V.fvs ∧ T g = 5 ∧
      FileAt w g (i * 3) D.files[i].sure (V.fvs[i]'(by rw [h.nf]; exact hi)) D.files[i].waits (D.files[i].seen.length : Nat) := by
  obtain ⟨g, cap, cur, e, hc, h1, h2, h3, h4⟩ := row_cells h.r8 (by omega)
  obtain ⟨a0, a1, a2⟩ := files_at D.files V.fvs i hi (by rw [h.nf]; exact hi)
  have r8 := h.r8
  rw [e] at r8
  exact ⟨g, cap, cur, e, hc, h1, h2, h3, h4, h.t8 g (by rw [e]; rfl), ⟨row_at r8 a0, row_at r8 a1, row_at r8 a2, (h.rf i hi (by rw [h.nf]; exact hi)).1⟩⟩

theorem take_set3 (l : List Value) (n i : Nat) (a b c : Value) : (((l.set i a).set (i + 1) b).set (i + 2) c).take n = (((l.take n).set i a).set (i + 1) b).set (i + 2) c := by
  rw [List.take_set, List.take_set, List.take_set]

/-- Behind a turn of one file: its cells, and what waits of it. -/
theorem DiskV.fturned {w w' : World} {T : Nat → Nat} {p : Nat} {D : ADisk} {V : Vals} (h : DiskV w T p D V) {i : Nat} (hi : i < D.files.length) {g cap : Nat} {cur : Array Value} (f' : FileA) (v' : Value)
    (e8 : V.v8 = .slice (some ⟨g, 0, none⟩) D.files.length cap) (c1 : D.files.length ≤ cap) (c2 : cap ≤ maxLen) (c3 : cur.size = cap * 3) (c4 : cur.toList.take (D.files.length * 3) = filesCells D.files V.fvs)
    (hc : Cells w' g 96 (((cur.setIfInBounds (i * 3) (.string f'.sure)).setIfInBounds (i * 3 + 1) v').setIfInBounds (i * 3 + 2) (.int .i64 (f'.seen.length : Nat))))
    (hr : w'.ownsRow 0 89 5 v' f'.waits.length (actsCells f'.waits)) (hk : sameOr w.heap.size w'.heap.size (V.fvs[i]'(by rw [h.nf]; exact hi)).ownBlock v'.ownBlock ∨ v'.ownBlock = none)
    (ho : Only (fun r => r = g ∨ some r = (V.fvs[i]'(by rw [h.nf]; exact hi)).ownBlock) w w') :
    ∃ T', DiskV w' T' p { D with files := D.files.set i f' } { V with fvs := V.fvs.set i v' } ∧ Step w T w' T' := by
  have hi' : i < V.fvs.length := by rw [h.nf]; exact hi
  have tg : T g = 5 := h.t8 g (by rw [e8]; rfl)
  have ti := (h.rf i hi hi').2
  have hl : ∀ {o : Option Nat} {t : Nat}, tagged T o t → t ≠ 0 → ∀ b, o = some b → b < w.heap.size := fun ht hne b hb => h.low b (by rw [ht b hb]; exact hne)
  have hk' : sameOr w.heap.size w'.heap.size (if v'.ownBlock = none then none else (V.fvs[i]'hi').ownBlock) v'.ownBlock := by
    rcases hk with hk | hk
    · by_cases hn : v'.ownBlock = none
      · rw [if_pos hn]; exact .inl hn
      · rw [if_neg hn]; exact hk
    · rw [if_pos hk]; exact .inl hk
  have ti' : tagged T (if v'.ownBlock = none then none else (V.fvs[i]'hi').ownBlock) (7 + i) := by
    split
    · intro b hb; cases hb
    · exact ti
  have hs : ∀ b, T b ≠ 0 → T b ≠ 5 → T b ≠ 7 + i → w'.heap[b]? = w.heap[b]? := fun b hb h1 h2 => ho.same b (h.low b hb) (by
    rintro (e | e)
    · exact h1 (by rw [e]; exact tg)
    · exact h2 (ti b e.symm))
  have s : ∀ {o : Option Nat} {t : Nat}, tagged T o t → t ≠ 0 → t ≠ 5 → t ≠ 7 + i → ∀ b, o = some b → w'.heap[b]? = w.heap[b]? := fun ht h0 h5 h7 b hb => hs b (by rw [ht b hb]; exact h0) (by rw [ht b hb]; exact h5) (by rw [ht b hb]; exact h7)
  refine ⟨retag T w.heap.size v'.ownBlock (7 + i), ?_, ⟨ho.mono fun r _ e => by rcases e with e | e; rw [e, tg]; decide; rw [ti r e.symm]; omega, fun r hr => retag_old hr⟩⟩
  refine ⟨(hs p (by rw [h.tp]; decide) (by rw [h.tp]; decide) (by rw [h.tp]; omega)).trans h.cells, by rw [retag_old h.cells.lt]; exact h.tp, h.m5.same (s h.t5 (by decide) (by decide) (by omega)), retag_other h.t5 (hl h.t5 (by decide)), h.m6.same (s h.t6 (by decide) (by decide) (by omega)), retag_other h.t6 (hl h.t6 (by decide)), h.nil56, h.nilw,
    row_same h.r7 (s h.t7 (by decide) (by decide) (by omega)), retag_other h.t7 (hl h.t7 (by decide)), ?_, retag_other h.t8 (hl h.t8 (by decide)), row_same h.r9 (s h.t9 (by decide) (by decide) (by omega)), retag_other h.t9 (hl h.t9 (by decide)), by simp [h.nf], fun j h1 h2 => ?_, retag_zero h.low ho.size hk' (hl ti' (by omega))⟩
  · show w'.ownsRow 0 _ 3 V.v8 (D.files.set i f').length (filesCells (D.files.set i f') (V.fvs.set i v'))
    rw [e8, List.length_set]
    refine row_of_cells hc c1 c2 (by simp [c3]) ?_ ?_
    · rw [files_set _ _ _ _ _ hi hi', ← c4]
      simp only [Array.toList_setIfInBounds]
      exact take_set3 _ _ _ _ _ _
    · have := filesCells_length (D.files.set i f') (V.fvs.set i v') (by simp [h.nf])
      rw [this, List.length_set]
  · simp only [List.length_set] at h1 h2
    by_cases hij : i = j
    · subst hij
      simp only [List.getElem_set_self]
      exact ⟨hr, retag_same hk' ti'⟩
    · simp only [List.getElem_set_ne hij]
      have := h.rf j h1 h2
      exact ⟨row_same this.1 (s this.2 (by omega) (by omega) (by omega)), retag_other this.2 (hl this.2 (by omega))⟩
end Go.Proofs.Ytembondddgfpcaa

namespace Go.Proofs.Ytembondddgfpcaa
open Go.RowKit Go.Maps

def canDo (D : ADisk) : Bool := !(D.armed && decide (D.left < 1))
def didD (D : ADisk) (a : ActA) : ADisk := { D with units := D.units + 1, left := (if D.armed then D.left - 1 else D.left), acts := D.acts ++ [a] }
def downD (D : ADisk) : ADisk := { D with gone := true }

theorem do_no {w : World} {T : Nat → Nat} {p n : Nat} {D : ADisk} {V : Vals} (h : DiskV w T p D V) (hf : Fine n D) (hn : n ≤ 500000) (hc : canDo D = false) (kind at_ : Nat) (name other bytes : ByteArray) :
    Calls Try.prog 50 #[.pointer (some ⟨p, 0, none⟩), .agg #[.int .i64 kind, .string name, .string other, .string bytes, .int .i64 at_]] w fun e w' =>
      e = .returned (errV 3) ∧ DiskV w' T p (downD D) V ∧ Step w T w' T := by
  have hl0 := hf.l0
  obtain ⟨ha, hl⟩ : D.armed = true ∧ D.left < 1 := by simpa [canDo] using hc
  have hcl := h.cells
  rw [ha] at hcl
  refine (do_down p D.units D.left D.gone D.room V.v5 V.v6 V.v7 V.v8 V.v9 kind at_ name other bytes w hcl hf.u0 (by have := hf.u1; omega) (by omega)).mono ?_
  rintro e w' ⟨rfl, hd, ho⟩
  refine ⟨rfl, h.power (D' := downD D) (by show Cells w' p _ (diskCells D.units D.armed D.left true D.room _ _ _ _ _); rw [ha]; exact hd) ho rfl rfl rfl rfl, step_p h.tp ho⟩
theorem do_yes {w : World} {T : Nat → Nat} {p n : Nat} {D : ADisk} {V : Vals} (h : DiskV w T p D V) (hf : Fine n D) (hn : n ≤ 500000) (hc : canDo D = true) (kind at_ : Nat) (name other bytes : ByteArray) :
    Calls Try.prog 50 #[.pointer (some ⟨p, 0, none⟩), .agg #[.int .i64 kind, .string name, .string other, .string bytes, .int .i64 at_]] w fun e w' =>
      e = .returned (errV 0) ∧ ∃ T' v9', DiskV w' T' p (didD D ⟨kind, name, other, bytes, at_⟩) { V with v9 := v9' } ∧ Step w T w' T' := by
  have ha : D.armed = false ∨ 1 ≤ D.left := by
    cases hq : D.armed
    · exact .inl rfl
    · right
      have : ¬ D.left < 1 := by simpa [canDo, hq] using hc
      omega
  refine (do_up p D.units D.left D.armed D.gone D.room V.v5 V.v6 V.v7 V.v8 V.v9 kind at_ name other bytes D.acts.length (actsCells D.acts) w h.cells hf.u0 (by have := hf.u1; omega) hf.l0 hf.l1 ha h.r9 (fun e => (tag_ne h.t9 (b := some p) (u := 1) (fun b hb => by cases hb; exact h.tp) (by decide) p e) rfl) (by have := hf.nacts; omega)).mono ?_
  rintro e w' ⟨rfl, hd⟩
  exact ⟨rfl, h.did (D' := didD D ⟨kind, name, other, bytes, at_⟩) (a := ⟨kind, name, other, bytes, at_⟩) hd rfl rfl rfl rfl⟩

theorem dwait_any {w : World} {T : Nat → Nat} {p n : Nat} {D : ADisk} {V : Vals} (h : DiskV w T p D V) (hf : Fine n D) (hn : n ≤ 500000) (off on : ByteArray) (file : Nat) (h1 : off.size ≤ 1000000) (h2 : on.size ≤ 1000000) (h3 : file ≤ 1000000) :
    Calls Try.prog 51 #[.pointer (some ⟨p, 5, none⟩), .agg #[.string off, .string on, .int .i64 file]] w fun e w' => e = .returned (.tuple #[]) ∧
      ∃ T' v5' v6' v7', DiskV w' T' p { D with waits := D.waits ++ [⟨off, on, file⟩] } { V with v5 := v5', v6 := v6', v7 := v7' } ∧ Step w T w' T' := by
  have tp : tagged T (some p) 1 := fun b hb => by cases hb; exact h.tp
  have hdl := hf.dirs
  have hsl := dplay_length D.waits D.sure
  rcases h.m6 with ⟨e6, hl6⟩ | ⟨b6, e6, ho6⟩
  · have e5 := h.nil56.2 e6
    have hs0 : D.sure = [] := by
      rcases h.m5 with ⟨_, hl⟩ | ⟨b5, e, _⟩
      · exact hl
      · rw [e5] at e; cases e
    have hcl := h.cells
    rw [e5, e6] at hcl
    refine (dwait_none p D.units D.left D.armed D.gone D.room V.v7 V.v8 V.v9 0 D.waits.length (changesCells D.waits) off on file w hcl h.r7 (fun e => tag_ne h.t7 tp (by decide) p e rfl) (by omega) (by omega) h1 h2 h3).mono ?_
    rintro e w' ⟨rfl, hd⟩
    refine ⟨rfl, h.dwaited (c := ⟨off, on, file⟩) (nm := 0 + 1) ?_⟩
    rw [e5, e6, hs0, hl6]
    exact hd
  · obtain ⟨b5, e5⟩ : ∃ b5, V.v5 = .map (some b5) := by
      rcases h.m5 with ⟨e, _⟩ | ⟨b5, e, _⟩
      · have := h.nil56.1 e; rw [e6] at this; cases this
      · exact ⟨b5, e⟩
    have hcl := h.cells
    rw [e5, e6] at hcl
    have m5 := h.m5
    rw [e5] at m5
    have t5 := h.t5
    have t6 := h.t6
    rw [e5] at t5
    rw [e6] at t6
    have hsn : D.seen.length ≤ n := by unfold ADisk.seen; omega
    refine (dwait_some p D.units D.left D.armed D.gone D.room b5 b6 V.v7 V.v8 V.v9 n D.sure D.seen D.waits.length (changesCells D.waits) off on file w hcl (m5.mono (by omega)) (ho6.mono (by omega)) h.r7
      (fun e => tag_ne h.t7 tp (by decide) p e rfl) (fun e => tag_ne t6 tp (by decide) b6 rfl (by rw [e])) (fun e => tag_ne h.t7 t6 (by decide) b6 e rfl) (fun e => tag_ne t5 tp (by decide) b5 rfl (by rw [e])) (fun e => tag_ne t5 t6 (by decide) b5 rfl (by rw [e]; rfl)) (fun e => tag_ne h.t7 t5 (by decide) b5 e rfl)
      (by omega) (by omega) h1 h2 h3).mono ?_
    rintro e w' ⟨rfl, hd⟩
    refine ⟨rfl, h.dwaited (c := ⟨off, on, file⟩) (nm := n + 1) ?_⟩
    rw [e5, e6]
    exact hd

theorem dkeep_any {w : World} {T : Nat → Nat} {p n : Nat} {D : ADisk} {V : Vals} (h : DiskV w T p D V) (hf : Fine n D) (hn : n ≤ 500000) (m : Int) (hw : (Lit.int .i64 m).wf = true) :
    Calls Try.prog 45 #[.pointer (some ⟨p, 5, none⟩), .int .i64 m] w fun e w' => e = .returned (.tuple #[]) ∧
      ∃ T' v6', DiskV w' T' p { D with sure := dplay (D.waits.take (keptN m D.waits.length)) D.sure, waits := [] } { V with v6 := v6', v7 := .slice none 0 0 } ∧ Step w T w' T' := by
  have tp : tagged T (some p) 1 := fun b hb => by cases hb; exact h.tp
  have hdl := hf.dirs
  by_cases h7 : V.v7 = .slice none 0 0
  · have hz : D.waits.length = 0 := by
      rcases h.r7.2 with ⟨_, hz⟩ | ⟨g, cap, cur, e, _⟩
      · exact hz
      · rw [h7] at e; cases e
    have hw0 : D.waits = [] := List.eq_nil_of_length_eq_zero hz
    have hcl := h.cells
    rw [h7] at hcl
    refine (dkeep_nil p D.units D.left D.armed D.gone D.room V.v5 V.v6 V.v8 V.v9 D.sure.length D.sure m w hcl h.m5 (fun e => tag_ne h.t5 tp (by decide) p e rfl) hw).mono ?_
    rintro e w' ⟨rfl, hd⟩
    refine ⟨rfl, h.dkept (nm := D.sure.length) (k := keptN m D.waits.length) ?_⟩
    rw [hw0]
    have e : dplay (List.take (keptN m ([] : List ChangeA).length) []) D.sure = D.sure := by simp [dplay]
    rw [e]
    exact hd
  · obtain ⟨g, cap, e7⟩ : ∃ g cap, V.v7 = .slice (some ⟨g, 0, none⟩) D.waits.length cap := by
      rcases h.r7.2 with ⟨e, _⟩ | ⟨g, cap, cur, e, _⟩
      · exact absurd e h7
      · exact ⟨g, cap, e⟩
    rcases h.m5 with ⟨e5, hl5⟩ | ⟨b5, e5, ho5⟩
    · exact absurd (h.nilw e5).2 h7
    · have hcl := h.cells
      rw [e5, e7] at hcl
      have r7 := h.r7
      rw [e7] at r7
      have t7 := h.t7
      rw [e7] at t7
      have t5 := h.t5
      rw [e5] at t5
      refine (dkeep_some p D.units D.left D.armed D.gone D.room b5 V.v6 V.v8 V.v9 D.sure.length D.sure g cap D.waits m w hcl ho5 r7 (fun e => tag_ne t7 tp (by decide) g rfl (by rw [e])) (fun e => tag_ne t5 tp (by decide) b5 rfl (by rw [e])) (fun e => tag_ne t7 t5 (by decide) g rfl (by rw [e]; rfl)) (by omega)
        (fun c hc => ⟨(hf.changes c hc).1, (hf.changes c hc).2.1, by have := (hf.changes c hc).2.2; have := hf.nfiles; omega⟩) hw).mono ?_
      rintro e w' ⟨rfl, hd⟩
      refine ⟨rfl, h.dkept (nm := D.sure.length + D.waits.length) (k := keptN m D.waits.length) ?_⟩
      rw [e5]
      exact hd
end Go.Proofs.Ytembondddgfpcaa

namespace Go.Proofs.Ytembondddgfpcaa
open Go.RowKit Go.Maps

theorem getElem_set3 (cur : Array Value) (i : Nat) (v : Value) (h : cur[i]? = some v) : cur.setIfInBounds i v = cur := by
  apply Array.ext'
  simp only [Array.toList_setIfInBounds]
  obtain ⟨hlt, he⟩ := Array.getElem?_eq_some_iff.1 h
  rw [← he]
  exact List.set_getElem_self (by simpa using hlt)

def FileA.more (f : FileA) (a : ActA) : FileA := ⟨f.sure, f.waits ++ [a]⟩
theorem fkeep_disk {w : World} {T : Nat → Nat} {p n : Nat} {D : ADisk} {V : Vals} (h : DiskV w T p D V) (hf : Fine n D) (hn : n ≤ 500000) {i : Nat} (hi : i < D.files.length) {g cap m : Nat} (e8 : V.v8 = .slice (some ⟨g, 0, none⟩) m cap) (u0 : Int) (hw : (Lit.int .i64 u0).wf = true) :
    Calls Try.prog 46 #[.pointer (some ⟨g, i * 3, none⟩), .int .i64 u0] w fun e w' => e = .returned (.tuple #[]) ∧
      ∃ T' V', DiskV w' T' p { D with files := D.files.set i (D.files[i].kept u0) } V' ∧ Step w T w' T' ∧ V'.v8 = V.v8 := by
  obtain ⟨g', cap', cur, e, hc, h1, h2, h3, h4, tg, hfa⟩ := h.file hi
  rw [e] at e8
  obtain ⟨rfl, rfl, rfl⟩ : g' = g ∧ D.files.length = m ∧ cap' = cap := by cases e8; exact ⟨rfl, rfl, rfl⟩
  have ok := hf.files _ (List.getElem_mem hi)
  have hi' : i < V.fvs.length := by rw [h.nf]; exact hi
  have hsl : D.files[i].sure.data.toList.length = D.files[i].sure.size := (Lib.size_eq _).symm
  refine (fkeep_any g' (i * 3) cur D.files[i].sure V.fvs[i] D.files[i].waits _ u0 w hc hfa (by rw [← hsl]; exact ok.fits) (by have := ok.len; omega) hw (fun a ha => by have := ok.kinds a ha; omega) (by have := ok.many; omega)).mono ?_
  rintro e' w' ⟨rfl, hc', ho⟩
  refine ⟨rfl, ?_⟩
  have hk : (D.files[i].kept u0).seen = afterF D.files[i].waits u0 D.files[i].sure.data.toList := rfl
  obtain ⟨T', hd, hs⟩ := h.fturned hi (D.files[i].kept u0) (.slice none 0 0) e h1 h2 h3 h4 (by rw [hk]; exact hc') (World.ownsRow_nil _ _ _ _) (.inr rfl) (ho.mono fun r _ e => .inl e)
  exact ⟨T', _, hd, hs, rfl⟩
theorem fwait_disk {w : World} {T : Nat → Nat} {p n : Nat} {D : ADisk} {V : Vals} (h : DiskV w T p D V) (hf : Fine n D) (hn : n ≤ 500000) {i : Nat} (hi : i < D.files.length) {g cap m : Nat} (e8 : V.v8 = .slice (some ⟨g, 0, none⟩) m cap) (a : ActA)
    (ha : a.kind = 2 ∨ a.kind = 3) (hat : a.kind = 3 → a.at_ ≤ D.files[i].seen.length) (hb : a.bytes.size ≤ 1000) :
    Calls Try.prog 53 #[.pointer (some ⟨g, i * 3, none⟩), .agg #[.int .i64 a.kind, .string a.name, .string a.other, .string a.bytes, .int .i64 a.at_]] w fun e w' => e = .returned (.tuple #[]) ∧
      ∃ T' V', DiskV w' T' p { D with files := D.files.set i (D.files[i].more a) } V' ∧ Step w T w' T' := by
  obtain ⟨g', cap', cur, e, hc, h1, h2, h3, h4, tg, hfa⟩ := h.file hi
  rw [e] at e8
  obtain ⟨rfl, rfl, rfl⟩ : g' = g ∧ D.files.length = m ∧ cap' = cap := by cases e8; exact ⟨rfl, rfl, rfl⟩
  have ok := hf.files _ (List.getElem_mem hi)
  have hi' : i < V.fvs.length := by rw [h.nf]; exact hi
  have hsl : D.files[i].sure.data.toList.length = D.files[i].sure.size := (Lib.size_eq _).symm
  have hseen : D.files[i].seen.length ≤ n := by
    have := seenL_length_le D.files[i].waits D.files[i].sure.data.toList
    have := ok.len; unfold FileA.seen; omega
  have ti := (h.rf i hi hi').2
  have hne : (V.fvs[i]).ownBlock ≠ some g' := fun e => by have := ti g' e; omega
  have fin : ∀ (size' : Int) (w' : World), Waited g' (i * 3) cur V.fvs[i] D.files[i].waits.length (actsCells D.files[i].waits) a.cells size' w w' → size' = ((D.files[i].more a).seen.length : Nat) →
      ∃ T' V', DiskV w' T' p { D with files := D.files.set i (D.files[i].more a) } V' ∧ Step w T w' T' := by
    rintro _ w' ⟨⟨v', hc', hr, hk⟩, ho⟩ rfl
    obtain ⟨T', hd, hs⟩ := h.fturned hi (D.files[i].more a) v' e h1 h2 h3 h4 (by
      have e0 : cur[i * 3]? = some (.string D.files[i].sure) := by rw [← hc.cell]; exact hfa.c0
      have e1 : cur.setIfInBounds (i * 3) (.string (D.files[i].more a).sure) = cur := getElem_set3 cur _ _ e0
      rw [e1]; exact hc') (by
      show w'.ownsRow 0 _ 5 v' (D.files[i].waits ++ [a]).length (actsCells (D.files[i].waits ++ [a]))
      rw [List.length_append, actsCells_snoc]; exact hr) (.inl hk) ho
    exact ⟨T', _, hd, hs⟩
  have hsn : (D.files[i].more a).seen = stepF D.files[i].seen a := seenL_snoc _ _ _
  obtain ⟨kind, name, other, bytes, at_⟩ := a
  rcases ha with hk | hk
  · dsimp only at hk
    subst hk
    refine (wait_write g' (i * 3) cur V.fvs[i] D.files[i].seen.length D.files[i].waits.length (actsCells D.files[i].waits) name other bytes at_ w hc (by rw [← hc.cell]; exact hfa.c1) (by rw [← hc.cell]; exact hfa.c2) hfa.row hne (by have := ok.many; omega) (by omega) (by dsimp only at hb; omega)).mono ?_
    rintro e' w' ⟨rfl, hd⟩
    refine ⟨rfl, fin _ w' hd ?_⟩
    rw [hsn]
    unfold stepF
    rw [if_neg (by show ¬ (2 : Nat) = 3; decide), List.length_append, ← Lib.size_eq]
    simp
  · dsimp only at hk
    subst hk
    refine (wait_cut g' (i * 3) cur V.fvs[i] D.files[i].seen.length D.files[i].waits.length (actsCells D.files[i].waits) name other bytes at_ w hc (by rw [← hc.cell]; exact hfa.c1) (by rw [← hc.cell]; exact hfa.c2) hfa.row hne (by have := ok.many; omega)).mono ?_
    rintro e' w' ⟨rfl, hd⟩
    refine ⟨rfl, fin _ w' hd ?_⟩
    rw [hsn]
    unfold stepF
    rw [if_pos rfl, List.length_take]
    have := hat rfl
    dsimp only at this
    simp; omega
theorem after_disk {w : World} {T : Nat → Nat} {p n : Nat} {D : ADisk} {V : Vals} (h : DiskV w T p D V) (hf : Fine n D) (hn : n ≤ 500000) {i : Nat} (hi : i < D.files.length) {g cap m : Nat} (e8 : V.v8 = .slice (some ⟨g, 0, none⟩) m cap) (u0 : Int) (hw : (Lit.int .i64 u0).wf = true) :
    Calls Try.prog 48 #[.pointer (some ⟨g, i * 3, none⟩), .int .i64 u0] w fun e w' => e = .returned (.string ⟨(afterF D.files[i].waits u0 D.files[i].sure.data.toList).toArray⟩) ∧ Below w.heap.size w w' := by
  obtain ⟨g', cap', cur, e, hc, h1, h2, h3, h4, tg, hfa⟩ := h.file hi
  rw [e] at e8
  obtain ⟨rfl, rfl, rfl⟩ : g' = g ∧ D.files.length = m ∧ cap' = cap := by cases e8; exact ⟨rfl, rfl, rfl⟩
  have ok := hf.files _ (List.getElem_mem hi)
  have hi' : i < V.fvs.length := by rw [h.nf]; exact hi
  have hsl : D.files[i].sure.data.toList.length = D.files[i].sure.size := (Lib.size_eq _).symm
  exact after_any g' (i * 3) D.files[i].sure V.fvs[i] D.files[i].waits _ u0 w hfa hc.lt (by rw [← hsl]; exact ok.fits) (by have := ok.len; omega) hw (fun a ha => by have := ok.kinds a ha; omega) (by have := ok.many; omega)

/-- find, of a disk, by names in a new row. -/
theorem find_disk {w W : World} {T : Nat → Nat} {p n : Nat} {D : ADisk} {V : Vals} (h : DiskV w T p D V) (z : ByteArray) (zr : List ByteArray) (cap : Nat) (hb : Below w.heap.size w W) (hl : w.heap.size < W.heap.size)
    (hcl : ∀ j (h : j < (z :: zr).length), W.cell? ⟨w.heap.size, j, none⟩ = some (.string (z :: zr)[j])) (hs : ∀ x ∈ z :: zr, x.size ≤ 1000000) (hlen : (z :: zr).length ≤ 1000) :
    Calls Try.prog 47 #[.pointer (some ⟨p, 0, none⟩), .slice (some ⟨w.heap.size, 0, none⟩) (z :: zr).length cap] W fun e w' =>
      e = .returned (.tuple #[.int .i64 (findR (readyE D.gone (z :: zr)) (dget D.seen z.data.toList)).1, errV (findR (readyE D.gone (z :: zr)) (dget D.seen z.data.toList)).2]) ∧ Below w.heap.size w w' := by
  have h2 := h.below hb
  refine (find_any z zr w.heap.size cap p D.units D.armed D.left D.gone D.room V.v5 V.v6 V.v7 V.v8 V.v9 D.seen.length D.seen W h2.cells h2.m6 hcl hl hs hlen).mono ?_
  rintro e w' ⟨rfl, hb2⟩
  exact ⟨rfl, hb.trans (hb2.mono hb.size)⟩
theorem ready_disk {w W : World} {T : Nat → Nat} {p n : Nat} {D : ADisk} {V : Vals} (h : DiskV w T p D V) (zs : List ByteArray) (cap : Nat) (hb : Below w.heap.size w W) (hl : w.heap.size < W.heap.size)
    (hcl : ∀ j (h : j < zs.length), W.cell? ⟨w.heap.size, j, none⟩ = some (.string zs[j])) (hs : ∀ x ∈ zs, x.size ≤ 1000000) (hlen : zs.length ≤ 1000) :
    Calls Try.prog 49 #[.pointer (some ⟨p, 0, none⟩), .slice (some ⟨w.heap.size, 0, none⟩) zs.length cap] W fun e w' => e = .returned (errV (readyE D.gone zs)) ∧ Below w.heap.size w w' := by
  have h2 := h.below hb
  refine (ready_any zs w.heap.size cap p D.units D.armed D.left D.gone D.room V.v5 V.v6 V.v7 V.v8 V.v9 W h2.cells hcl hl hs hlen).mono ?_
  rintro e w' ⟨rfl, hb2⟩
  exact ⟨rfl, hb.trans (hb2.mono hb.size)⟩
end Go.Proofs.Ytembondddgfpcaa

namespace Go.Proofs.Ytembondddgfpcaa
open Go.RowKit Go.Maps
attribute [local go_sem] errV_0 errV_1 errV_3 errV_7

set_option maxHeartbeats 400000 in
theorem index_nil (fv : Value) (w : World) :
    Calls Try.prog 82 #[.slice none 0 0, fv] w fun e w' => e = .returned (.int .i64 (-1)) ∧ w = w' := by
  go_enter Try.func82, Try.ntmps82
  go_wp2
  go_loopw [8] (fun i wr => i = .int .i64 0 ∧ wr = w) (fun _ _ => 0)
  case atStart => exact ⟨rfl, rfl⟩
  case round =>
    obtain ⟨rfl, rfl⟩ := hrel
    go_wp2
    go_ret
    exact ⟨rfl, rfl⟩
set_option maxHeartbeats 400000 in
theorem contains_nil (fv : Value) (w : World) :
    Calls Try.prog 76 #[.slice none 0 0, fv] w fun e w' => e = .returned (.bool false) ∧ w = w' := by
  go_enter Try.func76, Try.ntmps76
  go_wp2_with (go_at_call 82; refine (index_nil _ _).mono ?_; rintro e w' ⟨rfl, rfl⟩)
  go_ret
  exact ⟨rfl, rfl⟩
set_option maxHeartbeats 400000 in
theorem good_nil (w : World) : Calls Try.prog 70 #[.slice none 0 0] w fun e w' => e = .returned (.bool true) ∧ Below w.heap.size w w' := by
  have hcell : (w.alloc (.cells #[Value.nilFunc] 145)).cell? ⟨w.heap.size, 0, none⟩ = some .nilFunc := by rw [(Cells.new w 145 #[Value.nilFunc]).cell]; rfl
  have hfr : (w.alloc (.cells #[Value.nilFunc] 145)).frozen? ⟨w.heap.size, 0, none⟩ = false := (Cells.new w 145 #[Value.nilFunc]).frozen 0
  go_enter Try.func70, Try.ntmps70
  go_wp2_with fail
  refine (contains_nil _ _).mono ?_
  rintro e w' ⟨rfl, rfl⟩
  go_wp2
  go_ret
  exact ⟨rfl, (Below.refl _ w).alloc (Nat.le_refl _) _⟩
set_option maxHeartbeats 400000 in
theorem ready_nil (p : Nat) (D : ADisk) (V : Vals) (T : Nat → Nat) (w : World) (h : DiskV w T p D V) :
    Calls Try.prog 49 #[.pointer (some ⟨p, 0, none⟩), .slice none 0 0] w fun e w' => e = .returned (errV (if D.gone then 3 else 0)) ∧ Below w.heap.size w w' := by
  have G := fun w' (hb2 : Below w.heap.size w w') => show w'.cell? ⟨p, 3, none⟩ = some (.bool D.gone) from ((hb2.cell (p := ⟨p, 3, none⟩) h.cells.lt).trans (h.cells.cell 3))
  generalize D.gone = gone at *
  clear h
  cases gone
  all_goals
    go_enter Try.func49, Try.ntmps49
    go_wp2_with (go_at_call 70; refine (good_nil _).mono ?_; rintro e w' ⟨rfl, hb2⟩; have c3 := G w' hb2; clear G)
    go_ret
    exact ⟨rfl, hb2⟩

def freshD (room : Int) : ADisk := ⟨0, false, 0, false, room, [], [], [], []⟩
theorem fresh_fine (room : Int) (h0 : 0 ≤ room) (h1 : room ≤ 9223372036854775807) : Fine 0 (freshD room) :=
  ⟨Int.le_refl _, Int.le_refl _, Int.le_refl _, by show (0 : Int) ≤ 9223372036854775807; decide, h0, h1, Nat.le_refl _, Nat.le_refl _, Nat.le_refl _, by simp [freshD], by simp [freshD], by simp [freshD]⟩
set_option maxRecDepth 100000 in
set_option maxHeartbeats 1000000 in
theorem new_yes (room : Int) (w : World) (h0 : 0 ≤ room) :
    Calls Try.prog 7 #[.int .i64 room] w fun e w' => e = .returned (.tuple #[.pointer (some ⟨w.heap.size, 0, none⟩), .nilIface]) ∧ DiskAt w' (fun b => if b = w.heap.size then 1 else 0) w.heap.size (freshD room) ∧ Below w.heap.size w w' ∧ w'.heap.size = w.heap.size + 1 := by
  go_enter Try.func7, Try.ntmps7
  go_wp2
  go_ret2
  refine ⟨rfl, ⟨⟨.map none, .map none, .slice none 0 0, .slice none 0 0, .slice none 0 0, []⟩, ?_⟩, (Below.refl _ w).alloc (Nat.le_refl _) _, by simp⟩
  refine ⟨Cells.new w _ _, by simp, .inl ⟨rfl, rfl⟩, (fun b hb => by cases hb), .inl ⟨rfl, rfl⟩, (fun b hb => by cases hb), Iff.rfl, fun _ => ⟨rfl, rfl⟩, World.ownsRow_nil _ _ _ _, (fun b hb => by cases hb), World.ownsRow_nil _ _ _ _, (fun b hb => by cases hb), World.ownsRow_nil _ _ _ _, (fun b hb => by cases hb), rfl, fun i h1 _ => by simp [freshD] at h1, fun b hb => ?_⟩
  by_cases e : b = w.heap.size
  · rw [e]; simp
  · simp [e] at hb
theorem new_no (room : Int) (w : World) (h0 : room < 0) :
    Calls Try.prog 7 #[.int .i64 room] w fun e w' => e = .returned (.tuple #[.pointer none, errV 1]) ∧ w = w' := by
  go_enter Try.func7, Try.ntmps7
  go_wp2
  go_ret2
  exact ⟨rfl, rfl⟩

theorem did_fine {n : Nat} {D : ADisk} (h : Fine n D) (hc : canDo D = true) (a : ActA) : Fine (n + 1) (didD D a) := by
  have hl : 0 ≤ (if D.armed then D.left - 1 else D.left) ∧ (if D.armed then D.left - 1 else D.left) ≤ 9223372036854775807 := by
    have h0 := h.l0; have h1 := h.l1
    cases hq : D.armed
    · simpa using ⟨h0, h1⟩
    · have : ¬ D.left < 1 := by simpa [canDo, hq] using hc
      simp; omega
  have := h.u0; have := h.u1
  exact ⟨by show 0 ≤ D.units + 1; omega, by show D.units + 1 ≤ ((n + 1 : Nat) : Int); omega, hl.1, hl.2, h.r0, h.r1, by have := h.dirs; show D.sure.length + D.waits.length ≤ _; omega, by have := h.nfiles; show D.files.length ≤ _; omega,
    by have := h.nacts; show (D.acts ++ [a]).length ≤ _; simp; omega, fun f hf => (h.files f hf).mono (Nat.le_succ _), h.changes, h.names⟩
def syncdirD (D : ADisk) : ADisk × Nat :=
  if D.gone then (D, 3) else if canDo D then ({ didD D ⟨7, ⟨#[]⟩, ⟨#[]⟩, ⟨#[]⟩, 0⟩ with sure := D.seen, waits := [] }, 0) else (downD D, 3)
theorem wf_allU : (Lit.int .i64 9223372036854775807).wf = true := by decide
theorem keptN_all (m : Nat) (h : m ≤ 1000000000) : keptN 9223372036854775807 m = m := by unfold keptN; omega

set_option maxRecDepth 100000 in
set_option maxHeartbeats 1000000 in
theorem syncdir_any {w : World} {T : Nat → Nat} {p n : Nat} {D : ADisk} (hA : DiskAt w T p D) (hf : Fine n D) (hn : n ≤ 400000) :
    Calls Try.prog 21 #[.pointer (some ⟨p, 0, none⟩)] w fun e w' => e = .returned (errV (syncdirD D).2) ∧ ∃ T', DiskAt w' T' p (syncdirD D).1 ∧ Step w T w' T' := by
  obtain ⟨V, hV⟩ := hA
  have R := ready_nil p D V T w hV
  unfold syncdirD
  cases hg : D.gone
  · rw [hg] at R
    cases hc : canDo D
    · have HG := Lib.hid (fun w1 (hb : Below w.heap.size w w1) => do_no (hV.below hb) hf (by omega) hc (kind := 7) (at_ := 0) (name := ⟨#[]⟩) (other := ⟨#[]⟩) (bytes := ⟨#[]⟩))
      clear hc hg
      go_enter Try.func21, Try.ntmps21
      go_wp2_with fail
      refine R.mono ?_
      rintro e w1 ⟨rfl, hb⟩
      go_wp2_with fail
      refine (HG.out w1 hb).mono ?_
      rintro e w2 ⟨rfl, hd, hs⟩
      go_wp2
      go_ret
      exact ⟨rfl, T, ⟨V, hd⟩, (Step.below hb).trans hs⟩
    · have HG := Lib.hid (fun w1 (hb : Below w.heap.size w w1) => do_yes (hV.below hb) hf (by omega) hc (kind := 7) (at_ := 0) (name := ⟨#[]⟩) (other := ⟨#[]⟩) (bytes := ⟨#[]⟩))
      have HF := Lib.hid (did_fine hf hc ⟨7, ⟨#[]⟩, ⟨#[]⟩, ⟨#[]⟩, 0⟩)
      have hdl := hf.dirs
      clear hc hg
      go_enter Try.func21, Try.ntmps21
      go_wp2_with fail
      refine R.mono ?_
      rintro e w1 ⟨rfl, hb⟩
      go_wp2_with fail
      refine (HG.out w1 hb).mono ?_
      rintro e w2 ⟨rfl, T2, v9', hd, hs⟩
      have K := dkeep_any hd HF.out (by omega) 9223372036854775807 wf_allU
      go_wp2_with fail
      refine K.mono ?_
      rintro e w3 ⟨rfl, T3, v6', hd3, hs3⟩
      have hk : keptN 9223372036854775807 D.waits.length = D.waits.length := keptN_all _ (by omega)
      have HD := Lib.hid (show DiskAt w3 T3 p { didD D ⟨7, ⟨#[]⟩, ⟨#[]⟩, ⟨#[]⟩, 0⟩ with sure := D.seen, waits := [] } from ⟨_, by
        have := hd3
        simp only [didD, hk, List.take_length] at this
        exact this⟩)
      have HS := Lib.hid (((Step.below hb).trans hs).trans hs3)
      clear K hd hs hd3 hs3 hk HG HF R hb
      go_wp2
      go_ret
      exact ⟨rfl, T3, HD.out, HS.out⟩
  · rw [hg] at R
    clear hg
    go_enter Try.func21, Try.ntmps21
    go_wp2_with fail
    refine R.mono ?_
    rintro e w1 ⟨rfl, hb⟩
    go_wp2
    go_ret
    exact ⟨rfl, T, ⟨V, hV.below hb⟩, Step.below hb⟩
end Go.Proofs.Ytembondddgfpcaa

namespace Go.Proofs.Ytembondddgfpcaa
open Go.RowKit Go.Maps
attribute [local go_sem] errV_0 errV_1 errV_3 errV_7

def modF (l : List FileA) (i : Nat) (g : FileA → FileA) : List FileA := if h : i < l.length then l.set i (g l[i]) else l
def asked (D : ADisk) (z : ByteArray) (zr : List ByteArray) : Nat × Nat := findR (readyE D.gone (z :: zr)) (dget D.seen z.data.toList)
theorem asked_cases {n : Nat} {D : ADisk} (hf : Fine n D) (z : ByteArray) (zr : List ByteArray) : (∃ f, asked D z zr = (f, 0) ∧ f < D.files.length ∧ dget D.seen z.data.toList = some f ∧ D.gone = false) ∨ asked D z zr = (0, 1) ∨ asked D z zr = (0, 3) ∨ asked D z zr = (0, 7) := by
  unfold asked
  rcases readyE_cases D.gone (z :: zr) with h | h | h
  · rw [h]
    have hg : D.gone = false := by
      cases hq : D.gone
      · rfl
      · unfold readyE at h; rw [hq] at h; split at h <;> simp at h
    unfold findR
    rw [if_pos rfl]
    cases hq : dget D.seen z.data.toList with
    | none => exact .inr (.inr (.inr rfl))
    | some f => exact .inl ⟨f, rfl, dget_lt hf.seen_lt hq, rfl, hg⟩
  · rw [h]; exact .inr (.inl rfl)
  · rw [h]; exact .inr (.inr (.inl rfl))
/-- The new row of one name. -/
theorem row1 (w : World) (z : ByteArray) (t : TypeId) : ∀ j (h : j < [z].length), (w.alloc (.cells #[.string z] t)).cell? ⟨w.heap.size, j, none⟩ = some (.string [z][j]) := by
  intro j h
  have : j = 0 := by simpa using h
  subst this
  rw [(Cells.new w t #[.string z]).cell]; rfl
theorem row2 (w : World) (x y : ByteArray) (t : TypeId) : ∀ j (h : j < [x, y].length), (w.alloc (.cells #[.string x, .string y] t)).cell? ⟨w.heap.size, j, none⟩ = some (.string [x, y][j]) := by
  intro j h
  have : j = 0 ∨ j = 1 := by simp at h; omega
  rcases this with rfl | rfl
  · rw [(Cells.new w t #[.string x, .string y]).cell]; rfl
  · rw [(Cells.new w t #[.string x, .string y]).cell]; rfl

def syncD (D : ADisk) (z : ByteArray) : ADisk × Nat :=
  if (asked D z []).2 ≠ 0 then (D, (asked D z []).2) else if canDo D then ({ didD D ⟨4, z, ⟨#[]⟩, ⟨#[]⟩, 0⟩ with files := modF D.files (asked D z []).1 fun f => f.kept allU }, 0) else (downD D, 3)
set_option maxRecDepth 100000 in
set_option maxHeartbeats 2000000 in
theorem sync_any {w : World} {T : Nat → Nat} {p n : Nat} {D : ADisk} (hA : DiskAt w T p D) (hf : Fine n D) (hn : n ≤ 400000) (z : ByteArray) (hz : z.size ≤ 1000000) :
    Calls Try.prog 18 #[.pointer (some ⟨p, 0, none⟩), .string z] w fun e w' => e = .returned (errV (syncD D z).2) ∧ ∃ T', DiskAt w' T' p (syncD D z).1 ∧ Step w T w' T' := by
  obtain ⟨V, hV⟩ := hA
  have R := find_disk (n := n) hV z [] 1 ((Below.refl _ w).alloc (Nat.le_refl _) (.cells #[.string z] 9)) (by simp) (row1 w z _) (by simpa using hz) (by simp)
  have e0 : findR (readyE D.gone [z]) (dget D.seen z.data.toList) = asked D z [] := rfl
  rw [e0] at R
  unfold syncD
  rcases asked_cases hf z [] with ⟨f, ha, hfl, _, _⟩ | ha
  · rw [ha] at R ⊢
    dsimp only at R ⊢
    cases hc : canDo D
    · have HG := Lib.hid (fun w1 (hb : Below w.heap.size w w1) => do_no (hV.below hb) hf (by omega) hc (kind := 4) (at_ := 0) (name := z) (other := ⟨#[]⟩) (bytes := ⟨#[]⟩))
      clear hc ha e0
      go_enter Try.func18, Try.ntmps18
      go_wp2_with fail
      refine R.mono ?_
      rintro e w1 ⟨rfl, hb⟩
      go_wp2_with fail
      refine (HG.out w1 hb).mono ?_
      rintro e w2 ⟨rfl, hd, hs⟩
      go_wp2
      go_ret
      exact ⟨rfl, T, ⟨V, hd⟩, (Step.below hb).trans hs⟩
    · have HG := Lib.hid (fun w1 (hb : Below w.heap.size w w1) => do_yes (hV.below hb) hf (by omega) hc (kind := 4) (at_ := 0) (name := z) (other := ⟨#[]⟩) (bytes := ⟨#[]⟩))
      have HF := Lib.hid (did_fine hf hc ⟨4, z, ⟨#[]⟩, ⟨#[]⟩, 0⟩)
      have hnf := hf.nfiles
      clear hc ha e0
      go_enter Try.func18, Try.ntmps18
      go_wp2_with fail
      refine R.mono ?_
      rintro e w1 ⟨rfl, hb⟩
      go_wp2_with fail
      refine (HG.out w1 hb).mono ?_
      rintro e w2 ⟨rfl, T2, v9', hd, hs⟩
      obtain ⟨g, cap, cur, e8, hc8, h1, h2, h3, h4, tg, hfa⟩ := hd.file (i := f) hfl
      have d8 : w2.cell? ⟨p, 8, none⟩ = some (.slice (some ⟨g, 0, none⟩) D.files.length cap) := by have := hd.cells.cell 8; rw [e8] at this; exact this
      have K := fkeep_disk hd HF.out (by omega) hfl e8 9223372036854775807 wf_allU
      have HD := Lib.hid hd
      have HS := Lib.hid ((Step.below hb).trans hs)
      clear hd hs h3 h4 hfa hc8 e8 R hb HG
      go_wp2_with fail
      refine K.mono ?_
      rintro e w3 ⟨rfl, T3, V3, hd3, hs3, _⟩
      have HD3 := Lib.hid (show DiskAt w3 T3 p { didD D ⟨4, z, ⟨#[]⟩, ⟨#[]⟩, 0⟩ with files := modF D.files f fun f => f.kept allU } from ⟨V3, by
        unfold modF; rw [dif_pos hfl]; exact hd3⟩)
      have HS3 := Lib.hid (HS.out.trans hs3)
      clear hd3 hs3 K HD HF
      go_wp2
      go_ret
      exact ⟨rfl, T3, HD3.out, HS3.out⟩
  · rcases ha with ha | ha | ha
    all_goals
      rw [ha] at R ⊢
      dsimp only at R ⊢
      clear ha e0
      go_enter Try.func18, Try.ntmps18
      go_wp2_with fail
      refine R.mono ?_
      rintro e w1 ⟨rfl, hb⟩
      go_wp2
      go_ret
      exact ⟨rfl, T, ⟨V, hV.below hb⟩, Step.below hb⟩
end Go.Proofs.Ytembondddgfpcaa

