/- Disks, plainly: what each call makes of one. -/
import Derived.Test.YtdfjkcdmbbmipaaVO
namespace Go.Proofs.Ytdfjkcdmbbmipaa

def stepF (s : List UInt8) (a : ActA) : List UInt8 := if a.kind = 3 then s.take a.at_ else s ++ a.bytes.data.toList
def seenL (l : List ActA) (s : List UInt8) : List UInt8 := l.foldl stepF s
def unitsL (l : List ActA) : Nat := (l.map fun a => if a.kind = 3 then 1 else a.bytes.size).sum
theorem afterF_all : ∀ (l : List ActA) (u : Int) (s : List UInt8), (unitsL l : Int) < u → afterF l u s = seenL l s
  | [], _, _, _ => rfl
  | a :: r, u, s, h => by
    have e : unitsL (a :: r) = (if a.kind = 3 then 1 else a.bytes.size) + unitsL r := rfl
    have hu : ¬ u ≤ 0 := by omega
    by_cases hk : a.kind = 3
    · rw [if_pos hk] at e
      rw [afterF_cut hu hk, afterF_all r _ _ (by omega)]
      show _ = seenL r (stepF s a)
      unfold stepF; rw [if_pos hk]
    · rw [if_neg hk] at e
      have hm : min u.toNat a.bytes.size = a.bytes.size := by omega
      rw [afterF_write hu hk, hm, afterF_all r _ _ (by omega)]
      show _ = seenL r (stepF s a)
      unfold stepF; rw [if_neg hk, List.take_of_length_le (by rw [← Lib.size_eq]; exact Nat.le_refl _)]
theorem seenL_snoc (l : List ActA) (a : ActA) (s : List UInt8) : seenL (l ++ [a]) s = stepF (seenL l s) a := by unfold seenL; simp
theorem lenW_snoc (l : List ActA) (a : ActA) : lenW (l ++ [a]) = lenW l + a.bytes.size := by unfold lenW; simp
theorem unitsL_snoc (l : List ActA) (a : ActA) : unitsL (l ++ [a]) = unitsL l + (if a.kind = 3 then 1 else a.bytes.size) := by unfold unitsL; simp
theorem fitsW_snoc (a : ActA) : ∀ (l : List ActA) (s : List UInt8), fitsW l s.length → (a.kind = 3 → a.at_ ≤ (seenL l s).length) → fitsW (l ++ [a]) s.length
  | [], s, _, h => by
    show fitsW [a] s.length
    unfold fitsW
    by_cases hk : a.kind = 3
    · rw [if_pos hk]; exact ⟨h hk, trivial⟩
    · rw [if_neg hk]; exact trivial
  | b :: r, s, hf, h => by
    show fitsW (b :: (r ++ [a])) s.length
    unfold fitsW at hf ⊢
    by_cases hk : b.kind = 3
    · rw [if_pos hk] at hf ⊢
      refine ⟨hf.1, ?_⟩
      have e : (s.take b.at_).length = b.at_ := by rw [List.length_take]; omega
      have := fitsW_snoc a r (s.take b.at_) (by rw [e]; exact hf.2) (fun hh => by have := h hh; unfold seenL at this ⊢; simpa [stepF, hk] using this)
      rwa [e] at this
    · rw [if_neg hk] at hf ⊢
      have e : (s ++ b.bytes.data.toList).length = s.length + b.bytes.size := by rw [List.length_append, ← Lib.size_eq]
      have := fitsW_snoc a r (s ++ b.bytes.data.toList) (by rw [e]; exact hf) (fun hh => by have := h hh; unfold seenL at this ⊢; simpa [stepF, hk] using this)
      rwa [e] at this
theorem seenL_length_le : ∀ (l : List ActA) (s : List UInt8), (seenL l s).length ≤ s.length + lenW l
  | [], s => Nat.le_refl _
  | a :: r, s => by
    have e : lenW (a :: r) = a.bytes.size + lenW r := rfl
    have := seenL_length_le r (stepF s a)
    have h2 : (stepF s a).length ≤ s.length + a.bytes.size := by
      unfold stepF; split
      · rw [List.length_take]; omega
      · rw [List.length_append, ← Lib.size_eq]; exact Nat.le_refl _
    show (seenL r (stepF s a)).length ≤ _
    omega
theorem afterF_length_le : ∀ (l : List ActA) (u : Int) (s : List UInt8), (afterF l u s).length ≤ s.length + lenW l
  | [], _, s => Nat.le_refl _
  | a :: r, u, s => by
    have e : lenW (a :: r) = a.bytes.size + lenW r := rfl
    by_cases hu : u ≤ 0
    · rw [afterF_stop hu]; omega
    · by_cases hk : a.kind = 3
      · rw [afterF_cut hu hk]
        have := afterF_length_le r (u - 1) (s.take a.at_)
        rw [List.length_take] at this; omega
      · rw [afterF_write hu hk]
        have := afterF_length_le r (u - (min u.toNat a.bytes.size : Nat)) (s ++ a.bytes.data.toList.take (min u.toNat a.bytes.size))
        rw [List.length_append, List.length_take, ← Lib.size_eq] at this; omega

/-- A file. -/
structure FileA where
  sure : ByteArray
  waits : List ActA
def FileA.seen (f : FileA) : List UInt8 := seenL f.waits f.sure.data.toList
def FileA.kept (f : FileA) (u : Int) : FileA := ⟨⟨(afterF f.waits u f.sure.data.toList).toArray⟩, []⟩
/-- A disk. -/
structure ADisk where
  units : Int
  armed : Bool
  left : Int
  gone : Bool
  room : Int
  sure : Dir
  waits : List ChangeA
  files : List FileA
  acts : List ActA
def ADisk.seen (D : ADisk) : Dir := dplay D.waits D.sure
def allU : Int := 9223372036854775807

/-- One file is within n. -/
structure FileOk (n : Nat) (f : FileA) : Prop where
  fits : fitsW f.waits f.sure.data.toList.length
  len : f.sure.size + lenW f.waits ≤ n
  units : unitsL f.waits ≤ n
  many : f.waits.length ≤ n
  kinds : ∀ a ∈ f.waits, a.kind ≤ 3
/-- A disk is within n. -/
structure Fine (n : Nat) (D : ADisk) : Prop where
  u0 : 0 ≤ D.units
  u1 : D.units ≤ n
  l0 : 0 ≤ D.left
  l1 : D.left ≤ 9223372036854775807
  r0 : 0 ≤ D.room
  r1 : D.room ≤ 9223372036854775807
  dirs : D.sure.length + D.waits.length ≤ n
  nfiles : D.files.length ≤ n
  nacts : D.acts.length ≤ n
  files : ∀ f ∈ D.files, FileOk n f
  changes : ∀ c ∈ D.waits, c.off.size ≤ 1000000 ∧ c.on.size ≤ 1000000 ∧ c.file < D.files.length
  names : ∀ x ∈ D.sure, x.2 < D.files.length
theorem FileOk.mono {n m : Nat} {f : FileA} (h : FileOk n f) (hm : n ≤ m) : FileOk m f := ⟨h.fits, by have := h.len; omega, by have := h.units; omega, by have := h.many; omega, h.kinds⟩
theorem Fine.mono {n m : Nat} {D : ADisk} (h : Fine n D) (hm : n ≤ m) : Fine m D :=
  ⟨h.u0, by have := h.u1; omega, h.l0, h.l1, h.r0, h.r1, by have := h.dirs; omega, by have := h.nfiles; omega, by have := h.nacts; omega, fun f hf => (h.files f hf).mono hm, h.changes, h.names⟩
theorem dins_mem {x y : List UInt8 × Nat} : ∀ {l : Dir}, y ∈ dins x l → y = x ∨ y ∈ l
  | [], h => by simp [dins] at h; exact .inl h
  | z :: r, h => by
    unfold dins at h
    split at h
    · simpa using h
    · rcases List.mem_cons.1 h with h | h
      · exact .inr (by rw [h]; simp)
      · rcases dins_mem h with h | h
        · exact .inl h
        · exact .inr (List.mem_cons_of_mem _ h)
theorem capply_mem {off on : List UInt8} {file : Nat} {l : Dir} {y : List UInt8 × Nat} (h : y ∈ capply off on file l) : y ∈ l ∨ y = (on, file) := by
  unfold capply at h
  split at h
  · exact .inl (List.mem_filter.1 h).1
  · unfold dput at h
    rcases dins_mem h with h | h
    · exact .inr h
    · exact .inl (List.mem_filter.1 (List.mem_filter.1 h).1).1
theorem capply_length (off on : List UInt8) (file : Nat) (l : Dir) : (capply off on file l).length ≤ l.length + 1 := by
  unfold capply
  split
  · have := ddel_length l off; omega
  · have h1 := dput_length (ddel l off) on file; have := ddel_length l off; omega
theorem dplay_mem : ∀ {cs : List ChangeA} {l : Dir} {y : List UInt8 × Nat}, y ∈ dplay cs l → y ∈ l ∨ ∃ c ∈ cs, y.2 = c.file
  | [], _, _, h => .inl h
  | c :: cs, l, y, h => by
    rcases dplay_mem (cs := cs) (l := capply c.off.data.toList c.on.data.toList c.file l) h with h | ⟨d, hd, e⟩
    · rcases capply_mem h with h | h
      · exact .inl h
      · exact .inr ⟨c, by simp, by rw [h]⟩
    · exact .inr ⟨d, by simp [hd], e⟩
theorem dplay_length : ∀ (cs : List ChangeA) (l : Dir), (dplay cs l).length ≤ l.length + cs.length
  | [], l => Nat.le_refl _
  | c :: cs, l => by
    have h1 := dplay_length cs (capply c.off.data.toList c.on.data.toList c.file l)
    have h2 := capply_length c.off.data.toList c.on.data.toList c.file l
    show (dplay cs (capply c.off.data.toList c.on.data.toList c.file l)).length ≤ _
    simp only [List.length_cons]; omega
theorem Fine.seen_lt {n : Nat} {D : ADisk} (h : Fine n D) : ∀ x ∈ D.seen, x.2 < D.files.length := by
  intro x hx
  rcases dplay_mem hx with hx | ⟨c, hc, e⟩
  · exact h.names x hx
  · rw [e]; exact (h.changes c hc).2.2
theorem dget_lt {l : Dir} {m : Nat} (h : ∀ x ∈ l, x.2 < m) {k : List UInt8} {f : Nat} (hf : dget l k = some f) : f < m := by
  unfold dget at hf
  cases hq : l.find? (fun p => p.1 == k) with
  | none => rw [hq] at hf; simp at hf
  | some p =>
    rw [hq] at hf; simp at hf
    have := h p (List.mem_of_find?_eq_some hq)
    omega
end Go.Proofs.Ytdfjkcdmbbmipaa
