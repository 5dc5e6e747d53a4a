/- Beginnings of heads: what the program tries, what the document counts. -/
import Derived.Test.YthblpjjocokphaaDoorDB
namespace Go.Proofs.YthblpjjocokphaaDoor.Fr
open Go.Lib

def zeros : List UInt8 := [48, 48, 48, 48, 48, 48, 48, 48]
def longest : List UInt8 := [37, 97, 109, 101, 110, 100, 32, 53, 48, 48, 48, 48, 32, 48, 48, 48, 48, 48, 48, 48, 48]
theorem zeros_fig : figB zeros := figB_iff.2 ⟨rfl, by decide⟩
theorem longest_eq : longest = headR 50000 zeros := by
  unfold headR
  rw [dec_more (by omega), dec_more (by omega), dec_more (by omega), dec_more (by omega), decDigits_one (by omega)]
  rfl
theorem dec10 : decDigits 10 = [49, 48] := by rw [dec_more (by omega), decDigits_one (by omega)]; rfl
theorem dec1 : decDigits 1 = [49] := by rw [decDigits_one (by omega)]; rfl
/-- Two texts that are one, parted at two places. -/
theorem two_ways {a b x y : List UInt8} (h : a ++ x = b ++ y) : (∃ q, b = a ++ q ∧ x = q ++ y) ∨ (∃ c q, a = b ++ c :: q ∧ y = c :: q ++ x) := by
  rcases List.append_eq_append_iff.1 h with ⟨q, h1, h2⟩ | ⟨q, h1, h2⟩
  · exact .inl ⟨q, h1, h2⟩
  · cases q with
    | nil => exact .inl ⟨[], by simpa using h1.symm, by simpa using h2.symm⟩
    | cons c q => exact .inr ⟨c, q, h1, h2⟩
theorem fig_fill {r z f : List UInt8} (hf : figB f) (h : r ++ z = f) : figB (r ++ zeros.drop r.length) := by
  obtain ⟨h8, hx⟩ := figB_iff.1 hf
  have hl : r.length ≤ 8 := by have := congrArg List.length h; simp at this; omega
  refine figB_iff.2 ⟨by simp [zeros]; omega, ?_⟩
  rw [List.all_append, Bool.and_eq_true]
  rw [← h, List.all_append, Bool.and_eq_true] at hx
  exact ⟨hx.1, List.all_eq_true.2 fun c hc => by have := List.mem_of_mem_drop hc; simp [zeros] at this; subst this; decide⟩
theorem fig_fill2 {r : List UInt8} (hl : r.length ≤ 8) (hx : r.all hexB = true) : figB (r ++ zeros.drop r.length) := by
  refine figB_iff.2 ⟨by simp [zeros]; omega, ?_⟩
  rw [List.all_append, Bool.and_eq_true]
  exact ⟨hx, List.all_eq_true.2 fun c hc => by have := List.mem_of_mem_drop hc; simp [zeros] at this; subst this; decide⟩
theorem head_parts {l : List UInt8} : HeadPart l ↔ ∃ at_, at_ ≤ 21 ∧ ∃ n f, IsHead (l ++ longest.drop at_) n f := by
  constructor
  · rintro ⟨n, f, z, h2, h5, hf, he⟩
    unfold headR at he
    rcases two_ways he with ⟨q, e1, e2⟩ | ⟨c, q, e1, e2⟩
    · have hq : q = AMD.drop l.length := by rw [e1]; simp
      have hl : l.length ≤ 7 := by have := congrArg List.length e1; simp [AMD] at this; omega
      refine ⟨l.length, by omega, 50000, zeros, by omega, by omega, zeros_fig, ?_⟩
      rw [← longest_eq]
      have e3 : longest = l ++ (q ++ longest.drop 7) := by rw [← List.append_assoc, ← e1]; rfl
      have e4 : longest.drop l.length = q ++ longest.drop 7 := by rw [e3, List.drop_left, ← e3]
      rw [e4]; exact e3.symm
    · rcases two_ways e2 with ⟨q2, e3, e4⟩ | ⟨d, q2, e3, e4⟩
      · -- behind the number
        cases q2 with
        | nil =>
          rw [List.append_nil] at e3
          refine ⟨12, by omega, n, zeros, h2, h5, zeros_fig, ?_⟩
          rw [e1, e3]; unfold headR; rw [List.append_assoc]; rfl
        | cons d q2 =>
          rw [List.cons_append] at e4
          injection e4 with e5 e6
          subst e5
          have hl : q2.length ≤ 8 := by have := congrArg List.length e6; have := fig_len hf; simp at *; omega
          refine ⟨13 + q2.length, by omega, n, q2 ++ zeros.drop q2.length, h2, h5, fig_fill hf e6.symm, ?_⟩
          rw [e1, e3]; unfold headR
          have : longest.drop (13 + q2.length) = zeros.drop q2.length := by rw [← List.drop_drop]; rfl
          rw [this]; simp
      · -- within the number
        obtain ⟨v, e5, hv, h1v⟩ := dec_prefix n (c :: q) (d :: q2) (by simp) e3.symm
        have h1 := h1v (by omega)
        by_cases hv1 : v = 1
        · subst hv1
          refine ⟨11, by omega, 10, zeros, by omega, by omega, zeros_fig, ?_⟩
          rw [e1, e5]; unfold headR; rw [dec10, dec1]; rfl
        · refine ⟨12, by omega, v, zeros, by omega, by omega, zeros_fig, ?_⟩
          rw [e1, e5]; unfold headR; rw [List.append_assoc]; rfl
  · rintro ⟨at_, _, n, f, h⟩
    exact ⟨n, f, _, h.lo, h.hi, h.fig, h.eq⟩
theorem part_len {l : List UInt8} (h : HeadPart l) : l.length ≤ 21 := by
  obtain ⟨n, f, z, h2, h5, hf, he⟩ := h
  have := congrArg List.length he
  have := dec_len5 (show n ≤ 99999 by omega)
  have := fig_len hf
  unfold headR AMD at *
  simp at *
  omega
-- the document's counting
/-- A text and a line that begins records, one of which begins with the other. -/
def Compat (t : List UInt8) : Prop := ∃ n f z y, 2 ≤ n ∧ n ≤ 50000 ∧ figB f ∧ t ++ z = headR n f ++ 10 :: y
theorem odd_of {t : List UInt8} (h : ¬ Compat t) : ReadIs t 3 [] 0 := by
  refine .inr (.inr ⟨?_, ?_, rfl, rfl, rfl⟩)
  · rintro ⟨n, f, b, z, hg, hn, hf, he, hz⟩
    obtain ⟨h2, h5, _, _⟩ := good_iff.1 hg
    exact h ⟨n, f, z, _, by omega, by omega, hf, he⟩
  · rintro ⟨b, hg, more, rfl⟩
    obtain ⟨h2, h5, _, _⟩ := good_iff.1 hg
    exact h ⟨_, _, [], b ++ footR b.length ++ more, h2, h5, figsB_ok b, by unfold fullR; rw [rec_def]; simp⟩
theorem part_of {t : List UInt8} (h : HeadPart t) : ReadIs t 2 [] 0 := by
  have h10 : (10 : UInt8) ∉ t := by
    obtain ⟨n, f, z, h2, h5, hf, he⟩ := h
    intro hm
    exact head_no10 (n := n) hf (by rw [← he]; simp [hm])
  exact .inr (.inl ⟨(part_line h10).2 h, rfl, rfl, rfl⟩)
theorem at7_yes {t q : List UInt8} (h : AMD = t ++ q) : ReadIs t 2 [] 0 :=
  part_of ⟨50000, zeros, q ++ (decDigits 50000 ++ 32 :: zeros), by omega, by omega, zeros_fig, by unfold headR; rw [← List.append_assoc, ← h]⟩
theorem at7_no {t : List UInt8} (hl : t.length ≤ 7) (h : ¬ ∃ q, AMD = t ++ q) : ReadIs t 3 [] 0 := odd_of (by
  rintro ⟨n, f, z, y, h2, h5, hf, he⟩
  unfold headR at he
  rw [List.append_assoc] at he
  rcases two_ways he with ⟨q, e1, _⟩ | ⟨c, q, e1, _⟩
  · exact h ⟨q, e1⟩
  · have := congrArg List.length e1
    simp [AMD] at this; omega)
theorem more7_no {t : List UInt8} (hl : 7 ≤ t.length) (h : ¬ ∃ q, t = AMD ++ q) : ReadIs t 3 [] 0 := odd_of (by
  rintro ⟨n, f, z, y, h2, h5, hf, he⟩
  unfold headR at he
  rw [List.append_assoc] at he
  rcases two_ways he with ⟨q, e1, _⟩ | ⟨c, q, e1, _⟩
  · have := congrArg List.length e1
    simp [AMD] at this
    obtain rfl : q = [] := List.eq_nil_of_length_eq_zero (by omega)
    exact h ⟨[], by rw [e1]; simp⟩
  · exact h ⟨_, e1⟩)
def dgB (c : UInt8) : Bool := decide (48 ≤ c.toNat) && decide (c.toNat ≤ 57)
theorem compat_s {s : List UInt8} (h : Compat (AMD ++ s)) : ∃ n f z y, 2 ≤ n ∧ n ≤ 50000 ∧ figB f ∧ s ++ z = decDigits n ++ 32 :: (f ++ 10 :: y) := by
  obtain ⟨n, f, z, y, h2, h5, hf, he⟩ := h
  unfold headR at he
  rw [List.append_assoc, List.append_assoc] at he
  exact ⟨n, f, z, y, h2, h5, hf, by rw [List.append_cancel_left he]; simp⟩
/-- Figures, then what is none. -/
theorem compat_d {ds r : List UInt8} (hd : ∀ c ∈ ds, dgB c = true) (hr : ∀ c r', r = c :: r' → dgB c = false) (h : Compat (AMD ++ (ds ++ r))) :
    ∃ n, 2 ≤ n ∧ n ≤ 50000 ∧ ((r = [] ∧ ∃ q, ds ++ q = decDigits n) ∨ (ds = decDigits n ∧ ∃ f z y r', figB f ∧ r = 32 :: r' ∧ r' ++ z = f ++ 10 :: y)) := by
  obtain ⟨n, f, z, y, h2, h5, hf, he⟩ := compat_s h
  refine ⟨n, h2, h5, ?_⟩
  rw [List.append_assoc] at he
  rcases two_ways he with ⟨q, e1, e2⟩ | ⟨c, q, e1, e2⟩
  · cases r with
    | nil => exact .inl ⟨rfl, q, e1.symm⟩
    | cons c r' =>
      cases q with
      | nil =>
        rw [List.cons_append, List.nil_append] at e2
        injection e2 with e3 e4
        subst e3
        exact .inr ⟨by rw [e1]; simp, f, z, y, r', hf, rfl, e4⟩
      | cons d q =>
        rw [List.cons_append] at e2
        injection e2 with e3 e4
        subst e3
        have := dec_digits n c (by rw [e1]; simp)
        have h0 := hr c r' rfl
        unfold dgB at h0
        simp [this.1, this.2] at h0
  · rw [List.cons_append] at e2
    injection e2 with e3 e4
    subst e3
    have := hd 32 (by rw [e1]; simp)
    exact absurd this (by decide)
theorem d_long {ds r : List UInt8} (hd : ∀ c ∈ ds, dgB c = true) (hr : ∀ c r', r = c :: r' → dgB c = false) (h : 5 < ds.length) : ReadIs (AMD ++ (ds ++ r)) 3 [] 0 := odd_of (by
  intro hc
  obtain ⟨n, h2, h5, hh⟩ := compat_d hd hr hc
  have := dec_len5 (show n ≤ 99999 by omega)
  rcases hh with ⟨_, q, e⟩ | ⟨e, _⟩
  · have := congrArg List.length e
    simp at this; omega
  · rw [← e] at this; omega)
theorem d_none {ds r : List UInt8} (hd : ∀ c ∈ ds, dgB c = true) (hr : ∀ c r', r = c :: r' → dgB c = false) (hs : ds ++ r ≠ []) (h : ∀ v, 1 ≤ v → v ≤ 50000 → ds ≠ decDigits v) : ReadIs (AMD ++ (ds ++ r)) 3 [] 0 := odd_of (by
  intro hc
  obtain ⟨n, h2, h5, hh⟩ := compat_d hd hr hc
  rcases hh with ⟨rfl, q, e⟩ | ⟨e, _⟩
  · have hne : ds ≠ [] := by simpa using hs
    obtain ⟨v, e1, hv, h1⟩ := dec_prefix n ds q hne e
    exact h v (h1 (by omega)) (by omega) e1
  · exact h n (by omega) h5 e)
theorem d_part {v : Nat} (h1 : 1 ≤ v) (h5 : v ≤ 50000) : ReadIs (AMD ++ decDigits v) 2 [] 0 := part_of (by
  by_cases hv : v = 1
  · subst hv
    exact ⟨10, zeros, 48 :: 32 :: zeros, by omega, by omega, zeros_fig, by unfold headR; rw [dec10, dec1]; rfl⟩
  · exact ⟨v, zeros, 32 :: zeros, by omega, h5, zeros_fig, by unfold headR; rw [List.append_assoc]⟩)
theorem dec_dg (v : Nat) : ∀ c ∈ decDigits v, dgB c = true := fun c hc => by have := dec_digits v c hc; simp [dgB, this.1, this.2]
theorem d_other {v : Nat} {c : UInt8} {r : List UInt8} (hv : v ≤ 50000) (hc : dgB c = false) (h : c ≠ 32 ∨ v < 2) : ReadIs (AMD ++ (decDigits v ++ c :: r)) 3 [] 0 := odd_of (by
  intro hq
  obtain ⟨n, h2, h5, hh⟩ := compat_d (dec_dg v) (fun c' r' e => by injection e with e _; rw [← e]; exact hc) hq
  rcases hh with ⟨e, _⟩ | ⟨e, f, z, y, r', hf, e2, _⟩
  · cases e
  · injection e2 with e3 _
    have := dec_inj (by omega) (by omega) e
    rcases h with h | h
    · exact h e3
    · omega)
/-- How many figures of a sum a text begins with, at most eight. -/
def hx (l : List UInt8) : Nat := ((l.take 8).takeWhile hexB).length
theorem h_part {n : Nat} {r : List UInt8} (h2 : 2 ≤ n) (h5 : n ≤ 50000) (h : hx r = r.length) : ReadIs (AMD ++ (decDigits n ++ 32 :: r)) 2 [] 0 := part_of (by
  have h8 : r.length ≤ 8 := by
    rw [← h]; unfold hx
    exact Nat.le_trans (List.takeWhile_sublist _).length_le (by simp; omega)
  have ha : r.all hexB = true := by
    unfold hx at h
    rw [List.take_of_length_le h8] at h
    have e : r.takeWhile hexB = r := (List.takeWhile_sublist _).eq_of_length h
    rw [← e]
    exact List.all_takeWhile
  exact ⟨n, r ++ zeros.drop r.length, zeros.drop r.length, h2, h5, fig_fill2 h8 ha, by unfold headR; simp⟩)
theorem hx_all {f y : List UInt8} (hf : figB f) : hx (f ++ y) = 8 := by
  obtain ⟨h8, ha⟩ := figB_iff.1 hf
  unfold hx
  rw [List.take_append_of_le_length (by omega), List.take_of_length_le (by omega)]
  have : f.takeWhile hexB = f := by
    have : ∀ l : List UInt8, l.all hexB = true → l.takeWhile hexB = l := by
      intro l
      induction l with
      | nil => intro _; rfl
      | cons c l ih => intro h; simp only [List.all_cons, Bool.and_eq_true] at h; rw [List.takeWhile_cons, if_pos h.1, ih h.2]
    exact this f ha
  rw [this, h8]
theorem hx_pre {r z f : List UInt8} (hf : figB f) (h : r ++ z = f) : hx r = r.length := by
  obtain ⟨h8, ha⟩ := figB_iff.1 hf
  have hl : r.length ≤ 8 := by have := congrArg List.length h; simp at this; omega
  unfold hx
  rw [List.take_of_length_le hl]
  rw [← h, List.all_append, Bool.and_eq_true] at ha
  have : ∀ l : List UInt8, l.all hexB = true → l.takeWhile hexB = l := by
    intro l
    induction l with
    | nil => intro _; rfl
    | cons c l ih => intro h; simp only [List.all_cons, Bool.and_eq_true] at h; rw [List.takeWhile_cons, if_pos h.1, ih h.2]
  rw [this r ha.1]
theorem h_odd {n : Nat} {r : List UInt8} (h5 : n ≤ 50000) (h : hx r ≠ r.length) (h8 : hx r < 8 ∨ r[8]? ≠ some 10) : ReadIs (AMD ++ (decDigits n ++ 32 :: r)) 3 [] 0 := odd_of (by
  intro hq
  obtain ⟨n', h2', h5', hh⟩ := compat_d (dec_dg n) (fun c' r' e => by injection e with e _; rw [← e]; decide) hq
  rcases hh with ⟨e, _⟩ | ⟨e, f, z, y, r', hf, e2, e3⟩
  · cases e
  · injection e2 with _ e4
    subst e4
    rcases two_ways e3 with ⟨q, e5, _⟩ | ⟨c, q, e5, e6⟩
    · exact h (hx_pre hf e5.symm)
    · rw [List.cons_append] at e6
      injection e6 with e7 _
      subst e7
      rw [e5, hx_all hf] at h8
      rcases h8 with h8 | h8
      · omega
      · apply h8
        rw [List.getElem?_append_right (by rw [fig_len hf]; omega), fig_len hf]; rfl)
theorem h_head {r : List UInt8} (h8 : hx r = 8) (h10 : r[8]? = some 10) : ∃ f q, figB f ∧ r = f ++ 10 :: q ∧ f = r.take 8 ∧ q = r.drop 9 := by
  have hl : 8 < r.length := by
    rcases Nat.lt_or_ge 8 r.length with h | h
    · exact h
    · rw [List.getElem?_eq_none h] at h10; cases h10
  refine ⟨r.take 8, r.drop 9, figB_iff.2 ⟨by simp; omega, ?_⟩, ?_, rfl, rfl⟩
  · unfold hx at h8
    have e : (r.take 8).takeWhile hexB = r.take 8 := (List.takeWhile_sublist _).eq_of_length (by rw [h8]; simp; omega)
    rw [← e]
    exact List.all_takeWhile
  · have e := List.getElem?_eq_some_iff.1 h10
    obtain ⟨hk, e⟩ := e
    have := List.drop_eq_getElem_cons hk
    rw [e] at this
    rw [← this, List.take_append_drop]
end Go.Proofs.YthblpjjocokphaaDoor.Fr
