/- What a text begins with, line by line. -/
import Derived.Test.YthblpjjocokphaaDoorDA
namespace Go.Proofs.YthblpjjocokphaaDoor.Fr
open Go.Lib

theorem sp_append : ∀ (a b : List UInt8) (s : Bool), sp s (a ++ b) = (sp s a && sp (fresh s a) b)
  | [], b, s => by simp [sp, fresh]
  | c :: a, b, s => by
    have e : fresh s (c :: a) = fresh (c == 10) a := by
      unfold fresh
      rw [List.getLast?_cons]
      cases a.getLast? <;> simp
    simp only [List.cons_append, sp, sp_append a b (c == 10), e, Bool.and_assoc]
theorem fresh_append (a b : List UInt8) (s : Bool) (h : b ≠ []) : fresh s (a ++ b) = fresh true b := by
  unfold fresh
  rw [List.getLast?_append]
  cases hb : b.getLast? with
  | none => exact absurd (List.getLast?_eq_none_iff.1 hb) h
  | some c => simp
theorem sp_spaces : ∀ (k : Nat) (s : Bool), sp s (List.replicate k 32) = true
  | 0, s => by cases s <;> rfl
  | k + 1, s => by rw [List.replicate_succ]; unfold sp; rw [sp_spaces k]; simp
theorem fresh_spaces (k : Nat) (s : Bool) : fresh s (List.replicate k 32) = (s && decide (k = 0)) := by
  cases k with
  | zero => simp [fresh]
  | succ k => unfold fresh; rw [List.getLast?_replicate]; simp
theorem good_iff {l : List UInt8} : goodR l = true ↔ 2 ≤ l.length ∧ l.length ≤ 50000 ∧ lastNl l = true ∧ sp true l = true := by unfold goodR; simp [and_assoc]
theorem good_spaces {n : Nat} (h2 : 2 ≤ n) (h5 : n ≤ 50000) : goodR (List.replicate (n - 1) 32 ++ [10]) = true := by
  rw [good_iff, sp_append, sp_spaces, fresh_spaces]
  have : ¬ n - 1 = 0 := by omega
  refine ⟨by simp; omega, by simp; omega, by simp [lastNl], ?_⟩
  simp [sp, this]
/-- What may be a body's beginning. -/
def bodyPart (t : List UInt8) (n : Nat) : Bool := sp true t && !(fresh true t && decide (n - t.length < 2))
theorem body_part {t : List UInt8} {n : Nat} (h2 : 2 ≤ n) (h5 : n ≤ 50000) (hl : t.length < n) : (∃ z, goodR (t ++ z) = true ∧ (t ++ z).length = n) ↔ bodyPart t n = true := by
  unfold bodyPart
  constructor
  · rintro ⟨z, hg, hz⟩
    obtain ⟨_, _, h3, h4⟩ := good_iff.1 hg
    rw [sp_append] at h4
    simp only [Bool.and_eq_true] at h4 ⊢
    refine ⟨h4.1, ?_⟩
    cases hf : fresh true t with
    | false => rfl
    | true =>
      rw [hf] at h4
      rw [List.length_append] at hz
      by_cases hk : n - t.length < 2
      · exfalso
        obtain ⟨c, rfl⟩ : ∃ c, z = [c] := by
          match z, hz with
          | [], hz => simp at hz; omega
          | [c], _ => exact ⟨c, rfl⟩
          | a :: b :: z, hz => simp at hz; omega
        have h5 := h4.2
        unfold lastNl at h3
        simp [sp] at h3 h5
        subst h3
        cases h5
      · simp [hk]
  · intro h
    simp only [Bool.and_eq_true] at h
    refine ⟨List.replicate (n - t.length - 1) 32 ++ [10], ?_, by simp; omega⟩
    rw [good_iff]
    refine ⟨by simp; omega, by simp; omega, by simp [lastNl], ?_⟩
    rw [sp_append, h.1, Bool.true_and, sp_append, sp_spaces, fresh_spaces]
    cases hf : fresh true t with
    | false => simp [sp]
    | true =>
      have h2 := h.2
      rw [hf] at h2
      have : ¬ n - t.length - 1 = 0 := by simp at h2; omega
      simp [sp, this]
theorem body_tail {t : List UInt8} {n : Nat} (h2 : 2 ≤ n) (h5 : n ≤ 50000) (hl : t.length < n) : goodR (t ++ (List.replicate (n - t.length - 1) 32 ++ [10])) = bodyPart t n := by
  rw [Bool.eq_iff_iff]
  constructor
  · intro h
    exact (body_part h2 h5 hl).1 ⟨_, h, by simp; omega⟩
  · intro h
    unfold bodyPart at h
    simp only [Bool.and_eq_true] at h
    rw [good_iff]
    refine ⟨by simp; omega, by simp; omega, by simp [lastNl], ?_⟩
    rw [sp_append, h.1, Bool.true_and, sp_append, sp_spaces, fresh_spaces]
    cases hf : fresh true t with
    | false => simp [sp]
    | true =>
      have h2 := h.2
      rw [hf] at h2
      have : ¬ n - t.length - 1 = 0 := by simp at h2; omega
      simp [sp, this]
/-- A beginning of a head. -/
def HeadPart (l : List UInt8) : Prop := ∃ n f z, 2 ≤ n ∧ n ≤ 50000 ∧ figB f ∧ l ++ z = headR n f
theorem take_of {a b z : List UInt8} (h : a ++ z = b) (k : Nat) (hk : a.length ≤ k) : ∃ y, a ++ y = b.take k := ⟨z.take (k - a.length), by rw [← h, List.take_append, List.take_of_length_le hk]⟩
theorem rec_def (n : Nat) (f b : List UInt8) : recR n f b = headR n f ++ 10 :: (b ++ footR n) := rfl
theorem part_line {t : List UInt8} (h : (10 : UInt8) ∉ t) : PartT t ↔ HeadPart t := by
  constructor
  · rintro ⟨n, f, b, z, hg, hn, hf, he, hz⟩
    obtain ⟨h2, h5, _, _⟩ := good_iff.1 hg
    refine ⟨n, f, ?_⟩
    by_cases hl : t.length ≤ (headR n f).length
    · obtain ⟨y, hy⟩ := take_of he (headR n f).length hl
      rw [rec_def, List.take_left] at hy
      exact ⟨y, by omega, by omega, hf, hy⟩
    · exfalso
      have h1 : (headR n f ++ [10]).length ≤ t.length := by simp; omega
      have e : headR n f ++ [10] ++ (b ++ footR n) = t ++ z := by rw [he, rec_def]; simp
      obtain ⟨y, hy⟩ := take_of e t.length h1
      rw [List.take_left] at hy
      exact h (by rw [← hy]; simp)
  · rintro ⟨n, f, z, h2, h5, hf, he⟩
    refine ⟨n, f, List.replicate (n - 1) 32 ++ [10], z ++ 10 :: ((List.replicate (n - 1) 32 ++ [10]) ++ footR n), good_spaces h2 h5, by simp; omega, hf, ?_, by simp⟩
    rw [rec_def, ← he]; simp
theorem no_whole_line {t b : List UInt8} (h : (10 : UInt8) ∉ t) : ¬ WholeT t b := by
  rintro ⟨_, more, rfl⟩
  exact h (by unfold fullR; rw [rec_def]; simp)
/-- A text with a line end whose first line is no head. -/
theorem odd_line {l r : List UInt8} (hl : (10 : UInt8) ∉ l) (h : ¬ ∃ n f, IsHead l n f) : ¬ PartT (l ++ 10 :: r) ∧ ¬ ∃ b, WholeT (l ++ 10 :: r) b := by
  constructor
  · rintro ⟨n, f, b, z, hg, hn, hf, he, hz⟩
    obtain ⟨h2, h5, _, _⟩ := good_iff.1 hg
    rw [rec_def, List.append_assoc, List.cons_append] at he
    exact h ⟨n, f, by omega, by omega, hf, (split_at hl (head_no10 hf) he).1⟩
  · rintro ⟨b, hg, more, he⟩
    obtain ⟨h2, h5, _, _⟩ := good_iff.1 hg
    unfold fullR at he
    rw [rec_def, List.append_assoc, List.cons_append] at he
    exact h ⟨b.length, figsB b, h2, h5, figsB_ok b, (split_at hl (head_no10 (figsB_ok b)) he).1⟩
theorem foot_len {n m : Nat} (h : n = m) : (footR n).length = (footR m).length := by rw [h]
theorem part_behind {n : Nat} {f r : List UInt8} (h2 : 2 ≤ n) (h5 : n ≤ 50000) (hf : figB f) : PartT (headR n f ++ 10 :: r) ↔ ∃ b z, goodR b = true ∧ b.length = n ∧ r ++ z = b ++ footR n ∧ z ≠ [] := by
  constructor
  · rintro ⟨n', f', b, z, hg, hn, hf', he, hz⟩
    obtain ⟨h2', h5', _, _⟩ := good_iff.1 hg
    rw [rec_def, List.append_assoc, List.cons_append] at he
    obtain ⟨e1, e2⟩ := split_at (head_no10 hf) (head_no10 hf') he
    obtain ⟨rfl, rfl⟩ := head_inj h5 (by omega) e1
    exact ⟨b, z, hg, hn, e2, hz⟩
  · rintro ⟨b, z, hg, hn, he, hz⟩
    exact ⟨n, f, b, z, hg, hn, hf, by rw [rec_def, ← he]; simp, hz⟩
theorem whole_behind {n : Nat} {f r b : List UInt8} (h2 : 2 ≤ n) (h5 : n ≤ 50000) (hf : figB f) : WholeT (headR n f ++ 10 :: r) b ↔ goodR b = true ∧ b.length = n ∧ figsB b = f ∧ ∃ more, r = b ++ (footR n ++ more) := by
  constructor
  · rintro ⟨hg, more, he⟩
    obtain ⟨h2', h5', _, _⟩ := good_iff.1 hg
    unfold fullR at he
    rw [rec_def, List.append_assoc, List.cons_append] at he
    obtain ⟨e1, e2⟩ := split_at (head_no10 hf) (head_no10 (figsB_ok b)) he
    obtain ⟨rfl, rfl⟩ := head_inj h5 (by omega) e1
    exact ⟨hg, rfl, rfl, more, by rw [e2]; simp⟩
  · rintro ⟨hg, rfl, rfl, more, rfl⟩
    exact ⟨hg, more, by unfold fullR; rw [rec_def]; simp⟩
/-- The body isn't all there. -/
theorem short_body {n : Nat} {f r : List UInt8} (h2 : 2 ≤ n) (h5 : n ≤ 50000) (hf : figB f) (hl : r.length < n) : (PartT (headR n f ++ 10 :: r) ↔ bodyPart r n = true) ∧ ¬ ∃ b, WholeT (headR n f ++ 10 :: r) b := by
  constructor
  · rw [part_behind h2 h5 hf, ← body_part h2 h5 hl]
    constructor
    · rintro ⟨b, z, hg, hn, he, hz⟩
      obtain ⟨y, hy⟩ := take_of he b.length (by omega)
      rw [List.take_left] at hy
      exact ⟨y, by rw [hy]; exact hg, by rw [hy]; exact hn⟩
    · rintro ⟨z, hg, hz⟩
      exact ⟨r ++ z, z ++ footR n, hg, hz, by simp, by intro q; have := (List.append_eq_nil_iff.1 q).2; simp [footR, END] at this⟩
  · rintro ⟨b, h⟩
    obtain ⟨_, hn, _, more, rfl⟩ := (whole_behind h2 h5 hf).1 h
    simp at hl; omega
/-- The body is there. -/
theorem long_body {n : Nat} {f b r : List UInt8} (h2 : 2 ≤ n) (h5 : n ≤ 50000) (hf : figB f) (hl : b.length = n) :
    (PartT (headR n f ++ 10 :: (b ++ r)) ↔ goodR b = true ∧ ∃ z, r ++ z = footR n ∧ z ≠ []) ∧ (∀ b', WholeT (headR n f ++ 10 :: (b ++ r)) b' ↔ b' = b ∧ goodR b = true ∧ figsB b = f ∧ ∃ more, r = footR n ++ more) := by
  constructor
  · rw [part_behind h2 h5 hf]
    constructor
    · rintro ⟨b', z, hg, hn, he, hz⟩
      rw [List.append_assoc] at he
      obtain ⟨rfl, e2⟩ := List.append_inj he (by omega)
      exact ⟨hg, z, e2, hz⟩
    · rintro ⟨hg, z, he, hz⟩
      exact ⟨b, z, hg, hl, by rw [List.append_assoc, he], hz⟩
  · intro b'
    rw [whole_behind h2 h5 hf]
    constructor
    · rintro ⟨hg, hn, hfg, more, he⟩
      obtain ⟨rfl, e2⟩ := List.append_inj he (by omega)
      exact ⟨rfl, hg, hfg, more, e2⟩
    · rintro ⟨rfl, hg, hfg, more, rfl⟩
      exact ⟨hg, hl, hfg, more, rfl⟩
/-- What a text begins with is one thing. -/
theorem whole_not_part {t b : List UInt8} (h : WholeT t b) : ¬ PartT t := by
  obtain ⟨hg, more, rfl⟩ := h
  obtain ⟨h2, h5, _, _⟩ := good_iff.1 hg
  intro hp
  have e : fullR b ++ more = headR b.length (figsB b) ++ 10 :: (b ++ (footR b.length ++ more)) := by unfold fullR; rw [rec_def]; simp
  rw [e] at hp
  obtain ⟨_, z, hz, h0⟩ := (long_body h2 h5 (figsB_ok b) rfl).1.1 hp
  have := congrArg List.length hz
  simp only [List.length_append] at this
  exact h0 (List.eq_nil_of_length_eq_zero (by omega))
theorem whole_one {t b b' : List UInt8} (h : WholeT t b) (h' : WholeT t b') : b = b' := by
  obtain ⟨hg, more, rfl⟩ := h
  obtain ⟨h2, h5, _, _⟩ := good_iff.1 hg
  have e : fullR b ++ more = headR b.length (figsB b) ++ 10 :: (b ++ (footR b.length ++ more)) := by unfold fullR; rw [rec_def]; simp
  rw [e] at h'
  exact (((long_body h2 h5 (figsB_ok b) rfl).2 b').1 h').1.symm
theorem read_one {t : List UInt8} {k k' n n' : Nat} {b b' : List UInt8} (h : ReadIs t k b n) (h' : ReadIs t k' b' n') : k = k' ∧ b = b' ∧ n = n' := by
  rcases h with ⟨a, rfl, rfl⟩ | ⟨a, rfl, rfl, rfl⟩ | ⟨a, a2, rfl, rfl, rfl⟩ <;> rcases h' with ⟨c, rfl, rfl⟩ | ⟨c, rfl, rfl, rfl⟩ | ⟨c, c2, rfl, rfl, rfl⟩
  · obtain rfl := whole_one a c; exact ⟨rfl, rfl, rfl⟩
  · exact absurd c (whole_not_part a)
  · exact absurd ⟨_, a⟩ c2
  · exact absurd a (whole_not_part c)
  · exact ⟨rfl, rfl, rfl⟩
  · exact absurd a c
  · exact absurd ⟨_, c⟩ a2
  · exact absurd c a
  · exact ⟨rfl, rfl, rfl⟩
theorem part_begins {t : List UInt8} (h : PartT t) (k : Nat) : PartT (t.take k) := by
  obtain ⟨n, f, b, z, hg, hn, hf, he, hz⟩ := h
  exact ⟨n, f, b, t.drop k ++ z, hg, hn, hf, by rw [← List.append_assoc, List.take_append_drop, he], fun q => hz (List.append_eq_nil_iff.1 q).2⟩
theorem full_begins {b : List UInt8} (hg : goodR b = true) {k : Nat} (hk : k < (fullR b).length) : PartT ((fullR b).take k) :=
  ⟨b.length, figsB b, b, (fullR b).drop k, hg, rfl, figsB_ok b, List.take_append_drop _ _, fun q => by have := congrArg List.length q; simp at this; omega⟩
/-- One byte of the body changed. -/
theorem crc_one {p q : List UInt8} {c d : UInt8} (h : c ≠ d) : Sm.M.crc (p ++ c :: q) ≠ Sm.M.crc (p ++ d :: q) := by
  intro e
  have h1 := Sm.M.feed_lt (p ++ c :: q) 4294967295 (by decide)
  have h2 := Sm.M.feed_lt (p ++ d :: q) 4294967295 (by decide)
  unfold Sm.M.crc at e
  have e2 : Sm.M.feed 4294967295 (p ++ c :: q) = Sm.M.feed 4294967295 (p ++ d :: q) := by omega
  rw [Sm.M.feed_append, Sm.M.feed_append] at e2
  have h3 := Sm.M.feed_lt p 4294967295 (by decide)
  generalize Sm.M.feed 4294967295 p = x at *
  have e3 : Sm.M.feed (Sm.M.feed1 x c.toNat) q = Sm.M.feed (Sm.M.feed1 x d.toNat) q := e2
  have e4 := Sm.M.feed_inj q _ _ (Sm.M.feed1_lt x _ h3 c.toNat_lt) (Sm.M.feed1_lt x _ h3 d.toNat_lt) e3
  unfold Sm.M.feed1 at e4
  have hc := Sm.M.m24 _ c.toNat_lt
  have hd := Sm.M.m24 _ d.toNat_lt
  have e5 := Sm.M.stn_inj 8 _ _ (Nat.xor_lt_two_pow (n := 32) h3 hc) (Nat.xor_lt_two_pow (n := 32) h3 hd) e4
  rw [Nat.xor_comm x, Nat.xor_comm x] at e5
  have e6 := Sm.M.xor_right e5
  exact h (UInt8.toNat_inj.1 (by omega))
theorem turned_odd {p q : List UInt8} {c d : UInt8} {b : List UInt8} (hb : b = p ++ c :: q) (hg : goodR b = true) (h : c ≠ d) :
    ReadIs (headR b.length (figsB b) ++ 10 :: ((p ++ d :: q) ++ footR b.length)) 3 [] 0 := by
  obtain ⟨h2, h5, _, _⟩ := good_iff.1 hg
  have hl : (p ++ d :: q).length = b.length := by rw [hb]; simp
  obtain ⟨h1, hw⟩ := long_body (r := footR b.length) h2 h5 (figsB_ok b) hl
  refine .inr (.inr ⟨?_, ?_, rfl, rfl, rfl⟩)
  · rw [h1]
    rintro ⟨_, z, hz, h0⟩
    have := congrArg List.length hz
    simp at this
    exact h0 this
  · rintro ⟨b', hw'⟩
    obtain ⟨_, _, e, _⟩ := (hw b').1 hw'
    unfold figsB at e
    have e := Sm.figs_inj (Sm.M.crc_lt _) (Sm.M.crc_lt _) e
    rw [hb] at e
    exact crc_one h e.symm
end Go.Proofs.YthblpjjocokphaaDoor.Fr
