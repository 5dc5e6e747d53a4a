/- The lines of a text, plainly: lists of bytes. -/
namespace Go.Proofs.YthblpjjocokphaaDoor

/-- A line: number, place, bytes, whether it is ended. -/
structure Ln where
  no : Nat
  at_ : Nat
  text : List UInt8
  ended : Bool
deriving DecidableEq

def head (l : List UInt8) : List UInt8 := l.takeWhile (· != 10)
def nl (l : List UInt8) : Bool := l.contains 10
def used (l : List UInt8) : Nat := (head l).length + if nl l then 1 else 0
def linesF : Nat → Nat → Nat → List UInt8 → List Ln
  | 0, _, _, _ => []
  | f + 1, no, at_, l => if l = [] then [] else ⟨no, at_, head l, nl l⟩ :: linesF f (no + 1) (at_ + used l) (l.drop (used l))
def linesOn (no at_ : Nat) (l : List UInt8) : List Ln := linesF l.length no at_ l
def linesOf (l : List UInt8) : List Ln := linesOn 0 0 l
/-- What stands in the text for a line. -/
def Ln.bytes (x : Ln) : List UInt8 := x.text ++ if x.ended then [10] else []

theorem head_le (l : List UInt8) : (head l).length ≤ l.length := by
  unfold head
  induction l with
  | nil => simp
  | cons a t ih =>
    simp only [List.takeWhile_cons]
    split
    · simp; exact ih
    · simp
theorem head_split (l : List UInt8) : l = head l ++ (if nl l then [10] else []) ++ l.drop (used l) := by
  unfold used
  induction l with
  | nil => simp [head, nl]
  | cons a t ih =>
    by_cases h : a = 10
    · subst h; simp [head, nl]
    · have e1 : head (a :: t) = a :: head t := by simp [head, h]
      have e2 : nl (a :: t) = nl t := by simp [nl, Ne.symm h]
      rw [e1, e2]
      simp only [List.length_cons, List.cons_append]
      rw [show (head t).length + 1 + (if nl t = true then 1 else 0) = ((head t).length + if nl t = true then 1 else 0) + 1 by omega, List.drop_succ_cons]
      exact congrArg (a :: ·) ih
theorem used_le (l : List UInt8) : used l ≤ l.length := by
  have := congrArg List.length (head_split l)
  unfold used at this ⊢
  simp only [List.length_append, List.length_drop] at this
  have h1 : (if nl l = true then [(10 : UInt8)] else []).length = if nl l = true then 1 else 0 := by split <;> rfl
  rw [h1] at this
  omega
theorem used_pos (l : List UInt8) (h : l ≠ []) : 1 ≤ used l := by
  unfold used
  cases l with
  | nil => exact absurd rfl h
  | cons a t =>
    by_cases h : a = 10
    · subst h; simp [nl]
    · simp [head, h]; omega
theorem linesF_more : ∀ (f g no at_ : Nat) (l : List UInt8), l.length ≤ f → l.length ≤ g → linesF f no at_ l = linesF g no at_ l
  | 0, 0, _, _, _, _, _ => rfl
  | 0, g + 1, no, at_, l, h, _ => by
    have : l = [] := List.length_eq_zero_iff.1 (by omega)
    simp [linesF, this]
  | f + 1, 0, no, at_, l, _, h => by
    have : l = [] := List.length_eq_zero_iff.1 (by omega)
    simp [linesF, this]
  | f + 1, g + 1, no, at_, l, h1, h2 => by
    unfold linesF
    split
    · rfl
    · rename_i hn
      have := used_pos l hn
      rw [linesF_more f g _ _ _ (by simp only [List.length_drop]; omega) (by simp only [List.length_drop]; omega)]
theorem linesOn_nil (no at_ : Nat) : linesOn no at_ [] = [] := rfl
theorem linesOn_cons (no at_ : Nat) (l : List UInt8) (h : l ≠ []) : linesOn no at_ l = ⟨no, at_, head l, nl l⟩ :: linesOn (no + 1) (at_ + used l) (l.drop (used l)) := by
  unfold linesOn
  cases l with
  | nil => exact absurd rfl h
  | cons a t =>
    have := used_pos _ h
    rw [show (a :: t).length = t.length + 1 from rfl]
    conv => lhs; unfold linesF
    rw [if_neg h, linesF_more t.length ((a :: t).drop (used (a :: t))).length _ _ _ (by simp only [List.length_drop, List.length_cons]; omega) (Nat.le_refl _)]
/-- One behind the other, they are the text. -/
theorem linesOn_join : ∀ (n no at_ : Nat) (l : List UInt8), l.length ≤ n → (linesOn no at_ l).flatMap Ln.bytes = l
  | 0, _, _, l, h => by
    have : l = [] := List.length_eq_zero_iff.1 (by omega)
    subst this; rfl
  | n + 1, no, at_, l, h => by
    by_cases hl : l = []
    · subst hl; rfl
    · have hp := used_pos l hl
      rw [linesOn_cons _ _ _ hl, List.flatMap_cons, linesOn_join n _ _ _ (by simp only [List.length_drop]; omega)]
      exact (head_split l).symm
theorem linesOf_join (l : List UInt8) : (linesOf l).flatMap Ln.bytes = l := linesOn_join _ _ _ _ (Nat.le_refl _)
/-- Each begins where those ahead of it end, and has its number. -/
theorem linesOn_at : ∀ (n no at_ : Nat) (l : List UInt8), l.length ≤ n → ∀ pre x post, linesOn no at_ l = pre ++ x :: post → x.no = no + pre.length ∧ x.at_ = at_ + (pre.flatMap Ln.bytes).length
  | 0, _, _, l, h, pre, x, post, e => by
    have : l = [] := List.length_eq_zero_iff.1 (by omega)
    subst this
    rw [linesOn_nil] at e
    exact absurd (congrArg List.length e) (by simp)
  | n + 1, no, at_, l, h, pre, x, post, e => by
    by_cases hl : l = []
    · subst hl; rw [linesOn_nil] at e; exact absurd (congrArg List.length e) (by simp)
    · have hp := used_pos l hl
      rw [linesOn_cons _ _ _ hl] at e
      cases pre with
      | nil => simp only [List.nil_append, List.cons.injEq] at e; obtain ⟨rfl, _⟩ := e; simp
      | cons y pre =>
        simp only [List.cons_append, List.cons.injEq] at e
        obtain ⟨rfl, e⟩ := e
        obtain ⟨a, b⟩ := linesOn_at n _ _ _ (by simp only [List.length_drop]; omega) pre x post e
        refine ⟨by rw [a]; simp; omega, ?_⟩
        rw [b, List.flatMap_cons, List.length_append]
        have : (Ln.bytes ⟨no, at_, head l, nl l⟩).length = used l := by
          unfold Ln.bytes used; simp only [List.length_append]; split <;> rfl
        rw [this]; omega
theorem linesOf_at (l : List UInt8) (pre : List Ln) (x : Ln) (post : List Ln) (e : linesOf l = pre ++ x :: post) : x.no = pre.length ∧ x.at_ = (pre.flatMap Ln.bytes).length := by
  have := linesOn_at _ 0 0 l (Nat.le_refl _) pre x post e
  simpa using this
/-- No line end stands in a line. -/
theorem linesOn_clean : ∀ (n no at_ : Nat) (l : List UInt8), l.length ≤ n → ∀ x ∈ linesOn no at_ l, (10 : UInt8) ∉ x.text
  | 0, _, _, l, h, x, hx => by
    have : l = [] := List.length_eq_zero_iff.1 (by omega)
    subst this
    rw [linesOn_nil] at hx; cases hx
  | n + 1, no, at_, l, h, x, hx => by
    by_cases hl : l = []
    · subst hl; rw [linesOn_nil] at hx; cases hx
    · have hp := used_pos l hl
      rw [linesOn_cons _ _ _ hl] at hx
      rcases List.mem_cons.1 hx with rfl | hx
      · intro hm
        have := List.all_takeWhile (p := fun (c : UInt8) => c != 10) (l := l)
        have := List.all_eq_true.1 this 10 hm
        simp at this
      · exact linesOn_clean n _ _ _ (by simp only [List.length_drop]; omega) x hx
theorem linesOn_length : ∀ (n no at_ : Nat) (l : List UInt8), l.length ≤ n → (linesOn no at_ l).length ≤ l.length
  | 0, _, _, l, h => by
    have : l = [] := List.length_eq_zero_iff.1 (by omega)
    subst this; simp [linesOn_nil]
  | n + 1, no, at_, l, h => by
    by_cases hl : l = []
    · subst hl; simp [linesOn_nil]
    · have hp := used_pos l hl
      rw [linesOn_cons _ _ _ hl]
      have := linesOn_length n (no + 1) (at_ + used l) (l.drop (used l)) (by simp only [List.length_drop]; omega)
      simp only [List.length_cons, List.length_drop] at this ⊢
      have := used_le l
      omega
theorem linesOf_length (l : List UInt8) : (linesOf l).length ≤ l.length := linesOn_length _ _ _ _ (Nat.le_refl _)
end Go.Proofs.YthblpjjocokphaaDoor
