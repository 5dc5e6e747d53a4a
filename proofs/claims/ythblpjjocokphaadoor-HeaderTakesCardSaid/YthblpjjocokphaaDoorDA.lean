/- Records, plainly: bodies, heads, what a text begins with. -/
import Derived.Test.YthblpjjocokphaaDoorCP
import Derived.Test.YthblpjjocokphaaDoorLM
import Derived.Test.YthblpjjocokphaaDoorAB
namespace Go.Proofs.YthblpjjocokphaaDoor.Fr
open Go.Lib

/-- Does every line begin with a space? The flag: a line begins here. -/
def sp : Bool → List UInt8 → Bool
  | _, [] => true
  | s, c :: l => (!s || c == 32) && sp (c == 10) l
def fresh (s : Bool) (l : List UInt8) : Bool := match l.getLast? with | none => s | some c => c == 10
def lastNl (l : List UInt8) : Bool := l.getLast? == some 10
def goodR (l : List UInt8) : Bool := decide (2 ≤ l.length) && decide (l.length ≤ 50000) && lastNl l && sp true l
def AMD : List UInt8 := [37, 97, 109, 101, 110, 100, 32]
def END : List UInt8 := [37, 101, 110, 100, 32]
def headR (n : Nat) (f : List UInt8) : List UInt8 := AMD ++ (decDigits n ++ 32 :: f)
def footR (n : Nat) : List UInt8 := END ++ (decDigits n ++ [10])
def recR (n : Nat) (f b : List UInt8) : List UInt8 := headR n f ++ 10 :: (b ++ footR n)
def figsB (b : List UInt8) : List UInt8 := (Sm.figs (Sm.M.crc b)).data.toList
def fullR (b : List UInt8) : List UInt8 := recR b.length (figsB b) b
def figB (f : List UInt8) : Prop := ∃ x, Sm.takes f = some x
/-- A head of a body of n bytes. -/
structure IsHead (l : List UInt8) (n : Nat) (f : List UInt8) : Prop where
  lo : 2 ≤ n
  hi : n ≤ 50000
  fig : figB f
  eq : l = headR n f
/-- A true beginning of a record whose sum may be any figures. -/
def PartT (t : List UInt8) : Prop := ∃ n f b z, goodR b = true ∧ b.length = n ∧ figB f ∧ t ++ z = recR n f b ∧ z ≠ []
def WholeT (t b : List UInt8) : Prop := goodR b = true ∧ ∃ more, t = fullR b ++ more
/-- What a text begins with. -/
def ReadIs (t : List UInt8) (k : Nat) (b : List UInt8) (n : Nat) : Prop :=
  (WholeT t b ∧ k = 1 ∧ n = (fullR b).length) ∨ (PartT t ∧ k = 2 ∧ b = [] ∧ n = 0) ∨ (¬ PartT t ∧ (¬ ∃ b, WholeT t b) ∧ k = 3 ∧ b = [] ∧ n = 0)

-- decimal figures
theorem dec_inj {a b : Nat} (ha : a < 18446744073709551616) (hb : b < 18446744073709551616) (h : decDigits a = decDigits b) : a = b := by
  have h1 := parse_dec a ha
  rw [h, parse_dec b hb] at h1
  injection h1 with h1
  exact h1.symm
theorem dec_more {n : Nat} (h : ¬ n < 10) : decDigits n = decDigits (n / 10) ++ [UInt8.ofNat (48 + n % 10)] := by rw [decDigits, dif_neg h]
theorem dec_len5 {n : Nat} (h : n ≤ 99999) : (decDigits n).length ≤ 5 := by
  have step : ∀ (k m : Nat), (m < 10 ^ k → (decDigits m).length ≤ k) → ∀ u, u < 10 ^ (k + 1) → (u / 10 = m ∨ u < 10) → (decDigits u).length ≤ k + 1 := by
    intro k m ih u hu hm
    by_cases h10 : u < 10
    · rw [decDigits_one h10]; simp
    · rcases hm with hm | hm
      · rw [dec_more h10, List.length_append, hm]
        have : m < 10 ^ k := by rw [Nat.pow_succ] at hu; omega
        have := ih this
        simp; omega
      · exact absurd hm h10
  have h0 : ∀ k u : Nat, 1 ≤ k → u < 10 ^ k → (decDigits u).length ≤ k := by
    intro k
    induction k with
    | zero => intro u hk; omega
    | succ k ih =>
      intro u _ hu
      by_cases hk : k = 0
      · subst hk
        rw [decDigits_one (by simpa using hu)]; simp
      · exact step k (u / 10) (ih (u / 10) (by omega)) u hu (.inl rfl)
  exact h0 5 n (by omega) (by omega)
theorem dec_prefix : ∀ (n : Nat) (ds r : List UInt8), ds ≠ [] → ds ++ r = decDigits n → ∃ v, ds = decDigits v ∧ v ≤ n ∧ (1 ≤ n → 1 ≤ v) := by
  intro n
  induction n using Nat.strongRecOn with
  | _ n ih =>
    intro ds r hd h
    by_cases h10 : n < 10
    · rw [decDigits_one h10] at h
      cases ds with
      | nil => exact absurd rfl hd
      | cons c ds =>
        have hl := congrArg List.length h
        simp only [List.length_append, List.length_cons, List.length_nil] at hl
        obtain ⟨rfl, rfl⟩ : ds = [] ∧ r = [] := by constructor <;> apply List.eq_nil_of_length_eq_zero <;> omega
        exact ⟨n, by rw [decDigits_one h10]; simpa using h, Nat.le_refl _, id⟩
    · rcases List.eq_nil_or_concat r with rfl | ⟨r0, x, rfl⟩
      · exact ⟨n, by simpa using h, Nat.le_refl _, id⟩
      · rw [dec_more h10, List.concat_eq_append, ← List.append_assoc] at h
        have h1 := (List.append_inj' h rfl).1
        obtain ⟨v, e, hv, h1v⟩ := ih (n / 10) (by omega) ds r0 hd h1
        exact ⟨v, e, by omega, fun _ => h1v (by omega)⟩
theorem dec_no10 (n : Nat) : (10 : UInt8) ∉ decDigits n := fun h => by have := dec_digits n _ h; simp at this
theorem dec_no32 (n : Nat) : (32 : UInt8) ∉ decDigits n := fun h => by have := dec_digits n _ h; simp at this
theorem fig_len {f : List UInt8} (h : figB f) : f.length = 8 := by
  obtain ⟨x, h⟩ := h
  unfold Sm.takes at h
  split at h
  · assumption
  · cases h
def hexB (c : UInt8) : Bool := (Sm.val c.toNat).isSome
theorem tk_iff : ∀ (l : List UInt8) (acc : Nat), (∃ x, Sm.tk acc l = some x) ↔ l.all hexB = true
  | [], acc => by simp [Sm.tk]
  | c :: l, acc => by
    unfold Sm.tk
    cases hv : Sm.val c.toNat with
    | none => simp [hexB, hv]
    | some d => simp only [List.all_cons, hexB, hv, Option.isSome_some, Bool.true_and]; exact tk_iff l _
theorem figB_iff {f : List UInt8} : figB f ↔ f.length = 8 ∧ f.all hexB = true := by
  unfold figB Sm.takes
  by_cases h : f.length = 8
  · simp only [h, if_true, true_and]; exact tk_iff f 0
  · simp [h]
theorem hex_no {c : UInt8} (h : hexB c = true) : c ≠ 10 ∧ c ≠ 32 := by
  constructor <;> (rintro rfl; revert h; decide)
theorem fig_no10 {f : List UInt8} (h : figB f) : (10 : UInt8) ∉ f := fun hm => (hex_no (List.all_eq_true.1 (figB_iff.1 h).2 _ hm)).1 rfl
theorem fig_no32 {f : List UInt8} (h : figB f) : (32 : UInt8) ∉ f := fun hm => (hex_no (List.all_eq_true.1 (figB_iff.1 h).2 _ hm)).2 rfl
theorem figsB_ok (b : List UInt8) : figB (figsB b) := ⟨_, Sm.takes_figs _ (Sm.M.crc_lt b)⟩
theorem head_no10 {n : Nat} {f : List UInt8} (h : figB f) : (10 : UInt8) ∉ headR n f := by
  unfold headR AMD
  have := dec_no10 n
  have := fig_no10 h
  simp_all
/-- What stands up to a mark is the same on both sides. -/
theorem split_at {m : UInt8} : ∀ {a b x y : List UInt8}, m ∉ a → m ∉ b → a ++ m :: x = b ++ m :: y → a = b ∧ x = y
  | [], [], x, y, _, _, h => by simpa using h
  | [], c :: b, x, y, _, hb, h => by simp at h; exact absurd (h.1 ▸ List.mem_cons_self) hb
  | c :: a, [], x, y, ha, _, h => by simp at h; exact absurd (h.1 ▸ List.mem_cons_self) ha
  | c :: a, d :: b, x, y, ha, hb, h => by
    simp only [List.cons_append, List.cons.injEq] at h
    obtain ⟨rfl, h⟩ := h
    obtain ⟨rfl, rfl⟩ := split_at (fun q => ha (List.mem_cons_of_mem _ q)) (fun q => hb (List.mem_cons_of_mem _ q)) h
    exact ⟨rfl, rfl⟩
theorem head_inj {n n' : Nat} {f f' : List UInt8} (hn : n ≤ 50000) (hn' : n' ≤ 50000) (h : headR n f = headR n' f') : n = n' ∧ f = f' := by
  unfold headR at h
  have h1 := List.append_cancel_left h
  obtain ⟨h2, h3⟩ := split_at (dec_no32 n) (dec_no32 n') h1
  exact ⟨dec_inj (by omega) (by omega) h2, h3⟩
end Go.Proofs.YthblpjjocokphaaDoor.Fr
