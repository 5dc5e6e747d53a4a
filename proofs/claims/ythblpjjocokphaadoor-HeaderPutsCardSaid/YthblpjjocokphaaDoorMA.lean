/- Headers, plainly. -/
import Derived.Test.YthblpjjocokphaaDoorDA
import Derived.Lib.CutLaws
import Derived.Lib.Strings
namespace Go.Proofs.YthblpjjocokphaaDoor.Hd
open Go.Lib

def SIGN : List UInt8 := [35, 37, 103, 101, 110, 32]
def headL (g : Nat) : List UInt8 := SIGN ++ (decDigits g ++ [10, 10])
/-- A text begins with a generation's header. -/
def Of (t : List UInt8) (g : Nat) : Prop := 1 ≤ g ∧ g ≤ 2147483648 ∧ ∃ r, t = headL g ++ r
/-- Which generation a text is of. -/
def GenIs (t : List UInt8) (n : Nat) : Prop := Of t n ∨ (n = 0 ∧ ∀ g, ¬ Of t g)
theorem dec10 (n : Nat) : (10 : UInt8) ∉ decDigits n := fun h => by have := dec_digits n _ h; simp at this
theorem dec_one {a b : Nat} (ha : a ≤ 2147483648) (hb : b ≤ 2147483648) (h : decDigits a = decDigits b) : a = b := by
  have e : itoa (a : Int) = itoa (b : Int) := by rw [itoa_nonneg, itoa_nonneg, h]
  have := itoa_inj (by constructor <;> omega) (by constructor <;> omega) e
  omega
theorem head_split (g : Nat) (r : List UInt8) : headL g ++ r = SIGN ++ (decDigits g ++ 10 :: (10 :: r)) := by unfold headL; simp
theorem head_one {a b : Nat} (ha : a ≤ 2147483648) (hb : b ≤ 2147483648) {r q : List UInt8} (h : headL a ++ r = headL b ++ q) : a = b ∧ r = q := by
  rw [head_split, head_split] at h
  obtain ⟨h1, h2⟩ := Fr.split_at (dec10 a) (dec10 b) (List.append_cancel_left h)
  exact ⟨dec_one ha hb h1, by simpa using h2⟩
theorem of_one {t : List UInt8} {a b : Nat} (h : Of t a) (h' : Of t b) : a = b := by
  obtain ⟨_, h2, r, e⟩ := h
  obtain ⟨_, h4, q, e'⟩ := h'
  exact (head_one h2 h4 (e.symm.trans e')).1
theorem gen_one {t : List UInt8} {a b : Nat} (h : GenIs t a) (h' : GenIs t b) : a = b := by
  rcases h with h | ⟨rfl, h⟩ <;> rcases h' with h' | ⟨rfl, h'⟩
  · exact of_one h h'
  · exact absurd h (h' _)
  · exact absurd h' (h _)
  · rfl
theorem dec_len (g : Nat) (hg : g ≤ 2147483648) : 1 ≤ (decDigits g).length ∧ (decDigits g).length ≤ 20 := by
  constructor
  · have := dec_ne g
    cases h : decDigits g with
    | nil => exact absurd h this
    | cons a l => simp
  · rw [decDigits_length]; exact nDigits_le20 g (by omega)
theorem head_len (g : Nat) (hg : g ≤ 2147483648) : 9 ≤ (headL g).length ∧ (headL g).length ≤ 28 := by
  have := dec_len g hg
  unfold headL SIGN
  simp only [List.length_append, List.length_cons, List.length_nil]; omega
theorem head_inj {a b : Nat} (ha : a ≤ 2147483648) (hb : b ≤ 2147483648) : headL a = headL b ↔ a = b :=
  ⟨fun h => (head_one (r := []) (q := []) ha hb (by rw [h])).1, fun h => by rw [h]⟩
theorem index_nn : ∀ (ds r : List UInt8), (10 : UInt8) ∉ ds → index (ds ++ 10 :: 10 :: r) [10, 10] = ds.length
  | [], r, _ => by simp [index]
  | c :: ds, r, h => by
    have hc : c ≠ 10 := fun e => h (by simp [e])
    have ih := index_nn ds r (fun q => h (List.mem_cons_of_mem _ q))
    have hp : List.isPrefixOf [10, 10] (c :: (ds ++ 10 :: 10 :: r)) = false := by
      have hb : ((10 : UInt8) == c) = false := by simpa using fun e => hc e.symm
      simp [List.isPrefixOf, hb]
    rw [List.cons_append, index, hp, ih]
    simp only [Bool.false_eq_true, if_false]
    rw [if_neg (by simp)]
    simp
theorem cut_nn (ds r : List UInt8) (h : (10 : UInt8) ∉ ds) : (cut (ds ++ 10 :: 10 :: r) [10, 10]).1 = ds := by
  unfold cut
  rw [index_nn ds r h, if_pos (by omega)]
  simp
theorem trim_sign (r : List UInt8) : trimPrefix (SIGN ++ r) SIGN = r := by
  unfold trimPrefix hasPrefix SIGN
  rw [if_pos (by simp [List.isPrefixOf])]
  simp
/-- The figures that the program cuts out of a text. -/
def figs (t : List UInt8) : List UInt8 := (cut (trimPrefix t SIGN) [10, 10]).1
theorem figs_of {t : List UInt8} {g : Nat} (h : Of t g) : figs t = decDigits g := by
  obtain ⟨_, _, r, rfl⟩ := h
  unfold figs
  rw [head_split, trim_sign, cut_nn _ _ (dec10 g)]
theorem figs_len (t : List UInt8) : (figs t).length ≤ t.length := by
  unfold figs cut
  split
  · rw [List.length_take]
    unfold trimPrefix; split
    · rw [List.length_drop]; omega
    · omega
  · show (trimPrefix t SIGN).length ≤ _
    unfold trimPrefix; split
    · rw [List.length_drop]; omega
    · omega
theorem figs_cases (s : List UInt8) : (cut s [10, 10]).1 <+: s := by
  unfold cut; split
  · exact List.take_prefix _ _
  · exact List.prefix_refl _
theorem of_prefix {t : List UInt8} {g : Nat} (h1 : 1 ≤ g) (h2 : g ≤ 2147483648) : hasPrefix t (headL g) = true ↔ Of t g := by
  unfold hasPrefix
  rw [List.isPrefixOf_iff_prefix]
  exact ⟨fun ⟨r, e⟩ => ⟨h1, h2, r, e.symm⟩, fun ⟨_, _, r, e⟩ => ⟨r, e.symm⟩⟩
/-- What the program answers. -/
theorem gen_prog (t : List UInt8) : GenIs t (if 1 ≤ atoiV (figs t) ∧ atoiV (figs t) ≤ 2147483648 ∧ hasPrefix t (headL (atoiV (figs t)).toNat) = true then (atoiV (figs t)).toNat else 0) := by
  split
  · rename_i h
    obtain ⟨h1, h2, h3⟩ := h
    exact .inl ((of_prefix (by omega) (by omega)).1 h3)
  · rename_i h
    refine .inr ⟨rfl, fun g hg => h ?_⟩
    have e := figs_of hg
    have hv : atoiV (figs t) = g := by
      rw [e, ← itoa_nonneg]
      obtain ⟨h1, h2, _⟩ := hg
      exact atoiV_itoa (by constructor <;> omega)
    rw [hv]
    have h1 := hg.1
    have h2 := hg.2.1
    refine ⟨by omega, by omega, ?_⟩
    rw [Int.toNat_natCast]
    exact (of_prefix h1 h2).2 hg
theorem gen_lt {t : List UInt8} {n : Nat} (h : GenIs t n) : n ≤ 2147483648 := by
  rcases h with h | ⟨rfl, _⟩
  · exact h.2.1
  · omega
theorem gen_put (g : Nat) (h1 : 1 ≤ g) (h2 : g ≤ 2147483648) (t : List UInt8) : GenIs (headL g ++ t) g := .inl ⟨h1, h2, t, rfl⟩
theorem gen_pre {t : List UInt8} {n : Nat} (h : GenIs t n) (hn : 1 ≤ n) : ∃ r, t = headL n ++ r := by
  rcases h with h | ⟨rfl, _⟩
  · exact h.2.2
  · omega
/-- A text of which the sign, figures up to its line's end, and another line's end are looked at. -/
theorem gen_ref {ds r : List UInt8} (hd : (10 : UInt8) ∉ ds) {g : Nat} (h1 : 1 ≤ g) (h2 : g ≤ 2147483648) (e : ds = decDigits g) : GenIs (SIGN ++ (ds ++ 10 :: 10 :: r)) g := .inl ⟨h1, h2, r, by rw [e, head_split]⟩
theorem gen_odd {ds r : List UInt8} (hd : (10 : UInt8) ∉ ds) (h : ∀ g, 1 ≤ g → g ≤ 2147483648 → ds ≠ decDigits g ∨ ∀ q, r ≠ 10 :: 10 :: q) (hr : r = [] ∨ ∃ q, r = 10 :: q) : GenIs (SIGN ++ (ds ++ r)) 0 := by
  refine .inr ⟨rfl, ?_⟩
  rintro g ⟨h1, h2, q, e⟩
  rw [head_split] at e
  have e := List.append_cancel_left e
  rcases hr with rfl | ⟨p, rfl⟩
  · have : (10 : UInt8) ∈ ds ++ [] := by rw [e]; simp
    exact hd (by simpa using this)
  · obtain ⟨e1, e2⟩ := Fr.split_at hd (dec10 g) e
    rcases h g h1 h2 with h | h
    · exact h e1
    · exact h q (by rw [e2])
theorem gen_short {t : List UInt8} (h : t.length < 9) : GenIs t 0 := .inr ⟨rfl, by
  rintro g ⟨h1, h2, r, rfl⟩
  have := head_len g h2
  simp only [List.length_append] at h; omega⟩
theorem gen_nosign {t : List UInt8} (h : t.take 6 ≠ SIGN) : GenIs t 0 := .inr ⟨rfl, by
  rintro g ⟨h1, h2, r, rfl⟩
  apply h
  rw [head_split]
  unfold SIGN
  simp⟩
end Go.Proofs.YthblpjjocokphaaDoor.Hd
