/- The document's headers. -/
import Derived.Test.YthblpjjocokphaaDoorMC
namespace Go.Proofs.YthblpjjocokphaaDoor.Hd
open Go.RowKit Go.Shelf
attribute [local go_sem] Oper.semAt_some

theorem byteT {c : UInt8} (d : UInt8) (n : Int) (hn : (d.toNat : Int) = n) : ((c.toNat : Int) == n) = (c == d) := by
  by_cases h : c = d
  · subst h; simp [hn]
  · have : (c.toNat : Int) ≠ n := by intro e; apply h; apply UInt8.toNat_inj.1; omega
    rw [beq_eq_false_iff_ne.2 this]; simp [h]
/-- Where the document stops looking for the line's end. -/
structure Stop (t : List UInt8) (i : Nat) : Prop where
  sign : t.take 6 = SIGN
  ge : 6 ≤ i
  le : i ≤ t.length
  no : (10 : UInt8) ∉ (t.take i).drop 6
def dsOf (t : List UInt8) (i : Nat) : List UInt8 := (t.take i).drop 6
theorem Stop.form {t : List UInt8} {i : Nat} (h : Stop t i) : t = SIGN ++ (dsOf t i ++ t.drop i) := by
  have e : t.take i = SIGN ++ dsOf t i := by
    have e1 : (t.take i).take 6 = SIGN := by rw [List.take_take, Nat.min_eq_left h.ge]; exact h.sign
    conv => lhs; rw [← List.take_append_drop 6 (t.take i), e1]
    rfl
  conv => lhs; rw [← List.take_append_drop i t, e, List.append_assoc]
theorem Stop.end_ {t : List UInt8} {i : Nat} (h : i = t.length ∨ t[i]? = some 10) : t.drop i = [] ∨ ∃ q, t.drop i = 10 :: q := by
  rcases h with h | h
  · left; rw [h]; simp
  · obtain ⟨hlt, hc⟩ := List.getElem?_eq_some_iff.1 h
    right
    exact ⟨t.drop (i + 1), by rw [List.drop_eq_getElem_cons hlt, hc]⟩
theorem dec_num {g : Nat} (h2 : g ≤ 2147483648) : Fr.numL (Lib.decDigits g) = some (g : Int) := Fr.numL_some.2 ⟨by constructor <;> omega, by rw [Lib.itoa_nonneg]⟩
theorem Stop.no_num {t : List UInt8} {i : Nat} (h : Stop t i) (he : i = t.length ∨ t[i]? = some 10) (hn : ∀ n, Fr.numL (dsOf t i) = some n → n < 1 ∨ 2147483648 < n) : GenIs t 0 := by
  rw [h.form]
  refine gen_odd h.no (fun g h1 h2 => .inl fun e => ?_) (Stop.end_ he)
  have := hn g (by rw [e]; exact dec_num h2)
  omega
theorem Stop.one {t : List UInt8} {i : Nat} (h : Stop t i) (he : i = t.length ∨ t[i]? = some 10) (hn : t[i + 1]? ≠ some 10) : GenIs t 0 := by
  rw [h.form]
  refine gen_odd h.no (fun g h1 h2 => .inr fun q e => hn ?_) (Stop.end_ he)
  have : (t.drop i)[1]? = some 10 := by rw [e]; rfl
  rwa [List.getElem?_drop] at this
theorem Stop.yes {t : List UInt8} {i g : Nat} (h : Stop t i) (h1 : 1 ≤ g) (h2 : g ≤ 2147483648) (he : t[i]? = some 10) (he2 : t[i + 1]? = some 10) (hn : Fr.numL (dsOf t i) = some (g : Int)) : GenIs t g ∧ lenP g = i + 2 := by
  have hd : dsOf t i = Lib.decDigits g := by
    have := (Fr.numL_some.1 hn).2
    rw [Lib.itoa_nonneg] at this
    exact this.symm
  obtain ⟨hlt, hc⟩ := List.getElem?_eq_some_iff.1 he
  obtain ⟨hlt2, hc2⟩ := List.getElem?_eq_some_iff.1 he2
  have e : t.drop i = 10 :: 10 :: t.drop (i + 2) := by rw [List.drop_eq_getElem_cons hlt, hc, List.drop_eq_getElem_cons hlt2, hc2]
  have hf := h.form
  rw [e] at hf
  refine ⟨by rw [hf]; exact gen_ref h.no h1 h2 hd, ?_⟩
  unfold lenP
  rw [if_pos ⟨h1, h2⟩]
  unfold headL
  have hl : (dsOf t i).length = i - 6 := by unfold dsOf; rw [List.length_drop, List.length_take]; have := h.le; omega
  rw [← hd]
  simp only [List.length_append, hl, List.length_cons, List.length_nil]
  have := h.ge
  show 6 + _ = _
  omega
theorem refgood_any (n : Int) (w : World) : Calls Tryd.prog 8 #[.int .i64 n] w fun e w' => e = .returned (.bool (decide (1 ≤ n ∧ n ≤ 2147483648))) ∧ w' = w := by
  have D1 := Lib.hid (fun (h : 1 ≤ n ∧ n ≤ 2147483648) => congrArg (fun b => Ending.returned (.bool b)) (decide_eq_true h).symm)
  have D2 := Lib.hid (fun (h : ¬ (1 ≤ n ∧ n ≤ 2147483648)) => congrArg (fun b => Ending.returned (.bool b)) (decide_eq_false h).symm)
  generalize decide (1 ≤ n ∧ n ≤ 2147483648) = q at *
  by_cases h1 : 1 ≤ n
  · by_cases h2 : n ≤ 2147483648
    · go_enter Tryd.func8, Tryd.ntmps8
      go_wp2_with fail
      go_ret
      exact ⟨D1.out ⟨h1, h2⟩, rfl⟩
    · go_enter Tryd.func8, Tryd.ntmps8
      go_wp2_with fail
      go_ret
      exact ⟨D2.out (fun h => absurd h.2 (by omega)), rfl⟩
  · go_enter Tryd.func8, Tryd.ntmps8
    go_wp2_with fail
    go_ret
    exact ⟨D2.out (fun h => absurd h.1 (by omega)), rfl⟩
theorem refline_any (g : Nat) (h1 : 1 ≤ g) (h2 : g ≤ 2147483648) (w : World) : Calls Tryd.prog 12 #[.int .i64 (g : Int)] w fun e w' => e = .returned (.string (B (headL g))) ∧ w' = w := by
  have FI := Lib.hid (Fr.figures_any (g : Int) (by constructor <;> omega) w)
  rw [Lib.itoa_nonneg] at FI
  have E : Hid ((⟨#[35, 37, 103, 101, 110, 32]⟩ : ByteArray) ++ B (Lib.decDigits g) ++ ⟨#[10, 10]⟩ = B (headL g)) := by
    show _ = _
    rw [show (⟨#[35, 37, 103, 101, 110, 32]⟩ : ByteArray) = B SIGN from rfl, show (⟨#[10, 10]⟩ : ByteArray) = B [10, 10] from rfl, B_append, B_append]
    unfold headL; simp
  have hs : (B (Lib.decDigits g)).size ≤ 20 := by rw [B_size]; exact (dec_len g h2).2
  generalize B (Lib.decDigits g) = d at *
  have s1 : ((⟨#[35, 37, 103, 101, 110, 32]⟩ : ByteArray) ++ d).size ≤ 26 := by rw [ByteArray.size_append]; show 6 + _ ≤ _; omega
  go_enter Tryd.func12, Tryd.ntmps12
  go_wp2_with fail
  refine FI.out.mono ?_
  rintro e w1 ⟨rfl, rfl⟩
  go_wp2_with fail
  go_ret
  exact ⟨by rw [← E.out]; rfl, rfl⟩
theorem at_some {s : ByteArray} {k : Nat} (h : k < s.size) : s.data.toList[k]? = some s[k] := by
  rw [List.getElem?_eq_getElem (by rw [← Lib.size_eq]; exact h)]; rfl
theorem no_snoc {s : ByteArray} {k : Nat} (h6 : 6 ≤ k) (h : k < s.size) (h1 : (10 : UInt8) ∉ (s.data.toList.take k).drop 6) (h2 : (s[k] == 10) = false) : (10 : UInt8) ∉ (s.data.toList.take (k + 1)).drop 6 := by
  have hl : k < s.data.toList.length := by rw [← Lib.size_eq]; exact h
  rw [List.take_succ_eq_append_getElem hl, List.drop_append_of_le_length (by rw [List.length_take]; omega)]
  intro hm
  rcases List.mem_append.1 hm with hm | hm
  · exact h1 hm
  · have e : (10 : UInt8) = s.data.toList[k] := by simpa using hm
    have e2 : s.data.toList[k] = s[k] := rfl
    rw [← e2, ← e] at h2
    simp at h2
end Go.Proofs.YthblpjjocokphaaDoor.Hd
