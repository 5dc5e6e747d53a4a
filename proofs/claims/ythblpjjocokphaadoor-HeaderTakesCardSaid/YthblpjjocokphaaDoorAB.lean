/- A number's shortest figures, plainly. -/
import Derived.Lib.AtoiAll
import Derived.Lib.ItoaLen
namespace Go.Proofs.YthblpjjocokphaaDoor
open Go.Lib

theorem dig_nat {u : Nat} (h : u < 10) : (UInt8.ofNat (48 + u)).toNat = 48 + u := by
  rw [UInt8.toNat_ofNat']; omega
theorem dec_digits (u : Nat) : ∀ c ∈ decDigits u, 48 ≤ c.toNat ∧ c.toNat ≤ 57 := by
  induction u using Nat.strongRecOn with
  | _ u ih =>
    intro c hc
    by_cases h : u < 10
    · rw [decDigits_one h] at hc
      rw [List.mem_singleton.1 hc, dig_nat h]; omega
    · rw [decDigits, dif_neg h] at hc
      rcases List.mem_append.1 hc with hc | hc
      · exact ih (u / 10) (by omega) c hc
      · rw [List.mem_singleton.1 hc, dig_nat (by omega)]; omega
theorem dec_ne (u : Nat) : decDigits u ≠ [] := by
  intro h
  have := decDigits_length u
  have := nDigits_pos u
  rw [h] at *; simp at *; omega
theorem parse_snoc (c : UInt8) : ∀ (l : List UInt8) (acc : Nat), parseUint10 acc (l ++ [c]) = (match parseUint10 acc l with | .ok a => parseUint10 a [c] | NumEnd.syntax => NumEnd.syntax | .range => .range)
  | [], acc => rfl
  | d :: r, acc => by
    show parseUint10 acc (d :: (r ++ [c])) = _
    unfold parseUint10
    split
    · split
      · rfl
      · split
        · rfl
        · exact parse_snoc c r _
    · rfl
theorem parse_dec (u : Nat) (hu : u < 18446744073709551616) : parseUint10 0 (decDigits u) = .ok u := by
  induction u using Nat.strongRecOn with
  | _ u ih =>
    by_cases h : u < 10
    · rw [decDigits_one h]
      unfold parseUint10
      rw [dig_nat h, if_pos (by omega), if_neg (by omega), if_neg (by omega)]
      unfold parseUint10
      congr 1; omega
    · rw [decDigits, dif_neg h, parse_snoc, ih (u / 10) (by omega) (by omega)]
      show parseUint10 (u / 10) _ = _
      unfold parseUint10
      rw [dig_nat (show u % 10 < 10 by omega), if_pos (by omega), if_neg (by omega), if_neg (by omega)]
      unfold parseUint10
      congr 1; omega
/-- Numbers that an int holds. -/
def I64 (n : Int) : Prop := -9223372036854775808 ≤ n ∧ n ≤ 9223372036854775807
theorem atoi_itoa {n : Int} (h : I64 n) : atoiAll (itoa n) = .ok n := by
  obtain ⟨h0, h1⟩ := h
  unfold itoa
  by_cases hn : n < 0
  · rw [if_pos hn]
    unfold atoiAll
    have e45 : (45 : UInt8).toNat = 45 := rfl
    simp only [e45, or_true, if_true]
    have hm : parseMag (decDigits n.natAbs) = .ok n.natAbs := by
      unfold parseMag
      rw [if_neg (dec_ne _), parse_dec _ (by omega)]
    rw [hm]
    simp only [not_true, false_and, if_false, true_and]
    rw [if_neg (by omega)]
    congr 1; omega
  · rw [if_neg hn]
    have hm : parseMag (decDigits n.toNat) = .ok n.toNat := by
      unfold parseMag
      rw [if_neg (dec_ne _), parse_dec _ (by omega)]
    cases hd : decDigits n.toNat with
    | nil => exact absurd hd (dec_ne _)
    | cons c r =>
      have hc := dec_digits n.toNat c (by rw [hd]; exact List.mem_cons_self)
      unfold atoiAll
      simp only
      rw [if_neg (by omega), ← hd, hm]
      simp only
      rw [if_neg (by omega), if_neg (by omega), if_neg (by omega)]
      congr 1; omega
/-- What Atoi answers, beside whatever error. -/
def atoiV (l : List UInt8) : Int := match atoiAll l with | .ok v => v | NumEnd.syntax => 0 | .range => atoiSat l
theorem atoiV_itoa {n : Int} (h : I64 n) : atoiV (itoa n) = n := by unfold atoiV; rw [atoi_itoa h]
theorem itoa_bytes (n : Int) : ∀ c ∈ itoa n, c.toNat = 45 ∨ (48 ≤ c.toNat ∧ c.toNat ≤ 57) := by
  intro c hc
  unfold itoa at hc
  split at hc
  · rcases List.mem_cons.1 hc with rfl | hc
    · exact .inl rfl
    · exact .inr (dec_digits _ c hc)
  · exact .inr (dec_digits _ c hc)
theorem itoa_no {n : Int} {c : UInt8} (h1 : c.toNat ≠ 45) (h2 : c.toNat < 48 ∨ 57 < c.toNat) : c ∉ itoa n := fun hc => by
  have := itoa_bytes n c hc
  omega
theorem itoa_inj {a b : Int} (ha : I64 a) (hb : I64 b) (h : itoa a = itoa b) : a = b := by
  rw [← atoiV_itoa ha, ← atoiV_itoa hb, h]
/-- The digits' number, below 0 (as the document reckons it). -/
def numOn (n : Int) (l : List UInt8) : Int := l.foldl (fun n c => 10 * n - ((c.toNat : Int) - 48)) n
theorem numOn_snoc (n : Int) (l : List UInt8) (c : UInt8) : numOn n (l ++ [c]) = 10 * numOn n l - ((c.toNat : Int) - 48) := by unfold numOn; rw [List.foldl_append]; rfl
theorem numOn_dec (u : Nat) : numOn 0 (decDigits u) = -(u : Int) := by
  induction u using Nat.strongRecOn with
  | _ u ih =>
    by_cases h : u < 10
    · rw [decDigits_one h]
      show 10 * (0 : Int) - (((UInt8.ofNat (48 + u)).toNat : Int) - 48) = _
      rw [dig_nat h]; omega
    · rw [decDigits, dif_neg h, numOn_snoc, ih (u / 10) (by omega), dig_nat (show u % 10 < 10 by omega)]
      omega
/-- Of a beginning of the digits it is a beginning of the number. -/
theorem numOn_take (u k : Nat) : ∃ m : Nat, numOn 0 ((decDigits u).take k) = -(m : Int) ∧ m ≤ u := by
  induction u using Nat.strongRecOn generalizing k with
  | _ u ih =>
    by_cases hk : (decDigits u).length ≤ k
    · rw [List.take_of_length_le hk]; exact ⟨u, numOn_dec u, Nat.le_refl _⟩
    · by_cases h : u < 10
      · rw [decDigits_one h] at hk ⊢
        have : k = 0 := by simp at hk; omega
        subst this
        exact ⟨0, rfl, Nat.zero_le _⟩
      · rw [decDigits, dif_neg h] at hk ⊢
        rw [List.length_append] at hk
        simp only [List.length_cons, List.length_nil] at hk
        rw [List.take_append_of_le_length (by omega)]
        obtain ⟨m, e, hm⟩ := ih (u / 10) (by omega) k
        exact ⟨m, e, by omega⟩
end Go.Proofs.YthblpjjocokphaaDoor
