/- Texts put together: QF. -/
import Derived.Test.YtflnlenkgbphpaaGreatDoorBaf1
import Derived.Test.YtflnlenkgbphpaaGreatDoorBaf2
import Derived.Test.YtflnlenkgbphpaaGreatDoorBaf3
import Derived.Test.YtflnlenkgbphpaaGreatDoorBaf4
import Derived.Test.YtflnlenkgbphpaaGreatDoorBaf5
import Derived.Test.YtflnlenkgbphpaaGreatDoorBaf6
import Derived.Test.YtflnlenkgbphpaaGreatDoorBaf7
import Derived.Test.YtflnlenkgbphpaaGreatDoorBaf8
import Derived.Test.YtflnlenkgbphpaaGreatDoorBaf9
import Derived.Test.YtflnlenkgbphpaaGreatDoorBaf10
import Derived.Test.YtflnlenkgbphpaaGreatDoorBaf11
import Derived.Test.YtflnlenkgbphpaaGreatDoorBag1
import Derived.Test.YtflnlenkgbphpaaGreatDoorBag2
import Derived.Test.YtflnlenkgbphpaaGreatDoorBag11
import Derived.Test.YtflnlenkgbphpaaGreatDoorBag12
set_option linter.unusedVariables false
namespace Go.Proofs.YtflnlenkgbphpaaGreatDoor
open Go.RowKit Go.Shelf

def wrongN (prev fields records : Nat) (x : Ln) (xs : List Ln) : Nat :=
  if kindL x.text = 5 ∨ (kindL x.text = 3 ∧ ¬ (prev = 4 ∨ prev = 3)) ∨ x.ended = false then 2
  else if kindL x.text ≠ 4 then 0
  else if unfoldN (x.text :: more xs) ≠ 0 then unfoldN (x.text :: more xs)
  else if 40 ≤ fields ∨ (fields = 0 ∧ 400 ≤ records) then 11 else 0
theorem wrong_ref (s : RS) (x : Ln) (xs : List Ln) : refWrong s x xs = wrongN s.prev s.fields.length s.records x xs := rfl
set_option maxRecDepth 100000 in
set_option maxHeartbeats 4000000 in
theorem wrong_any (xs : List Ln) (lv kv : Value) (i : Nat) (x : Ln) (fields records : Nat) (w : World) (hL : LnsR w lv xs) (hK : KdsR w kv xs) (hx : xs[i]? = some x) (hn : xs.length ≤ 100000) (hf : fields ≤ 1000000) (hr : records ≤ 1000000)
    (hs : ((x.text :: more (xs.drop (i + 1))).map List.length).sum ≤ 90000) (hs2 : (x.text :: more (xs.drop (i + 1))).length ≤ 90000) :
    Calls Tryz.prog 99 #[lv, kv, .int .i64 i, .int .i64 fields, .int .i64 records] w fun e w' => e = .returned (.int .i64 (wrongN (prevK xs i) fields records x (xs.drop (i + 1)) : Nat)) ∧ Below w.heap.size w w' := by
  have hlt0 : i < xs.length := by
    rcases Nat.lt_or_ge i xs.length with q | q
    · exact q
    · rw [List.getElem?_eq_none q] at hx; cases hx
  have BH := Lib.hid (behind_any xs kv i w hK hlt0 (by omega))
  have SD := Lib.hid (rsaid_any xs lv kv i x w hL hK hx hn)
  have hLc := hL
  have hKc := hK
  obtain ⟨A, cap, rfl, hle, hc⟩ := hL
  obtain ⟨A', cap', rfl, hle', hc'⟩ := hK
  obtain ⟨b, off, rfl, hbb, c0, c1⟩ := hc i x hx
  obtain ⟨b', off', rfl, hbb', d0⟩ := hc' i x hx
  clear hc hc' hLc hKc
  rcases kindL_pos x.text with hk | hk | hk | hk | hk
  · rw [hk] at d0
    cases he : x.ended with
    | false =>
      have e : wrongN (prevK xs i) fields records x (xs.drop (i + 1)) = 2 := by unfold wrongN; rw [if_pos (.inr (.inr he))]
      rw [e]; rw [he] at c1
      clear e BH SD hs
      go_enter Tryz.func99, Tryz.ntmps99
      go_wp2
      go_ret
      exact ⟨rfl, Below.refl _ _⟩
    | true =>
      have e : wrongN (prevK xs i) fields records x (xs.drop (i + 1)) = 0 := by unfold wrongN; rw [if_neg (by rw [hk, he]; simp), if_pos (by omega)]
      rw [e]; rw [he] at c1
      clear e BH SD hs
      go_enter Tryz.func99, Tryz.ntmps99
      go_wp2
      go_ret
      exact ⟨rfl, Below.refl _ _⟩
  · rw [hk] at d0
    cases he : x.ended with
    | false =>
      have e : wrongN (prevK xs i) fields records x (xs.drop (i + 1)) = 2 := by unfold wrongN; rw [if_pos (.inr (.inr he))]
      rw [e]; rw [he] at c1
      clear e BH SD hs
      go_enter Tryz.func99, Tryz.ntmps99
      go_wp2
      go_ret
      exact ⟨rfl, Below.refl _ _⟩
    | true =>
      have e : wrongN (prevK xs i) fields records x (xs.drop (i + 1)) = 0 := by unfold wrongN; rw [if_neg (by rw [hk, he]; simp), if_pos (by omega)]
      rw [e]; rw [he] at c1
      clear e BH SD hs
      go_enter Tryz.func99, Tryz.ntmps99
      go_wp2
      go_ret
      exact ⟨rfl, Below.refl _ _⟩
  · rw [hk] at d0
    by_cases hp : prevK xs i = 4 ∨ prevK xs i = 3
    · rw [decide_eq_true hp] at BH
      cases he : x.ended with
      | false =>
        have e : wrongN (prevK xs i) fields records x (xs.drop (i + 1)) = 2 := by unfold wrongN; rw [if_pos (.inr (.inr he))]
        rw [e]; rw [he] at c1
        clear e SD hs hp
        go_enter Tryz.func99, Tryz.ntmps99
        go_wp2_with fail
        refine BH.out.mono ?_
        rintro e w1 ⟨rfl, rfl⟩
        go_wp2
        go_ret
        exact ⟨rfl, Below.refl _ _⟩
      | true =>
        have e : wrongN (prevK xs i) fields records x (xs.drop (i + 1)) = 0 := by
          unfold wrongN; rw [if_neg (by rintro (h | ⟨_, h⟩ | h); omega; exact h hp; rw [he] at h; cases h), if_pos (by omega)]
        rw [e]; rw [he] at c1
        clear e SD hs hp
        go_enter Tryz.func99, Tryz.ntmps99
        go_wp2_with fail
        refine BH.out.mono ?_
        rintro e w1 ⟨rfl, rfl⟩
        go_wp2
        go_ret
        exact ⟨rfl, Below.refl _ _⟩
    · rw [decide_eq_false hp] at BH
      have e : wrongN (prevK xs i) fields records x (xs.drop (i + 1)) = 2 := by unfold wrongN; rw [if_pos (.inr (.inl ⟨hk, hp⟩))]
      rw [e]
      clear e SD hs hp
      go_enter Tryz.func99, Tryz.ntmps99
      go_wp2_with fail
      refine BH.out.mono ?_
      rintro e w1 ⟨rfl, rfl⟩
      go_wp2
      go_ret
      exact ⟨rfl, Below.refl _ _⟩
  · rw [hk] at d0
    cases he : x.ended with
    | false =>
      have e : wrongN (prevK xs i) fields records x (xs.drop (i + 1)) = 2 := by unfold wrongN; rw [if_pos (.inr (.inr he))]
      rw [e]; rw [he] at c1
      clear e BH SD hs
      go_enter Tryz.func99, Tryz.ntmps99
      go_wp2
      go_ret
      exact ⟨rfl, Below.refl _ _⟩
    | true =>
      rw [he] at c1
      obtain ⟨ls, hls⟩ : ∃ ls, x.text :: more (xs.drop (i + 1)) = ls := ⟨_, rfl⟩
      have e : wrongN (prevK xs i) fields records x (xs.drop (i + 1)) = if unfoldN ls ≠ 0 then unfoldN ls else if 40 ≤ fields ∨ (fields = 0 ∧ 400 ≤ records) then 11 else 0 := by
        unfold wrongN; rw [if_neg (by rw [hk, he]; simp), if_neg (by omega), hls]
      have UF := Lib.hid (fun w' v' (h : Strs w' v' ((x.text :: more (xs.drop (i + 1))).map B)) => refUnfold_yes x.text (more (xs.drop (i + 1))) v' w' h (fun l hl => by have := le_sum _ _ hl; omega) (by omega) (by have := saidV_le (x.text :: more (xs.drop (i + 1))); omega) hk)
      rw [hls] at SD UF hs hs2
      have hun := unfoldN_le ls
      rw [e]
      clear e BH hls
      obtain ⟨N, hN⟩ : ∃ N, (if unfoldN ls ≠ 0 then unfoldN ls else if 40 ≤ fields ∨ (fields = 0 ∧ 400 ≤ records) then 11 else 0) = N := ⟨_, rfl⟩
      rw [hN]
      have HN := Lib.hid hN
      clear hN
      unfold fieldV at UF
      generalize unfoldN ls = un at *
      generalize unfoldK ls = uk at *
      generalize unfoldV ls = uv at *
      go_enter Tryz.func99, Tryz.ntmps99
      go_wp2_with fail
      refine SD.out.mono ?_
      rintro e w1 ⟨sv, rfl, hown, b1⟩
      have hst := hown.strs
      obtain ⟨Av, capv, rfl, _, _⟩ := id hst
      have U1 := Lib.hid (UF.out w1 _ hst)
      rw [List.length_map] at U1
      have hz1 := b1.size
      clear hown hst SD UF
      go_wp2_with fail
      refine U1.out.mono ?_
      rintro e w2 ⟨rfl, b2⟩
      have hb2 := b1.trans (b2.mono hz1)
      have hz2 := hb2.size
      have hba := hb2.alloc hz2 (.cells #[.string (B uk), .string (B uv)] 35)
      clear U1 b1 b2
      by_cases hu : un = 0
      · subst hu
        by_cases h40 : 40 ≤ fields
        · have h9 : N = 11 := by rw [← HN.out, if_neg (by simp), if_pos (.inl h40)]
          subst h9
          clear HN
          go_wp2
          go_ret
          exact ⟨rfl, hba⟩
        · by_cases h0 : fields = 0
          · subst h0
            by_cases h400 : 400 ≤ records
            · have h9 : N = 11 := by rw [← HN.out, if_neg (by simp), if_pos (.inr ⟨rfl, h400⟩)]
              subst h9
              clear HN
              go_wp2
              go_ret
              exact ⟨rfl, hba⟩
            · have h9 : N = 0 := by rw [← HN.out, if_neg (by simp), if_neg (by omega)]
              subst h9
              clear HN
              go_wp2
              go_ret
              exact ⟨rfl, hba⟩
          · have h9 : N = 0 := by rw [← HN.out, if_neg (by simp), if_neg (by omega)]
            subst h9
            clear HN
            have z1 : ((fields : Int) == 0) = false := beq_eq_false_iff_ne.2 (by omega)
            go_wp2
            go_ret
            exact ⟨rfl, hba⟩
      · have h9 : N = un := by rw [← HN.out, if_pos hu]
        subst h9
        clear HN
        have z1 : ((N : Int) != 0) = true := by simp; omega
        go_wp2
        go_ret
        exact ⟨rfl, hba⟩
  · have e : wrongN (prevK xs i) fields records x (xs.drop (i + 1)) = 2 := by unfold wrongN; rw [if_pos (.inl hk)]
    rw [e]; rw [hk] at d0
    clear e BH SD hs
    go_enter Tryz.func99, Tryz.ntmps99
    go_wp2
    go_ret
    exact ⟨rfl, Below.refl _ _⟩
end Go.Proofs.YtflnlenkgbphpaaGreatDoor

