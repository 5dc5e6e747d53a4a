/- Texts put together: AM, AD, AN, NS, NT, NU, NV, NL, NM, NP, NW, EC, EO, EW, AO. -/
import Derived.WideShapes
import Derived.BigFrame
import Derived.Laws.AppendOwnNone
import Derived.Test.YtkcklnnmcmjnjaaGreatDoorBam1
import Derived.Test.YtkcklnnmcmjnjaaGreatDoorBam2
import Derived.Test.YtkcklnnmcmjnjaaGreatDoorBam5
import Derived.Test.YtkcklnnmcmjnjaaGreatDoorBam11
import Derived.Test.YtkcklnnmcmjnjaaGreatDoorBam12
import Derived.Test.YtkcklnnmcmjnjaaGreatDoorBam14
import Derived.Test.YtkcklnnmcmjnjaaGreatDoorBam17
import Derived.Test.YtkcklnnmcmjnjaaGreatDoorBam18
import Derived.Test.YtkcklnnmcmjnjaaGreatDoorBam19
import Derived.Test.YtkcklnnmcmjnjaaGreatDoorBam21
import Derived.Test.YtkcklnnmcmjnjaaGreatDoorBam23
import Derived.Test.YtkcklnnmcmjnjaaGreatDoorBam24
set_option linter.unusedVariables false
namespace Go.Proofs.YtkcklnnmcmjnjaaGreatDoor
open Go.RowKit Go.Shelf
attribute [local go_sem] Oper.semAt_some

set_option maxRecDepth 100000 in
set_option maxHeartbeats 4000000 in
theorem unsigned_any (u : Nat) (hu : u < 18446744073709551616) (w : World) : Calls Tryz.prog 113 #[.int .u64 u] w fun e w' => e = .returned (.string (B (Lib.decDigits u))) ∧ w' = w := by
  induction u using Nat.strongRecOn generalizing w with
  | _ u ih =>
    by_cases h : u < 10
    · rw [Lib.decDigits_one h]
      clear ih hu
      obtain rfl | rfl | rfl | rfl | rfl | rfl | rfl | rfl | rfl | rfl : u = 0 ∨ u = 1 ∨ u = 2 ∨ u = 3 ∨ u = 4 ∨ u = 5 ∨ u = 6 ∨ u = 7 ∨ u = 8 ∨ u = 9 := by omega
      all_goals
        go_enter Tryz.func113, Tryz.ntmps113
        go_wp2_with fail
        go_ret
        exact ⟨by kernel_rfl, rfl⟩
    · have q : ¬ (u : Int) < 10 := by omega
      have I1 := Lib.hid (ih (u / 10) (by omega) (by omega))
      have I2 := Lib.hid (ih (u % 10) (by omega) (by omega))
      rw [Int.natCast_ediv] at I1
      rw [Int.natCast_emod] at I2
      have E : Hid (B (Lib.decDigits (u / 10)) ++ B (Lib.decDigits (u % 10)) = B (Lib.decDigits u)) := by
        show _ = _
        rw [B_append, Lib.decDigits_one (i := u % 10) (by omega)]
        congr 1
        conv => rhs; rw [Lib.decDigits, dif_neg h]
      have S1 : (B (Lib.decDigits (u / 10))).size ≤ 30 := by
        rw [B_size, Lib.decDigits_length]
        have := Lib.nDigits_le20 (u / 10) (by omega)
        omega
      have S2 : (B (Lib.decDigits (u % 10))).size ≤ 30 := by rw [B_size, Lib.decDigits_one (by omega)]; exact (by decide : 1 ≤ 30)
      clear ih
      generalize B (Lib.decDigits (u / 10)) = x at *
      generalize B (Lib.decDigits (u % 10)) = y at *
      go_enter Tryz.func113, Tryz.ntmps113
      go_wp2_with fail
      refine (I1.out _).mono ?_
      rintro e w1 ⟨rfl, rfl⟩
      go_wp2_with fail
      refine (I2.out _).mono ?_
      rintro e w1 ⟨rfl, rfl⟩
      go_wp2_with fail
      go_ret
      exact ⟨by rw [← E.out]; rfl, rfl⟩
set_option maxRecDepth 100000 in
set_option maxHeartbeats 4000000 in
theorem figures_any (n : Int) (hn : I64 n) (w : World) : Calls Tryz.prog 80 #[.int .i64 n] w fun e w' => e = .returned (.string (B (Lib.itoa n))) ∧ w' = w := by
  obtain ⟨h0, h1⟩ := hn
  by_cases h : n < 0
  · obtain ⟨u, rfl⟩ : ∃ u : Nat, n = -((u : Int) + 1) := ⟨(-n - 1).toNat, by omega⟩
    have q : -((u : Int) + 1) < 0 := by omega
    have w1 : IntKind.i64.wrap (-((u : Int) + 1) + 1) = -(u : Int) := by rw [show -((u : Int) + 1) + 1 = -(u : Int) by omega]; exact IntWalk.i64_in _ (by omega)
    have w2 : IntKind.i64.wrap (u : Int) = (u : Int) := IntWalk.i64_in _ (by omega)
    have w3 : IntKind.u64.wrap (u : Int) = (u : Int) := by rw [IntKind.wrap_u64]; omega
    have w4 : IntKind.u64.wrap ((u : Int) + 1) = (u : Int) + 1 := by rw [IntKind.wrap_u64]; omega
    have I1 := Lib.hid (unsigned_any (u + 1) (by omega) w)
    rw [Int.natCast_add, show ((1 : Nat) : Int) = 1 from rfl] at I1
    have E : Hid ((⟨#[45]⟩ : ByteArray) ++ B (Lib.decDigits (u + 1)) = B (Lib.itoa (-((u : Int) + 1)))) := by
      show _ = _
      rw [show -((u : Int) + 1) = -((u + 1 : Nat) : Int) by omega, Lib.itoa_neg _ (by omega), show (⟨#[45]⟩ : ByteArray) = B [45] from rfl, B_append]; rfl
    have S1 : (B (Lib.decDigits (u + 1))).size ≤ 30 := by
      rw [B_size, Lib.decDigits_length]
      have := Lib.nDigits_le20 (u + 1) (by omega)
      omega
    generalize B (Lib.decDigits (u + 1)) = x at *
    go_enter Tryz.func80, Tryz.ntmps80
    go_wp2_with fail
    refine I1.out.mono ?_
    rintro e w1 ⟨rfl, rfl⟩
    go_wp2_with fail
    go_ret
    exact ⟨by rw [← E.out]; rfl, rfl⟩
  · obtain ⟨u, rfl⟩ : ∃ u : Nat, n = (u : Int) := ⟨n.toNat, by omega⟩
    have w3 : IntKind.u64.wrap (u : Int) = (u : Int) := by rw [IntKind.wrap_u64]; omega
    have I1 := Lib.hid (unsigned_any u (by omega) w)
    rw [Lib.itoa_nonneg]
    generalize B (Lib.decDigits u) = x at *
    go_enter Tryz.func80, Tryz.ntmps80
    go_wp2_with fail
    refine I1.out.mono ?_
    rintro e w1 ⟨rfl, rfl⟩
    go_wp2_with fail
    go_ret
    exact ⟨rfl, rfl⟩
set_option maxRecDepth 100000 in
set_option maxHeartbeats 4000000 in
theorem refLineA_any (k i : Int) (fv : Value) (hi : I64 i) (w : World) :
    Calls Tryz.prog 36 #[.agg #[.int .i64 k, .int .i64 i, fv]] w fun e w' => e = .returned (.string (B (lineA k i))) ∧ Below w.heap.size w w' := by
  have HB := Lib.hid (show Below w.heap.size w (w.alloc (.cells #[.int .i64 k, .int .i64 i, fv] 33)) from (Below.refl _ w).alloc (Nat.le_refl _) _)
  have FG := Lib.hid (fun W => figures_any i hi W)
  have hil := Lib.itoa_length_le i hi.1 hi.2
  have S1 : (B (Lib.itoa i)).size ≤ 21 := by rw [B_size]; exact hil
  have E : Hid (∀ kk : Int, (kk = 1 ∨ kk = 2 ∨ kk = 3) → B (32 :: (wordL kk ++ [32])) ++ B (Lib.itoa i) = B (lineA kk i)) := by
    intro kk hk
    rw [B_append]; unfold lineA; rw [if_pos hk]; congr 1; simp
  generalize B (Lib.itoa i) = x at *
  by_cases h1 : k = 1
  · subst h1
    have E1 := Lib.hid (E.out 1 (.inl rfl))
    clear E
    go_enter Tryz.func36, Tryz.ntmps36
    go_wp2_with fail
    refine (FG.out _).mono ?_
    rintro e w1 ⟨rfl, rfl⟩
    go_wp2_with fail
    go_ret
    exact ⟨by rw [← E1.out]; rfl, HB.out⟩
  · have q1 : (k == 1) = false := by simpa using h1
    by_cases h2 : k = 2
    · subst h2
      have E1 := Lib.hid (E.out 2 (.inr (.inl rfl)))
      clear E
      go_enter Tryz.func36, Tryz.ntmps36
      go_wp2_with fail
      refine (FG.out _).mono ?_
      rintro e w1 ⟨rfl, rfl⟩
      go_wp2_with fail
      go_ret
      exact ⟨by rw [← E1.out]; rfl, HB.out⟩
    · have q2 : (k == 2) = false := by simpa using h2
      by_cases h3 : k = 3
      · subst h3
        have E1 := Lib.hid (E.out 3 (.inr (.inr rfl)))
        clear E
        go_enter Tryz.func36, Tryz.ntmps36
        go_wp2_with fail
        refine (FG.out _).mono ?_
        rintro e w1 ⟨rfl, rfl⟩
        go_wp2_with fail
        go_ret
        exact ⟨by rw [← E1.out]; rfl, HB.out⟩
      · have q3 : (k == 3) = false := by simpa using h3
        have E1 : lineA k i = [] := by unfold lineA; rw [if_neg (by omega)]
        rw [E1]
        clear E E1
        go_enter Tryz.func36, Tryz.ntmps36
        go_wp2_with fail
        go_ret
        exact ⟨rfl, HB.out⟩
end Go.Proofs.YtkcklnnmcmjnjaaGreatDoor

namespace Go.Proofs.YtkcklnnmcmjnjaaGreatDoor

theorem batchLs_sp {eds : List Ed} (h : ∀ ed ∈ eds, goodE ed = 0) : ∀ l ∈ batchLs eds, ∃ r, l = 32 :: r := by
  intro l hl
  obtain ⟨ed, h1, h2⟩ := List.mem_flatMap.1 hl
  rcases List.mem_cons.1 h2 with rfl | h2
  · unfold lineA
    rw [if_pos (goodE_kind (h ed h1))]; exact ⟨_, rfl⟩
  · obtain ⟨x, _, rfl⟩ := List.mem_map.1 h2
    exact ⟨_, rfl⟩
theorem textL_cons (l : List UInt8) (r : List (List UInt8)) : textL (l :: r) = l ++ 10 :: textL r := by unfold textL; simp
/-- Behind a line end stands a space, or nothing. -/
theorem text_after : ∀ (ls : List (List UInt8)), (∀ l ∈ ls, (10 : UInt8) ∉ l) → (∀ l ∈ ls, ∃ r, l = 32 :: r) → ∀ i : Nat, (textL ls)[i]? = some 10 → (textL ls)[i + 1]? = none ∨ (textL ls)[i + 1]? = some 32
  | [], _, _, i, h => by simp [textL] at h
  | l :: r, hc, hs, i, h => by
    rw [textL_cons] at h ⊢
    rcases Nat.lt_trichotomy i l.length with q | q | q
    · rw [List.getElem?_append_left q] at h
      exact absurd (List.mem_of_getElem? h) (hc l List.mem_cons_self)
    · subst q
      rw [List.getElem?_append_right (by omega), show l.length + 1 - l.length = 1 by omega, List.getElem?_cons_succ]
      cases r with
      | nil => left; simp [textL]
      | cons x r =>
        obtain ⟨y, rfl⟩ := hs x (List.mem_cons_of_mem _ List.mem_cons_self)
        right; rw [textL_cons]; rfl
    · rw [List.getElem?_append_right (by omega)] at h ⊢
      obtain ⟨j, rfl⟩ : ∃ j, i = l.length + 1 + j := ⟨i - l.length - 1, by omega⟩
      rw [show l.length + 1 + j - l.length = j + 1 by omega, List.getElem?_cons_succ] at h
      rw [show l.length + 1 + j + 1 - l.length = j + 1 + 1 by omega, List.getElem?_cons_succ]
      exact text_after r (fun x hx => hc x (List.mem_cons_of_mem _ hx)) (fun x hx => hs x (List.mem_cons_of_mem _ hx)) j h
theorem text_first {ls : List (List UInt8)} (hs : ∀ l ∈ ls, ∃ r, l = 32 :: r) (h0 : ls ≠ []) : (textL ls)[0]? = some 32 := by
  cases ls with
  | nil => exact absurd rfl h0
  | cons l r =>
    obtain ⟨y, rfl⟩ := hs l List.mem_cons_self
    rw [textL_cons]; rfl
theorem text_last (ls : List (List UInt8)) (h0 : ls ≠ []) : (textL ls)[(textL ls).length - 1]? = some 10 := by
  rw [← List.getLast?_eq_getElem?]
  rw [← List.dropLast_concat_getLast h0]
  unfold textL; simp
theorem num_len : ∀ (ls : List (List UInt8)) (no c : Nat), (num no c ls).length = ls.length
  | [], _, _ => rfl
  | l :: r, no, c => by show (num _ _ r).length + 1 = _; rw [num_len r]; rfl
theorem lines_len {ls : List (List UInt8)} (hc : ∀ l ∈ ls, (10 : UInt8) ∉ l) : (linesOf (textL ls)).length = ls.length := by
  show (linesOn 0 0 (textL ls)).length = _
  rw [linesOn_num ls 0 0 hc, num_len]
/-- Without the space ahead of each line. -/
theorem dd_sp {ls : List (List UInt8)} (hc : ∀ l ∈ ls, (10 : UInt8) ∉ l) (hs : ∀ l ∈ ls, ∃ r, l = 32 :: r) : dd [32] ((linesOf (textL ls)).map sees) = (textL (ls.map List.tail), true) := by
  show dd [32] ((linesOn 0 0 (textL ls)).map sees) = _
  rw [linesOn_num ls 0 0 hc]
  have e : (num 0 0 ls).map sees = ls.map fun l => (l, true) := by
    suffices ∀ (ls : List (List UInt8)) (no c : Nat), (num no c ls).map sees = ls.map fun l => (l, true) from this ls 0 0
    intro ls
    induction ls with
    | nil => intro no c; rfl
    | cons l r ih =>
      intro no c
      show sees ⟨no, c, l, true⟩ :: (num _ _ r).map sees = _
      rw [ih]; rfl
  rw [e]
  unfold dd
  rw [if_pos]
  · congr 1
    rw [List.flatMap_map]
    unfold textL
    rw [List.flatMap_map]
    have key : ∀ l ∈ ls, (l.drop [(32 : UInt8)].length ++ if true = true then [(10 : UInt8)] else []) = l.tail ++ [10] := fun l hl => by
      obtain ⟨r, rfl⟩ := hs l hl; rfl
    clear hc hs e
    induction ls with
    | nil => rfl
    | cons l r ih =>
      rw [List.flatMap_cons, List.flatMap_cons, ih (fun x hx => key x (List.mem_cons_of_mem _ hx))]
      congr 1
      exact key l List.mem_cons_self
  · rw [List.all_eq_true]
    intro y hy
    obtain ⟨l, hl, rfl⟩ := List.mem_map.1 hy
    obtain ⟨r, rfl⟩ := hs l hl
    rfl
theorem tails_clean {ls : List (List UInt8)} (hc : ∀ l ∈ ls, (10 : UInt8) ∉ l) : ∀ l ∈ ls.map List.tail, (10 : UInt8) ∉ l := by
  intro l hl hm
  obtain ⟨x, hx, rfl⟩ := List.mem_map.1 hl
  exact hc x hx (List.mem_of_mem_tail hm)
theorem textL_inj {a b : List (List UInt8)} (ha : ∀ l ∈ a, (10 : UInt8) ∉ l) (hb : ∀ l ∈ b, (10 : UInt8) ∉ l) (h : textL a = textL b) : a = b := by
  have h1 := textL_parts a ha
  rw [h, textL_parts b hb] at h1
  exact (List.append_cancel_right h1).symm
theorem lineA_inj {k k' i i' : Int} (hk : k = 1 ∨ k = 2 ∨ k = 3) (hk' : k' = 1 ∨ k' = 2 ∨ k' = 3) (hi : I64 i) (hi' : I64 i') (h : lineA k i = lineA k' i') : k = k' ∧ i = i' := by
  unfold lineA at h
  rw [if_pos hk, if_pos hk'] at h
  injection h with _ h
  have e : wordL k = wordL k' := by
    have h1 := congrArg (List.takeWhile (· != 32)) h
    rw [takeW 32 _ _ (wordL_no (by decide)), takeW 32 _ _ (wordL_no (by decide))] at h1
    exact h1
  have e1 : k = k' := by rw [← kindOf_word hk, ← kindOf_word hk', e]
  subst e1
  have h2 := List.append_cancel_left h
  injection h2 with _ h2
  exact ⟨rfl, itoa_inj hi hi' h2⟩
/-- A line that is no further one of an edit. -/
def headLine (l : List UInt8) : Bool := !Lib.hasPrefix l [32, 32]
theorem head_ind (l : List UInt8) : headLine (ind2 l) = false := by simp [headLine, ind2, Lib.hasPrefix]
theorem head_lineA {k i : Int} (hk : k = 1 ∨ k = 2 ∨ k = 3) : headLine (lineA k i) = true := by unfold headLine; rw [lineA_two hk]; rfl
/-- Lines of fields, then others: those of fields are a beginning. -/
theorem ind_prefix : ∀ (a b : List (List UInt8)) (x y : List (List UInt8)), a.map ind2 ++ x = b.map ind2 ++ y → (∀ l, y.head? = some l → headLine l = true) → ∃ r, b = a ++ r ∧ x = r.map ind2 ++ y
  | [], b, x, y, h, _ => ⟨b, rfl, h⟩
  | l :: a, [], x, y, h, hy => by
    have : y = ind2 l :: (a.map ind2 ++ x) := h.symm
    have := hy (ind2 l) (by rw [this]; rfl)
    rw [head_ind] at this; cases this
  | l :: a, m :: b, x, y, h, hy => by
    injection h with h1 h2
    have e : l = m := by unfold ind2 at h1; injection h1 with _ e; injection e
    subst e
    obtain ⟨r, e1, e2⟩ := ind_prefix a b x y h2 hy
    exact ⟨r, by rw [e1]; rfl, e2⟩
/-- A value of which another one is a beginning. -/
theorem join_prefix : ∀ (a r : List (List UInt8)), a ≠ [] → ∃ z, joinNl (a ++ r) = joinNl a ++ z
  | [], _, h => absurd rfl h
  | [p], [], _ => ⟨[], by simp⟩
  | [p], q :: r, _ => by
    refine ⟨10 :: joinNl (q :: r), ?_⟩
    show joinNl (p :: q :: r) = joinNl [p] ++ _
    rw [joinNl_cons p (q :: r) (by simp)]; rfl
  | p :: q :: a, r, _ => by
    obtain ⟨z, hz⟩ := join_prefix (q :: a) r (by simp)
    refine ⟨z, ?_⟩
    show joinNl (p :: ((q :: a) ++ r)) = joinNl (p :: q :: a) ++ z
    rw [joinNl_cons p _ (by simp), joinNl_cons p (q :: a) (by simp), hz]; simp
theorem further_inj {a b : List UInt8} (h : furtherL a = furtherL b) : a = b := by
  rw [← further_back a, ← further_back b, h]
/-- Fewer fields, of which the last one may be cut. -/
def Cut : List Fld → List Fld → Prop
  | [], _ => True
  | _ :: _, [] => False
  | f :: fs, g :: gs => f.1 = g.1 ∧ (∃ z, g.2 = f.2 ++ z) ∧ Cut fs gs
theorem kinds_of {fs : List Fld} (h : ∀ f ∈ fs, goodKey f.1 = true ∧ f.2.length ≤ 1000) : ∀ l, (linesFs fs).head? = some l → kindL l = 4 := by
  intro l hl
  cases fs with
  | nil => simp [linesFs] at hl
  | cons f r =>
    unfold linesFs linesL at hl
    rw [List.flatMap_cons] at hl
    obtain rfl := Option.some.inj hl
    exact first_kind (h f List.mem_cons_self).1 (head_clean _)
/-- Further lines, then others. -/
theorem more_prefix : ∀ (a b : List (List UInt8)) (x y : List (List UInt8)), (∀ l ∈ a, (10 : UInt8) ∉ l) → (∀ l ∈ b, (10 : UInt8) ∉ l) → a.map furtherL ++ x = b.map furtherL ++ y → (∀ l, y.head? = some l → kindL l = 4) → ∃ r, b = a ++ r ∧ x = r.map furtherL ++ y
  | [], b, x, y, _, _, h, _ => ⟨b, rfl, h⟩
  | l :: a, [], x, y, ha, _, h, hy => by
    have : y = furtherL l :: (a.map furtherL ++ x) := h.symm
    have := hy (furtherL l) (by rw [this]; rfl)
    rw [further_kind (ha l List.mem_cons_self)] at this; cases this
  | l :: a, m :: b, x, y, ha, hb, h, hy => by
    injection h with h1 h2
    have e := further_inj h1
    subst e
    obtain ⟨r, e1, e2⟩ := more_prefix a b x y (fun z hz => ha z (List.mem_cons_of_mem _ hz)) (fun z hz => hb z (List.mem_cons_of_mem _ hz)) h2 hy
    exact ⟨r, by rw [e1]; rfl, e2⟩
theorem cut_fields : ∀ (fs gs : List Fld) (x : List (List UInt8)), (∀ f ∈ fs, goodKey f.1 = true ∧ f.2.length ≤ 1000) → (∀ f ∈ gs, goodKey f.1 = true ∧ f.2.length ≤ 1000) → linesFs fs ++ x = linesFs gs → Cut fs gs
  | [], gs, x, _, _, _ => trivial
  | f :: fs, [], x, hf, _, h => by
    unfold linesFs linesL at h
    rw [List.flatMap_cons] at h
    simp at h
  | f :: fs, g :: gs, x, hf, hg, h => by
    have e1 : linesFs (f :: fs) = firstL f.1 ((partsL f.2).headD []) :: ((partsL f.2).tail.map furtherL ++ linesFs fs) := by unfold linesFs; rw [List.flatMap_cons]; rfl
    have e2 : linesFs (g :: gs) = firstL g.1 ((partsL g.2).headD []) :: ((partsL g.2).tail.map furtherL ++ linesFs gs) := by unfold linesFs; rw [List.flatMap_cons]; rfl
    rw [e1, e2, List.cons_append] at h
    injection h with h1 h2
    have kf := (hf f List.mem_cons_self).1
    have kg := (hg g List.mem_cons_self).1
    obtain ⟨b1, d1⟩ := first_before (l := (partsL f.2).headD []) kf
    obtain ⟨b2, d2⟩ := first_before (l := (partsL g.2).headD []) kg
    rw [h1] at b1 d1
    have hkey : f.1 = g.1 := b1.symm.trans b2
    have hhead : (partsL f.2).headD [] = (partsL g.2).headD [] := d1.symm.trans d2
    rw [List.append_assoc] at h2
    have hgs : ∀ f ∈ gs, goodKey f.1 = true ∧ f.2.length ≤ 1000 := fun f hf => hg f (List.mem_cons_of_mem _ hf)
    have hfs : ∀ f ∈ fs, goodKey f.1 = true ∧ f.2.length ≤ 1000 := fun g hg => hf g (List.mem_cons_of_mem _ hg)
    obtain ⟨r, er, ex⟩ := more_prefix _ _ _ _ (tail_clean f.2) (tail_clean g.2) h2 (kinds_of hgs)
    have hval : ∃ z, g.2 = f.2 ++ z := by
      obtain ⟨z, hz⟩ := join_prefix (partsL f.2) r (partsL_ne _)
      refine ⟨z, ?_⟩
      have : partsL g.2 = partsL f.2 ++ r := by
        rw [partsL_cons g.2, partsL_cons f.2, er, hhead]; rfl
      rw [← partsL_join g.2, this, hz, partsL_join]
    refine ⟨hkey, hval, ?_⟩
    cases fs with
    | nil => trivial
    | cons f2 fs2 =>
      -- the next field's first line is no further line
      have hr : r = [] := by
        cases r with
        | nil => rfl
        | cons m r =>
          have e3 : linesFs (f2 :: fs2) = firstL f2.1 ((partsL f2.2).headD []) :: ((partsL f2.2).tail.map furtherL ++ linesFs fs2) := by unfold linesFs; rw [List.flatMap_cons]; rfl
          rw [e3] at ex
          injection ex with ex1 _
          have k1 := first_kind (l := (partsL f2.2).headD []) (hfs f2 List.mem_cons_self).1 (head_clean _)
          have hm : (10 : UInt8) ∉ m := tail_clean g.2 m (by rw [er]; simp)
          rw [ex1, further_kind hm] at k1; cases k1
      rw [hr] at ex
      exact cut_fields (f2 :: fs2) gs x hfs hgs ex
/-- All but the last are the same; of the last one fields may be missing, or the end of one. -/
theorem cut_batch : ∀ (l eds : List Ed) (x : List (List UInt8)), (∀ ed ∈ l, goodE ed = 0 ∧ I64 ed.id) → (∀ ed ∈ eds, goodE ed = 0 ∧ I64 ed.id) → l ≠ [] → batchLs l ++ x = batchLs eds →
    ∃ a e g r, l = a ++ [e] ∧ eds = a ++ g :: r ∧ e.kind = g.kind ∧ e.id = g.id ∧ Cut e.fields g.fields
  | [], _, _, _, _, h, _ => absurd rfl h
  | e :: l, [], x, _, _, _, h => by
    unfold batchLs at h
    rw [List.flatMap_cons] at h
    simp [edLs] at h
  | e :: l, g :: eds, x, hl, he, _, h => by
    have e1 : batchLs (e :: l) = lineA e.kind e.id :: ((linesFs e.fields).map ind2 ++ batchLs l) := by unfold batchLs; rw [List.flatMap_cons]; rfl
    have e2 : batchLs (g :: eds) = lineA g.kind g.id :: ((linesFs g.fields).map ind2 ++ batchLs eds) := by unfold batchLs; rw [List.flatMap_cons]; rfl
    rw [e1, e2, List.cons_append] at h
    injection h with h1 h2
    obtain ⟨ge, ie⟩ := hl e List.mem_cons_self
    obtain ⟨gg, ig⟩ := he g List.mem_cons_self
    obtain ⟨hk, hi⟩ := lineA_inj (goodE_kind ge) (goodE_kind gg) ie ig h1
    have hl' : ∀ ed ∈ l, goodE ed = 0 ∧ I64 ed.id := fun ed hm => hl ed (List.mem_cons_of_mem _ hm)
    have he' : ∀ ed ∈ eds, goodE ed = 0 ∧ I64 ed.id := fun ed hm => he ed (List.mem_cons_of_mem _ hm)
    have hhead : ∀ (es : List Ed), (∀ ed ∈ es, goodE ed = 0 ∧ I64 ed.id) → ∀ z, (batchLs es).head? = some z → headLine z = true := by
      intro es hes z hz
      cases es with
      | nil => simp [batchLs] at hz
      | cons y r =>
        unfold batchLs edLs at hz
        rw [List.flatMap_cons] at hz
        obtain rfl := Option.some.inj hz
        exact head_lineA (goodE_kind (hes y List.mem_cons_self).1)
    rw [List.append_assoc] at h2
    obtain ⟨r, er, ex⟩ := ind_prefix _ _ _ _ h2 (hhead eds he')
    have gfe := goodE_F ge
    have gfg := goodE_F gg
    cases l with
    | nil =>
      refine ⟨[], e, g, eds, rfl, rfl, hk, hi, ?_⟩
      exact cut_fields e.fields g.fields r gfe.each gfg.each er.symm
    | cons y l =>
      have hr : r = [] := by
        cases r with
        | nil => rfl
        | cons m r =>
          have hz := hhead (y :: l) hl' (ind2 m) (by
            have e3 : batchLs (y :: l) = lineA y.kind y.id :: ((linesFs y.fields).map ind2 ++ batchLs l) := by unfold batchLs; rw [List.flatMap_cons]; rfl
            rw [e3] at ex ⊢
            injection ex with ex1 _
            rw [ex1]; rfl)
          rw [head_ind] at hz; cases hz
      rw [hr] at ex er
      rw [List.append_nil] at er
      have hfs : e.fields = g.fields := by rw [← unfold_good gfe, ← unfold_good gfg, er]
      have heg : e = g := by
        cases e; cases g
        simp only at hk hi hfs
        subst hk hi hfs; rfl
      obtain ⟨a, e', g', r', q1, q2, q3, q4, q5⟩ := cut_batch (y :: l) eds x hl' he' (by simp) ex
      exact ⟨e :: a, e', g', r', by rw [q1]; rfl, by rw [q2, heg]; rfl, q3, q4, q5⟩
end Go.Proofs.YtkcklnnmcmjnjaaGreatDoor

namespace Go.Proofs.YtkcklnnmcmjnjaaGreatDoor
open Go.RowKit Go.Shelf
attribute [local go_sem] Oper.semAt_some

def txA : List UInt8 := [32, 105, 110, 115, 101, 114, 116, 32, 48, 10, 32, 32, 65, 58, 32, 49, 10, 32, 32, 32, 50, 10]
def edA0 : Ed := ⟨2, 7, []⟩
def edA1 : Ed := ⟨3, 0, [([65], [49, 10, 50])]⟩
theorem itoa7 : Lib.itoa 7 = [55] := by
  rw [show (7 : Int) = ((7 : Nat) : Int) from rfl, Lib.itoa_nonneg, Lib.decDigits_one (by decide)]; rfl
theorem itoa0 : Lib.itoa 0 = [48] := by
  rw [show (0 : Int) = ((0 : Nat) : Int) from rfl, Lib.itoa_nonneg, Lib.decDigits_one (by decide)]; rfl
theorem chkA0 : (chkB [edA0]).2 = 0 := by decide +kernel
theorem chkA1 : (chkB [edA1]).2 = 0 := by decide +kernel
theorem textA0 : batchT [edA0] = [32, 100, 101, 108, 101, 116, 101, 32, 55, 10] := by
  unfold batchT batchLs edLs edA0
  rw [List.flatMap_cons]
  unfold lineA
  rw [itoa7]; rfl
theorem textA1 : batchT [edA1] = txA := by
  unfold batchT batchLs edLs edA1
  rw [List.flatMap_cons]
  unfold lineA
  rw [itoa0]; rfl
theorem decA1 : decL txA = some [edA1] := decL_iff.2 ⟨by decide, chkA1, fun ed h => by rw [List.mem_singleton.1 h]; exact ⟨by decide, by decide⟩, textA1⟩
set_option maxRecDepth 100000 in
set_option maxHeartbeats 4000000 in
theorem aliveA_any (w : World) (hT : Tabs w) : Calls Tryz.prog 28 #[] w fun e w' => e = .returned (.bool true) ∧ Below w.heap.size w w' := by
  obtain ⟨wa, hwa⟩ : ∃ wa, wa = w.alloc (.cells #[.int .i64 2, .int .i64 7, .slice none 0 0] 33) := ⟨_, rfl⟩
  have hba : Below w.heap.size w wa := by rw [hwa]; exact (Below.refl _ w).alloc (Nat.le_refl _) _
  have cE : Cells wa w.heap.size 33 #[.int .i64 2, .int .i64 7, .slice none 0 0] := by rw [hwa]; exact Cells.new _ _ _
  have hV : EdV wa (.slice (some ⟨w.heap.size, 0, none⟩) 1 1) [edA0] := by
    refine ⟨_, 1, rfl, Nat.le_refl _, fun i ed hi => ?_⟩
    match i, hi with
    | 0, hi =>
      simp at hi; subst hi
      exact ⟨_, 0, .slice none 0 0, rfl, cE.lt, by rw [cE.cell]; rfl, by rw [cE.cell]; rfl, by rw [cE.cell]; rfl, ⟨none, 0, rfl, Nat.le_refl _, fun i f h => by simp [edA0] at h⟩, fun n c h => by cases h; rfl⟩
    | i + 1, hi => simp at hi
  have EN := encode_any [edA0] _ wa hV (by decide) (fun ed h => by rw [List.mem_singleton.1 h]; exact ⟨by decide, fun f hf => by cases hf⟩) (fun ed h => by rw [List.mem_singleton.1 h]; exact ⟨by decide, by decide⟩) (hT.below hba (Nat.le_refl _))
  have HEN := Lib.hid EN
  have HBA := Lib.hid hba
  have DE := Lib.hid (fun W (hW : Below w.heap.size w W) => decode_any txA (by decide) W (hT.below hW (Nat.le_refl _)))
  rw [show B txA = (⟨#[32, 105, 110, 115, 101, 114, 116, 32, 48, 10, 32, 32, 65, 58, 32, 49, 10, 32, 32, 32, 50, 10]⟩ : ByteArray) from rfl] at DE
  clear EN hba hV cE hT
  subst hwa
  go_enter Tryz.func28, Tryz.ntmps28
  go_wp2_with fail
  refine HEN.out.mono ?_
  rintro e w1 ⟨b1, ⟨_, rfl⟩ | ⟨hx, _⟩⟩
  rotate_left
  · exact absurd chkA0 hx
  rw [textA0, show B [32, 100, 101, 108, 101, 116, 101, 32, 55, 10] = (⟨#[32, 100, 101, 108, 101, 116, 101, 32, 55, 10]⟩ : ByteArray) from rfl]
  have B1 := Lib.hid (HBA.out.trans (b1.mono HBA.out.size))
  have DE1 := Lib.hid (DE.out w1 B1.out)
  clear HEN b1 DE
  go_wp2_with fail
  refine DE1.out.mono ?_
  rintro e w2 ⟨b2, ⟨hx, _⟩ | ⟨eds, u, fvs, hd, rfl, ho⟩⟩
  · rw [decA1] at hx; cases hx
  rw [decA1] at hd
  obtain rfl := Option.some.inj hd
  obtain ⟨A, cap, rfl, hle, hc⟩ := ho.edv
  obtain ⟨b, off, fv, rfl, hb, c0, c1, c2, hfl⟩ := hc 0 edA1 rfl
  obtain ⟨FA, fcap, rfl, hfle, hfc⟩ := hfl.1
  obtain ⟨fb, foff, rfl, hfb, d0, d1⟩ := hfc 0 ([65], [49, 10, 50]) rfl
  have B2 := Lib.hid (B1.out.trans (b2.mono B1.out.size))
  simp only [Nat.zero_mul, Nat.add_zero] at c2 d1
  rw [show B ([65], [49, 10, 50]).2 = (⟨#[49, 10, 50]⟩ : ByteArray) from rfl] at d1
  rw [show edA1.fields.length = 1 from rfl] at c2
  clear DE1 b2 hd ho hc hfl hfc c0 c1 d0
  simp only [List.length_cons, List.length_nil]
  go_wp2_with fail
  go_ret
  exact ⟨rfl, B2.out⟩
end Go.Proofs.YtkcklnnmcmjnjaaGreatDoor

namespace Go.Proofs.YtkcklnnmcmjnjaaGreatDoor
open Go.RowKit Go.Shelf
attribute [local go_sem] Oper.semAt_some

/-- A slice of stanzas, readable. -/
def Szs (w : World) (v : Value) (rs : List Stz) : Prop :=
  ∃ A cap, v = .slice A rs.length cap ∧ rs.length ≤ cap ∧ ∀ (i : Nat) (s : Stz), rs[i]? = some s → ∃ b off fv, A = some ⟨b, off, none⟩ ∧ b < w.heap.size ∧ w.cell? ⟨b, off + i * 2, none⟩ = some (.int .i64 s.1) ∧ w.cell? ⟨b, off + i * 2 + 1, none⟩ = some fv ∧ Flds w fv s.2
theorem Szs.below {w w' : World} {v : Value} {rs : List Stz} {n : Nat} (h : Szs w v rs) (hb : Below n w w') (hn : w.heap.size ≤ n) : Szs w' v rs := by
  obtain ⟨A, cap, hv, hle, hc⟩ := h
  refine ⟨A, cap, hv, hle, fun i s hi => ?_⟩
  obtain ⟨b, off, fv, hA, hlt, c0, c1, hf⟩ := hc i s hi
  have hlt' := Nat.lt_of_lt_of_le hlt hn
  exact ⟨b, off, fv, hA, Nat.lt_of_lt_of_le hlt hb.size, (hb.cell (p := ⟨b, off + i * 2, none⟩) hlt').trans c0, (hb.cell (p := ⟨b, off + i * 2 + 1, none⟩) hlt').trans c1, hf.below hb hn⟩
end Go.Proofs.YtkcklnnmcmjnjaaGreatDoor

namespace Go.Proofs.YtkcklnnmcmjnjaaGreatDoor
open Go.RowKit Go.Shelf
attribute [local go_sem] Oper.semAt_some

/-- The stanzas so far, of which each one's fields lie where they lay. -/
structure AccY (w wr : World) (v : Value) (fvs : List Value) (rs : List Stz) : Prop where
  row : wr.ownsRow w.heap.size 58 2 v rs.length (stzCells rs fvs)
  len : fvs.length = rs.length
  each : ∀ (j : Nat) s x, rs[j]? = some s → fvs[j]? = some x → Flds w x s.2
  below : Below w.heap.size w wr
theorem AccY.kept {w wr w2 : World} {v : Value} {fvs : List Value} {rs : List Stz} (h : AccY w wr v fvs rs) (hb : Below wr.heap.size wr w2) : AccY w w2 v fvs rs :=
  ⟨own_kept h.row hb (Nat.le_refl _), h.len, h.each, h.below.trans (hb.mono h.below.size)⟩
theorem AccY.snoc {w W W1 w3 : World} {v v' x : Value} {fvs : List Value} {rs : List Stz} {s : Stz} (h : AccY w W v fvs rs) (hx : Flds w x s.2) (ho : w3.ownsRow w.heap.size 58 2 v' (rs.length + 1) (stzCells rs fvs ++ [.int .i64 s.1, x])) (h1 : Below W.heap.size W W1) (hg : W1.grownBy w3 v.ownBlock) : AccY w w3 v' (fvs ++ [x]) (rs ++ [s]) := by
  have h' := h.kept h1
  refine ⟨by rw [List.length_append, stzCells_snoc _ _ _ _ h.len]; exact ho, by simp [h.len], fun j y z hy hz => ?_, h'.below.grown hg h'.below.size (fun k e => (h.row.lt k e).1)⟩
  rcases snoc_at hy with ⟨q, hy⟩ | ⟨q, rfl⟩
  · rw [List.getElem?_append_left (by rw [h.len]; exact q)] at hz
    exact h.each j y z hy hz
  · rw [q, ← h.len, List.getElem?_append_right (Nat.le_refl _)] at hz
    simp at hz
    subst hz; exact hx
end Go.Proofs.YtkcklnnmcmjnjaaGreatDoor

namespace Go.Proofs.YtkcklnnmcmjnjaaGreatDoor
open Go.RowKit Go.Shelf

end Go.Proofs.YtkcklnnmcmjnjaaGreatDoor

namespace Go.Proofs.YtkcklnnmcmjnjaaGreatDoor
open Go.RowKit Go.Shelf
attribute [local go_sem] Oper.semAt_some

end Go.Proofs.YtkcklnnmcmjnjaaGreatDoor

namespace Go.Proofs.YtkcklnnmcmjnjaaGreatDoor

/-- A blank line's item. -/
structure BlankI (it : It) : Prop where
  kind : it.kind = 1
  fields : it.fields = []
  raw : ∃ l, it.raw = l ++ [10] ∧ (10 : UInt8) ∉ l ∧ kindL l = 1
/-- An item that stands alone. -/
def Itm (it : It) : Prop := Blk it ∨ BlankI it

/-- What a run has made since its beginning isn't taken back. -/
def Made (n : Nat) (p : PS) : Prop := n ≤ p.items.length ∧ (n < p.items.length ∨ p.said ≠ [] ∨ p.fields ≠ [])
theorem Made.endField {n : Nat} {p : PS} (h : Made n p) : Made n (endFieldP p) := by
  unfold endFieldP
  split
  · exact h
  · exact ⟨h.1, .inr (.inr (by simp))⟩
theorem Made.went {n : Nat} {p : PS} (h : Made n p) (x : Ln) : Made n (wentP p x) := by
  unfold wentP
  split
  · exact ⟨h.1, .inr (.inl (by simp))⟩
  · exact h
theorem Made.then_ {n : Nat} {p : PS} (h : Made n p) (x : Ln) : Made n (thenP p x) := by
  unfold thenP
  split
  · exact (h.went x).endField
  · exact h.went x
theorem endBlock_more (t : List UInt8) (p : PS) (e : Nat) : p.items.length ≤ (endBlockP t p e).items.length := by
  unfold endBlockP
  split
  · exact Nat.le_refl _
  · split
    · simp [endItemP]
    · simp [endItemP]
theorem Made.put {n : Nat} {t : List UInt8} {p : PS} (h : Made n p) (x : Ln) : Made n (putP t p x) := by
  unfold putP
  split
  · exact ⟨h.1, .inr (.inl (by simp))⟩
  · split
    · have h1 := endBlock_more t p x.at_
      have h2 : (endItemP t (endBlockP t p x.at_) 1 (x.at_ + x.text.length + 1)).items.length = (endBlockP t p x.at_).items.length + 1 := by simp [endItemP]
      have h3 := h.1
      exact ⟨by omega, .inl (by omega)⟩
    · exact h
theorem Made.take {n : Nat} {t : List UInt8} {p q : PS} {x : Ln} (h : Made n p) (he : takeP t p x = .ok q) : Made n q := by
  obtain ⟨_, _, rfl⟩ := take_parts he
  exact (h.then_ x).put x
theorem Made.run {n : Nat} (t : List UInt8) : ∀ (xs : List Ln) (p q : PS), Made n p → runP t p xs = .ok q → Made n q
  | [], p, q, h, he => by cases he; exact h
  | x :: xs, p, q, h, he => by
    unfold runP at he
    cases ht : takeP t p x with
    | error e => rw [ht] at he; cases he
    | ok p1 =>
      rw [ht] at he
      exact Made.run t xs p1 q (h.take ht) he
theorem made_not {b st a n : Nat} {its : List It} (hn : its.length = n) : ¬ Made n ⟨b, [], its, st, a, []⟩ := by
  rintro ⟨_, h | h | h⟩
  · simp only at h; omega
  · exact h rfl
  · exact h rfl
theorem then_clean {b st a no c : Nat} {its : List It} {l : List UInt8} {e : Bool} (hk : kindL l ≠ 3) : thenP ⟨b, [], its, st, a, []⟩ ⟨no, c, l, e⟩ = ⟨b, [], its, st, a, []⟩ := by
  have hg : goesP ⟨b, [], its, st, a, []⟩ ⟨no, c, l, e⟩ = false := goes_kind hk
  unfold thenP wentP
  rw [hg]
  simp [endFieldP]
/-- Lines that make nothing do nothing, with however many stanzas behind them. -/
theorem run_notes {t : List UInt8} : ∀ (ts : List (List UInt8)) (b st a no c : Nat) (its : List It) (b' : Nat), runP t ⟨b, [], its, st, a, []⟩ (num no c ts) = .ok ⟨b', [], its, st, a, []⟩ →
    ∀ (t' : List UInt8) (b2 st2 a2 no2 c2 : Nat) (its2 : List It), runP t' ⟨b2, [], its2, st2, a2, []⟩ (num no2 c2 ts) = .ok ⟨b2, [], its2, st2, a2, []⟩
  | [], b, st, a, no, c, its, b', h, t', b2, st2, a2, no2, c2, its2 => rfl
  | l :: r, b, st, a, no, c, its, b', h, t', b2, st2, a2, no2, c2, its2 => by
    have h' : (match takeP t ⟨b, [], its, st, a, []⟩ ⟨no, c, l, true⟩ with | .error e => Except.error e | .ok q' => runP t q' (num (no + 1) (c + l.length + 1) r)) = .ok ⟨b', [], its, st, a, []⟩ := h
    cases ht : takeP t ⟨b, [], its, st, a, []⟩ ⟨no, c, l, true⟩ with
    | error e => rw [ht] at h'; cases h'
    | ok q =>
      rw [ht] at h'
      dsimp only at h'
      obtain ⟨g1, g2, hq⟩ := take_parts ht
      have hk3 : kindL l ≠ 3 := by
        intro e
        unfold wrongP goesP at g2
        simp [e] at g2
      have hk5 : kindL l ≠ 5 := by
        intro e
        unfold wrongP at g2
        simp [e] at g2
      rw [then_clean hk3] at hq
      have hk4 : kindL l ≠ 4 := by
        intro e
        have hm : Made its.length q := by
          rw [hq]; unfold putP
          rw [if_pos (by exact e)]
          exact ⟨Nat.le_refl _, .inr (.inl (by simp))⟩
        exact made_not rfl (Made.run t _ _ _ hm h')
      have hk1 : kindL l ≠ 1 := by
        intro e
        have hm : Made its.length q := by
          rw [hq]; unfold putP
          rw [if_neg (by exact hk4), if_pos (by exact e)]
          have h1 := endBlock_more t ⟨b, [], its, st, a, []⟩ c
          have h2 : (endItemP t (endBlockP t ⟨b, [], its, st, a, []⟩ c) 1 (c + l.length + 1)).items.length = (endBlockP t ⟨b, [], its, st, a, []⟩ c).items.length + 1 := by simp [endItemP]
          simp only at h1
          exact ⟨by show its.length ≤ (endItemP t (endBlockP t ⟨b, [], its, st, a, []⟩ c) 1 (c + l.length + 1)).items.length; omega, .inl (by show its.length < (endItemP t (endBlockP t ⟨b, [], its, st, a, []⟩ c) 1 (c + l.length + 1)).items.length; omega)⟩
        exact made_not rfl (Made.run t _ _ _ hm h')
      have hput : ∀ (t : List UInt8) (p : PS) (no c : Nat), putP t p ⟨no, c, l, true⟩ = p := fun t p no c => by
        unfold putP
        rw [if_neg (by exact hk4), if_neg (by exact hk1)]
      rw [hput] at hq
      subst hq
      have ih := run_notes r b st a (no + 1) (c + l.length + 1) its b' h' t' b2 st2 a2 (no2 + 1) (c2 + l.length + 1) its2
      have tk := take_else (t := t') (p := ⟨b2, [], its2, st2, a2, []⟩) (no := no2) (c := c2) hk3 hk5 rfl
      rw [show endFieldP ⟨b2, [], its2, st2, a2, []⟩ = ⟨b2, [], its2, st2, a2, []⟩ from rfl, hput] at tk
      show runP t' _ (⟨no2, c2, l, true⟩ :: num (no2 + 1) (c2 + l.length + 1) r) = _
      rw [run_cons tk]
      exact ih
/-- A block that stands alone, wherever it stands. -/
theorem Blk.here {it : It} (h : Blk it) : ∃ ts said fields, it.raw = textL ts ∧ (∀ l ∈ ts, (10 : UInt8) ∉ l) ∧ ∀ (t : List UInt8) (b st a no c e : Nat) (its : List It), (it.kind = 3 → st ≤ 399) → (t.take e).drop a = it.raw → a < e →
    ∃ b', runP t ⟨b, [], its, st, a, []⟩ (num no c ts) = .ok ⟨b', said, its, st, a, fields⟩ ∧ endFieldN ⟨b', said, its, st, a, fields⟩ = 0 ∧ endBlockP t (endFieldP ⟨b', said, its, st, a, fields⟩) e = ⟨b', [], its ++ [it], st + (if it.kind = 3 then 1 else 0), e, []⟩ := by
  obtain ⟨kind, raw, fs⟩ := it
  have hk := h.kind
  obtain ⟨ts, said, fields, d1, d2, d3, d4, d5⟩ := h.does
  dsimp only at hk d1 d5 ⊢
  by_cases hf : fs = []
  · rw [if_pos hf] at hk
    subst hf hk
    have hs : said = [] ∧ fields = [] := by
      unfold endFieldP at d5
      split at d5
      · rename_i hs; exact ⟨hs, d5⟩
      · simp at d5
    obtain ⟨rfl, rfl⟩ := hs
    obtain ⟨b0, h0⟩ := d3 [] 0 0 0 0 0 [] (by decide)
    refine ⟨ts, [], [], d1, d2, fun t b st a no c e its _ hr hae => ⟨b, run_notes ts 0 0 0 0 0 [] b0 h0 t b st a no c its, rfl, ?_⟩⟩
    rw [show endFieldP ⟨b, [], its, st, a, []⟩ = ⟨b, [], its, st, a, []⟩ from rfl]
    unfold endBlockP
    rw [if_neg (by show ¬ a = e; omega), if_pos (show (⟨b, [], its, st, a, []⟩ : PS).fields.length = 0 from rfl)]
    unfold endItemP
    dsimp only
    rw [hr]; rfl
  · rw [if_neg hf] at hk
    subst hk
    refine ⟨ts, said, fields, d1, d2, fun t b st a no c e its hst hr hae => ?_⟩
    obtain ⟨b', hrun⟩ := d3 t b st a no c its (hst rfl)
    have e0 := mv_endFieldN b' st a its ⟨0, said, [], 0, 0, fields⟩ (hst rfl) d4
    have e1 := mv_endField b' st a its ⟨0, said, [], 0, 0, fields⟩
    refine ⟨b', hrun, e0, ?_⟩
    rw [show (⟨b', said, its, st, a, fields⟩ : PS) = mv b' st a its ⟨0, said, [], 0, 0, fields⟩ from rfl, e1]
    have es := endField_said ⟨0, said, [], 0, 0, fields⟩
    generalize endFieldP ⟨0, said, [], 0, 0, fields⟩ = p at *
    unfold endBlockP
    rw [show (mv b' st a its p).at_ = a from rfl, show (mv b' st a its p).fields = p.fields from rfl, d5, if_neg (by omega), if_neg (fun q => hf (List.length_eq_zero_iff.1 q))]
    show (⟨b', p.said, its ++ [⟨3, (t.take e).drop a, p.fields⟩], st + 1, e, []⟩ : PS) = _
    rw [es, hr, d5]; rfl
/-- Of what is parsed: its blank lines. -/
structure MidB (t : List UInt8) (p : PS) (c : Nat) : Prop where
  at_ : p.at_ ≤ c
  bl : ∀ it ∈ p.items, it.kind = 1 → BlankI it
  cur : p.at_ = c → p.fields = [] ∧ p.said = []
theorem MidB.endBlock {t : List UInt8} {p : PS} {c : Nat} (h : MidB t p c) : (∀ it ∈ (endBlockP t (endFieldP p) c).items, it.kind = 1 → BlankI it) ∧ (endBlockP t (endFieldP p) c).fields = [] := by
  unfold endBlockP
  rw [endField_at]
  split
  · rename_i hac
    obtain ⟨h1, h2⟩ := h.cur hac
    refine ⟨by rw [endField_items]; exact h.bl, ?_⟩
    unfold endFieldP
    rw [if_pos h2]; exact h1
  · have key : ∀ (k : Nat), k ≠ 1 → ∀ it ∈ (endItemP t (endFieldP p) k c).items, it.kind = 1 → BlankI it := by
      intro k hk it hi h1
      rcases List.mem_append.1 (show it ∈ (endFieldP p).items ++ [_] from hi) with q | q
      · rw [endField_items] at q; exact h.bl it q h1
      · rw [List.mem_singleton.1 q] at h1
        exact absurd (show ((k : Nat) : Int) = 1 from h1) (by omega)
    split
    · exact ⟨key 2 (by decide), rfl⟩
    · exact ⟨key 3 (by decide), rfl⟩
theorem MidB.take {t : List UInt8} {p q : PS} {x : Ln} (h : MidB t p x.at_) (hen : x.ended = true) (hcl : (10 : UInt8) ∉ x.text) (hrest : ∃ r, t.drop x.at_ = x.bytes ++ r) (hct : x.at_ ≤ t.length) (he : takeP t p x = .ok q) : MidB t q (x.at_ + x.bytes.length) := by
  have hat := h.at_
  obtain ⟨r, hr⟩ := hrest
  have hb : x.bytes = x.text ++ [10] := by unfold Ln.bytes; rw [hen]; simp
  have hbl : x.bytes.length = x.text.length + 1 := by rw [hb]; simp
  by_cases hk : kindL x.text = 1
  · obtain ⟨g1, _, rfl⟩ := take_parts he
    have hg : goesP p x = false := goes_kind (by omega)
    have hw : wentP p x = p := by unfold wentP; rw [hg]; rfl
    have hE : endsP p x = true := by unfold endsP; rw [hg]; simp
    have hth : thenP p x = endFieldP p := by unfold thenP; rw [hE, hw]; rfl
    obtain ⟨l1, l2⟩ := h.endBlock
    have ha : (endBlockP t (endFieldP p) x.at_).at_ = x.at_ := endBlock_at t _ _ (by rw [endField_at]; exact hat)
    unfold putP
    rw [if_neg (by omega), if_pos hk, hth]
    refine ⟨by show x.at_ + x.text.length + 1 ≤ _; omega, fun it hi h1 => ?_, fun _ => ⟨rfl, ?_⟩⟩
    · rcases List.mem_append.1 (show it ∈ (endBlockP t (endFieldP p) x.at_).items ++ [_] from hi) with hi | hi
      · exact l1 it hi h1
      · rw [List.mem_singleton.1 hi]
        refine ⟨rfl, l2, x.text, ?_, hcl, hk⟩
        show (t.take (x.at_ + x.text.length + 1)).drop (endBlockP t (endFieldP p) x.at_).at_ = _
        rw [ha, Nat.add_assoc, List.take_add, hr, ← hbl, List.drop_append_of_le_length (by rw [List.length_take]; omega), List.drop_of_length_le (by rw [List.length_take]; omega), List.take_left' rfl, hb]; rfl
    · show (endBlockP t (endFieldP p) x.at_).said = []
      rw [endBlock_said, endField_said]
  · obtain ⟨k1, k2, k3⟩ := take_keeps hk he
    exact ⟨by rw [k3]; omega, by rw [k1]; exact h.bl, fun q => by rw [k3] at q; omega⟩
theorem MidB.run (t : List UInt8) : ∀ (xs : List Ln) (no c : Nat) (p q : PS), Runs no c xs → no ≤ c → Inv p c → MidB t p c → t.drop c = xs.flatMap Ln.bytes → c ≤ t.length → (∀ x ∈ xs, (10 : UInt8) ∉ x.text) → runP t p xs = .ok q → MidB t q t.length
  | [], no, c, p, q, _, _, _, hm, hr, hct, _, he => by
    cases he
    have : c = t.length := by
      have := congrArg List.length hr
      simp at this; omega
    rw [← this]; exact hm
  | x :: xs, no, c, p, q, hrun, hn, hi, hm, hr, hct, hcl, he => by
    obtain ⟨r1, r2, r3, r4⟩ := hrun
    unfold runP at he
    cases ht : takeP t p x with
    | error e => rw [ht] at he; cases he
    | ok p1 =>
      rw [ht] at he
      dsimp only at he
      rw [List.flatMap_cons] at hr
      rw [← r2] at hi hm hr hct
      obtain ⟨i1, e1⟩ := Inv.take hi (by omega) ht
      have m1 := hm.take e1 (hcl x List.mem_cons_self) ⟨_, hr⟩ hct ht
      have hr2 : t.drop (x.at_ + x.bytes.length) = xs.flatMap Ln.bytes := by
        rw [← List.drop_drop, hr]; simp
      have hct2 : x.at_ + x.bytes.length ≤ t.length := by
        have := congrArg List.length hr
        simp only [List.length_drop, List.length_append] at this
        omega
      rw [r2] at i1 m1 hr2 hct2
      exact MidB.run t xs (no + 1) (c + x.bytes.length) p1 q r4 (by omega) i1 m1 hr2 hct2 (fun y hy => hcl y (List.mem_cons_of_mem _ hy)) he
end Go.Proofs.YtkcklnnmcmjnjaaGreatDoor

namespace Go.Proofs.YtkcklnnmcmjnjaaGreatDoor
open Go.RowKit Go.Shelf

/-- Entries whose items stand alone. -/
def ItmL (es : List En) : Prop := ∀ e ∈ es, Itm e.1
theorem ItmL.edit {l : LS} (h : ItmL l.es) (kind id : Int) (fs : List Fld) : ItmL (editR l kind id fs).ls.es := fun e he => by
  rcases edit_mem l kind id fs e he with q | ⟨q, hc⟩
  · exact h e q
  · rw [q]; exact .inl (blk_item hc)
end Go.Proofs.YtkcklnnmcmjnjaaGreatDoor

namespace Go.Proofs.YtkcklnnmcmjnjaaGreatDoor
open Go.RowKit Go.Shelf

end Go.Proofs.YtkcklnnmcmjnjaaGreatDoor

namespace Go.Proofs.YtkcklnnmcmjnjaaGreatDoor
open Go.RowKit Go.Shelf
attribute [local go_sem] Oper.semAt_some

theorem Mine.below {lo n : Nat} {w w' : World} {v : Value} (h : Mine w lo v n) (hb : Below w.heap.size w w') : Mine w' lo v n := by
  rcases h with h | ⟨g, cap, cur, e, h0, h1, h2, h3⟩
  · exact .inl h
  · have hg : g < w.heap.size := (Array.getElem?_eq_some_iff.1 h2).1
    exact .inr ⟨g, cap, cur, e, h0, h1, (hb.block g hg).trans h2, h3⟩
theorem itsP_E (ps : List Pr) : itsP ps = (ps.map Prod.fst).map Prod.fst := by unfold itsP; rw [List.map_map]; rfl
structure StandIn (w : World) (lb : Nat) (ev v : Value) (ps qs : List Pr) (nx : Int) : Prop where
  st : StR w lb ev ps nx v qs
  es : qs.map Prod.fst = ps.map Prod.fst
  wf : WF (ps.map Prod.fst)
  nd : (nums (ps.map Prod.fst)).Nodup
  ok : EntsOk ps
  nx : -1000000 ≤ nx ∧ nx ≤ 1000000
theorem StandIn.below {w w' : World} {lb : Nat} {ev v : Value} {ps qs : List Pr} {nx : Int} {N : Nat} (h : StandIn w lb ev v ps qs nx) (hb : Below N w w') (hN : w.heap.size ≤ N) : StandIn w' lb ev v ps qs nx :=
  ⟨h.st.below hb hN, h.es, h.wf, h.nd, h.ok, h.nx⟩
theorem StandIn.its {w : World} {lb : Nat} {ev v : Value} {ps qs : List Pr} {nx : Int} (h : StandIn w lb ev v ps qs nx) : itsP qs = itsP ps := by
  rw [itsP_E, itsP_E, h.es]
-- the calls, in whatever world behind
section
variable {w : World} {lb : Nat} {ev v : Value} {ps qs : List Pr} {nx : Int}
end
end Go.Proofs.YtkcklnnmcmjnjaaGreatDoor

namespace Go.Proofs.YtkcklnnmcmjnjaaGreatDoor

end Go.Proofs.YtkcklnnmcmjnjaaGreatDoor

namespace Go.Proofs.YtkcklnnmcmjnjaaGreatDoor
open Go.RowKit Go.Shelf
attribute [local go_sem] Oper.semAt_some

end Go.Proofs.YtkcklnnmcmjnjaaGreatDoor

namespace Go.Proofs.YtkcklnnmcmjnjaaGreatDoor
open Go.RowKit Go.Shelf
attribute [local go_sem] Oper.semAt_some

/-- Numbers that can be read. -/
def NumsV (w : World) (v : Value) (zs : List Int) : Prop :=
  ∃ A cap, v = .slice A zs.length cap ∧ zs.length ≤ cap ∧ ∀ (i : Nat) (z : Int), zs[i]? = some z → ∃ b off, A = some ⟨b, off, none⟩ ∧ b < w.heap.size ∧ w.cell? ⟨b, off + i, none⟩ = some (.int .i64 z)
theorem NumsV.below {w w' : World} {v : Value} {zs : List Int} {n : Nat} (h : NumsV w v zs) (hb : Below n w w') (hn : w.heap.size ≤ n) : NumsV w' v zs := by
  obtain ⟨A, cap, e, hle, hc⟩ := h
  refine ⟨A, cap, e, hle, fun i z hi => ?_⟩
  obtain ⟨b, off, e1, hbb, c0⟩ := hc i z hi
  exact ⟨b, off, e1, Nat.lt_of_lt_of_le hbb hb.size, (hb.cell (p := ⟨b, off + i, none⟩) (by show b < n; omega)).trans c0⟩
theorem edRow_len : ∀ (a : List Ed) (fa : List Value), fa.length = a.length → (edRow a fa).length = a.length * 3
  | [], [], _ => rfl
  | x :: a, y :: fa, h => by
    have := edRow_len a fa (by simpa using h)
    show (_ :: _ :: _ :: edRow a fa).length = _
    simp only [List.length_cons, this]; omega
  | [], _ :: _, h => by simp at h
  | _ :: _, [], h => by simp at h
end Go.Proofs.YtkcklnnmcmjnjaaGreatDoor

namespace Go.Proofs.YtkcklnnmcmjnjaaGreatDoor
open Go.RowKit Go.Shelf Go.Maps Go.ChangeShapes Go.Joins Go.WideShapes

theorem wf_I64 {n : Int} (h : (Lit.int IntKind.i64 n).wf = true) : I64 n := by
  unfold Lit.wf at h
  rw [Bool.and_eq_true] at h
  exact ⟨by have := of_decide_eq_true h.1; exact this, by have := of_decide_eq_true h.2; exact this⟩
set_option maxRecDepth 100000 in
theorem edit_inB {H : Type} {enc : TypeId × Value → H} {W : World} {base : Nat} {sp : Nat → Bool} {held : Bool} {fuel : Nat} {cs : List Value} {x : DataW H × List MemPlace} (h : DataW.trod enc Tryz.prog W base sp held fuel 33 cs = some x) :
    ∃ k i fv, cs = [.int .i64 k, .int .i64 i, fv] ∧ I64 i := by
  obtain ⟨xs, m, _, _, hl, hxl, hf⟩ := DataW.trod_struct Tryz.underlying33 h
  have hl2 : cs.length = 3 := hl.trans (by kernel_rfl)
  obtain ⟨c0, c1, c2, rfl⟩ := cells3 hl2
  have k3 : Tryz.prog.cellsOf 3 = 1 := by kernel_rfl
  have hx : ∀ i, i < 3 → ∃ y, xs[i]? = some y := fun i hi => ⟨_, List.getElem?_eq_getElem (by rw [hxl]; exact hi)⟩
  obtain ⟨y0, e0⟩ := hx 0 (by decide)
  obtain ⟨y1, e1⟩ := hx 1 (by decide)
  have q0 : DataW.trod enc Tryz.prog W base sp held m 3 (List.take (Tryz.prog.cellsOf 3) [c0, c1, c2]) = _ := hf 0 _ rfl
  have q1 : DataW.trod enc Tryz.prog W base sp held m 3 (List.take (Tryz.prog.cellsOf 3) [c1, c2]) = _ := hf 1 _ rfl
  rw [k3, e0] at q0
  rw [k3, e1] at q1
  obtain ⟨kind, f0, _, _⟩ := DataW.trod_int Tryz.underlying3 q0
  obtain ⟨id, f1, _, hw⟩ := DataW.trod_int Tryz.underlying3 q1
  simp at f0 f1
  subst f0 f1
  exact ⟨kind, id, c2, rfl, wf_I64 hw⟩
set_option maxRecDepth 100000 in
theorem edits_inB {H : Type} {enc : TypeId × Value → H} {W : World} {base : Nat} {sp : Nat → Bool} {held : Bool} {fuel : Nat} {v : Value} {x : DataW H × List MemPlace} (h : DataW.trod enc Tryz.prog W base sp held fuel 22 [v] = some x) :
    ∃ eds, EdsIn W v eds ∧ ∀ ed ∈ eds, I64 ed.id := by
  obtain ⟨eds, hE⟩ := edits_in h
  refine ⟨eds, hE, fun ed hm => ?_⟩
  obtain ⟨i, hi, e⟩ := List.mem_iff_getElem.1 hm
  have he : eds[i]? = some ed := by rw [List.getElem?_eq_getElem hi, e]
  obtain ⟨_, A, cap, rfl, hle, hc⟩ := hE
  obtain ⟨b, off, fv, rfl, hb, c0, c1, c2, _⟩ := hc i ed he
  rcases DataW.trod_slice Tryz.underlying22 h with ⟨q, _⟩ | ⟨a, len, cap', elems, rest, n, _, q, _, _, hl, hm', hlen, hel, _, _⟩
  · simp at q
  · obtain ⟨rfl, rfl, rfl⟩ : a = ⟨b, off, none⟩ ∧ len = eds.length ∧ cap' = cap := by
      simp at q
      obtain ⟨q1, q2, q3⟩ := q
      exact ⟨q1.symm, q2.symm, q3.symm⟩
    have k3 : Tryz.prog.cellsOf 33 = 3 := by kernel_rfl
    have h1 := hel i hi
    rw [k3, List.getElem?_eq_getElem (by omega)] at h1
    obtain ⟨cs, hcs, ht⟩ := Option.bind_eq_some_iff.1 h1
    obtain ⟨k, z, fv', rfl, hz⟩ := edit_inB ht
    obtain ⟨_, _, hat⟩ := World.cells?_some hcs
    have d1 := hat 1 (by decide)
    rw [WideShapes.add_plain] at d1
    have e2 : some (Value.int .i64 ed.id) = some (.int .i64 z) := by rw [← c1]; simpa [WideShapes.add_plain] using d1
    have : ed.id = z := by injection e2 with e2; injection e2
    rw [this]; exact hz
set_option maxRecDepth 100000 in
/-- An edit that came in by itself. -/
theorem edit_of {H : Type} {enc : TypeId × Value → H} (v : Value) (d : DataW H) (p : List MemPlace) (W : World) {b0 : Nat} (hval : Value.okWide Tryz.prog W .any b0 33 v) {base : Nat} {sp : Nat → Bool} {held : Bool} (h : DataW.Trod enc Tryz.prog W base sp held 33 v d p) :
    ∃ k i fv, v = .agg #[.int .i64 k, .int .i64 i, fv] ∧ I64 i := by
  obtain ⟨c0, c1, c2, y0, y1, y2, n, rfl, _, _, h0, h1, h2⟩ := open_agg3 Tryz.underlying33 (by kernel_rfl) (by kernel_rfl) hval h
  obtain ⟨k, e0, _, _⟩ := DataW.trod_int Tryz.underlying3 h0
  obtain ⟨i, e1, _, w1⟩ := DataW.trod_int Tryz.underlying3 h1
  simp at e0 e1
  subst e0 e1
  exact ⟨k, i, c2, rfl, wf_I64 w1⟩
end Go.Proofs.YtkcklnnmcmjnjaaGreatDoor

