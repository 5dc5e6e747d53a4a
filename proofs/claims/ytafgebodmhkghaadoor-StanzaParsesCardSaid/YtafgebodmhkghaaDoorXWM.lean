/- Split by definition: the slice of a text's lines. -/
import Derived.Test.YtafgebodmhkghaaDoorBase4
import Derived.OwnWalk
import Derived.Laws.AppendOwn
set_option linter.unusedVariables false
namespace Go.Proofs.YtafgebodmhkghaaDoor
open Go.RowKit Go.Shelf

theorem head_at : ∀ (l : List UInt8) (k : Nat), l[k]? = some 10 → (∀ j, j < k → l[j]? ≠ some 10) → head l = l.take k ∧ nl l = true ∧ used l = k + 1
  | [], k, h, _ => by simp at h
  | a :: t, 0, h, _ => by
    have : a = 10 := by simpa using h
    subst this
    exact ⟨rfl, rfl, rfl⟩
  | a :: t, k + 1, h, hn => by
    have ha : a ≠ 10 := fun e => hn 0 (by omega) (by rw [e]; rfl)
    obtain ⟨h1, h2, h3⟩ := head_at t k (by simpa using h) (fun j hj => by have := hn (j + 1) (by omega); simpa using this)
    have e1 : head (a :: t) = a :: head t := by simp [head, ha]
    have e2 : nl (a :: t) = nl t := by simp [nl, Ne.symm ha]
    refine ⟨by rw [e1, h1]; rfl, by rw [e2, h2], ?_⟩
    unfold used at h3 ⊢
    rw [e1, e2, List.length_cons]; omega
theorem head_none : ∀ (l : List UInt8), (∀ j : Nat, l[j]? ≠ some 10) → head l = l ∧ nl l = false ∧ used l = l.length
  | [], _ => ⟨rfl, rfl, rfl⟩
  | a :: t, hn => by
    have ha : a ≠ 10 := fun e => hn 0 (by rw [e]; rfl)
    obtain ⟨h1, h2, h3⟩ := head_none t (fun j => by have := hn (j + 1); simpa using this)
    have e1 : head (a :: t) = a :: head t := by simp [head, ha]
    have e2 : nl (a :: t) = nl t := by simp [nl, Ne.symm ha]
    refine ⟨by rw [e1, h1], by rw [e2, h2], ?_⟩
    unfold used at h3 ⊢
    rw [e1, e2, List.length_cons]; simp only [List.length_cons]; omega

/-- What the slice of the lines holds. -/
def cellsOf (xs : List Ln) : List Value := xs.flatMap fun x => (lineV x).toList
theorem cellsOf_snoc (xs : List Ln) (x : Ln) : cellsOf (xs ++ [x]) = cellsOf xs ++ (lineV x).toList := by unfold cellsOf; simp

theorem lineV_len (x : Ln) : (lineV x).toList.length = 4 := rfl
theorem cellsOf_at : ∀ (pre : List Ln) (x : Ln) (post : List Ln) (j : Nat), j < 4 → (cellsOf (pre ++ x :: post))[pre.length * 4 + j]? = (lineV x).toList[j]?
  | [], x, post, j, hj => by
    show ((lineV x).toList ++ cellsOf post)[_]? = _
    rw [List.getElem?_append_left (by rw [lineV_len]; simp; omega)]; simp
  | y :: pre, x, post, j, hj => by
    show ((lineV y).toList ++ cellsOf (pre ++ x :: post))[_]? = _
    rw [List.getElem?_append_right (by rw [lineV_len]; simp; omega), lineV_len]
    rw [show (y :: pre).length * 4 + j - 4 = pre.length * 4 + j by simp; omega]
    exact cellsOf_at pre x post j hj
theorem info30 : (Tryd.prog.info? 80).map (fun i => (i.zero, i.size, i.bytes)) = some (some (.agg #[.int .i64 0, .int .i64 0, .string ⟨#[]⟩, .bool false]), 4, 40) := by kernel_rfl

/-- A line, laid in a block of its own ahead of an append. -/
theorem lineCells (W : World) (x : Ln) (t : TypeId) : ∀ j u, (lineV x).toList[j]? = some u → (W.alloc (.cells (lineV x) t)).cell? ((⟨W.heap.size, 0, none⟩ : Addr).add j) = some u := by
  intro j u h
  have hadd : (⟨W.heap.size, 0, none⟩ : Addr).add j = ⟨W.heap.size, j, none⟩ := by unfold Addr.add; split <;> simp_all
  rw [hadd]
  have := (Cells.new W t (lineV x)).cell j
  rw [this]
  simpa using h

theorem extract_eq (s : ByteArray) (a b : Nat) : s.extract a b = ⟨((s.data.toList.drop a).take (b - a)).toArray⟩ := by
  rw [← Lib.mk_data (s.extract a b), Lib.extract_data]
/-- The state of the loop behind k bytes. -/
structure Upto (l : List UInt8) (k at_ : Nat) (pre : List Ln) : Prop where
  split : linesOf l = pre ++ linesOn pre.length at_ (l.drop at_)
  le : at_ ≤ k
  none : ∀ j, at_ ≤ j → j < k → l[j]? ≠ some 10
  short : pre.length ≤ at_
theorem Upto.start (l : List UInt8) : Upto l 0 0 [] := ⟨rfl, Nat.le_refl _, fun j _ h => absurd h (Nat.not_lt_zero j), Nat.le_refl _⟩
theorem Upto.step {l : List UInt8} {k at_ : Nat} {pre : List Ln} (h : Upto l k at_ pre) (hk : l[k]? ≠ some 10) : Upto l (k + 1) at_ pre :=
  ⟨h.split, Nat.le_succ_of_le h.le, fun j a b => by
    by_cases e : j = k
    · subst e; exact hk
    · exact h.none j a (by omega), h.short⟩
theorem Upto.line {l : List UInt8} {k at_ : Nat} {pre : List Ln} (h : Upto l k at_ pre) (hk : l[k]? = some 10) :
    Upto l (k + 1) (k + 1) (pre ++ [⟨pre.length, at_, (l.drop at_).take (k - at_), true⟩]) := by
  have hle := h.le
  have h1 : (l.drop at_)[k - at_]? = some 10 := by rw [List.getElem?_drop, show at_ + (k - at_) = k by omega]; exact hk
  have h2 : ∀ j, j < k - at_ → (l.drop at_)[j]? ≠ some 10 := fun j hj => by rw [List.getElem?_drop]; exact h.none _ (by omega) (by omega)
  obtain ⟨a, b, c⟩ := head_at _ _ h1 h2
  have hne : l.drop at_ ≠ [] := by intro e; rw [e] at h1; simp at h1
  have hs := h.split
  rw [linesOn_cons _ _ _ hne, a, b, c, List.drop_drop, show at_ + (k - at_ + 1) = k + 1 by omega] at hs
  refine ⟨?_, Nat.le_refl _, fun j x y => by omega, by rw [List.length_append]; have := h.short; simp; omega⟩
  rw [hs, List.append_assoc, List.length_append]; rfl
theorem Upto.last {l : List UInt8} {k at_ : Nat} {pre : List Ln} (h : Upto l k at_ pre) (hk : k = l.length) :
    linesOf l = if at_ < l.length then pre ++ [⟨pre.length, at_, l.drop at_, false⟩] else pre := by
  have hs := h.split
  by_cases hlt : at_ < l.length
  · rw [if_pos hlt]
    have hne : l.drop at_ ≠ [] := by intro e; have := congrArg List.length e; simp at this; omega
    have h2 : ∀ j : Nat, (l.drop at_)[j]? ≠ some 10 := fun j => by
      rw [List.getElem?_drop]
      by_cases q : at_ + j < k
      · exact h.none _ (by omega) q
      · rw [List.getElem?_eq_none (by omega)]; simp
    obtain ⟨a, b, c⟩ := head_none _ h2
    rw [linesOn_cons _ _ _ hne, a, b, c, List.drop_length, linesOn_nil] at hs
    exact hs
  · rw [if_neg hlt]
    rw [List.drop_of_length_le (by omega), linesOn_nil, List.append_nil] at hs
    exact hs

set_option maxHeartbeats 2000000 in
theorem refSplit_any (s : ByteArray) (hs : s.size ≤ 1000000) (w : World) :
    Calls Tryd.prog 43 #[.string s] w fun e w' => ∃ v, e = .returned v ∧ w'.ownsRow w.heap.size 80 4 v (linesOf s.data.toList).length (cellsOf (linesOf s.data.toList)) ∧ Below w.heap.size w w' := by
  have N5 := Lib.hid (Lib.size_eq s)
  obtain ⟨i0, hi, hz0, hz1, hz2⟩ := info_parts info30
  go_enter Tryd.func43, Tryd.ntmps43
  go_wp2
  go_loopw [3, 4, 5] (fun v a i wr => ∃ (k at_ : Nat) (pre : List Ln), k ≤ s.size ∧ i = .int .i64 k ∧ a = .int .i64 at_ ∧ Upto s.data.toList k at_ pre ∧ (∃ ao cap, v = .slice ao pre.length cap ∧ wr.ownsRow w.heap.size 80 4 (.slice ao pre.length cap) pre.length (cellsOf pre)) ∧ Below w.heap.size w wr)
    (fun _ _ i _ => s.size - (intOf i).toNat)
  case atStart => exact ⟨0, 0, [], Nat.zero_le _, rfl, rfl, Upto.start _, ⟨none, 0, rfl, World.ownsRow_nil _ _ _ _⟩, Below.refl _ _⟩
  case round =>
    obtain ⟨k, at_, pre, hk, rfl, rfl, hu, ⟨ao, cap, rfl, hown⟩, hb⟩ := hrel
    by_cases hlt : k < s.size
    · have e : s.data.toList[k]? = some s[k] := by
        rw [List.getElem?_eq_getElem (by rw [← Lib.size_eq]; exact hlt)]; rfl
      have E := Lib.hid e
      clear e
      have q2 := byte_eq (c := s[k]) (d := 10) 10 rfl
      cases h5 : (s[k] == 10) with
      | false =>
        rw [h5] at q2
        have hu' := hu.step (k := k) (by rw [E.out]; simpa using h5)
        go_wp2
        go_roundw
        case rel => exact ⟨k + 1, at_, pre, hlt, by go_num, rfl, hu', ⟨ao, cap, rfl, hown⟩, hb⟩
        case measure => simp [intOf]; omega
      | true =>
        rw [h5] at q2
        have hu' := hu.line (k := k) (by rw [E.out]; simpa using h5)
        have he := extract_eq s at_ k
        generalize (s.data.toList.drop at_).take (k - at_) = tx at *
        have z1 := hu.le
        have z2 := hu.short
        have hc := lineCells wr ⟨pre.length, at_, tx, true⟩ 80
        dsimp only [lineV] at hc
        have HC := Lib.hid hc
        clear hc
        go_wp2_with (at_builtin; refine wpList_append_own _ rfl _ _ 76 rfl w.heap.size 80 i0 _ 4 40 Tryd.underlying76 hi hz0 hz1 hz2 rfl (by decide) _ _ _ rfl (hown.alloc _) ⟨wr.heap.size, 0, none⟩ 1 1 _ rfl rfl HC.out ?c2 ?c3 ?c4 ?c5 ?_)
        case c2 => intro u hu; simp at hu; rcases hu with rfl | rfl | rfl | rfl <;> rfl
        case c3 => unfold maxLen; omega
        case c4 => omega
        case c5 => have := hb.size; simp; omega
        intro v' w1 hown' hgrow _
        obtain ⟨g', cap', rfl⟩ := ownsRow_succ hown'
        have hb1 : Below w.heap.size w w1 := (hb.alloc hb.size _).grown hgrow (by have := hb.size; simp; omega) (fun j ej => (hown.lt j ej).1)
        go_wp2
        go_roundw
        case rel =>
          refine ⟨k + 1, k + 1, _, hlt, by go_num, by go_num, hu', ⟨some ⟨g', 0, none⟩, cap', ?_, ?_⟩, hb1⟩
          · rw [List.length_append]; rfl
          · rw [List.length_append, cellsOf_snoc]; exact hown'
        case measure => simp [intOf]; omega
    · obtain rfl : k = s.size := by omega
      have hl := hu.last N5.out
      have z1 := hu.le
      have z2 := hu.short
      by_cases h6 : at_ < s.size
      · rw [if_pos (by rw [← N5.out]; exact h6)] at hl
        have HL := Lib.hid hl
        have he : s.extract at_ s.size = ⟨(s.data.toList.drop at_).toArray⟩ := by rw [← Lib.mk_data (s.extract at_ s.size), Lib.extract_to_end]
        clear hl hu
        generalize s.data.toList.drop at_ = tx at *
        have hc := lineCells wr ⟨pre.length, at_, tx, false⟩ 80
        dsimp only [lineV] at hc
        have HC := Lib.hid hc
        clear hc
        go_wp2_with (at_builtin; refine wpList_append_own _ rfl _ _ 76 rfl w.heap.size 80 i0 _ 4 40 Tryd.underlying76 hi hz0 hz1 hz2 rfl (by decide) _ _ _ rfl (hown.alloc _) ⟨wr.heap.size, 0, none⟩ 1 1 _ rfl rfl HC.out ?d2 ?d3 ?d4 ?d5 ?_)
        case d2 => intro u hu; simp at hu; rcases hu with rfl | rfl | rfl | rfl <;> rfl
        case d3 => unfold maxLen; omega
        case d4 => omega
        case d5 => have := hb.size; simp; omega
        intro v' w1 hown' hgrow _
        have hb1 : Below w.heap.size w w1 := (hb.alloc hb.size _).grown hgrow (by have := hb.size; simp; omega) (fun j ej => (hown.lt j ej).1)
        go_wp2
        go_ret
        refine ⟨v', rfl, ?_, hb1⟩
        rw [HL.out, List.length_append, cellsOf_snoc]; exact hown'
      · rw [if_neg (by rw [← N5.out]; exact h6)] at hl
        have HL := Lib.hid hl
        clear hl hu
        go_wp2
        go_ret
        refine ⟨_, rfl, ?_, hb⟩
        rw [HL.out]; exact hown
end Go.Proofs.YtafgebodmhkghaaDoor
