/- A good text that is cut at a blank line: both parts' items. -/
import Derived.Test.YtngngamfceoklaaDoorPQ
namespace Go.Proofs.YtngngamfceoklaaDoor

theorem endField_items (p : PS) : (endFieldP p).items = p.items := by unfold endFieldP; split <;> rfl
theorem went_items (p : PS) (x : Ln) : (wentP p x).items = p.items := by unfold wentP; split <;> rfl
theorem then_items (p : PS) (x : Ln) : (thenP p x).items = p.items := by
  unfold thenP
  split
  · rw [endField_items, went_items]
  · exact went_items p x
theorem endBlock_items (t : List UInt8) (p : PS) (e : Nat) : ∃ l, (endBlockP t p e).items = p.items ++ l ∧ ∀ it ∈ l, it.kind ≠ 1 := by
  unfold endBlockP
  split
  · exact ⟨[], by simp, fun it h => by cases h⟩
  · split
    · exact ⟨_, rfl, fun it h => by rw [List.mem_singleton.1 h]; show (2 : Nat) ≠ 1; decide⟩
    · exact ⟨_, rfl, fun it h => by rw [List.mem_singleton.1 h]; show (3 : Nat) ≠ 1; decide⟩
theorem take_items {t : List UInt8} {p q : PS} {x : Ln} (he : takeP t p x = .ok q) :
    q.items = p.items ∨ (∃ l it, q.items = p.items ++ l ++ [it] ∧ (∀ y ∈ l, y.kind ≠ 1) ∧ q.said = [] ∧ q.fields = [] ∧ q.at_ = x.at_ + x.text.length + 1) := by
  obtain ⟨_, _, rfl⟩ := take_parts he
  unfold putP
  split
  · exact .inl (then_items p x)
  · split
    · rename_i hk
      obtain ⟨l, h1, h2⟩ := endBlock_items t (thenP p x) x.at_
      refine .inr ⟨l, ⟨1, (t.take (x.at_ + x.text.length + 1)).drop (endBlockP t (thenP p x) x.at_).at_, (endBlockP t (thenP p x) x.at_).fields⟩, ?_, h2, ?_, rfl, rfl⟩
      · show (endBlockP t (thenP p x) x.at_).items ++ [_] = _
        rw [h1, then_items]
      · show (endBlockP t (thenP p x) x.at_).said = []
        rw [endBlock_said]
        exact thenP_said (goes_kind (by omega))
    · exact .inl (then_items p x)
theorem run_items (t : List UInt8) : ∀ (xs : List Ln) (p q : PS), runP t p xs = .ok q → p.items <+: q.items
  | [], p, q, h => by cases h; exact List.prefix_refl _
  | x :: xs, p, q, h => by
    unfold runP at h
    cases ht : takeP t p x with
    | error e => rw [ht] at h; cases h
    | ok p1 =>
      rw [ht] at h
      dsimp only at h
      have ih := run_items t xs p1 q h
      refine List.IsPrefix.trans ?_ ih
      rcases take_items ht with e | ⟨l, it, e, _⟩
      · rw [e]; exact List.prefix_refl _
      · rw [e, List.append_assoc]; exact List.prefix_append _ _
theorem prefix_take {α : Type} {a b : List α} (h : a <+: b) : b.take a.length = a := by
  obtain ⟨c, rfl⟩ := h
  simp
theorem prefix_at {α : Type} {a b : List α} (h : a <+: b) {i : Nat} (hi : i < a.length) : b[i]? = a[i]? := by
  obtain ⟨c, rfl⟩ := h
  exact List.getElem?_append_left hi
/-- Where a blank line's item was made. -/
theorem run_blank (t : List UInt8) : ∀ (xs : List Ln) (p0 p : PS) (no c : Nat), Runs no c xs → (∀ x ∈ xs, x.ended = true) → runP t p0 xs = .ok p → ∀ (i : Nat) (it : It), p0.items.length ≤ i → p.items[i]? = some it → it.kind = 1 →
    ∃ a b q, xs = a ++ b ∧ runP t p0 a = .ok q ∧ runP t q b = .ok p ∧ q.items = p.items.take (i + 1) ∧ q.said = [] ∧ q.fields = [] ∧ q.at_ = c + (a.flatMap Ln.bytes).length
  | [], p0, p, no, c, _, _, h, i, it, hi, hit, _ => by
    cases h
    rw [List.getElem?_eq_none hi] at hit; cases hit
  | x :: xs, p0, p, no, c, hr, hen, h, i, it, hi, hit, hk => by
    obtain ⟨r1, r2, r3, r4⟩ := hr
    unfold runP at h
    cases ht : takeP t p0 x with
    | error e => rw [ht] at h; cases h
    | ok p1 =>
      rw [ht] at h
      dsimp only at h
      have hp := run_items t xs p1 p h
      have hx : runP t p0 [x] = .ok p1 := by show (match takeP t p0 x with | .error e => _ | .ok q => runP t q []) = _; rw [ht]; rfl
      have hbx : x.bytes.length = x.text.length + 1 := by unfold Ln.bytes; rw [hen x List.mem_cons_self]; simp
      rcases Nat.lt_or_ge i p1.items.length with hlt | hge
      · rcases take_items ht with e | ⟨l, y, e, hl, h1, h2, h3⟩
        · rw [e] at hlt; omega
        · have hi1 : i + 1 = p1.items.length := by
            rw [prefix_at hp hlt, e] at hit
            rw [e, List.length_append] at hlt ⊢
            rcases Nat.lt_or_ge i (p0.items ++ l).length with q | q
            · rw [List.getElem?_append_left q, List.getElem?_append_right hi] at hit
              exact absurd hk (hl it (List.mem_of_getElem? hit))
            · simp at hlt q ⊢; omega
          refine ⟨[x], xs, p1, rfl, hx, h, ?_, h1, h2, ?_⟩
          · rw [hi1]; exact (prefix_take hp).symm
          · rw [h3, r2]; simp [hbx]; omega
      · obtain ⟨a, b, q, e1, e2, e3, e4, e5, e6, e7⟩ := run_blank t xs p1 p (no + 1) (c + x.bytes.length) r4 (fun y hy => hen y (List.mem_cons_of_mem _ hy)) h i it hge hit hk
        refine ⟨x :: a, b, q, by rw [e1]; rfl, ?_, e3, e4, e5, e6, ?_⟩
        · show (match takeP t p0 x with | .error e => _ | .ok q => runP t q a) = _
          rw [ht]; exact e2
        · rw [e7, List.flatMap_cons, List.length_append]; omega
/-- The run over the text's beginning alone. -/
theorem take_short {t : List UInt8} {n : Nat} {p : PS} {x : Ln} (hx : x.at_ + x.bytes.length ≤ n) (hen : x.ended = true) : takeP (t.take n) p x = takeP t p x := by
  have hb : x.bytes.length = x.text.length + 1 := by unfold Ln.bytes; rw [hen]; simp
  have e1 : ∀ (q : PS) k e, e ≤ n → endItemP (t.take n) q k e = endItemP t q k e := fun q k e he => by
    unfold endItemP; rw [List.take_take, Nat.min_eq_left he]
  have e2 : ∀ (q : PS) e, e ≤ n → endBlockP (t.take n) q e = endBlockP t q e := fun q e he => by
    unfold endBlockP; rw [e1 _ _ _ he, e1 _ _ _ he]
  have e3 : ∀ q : PS, putP (t.take n) q x = putP t q x := fun q => by
    unfold putP; rw [e2 _ _ (by omega), e1 _ _ _ (by omega)]
  unfold takeP
  rw [e3]
theorem run_short {t : List UInt8} {n : Nat} : ∀ (xs : List Ln) (p : PS) (no c : Nat), Runs no c xs → c + (xs.flatMap Ln.bytes).length ≤ n → (∀ x ∈ xs, x.ended = true) → runP (t.take n) p xs = runP t p xs
  | [], _, _, _, _, _, _ => rfl
  | x :: xs, p, no, c, hr, hn, hen => by
    obtain ⟨r1, r2, r3, r4⟩ := hr
    rw [List.flatMap_cons, List.length_append] at hn
    have h1 := take_short (t := t) (n := n) (p := p) (x := x) (by omega) (hen x List.mem_cons_self)
    show (match takeP (t.take n) p x with | .error e => Except.error e | .ok q => runP (t.take n) q xs) = (match takeP t p x with | .error e => Except.error e | .ok q => runP t q xs)
    rw [h1]
    cases takeP t p x with
    | error e => rfl
    | ok q => exact run_short xs q (no + 1) (c + x.bytes.length) r4 (by omega) (fun y hy => hen y (List.mem_cons_of_mem _ hy))
theorem Runs.append : ∀ {a b : List Ln} {no c : Nat}, Runs no c (a ++ b) → Runs no c a ∧ Runs (no + a.length) (c + (a.flatMap Ln.bytes).length) b
  | [], b, no, c, h => ⟨trivial, h⟩
  | x :: a, b, no, c, ⟨h1, h2, h3, h4⟩ => by
    obtain ⟨i1, i2⟩ := Runs.append h4
    refine ⟨⟨h1, h2, h3, i1⟩, ?_⟩
    rw [List.flatMap_cons, List.length_append, List.length_cons, ← Nat.add_assoc c, Nat.add_comm a.length, ← Nat.add_assoc no]
    exact i2
theorem runs_len : ∀ (a : List Ln) (no c : Nat), Runs no c a → a.length ≤ (a.flatMap Ln.bytes).length
  | [], _, _, _ => Nat.le_refl _
  | x :: a, no, c, ⟨_, _, h3, h4⟩ => by
    have := runs_len a _ _ h4
    rw [List.flatMap_cons, List.length_append, List.length_cons]; omega
theorem endField_none {q : PS} (h : q.said = []) : endFieldN q = 0 ∧ endFieldP q = q := ⟨by unfold endFieldN; rw [if_pos h], by unfold endFieldP; rw [if_pos h]⟩
/-- The number of a field's first line counts for errors alone. -/
def re (p : PS) (n : Nat) : PS := { p with begin_ := n }
theorem re_endItem (t : List UInt8) (p : PS) (n k e : Nat) : endItemP t (re p n) k e = re (endItemP t p k e) n := rfl
theorem re_endBlock (t : List UInt8) (p : PS) (n e : Nat) : endBlockP t (re p n) e = re (endBlockP t p e) n := by
  unfold endBlockP
  have e1 : (re p n).at_ = p.at_ := rfl
  have e2 : (re p n).fields = p.fields := rfl
  rw [e1, e2]
  split
  · rfl
  · split <;> rfl
theorem re_endField (p : PS) (n : Nat) : endFieldP (re p n) = re (endFieldP p) n := by
  unfold endFieldP
  have e1 : (re p n).said = p.said := rfl
  rw [e1]
  split <;> rfl
theorem re_went (p : PS) (n : Nat) (x : Ln) : wentP (re p n) x = re (wentP p x) n := by
  unfold wentP
  have e1 : goesP (re p n) x = goesP p x := rfl
  rw [e1]
  split <;> rfl
theorem re_then (p : PS) (n : Nat) (x : Ln) : thenP (re p n) x = re (thenP p x) n := by
  unfold thenP
  have e1 : endsP (re p n) x = endsP p x := rfl
  rw [e1, re_went, re_endField]
  split <;> rfl
theorem re_take {t : List UInt8} {p q : PS} {x : Ln} (n : Nat) (h : takeP t p x = .ok q) : ∃ m, takeP t (re p n) x = .ok (re q m) := by
  obtain ⟨h1, h2, rfl⟩ := take_parts h
  have := take_of (t := t) (p := re p n) (x := x) (fun he => by rw [re_went]; exact h1 he) h2
  rw [this, re_then]
  unfold putP
  split
  · exact ⟨x.no, rfl⟩
  · split
    · rw [re_endBlock, re_endItem]; exact ⟨n, rfl⟩
    · exact ⟨n, rfl⟩
theorem re_run {t : List UInt8} : ∀ (xs : List Ln) (p q : PS) (n : Nat), runP t p xs = .ok q → ∃ m, runP t (re p n) xs = .ok (re q m)
  | [], p, q, n, h => by cases h; exact ⟨n, rfl⟩
  | x :: xs, p, q, n, h => by
    have h' : (match takeP t p x with | .error e => Except.error e | .ok q' => runP t q' xs) = .ok q := h
    cases ht : takeP t p x with
    | error e => rw [ht] at h'; cases h'
    | ok p1 =>
      rw [ht] at h'
      obtain ⟨m, hm⟩ := re_take n ht
      obtain ⟨k, hk⟩ := re_run xs p1 q m h'
      refine ⟨k, ?_⟩
      show (match takeP t (re p n) x with | .error e => Except.error e | .ok q' => runP t q' xs) = _
      rw [hm]; exact hk
theorem parse_cut {t : List UInt8} {its : List It} (h : parseL t = .ok its) {i : Nat} {it : It} (hit : its[i]? = some it) (hk : it.kind = 1) (n : Nat) (hn : n = ((its.take (i + 1)).flatMap It.raw).length) :
    n ≤ t.length ∧ parseL (t.take n) = .ok (its.take (i + 1)) ∧ parseL (t.drop n) = .ok (its.drop (i + 1)) := by
  obtain ⟨p, hr, h0, rfl, _, _, _⟩ := parse_good h
  have hruns := runs_linesOn _ 0 0 t (Nat.le_refl _)
  obtain ⟨ip, gp, hen⟩ := run_good t _ 0 0 _ _ hruns (Nat.le_refl _) Inv.new (Good.new t) hr
  have hj : ((linesOn 0 0 t).flatMap Ln.bytes).length = t.length := congrArg List.length (linesOf_join t)
  rw [hj, Nat.zero_add] at ip
  obtain ⟨l, hl, hlk⟩ := endBlock_items t (endFieldP p) t.length
  rw [endField_items] at hl
  have hlt : i < p.items.length := by
    rcases Nat.lt_or_ge i p.items.length with q | q
    · exact q
    · rw [hl, List.getElem?_append_right q] at hit
      exact absurd hk (hlk it (List.mem_of_getElem? hit))
  have hit' : p.items[i]? = some it := by rw [hl, List.getElem?_append_left hlt] at hit; exact hit
  have htk : (endBlockP t (endFieldP p) t.length).items.take (i + 1) = p.items.take (i + 1) := by rw [hl, List.take_append_of_le_length (by omega)]
  obtain ⟨a, b, q, e1, e2, e3, e4, e5, e6, e7⟩ := run_blank t _ PS.new p 0 0 hruns hen hr i it (Nat.zero_le _) hit' hk
  rw [Nat.zero_add] at e7
  have hra := Runs.append (e1 ▸ hruns)
  have hena : ∀ x ∈ a, x.ended = true := fun x hx => hen x (by rw [e1]; exact List.mem_append_left _ hx)
  obtain ⟨iq, gq, _⟩ := run_good t a 0 0 _ _ hra.1 (Nat.le_refl _) Inv.new (Good.new t) e2
  have hat : q.at_ ≤ t.length := by
    rw [e7, ← hj, e1, List.flatMap_append, List.length_append]; omega
  have hnq : n = q.at_ := by
    rw [hn, htk, ← e4, gq.join, List.length_take, Nat.min_eq_left hat]
  obtain ⟨c1, c2⟩ := linesOn_cut a b 0 0 t e1 hena
  rw [← e7] at c1 c2
  rw [Nat.zero_add, Nat.zero_add] at c2
  rw [hnq]
  refine ⟨hat, ?_, ?_⟩
  · have hlines : linesOf (t.take q.at_) = a := c1
    unfold parseL
    rw [hlines, run_short a PS.new 0 0 hra.1 (by rw [e7]; omega) hena, e2]
    dsimp only
    obtain ⟨z1, z2⟩ := endField_none e5
    unfold lastP
    rw [z1, if_neg (by decide), z2, List.length_take, Nat.min_eq_left hat]
    rw [htk, ← e4]
    unfold endBlockP
    rw [if_pos rfl]
  · have hsh := linesOn_sh _ a.length q.at_ 0 0 (t.drop q.at_) (Nat.le_refl _)
    rw [Nat.add_zero, Nat.add_zero] at hsh
    obtain ⟨m, hm⟩ := re_run b q p a.length e3
    have hup : re q a.length = up q a.length q.at_ PS.new := by
      unfold re up
      simp only [PS.new, e5, e6, List.append_nil, Nat.add_zero]
    rw [hup, c2, hsh] at hm
    have hsum : q.at_ + ((linesOn 0 0 (t.drop q.at_)).flatMap Ln.bytes).length = t.length := by
      rw [show linesOn 0 0 (t.drop q.at_) = linesOf (t.drop q.at_) from rfl, linesOf_join, List.length_drop]; omega
    have hall : a.length ≤ q.at_ := by rw [e7]; exact runs_len a 0 0 hra.1
    have hiu : Inv (up q a.length q.at_ PS.new) (q.at_ + 0) := by
      rw [← hup]
      have i := iq
      rw [Nat.zero_add, ← e7] at i
      exact ⟨i.at_, i.items, i.stanzas, hall, i.fields, i.said, i.both⟩
    have hgu : Good t (up q a.length q.at_ PS.new) := by
      rw [← hup]; exact ⟨gq.st, gq.st', gq.fl, gq.each, gq.join⟩
    have hr2 : Runs (a.length + 0) (q.at_ + 0) ((linesOn 0 0 (t.drop q.at_)).map (sh a.length q.at_)) := by
      rw [← hsh, ← c2]
      have := hra.2
      rw [Nat.zero_add, Nat.zero_add, ← e7] at this
      exact this
    obtain ⟨s', hs', hs2⟩ := up_run (t := t) (q := q) (d := a.length) (e := q.at_) _ 0 0 PS.new (re p m) hr2 (by omega) hiu hgu hm
    have hN : endFieldN s' = 0 := by
      refine up_endFieldN q a.length q.at_ s' ?_ ?_
      · rw [← hs2]; exact gp.st
      · rw [← hs2]; exact h0
    unfold parseL
    rw [show linesOf (t.drop q.at_) = linesOn 0 0 (t.drop q.at_) from rfl, hs']
    dsimp only
    unfold lastP
    rw [hN, if_neg (by decide)]
    have hfin : (endBlockP t (endFieldP (re p m)) t.length).items = (endBlockP t (endFieldP p) t.length).items := by
      rw [re_endField, re_endBlock]; rfl
    rw [← hfin, hs2, up_endField]
    have ht : t.length = q.at_ + (t.drop q.at_).length := by rw [List.length_drop]; omega
    conv => rhs; rw [ht]
    rw [up_endBlock]
    show _ = Except.ok ((q.items ++ (endBlockP (t.drop q.at_) (endFieldP s') (t.drop q.at_).length).items).drop (i + 1))
    have hql : q.items.length = i + 1 := by rw [e4, List.length_take]; omega
    rw [← hql, List.drop_left]
end Go.Proofs.YtngngamfceoklaaDoor
