/- What a good text's items are like, plainly. -/
import Derived.Test.YtngngamfceoklaaDoorPA
namespace Go.Proofs.YtngngamfceoklaaDoor

structure Good (t : List UInt8) (p : PS) : Prop where
  st : p.stanzas ≤ 400
  st' : p.fields ≠ [] → p.stanzas ≤ 399
  fl : p.fields.length ≤ 40
  each : ∀ it ∈ p.items, it.fields.length ≤ 40
  join : p.items.flatMap It.raw = t.take p.at_
theorem Good.new (t : List UInt8) : Good t PS.new := ⟨by decide, fun h => absurd rfl h, by decide, (fun it h => by cases h), rfl⟩
theorem Good.endField {t : List UInt8} {p : PS} (h : Good t p) (h0 : endFieldN p = 0) : Good t (endFieldP p) := by
  unfold endFieldP
  split
  · exact h
  · rename_i hs
    unfold endFieldN at h0
    rw [if_neg hs] at h0
    split at h0
    · rename_i hu; exact absurd h0 hu
    · have hfull : fullP p = false := by
        cases hf : fullP p with
        | false => rfl
        | true => rw [hf] at h0; simp at h0
      unfold fullP at hfull
      have fl := h.fl
      have st := h.st
      refine ⟨h.st, fun _ => ?_, ?_, h.each, h.join⟩
      · show p.stanzas ≤ 399
        split at hfull
        · have : p.stanzas ≠ 400 := by simpa using hfull
          omega
        · rename_i hz
          exact h.st' (fun e => hz (by rw [e]; rfl))
      · show (p.fields ++ [_]).length ≤ 40
        rw [List.length_append]
        split at hfull
        · simp; omega
        · have : p.fields.length ≠ 40 := by simpa using hfull
          simp; omega
theorem drop_take_join (t : List UInt8) (a e : Nat) (h : a ≤ e) : t.take a ++ (t.take e).drop a = t.take e := by
  conv => rhs; rw [← List.take_append_drop a (t.take e), List.take_take, Nat.min_eq_left h]
theorem Good.endItem {t : List UInt8} {p : PS} (h : Good t p) (kind e : Nat) (hle : p.at_ ≤ e) : Good t (endItemP t p kind e) := by
  refine ⟨h.st, fun hn => absurd rfl hn, by simp [endItemP], ?_, ?_⟩
  · intro it hi
    rcases List.mem_append.1 hi with hi | hi
    · exact h.each it hi
    · rw [List.mem_singleton.1 hi]; exact h.fl
  · show (p.items ++ [_]).flatMap It.raw = t.take e
    rw [List.flatMap_append, h.join]
    simp only [List.flatMap_cons, List.flatMap_nil, List.append_nil]
    exact drop_take_join t p.at_ e hle
theorem Good.endBlock {t : List UInt8} {p : PS} (h : Good t p) (e : Nat) (hle : p.at_ ≤ e) : Good t (endBlockP t p e) := by
  unfold endBlockP
  split
  · exact h
  · split
    · exact h.endItem 2 e hle
    · rename_i hz
      have g := h.endItem 3 e hle
      have := h.st' (fun e => hz (by rw [e]; rfl))
      exact ⟨by show p.stanzas + 1 ≤ 400; omega, fun hn => absurd rfl hn, g.fl, g.each, g.join⟩
theorem Good.went {t : List UInt8} {p : PS} (h : Good t p) (x : Ln) : Good t (wentP p x) := by
  unfold wentP
  split
  · exact ⟨h.st, h.st', h.fl, h.each, h.join⟩
  · exact h
theorem take_parts {t : List UInt8} {p q : PS} {x : Ln} (he : takeP t p x = .ok q) : (endsP p x = true → endFieldN (wentP p x) = 0) ∧ wrongP p x = false ∧ q = putP t (thenP p x) x := by
  unfold takeP at he
  split at he
  · cases he
  · rename_i h1
    split at he
    · cases he
    · rename_i h2
      cases he
      refine ⟨fun hn => ?_, by simpa using h2, rfl⟩
      rcases Nat.decEq (endFieldN (wentP p x)) 0 with e | e
      · exact absurd ⟨hn, e⟩ h1
      · exact e
theorem take_of {t : List UInt8} {p : PS} {x : Ln} (h1 : endsP p x = true → endFieldN (wentP p x) = 0) (h2 : wrongP p x = false) : takeP t p x = .ok (putP t (thenP p x) x) := by
  unfold takeP
  rw [if_neg (fun h => h.2 (h1 h.1)), h2]; rfl
theorem Good.then_ {t : List UInt8} {p : PS} {x : Ln} (h : Good t p) (h1 : endsP p x = true → endFieldN (wentP p x) = 0) : Good t (thenP p x) := by
  unfold thenP
  split
  · rename_i he; exact (h.went x).endField (h1 he)
  · exact h.went x
theorem Good.put {t : List UInt8} {p : PS} {x : Ln} (h : Good t p) (ha : p.at_ ≤ x.at_) : Good t (putP t p x) := by
  unfold putP
  split
  · exact ⟨h.st, h.st', h.fl, h.each, h.join⟩
  · split
    · refine (h.endBlock x.at_ ha).endItem 1 _ ?_
      rw [endBlock_at t p _ ha]; omega
    · exact h
theorem Good.take {t : List UInt8} {p q : PS} {x : Ln} (h : Good t p) (ha : p.at_ ≤ x.at_) (he : takeP t p x = .ok q) : Good t q := by
  obtain ⟨h1, _, rfl⟩ := take_parts he
  exact (h.then_ h1).put (by rw [thenP_at]; exact ha)

/-- Lines that stand one behind the other, from a place on. -/
def Runs : Nat → Nat → List Ln → Prop
  | _, _, [] => True
  | no, c, x :: xs => x.no = no ∧ x.at_ = c ∧ 1 ≤ x.bytes.length ∧ Runs (no + 1) (c + x.bytes.length) xs
theorem runs_linesOn : ∀ (n no at_ : Nat) (l : List UInt8), l.length ≤ n → Runs no at_ (linesOn no at_ l)
  | 0, no, at_, l, h => by
    have : l = [] := List.length_eq_zero_iff.1 (by omega)
    subst this; rw [linesOn_nil]; trivial
  | n + 1, no, at_, l, h => by
    by_cases hl : l = []
    · subst hl; rw [linesOn_nil]; trivial
    · have hp := used_pos l hl
      rw [linesOn_cons _ _ _ hl]
      have hb : (Ln.bytes ⟨no, at_, head l, nl l⟩).length = used l := by
        unfold Ln.bytes used; simp only [List.length_append]; split <;> rfl
      refine ⟨rfl, rfl, by rw [hb]; exact hp, ?_⟩
      rw [hb]
      exact runs_linesOn n _ _ _ (by simp only [List.length_drop]; omega)
/-- A run that goes well. -/
theorem run_good (t : List UInt8) : ∀ (xs : List Ln) (no c : Nat) (p q : PS), Runs no c xs → no ≤ c → Inv p c → Good t p → runP t p xs = .ok q → Inv q (c + (xs.flatMap Ln.bytes).length) ∧ Good t q ∧ ∀ x ∈ xs, x.ended = true
  | [], no, c, p, q, _, _, hi, hg, he => by
    cases he
    exact ⟨by simpa using hi, hg, fun x h => by cases h⟩
  | x :: xs, no, c, p, q, hr, hn, hi, hg, he => by
    obtain ⟨r1, r2, r3, r4⟩ := hr
    unfold runP at he
    cases ht : takeP t p x with
    | error e => rw [ht] at he; cases he
    | ok p1 =>
      rw [ht] at he
      dsimp only at he
      rw [← r2] at hi
      obtain ⟨i1, e1⟩ := Inv.take hi (by omega) ht
      have g1 := hg.take hi.at_ ht
      rw [r2] at i1
      obtain ⟨a, b, d⟩ := run_good t xs (no + 1) (c + x.bytes.length) p1 q r4 (by omega) i1 g1 he
      refine ⟨?_, b, fun y hy => ?_⟩
      · rw [List.flatMap_cons, List.length_append, ← Nat.add_assoc]; exact a
      · rcases List.mem_cons.1 hy with rfl | hy
        · exact e1
        · exact d y hy
/-- The items of a good text. -/
theorem parse_good {t : List UInt8} {its : List It} (h : parseL t = .ok its) : ∃ p, runP t PS.new (linesOf t) = .ok p ∧ endFieldN p = 0 ∧ its = (endBlockP t (endFieldP p) t.length).items ∧ Good t (endBlockP t (endFieldP p) t.length) ∧ Inv (endBlockP t (endFieldP p) t.length) t.length ∧ (endFieldP p).at_ ≤ t.length := by
  unfold parseL at h
  cases hr : runP t PS.new (linesOf t) with
  | error e => rw [hr] at h; cases h
  | ok p =>
    rw [hr] at h
    dsimp only at h
    unfold lastP at h
    split at h
    · cases h
    · rename_i h0
      have h0 : endFieldN p = 0 := by simpa using h0
      cases h
      obtain ⟨a, b, _⟩ := run_good t _ 0 0 _ _ (runs_linesOn _ 0 0 t (Nat.le_refl _)) (Nat.le_refl _) Inv.new (Good.new t) hr
      rw [show linesOn 0 0 t = linesOf t from rfl, linesOf_join, Nat.zero_add] at a
      exact ⟨p, rfl, h0, rfl, (b.endField h0).endBlock _ a.endField.at_, a.endField.endBlock t _ a.endField.at_ (Nat.le_refl _), a.endField.at_⟩
theorem parse_join {t : List UInt8} {its : List It} (h : parseL t = .ok its) : its.flatMap It.raw = t ∧ its.length ≤ t.length ∧ ∀ it ∈ its, it.fields.length ≤ 40 ∧ it.raw.length ≤ t.length := by
  obtain ⟨p, _, _, rfl, g, i, hle⟩ := parse_good h
  have ha := endBlock_at t (endFieldP p) t.length hle
  have hj := g.join
  rw [ha, List.take_length] at hj
  refine ⟨hj, by have := i.items; rw [ha] at this; exact this, fun it hi => ⟨g.each it hi, ?_⟩⟩
  obtain ⟨a, b, e⟩ := List.append_of_mem hi
  rw [e, List.flatMap_append, List.flatMap_cons] at hj
  have := congrArg List.length hj
  simp only [List.length_append] at this
  omega
end Go.Proofs.YtngngamfceoklaaDoor
