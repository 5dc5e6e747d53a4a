/- A good text that is cut at a blank line, plainly. -/
import Derived.Test.YtngngamfceoklaaDoorPO
namespace Go.Proofs.YtngngamfceoklaaDoor

/-- A line, d lines and e bytes further on. -/
def sh (d e : Nat) (x : Ln) : Ln := ⟨d + x.no, e + x.at_, x.text, x.ended⟩
theorem sh_bytes (d e : Nat) (x : Ln) : (sh d e x).bytes = x.bytes := rfl
theorem linesOn_sh : ∀ (n d e no at_ : Nat) (l : List UInt8), l.length ≤ n → linesOn (d + no) (e + at_) l = (linesOn no at_ l).map (sh d e)
  | 0, d, e, no, at_, l, h => by
    have : l = [] := List.length_eq_zero_iff.1 (by omega)
    subst this; rfl
  | n + 1, d, e, no, at_, l, h => by
    by_cases hl : l = []
    · subst hl; rfl
    · have hp := used_pos l hl
      rw [linesOn_cons _ _ _ hl, linesOn_cons no at_ l hl, List.map_cons]
      have := linesOn_sh n d e (no + 1) (at_ + used l) (l.drop (used l)) (by simp only [List.length_drop]; omega)
      rw [← Nat.add_assoc, ← Nat.add_assoc] at this
      rw [this]; rfl
/-- Ended lines, and those behind them: of the text's two parts. -/
theorem linesOn_cut : ∀ (a b : List Ln) (no at_ : Nat) (l : List UInt8), linesOn no at_ l = a ++ b → (∀ x ∈ a, x.ended = true) →
    linesOn no at_ (l.take (a.flatMap Ln.bytes).length) = a ∧ b = linesOn (no + a.length) (at_ + (a.flatMap Ln.bytes).length) (l.drop (a.flatMap Ln.bytes).length)
  | [], b, no, at_, l, h, _ => by
    refine ⟨by simp [linesOn_nil], ?_⟩
    simpa using h.symm
  | x :: a, b, no, at_, l, h, he => by
    have hl : l ≠ [] := by rintro rfl; rw [linesOn_nil] at h; cases h
    rw [linesOn_cons _ _ _ hl, List.cons_append] at h
    obtain ⟨hx, ht⟩ := List.cons.inj h
    have hb : x.bytes.length = used l := by
      rw [← hx]; unfold Ln.bytes used; simp only [List.length_append]; split <;> rfl
    have hen : nl l = true := by have := he x List.mem_cons_self; rw [← hx] at this; exact this
    obtain ⟨i1, i2⟩ := linesOn_cut a b (no + 1) (at_ + used l) (l.drop (used l)) ht (fun y hy => he y (List.mem_cons_of_mem _ hy))
    have hsp := head_split l
    rw [hen, if_pos rfl] at hsp
    have hu : used l = (head l).length + 1 := by unfold used; rw [hen]; rfl
    have hcl := linesOn_clean _ no at_ l (Nat.le_refl _) ⟨no, at_, head l, nl l⟩ (by rw [linesOn_cons _ _ _ hl]; exact List.mem_cons_self)
    have hlen : ((x :: a).flatMap Ln.bytes).length = used l + (a.flatMap Ln.bytes).length := by rw [List.flatMap_cons, List.length_append, hb]
    rw [hlen]
    rw [hen] at hx
    clear hlen hb hen
    generalize head l = hd at *
    generalize hr : l.drop (used l) = r at *
    rw [hu] at *
    have hl2 : l = hd ++ 10 :: r := by rw [hsp]; simp
    clear hsp hu
    generalize (a.flatMap Ln.bytes).length = m at *
    have htk : l.take (hd.length + 1 + m) = hd ++ 10 :: r.take m := by
      rw [hl2, List.take_append, List.take_of_length_le (by omega), show hd.length + 1 + m - hd.length = m + 1 by omega]
      simp
    refine ⟨?_, ?_⟩
    · rw [htk, linesOn_cons _ _ _ (by simp)]
      obtain ⟨h1, h2⟩ := head_of hd (r.take m) hcl
      have hu2 : used (hd ++ 10 :: r.take m) = hd.length + 1 := by unfold used; rw [h1, h2]; rfl
      have hd2 : (hd ++ 10 :: r.take m).drop (hd.length + 1) = r.take m := by
        rw [show hd ++ 10 :: r.take m = (hd ++ [10]) ++ r.take m by simp]
        exact List.drop_left' (by simp)
      rw [h1, h2, hu2, hd2, i1, ← hx]
    · rw [i2, ← hr, List.drop_drop, List.length_cons, Nat.add_assoc no, Nat.add_comm 1, Nat.add_assoc at_]

/-- A parser, put behind another one whose block is ended, d lines and e bytes on. -/
def up (q : PS) (d e : Nat) (s : PS) : PS := ⟨d + s.begin_, s.said, q.items ++ s.items, q.stanzas + s.stanzas, e + s.at_, s.fields⟩
theorem up_goes (q : PS) (d e : Nat) (s : PS) (x : Ln) : goesP (up q d e s) (sh d e x) = goesP s x := rfl
theorem up_went (q : PS) (d e : Nat) (s : PS) (x : Ln) : wentP (up q d e s) (sh d e x) = up q d e (wentP s x) := by
  unfold wentP; rw [up_goes]; split <;> rfl
theorem up_wrong (q : PS) (d e : Nat) (s : PS) (x : Ln) : wrongP (up q d e s) (sh d e x) = wrongP s x := rfl
theorem up_ends (q : PS) (d e : Nat) (s : PS) (x : Ln) : endsP (up q d e s) (sh d e x) = endsP s x := rfl
theorem up_endField (q : PS) (d e : Nat) (s : PS) : endFieldP (up q d e s) = up q d e (endFieldP s) := by
  unfold endFieldP
  by_cases h : s.said = []
  · rw [if_pos h, if_pos (show (up q d e s).said = [] from h)]
  · rw [if_neg h, if_neg (show ¬ (up q d e s).said = [] from h)]; rfl
theorem up_endFieldN (q : PS) (d e : Nat) (s : PS) (hst : (up q d e s).stanzas ≤ 400) (h : endFieldN (up q d e s) = 0) : endFieldN s = 0 := by
  unfold endFieldN at h ⊢
  have e1 : (up q d e s).said = s.said := rfl
  rw [e1] at h
  split
  · rfl
  · rename_i hs
    rw [if_neg hs] at h
    split
    · rename_i hu; rw [if_pos hu] at h; exact absurd h hu
    · rename_i hu
      rw [if_neg hu] at h
      have hf : fullP (up q d e s) = false := by
        cases hf : fullP (up q d e s) with
        | false => rfl
        | true => rw [hf] at h; simp at h
      have : fullP s = false := by
        unfold fullP at hf ⊢
        have e2 : (up q d e s).fields = s.fields := rfl
        rw [e2] at hf
        split
        · rename_i hz
          rw [if_pos hz] at hf
          have h1 : (up q d e s).stanzas ≠ 400 := by simpa using hf
          have h2 : (up q d e s).stanzas = q.stanzas + s.stanzas := rfl
          have : s.stanzas ≠ 400 := by omega
          simpa using this
        · rename_i hz
          rw [if_neg hz] at hf
          exact hf
      rw [this]; rfl
theorem cut_raw (t : List UInt8) (e a b : Nat) : (t.take (e + b)).drop (e + a) = ((t.drop e).take b).drop a := by
  rw [Nat.add_comm e b, ← List.drop_drop]
  congr 1
  rw [List.drop_take]
  congr 1; omega
theorem up_endItem (t : List UInt8) (q : PS) (d e : Nat) (s : PS) (kind c : Nat) : endItemP t (up q d e s) kind (e + c) = up q d e (endItemP (t.drop e) s kind c) := by
  unfold endItemP up
  simp only [List.append_assoc, cut_raw]
theorem up_endBlock (t : List UInt8) (q : PS) (d e : Nat) (s : PS) (c : Nat) : endBlockP t (up q d e s) (e + c) = up q d e (endBlockP (t.drop e) s c) := by
  unfold endBlockP
  have e1 : ((up q d e s).at_ = e + c) = (s.at_ = c) := by
    show (e + s.at_ = e + c) = _
    exact propext ⟨fun h => by omega, fun h => by omega⟩
  have e2 : (up q d e s).fields = s.fields := rfl
  rw [e2]
  by_cases h1 : s.at_ = c
  · rw [if_pos h1, if_pos (by rw [e1]; exact h1)]
  · rw [if_neg h1, if_neg (by rw [e1]; exact h1)]
    split
    · exact up_endItem t q d e s 2 c
    · have := up_endItem t q d e s 3 c
      unfold up endItemP at this ⊢
      simp only [PS.mk.injEq] at this ⊢
      refine ⟨trivial, trivial, this.2.2.1, ?_, trivial, trivial⟩
      omega
theorem up_then (q : PS) (d e : Nat) (s : PS) (x : Ln) : thenP (up q d e s) (sh d e x) = up q d e (thenP s x) := by
  unfold thenP
  rw [up_ends, up_went, up_endField]
  split <;> rfl
theorem up_put (t : List UInt8) (q : PS) (d e : Nat) (s : PS) (x : Ln) : putP t (up q d e s) (sh d e x) = up q d e (putP (t.drop e) s x) := by
  unfold putP
  have e1 : (sh d e x).text = x.text := rfl
  rw [e1]
  split
  · rfl
  · split
    · have e2 : (sh d e x).at_ = e + x.at_ := rfl
      rw [e2, up_endBlock, show e + x.at_ + x.text.length + 1 = e + (x.at_ + x.text.length + 1) by omega, up_endItem]
    · rfl
theorem up_take {t : List UInt8} {q s b : PS} {d e : Nat} {x : Ln} (hst : (up q d e s).stanzas ≤ 400) (h : takeP t (up q d e s) (sh d e x) = .ok b) : ∃ s', takeP (t.drop e) s x = .ok s' ∧ b = up q d e s' := by
  obtain ⟨h1, h2, rfl⟩ := take_parts h
  rw [up_ends, up_went] at h1
  rw [up_wrong] at h2
  have hw : (up q d e (wentP s x)).stanzas ≤ 400 := by
    have : (wentP s x).stanzas = s.stanzas := by unfold wentP; split <;> rfl
    show q.stanzas + (wentP s x).stanzas ≤ 400
    rw [this]; exact hst
  refine ⟨_, take_of (fun he => up_endFieldN q d e _ hw (h1 he)) h2, ?_⟩
  rw [up_then, up_put]
theorem up_run {t : List UInt8} {q : PS} {d e : Nat} : ∀ (xs : List Ln) (no c : Nat) (s b : PS), Runs (d + no) (e + c) (xs.map (sh d e)) → d + no ≤ e + c → Inv (up q d e s) (e + c) → Good t (up q d e s) → runP t (up q d e s) (xs.map (sh d e)) = .ok b → ∃ s', runP (t.drop e) s xs = .ok s' ∧ b = up q d e s'
  | [], no, c, s, b, _, _, _, _, h => by cases h; exact ⟨s, rfl, rfl⟩
  | x :: xs, no, c, s, b, hr, hn, hi, hg, h => by
    obtain ⟨r1, r2, r3, r4⟩ := hr
    have h' : (match takeP t (up q d e s) (sh d e x) with | .error e => Except.error e | .ok q' => runP t q' (xs.map (sh d e))) = .ok b := h
    cases ht : takeP t (up q d e s) (sh d e x) with
    | error er => rw [ht] at h'; cases h'
    | ok p1 =>
      rw [ht] at h'
      dsimp only at h'
      rw [← r2] at hi
      obtain ⟨i1, _⟩ := Inv.take hi (by omega) ht
      have g1 := hg.take hi.at_ ht
      rw [r2] at i1
      obtain ⟨s1, ht1, rfl⟩ := up_take hg.st ht
      have r4' : Runs (d + (no + 1)) (e + (c + (sh d e x).bytes.length)) (xs.map (sh d e)) := by rw [← Nat.add_assoc, ← Nat.add_assoc]; exact r4
      obtain ⟨s2, hs2, e2⟩ := up_run xs (no + 1) (c + (sh d e x).bytes.length) s1 b r4' (by omega) (by rw [← Nat.add_assoc]; exact i1) g1 h'
      refine ⟨s2, ?_, e2⟩
      show (match takeP (t.drop e) s x with | .error e => Except.error e | .ok q' => runP (t.drop e) q' xs) = _
      rw [ht1]; exact hs2
end Go.Proofs.YtngngamfceoklaaDoor
