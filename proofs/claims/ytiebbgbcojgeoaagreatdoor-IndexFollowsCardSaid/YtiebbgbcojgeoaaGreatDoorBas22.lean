/- Texts put together: NJ, NK, NL, NM, JA, IV, IQ, JD. -/
import Derived.Test.YtiebbgbcojgeoaaGreatDoorBas4
import Derived.Test.YtiebbgbcojgeoaaGreatDoorBas6
import Derived.Test.YtiebbgbcojgeoaaGreatDoorBas7
import Derived.Test.YtiebbgbcojgeoaaGreatDoorBas14
import Derived.Test.YtiebbgbcojgeoaaGreatDoorBas16
import Derived.Test.YtiebbgbcojgeoaaGreatDoorBas21
set_option linter.unusedVariables false
namespace Go.Proofs.YtiebbgbcojgeoaaGreatDoor
open Go.RowKit Go.Shelf

/-- Entries of a modest size. -/
def SzL (es : List En) : Prop := ∀ e ∈ es, e.1.raw.length ≤ 100000 ∧ e.1.fields.length ≤ 1000000
theorem edit_mem (l : LS) (kind id : Int) (fs : List Fld) : ∀ e ∈ (editR l kind id fs).ls.es, e ∈ l.es ∨ (e.1 = itemOf fs ∧ chkN fs = 0) := by
  intro e he
  unfold editR at he
  split at he
  · unfold replaceR at he
    split at he
    · exact .inl he
    · rename_i k hk
      split at he
      · rename_i hc
        have he' : e ∈ setE l.es k (itemOf fs) := he
        unfold setE at he'
        obtain ⟨j, hj⟩ := List.getElem?_of_mem he'
        rw [List.getElem?_modify] at hj
        cases hx : l.es[j]? with
        | none => rw [hx] at hj; cases hj
        | some y =>
          rw [hx] at hj
          have hj' : (if k = j then (itemOf fs, y.2) else y) = e := Option.some.inj hj
          by_cases q : k = j
          · rw [if_pos q] at hj'
            rw [← hj']; exact .inr ⟨rfl, hc⟩
          · rw [if_neg q] at hj'
            rw [← hj']; exact .inl (List.mem_of_getElem? hx)
      · exact .inl he
  · split at he
    · unfold deleteR at he
      split at he
      · exact .inl he
      · have he' : e ∈ cutE l.es _ := he
        unfold cutE at he'
        rcases List.mem_append.1 he' with q | q
        · exact .inl (List.mem_of_mem_take q)
        · exact .inl (List.mem_of_mem_drop q)
    · unfold insertR at he
      split at he
      · exact .inl he
      · split at he
        · rename_i hc
          split at he
          · exact .inl he
          · have he' : e ∈ putE l.es _ (itemOf fs, l.next) := he
            unfold putE at he'
            rcases List.mem_append.1 he' with q | q
            · exact .inl (List.mem_of_mem_take q)
            · rcases List.mem_cons.1 q with q | q
              · rw [q]; exact .inr ⟨rfl, hc⟩
              · exact .inl (List.mem_of_mem_drop q)
        · exact .inl he
/-- The list that a law carries: its blocks lie at or above S0. -/
structure Carry (S0 : Nat) (w : World) (lb : Nat) (ev : Value) (ps : List Pr) (l : LS) (m : Nat) : Prop where
  la : LA w lb ev ps l.next
  es : ps.map Prod.fst = l.es
  ok : OkL l
  sz : SzL l.es
  lb0 : S0 ≤ lb
  ev0 : ∀ b, ev.ownBlock = some b → S0 ≤ b
  len : l.es.length ≤ m
  nx : l.next ≤ m + 1
theorem Carry.wf {S0 : Nat} {w : World} {lb : Nat} {ev : Value} {ps : List Pr} {l : LS} {m : Nat} (h : Carry S0 w lb ev ps l m) : WF (ps.map Prod.fst) := by rw [h.es]; exact h.ok.wf
theorem Carry.below {S0 : Nat} {w w' : World} {lb : Nat} {ev : Value} {ps : List Pr} {l : LS} {m N : Nat} (h : Carry S0 w lb ev ps l m) (hb : Below N w w') (hN : w.heap.size ≤ N) : Carry S0 w' lb ev ps l m :=
  ⟨h.la.below hb hN, h.es, h.ok, h.sz, h.lb0, h.ev0, h.len, h.nx⟩
theorem Carry.ents {S0 : Nat} {w : World} {lb : Nat} {ev : Value} {ps : List Pr} {l : LS} {m : Nat} (h : Carry S0 w lb ev ps l m) (hm : m ≤ 10000) : EntsOk ps := by
  have hmem : ∀ p ∈ ps, p.1 ∈ l.es := fun p hp => by rw [← h.es]; exact List.mem_map_of_mem hp
  have hl : ps.length = l.es.length := by rw [← h.es, List.length_map]
  refine ⟨by have := h.len; omega, fun p hp => (h.sz _ (hmem p hp)).1, fun p hp => (h.sz _ (hmem p hp)).2, fun p hp => ?_⟩
  rcases h.ok.wf _ (hmem p hp) with ⟨_, q⟩ | ⟨_, q⟩
  · have hn : p.1.2 ∈ nums l.es := by
      unfold nums
      exact List.mem_filter.2 ⟨List.mem_map_of_mem (hmem p hp), by simpa using q⟩
    have := h.ok.lt _ hn
    have := h.nx
    omega
  · omega
theorem Carry.str {S0 : Nat} {w : World} {lb : Nat} {ev : Value} {ps : List Pr} {l : LS} {m : Nat} (h : Carry S0 w lb ev ps l m) : StR w lb ev ps l.next (.slice none 0 0) [] :=
  ⟨h.la, entsQ_none w, (fun b e => by cases e), (fun p hp => by cases hp)⟩
theorem SzL.edit {l : LS} (h : SzL l.es) (kind id : Int) {fs : List Fld} (h1 : (foldG fs).length ≤ 100000) (h2 : fs.length ≤ 1000000) : SzL (editR l kind id fs).ls.es := fun e he => by
  rcases edit_mem l kind id fs e he with q | ⟨q, _⟩
  · exact h e q
  · rw [q]; exact ⟨h1, h2⟩
/-- Behind an edit (of whatever kind, by whatever call) the list is carried on. -/
theorem Carry.edit {S0 : Nat} {w w' : World} {lb : Nat} {ev ev' : Value} {ps ps' : List Pr} {l : LS} {m : Nat} (h : Carry S0 w lb ev ps l m) (kind id : Int) {fs : List Fld} (h1 : (foldG fs).length ≤ 100000) (h2 : fs.length ≤ 1000000)
    (la : LA w' lb ev' ps' (editR l kind id fs).ls.next) (es : ps'.map Prod.fst = (editR l kind id fs).ls.es) (hS : S0 ≤ w.heap.size) (hev : ∀ b, ev'.ownBlock = some b → ev.ownBlock = some b ∨ w.heap.size ≤ b) : Carry S0 w' lb ev' ps' (editR l kind id fs).ls (m + 1) := by
  obtain ⟨a, _, c⟩ := edit_len l kind id fs
  have hl := h.len
  have hn := h.nx
  refine ⟨la, es, h.ok.edit kind id fs, h.sz.edit kind id h1 h2, h.lb0, fun b e => ?_, by omega, by omega⟩
  rcases hev b e with q | q
  · exact h.ev0 b q
  · omega
end Go.Proofs.YtiebbgbcojgeoaaGreatDoor

namespace Go.Proofs.YtiebbgbcojgeoaaGreatDoor
open Go.RowKit Go.Shelf
attribute [local go_sem] Oper.semAt_some

theorem light_small {eds : List Ed} (h : Light eds) {ed : Ed} (he : ed ∈ eds) : (foldG ed.fields).length ≤ 100000 ∧ ed.fields.length ≤ 1000000 := by
  obtain ⟨a, _, b⟩ := h.2 ed he
  rw [foldG_lines]
  have := foldT_len6 ed.fields b
  exact ⟨by omega, by omega⟩
end Go.Proofs.YtiebbgbcojgeoaaGreatDoor

namespace Go.Proofs.YtiebbgbcojgeoaaGreatDoor

/-- A blank line's item. -/
structure BlankI (it : It) : Prop where
  kind : it.kind = 1
  fields : it.fields = []
  raw : ∃ l, it.raw = l ++ [10] ∧ (10 : UInt8) ∉ l ∧ kindL l = 1
/-- An item that stands alone. -/
def Itm (it : It) : Prop := Blk it ∨ BlankI it

/-- What a run has made since its beginning isn't taken back. -/
def Made (n : Nat) (p : PS) : Prop := n ≤ p.items.length ∧ (n < p.items.length ∨ p.said ≠ [] ∨ p.fields ≠ [])
theorem Made.endField {n : Nat} {p : PS} (h : Made n p) : Made n (endFieldP p) := by
  unfold endFieldP
  split
  · exact h
  · exact ⟨h.1, .inr (.inr (by simp))⟩
theorem Made.went {n : Nat} {p : PS} (h : Made n p) (x : Ln) : Made n (wentP p x) := by
  unfold wentP
  split
  · exact ⟨h.1, .inr (.inl (by simp))⟩
  · exact h
theorem Made.then_ {n : Nat} {p : PS} (h : Made n p) (x : Ln) : Made n (thenP p x) := by
  unfold thenP
  split
  · exact (h.went x).endField
  · exact h.went x
theorem endBlock_more (t : List UInt8) (p : PS) (e : Nat) : p.items.length ≤ (endBlockP t p e).items.length := by
  unfold endBlockP
  split
  · exact Nat.le_refl _
  · split
    · simp [endItemP]
    · simp [endItemP]
theorem Made.put {n : Nat} {t : List UInt8} {p : PS} (h : Made n p) (x : Ln) : Made n (putP t p x) := by
  unfold putP
  split
  · exact ⟨h.1, .inr (.inl (by simp))⟩
  · split
    · have h1 := endBlock_more t p x.at_
      have h2 : (endItemP t (endBlockP t p x.at_) 1 (x.at_ + x.text.length + 1)).items.length = (endBlockP t p x.at_).items.length + 1 := by simp [endItemP]
      have h3 := h.1
      exact ⟨by omega, .inl (by omega)⟩
    · exact h
theorem Made.take {n : Nat} {t : List UInt8} {p q : PS} {x : Ln} (h : Made n p) (he : takeP t p x = .ok q) : Made n q := by
  obtain ⟨_, _, rfl⟩ := take_parts he
  exact (h.then_ x).put x
theorem Made.run {n : Nat} (t : List UInt8) : ∀ (xs : List Ln) (p q : PS), Made n p → runP t p xs = .ok q → Made n q
  | [], p, q, h, he => by cases he; exact h
  | x :: xs, p, q, h, he => by
    unfold runP at he
    cases ht : takeP t p x with
    | error e => rw [ht] at he; cases he
    | ok p1 =>
      rw [ht] at he
      exact Made.run t xs p1 q (h.take ht) he
theorem made_not {b st a n : Nat} {its : List It} (hn : its.length = n) : ¬ Made n ⟨b, [], its, st, a, []⟩ := by
  rintro ⟨_, h | h | h⟩
  · simp only at h; omega
  · exact h rfl
  · exact h rfl
theorem then_clean {b st a no c : Nat} {its : List It} {l : List UInt8} {e : Bool} (hk : kindL l ≠ 3) : thenP ⟨b, [], its, st, a, []⟩ ⟨no, c, l, e⟩ = ⟨b, [], its, st, a, []⟩ := by
  have hg : goesP ⟨b, [], its, st, a, []⟩ ⟨no, c, l, e⟩ = false := goes_kind hk
  unfold thenP wentP
  rw [hg]
  simp [endFieldP]
/-- Lines that make nothing do nothing, with however many stanzas behind them. -/
theorem run_notes {t : List UInt8} : ∀ (ts : List (List UInt8)) (b st a no c : Nat) (its : List It) (b' : Nat), runP t ⟨b, [], its, st, a, []⟩ (num no c ts) = .ok ⟨b', [], its, st, a, []⟩ →
    ∀ (t' : List UInt8) (b2 st2 a2 no2 c2 : Nat) (its2 : List It), runP t' ⟨b2, [], its2, st2, a2, []⟩ (num no2 c2 ts) = .ok ⟨b2, [], its2, st2, a2, []⟩
  | [], b, st, a, no, c, its, b', h, t', b2, st2, a2, no2, c2, its2 => rfl
  | l :: r, b, st, a, no, c, its, b', h, t', b2, st2, a2, no2, c2, its2 => by
    have h' : (match takeP t ⟨b, [], its, st, a, []⟩ ⟨no, c, l, true⟩ with | .error e => Except.error e | .ok q' => runP t q' (num (no + 1) (c + l.length + 1) r)) = .ok ⟨b', [], its, st, a, []⟩ := h
    cases ht : takeP t ⟨b, [], its, st, a, []⟩ ⟨no, c, l, true⟩ with
    | error e => rw [ht] at h'; cases h'
    | ok q =>
      rw [ht] at h'
      dsimp only at h'
      obtain ⟨g1, g2, hq⟩ := take_parts ht
      have hk3 : kindL l ≠ 3 := by
        intro e
        unfold wrongP goesP at g2
        simp [e] at g2
      have hk5 : kindL l ≠ 5 := by
        intro e
        unfold wrongP at g2
        simp [e] at g2
      rw [then_clean hk3] at hq
      have hk4 : kindL l ≠ 4 := by
        intro e
        have hm : Made its.length q := by
          rw [hq]; unfold putP
          rw [if_pos (by exact e)]
          exact ⟨Nat.le_refl _, .inr (.inl (by simp))⟩
        exact made_not rfl (Made.run t _ _ _ hm h')
      have hk1 : kindL l ≠ 1 := by
        intro e
        have hm : Made its.length q := by
          rw [hq]; unfold putP
          rw [if_neg (by exact hk4), if_pos (by exact e)]
          have h1 := endBlock_more t ⟨b, [], its, st, a, []⟩ c
          have h2 : (endItemP t (endBlockP t ⟨b, [], its, st, a, []⟩ c) 1 (c + l.length + 1)).items.length = (endBlockP t ⟨b, [], its, st, a, []⟩ c).items.length + 1 := by simp [endItemP]
          simp only at h1
          exact ⟨by show its.length ≤ (endItemP t (endBlockP t ⟨b, [], its, st, a, []⟩ c) 1 (c + l.length + 1)).items.length; omega, .inl (by show its.length < (endItemP t (endBlockP t ⟨b, [], its, st, a, []⟩ c) 1 (c + l.length + 1)).items.length; omega)⟩
        exact made_not rfl (Made.run t _ _ _ hm h')
      have hput : ∀ (t : List UInt8) (p : PS) (no c : Nat), putP t p ⟨no, c, l, true⟩ = p := fun t p no c => by
        unfold putP
        rw [if_neg (by exact hk4), if_neg (by exact hk1)]
      rw [hput] at hq
      subst hq
      have ih := run_notes r b st a (no + 1) (c + l.length + 1) its b' h' t' b2 st2 a2 (no2 + 1) (c2 + l.length + 1) its2
      have tk := take_else (t := t') (p := ⟨b2, [], its2, st2, a2, []⟩) (no := no2) (c := c2) hk3 hk5 rfl
      rw [show endFieldP ⟨b2, [], its2, st2, a2, []⟩ = ⟨b2, [], its2, st2, a2, []⟩ from rfl, hput] at tk
      show runP t' _ (⟨no2, c2, l, true⟩ :: num (no2 + 1) (c2 + l.length + 1) r) = _
      rw [run_cons tk]
      exact ih
/-- A block that stands alone, wherever it stands. -/
theorem Blk.here {it : It} (h : Blk it) : ∃ ts said fields, it.raw = textL ts ∧ (∀ l ∈ ts, (10 : UInt8) ∉ l) ∧ ∀ (t : List UInt8) (b st a no c e : Nat) (its : List It), (it.kind = 3 → st ≤ 399) → (t.take e).drop a = it.raw → a < e →
    ∃ b', runP t ⟨b, [], its, st, a, []⟩ (num no c ts) = .ok ⟨b', said, its, st, a, fields⟩ ∧ endFieldN ⟨b', said, its, st, a, fields⟩ = 0 ∧ endBlockP t (endFieldP ⟨b', said, its, st, a, fields⟩) e = ⟨b', [], its ++ [it], st + (if it.kind = 3 then 1 else 0), e, []⟩ := by
  obtain ⟨kind, raw, fs⟩ := it
  have hk := h.kind
  obtain ⟨ts, said, fields, d1, d2, d3, d4, d5⟩ := h.does
  dsimp only at hk d1 d5 ⊢
  by_cases hf : fs = []
  · rw [if_pos hf] at hk
    subst hf hk
    have hs : said = [] ∧ fields = [] := by
      unfold endFieldP at d5
      split at d5
      · rename_i hs; exact ⟨hs, d5⟩
      · simp at d5
    obtain ⟨rfl, rfl⟩ := hs
    obtain ⟨b0, h0⟩ := d3 [] 0 0 0 0 0 [] (by decide)
    refine ⟨ts, [], [], d1, d2, fun t b st a no c e its _ hr hae => ⟨b, run_notes ts 0 0 0 0 0 [] b0 h0 t b st a no c its, rfl, ?_⟩⟩
    rw [show endFieldP ⟨b, [], its, st, a, []⟩ = ⟨b, [], its, st, a, []⟩ from rfl]
    unfold endBlockP
    rw [if_neg (by show ¬ a = e; omega), if_pos (show (⟨b, [], its, st, a, []⟩ : PS).fields.length = 0 from rfl)]
    unfold endItemP
    dsimp only
    rw [hr]; rfl
  · rw [if_neg hf] at hk
    subst hk
    refine ⟨ts, said, fields, d1, d2, fun t b st a no c e its hst hr hae => ?_⟩
    obtain ⟨b', hrun⟩ := d3 t b st a no c its (hst rfl)
    have e0 := mv_endFieldN b' st a its ⟨0, said, [], 0, 0, fields⟩ (hst rfl) d4
    have e1 := mv_endField b' st a its ⟨0, said, [], 0, 0, fields⟩
    refine ⟨b', hrun, e0, ?_⟩
    rw [show (⟨b', said, its, st, a, fields⟩ : PS) = mv b' st a its ⟨0, said, [], 0, 0, fields⟩ from rfl, e1]
    have es := endField_said ⟨0, said, [], 0, 0, fields⟩
    generalize endFieldP ⟨0, said, [], 0, 0, fields⟩ = p at *
    unfold endBlockP
    rw [show (mv b' st a its p).at_ = a from rfl, show (mv b' st a its p).fields = p.fields from rfl, d5, if_neg (by omega), if_neg (fun q => hf (List.length_eq_zero_iff.1 q))]
    show (⟨b', p.said, its ++ [⟨3, (t.take e).drop a, p.fields⟩], st + 1, e, []⟩ : PS) = _
    rw [es, hr, d5]; rfl
/-- Of what is parsed: its blank lines. -/
structure MidB (t : List UInt8) (p : PS) (c : Nat) : Prop where
  at_ : p.at_ ≤ c
  bl : ∀ it ∈ p.items, it.kind = 1 → BlankI it
  cur : p.at_ = c → p.fields = [] ∧ p.said = []
theorem MidB.endBlock {t : List UInt8} {p : PS} {c : Nat} (h : MidB t p c) : (∀ it ∈ (endBlockP t (endFieldP p) c).items, it.kind = 1 → BlankI it) ∧ (endBlockP t (endFieldP p) c).fields = [] := by
  unfold endBlockP
  rw [endField_at]
  split
  · rename_i hac
    obtain ⟨h1, h2⟩ := h.cur hac
    refine ⟨by rw [endField_items]; exact h.bl, ?_⟩
    unfold endFieldP
    rw [if_pos h2]; exact h1
  · have key : ∀ (k : Nat), k ≠ 1 → ∀ it ∈ (endItemP t (endFieldP p) k c).items, it.kind = 1 → BlankI it := by
      intro k hk it hi h1
      rcases List.mem_append.1 (show it ∈ (endFieldP p).items ++ [_] from hi) with q | q
      · rw [endField_items] at q; exact h.bl it q h1
      · rw [List.mem_singleton.1 q] at h1
        exact absurd (show ((k : Nat) : Int) = 1 from h1) (by omega)
    split
    · exact ⟨key 2 (by decide), rfl⟩
    · exact ⟨key 3 (by decide), rfl⟩
theorem MidB.take {t : List UInt8} {p q : PS} {x : Ln} (h : MidB t p x.at_) (hen : x.ended = true) (hcl : (10 : UInt8) ∉ x.text) (hrest : ∃ r, t.drop x.at_ = x.bytes ++ r) (hct : x.at_ ≤ t.length) (he : takeP t p x = .ok q) : MidB t q (x.at_ + x.bytes.length) := by
  have hat := h.at_
  obtain ⟨r, hr⟩ := hrest
  have hb : x.bytes = x.text ++ [10] := by unfold Ln.bytes; rw [hen]; simp
  have hbl : x.bytes.length = x.text.length + 1 := by rw [hb]; simp
  by_cases hk : kindL x.text = 1
  · obtain ⟨g1, _, rfl⟩ := take_parts he
    have hg : goesP p x = false := goes_kind (by omega)
    have hw : wentP p x = p := by unfold wentP; rw [hg]; rfl
    have hE : endsP p x = true := by unfold endsP; rw [hg]; simp
    have hth : thenP p x = endFieldP p := by unfold thenP; rw [hE, hw]; rfl
    obtain ⟨l1, l2⟩ := h.endBlock
    have ha : (endBlockP t (endFieldP p) x.at_).at_ = x.at_ := endBlock_at t _ _ (by rw [endField_at]; exact hat)
    unfold putP
    rw [if_neg (by omega), if_pos hk, hth]
    refine ⟨by show x.at_ + x.text.length + 1 ≤ _; omega, fun it hi h1 => ?_, fun _ => ⟨rfl, ?_⟩⟩
    · rcases List.mem_append.1 (show it ∈ (endBlockP t (endFieldP p) x.at_).items ++ [_] from hi) with hi | hi
      · exact l1 it hi h1
      · rw [List.mem_singleton.1 hi]
        refine ⟨rfl, l2, x.text, ?_, hcl, hk⟩
        show (t.take (x.at_ + x.text.length + 1)).drop (endBlockP t (endFieldP p) x.at_).at_ = _
        rw [ha, Nat.add_assoc, List.take_add, hr, ← hbl, List.drop_append_of_le_length (by rw [List.length_take]; omega), List.drop_of_length_le (by rw [List.length_take]; omega), List.take_left' rfl, hb]; rfl
    · show (endBlockP t (endFieldP p) x.at_).said = []
      rw [endBlock_said, endField_said]
  · obtain ⟨k1, k2, k3⟩ := take_keeps hk he
    exact ⟨by rw [k3]; omega, by rw [k1]; exact h.bl, fun q => by rw [k3] at q; omega⟩
theorem MidB.run (t : List UInt8) : ∀ (xs : List Ln) (no c : Nat) (p q : PS), Runs no c xs → no ≤ c → Inv p c → MidB t p c → t.drop c = xs.flatMap Ln.bytes → c ≤ t.length → (∀ x ∈ xs, (10 : UInt8) ∉ x.text) → runP t p xs = .ok q → MidB t q t.length
  | [], no, c, p, q, _, _, _, hm, hr, hct, _, he => by
    cases he
    have : c = t.length := by
      have := congrArg List.length hr
      simp at this; omega
    rw [← this]; exact hm
  | x :: xs, no, c, p, q, hrun, hn, hi, hm, hr, hct, hcl, he => by
    obtain ⟨r1, r2, r3, r4⟩ := hrun
    unfold runP at he
    cases ht : takeP t p x with
    | error e => rw [ht] at he; cases he
    | ok p1 =>
      rw [ht] at he
      dsimp only at he
      rw [List.flatMap_cons] at hr
      rw [← r2] at hi hm hr hct
      obtain ⟨i1, e1⟩ := Inv.take hi (by omega) ht
      have m1 := hm.take e1 (hcl x List.mem_cons_self) ⟨_, hr⟩ hct ht
      have hr2 : t.drop (x.at_ + x.bytes.length) = xs.flatMap Ln.bytes := by
        rw [← List.drop_drop, hr]; simp
      have hct2 : x.at_ + x.bytes.length ≤ t.length := by
        have := congrArg List.length hr
        simp only [List.length_drop, List.length_append] at this
        omega
      rw [r2] at i1 m1 hr2 hct2
      exact MidB.run t xs (no + 1) (c + x.bytes.length) p1 q r4 (by omega) i1 m1 hr2 hct2 (fun y hy => hcl y (List.mem_cons_of_mem _ hy)) he
/-- What is parsed stands alone, item by item. -/
theorem parse_itm {t : List UInt8} {its : List It} (h : parseL t = .ok its) : ∀ it ∈ its, Itm it := by
  intro it hi
  by_cases hk : it.kind = 1
  · refine .inr ?_
    obtain ⟨p, hr, h0, rfl, _⟩ := parse_good h
    have m := MidB.run t _ 0 0 _ _ (runs_linesOn _ 0 0 t (Nat.le_refl _)) (Nat.le_refl _) Inv.new ⟨Nat.le_refl _, (fun it h => by cases h), fun _ => ⟨rfl, rfl⟩⟩ (by rw [show linesOn 0 0 t = linesOf t from rfl, linesOf_join]; rfl) (Nat.zero_le _) (linesOn_clean _ 0 0 t (Nat.le_refl _)) hr
    exact m.endBlock.1 it hi hk
  · exact .inl ((parse_blks h).1 it hi hk)
end Go.Proofs.YtiebbgbcojgeoaaGreatDoor

namespace Go.Proofs.YtiebbgbcojgeoaaGreatDoor
open Go.RowKit Go.Shelf

theorem stzG_snd {α : Type} (κ : α → Int) : ∀ (k : Nat) (l : List α), (stzG κ k l).map Prod.snd = l.filter fun x => κ x == 3
  | k, [] => rfl
  | k, x :: r => by
    have ih := stzG_snd κ (k + 1) r
    unfold stzG
    rw [List.filter_cons]
    by_cases h : κ x = 3
    · rw [if_pos h, if_pos (by simpa using h), List.map_cons, ih]
    · rw [if_neg h, if_neg (by simpa using h), ih]
/-- Entries whose items stand alone. -/
def ItmL (es : List En) : Prop := ∀ e ∈ es, Itm e.1
theorem ItmL.edit {l : LS} (h : ItmL l.es) (kind id : Int) (fs : List Fld) : ItmL (editR l kind id fs).ls.es := fun e he => by
  rcases edit_mem l kind id fs e he with q | ⟨q, hc⟩
  · exact h e q
  · rw [q]; exact .inl (blk_item hc)
theorem itm_from {t : List UInt8} {its : List It} (h : parseL t = .ok its) : ItmL (fromL its).es := fun e he => by
  refine parse_itm h _ ?_
  rw [← from_items 1 its]; exact List.mem_map_of_mem he
end Go.Proofs.YtiebbgbcojgeoaaGreatDoor

namespace Go.Proofs.YtiebbgbcojgeoaaGreatDoor

/-- Short fields. -/
def Sh (fs : List Fld) : Prop := fs.length ≤ 40 ∧ ∀ f ∈ fs, f.1.length ≤ 32 ∧ f.2.length ≤ 1000
structure ShP (p : PS) : Prop where
  fl : ∀ f ∈ p.fields, f.1.length ≤ 32 ∧ f.2.length ≤ 1000
  each : ∀ it ∈ p.items, ∀ f ∈ it.fields, f.1.length ≤ 32 ∧ f.2.length ≤ 1000
theorem ShP.endField {p : PS} (h : ShP p) (h0 : endFieldN p = 0) : ShP (endFieldP p) := by
  unfold endFieldP
  split
  · exact h
  · rename_i hs
    unfold endFieldN at h0
    rw [if_neg hs] at h0
    have hu : unfoldN p.said = 0 := by
      by_cases q : unfoldN p.said = 0
      · exact q
      · rw [if_pos q] at h0; exact h0
    refine ⟨fun f hf => ?_, h.each⟩
    rcases List.mem_append.1 hf with hf | hf
    · exact h.fl f hf
    · rw [List.mem_singleton.1 hf]; exact (unfold_zero hu).2
theorem ShP.endItem {t : List UInt8} {p : PS} (h : ShP p) (kind e : Nat) : ShP (endItemP t p kind e) :=
  ⟨fun f hf => (by cases hf), fun it hi => by
    rcases List.mem_append.1 hi with hi | hi
    · exact h.each it hi
    · rw [List.mem_singleton.1 hi]; exact h.fl⟩
theorem ShP.endBlock {t : List UInt8} {p : PS} (h : ShP p) (e : Nat) : ShP (endBlockP t p e) := by
  unfold endBlockP
  split
  · exact h
  · split
    · exact h.endItem 2 e
    · exact ⟨(h.endItem (t := t) 3 e).fl, (h.endItem (t := t) 3 e).each⟩
theorem ShP.went {p : PS} (h : ShP p) (x : Ln) : ShP (wentP p x) := by
  unfold wentP
  split
  · exact ⟨h.fl, h.each⟩
  · exact h
theorem ShP.take {t : List UInt8} {p q : PS} {x : Ln} (h : ShP p) (he : takeP t p x = .ok q) : ShP q := by
  obtain ⟨h1, _, rfl⟩ := take_parts he
  have h2 : ShP (thenP p x) := by
    unfold thenP
    split
    · rename_i q; exact (h.went x).endField (h1 q)
    · exact h.went x
  unfold putP
  split
  · exact ⟨h2.fl, h2.each⟩
  · split
    · exact ⟨((h2.endBlock x.at_).endItem 1 _).fl, ((h2.endBlock x.at_).endItem 1 _).each⟩
    · exact ⟨h2.fl, h2.each⟩
theorem ShP.run (t : List UInt8) : ∀ (xs : List Ln) (p q : PS), ShP p → runP t p xs = .ok q → ShP q
  | [], p, q, h, he => by cases he; exact h
  | x :: xs, p, q, h, he => by
    unfold runP at he
    cases ht : takeP t p x with
    | error e => rw [ht] at he; cases he
    | ok p1 =>
      rw [ht] at he
      exact ShP.run t xs p1 q (h.take ht) he
theorem parse_sh {t : List UInt8} {its : List It} (h : parseL t = .ok its) : ∀ it ∈ its, Sh it.fields := by
  obtain ⟨p, hr, h0, rfl, g, _⟩ := parse_good h
  have hs : ShP (endBlockP t (endFieldP p) t.length) := ((ShP.run t _ _ _ ⟨(fun f h => by cases h), (fun it h => by cases h)⟩ hr).endField h0).endBlock _
  exact fun it hi => ⟨g.each it hi, hs.each it hi⟩
theorem foldN_goodA : ∀ (fs : List Fld), foldN fs = 0 → ∀ f ∈ fs, goodKey f.1 = true ∧ f.2.length ≤ 1000
  | [], _, f, hf => by cases hf
  | g :: r, h, f, hf => by
    unfold foldN at h
    split at h
    · rename_i h0
      rcases List.mem_cons.1 hf with rfl | hf
      · exact checkN_zero h0
      · exact foldN_goodA r h f hf
    · rename_i h0; exact absurd h h0
theorem fold_sh {fs : List Fld} (h : chkN fs = 0) : Sh fs := by
  obtain ⟨_, h2, h3⟩ := chkN_zero h
  refine ⟨h2, fun f hf => ?_⟩
  obtain ⟨g1, g2⟩ := foldN_goodA fs h3 f hf
  exact ⟨(good_parts g1).2.1, g2⟩
/-- All entries' fields are short. -/
def ShL (es : List En) : Prop := ∀ e ∈ es, Sh e.1.fields
theorem ShL.edit {l : LS} (h : ShL l.es) (kind id : Int) (fs : List Fld) : ShL (editR l kind id fs).ls.es := fun e he => by
  rcases edit_mem l kind id fs e he with h1 | ⟨h1, h2⟩
  · exact h e h1
  · rw [h1]; exact fold_sh h2
theorem sh_from {t : List UInt8} {its : List It} (h : parseL t = .ok its) : ShL (fromL its).es := fun e he => by
  have : e.1 ∈ its := by rw [← from_items 1 its]; exact List.mem_map_of_mem he
  exact parse_sh h _ this
/-- The stanzas of entries. -/
def stzE (es : List En) : List Sz := (es.filter fun e => e.1.kind == 3).map fun e => (e.2, e.1.fields)
theorem stzE_append (a b : List En) : stzE (a ++ b) = stzE a ++ stzE b := by unfold stzE; rw [List.filter_append, List.map_append]
theorem stzE_one {e : En} (h : e.1.kind = 3) : stzE [e] = [(e.2, e.1.fields)] := by unfold stzE; rw [List.filter_cons, if_pos (by simpa using h)]; rfl
theorem stz_es {ps : List Pr} {es : List En} (h : ps.map Prod.fst = es) : stzL (stzP 0 ps) = stzE es := by
  have h1 := stzG_snd (fun p : Pr => p.1.1.kind) 0 ps
  have h2 : stzL (stzP 0 ps) = ((stzP 0 ps).map Prod.snd).map fun p : Pr => (p.1.2, p.1.1.fields) := by
    unfold stzL; rw [List.map_map]; rfl
  have h3 : (stzP 0 ps).map Prod.snd = ps.filter fun p => p.1.1.kind == 3 := h1
  rw [h2, h3, ← h]
  unfold stzE
  rw [List.filter_map, List.map_map]; rfl
theorem stzE_nums {es : List En} (h : WF es) : (stzE es).map Prod.fst = nums es := by
  unfold stzE nums
  rw [List.map_map, List.filter_map]
  have : (es.filter fun e => e.1.kind == 3) = es.filter ((fun n => decide (0 < n)) ∘ Prod.snd) := by
    refine List.filter_congr fun e he => ?_
    rcases h e he with ⟨a, b⟩ | ⟨a, b⟩
    · simp [a, b]
    · simp [a, b]
  rw [this]; rfl
theorem stzE_len {es : List En} (h : WF es) : (stzE es).length = lenR es := by
  have h1 := congrArg List.length (stzE_nums h)
  rw [List.length_map, nums_len] at h1
  exact h1
theorem stzE_sh {es : List En} (h : ShL es) : ∀ s ∈ stzE es, Sh s.2 := by
  intro s hs
  unfold stzE at hs
  obtain ⟨e, he, rfl⟩ := List.mem_map.1 hs
  exact h e (List.mem_filter.1 he).1
theorem numF_sh : ∀ {rs : List Sz}, (∀ s ∈ rs, Sh s.2) → numF rs ≤ 40 * rs.length
  | [], _ => Nat.le_refl _
  | s :: r, h => by
    have ih := numF_sh (rs := r) fun q hq => h q (List.mem_cons_of_mem _ hq)
    have h1 := (h s List.mem_cons_self).1
    unfold numF at ih ⊢
    rw [List.map_cons, List.sum_cons, List.length_cons]; omega
/-- What Of asks of a list's stanzas. -/
structure OfOk (rs : List Sz) : Prop where
  wf : ∀ s ∈ rs, (Lit.int .i64 s.1).wf = true ∧ 1 ≤ s.1
  nd : (rs.map Prod.fst).Nodup
  sh : ∀ s ∈ rs, Sh s.2
  n : rs.length ≤ 400
theorem OfOk.num {rs : List Sz} (h : OfOk rs) : rs.length + 2 * numF rs ≤ 40000 := by
  have := numF_sh h.sh
  have := h.n
  omega
theorem OfOk.len {rs : List Sz} (h : OfOk rs) : ∀ s ∈ rs, ∀ f ∈ s.2, f.1.length ≤ maxLen ∧ f.2.length ≤ maxLen := fun s hs f hf => by
  have := (h.sh s hs).2 f hf
  unfold maxLen; omega
theorem OkL.of {l : LS} (h : OkL l) (hs : ShL l.es) (hn : l.next ≤ 1000000) : OfOk (stzE l.es) := by
  refine ⟨fun s hm => ?_, by rw [stzE_nums h.wf]; exact h.nd, stzE_sh hs, by rw [stzE_len h.wf]; exact h.len⟩
  have h1 : s.1 ∈ nums l.es := by rw [← stzE_nums h.wf]; exact List.mem_map_of_mem hm
  have h2 := h.lt _ h1
  obtain ⟨e, _, he, h3⟩ := nums_mem h1
  refine ⟨?_, by omega⟩
  simp [Lit.wf, IntKind.min, IntKind.max, IntKind.signed, IntKind.bits]; omega
end Go.Proofs.YtiebbgbcojgeoaaGreatDoor

namespace Go.Proofs.YtiebbgbcojgeoaaGreatDoor
open Go.RowKit Go.Maps Go.Sort Go.Shelf

theorem ints_of {ss zs : List Int} (h : ss.Nodup) (hz : zs.Pairwise fun x y => x < y) (hm : ∀ i, i ∈ ss ↔ i ∈ zs) : sortZ ss = zs := by
  have hp : ss.Perm zs := (List.perm_ext_iff_of_nodup h (hz.imp fun q e => by omega)).2 hm
  rw [sortZ_eq hp]
  exact sortZ_same (hz.imp fun q => by omega)
theorem strs_of {ss zs : List (List UInt8)} (h : ss.Nodup) (hn : zs.Nodup) (hz : zs.Pairwise fun x y => x ≤ y) (hm : ∀ i, i ∈ ss ↔ i ∈ zs) : sortS ss = zs := by
  have hp : ss.Perm zs := (List.perm_ext_iff_of_nodup h hn).2 hm
  rw [sortS_eq hp]
  exact sortS_same hz
theorem sum_perm (f : Int → Nat) {ss zs : List Int} (h : ss.Perm zs) : (ss.map f).sum = (zs.map f).sum := (h.map f).sum_nat
theorem flds_new {W : World} {fs : List (List UInt8 × List UInt8)} (g c : Nat) (hc : Cells W g 73 (cellsF fs).toArray) (hle : c = fs.length) (hl : (cellsF fs).length = fs.length * 2) (hm : fs.length ≤ 1000) : Flds W (.slice (some ⟨g, 0, none⟩) fs.length c) fs := by
  subst hle
  refine flds_of_own (base := 0) ⟨hl, .inr ⟨g, fs.length, _, rfl, Nat.zero_le _, hc, Nat.le_refl _, by unfold maxLen; omega, by simp [hl], ?_⟩⟩
  rw [List.take_of_length_le (by simp [hl])]
theorem IdxL.bareT {S : Nat} {w : World} {T : Nat → Tag} {x kb yb n : Nat} {rs : List Sz} (h : IdxL S w T x kb yb n rs) : IdxL S w (bareT T w.heap.size) x kb yb n rs :=
  ⟨h.at_.bareT, fun c hc => by rw [bareT_lt (Nat.lt_of_lt_of_le hc h.size)]; exact h.low c hc, h.size, h.n⟩
/-- Put of fields that were laid just now. -/
theorem put_new {S : Nat} {w : World} {T : Nat → Tag} {x kb yb n : Nat} {rs : List Sz} (h : IdxL S w T x kb yb n rs) (id : Int) (hw : (Lit.int .i64 id).wf = true) (h1 : 1 ≤ id) (fs : List (List UInt8 × List UInt8)) (hn : n + 1 + 2 * fs.length ≤ 800000) (hl : (cellsF fs).length = fs.length * 2) (hm : fs.length ≤ 1000)
    (hf : ∀ f ∈ fs, f.1.length ≤ maxLen ∧ f.2.length ≤ maxLen) :
    Calls Tryz.prog 38 #[.pointer (some ⟨x, 0, none⟩), .int .i64 id, .slice (some ⟨w.heap.size, 0, none⟩) fs.length fs.length] (w.alloc (.cells (cellsF fs).toArray 73)) fun e w' => e = .returned .nilIface ∧
      ∃ T', IdxL S w' T' x kb yb (n + 1 + 2 * fs.length) (putZ rs id fs) ∧ Below S w w' := by
  have hb : Below w.heap.size w (w.alloc (.cells (cellsF fs).toArray 73)) := (Below.refl _ _).alloc (Nat.le_refl _) _
  have hi := h.bareT.below hb (Nat.le_refl _)
  have hc := Cells.new w 73 (cellsF fs).toArray
  refine (put_L hi id hw h1 _ fs (fun W hW => flds_new w.heap.size fs.length ((hW.same _ hc.lt (fun e => ?_)).trans hc) rfl hl hm) hn hf).mono ?_
  · unfold OfIdx at e
    rw [bareT_lt hc.lt, bareT_ge (Nat.le_refl _)] at e
    exact e rfl
  · rintro e w' ⟨rfl, T', _, hi', ho⟩
    exact ⟨rfl, T', hi', (hb.mono h.size).trans (hi.only (T' := T') ho)⟩
theorem nums_new (w : World) (zs : List Int) (hl : zs.length ≤ 1000) : Nums (w.alloc (.cells (zs.map encZ).toArray 3)) (.slice (some ⟨w.heap.size, 0, none⟩) zs.length zs.length) zs :=
  Nums.row (base := 0) ⟨by simp, .inr ⟨w.heap.size, zs.length, _, rfl, Nat.zero_le _, Cells.new w _ _, Nat.le_refl _, by unfold maxLen; omega, by simp, by simp [List.take_of_length_le]⟩⟩
theorem strs_new (w : World) (ss : List (List UInt8)) (hl : ss.length ≤ 1000) : Strs (w.alloc (.cells (ss.map encStr).toArray 9)) (.slice (some ⟨w.heap.size, 0, none⟩) ss.length ss.length) (ss.map B) :=
  strs_row (base := 0) ⟨by simp, .inr ⟨w.heap.size, ss.length, _, rfl, Nat.zero_le _, Cells.new w _ _, Nat.le_refl _, by unfold maxLen; omega, by simp, by simp [List.take_of_length_le]⟩⟩
def f8a : List (List UInt8 × List UInt8) := [([65], [120]), ([65], [121])]
def f8b : List (List UInt8 × List UInt8) := [([65], [120])]
def r8 : List Sz := [(1, f8a), (2, f8b)]
theorem r8_is : putZ (putZ [] 1 f8a) 2 f8b = r8 := by decide
theorem f8 (i : Int) : fOf r8 [65] [120] i = if i = 1 then 1 else if i = 2 then 1 else 0 := by
  show (if i = (1 : Int) then cntF [65] [120] f8a else 0) + ((if i = (2 : Int) then cntF [65] [120] f8b else 0) + 0) = _
  rw [show cntF [65] [120] f8a = 1 by decide, show cntF [65] [120] f8b = 1 by decide]
  split
  · rename_i h; subst h; rfl
  · rename_i h; simp
set_option maxRecDepth 100000 in
set_option maxHeartbeats 4000000 in
theorem idxAlive (w : World) : Calls Tryz.prog 36 #[] w fun e w' => e = .returned (.bool true) ∧ Below w.heap.size w w' := by
  have NW := Lib.hid (new_L w)
  go_enter Tryz.func36, Tryz.ntmps36
  go_wp2_with fail
  refine NW.out.mono ?_
  rintro e w1 ⟨rfl, T, hi, hb⟩
  obtain ⟨x, hx⟩ : ∃ x, x = w.heap.size + 2 := ⟨_, rfl⟩
  rw [← hx] at hi ⊢
  have HI := Lib.hid hi
  have HB := Lib.hid hb
  have HX := Lib.hid hx
  clear hi hb hx NW
  go_wp2_with fail
  have P1 := Lib.hid (put_new HI.out 1 (by decide) (by decide) f8a (by decide) (by decide) (by decide) (by decide))
  refine P1.out.mono ?_
  rintro e w2 ⟨rfl, T2, hi, hb⟩
  have HI2 := Lib.hid hi
  have HB2 := Lib.hid (HB.out.trans hb)
  clear hi hb P1 HI HB
  have hsz2 : Hid (w.heap.size ≤ w2.heap.size) := HB2.out.size
  go_wp2_with fail
  have P2 := Lib.hid (put_new HI2.out 2 (by decide) (by decide) f8b (by decide) (by decide) (by decide) (by decide))
  refine P2.out.mono ?_
  rintro e w3 ⟨rfl, T3, hi, hb⟩
  rw [r8_is] at hi
  have HI3 := Lib.hid hi
  have HB3 := Lib.hid (HB2.out.trans hb)
  clear hi hb P2 HI2 HB2
  go_wp2_with fail
  have EQ := Lib.hid (idxEqual HI3.out.at_ (by decide) ⟨#[65]⟩ ⟨#[120]⟩ (by decide) (by decide))
  refine EQ.out.mono ?_
  rintro e w4 ⟨v, ss, rfl, hn, hm, ha⟩
  have e4 : sortZ ss = [1, 2] := ints_of hn (by decide) (fun i => by
    rw [hm]
    show 0 < fOf r8 [65] [120] i ↔ _
    rw [f8]
    by_cases h1 : i = 1
    · subst h1; decide
    · by_cases h2 : i = 2
      · subst h2; decide
      · rw [if_neg h1, if_neg h2]; simp [h1, h2])
  have N4 := ha.nums
  rw [e4] at N4
  obtain ⟨va, vc, rfl, hvc, hcell⟩ := _root_.id N4
  have HN := Lib.hid N4
  have HB4 := Lib.hid (HB3.out.trans (ha.2.2.mono HB3.out.size))
  have HI4 := Lib.hid (HI3.out.below ha.2.2 (Nat.le_refl _))
  clear hn hm ha e4 N4 EQ hcell HI3 HB3
  have hsz4 : Hid (w.heap.size ≤ w4.heap.size) := HB4.out.size
  go_wp2_with fail
  have IA := Lib.hid (ints_any _ _ [1, 2] [1, 2] _ (HN.out.below ((Below.refl w4.heap.size w4).alloc (Nat.le_refl _) (.cells (([1, 2] : List Int).map encZ).toArray 3)) (Nat.le_refl _)) (nums_new w4 [1, 2] (by decide)) (by decide) (by decide))
  have hb5 : Below w4.heap.size w4 (w4.alloc (.cells (([1, 2] : List Int).map encZ).toArray 3)) := (Below.refl _ _).alloc (Nat.le_refl _) _
  have HB5 := Lib.hid (HB4.out.trans (hb5.mono HB4.out.size))
  have HI5 := Lib.hid (HI4.out.below hb5 (Nat.le_refl _))
  clear hb5 HB4 HI4 HN
  refine IA.out.mono ?_
  rintro e w5 ⟨rfl, hb⟩
  have HB6 := Lib.hid (HB5.out.trans (hb.mono HB5.out.size))
  have HI6 := Lib.hid (HI5.out.below hb (Nat.le_refl _))
  clear hb IA HB5 HI5
  go_wp2_with fail
  have VA := Lib.hid (idxValues HI6.out.at_ (by decide) ⟨#[65]⟩ (by decide))
  refine VA.out.mono ?_
  rintro e w6 ⟨v, ss, rfl, hn, hm, ha⟩
  have e4 : sortS ss = [[120], [121]] := strs_of hn (by decide) (by decide) (fun s => by
    rw [hm]
    show (∃ i, 0 < fOf r8 [65] s i) ↔ _
    constructor
    · rintro ⟨i, hi⟩
      obtain ⟨st, h1, h2, h3⟩ := fOf_pos hi
      rcases List.mem_cons.1 h1 with rfl | h1
      · rcases List.mem_cons.1 h3 with h3 | h3
        · cases h3; decide
        · rw [List.mem_singleton.1 h3 |> fun q => (Prod.mk.inj q).2]; decide
      · rw [List.mem_singleton] at h1
        subst h1
        rw [List.mem_singleton.1 h3 |> fun q => (Prod.mk.inj q).2]; decide
    · intro h
      rcases List.mem_cons.1 h with rfl | h
      · exact ⟨1, by decide⟩
      · rw [List.mem_singleton.1 h]; exact ⟨1, by decide⟩)
  have N4 := ha.strs
  rw [e4] at N4
  obtain ⟨ua, uc, rfl, huc, hcell⟩ := _root_.id N4
  have HN := Lib.hid N4
  have HB7 := Lib.hid (HB6.out.trans (ha.2.2.mono HB6.out.size))
  have HI7 := Lib.hid (HI6.out.below ha.2.2 (Nat.le_refl _))
  clear hn hm ha e4 N4 VA hcell HI6 HB6
  go_wp2_with fail
  have TA := Lib.hid (texts_any _ _ _ _ _ (HN.out.below ((Below.refl w6.heap.size w6).alloc (Nat.le_refl _) (.cells (([[120], [121]] : List (List UInt8)).map encStr).toArray 9)) (Nat.le_refl _)) (strs_new w6 [[120], [121]] (by decide)) (by decide) (by decide))
  have hb5 : Below w6.heap.size w6 (w6.alloc (.cells (([[120], [121]] : List (List UInt8)).map encStr).toArray 9)) := (Below.refl _ _).alloc (Nat.le_refl _) _
  have HB8 := Lib.hid (HB7.out.trans (hb5.mono HB7.out.size))
  have HI8 := Lib.hid (HI7.out.below hb5 (Nat.le_refl _))
  clear hb5 HB7 HI7 HN
  refine TA.out.mono ?_
  rintro e w7 ⟨rfl, hb⟩
  have HB9 := Lib.hid (HB8.out.trans (hb.mono HB8.out.size))
  have HI9 := Lib.hid (HI8.out.below hb (Nat.le_refl _))
  clear hb TA HB8 HI8
  rw [decide_eq_true (rfl : ([[120], [121]] : List (List UInt8)).map B = [[120], [121]].map B)]
  go_wp2_with fail
  have hT : ∀ ss : List Int, ss.Nodup → (ss.map (fOf r8 [65] [120])).sum ≤ 1000000 := fun ss h => Nat.le_trans (fOf_sum [65] [120] r8 ss h) (by decide)
  have CO := Lib.hid (idxCount HI9.out.at_ ⟨#[65]⟩ ⟨#[120]⟩ (by decide) (by decide) hT)
  refine CO.out.mono ?_
  rintro e w8 ⟨ss, he, hn, hm, ho⟩
  have e9 : (ss.map (fOf r8 [65] [120])).sum = 2 := by
    have hp : ss.Perm [1, 2] := (List.perm_ext_iff_of_nodup hn (by decide)).2 (fun i => by
      rw [hm]
      show 0 < fOf r8 [65] [120] i ↔ _
      rw [f8]
      by_cases h1 : i = 1
      · subst h1; decide
      · by_cases h2 : i = 2
        · subst h2; decide
        · rw [if_neg h1, if_neg h2]; simp [h1, h2])
    rw [sum_perm _ hp]
    decide
  have e10 : (((ss.map (fOf r8 [65] [120])).sum : Nat) : Int) = 2 := by rw [e9]; rfl
  have HB10 := Lib.hid (HB9.out.trans (ho.to_below HB9.out.size (fun _ _ h => h)))
  obtain rfl : e = .returned (.int .i64 2) := he.trans (congrArg (fun z : Int => Ending.returned (.int .i64 z)) e10)
  clear hn hm ho e9 CO hT he
  go_wp2_with fail
  go_ret
  exact ⟨rfl, HB10.out⟩
end Go.Proofs.YtiebbgbcojgeoaaGreatDoor

namespace Go.Proofs.YtiebbgbcojgeoaaGreatDoor
open Go.RowKit Go.Maps Go.Sort Go.Shelf

theorem numF_append (a b : List Sz) : numF (a ++ b) = numF a + numF b := by unfold numF; rw [List.map_append, List.sum_append]
theorem numF_take (rs : List Sz) (j : Nat) : numF (rs.take j) ≤ numF rs := by
  have h := numF_append (rs.take j) (rs.drop j)
  rw [List.take_append_drop] at h
  omega
theorem take_nodup {rs : List Sz} (nd : (rs.map Prod.fst).Nodup) {j : Nat} {s : Sz} (h : rs[j]? = some s) : idsOf (rs.take j) s.1 = false := by
  rw [Bool.eq_false_iff]
  intro e
  rw [idsOf_iff] at e
  have h2 : rs.take (j + 1) = rs.take j ++ [s] := by rw [List.take_add_one, h]; rfl
  have h3 : ((rs.take (j + 1)).map Prod.fst).Nodup := nd.sublist ((List.take_sublist _ _).map _)
  rw [h2, List.map_append] at h3
  exact (List.nodup_append.1 h3).2.2 _ e _ (List.mem_singleton.2 rfl) rfl
set_option maxRecDepth 100000 in
set_option maxHeartbeats 4000000 in
theorem ofI_any (q : Option Addr) (rs : List Stz) (w : World) (hS : ∀ W, Below w.heap.size w W → Calls Tryz.prog 27 #[.pointer q] W fun e w' => ∃ u fvs, e = .returned u ∧ AccZ W.heap.size W w' u fvs rs)
    (hid : ∀ s ∈ rs, (Lit.int .i64 s.1).wf = true) (nd : (rs.map Prod.fst).Nodup) (hf : ∀ s ∈ rs, ∀ f ∈ s.2, f.1.length ≤ maxLen ∧ f.2.length ≤ maxLen) (hn : rs.length + 2 * numF rs ≤ 800000) :
    Calls Tryz.prog 37 #[.pointer q] w fun e w' => ∃ x kb yb T, e = .returned (.pointer (some ⟨x, 0, none⟩)) ∧ IdxL w.heap.size w' T x kb yb (rs.length + 2 * numF rs) rs ∧ Below w.heap.size w w' := by
  have NW := Lib.hid (new_L w)
  have HS := Lib.hid hS
  have HF := Lib.hid hf
  have HD := Lib.hid nd
  have HI := Lib.hid hid
  have HN : Hid (∀ j, j ≤ rs.length → j + 2 * numF (rs.take j) ≤ 800000) := fun j hj => by have := numF_take rs j; omega
  have hrl : rs.length ≤ 800000 := by omega
  clear hS hf nd hid
  go_enter Tryz.func37, Tryz.ntmps37
  go_wp2_with fail
  refine NW.out.mono ?_
  rintro e w1 ⟨rfl, T, hi, hb⟩
  obtain ⟨x, hx⟩ : ∃ x, x = w.heap.size + 2 := ⟨_, rfl⟩
  rw [← hx] at hi ⊢
  have HI1 := Lib.hid hi
  have HB1 := Lib.hid hb
  have ST := Lib.hid (HS.out w1 hb)
  clear hi hb hx NW
  go_wp2_with fail
  refine ST.out.mono ?_
  rintro e w2 ⟨u, fvs, rfl, acc⟩
  obtain ⟨ua, uc, rfl, huc⟩ := own_slice acc.row
  have I2 := HI1.out.bareT.below acc.below (Nat.le_refl _)
  obtain ⟨T2, hT2⟩ : ∃ T2, T2 = bareT T w1.heap.size := ⟨_, rfl⟩
  rw [← hT2] at I2
  have HT2 : Hid (∀ c, w1.heap.size ≤ c → T2 c = (0, [], [])) := fun c hc => by rw [hT2]; exact bareT_ge hc
  have HI2 := Lib.hid I2
  have HB2 := Lib.hid (HB1.out.trans (acc.below.mono HB1.out.size))
  have HA := Lib.hid acc
  clear I2 acc ST hT2 HI1
  go_wp2_with fail
  go_loopw [10] (fun i wr => ∃ (j : Nat) (T' : Nat → Tag), j ≤ rs.length ∧ i = .int .i64 j ∧ (∀ c, c < w2.heap.size → T' c = T2 c) ∧ IdxL w.heap.size wr T' x w.heap.size (w.heap.size + 1) (j + 2 * numF (rs.take j)) (rs.take j) ∧ Only (OfIdx T2) w2 wr) (fun i _ => rs.length - (intOf i).toNat)
  case atStart => exact ⟨0, T2, Nat.zero_le _, rfl, fun _ _ => rfl, HI2.out, Only.refl _ _⟩
  case round =>
    obtain ⟨j, T', hj, rfl, ht, hi, ho⟩ := hrel
    by_cases hlt : j < rs.length
    · obtain ⟨s, hs⟩ : ∃ s, rs[j]? = some s := ⟨_, List.getElem?_eq_getElem hlt⟩
      obtain ⟨fx, hfx⟩ : ∃ y, fvs[j]? = some y := ⟨_, List.getElem?_eq_getElem (by rw [HA.out.len]; exact hlt)⟩
      have nb : ∀ {e size n xs} {v : Value}, w2.ownsRow w1.heap.size e size v n xs → ∀ b, v.ownBlock = some b → ¬ OfIdx T2 b := fun hrow b hb hq => by
        unfold OfIdx at hq
        rw [HT2.out b (hrow.lt b hb).1] at hq
        exact hq rfl
      have hrow := row_only HA.out.row ho (nb HA.out.row)
      have hx1 := HA.out.each j s fx hs hfx
      obtain ⟨xa, xc, rfl, _⟩ := own_slice hx1
      obtain ⟨g, cg, hug⟩ := Joins.ownsRow_form hrow (by omega)
      obtain ⟨z0, z1⟩ := stzCells_at rs fvs j s _ hs hfx
      rw [hug] at hrow
      have c0 : wr.cell? ⟨g, j * 2, none⟩ = some (.int .i64 s.1) := by rw [World.ownsRow.cellAt hrow (j * 2) (by omega), z0]
      have c1 : wr.cell? ⟨g, j * 2 + 1, none⟩ = some (.slice xa s.2.length xc) := by rw [World.ownsRow.cellAt hrow (j * 2 + 1) (by omega), z1]
      injection hug with q1 _ q3
      subst q1 q3
      obtain ⟨wa, hwa⟩ : ∃ wa, wa = wr.alloc (.cells #[.int .i64 s.1, .slice xa s.2.length xc] 63) := ⟨_, rfl⟩
      have hba : Below wr.heap.size wr wa := by rw [hwa]; exact (Below.refl _ _).alloc (Nat.le_refl _) _
      have ia := hi.bareT.below hba (Nat.le_refl _)
      have hmem := List.mem_of_getElem? hs
      have hsz := ho.size
      have tb : ∀ c, c < w2.heap.size → bareT T' wr.heap.size c = T2 c := fun c hc => (bareT_lt (by omega)).trans (ht c hc)
      have tr : ∀ W, Only (OfIdx (bareT T' wr.heap.size)) wa W → Only (OfIdx T2) w2 W := fun W hW => (ho.below hba hsz).trans hW fun r hr e => by unfold OfIdx at e ⊢; rwa [tb r hr] at e
      have h2 : rs.take (j + 1) = rs.take j ++ [(s.1, s.2)] := by rw [List.take_add_one, hs]; rfl
      have hnj := HN.out (j + 1) hlt
      have hnf : numF (rs.take (j + 1)) = numF (rs.take j) + s.2.length := by rw [h2, numF_append]; simp [numF]
      have KN := know_any ia.at_ s.1 (HI.out s hmem) (.slice xa s.2.length xc) s.2 (fun W hW => flds_of_own (row_only hx1 (tr W hW) (nb hx1))) (by omega) (fun k v => fOf_out _ k v _ (take_nodup HD.out hs)) (HF.out s hmem) ia.size
      have e1 := idsOf_snoc (rs.take j) s.1 s.2
      have e2 := fOf_snoc (rs.take j) s.1 s.2
      rw [← h2] at e1 e2
      rw [e1, e2] at KN
      have HK := Lib.hid KN
      have FIN : Hid (∀ w5 T5, (∀ c, c < wa.heap.size → T5 c = bareT T' wr.heap.size c) → IdxAt w5 T5 w.heap.size x w.heap.size (w.heap.size + 1) (j + 2 * numF (rs.take j) + 1 + 2 * s.2.length) (idsOf (rs.take (j + 1))) (fOf (rs.take (j + 1))) → Only (OfIdx (bareT T' wr.heap.size)) wa w5 →
          (∀ c, c < w2.heap.size → T5 c = T2 c) ∧ IdxL w.heap.size w5 T5 x w.heap.size (w.heap.size + 1) (j + 1 + 2 * numF (rs.take (j + 1))) (rs.take (j + 1)) ∧ Only (OfIdx T2) w2 w5) := fun w5 T5 ht5 hi5 ho5 => by
        have hws : w2.heap.size ≤ wa.heap.size := Nat.le_trans hsz hba.size
        have e3 : ∀ c, c < w2.heap.size → T5 c = T2 c := fun c hc => (ht5 c (by omega)).trans (tb c hc)
        refine ⟨e3, ⟨hi5.mono (by omega), fun c hc => ?_, Nat.le_trans ia.size ho5.size, by omega⟩, tr _ ho5⟩
        have hw2 : w.heap.size ≤ w2.heap.size := HI2.out.size
        rw [e3 c (by omega)]; exact HI2.out.low c hc
      clear KN e1 e2 hnf hnj h2 tr tb ia hba hi ho ht hx1 hrow z0 z1 hs hfx nb hmem
      subst hwa
      go_wp2_with fail
      refine HK.out.mono ?_
      rintro e w5 ⟨rfl, T5, q1, q2, q3⟩
      obtain ⟨p1, p2, p3⟩ := FIN.out w5 T5 q1 q2 q3
      have P := Lib.hid (And.intro p1 (And.intro p2 p3))
      clear q1 q2 q3 p1 p2 p3 HK FIN
      go_wp2_with fail
      exact ⟨⟨j + 1, T5, hlt, by go_num, P.out.1, P.out.2.1, P.out.2.2⟩, by simp [intOf]; omega⟩
    · obtain rfl : j = rs.length := by omega
      rw [List.take_length] at hi
      have HL := Lib.hid hi
      have HBW := Lib.hid (HB2.out.trans (HI2.out.only (T' := T2) ho))
      clear hi ho ht
      go_wp2_with fail
      go_ret
      exact ⟨_, _, _, _, rfl, HL.out, HBW.out⟩
end Go.Proofs.YtiebbgbcojgeoaaGreatDoor

namespace Go.Proofs.YtiebbgbcojgeoaaGreatDoor
open Go.RowKit Go.Maps Go.Sort Go.Shelf

theorem sum_ge (f : Int → Nat) : ∀ ss : List Int, (∀ i ∈ ss, 0 < f i) → ss.length ≤ (ss.map f).sum
  | [], _ => Nat.le_refl _
  | a :: r, h => by
    have ih := sum_ge f r fun i hi => h i (List.mem_cons_of_mem _ hi)
    have := h a List.mem_cons_self
    rw [List.map_cons, List.sum_cons, List.length_cons]; omega
/-- Who has a value is no more than there are fields. -/
theorem had_len {rs : List Sz} {k s : List UInt8} {ss : List Int} (nd : ss.Nodup) (h : ∀ i, i ∈ ss ↔ 0 < fOf rs k s i) : ss.length ≤ numF rs :=
  Nat.le_trans (sum_ge (fOf rs k s) ss fun i hi => (h i).1 hi) (fOf_sum k s rs ss nd)
def allV (rs : List Sz) : List (List UInt8) := rs.flatMap fun s => s.2.map Prod.snd
def allK (rs : List Sz) : List (List UInt8) := rs.flatMap fun s => s.2.map Prod.fst
theorem allV_len : ∀ rs : List Sz, (allV rs).length = numF rs
  | [] => rfl
  | s :: r => by
    have ih := allV_len r
    unfold allV numF at ih ⊢
    rw [List.flatMap_cons, List.length_append, ih, List.length_map, List.map_cons, List.sum_cons]
theorem allK_len : ∀ rs : List Sz, (allK rs).length = numF rs
  | [] => rfl
  | s :: r => by
    have ih := allK_len r
    unfold allK numF at ih ⊢
    rw [List.flatMap_cons, List.length_append, ih, List.length_map, List.map_cons, List.sum_cons]
theorem vals_len {rs : List Sz} {k : List UInt8} {ss : List (List UInt8)} (nd : ss.Nodup) (h : ∀ s, s ∈ ss ↔ ∃ i, 0 < fOf rs k s i) : ss.length ≤ numF rs := by
  rw [← allV_len]
  refine nd.length_le_of_subset fun s hs => ?_
  obtain ⟨i, hi⟩ := (h s).1 hs
  obtain ⟨st, h1, _, h3⟩ := fOf_pos hi
  exact List.mem_flatMap.2 ⟨st, h1, List.mem_map.2 ⟨_, h3, rfl⟩⟩
theorem keys_len {rs : List Sz} {ss : List (List UInt8)} (nd : ss.Nodup) (h : ∀ k, k ∈ ss ↔ ∃ s i, 0 < fOf rs k s i) : ss.length ≤ numF rs := by
  rw [← allK_len]
  refine nd.length_le_of_subset fun k hk => ?_
  obtain ⟨s, i, hi⟩ := (h k).1 hk
  obtain ⟨st, h1, _, h3⟩ := fOf_pos hi
  exact List.mem_flatMap.2 ⟨st, h1, List.mem_map.2 ⟨_, h3, rfl⟩⟩
theorem with_len {rs : List Sz} {k : List UInt8} {p : List UInt8 → Bool} {ss : List Int} (nd : ss.Nodup) (h : ∀ i, i ∈ ss ↔ ∃ s, p s = true ∧ 0 < fOf rs k s i) : ss.length ≤ rs.length := by
  refine Nat.le_trans (nd.length_le_of_subset (l₂ := rs.map Prod.fst) fun i hi => ?_) (Nat.le_of_eq (List.length_map _))
  obtain ⟨s, _, hs⟩ := (h i).1 hi
  obtain ⟨st, h1, h2, _⟩ := fOf_pos hs
  exact List.mem_map.2 ⟨st, h1, h2⟩
/-- Who was met so far. -/
def metB (rs : List Sz) (k : List UInt8) (done : List (List UInt8)) (i : Int) : Bool := done.any fun s => decide (0 < fOf rs k s i)
theorem met_step (rs : List Sz) (k : List UInt8) (done : List (List UInt8)) (s : List UInt8) (W se : List Int) (nW : W.Nodup) (hse : ∀ i, i ∈ se ↔ 0 < fOf rs k s i) : W.countP (metB rs k (done ++ [s])) ≤ W.countP (metB rs k done) + se.length := by
  have e : metB rs k (done ++ [s]) = fun i => metB rs k done i || decide (0 < fOf rs k s i) := by
    funext i; unfold metB; rw [List.any_append]; simp
  have h1 : ∀ l : List Int, l.countP (fun i => metB rs k done i || decide (0 < fOf rs k s i)) ≤ l.countP (metB rs k done) + l.countP (fun i => decide (0 < fOf rs k s i)) := by
    intro l
    induction l with
    | nil => exact Nat.le_refl _
    | cons a r ih =>
      rw [List.countP_cons, List.countP_cons, List.countP_cons]
      cases metB rs k done a <;> cases decide (0 < fOf rs k s a) <;> simp <;> omega
  rw [e]
  refine Nat.le_trans (h1 W) (Nat.add_le_add_left ?_ _)
  rw [List.countP_eq_length_filter]
  refine List.Nodup.length_le_of_subset (nW.filter _) fun i hi => ?_
  have := (List.mem_filter.1 hi).2
  exact (hse i).2 (by simpa using this)
theorem met_all {rs : List Sz} {k : List UInt8} {done : List (List UInt8)} {W : List Int} (h : ∀ i ∈ W, ∃ s ∈ done, 0 < fOf rs k s i) : W.countP (metB rs k done) = W.length := by
  refine List.countP_eq_length.2 fun i hi => ?_
  obtain ⟨s, h1, h2⟩ := h i hi
  exact List.any_eq_true.2 ⟨s, h1, by simpa using h2⟩
set_option maxRecDepth 100000 in
set_option maxHeartbeats 2000000 in
theorem hasI_any (b : Nat) (v : Value) (zs : List Int) (id : Int) (w : World) (hb : w.cell? ⟨b, 0, none⟩ = some v) (hblt : b < w.heap.size) (hv : Nums w v zs) (hl : zs.length ≤ 1000000) (hid : id ∈ zs) :
    Calls Tryz.prog 49 #[.int .i64 id, .pointer (some ⟨b, 0, none⟩)] w fun e w' => e = .returned (.bool true) ∧ Below w.heap.size w w' := by
  obtain ⟨A, cap, rfl, hle, hc⟩ := hv
  have HID := Lib.hid hid
  clear hid
  go_enter Tryz.func49, Tryz.ntmps49
  go_wp2_with fail
  go_loopw [8] (fun i wr => ∃ k : Nat, k ≤ zs.length ∧ i = .int .i64 k ∧ id ∉ zs.take k ∧ Below w.heap.size w wr) (fun i _ => zs.length - (intOf i).toNat)
  case atStart => exact ⟨0, Nat.zero_le _, rfl, by simp, Below.refl _ _⟩
  case round =>
    obtain ⟨k, hk, rfl, he, hbl⟩ := hrel
    by_cases hlt : k < zs.length
    · obtain ⟨z, e1⟩ : ∃ z, zs[k]? = some z := ⟨_, List.getElem?_eq_getElem hlt⟩
      obtain ⟨g, off, rfl, hg, c1⟩ := hc k _ e1
      replace c1 := (hbl.cell (p := ⟨g, off + k, none⟩) hg).trans c1
      have E := Lib.hid he
      have T1 : Hid (zs.take (k + 1) = zs.take k ++ [z]) := by show _ = _; rw [List.take_add_one, e1]; rfl
      clear hc e1 he
      by_cases hxy : z = id
      · subst hxy
        go_wp2_with fail
        go_ret
        exact ⟨rfl, hbl⟩
      · have hx4 : (z == id) = false := by simpa using hxy
        go_wp2_with fail
        go_roundw
        case rel => exact ⟨k + 1, hlt, by go_num, by rw [T1.out]; intro q; rcases List.mem_append.1 q with q | q; exact E.out q; exact hxy (List.mem_singleton.1 q).symm, hbl⟩
        case measure => simp [intOf]; omega
    · obtain rfl : k = zs.length := by omega
      rw [List.take_of_length_le (Nat.le_refl _)] at he
      exact absurd HID.out he
end Go.Proofs.YtiebbgbcojgeoaaGreatDoor

