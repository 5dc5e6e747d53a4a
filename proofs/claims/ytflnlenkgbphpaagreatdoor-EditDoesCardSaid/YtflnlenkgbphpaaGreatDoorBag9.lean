/- Texts put together: NL, NM, NW, EB, EO, EW, HA, ES. -/
import Derived.BigFrame
import Derived.Laws.AppendOwnNone
import Derived.Test.YtflnlenkgbphpaaGreatDoorBaf1
import Derived.Test.YtflnlenkgbphpaaGreatDoorBaf2
import Derived.Test.YtflnlenkgbphpaaGreatDoorBaf3
import Derived.Test.YtflnlenkgbphpaaGreatDoorBaf4
import Derived.Test.YtflnlenkgbphpaaGreatDoorBaf5
import Derived.Test.YtflnlenkgbphpaaGreatDoorBaf6
import Derived.Test.YtflnlenkgbphpaaGreatDoorBaf7
import Derived.Test.YtflnlenkgbphpaaGreatDoorBaf8
import Derived.Test.YtflnlenkgbphpaaGreatDoorBaf9
import Derived.Test.YtflnlenkgbphpaaGreatDoorBaf10
import Derived.Test.YtflnlenkgbphpaaGreatDoorBaf11
import Derived.Test.YtflnlenkgbphpaaGreatDoorBaf12
import Derived.Test.YtflnlenkgbphpaaGreatDoorBaf13
import Derived.Test.YtflnlenkgbphpaaGreatDoorBaf14
import Derived.Test.YtflnlenkgbphpaaGreatDoorBaf15
import Derived.Test.YtflnlenkgbphpaaGreatDoorBaf16
import Derived.Test.YtflnlenkgbphpaaGreatDoorBaf17
import Derived.Test.YtflnlenkgbphpaaGreatDoorBaf18
import Derived.Test.YtflnlenkgbphpaaGreatDoorBaf19
import Derived.Test.YtflnlenkgbphpaaGreatDoorBag1
import Derived.Test.YtflnlenkgbphpaaGreatDoorBag2
import Derived.Test.YtflnlenkgbphpaaGreatDoorBag3
import Derived.Test.YtflnlenkgbphpaaGreatDoorBag5
import Derived.Test.YtflnlenkgbphpaaGreatDoorBag6
import Derived.Test.YtflnlenkgbphpaaGreatDoorBag7
import Derived.Test.YtflnlenkgbphpaaGreatDoorBag8
set_option linter.unusedVariables false
namespace Go.Proofs.YtflnlenkgbphpaaGreatDoor

/-- A blank line's item. -/
structure BlankI (it : It) : Prop where
  kind : it.kind = 1
  fields : it.fields = []
  raw : ∃ l, it.raw = l ++ [10] ∧ (10 : UInt8) ∉ l ∧ kindL l = 1
/-- An item that stands alone. -/
def Itm (it : It) : Prop := Blk it ∨ BlankI it

/-- What a run has made since its beginning isn't taken back. -/
def Made (n : Nat) (p : PS) : Prop := n ≤ p.items.length ∧ (n < p.items.length ∨ p.said ≠ [] ∨ p.fields ≠ [])
theorem Made.endField {n : Nat} {p : PS} (h : Made n p) : Made n (endFieldP p) := by
  unfold endFieldP
  split
  · exact h
  · exact ⟨h.1, .inr (.inr (by simp))⟩
theorem Made.went {n : Nat} {p : PS} (h : Made n p) (x : Ln) : Made n (wentP p x) := by
  unfold wentP
  split
  · exact ⟨h.1, .inr (.inl (by simp))⟩
  · exact h
theorem Made.then_ {n : Nat} {p : PS} (h : Made n p) (x : Ln) : Made n (thenP p x) := by
  unfold thenP
  split
  · exact (h.went x).endField
  · exact h.went x
theorem endBlock_more (t : List UInt8) (p : PS) (e : Nat) : p.items.length ≤ (endBlockP t p e).items.length := by
  unfold endBlockP
  split
  · exact Nat.le_refl _
  · split
    · simp [endItemP]
    · simp [endItemP]
theorem Made.put {n : Nat} {t : List UInt8} {p : PS} (h : Made n p) (x : Ln) : Made n (putP t p x) := by
  unfold putP
  split
  · exact ⟨h.1, .inr (.inl (by simp))⟩
  · split
    · have h1 := endBlock_more t p x.at_
      have h2 : (endItemP t (endBlockP t p x.at_) 1 (x.at_ + x.text.length + 1)).items.length = (endBlockP t p x.at_).items.length + 1 := by simp [endItemP]
      have h3 := h.1
      exact ⟨by omega, .inl (by omega)⟩
    · exact h
theorem Made.take {n : Nat} {t : List UInt8} {p q : PS} {x : Ln} (h : Made n p) (he : takeP t p x = .ok q) : Made n q := by
  obtain ⟨_, _, rfl⟩ := take_parts he
  exact (h.then_ x).put x
theorem Made.run {n : Nat} (t : List UInt8) : ∀ (xs : List Ln) (p q : PS), Made n p → runP t p xs = .ok q → Made n q
  | [], p, q, h, he => by cases he; exact h
  | x :: xs, p, q, h, he => by
    unfold runP at he
    cases ht : takeP t p x with
    | error e => rw [ht] at he; cases he
    | ok p1 =>
      rw [ht] at he
      exact Made.run t xs p1 q (h.take ht) he
theorem made_not {b st a n : Nat} {its : List It} (hn : its.length = n) : ¬ Made n ⟨b, [], its, st, a, []⟩ := by
  rintro ⟨_, h | h | h⟩
  · simp only at h; omega
  · exact h rfl
  · exact h rfl
theorem then_clean {b st a no c : Nat} {its : List It} {l : List UInt8} {e : Bool} (hk : kindL l ≠ 3) : thenP ⟨b, [], its, st, a, []⟩ ⟨no, c, l, e⟩ = ⟨b, [], its, st, a, []⟩ := by
  have hg : goesP ⟨b, [], its, st, a, []⟩ ⟨no, c, l, e⟩ = false := goes_kind hk
  unfold thenP wentP
  rw [hg]
  simp [endFieldP]
/-- Lines that make nothing do nothing, with however many stanzas behind them. -/
theorem run_notes {t : List UInt8} : ∀ (ts : List (List UInt8)) (b st a no c : Nat) (its : List It) (b' : Nat), runP t ⟨b, [], its, st, a, []⟩ (num no c ts) = .ok ⟨b', [], its, st, a, []⟩ →
    ∀ (t' : List UInt8) (b2 st2 a2 no2 c2 : Nat) (its2 : List It), runP t' ⟨b2, [], its2, st2, a2, []⟩ (num no2 c2 ts) = .ok ⟨b2, [], its2, st2, a2, []⟩
  | [], b, st, a, no, c, its, b', h, t', b2, st2, a2, no2, c2, its2 => rfl
  | l :: r, b, st, a, no, c, its, b', h, t', b2, st2, a2, no2, c2, its2 => by
    have h' : (match takeP t ⟨b, [], its, st, a, []⟩ ⟨no, c, l, true⟩ with | .error e => Except.error e | .ok q' => runP t q' (num (no + 1) (c + l.length + 1) r)) = .ok ⟨b', [], its, st, a, []⟩ := h
    cases ht : takeP t ⟨b, [], its, st, a, []⟩ ⟨no, c, l, true⟩ with
    | error e => rw [ht] at h'; cases h'
    | ok q =>
      rw [ht] at h'
      dsimp only at h'
      obtain ⟨g1, g2, hq⟩ := take_parts ht
      have hk3 : kindL l ≠ 3 := by
        intro e
        unfold wrongP goesP at g2
        simp [e] at g2
      have hk5 : kindL l ≠ 5 := by
        intro e
        unfold wrongP at g2
        simp [e] at g2
      rw [then_clean hk3] at hq
      have hk4 : kindL l ≠ 4 := by
        intro e
        have hm : Made its.length q := by
          rw [hq]; unfold putP
          rw [if_pos (by exact e)]
          exact ⟨Nat.le_refl _, .inr (.inl (by simp))⟩
        exact made_not rfl (Made.run t _ _ _ hm h')
      have hk1 : kindL l ≠ 1 := by
        intro e
        have hm : Made its.length q := by
          rw [hq]; unfold putP
          rw [if_neg (by exact hk4), if_pos (by exact e)]
          have h1 := endBlock_more t ⟨b, [], its, st, a, []⟩ c
          have h2 : (endItemP t (endBlockP t ⟨b, [], its, st, a, []⟩ c) 1 (c + l.length + 1)).items.length = (endBlockP t ⟨b, [], its, st, a, []⟩ c).items.length + 1 := by simp [endItemP]
          simp only at h1
          exact ⟨by show its.length ≤ (endItemP t (endBlockP t ⟨b, [], its, st, a, []⟩ c) 1 (c + l.length + 1)).items.length; omega, .inl (by show its.length < (endItemP t (endBlockP t ⟨b, [], its, st, a, []⟩ c) 1 (c + l.length + 1)).items.length; omega)⟩
        exact made_not rfl (Made.run t _ _ _ hm h')
      have hput : ∀ (t : List UInt8) (p : PS) (no c : Nat), putP t p ⟨no, c, l, true⟩ = p := fun t p no c => by
        unfold putP
        rw [if_neg (by exact hk4), if_neg (by exact hk1)]
      rw [hput] at hq
      subst hq
      have ih := run_notes r b st a (no + 1) (c + l.length + 1) its b' h' t' b2 st2 a2 (no2 + 1) (c2 + l.length + 1) its2
      have tk := take_else (t := t') (p := ⟨b2, [], its2, st2, a2, []⟩) (no := no2) (c := c2) hk3 hk5 rfl
      rw [show endFieldP ⟨b2, [], its2, st2, a2, []⟩ = ⟨b2, [], its2, st2, a2, []⟩ from rfl, hput] at tk
      show runP t' _ (⟨no2, c2, l, true⟩ :: num (no2 + 1) (c2 + l.length + 1) r) = _
      rw [run_cons tk]
      exact ih
/-- A block that stands alone, wherever it stands. -/
theorem Blk.here {it : It} (h : Blk it) : ∃ ts said fields, it.raw = textL ts ∧ (∀ l ∈ ts, (10 : UInt8) ∉ l) ∧ ∀ (t : List UInt8) (b st a no c e : Nat) (its : List It), (it.kind = 3 → st ≤ 399) → (t.take e).drop a = it.raw → a < e →
    ∃ b', runP t ⟨b, [], its, st, a, []⟩ (num no c ts) = .ok ⟨b', said, its, st, a, fields⟩ ∧ endFieldN ⟨b', said, its, st, a, fields⟩ = 0 ∧ endBlockP t (endFieldP ⟨b', said, its, st, a, fields⟩) e = ⟨b', [], its ++ [it], st + (if it.kind = 3 then 1 else 0), e, []⟩ := by
  obtain ⟨kind, raw, fs⟩ := it
  have hk := h.kind
  obtain ⟨ts, said, fields, d1, d2, d3, d4, d5⟩ := h.does
  dsimp only at hk d1 d5 ⊢
  by_cases hf : fs = []
  · rw [if_pos hf] at hk
    subst hf hk
    have hs : said = [] ∧ fields = [] := by
      unfold endFieldP at d5
      split at d5
      · rename_i hs; exact ⟨hs, d5⟩
      · simp at d5
    obtain ⟨rfl, rfl⟩ := hs
    obtain ⟨b0, h0⟩ := d3 [] 0 0 0 0 0 [] (by decide)
    refine ⟨ts, [], [], d1, d2, fun t b st a no c e its _ hr hae => ⟨b, run_notes ts 0 0 0 0 0 [] b0 h0 t b st a no c its, rfl, ?_⟩⟩
    rw [show endFieldP ⟨b, [], its, st, a, []⟩ = ⟨b, [], its, st, a, []⟩ from rfl]
    unfold endBlockP
    rw [if_neg (by show ¬ a = e; omega), if_pos (show (⟨b, [], its, st, a, []⟩ : PS).fields.length = 0 from rfl)]
    unfold endItemP
    dsimp only
    rw [hr]; rfl
  · rw [if_neg hf] at hk
    subst hk
    refine ⟨ts, said, fields, d1, d2, fun t b st a no c e its hst hr hae => ?_⟩
    obtain ⟨b', hrun⟩ := d3 t b st a no c its (hst rfl)
    have e0 := mv_endFieldN b' st a its ⟨0, said, [], 0, 0, fields⟩ (hst rfl) d4
    have e1 := mv_endField b' st a its ⟨0, said, [], 0, 0, fields⟩
    refine ⟨b', hrun, e0, ?_⟩
    rw [show (⟨b', said, its, st, a, fields⟩ : PS) = mv b' st a its ⟨0, said, [], 0, 0, fields⟩ from rfl, e1]
    have es := endField_said ⟨0, said, [], 0, 0, fields⟩
    generalize endFieldP ⟨0, said, [], 0, 0, fields⟩ = p at *
    unfold endBlockP
    rw [show (mv b' st a its p).at_ = a from rfl, show (mv b' st a its p).fields = p.fields from rfl, d5, if_neg (by omega), if_neg (fun q => hf (List.length_eq_zero_iff.1 q))]
    show (⟨b', p.said, its ++ [⟨3, (t.take e).drop a, p.fields⟩], st + 1, e, []⟩ : PS) = _
    rw [es, hr, d5]; rfl
/-- Of what is parsed: its blank lines. -/
structure MidB (t : List UInt8) (p : PS) (c : Nat) : Prop where
  at_ : p.at_ ≤ c
  bl : ∀ it ∈ p.items, it.kind = 1 → BlankI it
  cur : p.at_ = c → p.fields = [] ∧ p.said = []
theorem MidB.endBlock {t : List UInt8} {p : PS} {c : Nat} (h : MidB t p c) : (∀ it ∈ (endBlockP t (endFieldP p) c).items, it.kind = 1 → BlankI it) ∧ (endBlockP t (endFieldP p) c).fields = [] := by
  unfold endBlockP
  rw [endField_at]
  split
  · rename_i hac
    obtain ⟨h1, h2⟩ := h.cur hac
    refine ⟨by rw [endField_items]; exact h.bl, ?_⟩
    unfold endFieldP
    rw [if_pos h2]; exact h1
  · have key : ∀ (k : Nat), k ≠ 1 → ∀ it ∈ (endItemP t (endFieldP p) k c).items, it.kind = 1 → BlankI it := by
      intro k hk it hi h1
      rcases List.mem_append.1 (show it ∈ (endFieldP p).items ++ [_] from hi) with q | q
      · rw [endField_items] at q; exact h.bl it q h1
      · rw [List.mem_singleton.1 q] at h1
        exact absurd (show ((k : Nat) : Int) = 1 from h1) (by omega)
    split
    · exact ⟨key 2 (by decide), rfl⟩
    · exact ⟨key 3 (by decide), rfl⟩
theorem MidB.take {t : List UInt8} {p q : PS} {x : Ln} (h : MidB t p x.at_) (hen : x.ended = true) (hcl : (10 : UInt8) ∉ x.text) (hrest : ∃ r, t.drop x.at_ = x.bytes ++ r) (hct : x.at_ ≤ t.length) (he : takeP t p x = .ok q) : MidB t q (x.at_ + x.bytes.length) := by
  have hat := h.at_
  obtain ⟨r, hr⟩ := hrest
  have hb : x.bytes = x.text ++ [10] := by unfold Ln.bytes; rw [hen]; simp
  have hbl : x.bytes.length = x.text.length + 1 := by rw [hb]; simp
  by_cases hk : kindL x.text = 1
  · obtain ⟨g1, _, rfl⟩ := take_parts he
    have hg : goesP p x = false := goes_kind (by omega)
    have hw : wentP p x = p := by unfold wentP; rw [hg]; rfl
    have hE : endsP p x = true := by unfold endsP; rw [hg]; simp
    have hth : thenP p x = endFieldP p := by unfold thenP; rw [hE, hw]; rfl
    obtain ⟨l1, l2⟩ := h.endBlock
    have ha : (endBlockP t (endFieldP p) x.at_).at_ = x.at_ := endBlock_at t _ _ (by rw [endField_at]; exact hat)
    unfold putP
    rw [if_neg (by omega), if_pos hk, hth]
    refine ⟨by show x.at_ + x.text.length + 1 ≤ _; omega, fun it hi h1 => ?_, fun _ => ⟨rfl, ?_⟩⟩
    · rcases List.mem_append.1 (show it ∈ (endBlockP t (endFieldP p) x.at_).items ++ [_] from hi) with hi | hi
      · exact l1 it hi h1
      · rw [List.mem_singleton.1 hi]
        refine ⟨rfl, l2, x.text, ?_, hcl, hk⟩
        show (t.take (x.at_ + x.text.length + 1)).drop (endBlockP t (endFieldP p) x.at_).at_ = _
        rw [ha, Nat.add_assoc, List.take_add, hr, ← hbl, List.drop_append_of_le_length (by rw [List.length_take]; omega), List.drop_of_length_le (by rw [List.length_take]; omega), List.take_left' rfl, hb]; rfl
    · show (endBlockP t (endFieldP p) x.at_).said = []
      rw [endBlock_said, endField_said]
  · obtain ⟨k1, k2, k3⟩ := take_keeps hk he
    exact ⟨by rw [k3]; omega, by rw [k1]; exact h.bl, fun q => by rw [k3] at q; omega⟩
theorem MidB.run (t : List UInt8) : ∀ (xs : List Ln) (no c : Nat) (p q : PS), Runs no c xs → no ≤ c → Inv p c → MidB t p c → t.drop c = xs.flatMap Ln.bytes → c ≤ t.length → (∀ x ∈ xs, (10 : UInt8) ∉ x.text) → runP t p xs = .ok q → MidB t q t.length
  | [], no, c, p, q, _, _, _, hm, hr, hct, _, he => by
    cases he
    have : c = t.length := by
      have := congrArg List.length hr
      simp at this; omega
    rw [← this]; exact hm
  | x :: xs, no, c, p, q, hrun, hn, hi, hm, hr, hct, hcl, he => by
    obtain ⟨r1, r2, r3, r4⟩ := hrun
    unfold runP at he
    cases ht : takeP t p x with
    | error e => rw [ht] at he; cases he
    | ok p1 =>
      rw [ht] at he
      dsimp only at he
      rw [List.flatMap_cons] at hr
      rw [← r2] at hi hm hr hct
      obtain ⟨i1, e1⟩ := Inv.take hi (by omega) ht
      have m1 := hm.take e1 (hcl x List.mem_cons_self) ⟨_, hr⟩ hct ht
      have hr2 : t.drop (x.at_ + x.bytes.length) = xs.flatMap Ln.bytes := by
        rw [← List.drop_drop, hr]; simp
      have hct2 : x.at_ + x.bytes.length ≤ t.length := by
        have := congrArg List.length hr
        simp only [List.length_drop, List.length_append] at this
        omega
      rw [r2] at i1 m1 hr2 hct2
      exact MidB.run t xs (no + 1) (c + x.bytes.length) p1 q r4 (by omega) i1 m1 hr2 hct2 (fun y hy => hcl y (List.mem_cons_of_mem _ hy)) he
end Go.Proofs.YtflnlenkgbphpaaGreatDoor

namespace Go.Proofs.YtflnlenkgbphpaaGreatDoor
open Go.RowKit Go.Shelf

/-- Entries whose items stand alone. -/
def ItmL (es : List En) : Prop := ∀ e ∈ es, Itm e.1
theorem ItmL.edit {l : LS} (h : ItmL l.es) (kind id : Int) (fs : List Fld) : ItmL (editR l kind id fs).ls.es := fun e he => by
  rcases edit_mem l kind id fs e he with q | ⟨q, hc⟩
  · exact h e q
  · rw [q]; exact .inl (blk_item hc)
theorem itsP_es {ps : List Pr} {es : List En} (h : ps.map Prod.fst = es) : itsP ps = es.map Prod.fst := by
  rw [← h, List.map_map]; rfl
end Go.Proofs.YtflnlenkgbphpaaGreatDoor

namespace Go.Proofs.YtflnlenkgbphpaaGreatDoor
open Go.RowKit Go.Shelf
attribute [local go_sem] Oper.semAt_some

theorem Mine.below {lo n : Nat} {w w' : World} {v : Value} (h : Mine w lo v n) (hb : Below w.heap.size w w') : Mine w' lo v n := by
  rcases h with h | ⟨g, cap, cur, e, h0, h1, h2, h3⟩
  · exact .inl h
  · have hg : g < w.heap.size := (Array.getElem?_eq_some_iff.1 h2).1
    exact .inr ⟨g, cap, cur, e, h0, h1, (hb.block g hg).trans h2, h3⟩
theorem itsP_E (ps : List Pr) : itsP ps = (ps.map Prod.fst).map Prod.fst := by unfold itsP; rw [List.map_map]; rfl
structure StandIn (w : World) (lb : Nat) (ev v : Value) (ps qs : List Pr) (nx : Int) : Prop where
  st : StR w lb ev ps nx v qs
  es : qs.map Prod.fst = ps.map Prod.fst
  wf : WF (ps.map Prod.fst)
  nd : (nums (ps.map Prod.fst)).Nodup
  ok : EntsOk ps
  nx : -1000000 ≤ nx ∧ nx ≤ 1000000
theorem StandIn.below {w w' : World} {lb : Nat} {ev v : Value} {ps qs : List Pr} {nx : Int} {N : Nat} (h : StandIn w lb ev v ps qs nx) (hb : Below N w w') (hN : w.heap.size ≤ N) : StandIn w' lb ev v ps qs nx :=
  ⟨h.st.below hb hN, h.es, h.wf, h.nd, h.ok, h.nx⟩
theorem StandIn.its {w : World} {lb : Nat} {ev v : Value} {ps qs : List Pr} {nx : Int} (h : StandIn w lb ev v ps qs nx) : itsP qs = itsP ps := by
  rw [itsP_E, itsP_E, h.es]
-- the calls, in whatever world behind
section
variable {w : World} {lb : Nat} {ev v : Value} {ps qs : List Pr} {nx : Int}
end
theorem cSame {rs : List Stz} {x y : Value} {w : World} (hx : Szs w x rs) (hy : Szs w y rs) (hn : rs.length ≤ 1000000) (hf : ∀ s ∈ rs, s.2.length ≤ 1000000) : Calls Tryz.prog 26 #[x, y] w fun e w' => ∃ u, e = .returned u ∧ u = .bool true ∧ Below w.heap.size w w' :=
  (stanzas_quiet rs x y w hx hy hn hf).mono fun e w' ⟨he, m, hw⟩ => ⟨_, he, rfl, by rw [hw]; exact drewN_below (Below.refl _ _) m⟩
end Go.Proofs.YtflnlenkgbphpaaGreatDoor

namespace Go.Proofs.YtflnlenkgbphpaaGreatDoor

structure GkP (p : PS) : Prop where
  fl : ∀ f ∈ p.fields, checkN f.1 f.2 = 0
  each : ∀ it ∈ p.items, (∀ f ∈ it.fields, checkN f.1 f.2 = 0) ∧ (it.kind = 3 → it.fields.length ≠ 0)
theorem GkP.endField {p : PS} (h : GkP p) (h0 : endFieldN p = 0) : GkP (endFieldP p) := by
  unfold endFieldP
  split
  · exact h
  · rename_i hs
    unfold endFieldN at h0
    rw [if_neg hs] at h0
    have hu : unfoldN p.said = 0 := by
      by_cases q : unfoldN p.said = 0
      · exact q
      · rw [if_pos q] at h0; exact h0
    refine ⟨fun f hf => ?_, h.each⟩
    rcases List.mem_append.1 hf with hf | hf
    · exact h.fl f hf
    · rw [List.mem_singleton.1 hf]; exact (unfold_zero hu).1
theorem GkP.endItem {t : List UInt8} {p : PS} (h : GkP p) (kind e : Nat) (hk : kind = 3 → p.fields.length ≠ 0) : GkP (endItemP t p kind e) :=
  ⟨fun f hf => (by cases hf), fun it hi => by
    rcases List.mem_append.1 hi with hi | hi
    · exact h.each it hi
    · rw [List.mem_singleton.1 hi]
      exact ⟨h.fl, fun q => hk (by have q' : ((kind : Nat) : Int) = 3 := q; omega)⟩⟩
theorem GkP.endBlock {t : List UInt8} {p : PS} (h : GkP p) (e : Nat) : GkP (endBlockP t p e) := by
  unfold endBlockP
  split
  · exact h
  · split
    · exact h.endItem 2 e (fun q => absurd q (by decide))
    · rename_i hl
      exact ⟨(h.endItem (t := t) 3 e (fun _ => hl)).fl, (h.endItem (t := t) 3 e (fun _ => hl)).each⟩
theorem GkP.went {p : PS} (h : GkP p) (x : Ln) : GkP (wentP p x) := by
  unfold wentP
  split
  · exact ⟨h.fl, h.each⟩
  · exact h
theorem GkP.take {t : List UInt8} {p q : PS} {x : Ln} (h : GkP p) (he : takeP t p x = .ok q) : GkP q := by
  obtain ⟨h1, _, rfl⟩ := take_parts he
  have h2 : GkP (thenP p x) := by
    unfold thenP
    split
    · rename_i q; exact (h.went x).endField (h1 q)
    · exact h.went x
  unfold putP
  split
  · exact ⟨h2.fl, h2.each⟩
  · split
    · exact ⟨((h2.endBlock x.at_).endItem 1 _ (fun q => absurd q (by decide))).fl, ((h2.endBlock x.at_).endItem 1 _ (fun q => absurd q (by decide))).each⟩
    · exact ⟨h2.fl, h2.each⟩
theorem GkP.run (t : List UInt8) : ∀ (xs : List Ln) (p q : PS), GkP p → runP t p xs = .ok q → GkP q
  | [], p, q, h, he => by cases he; exact h
  | x :: xs, p, q, h, he => by
    unfold runP at he
    cases ht : takeP t p x with
    | error e => rw [ht] at he; cases he
    | ok p1 =>
      rw [ht] at he
      exact GkP.run t xs p1 q (h.take ht) he
/-- All stanzas' fields are a stanza's. -/
def GkL (es : List En) : Prop := ∀ e ∈ es, e.1.kind = 3 → chkN e.1.fields = 0
theorem GkL.edit {l : LS} (h : GkL l.es) (kind id : Int) (fs : List Fld) : GkL (editR l kind id fs).ls.es := fun e he h3 => by
  rcases edit_mem l kind id fs e he with h1 | ⟨h1, h2⟩
  · exact h e h1 h3
  · rw [h1]; exact h2
theorem GkL.on {l : LS} (h : GkL l.es) : ∀ (eds : List Ed), GkL (lsOn l eds).es := by
  intro eds
  induction eds generalizing l with
  | nil => exact h
  | cons ed r ih => exact ih (h.edit ed.kind ed.id ed.fields)

def szE (es : List En) : List (Int × List Fld) := (es.filter fun e => decide (0 < e.2)).map fun e => (e.2, e.1.fields)
theorem szE_len (es : List En) : (szE es).length = lenR es := by unfold szE lenR; rw [List.length_map]
end Go.Proofs.YtflnlenkgbphpaaGreatDoor

namespace Go.Proofs.YtflnlenkgbphpaaGreatDoor
open Go.RowKit Go.Shelf
attribute [local go_sem] Oper.semAt_some

theorem stzL_sz {ps : List Pr} (h : WF (ps.map Prod.fst)) : stzL (stzP 0 ps) = szE (ps.map Prod.fst) := by
  have e1 := stzG_map (κ := fun e : En => e.1.kind) (Prod.fst : Pr → En) 0 ps
  have e2 := stz_filter 0 (ps.map Prod.fst) h
  unfold szE
  rw [← e2]
  show List.map _ (stzP 0 ps) = List.map _ (List.map Prod.snd (stzG (fun e : En => e.1.kind) 0 (ps.map Prod.fst)))
  rw [← e1, List.map_map, List.map_map]
  rfl
end Go.Proofs.YtflnlenkgbphpaaGreatDoor

namespace Go.Proofs.YtflnlenkgbphpaaGreatDoor
open Go.RowKit Go.Shelf
attribute [local go_sem] Oper.semAt_some

/-- Numbers that can be read. -/
def NumsV (w : World) (v : Value) (zs : List Int) : Prop :=
  ∃ A cap, v = .slice A zs.length cap ∧ zs.length ≤ cap ∧ ∀ (i : Nat) (z : Int), zs[i]? = some z → ∃ b off, A = some ⟨b, off, none⟩ ∧ b < w.heap.size ∧ w.cell? ⟨b, off + i, none⟩ = some (.int .i64 z)
theorem NumsV.below {w w' : World} {v : Value} {zs : List Int} {n : Nat} (h : NumsV w v zs) (hb : Below n w w') (hn : w.heap.size ≤ n) : NumsV w' v zs := by
  obtain ⟨A, cap, e, hle, hc⟩ := h
  refine ⟨A, cap, e, hle, fun i z hi => ?_⟩
  obtain ⟨b, off, e1, hbb, c0⟩ := hc i z hi
  exact ⟨b, off, e1, Nat.lt_of_lt_of_le hbb hb.size, (hb.cell (p := ⟨b, off + i, none⟩) (by show b < n; omega)).trans c0⟩
theorem nums_row {w : World} {lo : Nat} {v : Value} {zs : List Int} (h : w.ownsRow lo 3 1 v zs.length (zs.map encI)) : NumsV w v zs := by
  by_cases h0 : zs = []
  · subst h0
    obtain ⟨A, c, rfl, hle⟩ := own_slice h
    exact ⟨A, c, rfl, hle, fun i z hi => by simp at hi⟩
  · have hn : zs.length ≠ 0 := fun e => h0 (List.length_eq_zero_iff.1 e)
    have hrow := h
    obtain ⟨g, cap, hug⟩ := Joins.ownsRow_form hrow (by omega)
    have hle : zs.length ≤ cap := by
      obtain ⟨A, c, e, hle⟩ := own_slice h
      rw [hug] at e; cases e; exact hle
    rw [hug] at hrow
    refine ⟨_, cap, hug, hle, fun i z hi => ?_⟩
    have hil := (List.getElem?_eq_some_iff.1 hi).1
    refine ⟨g, 0, rfl, (hrow.lt g rfl).2, ?_⟩
    have := World.ownsRow.cellAt hrow i (by omega)
    rw [Nat.zero_add, this, List.getElem?_map, hi]; rfl
set_option maxRecDepth 100000 in
set_option maxHeartbeats 4000000 in
theorem ints_same (zs : List Int) (v v' : Value) (w : World) (h : NumsV w v zs) (h' : NumsV w v' zs) (hn : zs.length ≤ 1000000) :
    Calls Tryz.prog 23 #[v, v'] w fun e w' => e = .returned (.bool true) ∧ Below w.heap.size w w' := by
  obtain ⟨A, cap, rfl, hle, hc⟩ := h
  obtain ⟨A', cap', rfl, hle', hc'⟩ := h'
  have PC := Lib.hid hc
  have PC' := Lib.hid hc'
  clear hc hc'
  go_enter Tryz.func23, Tryz.ntmps23
  go_wp2_with fail
  go_loopw [13] (fun i wr => ∃ k : Nat, k ≤ zs.length ∧ i = .int .i64 k ∧ Below w.heap.size w wr) (fun i _ => zs.length - (intOf i).toNat)
  case atStart => exact ⟨0, Nat.zero_le _, rfl, Below.refl _ _⟩
  case round =>
    obtain ⟨k, hk, rfl, hb⟩ := hrel
    by_cases hlt : k < zs.length
    · obtain ⟨z, hz⟩ : ∃ z, zs[k]? = some z := ⟨_, List.getElem?_eq_getElem hlt⟩
      obtain ⟨b, off, rfl, hbb, c0⟩ := PC.out k z hz
      obtain ⟨b', off', rfl, hbb', c0'⟩ := PC'.out k z hz
      replace c0 := (hb.cell (p := ⟨b, off + k, none⟩) hbb).trans c0
      replace c0' := (hb.cell (p := ⟨b', off' + k, none⟩) hbb').trans c0'
      have hne : (z != z) = false := by simp
      have HB := Lib.hid hb
      have HBQ : Hid (∀ m, Below w.heap.size w (wr.drewN m)) := fun m => drewN_below HB.out m
      clear hz PC PC' hb
      go_wp2_with (go_quiet (fail))
      go_roundw
      case rel => exact ⟨k + 1, hlt, by go_num, by first | exact HB.out | exact HBQ.out _ | exact HB.out.drew⟩
      case measure => simp [intOf]; omega
    · obtain rfl : k = zs.length := by omega
      clear PC PC'
      go_wp2_with fail
      go_ret
      exact ⟨rfl, hb⟩
theorem carry_text {S0 : Nat} {w : World} {lb : Nat} {ev : Value} {ps : List Pr} {l : LS} {m : Nat} (C : Carry S0 w lb ev ps l m) (hm : m ≤ 10000) :
    Calls Tryz.prog 24 #[ptr lb] w fun e w' => e = .returned (.string (B ((apartL (l.es.map Prod.fst)).flatMap It.raw))) ∧ Below w.heap.size w w' := by
  have := text_gen ps ev (some ⟨lb, 0, none⟩) w (AllR.of C.la.lr) (C.ents hm)
  rw [itsP_es C.es] at this
  exact this
theorem carry_stanzas {S0 : Nat} {w : World} {lb : Nat} {ev : Value} {ps : List Pr} {l : LS} {m : Nat} (C : Carry S0 w lb ev ps l m) (hm : m ≤ 10000) :
    Calls Tryz.prog 27 #[ptr lb] w fun e w' => ∃ u, e = .returned u ∧ Szs w' u (szE l.es) ∧ Below w.heap.size w w' := by
  refine (stanzas_gen ps ev (some ⟨lb, 0, none⟩) w (fun W hW => AllR.of (C.la.lr.below hW (Nat.le_refl _))) (C.ents hm)).mono ?_
  rintro e w' ⟨u, fvs, rfl, acc⟩
  have hz := acc.szs
  rw [stzL_sz C.wf, C.es] at hz
  exact ⟨u, rfl, hz, acc.below⟩
theorem carry_small {S0 : Nat} {w : World} {lb : Nat} {ev : Value} {ps : List Pr} {l : LS} {m : Nat} (C : Carry S0 w lb ev ps l m) : (szE l.es).length ≤ 1000000 ∧ ∀ s ∈ szE l.es, s.2.length ≤ 1000000 := by
  refine ⟨by rw [szE_len]; have := C.ok.len; omega, fun s hs => ?_⟩
  unfold szE at hs
  obtain ⟨e, he, rfl⟩ := List.mem_map.1 hs
  exact (C.sz e (List.mem_filter.1 he).1).2
end Go.Proofs.YtflnlenkgbphpaaGreatDoor

namespace Go.Proofs.YtflnlenkgbphpaaGreatDoor
open Go.RowKit Go.Shelf
attribute [local go_sem] Oper.semAt_some

set_option maxRecDepth 100000 in
set_option maxHeartbeats 8000000 in
theorem edits_quiet (eds : List Ed) (v v' : Value) (w : World) (h : EdV w v eds) (h' : EdV w v' eds) (hn : eds.length ≤ 1000000) (hf : Fines eds) :
    Calls Tryz.prog 18 #[v, v'] w fun e w' => e = .returned (.bool true) ∧ ∃ m, w' = w.drewN m := by
  obtain ⟨A, cap, rfl, hle, hc⟩ := h
  obtain ⟨A', cap', rfl, hle', hc'⟩ := h'
  have PC := Lib.hid hc
  have PC' := Lib.hid hc'
  have HF := Lib.hid hf
  clear hc hc' hf
  go_enter Tryz.func18, Tryz.ntmps18
  go_wp2_with fail
  go_loopw [13] (fun i wr => ∃ k : Nat, k ≤ eds.length ∧ i = .int .i64 k ∧ ∃ m, wr = w.drewN m) (fun i _ => eds.length - (intOf i).toNat)
  case atStart => exact ⟨0, Nat.zero_le _, rfl, 0, rfl⟩
  case round =>
    obtain ⟨k, hk, rfl, nd, hwr⟩ := hrel
    by_cases hlt : k < eds.length
    · obtain ⟨ed, hed⟩ : ∃ ed, eds[k]? = some ed := ⟨_, List.getElem?_eq_getElem hlt⟩
      obtain ⟨b, off, fv, rfl, hbb, c0, c1, c2, hfl⟩ := PC.out k ed hed
      obtain ⟨b', off', fv', rfl, hbb', c0', c1', c2', hfl'⟩ := PC'.out k ed hed
      have hm := (HF.out ed (List.mem_of_getElem? hed)).len
      have FQ0 : ∀ n, Calls Tryz.prog 32 #[fv, fv'] (wr.drewN n) fun e w' => e = .returned (.bool true) ∧ ∃ m, w' = (wr.drewN n).drewN m := by
        intro n
        rw [hwr]
        exact fields_quiet ed.fields fv fv' ((w.drewN nd).drewN n) hfl.1 hfl'.1 (by omega)
      have FQ := Lib.hid FQ0
      clear FQ0
      replace c0 : wr.cell? ⟨b, off + k * 3, none⟩ = some (.int .i64 ed.kind) := by rw [hwr]; exact c0
      replace c1 : wr.cell? ⟨b, off + k * 3 + 1, none⟩ = some (.int .i64 ed.id) := by rw [hwr]; exact c1
      replace c2 : wr.cell? ⟨b, off + k * 3 + 1 + 1, none⟩ = some fv := by rw [hwr]; exact c2
      replace c0' : wr.cell? ⟨b', off' + k * 3, none⟩ = some (.int .i64 ed.kind) := by rw [hwr]; exact c0'
      replace c1' : wr.cell? ⟨b', off' + k * 3 + 1, none⟩ = some (.int .i64 ed.id) := by rw [hwr]; exact c1'
      replace c2' : wr.cell? ⟨b', off' + k * 3 + 1 + 1, none⟩ = some fv' := by rw [hwr]; exact c2'
      have HW := Lib.hid hwr
      clear hed PC PC' hwr hfl hfl' HF
      generalize ed.id = X at *
      generalize ed.kind = K at *
      go_wp2_with (go_quiet ((go_at_call 32; exact Calls.quiet_of (FQ.out _))))
      go_roundw
      case rel => exact ⟨k + 1, hlt, by go_num, _, by rw [HW.out]; exact World.drewN_drewN _ _ _⟩
      case measure => simp [intOf]; omega
    · obtain rfl : k = eds.length := by omega
      clear PC PC'
      go_wp2_with fail
      go_ret
      exact ⟨rfl, nd, by first | rfl | exact hwr⟩
theorem WrQ.end2 {w wa w1 : World} {v v' x : Value} {ps ps' : List Pr} {es : List En} {fs : List Fld} {b : Nat} (h : WrQ wa v ps x es w1 v' ps') (hb : Below w.heap.size w wa) (hq : EntsQ w v ps) (hx : Flds w x fs) (hb1 : w.heap.size ≤ b) (hb2 : b < wa.heap.size) (o : Obj) (u0 u1 : Value) :
    WrQ w v ps x es (((w1.alloc o).setCell ⟨b, 0, none⟩ u0).setCell ⟨b, 1, none⟩ u1) v' ps' := by
  have h1 := h.from hb
  have b2 : Below w1.heap.size w1 (w1.alloc o) := (Below.refl _ w1).alloc (Nat.le_refl _) _
  have o2 : Only (· = b) w1 (((w1.alloc o).setCell ⟨b, 0, none⟩ u0).setCell ⟨b, 1, none⟩ u1) := ((Only.of_below (S := (· = b)) b2 (Nat.le_refl _)).cellS 0 u0).cellS 1 u1
  refine ⟨h1.ents.only o2 (fun r e q => ?_) (fun p hp hne r e q => ?_), h1.es, ?_, h1.blk, h1.mem⟩
  · rcases h.blk with k | k
    · rw [k] at e; have := (hq.row.lt r e).2; omega
    · have := k r e; omega
  · rcases h1.mem p hp with k | k
    · have := (hq.each p k).lt hne r e; omega
    · have hf : fs ≠ [] := by
        intro e0
        obtain ⟨A, c, e1, _⟩ := h1.ents.each p hp
        obtain ⟨A2, c2, e2, _⟩ := hx
        rw [k, e2] at e1
        injection e1 with _ e3 _
        rw [e0] at e3
        exact hne (List.length_eq_zero_iff.1 e3.symm)
      rw [k] at e
      have := hx.lt hf r e; omega
  · exact h1.below.trans (o2.to_below h1.below.size (fun r hr e => by omega))
set_option maxRecDepth 100000 in
set_option maxHeartbeats 8000000 in
theorem refOne_any (qs : List Pr) (v fv : Value) (nx : Int) (ed : Ed) (w : World) (h : EntsQ w v qs) (hqs : qs.length ≤ 1000000) (hnx : -1000000 ≤ nx ∧ nx ≤ 1000000) (hx : Flds w fv ed.fields) (hf : Fine7 ed.fields) :
    Calls Tryz.prog 49 #[.agg #[v, .int .i64 nx], .agg #[.int .i64 ed.kind, .int .i64 ed.id, fv]] w fun e w' => ∃ v' qs' x, e = .returned (.tuple #[.agg #[v', .int .i64 (stepE ⟨qs.map Prod.fst, nx⟩ ed).ls.next], .int .i64 (stepE ⟨qs.map Prod.fst, nx⟩ ed).id, .int .i64 (stepE ⟨qs.map Prod.fst, nx⟩ ed).bad]) ∧ WrQ w v qs x (stepE ⟨qs.map Prod.fst, nx⟩ ed).ls.es w' v' qs' ∧ (x = fv ∨ x = .slice none 0 0) := by
  obtain ⟨va, vc, rfl, _⟩ := h.empty
  obtain ⟨fa, fc, rfl, _, _⟩ := _root_.id hx
  obtain ⟨wa, hwa⟩ : ∃ wa, wa = ((w.alloc (.cells #[.slice va qs.length vc, .int .i64 nx] 43)).alloc (.cells #[.int .i64 ed.kind, .int .i64 ed.id, .slice fa ed.fields.length fc] 33)).alloc (.cells #[.slice none 0 0, .int .i64 0] 43) := ⟨_, rfl⟩
  have hba : Below w.heap.size w wa := by rw [hwa]; exact (((Below.refl _ w).alloc (Nat.le_refl _) _).alloc (by simp) _).alloc (by simp; omega) _
  have hza : wa.heap.size = w.heap.size + 3 := by rw [hwa]; simp
  have c4 : Cells wa (w.heap.size + 1 + 1) 43 #[.slice none 0 0, .int .i64 0] := by
    rw [hwa]
    have := (Cells.new ((w.alloc (.cells #[.slice va qs.length vc, .int .i64 nx] 43)).alloc (.cells #[.int .i64 ed.kind, .int .i64 ed.id, .slice fa ed.fields.length fc] 33)) 43 #[.slice none 0 0, .int .i64 0])
    simp only [World.size_alloc] at this
    exact this
  have hqa := h.below hba (Nat.le_refl _)
  have hxa := hx.below hba (Nat.le_refl _)
  have FIN : Hid (∀ (w1 : World) (v' x : Value) (qs' : List Pr) (es : List En) (n : Int) (fs : List Fld), WrQ wa (.slice va qs.length vc) qs x es w1 v' qs' → Flds w x fs →
      WrQ w (.slice va qs.length vc) qs x es (((w1.alloc (.cells #[v', .int .i64 n] 43)).setCell ⟨w.heap.size + 1 + 1, 0, none⟩ v').setCell ⟨w.heap.size + 1 + 1, 1, none⟩ (.int .i64 n)) v' qs' ∧ Cells (((w1.alloc (.cells #[v', .int .i64 n] 43)).setCell ⟨w.heap.size + 1 + 1, 0, none⟩ v').setCell ⟨w.heap.size + 1 + 1, 1, none⟩ (.int .i64 n)) (w.heap.size + 1 + 1) 43 #[v', .int .i64 n] ∧
      (w1.alloc (.cells #[v', .int .i64 n] 43)).cell? ⟨w.heap.size + 1 + 1, 0, none⟩ = some (.slice none 0 0) ∧ (w1.alloc (.cells #[v', .int .i64 n] 43)).cell? ⟨w.heap.size + 1 + 1, 1, none⟩ = some (.int .i64 0) ∧ (w1.alloc (.cells #[v', .int .i64 n] 43)).frozen? ⟨w.heap.size + 1 + 1, 0, none⟩ = false ∧ (w1.alloc (.cells #[v', .int .i64 n] 43)).frozen? ⟨w.heap.size + 1 + 1, 1, none⟩ = false) := by
    intro w1 v' x qs' es n fs hW hxs
    have c1 := cells_kept c4 hW.below (by omega)
    have h3 := ((c1.alloc (.cells #[v', .int .i64 n] 43)).set 0 v').set 1 (.int .i64 n)
    rw [set2] at h3
    have c2 := c1.alloc (.cells #[v', .int .i64 n] 43)
    exact ⟨hW.end2 hba h hxs (by omega) (by omega) _ _ _, h3, by rw [c2.cell]; rfl, by rw [c2.cell]; rfl, c2.frozen 0, c2.frozen 1⟩
  have HX := Lib.hid hx
  have HN : Hid (Flds w (.slice none 0 0) []) := ⟨none, 0, rfl, Nat.le_refl _, fun i f h => by simp at h⟩
  have hl : (⟨qs.map Prod.fst, nx⟩ : LS) = ⟨qs.map Prod.fst, nx⟩ := rfl
  by_cases h1 : ed.kind = 1
  · have R := Lib.hid (refReplace_any qs (.slice va qs.length vc) (.slice fa ed.fields.length fc) nx ed.id ed.fields wa hqa hqs hxa hf)
    rw [stepE_1 _ h1, replaceR_id9]
    generalize replaceR ⟨qs.map Prod.fst, nx⟩ ed.id ed.fields = dd at *
    rw [h1] at hwa ⊢
    clear hba hza c4 hqa hxa h hx hl
    subst hwa
    go_enter Tryz.func49, Tryz.ntmps49
    go_wp2_with fail
    refine R.out.mono ?_
    rintro e w1 ⟨v', qs', rfl, hW⟩
    obtain ⟨f1, f2, k0, k1, m0, m1⟩ := FIN.out w1 v' _ qs' _ dd.ls.next ed.fields hW HX.out
    obtain ⟨xa, xc, rfl, _⟩ := f1.ents.empty
    have F1 := Lib.hid f1
    have F2 := Lib.hid f2
    clear hW f1 f2 FIN R
    go_wp2_with fail
    refine bodyPost_ret (ret_q3 rfl _ _ (w.heap.size + 1 + 1) _ rfl F2.out rfl) rfl ?_
    exact ⟨_, qs', _, rfl, F1.out, .inl rfl⟩
  · have q1 : (ed.kind == 1) = false := by simpa using h1
    by_cases h2 : ed.kind = 2
    · have R := Lib.hid (refDelete_any qs (.slice va qs.length vc) nx ed.id wa hqa hqs)
      rw [stepE_2 _ h2, deleteR_id9]
      generalize deleteR ⟨qs.map Prod.fst, nx⟩ ed.id = dd at *
      rw [h2] at hwa ⊢
      clear hba hza c4 hqa hxa h hx hl q1
      subst hwa
      go_enter Tryz.func49, Tryz.ntmps49
      go_wp2_with fail
      refine R.out.mono ?_
      rintro e w1 ⟨v', qs', rfl, hW⟩
      obtain ⟨f1, f2, k0, k1, m0, m1⟩ := FIN.out w1 v' _ qs' _ dd.ls.next [] hW HN.out
      obtain ⟨xa, xc, rfl, _⟩ := f1.ents.empty
      have F1 := Lib.hid f1
      have F2 := Lib.hid f2
      clear hW f1 f2 FIN R
      go_wp2_with fail
      refine bodyPost_ret (ret_q3 rfl _ _ (w.heap.size + 1 + 1) _ rfl F2.out rfl) rfl ?_
      exact ⟨_, qs', _, rfl, F1.out, .inr rfl⟩
    · have q2 : (ed.kind == 2) = false := by simpa using h2
      have R := Lib.hid (refInsert_any qs (.slice va qs.length vc) (.slice fa ed.fields.length fc) nx ed.id ed.fields wa hqa hqs hnx hxa hf)
      rw [stepE_3 _ h1 h2]
      generalize insertR ⟨qs.map Prod.fst, nx⟩ ed.id ed.fields = dd at *
      clear hba hza c4 hqa hxa h hx hl
      subst hwa
      go_enter Tryz.func49, Tryz.ntmps49
      go_wp2_with fail
      refine R.out.mono ?_
      rintro e w1 ⟨v', qs', rfl, hW⟩
      obtain ⟨f1, f2, k0, k1, m0, m1⟩ := FIN.out w1 v' _ qs' _ dd.ls.next ed.fields hW HX.out
      obtain ⟨xa, xc, rfl, _⟩ := f1.ents.empty
      have F1 := Lib.hid f1
      have F2 := Lib.hid f2
      clear hW f1 f2 FIN R
      go_wp2_with fail
      refine bodyPost_ret (ret_q3 rfl _ _ (w.heap.size + 1 + 1) _ rfl F2.out rfl) rfl ?_
      exact ⟨_, qs', _, rfl, F1.out, .inl rfl⟩
end Go.Proofs.YtflnlenkgbphpaaGreatDoor

namespace Go.Proofs.YtflnlenkgbphpaaGreatDoor
open Go.RowKit Go.Shelf
attribute [local go_sem] Oper.semAt_some

set_option maxRecDepth 100000 in
set_option maxHeartbeats 4000000 in
theorem refGood_any (ed : Ed) (fv : Value) (w : World) (h : Flds w fv ed.fields) (hf : Fine7 ed.fields) :
    Calls Tryz.prog 40 #[.agg #[.int .i64 ed.kind, .int .i64 ed.id, fv]] w fun e w' => e = .returned (.int .i64 (goodE ed : Nat)) ∧ Below w.heap.size w w' := by
  obtain ⟨fa, fc, rfl, _, _⟩ := _root_.id h
  obtain ⟨wa, hwa⟩ : ∃ wa, wa = w.alloc (.cells #[.int .i64 ed.kind, .int .i64 ed.id, .slice fa ed.fields.length fc] 33) := ⟨_, rfl⟩
  have hba : Below w.heap.size w wa := by rw [hwa]; exact (Below.refl _ w).alloc (Nat.le_refl _) _
  have HC := Lib.hid (refChk_any ed.fields (.slice fa ed.fields.length fc) wa (h.below hba (Nat.le_refl _)) (by have := hf.len; omega) (fun f hm => by have := hf.each f hm; omega))
  have HB := Lib.hid hba
  have GE := Lib.hid (show goodE ed = if ed.kind = 1 ∨ ed.kind = 3 then chkN ed.fields else if ed.kind = 2 ∧ ed.fields.length = 0 then 0 else 2 from rfl)
  clear hba h
  generalize goodE ed = ge at *
  generalize chkN ed.fields = cn at *
  generalize chkAt ed.fields = ca at *
  generalize ed.fields.length = fl at *
  generalize ed.kind = kk at *
  generalize ed.id = ii at *
  by_cases hlo : kk < 1
  · have hg : ge = 2 := by rw [GE.out, if_neg (by omega), if_neg (by omega)]
    subst hg hwa
    go_enter Tryz.func40, Tryz.ntmps40
    go_wp2_with fail
    go_ret
    exact ⟨rfl, HB.out⟩
  · by_cases hhi : 3 < kk
    · have hg : ge = 2 := by rw [GE.out, if_neg (by omega), if_neg (by omega)]
      subst hg hwa
      go_enter Tryz.func40, Tryz.ntmps40
      go_wp2_with fail
      go_ret
      exact ⟨rfl, HB.out⟩
    · by_cases h2 : kk = 2
      · subst h2
        by_cases h0 : fl = 0
        · have hg : ge = 0 := by rw [GE.out, if_neg (by omega), if_pos ⟨rfl, h0⟩]
          subst hg h0 hwa
          go_enter Tryz.func40, Tryz.ntmps40
          go_wp2_with fail
          go_ret
          exact ⟨rfl, HB.out⟩
        · have hg : ge = 2 := by rw [GE.out, if_neg (by omega), if_neg (by omega)]
          have hp : (0 : Int) < (fl : Int) := by omega
          subst hg hwa
          go_enter Tryz.func40, Tryz.ntmps40
          go_wp2_with fail
          go_ret
          exact ⟨rfl, HB.out⟩
      · have hg : ge = cn := by rw [GE.out, if_pos (by omega)]
        have q2 : (kk == 2) = false := by simpa using h2
        subst hg hwa
        go_enter Tryz.func40, Tryz.ntmps40
        go_wp2_with fail
        refine HC.out.mono ?_
        rintro e w2 ⟨rfl, b2⟩
        have B2 := Lib.hid (HB.out.trans (b2.mono HB.out.size))
        clear b2 HC
        go_wp2_with fail
        go_ret
        exact ⟨rfl, B2.out⟩
set_option maxRecDepth 100000 in
set_option maxHeartbeats 4000000 in
theorem refCheckB_any (eds : List Ed) (v : Value) (w : World) (h : EdV w v eds) (hl : eds.length ≤ 1000000) (hf : Fines eds) :
    Calls Tryz.prog 12 #[v] w fun e w' => e = .returned (.tuple #[.int .i64 (chkB eds).1, .int .i64 (chkB eds).2]) ∧ Below w.heap.size w w' := by
  obtain ⟨A, cap, rfl, hle, hc⟩ := h
  have PC := Lib.hid hc
  have HF := Lib.hid hf
  clear hc hf
  by_cases h0 : eds.length < 1
  · have e0 : chkB eds = (-9, 1) := by unfold chkB; rw [if_pos (by omega)]
    have z0 : eds.length = 0 := by omega
    rw [e0, z0]
    go_enter Tryz.func12, Tryz.ntmps12
    go_wp2_with fail
    go_ret2
    exact ⟨rfl, Below.refl _ _⟩
  have q0 : ¬ ((eds.length : Int) < 1) := by omega
  by_cases h40 : 40 < eds.length
  · have e0 : chkB eds = (-9, 1) := by unfold chkB; rw [if_pos (by omega)]
    rw [e0]
    go_enter Tryz.func12, Tryz.ntmps12
    go_wp2_with fail
    go_ret2
    exact ⟨rfl, Below.refl _ _⟩
  have e1 : chkB eds = chkOn 0 eds := by unfold chkB; rw [if_neg (by omega)]
  rw [e1]
  go_enter Tryz.func12, Tryz.ntmps12
  go_wp2_with fail
  go_loopw [4] (fun i wr => ∃ k : Nat, k ≤ eds.length ∧ i = .int .i64 k ∧ (∀ x ∈ eds.take k, goodE x = 0) ∧ Below w.heap.size w wr) (fun i _ => eds.length - (intOf i).toNat)
  case atStart => exact ⟨0, Nat.zero_le _, rfl, (fun x hx => by simp at hx), Below.refl _ _⟩
  case round =>
    obtain ⟨k, hk, rfl, hsm, hb⟩ := hrel
    by_cases hlt : k < eds.length
    · obtain ⟨ed, hed⟩ : ∃ ed, eds[k]? = some ed := ⟨_, List.getElem?_eq_getElem hlt⟩
      obtain ⟨b, off, fv, rfl, hbb, c0, c1, c2, hfl⟩ := PC.out k ed hed
      obtain ⟨fa, fc, rfl, _, _⟩ := _root_.id hfl.1
      replace c0 := (hb.cell (p := ⟨b, off + k * 3, none⟩) hbb).trans c0
      replace c1 := (hb.cell (p := ⟨b, off + k * 3 + 1, none⟩) hbb).trans c1
      replace c2 := (hb.cell (p := ⟨b, off + k * 3 + 1 + 1, none⟩) hbb).trans c2
      have CK := Lib.hid (refGood_any ed (.slice fa ed.fields.length fc) wr (hfl.1.below hb (Nat.le_refl _)) (HF.out ed (List.mem_of_getElem? hed)))
      have SM : Hid (goodE ed = 0 → ∀ x ∈ eds.take (k + 1), goodE x = 0) := fun hz x hx => by
        rw [take_snoc hed] at hx
        rcases List.mem_append.1 hx with hx | hx
        · exact hsm x hx
        · rw [List.mem_singleton.1 hx]; exact hz
      have AT : Hid (goodE ed ≠ 0 → chkOn 0 eds = (((k : Nat) : Int), goodE ed)) := fun hz => by rw [chkOn_at eds 0 k ed hsm hed hz, Nat.zero_add]
      have HBA := Lib.hid hb
      clear hed hsm hfl hb
      generalize goodE ed = ge at *
      go_wp2_with fail
      refine CK.out.mono ?_
      rintro e w2 ⟨rfl, b2⟩
      have B2 := Lib.hid (HBA.out.trans (b2.mono HBA.out.size))
      clear b2 CK
      by_cases hg0 : ge = 0
      · subst hg0
        have SM1 := Lib.hid (SM.out rfl)
        clear SM AT
        go_wp2_with fail
        go_roundw
        case rel => exact ⟨k + 1, hlt, by go_num, SM1.out, B2.out⟩
        case measure => simp [intOf]; omega
      · have AT1 := Lib.hid (AT.out hg0)
        have qn : ((ge : Int) == 0) = false := by simpa using hg0
        have FIN : Hid (Ending.returned (.tuple #[.int .i64 (k : Nat), .int .i64 (ge : Nat)]) = .returned (.tuple #[.int .i64 (chkOn 0 eds).1, .int .i64 (chkOn 0 eds).2])) := by
          show _ = _
          rw [AT1.out]
        clear SM AT AT1
        go_wp2_with fail
        go_ret2
        exact ⟨FIN.out, B2.out⟩
    · obtain rfl : k = eds.length := by omega
      rw [List.take_length] at hsm
      have FIN : Hid (Ending.returned (.tuple #[.int .i64 (-9), .int .i64 0]) = .returned (.tuple #[.int .i64 (chkOn 0 eds).1, .int .i64 (chkOn 0 eds).2])) := by
        show _ = _
        rw [chkOn_all eds 0 hsm]; rfl
      clear PC hsm
      go_wp2_with fail
      go_ret2
      exact ⟨FIN.out, hb⟩
end Go.Proofs.YtflnlenkgbphpaaGreatDoor

