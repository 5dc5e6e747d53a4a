/- Texts put together: QC, FT. -/
import Derived.Test.YtbkeoiefolkjfaaGreatDoorBxa2
import Derived.Test.YtbkeoiefolkjfaaGreatDoorBxa14
set_option linter.unusedVariables false
set_option maxRecDepth 100000
set_option maxHeartbeats 16000000
namespace Go.Proofs.YtbkeoiefolkjfaaGreatDoor
def more : List Ln -> List (List UInt8)
 | [] => []
 | x :: xs => if kindL x.text = 3 then x.text :: more xs else []
structure RS where
 out : List It
 kind : Int
 raw : List UInt8
 fields : List Fld
 records : Nat
 prev : Nat
def RS.new : RS := ⟨[], 2, [], [], 0, 0⟩
def refWrong (s : RS) (x : Ln) (xs : List Ln) : Nat :=
 if kindL x.text = 5 \/ (kindL x.text = 3 /\ ¬ (s.prev = 4 \/ s.prev = 3)) \/ x.ended = false then 2
 else if kindL x.text ≠ 4 then 0
 else if unfoldN (x.text :: more xs) ≠ 0 then unfoldN (x.text :: more xs)
 else if 40 <= s.fields.length \/ (s.fields.length = 0 /\ 400 <= s.records) then 11 else 0
def RS.block (s : RS) : List It := if s.raw = [] then [] else [⟨s.kind, s.raw, s.fields⟩]
def refPut (s : RS) (x : Ln) (xs : List Ln) : RS :=
 if kindL x.text = 1 then ⟨s.out ++ s.block ++ [⟨1, x.text ++ [10], []⟩], 2, [], [], s.records, 1⟩
 else if kindL x.text = 4 then ⟨s.out, 3, s.raw ++ x.text ++ [10], s.fields ++ [(unfoldK (x.text :: more xs), unfoldV (x.text :: more xs))], if s.kind = 2 then s.records + 1 else s.records, 4⟩
 else { s with raw := s.raw ++ x.text ++ [10], prev := kindL x.text }
def refRun : RS -> List Ln -> Res RS
 | s, [] => .ok s
 | s, x :: xs => if refWrong s x xs ≠ 0 then .error (x.no, refWrong s x xs) else refRun (refPut s x xs) xs
def refParseL (t : List UInt8) : Res (List It) :=
 match refRun RS.new (linesOf t) with
 | .error e => .error e
 | .ok s => .ok (s.out ++ s.block)
def Ends : List Ln -> Prop
 | [] => True
 | x :: xs => (x.ended = false -> xs = []) /\ Ends xs
theorem head_whole (l : List UInt8) (h : nl l = false) : head l = l := by
 have hm : (10 : UInt8) ∉ l := by
  intro hc
  have : nl l = true := by unfold nl; simpa using hc
  rw [this] at h; cases h
 unfold head
 clear h
 induction l with
 | nil => rfl
 | cons c t ih =>
 have hc : c ≠ 10 := fun e => hm (by rw [e]; exact List.mem_cons_self)
 rw [List.takeWhile_cons, if_pos (by simp [hc]), ih (fun he => hm (List.mem_cons_of_mem _ he))]
theorem ends_linesOn : ∀ (n no at_ : Nat) (l : List UInt8), l.length <= n -> Ends (linesOn no at_ l)
 | 0, no, at_, l, h => by
  have : l = [] := List.length_eq_zero_iff.1 (by omega)
  subst this; rw [linesOn_nil]; trivial
 | n + 1, no, at_, l, h => by
  by_cases hl : l = []
  ·subst hl; rw [linesOn_nil]; trivial
  have hp := used_pos l hl
  rw [linesOn_cons _ _ _ hl]
  refine ⟨fun he => ?_, ends_linesOn n _ _ _ (by simp only [List.length_drop]; omega)⟩
  have hu : used l = (head l).length := by unfold used; rw [show nl l = false from he]; rfl
  have : l.drop (used l) = [] := by rw [hu, head_whole l he, List.drop_length]
  rw [this, linesOn_nil]
def pendN (p : PS) (xs : List Ln) : Nat := if unfoldN (p.said ++ more xs) ≠ 0 then unfoldN (p.said ++ more xs) else if fullP p then 11 else 0
def finish (t : List UInt8) (r : Res PS) : Res (List It) := match r with | .error e => .error e | .ok q => lastP t q
theorem run_cons' {t : List UInt8} {p q : PS} {x : Ln} {xs : List Ln} (h : takeP t p x = .ok q) : runP t p (x :: xs) = runP t q xs := by
 show (match takeP t p x with | .error e => Except.error e | .ok q => runP t q xs) = _
 rw [h]
theorem finish_cons {t : List UInt8} {p q : PS} {x : Ln} {xs : List Ln} (h : takeP t p x = .ok q) : finish t (runP t p (x :: xs)) = finish t (runP t q xs) := by
 unfold finish
 rw [run_cons' h]
theorem finish_no {t : List UInt8} {p : PS} {e : Nat × Nat} {x : Ln} {xs : List Ln} (h : takeP t p x = .error e) : finish t (runP t p (x :: xs)) = .error e := by
 unfold finish
 show (match (match takeP t p x with | .error e => Except.error e | .ok q => runP t q xs) with | .error e => _ | .ok q => _) = _
 rw [h]
theorem endN_said {p : PS} (h : p.said ≠ []) : endFieldN p = if unfoldN p.said ≠ 0 then unfoldN p.said else if fullP p then 11 else 0 := by
 unfold endFieldN; rw [if_neg h]
theorem take_err {t : List UInt8} {p : PS} {x : Ln} (h1 : endsP p x = true) (h2 : endFieldN (wentP p x) ≠ 0) : takeP t p x = .error ((wentP p x).begin_, endFieldN (wentP p x)) := by
 unfold takeP; rw [if_pos ⟨h1, h2⟩]
theorem take_form {t : List UInt8} {p : PS} {x : Ln} (h1 : endFieldN (wentP p x) = 0) (h2 : wrongP p x = true) : takeP t p x = .error (x.no, 2) := by
 unfold takeP; rw [if_neg (fun h => h.2 h1), h2]; rfl
theorem said_isEmpty {p : PS} (h : p.said ≠ []) : p.said.isEmpty = false := by
 cases hs : p.said with
 | nil => exact absurd hs h
 | cons a l => rfl
theorem run_pend (t : List UInt8) : ∀ (xs : List Ln) (p : PS), Ends xs -> p.said ≠ [] -> pendN p xs ≠ 0 -> finish t (runP t p xs) = .error (p.begin_, pendN p xs)
 | [], p, _, hs, hn => by
  have e : endFieldN p = pendN p [] := by rw [endN_said hs]; unfold pendN more; rw [List.append_nil]
  show lastP t p = _
  unfold lastP
  rw [e, if_pos hn]
 | x :: xs, p, ⟨he, hes⟩, hs, hn => by
  by_cases hk : kindL x.text = 3
  ·have hg : goesP p x = true := by unfold goesP; rw [hk, said_isEmpty hs]; rfl
   have hw : wentP p x = { p with said := p.said ++ [x.text] } := by unfold wentP; rw [hg, if_pos rfl]
   have hpe : pendN { p with said := p.said ++ [x.text] } xs = pendN p (x :: xs) := by
    have e1 : (p.said ++ [x.text]) ++ more xs = p.said ++ more (x :: xs) := by
     show _ = p.said ++ (if kindL x.text = 3 then x.text :: more xs else [])
     rw [if_pos hk]; simp
    have e2 : fullP { p with said := p.said ++ [x.text] } = fullP p := rfl
    unfold pendN
    rw [e2]
    show (if unfoldN ((p.said ++ [x.text]) ++ more xs) ≠ 0 then unfoldN ((p.said ++ [x.text]) ++ more xs) else _) = _
    rw [e1]
   cases hx : x.ended with
   | true =>
    have hwr : wrongP p x = false := by unfold wrongP; rw [hk, hg, hx]; rfl
    have hen : endsP p x = false := by unfold endsP; rw [hwr, hg]; rfl
    have ht : takeP t p x = .ok { p with said := p.said ++ [x.text] } := by
     rw [take_of (by rw [hen]; intro h; cases h) hwr]
     unfold thenP; rw [hen, if_neg (by decide), hw]
     unfold putP; rw [hk]; rfl
    rw [finish_cons ht, run_pend t xs _ hes (by simp) (by rw [hpe]; exact hn), hpe]
   | false =>
   have hxs := he hx
   subst hxs
   have hwr : wrongP p x = true := by unfold wrongP; rw [hx]; simp
   have hen : endsP p x = true := by unfold endsP; rw [hwr]; rfl
   have hE : endFieldN (wentP p x) = pendN p [x] := by
    rw [hw, <- hpe, endN_said (by simp)]
    unfold pendN more; rw [List.append_nil]
   rw [finish_no (take_err hen (by rw [hE]; exact hn)), hE, hw]
  have hg : goesP p x = false := goes_kind hk
  have hw : wentP p x = p := by unfold wentP; rw [hg]; rfl
  have hen : endsP p x = true := by unfold endsP; rw [hg]; simp
  have hm : more (x :: xs) = [] := if_neg hk
  have hE : endFieldN (wentP p x) = pendN p (x :: xs) := by
   rw [hw, endN_said hs]; unfold pendN; rw [hm, List.append_nil]
  rw [finish_no (take_err hen (by rw [hE]; exact hn)), hE, hw]
structure Rel (t : List UInt8) (c : Nat) (p : PS) (s : RS) (xs : List Ln) : Prop where
 items : s.out = p.items
 raw : s.raw = (t.take c).drop p.at_
 at_ : p.at_ <= c
 full : c <= t.length
 rest : t.drop c = xs.flatMap Ln.bytes
 recd : s.records = p.stanzas + if p.fields = [] /\ p.said = [] then 0 else 1
 kind : s.kind = if p.fields = [] /\ p.said = [] then 2 else 3
 fields : s.fields = p.fields ++ if p.said = [] then [] else [(unfoldK (p.said ++ more xs), unfoldV (p.said ++ more xs))]
 ok : p.said ≠ [] -> pendN p xs = 0
 prev : (s.prev = 4 \/ s.prev = 3) ↔ p.said ≠ []
 began : p.fields = [] /\ p.said = [] \/ p.at_ < c
 st : p.stanzas <= 400
 st' : ¬ (p.fields = [] /\ p.said = []) -> p.stanzas <= 399
 fl : p.fields.length <= 40
theorem Rel.new (t : List UInt8) : Rel t 0 PS.new RS.new (linesOf t) :=
 ⟨rfl, rfl, Nat.le_refl _, Nat.zero_le _, (linesOf_join t).symm, rfl, rfl, rfl, fun h => absurd rfl h, ⟨(fun h => by rcases h with h | h <;> (exact absurd h (by decide))), fun h => absurd rfl h⟩, .inl ⟨rfl, rfl⟩, by decide, fun hn => absurd ⟨rfl, rfl⟩ hn, by decide⟩
theorem take_all {t : List UInt8} {c : Nat} {x : Ln} {xs : List Ln} (h : t.drop c = (x :: xs).flatMap Ln.bytes) (hc : c <= t.length) : t.take (c + x.bytes.length) = t.take c ++ x.bytes /\ t.drop (c + x.bytes.length) = xs.flatMap Ln.bytes /\ c + x.bytes.length <= t.length := by
 rw [List.flatMap_cons] at h
 have hl := congrArg List.length h
 rw [List.length_drop, List.length_append] at hl
 refine ⟨?_, ?_, by omega⟩
 ·rw [List.take_add, h]; simp
 rw [<- List.drop_drop, h]; simp
theorem raw_more {t : List UInt8} {c a : Nat} {x : Ln} (h : t.take (c + x.bytes.length) = t.take c ++ x.bytes) (ha : a <= c) (hc : c <= t.length) : (t.take (c + x.bytes.length)).drop a = (t.take c).drop a ++ x.bytes := by
 rw [h, List.drop_append_of_le_length]
 rw [List.length_take]; omega
theorem more_three {x : Ln} {xs : List Ln} (h : kindL x.text = 3) : more (x :: xs) = x.text :: more xs := if_pos h
theorem more_else {x : Ln} {xs : List Ln} (h : kindL x.text ≠ 3) : more (x :: xs) = [] := if_neg h
theorem pend_said {p : PS} {xs : List Ln} (hs : p.said ≠ []) (hm : more xs = []) : pendN p xs = endFieldN p := by
 rw [endN_said hs]; unfold pendN; rw [hm, List.append_nil]
theorem endP_fields (p : PS) : (endFieldP p).fields = p.fields ++ if p.said = [] then [] else [(unfoldK p.said, unfoldV p.said)] := by
 unfold endFieldP
 split
 ·rw [List.append_nil]
 rfl
theorem endP_stanzas (p : PS) : (endFieldP p).stanzas = p.stanzas := by unfold endFieldP; split <;> rfl
theorem endP_none (p : PS) : (endFieldP p).fields = [] ↔ p.fields = [] /\ p.said = [] := by
 rw [endP_fields]
 constructor
 ·intro h
  by_cases hs : p.said = []
  ·rw [if_pos hs, List.append_nil] at h; exact ⟨h, hs⟩
  rw [if_neg hs] at h; simp at h
 rintro ⟨h1, h2⟩; rw [h1, if_pos h2]; rfl
theorem Rel.fields_end {t : List UInt8} {c : Nat} {p : PS} {s : RS} {xs : List Ln} (h : Rel t c p s xs) (hm : more xs = []) : s.fields = (endFieldP p).fields := by
 rw [h.fields, endP_fields, hm, List.append_nil]
theorem endP_at (p : PS) : (endFieldP p).at_ = p.at_ := endField_at p
theorem endP_items (p : PS) : (endFieldP p).items = p.items := by unfold endFieldP; split <;> rfl
theorem block_rel {t : List UInt8} {c : Nat} {p : PS} {s : RS} {xs : List Ln} (h : Rel t c p s xs) (hm : more xs = []) :
  (endBlockP t (endFieldP p) c).items = s.out ++ s.block /\ (endBlockP t (endFieldP p) c).stanzas = s.records /\ (endBlockP t (endFieldP p) c).fields = [] /\ (endBlockP t (endFieldP p) c).said = [] /\ (endBlockP t (endFieldP p) c).at_ = c := by
 have hf := h.fields_end hm
 have hat := h.at_
 have hsaid := endBlock_said t (endFieldP p) c
 rw [endField_said] at hsaid
 have hat2 := endBlock_at t (endFieldP p) c (by rw [endP_at]; exact hat)
 by_cases hz : p.at_ = c
 ·have hn : p.fields = [] /\ p.said = [] := by
   rcases h.began with h1 | h1
   ·exact h1
   omega
  have e : endBlockP t (endFieldP p) c = endFieldP p := by unfold endBlockP; rw [if_pos (by rw [endP_at]; exact hz)]
  have hr : s.raw = [] := by
   rw [h.raw, hz, List.drop_eq_nil_of_le]; rw [List.length_take]; omega
  refine ⟨?_, ?_, ?_, hsaid, hat2⟩
  ·rw [e, endP_items, h.items]; unfold RS.block; rw [if_pos hr, List.append_nil]
  ·rw [e, endP_stanzas, h.recd, if_pos hn, Nat.add_zero]
  rw [e]; exact (endP_none p).2 hn
 have hr : s.raw ≠ [] := by
  intro e
  have := congrArg List.length e
  rw [h.raw, List.length_drop, List.length_take] at this
  have := h.full
  simp at *; omega
 by_cases hn : (endFieldP p).fields.length = 0
 ·have hn' := (endP_none p).1 (List.length_eq_zero_iff.1 hn)
  have e : endBlockP t (endFieldP p) c = endItemP t (endFieldP p) 2 c := by
   unfold endBlockP; rw [if_neg (by rw [endP_at]; exact hz), if_pos hn]
  refine ⟨?_, ?_, ?_, hsaid, hat2⟩
  ·rw [e]
   show (endFieldP p).items ++ [⟨((2 : Nat) : Int), (t.take c).drop (endFieldP p).at_, (endFieldP p).fields⟩] = _
   unfold RS.block
   rw [if_neg hr, endP_items, endP_at, h.items, h.kind, if_pos hn', h.raw, hf]; rfl
  ·rw [e]
   show (endFieldP p).stanzas = _
   rw [endP_stanzas, h.recd, if_pos hn', Nat.add_zero]
  rw [e]; rfl
 have hn' : ¬ (p.fields = [] /\ p.said = []) := fun hh => hn (by rw [(endP_none p).2 hh]; rfl)
 have e : endBlockP t (endFieldP p) c = { endItemP t (endFieldP p) 3 c with stanzas := (endFieldP p).stanzas + 1 } := by
  unfold endBlockP; rw [if_neg (by rw [endP_at]; exact hz), if_neg hn]
 refine ⟨?_, ?_, ?_, hsaid, hat2⟩
 ·rw [e]
  show (endFieldP p).items ++ [⟨((3 : Nat) : Int), (t.take c).drop (endFieldP p).at_, (endFieldP p).fields⟩] = _
  unfold RS.block
  rw [if_neg hr, endP_items, endP_at, h.items, h.kind, if_neg hn', h.raw, hf]; rfl
 ·rw [e]
  show (endFieldP p).stanzas + 1 = _
  rw [endP_stanzas, h.recd, if_neg hn']
 rw [e]; rfl
theorem Rel.fl_end {t : List UInt8} {c : Nat} {p : PS} {s : RS} {xs : List Ln} (h : Rel t c p s xs) : (endFieldP p).fields.length <= 40 := by
 have fl := h.fl
 rw [endP_fields, List.length_append]
 by_cases hs : p.said = []
 ·rw [if_pos hs]; simpa using fl
 rw [if_neg hs]
 have hok := h.ok hs
 unfold pendN at hok
 have hfull : fullP p = false := by
  split at hok
  ·rename_i hu; exact absurd hok hu
  cases hf : fullP p with
  | false => rfl
  | true => rw [hf] at hok; simp at hok
 unfold fullP at hfull
 split at hfull
 ·simp; omega
 have : p.fields.length ≠ 40 := by simpa using hfull
 simp; omega
theorem Rel.records_le {t : List UInt8} {c : Nat} {p : PS} {s : RS} {xs : List Ln} (h : Rel t c p s xs) : s.records <= 400 := by
 have st := h.st
 rw [h.recd]
 split
 ·omega
 rename_i hn; have := h.st' hn; omega
theorem kind_of {l : List UInt8} (_ : (10 : UInt8) ∉ l) : kindL l = 1 \/ kindL l = 2 \/ kindL l = 3 \/ kindL l = 4 \/ kindL l = 5 := by
 unfold kindL
 split; · simp
 split; · simp
 split; · simp
 split; · simp
 split <;> simp
theorem run_rel (t : List UInt8) : ∀ (xs : List Ln) (no c : Nat) (p : PS) (s : RS), Runs no c xs -> Ends xs -> (∀ x ∈ xs, (10 : UInt8) ∉ x.text) -> Rel t c p s xs ->
  finish t (runP t p xs) = match refRun s xs with | .error e => .error e | .ok s' => .ok (s'.out ++ s'.block)
 | [], no, c, p, s, _, _, _, h => by
  have hcl : c = t.length := by
   have := congrArg List.length h.rest
   rw [List.length_drop] at this
   have := h.full
   simp at *; omega
  have h0 : endFieldN p = 0 := by
   by_cases hs : p.said = []
   ·unfold endFieldN; rw [if_pos hs]
   rw [<- pend_said hs (xs := []) rfl]; exact h.ok hs
  show lastP t p = Except.ok (s.out ++ s.block)
  unfold lastP
  rw [if_neg (by rw [h0]; decide), <- hcl, (block_rel h rfl).1]
 | x :: xs, no, c, p, s, ⟨r1, r2, r3, r4⟩, ⟨he, hes⟩, hcl, h => by
  obtain ⟨t1, t2, t3⟩ := take_all h.rest h.full
  have hclx : (10 : UInt8) ∉ x.text := hcl x List.mem_cons_self
  have hcl' : ∀ y ∈ xs, (10 : UInt8) ∉ y.text := fun y hy => hcl y (List.mem_cons_of_mem _ hy)
  show finish t (runP t p (x :: xs)) = match (if refWrong s x xs ≠ 0 then Except.error (x.no, refWrong s x xs) else refRun (refPut s x xs) xs) with | .error e => _ | .ok s' => _
  have hE0 : p.said ≠ [] -> more (x :: xs) = [] -> endFieldN p = 0 := fun hs hm => by rw [<- pend_said hs hm]; exact h.ok hs
  by_cases hbad : kindL x.text = 5 \/ (kindL x.text = 3 /\ ¬ (s.prev = 4 \/ s.prev = 3)) \/ x.ended = false
  ·
   have hw2 : refWrong s x xs = 2 := by unfold refWrong; rw [if_pos hbad]
   rw [hw2, if_pos (by decide)]
   have hwr : wrongP p x = true := by
    unfold wrongP
    rcases hbad with h5 | ⟨h3, hp⟩ | hx
    ·rw [h5]; rfl
    ·have hs : p.said = [] := Classical.byContradiction fun hne => hp (h.prev.2 hne)
     have : goesP p x = false := by unfold goesP; rw [hs]; simp
     rw [h3, this]; simp
    rw [hx]; simp
   have hen : endFieldN (wentP p x) = 0 := by
    cases hg : goesP p x with
    | true =>
     have hk : kindL x.text = 3 := by unfold goesP at hg; simp at hg; exact hg.1
     have hs : p.said ≠ [] := by unfold goesP at hg; simp at hg; exact hg.2
     have hx : x.ended = false := by
      rcases hbad with h5 | ⟨_, hp⟩ | hx
      ·omega
      ·exact absurd (h.prev.2 hs) hp
      exact hx
     have hxs := he hx
     have hw : wentP p x = { p with said := p.said ++ [x.text] } := by unfold wentP; rw [hg, if_pos rfl]
     have hok := h.ok hs
     rw [hw, endN_said (by simp)]
     unfold pendN at hok
     rw [more_three hk, hxs] at hok
     exact hok
    | false =>
    have hw : wentP p x = p := by unfold wentP; rw [hg]; rfl
    rw [hw]
    by_cases hs : p.said = []
    ·unfold endFieldN; rw [if_pos hs]
    refine hE0 hs (more_else ?_)
    intro h3
    unfold goesP at hg
    rw [h3, said_isEmpty hs] at hg
    simp at hg
   rw [finish_no (take_form hen hwr)]
  have hx : x.ended = true := by
   cases hx : x.ended with
   | true => rfl
   | false => exact absurd (.inr (.inr hx)) hbad
  have h5 : kindL x.text ≠ 5 := fun h5 => hbad (.inl h5)
  have hb : x.bytes = x.text ++ [10] := by unfold Ln.bytes; rw [hx]; rfl
  have hraw : (t.take (c + x.bytes.length)).drop p.at_ = s.raw ++ x.text ++ [10] := by
   rw [raw_more t1 h.at_ h.full, <- h.raw, hb, List.append_assoc]
  have hbl : x.bytes.length = x.text.length + 1 := by rw [hb]; simp
  by_cases h3 : kindL x.text = 3
  ·
   have hprev : s.prev = 4 \/ s.prev = 3 := Classical.byContradiction fun hn => hbad (.inr (.inl ⟨h3, hn⟩))
   have hs := h.prev.1 hprev
   have hg : goesP p x = true := by unfold goesP; rw [h3, said_isEmpty hs]; rfl
   have hw : wentP p x = { p with said := p.said ++ [x.text] } := by unfold wentP; rw [hg, if_pos rfl]
   have hwr : wrongP p x = false := by unfold wrongP; rw [h3, hg, hx]; rfl
   have hen : endsP p x = false := by unfold endsP; rw [hwr, hg]; rfl
   have ht : takeP t p x = .ok { p with said := p.said ++ [x.text] } := by
    rw [take_of (by rw [hen]; intro h; cases h) hwr]
    unfold thenP; rw [hen, if_neg (by decide), hw]
    unfold putP; rw [h3]; rfl
   have hw0 : refWrong s x xs = 0 := by unfold refWrong; rw [if_neg hbad, if_pos (by omega)]
   have hput : refPut s x xs = { s with raw := s.raw ++ x.text ++ [10], prev := 3 } := by unfold refPut; rw [if_neg (by omega), if_neg (by omega), h3]
   rw [finish_cons ht, hw0, if_neg (by decide), hput]
   have hall : (p.said ++ [x.text]) ++ more xs = p.said ++ more (x :: xs) := by rw [more_three h3]; simp
   refine run_rel t xs (no + 1) (c + x.bytes.length) _ _ r4 hes hcl' ⟨h.items, ?_, ?_, t3, t2, ?_, ?_, ?_, ?_, ?_, ?_, h.st, fun _ => h.st' (fun hh => hs hh.2), h.fl⟩
   ·exact hraw.symm
   ·show p.at_ <= _; have := h.at_; omega
   ·show s.records = p.stanzas + if p.fields = [] /\ p.said ++ [x.text] = [] then 0 else 1
    rw [h.recd, if_neg (fun hh => hs hh.2), if_neg (by simp)]
   ·show s.kind = if p.fields = [] /\ p.said ++ [x.text] = [] then 2 else 3
    rw [h.kind, if_neg (fun hh => hs hh.2), if_neg (by simp)]
   ·show s.fields = p.fields ++ if p.said ++ [x.text] = [] then [] else [(unfoldK ((p.said ++ [x.text]) ++ more xs), unfoldV ((p.said ++ [x.text]) ++ more xs))]
    rw [h.fields, if_neg hs, if_neg (by simp), hall]
   ·intro _
    have hok := h.ok hs
    unfold pendN at hok ⊢
    show (if unfoldN ((p.said ++ [x.text]) ++ more xs) ≠ 0 then unfoldN ((p.said ++ [x.text]) ++ more xs) else if fullP p then 11 else 0) = 0
    rw [hall]; exact hok
   ·exact ⟨fun _ => by simp, fun _ => .inr rfl⟩
   exact .inr (by show p.at_ < _; have := h.at_; omega)
  -- it goes on with none
  have hm : more (x :: xs) = [] := more_else h3
  have hN : endFieldN p = 0 := by
   by_cases hs : p.said = []
   ·unfold endFieldN; rw [if_pos hs]
   exact hE0 hs hm
  have hg : goesP p x = false := goes_kind h3
  have hw : wentP p x = p := by unfold wentP; rw [hg]; rfl
  have hwr : wrongP p x = false := by unfold wrongP; rw [hg, hx]; simp [h3, h5]
  have hen : endsP p x = true := by unfold endsP; rw [hg]; simp
  have hth : thenP p x = endFieldP p := by unfold thenP; rw [hen, if_pos rfl, hw]
  have ht : takeP t p x = .ok (putP t (endFieldP p) x) := by
   rw [take_of (by rw [hw]; exact fun _ => hN) hwr, hth]
  have hf := h.fields_end hm
  have hfl := h.fl_end
  rw [finish_cons ht]
  rcases kind_of hclx with hk | hk | hk | hk | hk
  ·
   have hw0 : refWrong s x xs = 0 := by unfold refWrong; rw [if_neg hbad, if_pos (by omega)]
   have hput : refPut s x xs = ⟨s.out ++ s.block ++ [⟨1, x.text ++ [10], []⟩], 2, [], [], s.records, 1⟩ := by unfold refPut; rw [if_pos hk]
   obtain ⟨b1, b2, b3, b4, b5⟩ := block_rel h hm
   have hP : putP t (endFieldP p) x = endItemP t (endBlockP t (endFieldP p) c) 1 (c + x.bytes.length) := by
    unfold putP; rw [if_neg (by omega), if_pos hk, r2, hbl]; rfl
   have hbr : (t.take (c + x.bytes.length)).drop c = x.text ++ [10] := by
    rw [raw_more t1 (Nat.le_refl _) h.full, hb, List.drop_eq_nil_of_le (by rw [List.length_take]; omega)]; rfl
   rw [hw0, if_neg (by decide), hput, hP]
   refine run_rel t xs (no + 1) (c + x.bytes.length) _ _ r4 hes hcl' ⟨?_, ?_, Nat.le_refl _, t3, t2, ?_, ?_, ?_, ?_, ?_, ?_, ?_, ?_, ?_⟩
   ·show s.out ++ s.block ++ [_] = (endBlockP t (endFieldP p) c).items ++ [⟨((1 : Nat) : Int), (t.take (c + x.bytes.length)).drop (endBlockP t (endFieldP p) c).at_, (endBlockP t (endFieldP p) c).fields⟩]
    rw [b1, b3, b5, hbr]; rfl
   ·show [] = (t.take (c + x.bytes.length)).drop (c + x.bytes.length)
    rw [List.drop_eq_nil_of_le]; rw [List.length_take]; omega
   ·show s.records = (endBlockP t (endFieldP p) c).stanzas + if ([] : List Fld) = [] /\ (endBlockP t (endFieldP p) c).said = [] then 0 else 1
    rw [b2, if_pos ⟨rfl, b4⟩]; rfl
   ·show (2 : Int) = if ([] : List Fld) = [] /\ (endBlockP t (endFieldP p) c).said = [] then 2 else 3
    rw [if_pos ⟨rfl, b4⟩]
   ·show [] = [] ++ if (endBlockP t (endFieldP p) c).said = [] then [] else _
    rw [if_pos b4]; rfl
   ·exact fun hn => absurd b4 hn
   ·exact ⟨fun hh => by rcases hh with hh | hh; exact absurd (show (1 : Nat) = 4 from hh) (by decide); exact absurd (show (1 : Nat) = 3 from hh) (by decide), fun hh => absurd b4 hh⟩
   ·exact .inl ⟨rfl, b4⟩
   ·show (endBlockP t (endFieldP p) c).stanzas <= 400
    rw [b2]; exact h.records_le
   ·exact fun hn => absurd ⟨rfl, b4⟩ hn
   show ([] : List Fld).length <= 40; decide
  ·
   have hw0 : refWrong s x xs = 0 := by unfold refWrong; rw [if_neg hbad, if_pos (by omega)]
   have hput : refPut s x xs = { s with raw := s.raw ++ x.text ++ [10], prev := 2 } := by unfold refPut; rw [if_neg (by omega), if_neg (by omega), hk]
   have hP : putP t (endFieldP p) x = endFieldP p := by unfold putP; rw [if_neg (by omega), if_neg (by omega)]
   have hcond : ((endFieldP p).fields = [] /\ (endFieldP p).said = []) ↔ (p.fields = [] /\ p.said = []) := by
    rw [endP_none]; exact ⟨fun hh => hh.1, fun hh => ⟨hh, endField_said p⟩⟩
   rw [hw0, if_neg (by decide), hput, hP]
   refine run_rel t xs (no + 1) (c + x.bytes.length) _ _ r4 hes hcl' ⟨?_, ?_, ?_, t3, t2, ?_, ?_, ?_, ?_, ?_, ?_, ?_, ?_, hfl⟩
   ·rw [endP_items]; exact h.items
   ·rw [endP_at]; exact hraw.symm
   ·rw [endP_at]; have := h.at_; omega
   ·rw [endP_stanzas]; show s.records = _; rw [h.recd]; congr 1; simp only [hcond]
   ·show s.kind = _; rw [h.kind]; simp only [hcond]
   ·show s.fields = _; rw [hf, if_pos (endField_said p), List.append_nil]
   ·exact fun hn => absurd (endField_said p) hn
   ·exact ⟨fun hh => by rcases hh with hh | hh; exact absurd (show (2 : Nat) = 4 from hh) (by decide); exact absurd (show (2 : Nat) = 3 from hh) (by decide), fun hh => absurd (endField_said p) hh⟩
   ·rw [endP_at]; exact .inr (by have := h.at_; omega)
   ·rw [endP_stanzas]; exact h.st
   rw [endP_stanzas]; exact fun hn => h.st' (fun hh => hn (hcond.2 hh))
  ·exact absurd hk h3
  ·
   have hP : putP t (endFieldP p) x = { endFieldP p with begin_ := x.no, said := [x.text] } := by unfold putP; rw [if_pos hk]
   have hrec0 : (endFieldP p).fields.length = 0 -> s.records = p.stanzas := fun hz => by
    rw [h.recd, if_pos ((endP_none p).1 (List.length_eq_zero_iff.1 hz)), Nat.add_zero]
   have hst := h.st
   have hfull : fullP { endFieldP p with begin_ := x.no, said := [x.text] } = decide (40 <= s.fields.length \/ (s.fields.length = 0 /\ 400 <= s.records)) := by
    unfold fullP
    show (if (endFieldP p).fields.length = 0 then (endFieldP p).stanzas == 400 else (endFieldP p).fields.length == 40) = _
    rw [hf, endP_stanzas]
    split
    ·rename_i hz
     have := hrec0 hz
     rw [Bool.eq_iff_iff, beq_iff_eq, decide_eq_true_iff]; omega
    rename_i hz
    rw [Bool.eq_iff_iff, beq_iff_eq, decide_eq_true_iff]; omega
   have hpn : refWrong s x xs = pendN { endFieldP p with begin_ := x.no, said := [x.text] } xs := by
    unfold refWrong pendN
    rw [if_neg hbad, if_neg (by omega), hfull]
    show (if unfoldN (x.text :: more xs) ≠ 0 then _ else _) = (if unfoldN ([x.text] ++ more xs) ≠ 0 then _ else _)
    simp only [List.cons_append, List.nil_append, decide_eq_true_eq]
   rw [hP]
   by_cases hn : refWrong s x xs = 0
   ·rw [hn, if_neg (by decide)]
    have hput : refPut s x xs = ⟨s.out, 3, s.raw ++ x.text ++ [10], s.fields ++ [(unfoldK (x.text :: more xs), unfoldV (x.text :: more xs))], if s.kind = 2 then s.records + 1 else s.records, 4⟩ := by unfold refPut; rw [if_neg (by omega), if_pos hk]
    rw [hput]
    have hp0 : pendN { endFieldP p with begin_ := x.no, said := [x.text] } xs = 0 := by rw [<- hpn]; exact hn
    have hnf : ¬ (40 <= s.fields.length \/ (s.fields.length = 0 /\ 400 <= s.records)) := by
     intro hh
     unfold pendN at hp0
     rw [hfull, decide_eq_true hh] at hp0
     split at hp0
     ·rename_i hu; exact hu hp0
     simp at hp0
    refine run_rel t xs (no + 1) (c + x.bytes.length) _ _ r4 hes hcl' ⟨?_, ?_, ?_, t3, t2, ?_, ?_, ?_, ?_, ?_, ?_, ?_, ?_, hfl⟩
    ·show s.out = (endFieldP p).items; rw [endP_items]; exact h.items
    ·show s.raw ++ x.text ++ [10] = (t.take (c + x.bytes.length)).drop (endFieldP p).at_
     rw [endP_at]; exact hraw.symm
    ·show (endFieldP p).at_ <= _; rw [endP_at]; have := h.at_; omega
    ·show (if s.kind = 2 then s.records + 1 else s.records) = (endFieldP p).stanzas + if (endFieldP p).fields = [] /\ [x.text] = [] then 0 else 1
     have e1 : ¬ ((endFieldP p).fields = [] /\ [x.text] = []) := fun hh => by cases hh.2
     rw [endP_stanzas, if_neg e1, h.kind, h.recd]
     by_cases hc0 : p.fields = [] /\ p.said = []
     ·rw [if_pos hc0, if_pos hc0, if_pos rfl]
     rw [if_neg hc0, if_neg hc0, if_neg (by decide)]
    ·show (3 : Int) = if (endFieldP p).fields = [] /\ [x.text] = [] then 2 else 3
     rw [if_neg (fun hh => by cases hh.2)]
    ·show s.fields ++ _ = (endFieldP p).fields ++ if [x.text] = [] then [] else [(unfoldK ([x.text] ++ more xs), unfoldV ([x.text] ++ more xs))]
     rw [if_neg (by simp), hf]; rfl
    ·exact fun _ => hp0
    ·exact ⟨fun _ => by show [x.text] ≠ []; simp, fun _ => .inl rfl⟩
    ·show _ \/ (endFieldP p).at_ < _; rw [endP_at]; exact .inr (by have := h.at_; omega)
    ·show (endFieldP p).stanzas <= 400; rw [endP_stanzas]; exact h.st
    intro _
    show (endFieldP p).stanzas <= 399
    rw [endP_stanzas]
    by_cases hc0 : p.fields = [] /\ p.said = []
    ·have hz : (endFieldP p).fields.length = 0 := by rw [(endP_none p).2 hc0]; rfl
     have := hrec0 hz
     rw [hf] at hnf
     omega
    exact h.st' hc0
   rw [if_pos hn, run_pend t xs _ hes (by show [x.text] ≠ []; simp) (by rw [<- hpn]; exact hn), <- hpn]
  exact absurd hk h5
theorem parse_ref (t : List UInt8) : parseL t = refParseL t := by
 have h := run_rel t (linesOf t) 0 0 PS.new RS.new (runs_linesOn _ 0 0 t (Nat.le_refl _)) (ends_linesOn _ 0 0 t (Nat.le_refl _)) (linesOn_clean _ 0 0 t (Nat.le_refl _)) (Rel.new t)
 exact h
end Go.Proofs.YtbkeoiefolkjfaaGreatDoor
namespace Go.Proofs.YtbkeoiefolkjfaaGreatDoor
open Go.RowKit Go.Shelf
theorem joinNl_snocs : ∀ (xs : List (List UInt8)) (y : List UInt8), xs ≠ [] -> joinNl (xs ++ [y]) = joinNl xs ++ 10 :: y
 | [], _, h => absurd rfl h
 | [p], y, _ => rfl
 | p :: q :: r, y, _ => by
  show p ++ 10 :: joinNl ((q :: r) ++ [y]) = (p ++ 10 :: joinNl (q :: r)) ++ 10 :: y
  rw [joinNl_snocs (q :: r) y (by simp)]; simp
theorem joinNl_mono : ∀ (xs ys : List (List UInt8)), (joinNl xs).length <= (joinNl (xs ++ ys)).length
 | [], ys => by simp [joinNl]
 | [p], [] => by simp
 | [p], q :: r => by show p.length <= (p ++ 10 :: joinNl (q :: r)).length; simp
 | p :: q :: r, ys => by
  show (p ++ 10 :: joinNl (q :: r)).length <= (p ++ 10 :: joinNl ((q :: r) ++ ys)).length
  have := joinNl_mono (q :: r) ys
  simp only [List.length_append, List.length_cons] at this ⊢; omega
def accV (a : List UInt8) (r : List (List UInt8)) (k : Nat) : List UInt8 := joinNl (dropSp (afterC a) :: (r.take k).map fun l => dropDot l.tail)
theorem accV_step (a : List UInt8) (r : List (List UInt8)) (k : Nat) (x : List UInt8) (hx : r[k]? = some x) : accV a r (k + 1) = accV a r k ++ 10 :: dropDot x.tail := by
 unfold accV
 rw [List.take_add_one, hx, show (some x).toList = [x] from rfl, List.map_append, <- List.cons_append]
 exact joinNl_snocs _ _ (by simp)
theorem accV_le (a : List UInt8) (r : List (List UInt8)) (k : Nat) : (accV a r k).length <= (saidV (a :: r)).length := by
 unfold accV saidV saidP
 simp only [List.headD_cons, List.tail_cons]
 have := joinNl_mono (dropSp (afterC a) :: (r.take k).map fun l => dropDot l.tail) ((r.drop k).map fun l => dropDot l.tail)
 rw [List.cons_append, <- List.map_append, List.take_append_drop] at this
 exact this
theorem accV_all (a : List UInt8) (r : List (List UInt8)) : accV a r r.length = saidV (a :: r) := by
 unfold accV saidV saidP
 rw [List.take_length]; rfl
theorem allK_drop (r : List (List UInt8)) (k : Nat) (x : List UInt8) (h : r[k]? = some x) : sayG 3 (r.drop k) = ((kindL x == 3) && sayG 3 (r.drop (k + 1))) := sayG_drop r k 3 x h
theorem sayF_cons {a : List UInt8} {r : List (List UInt8)} (h : kindL a = 4) : sayF (a :: r) = sayG 3 r := by
 rw [sayF_eq]
 show (decide (0 < (a :: r).length) && ((kindL a == 4) && sayG 3 r)) = _
 simp [h]
theorem refUnfold_no (ls : List (List UInt8)) (v : Value) (w : World) (hs : Strs w v (ls.map B)) (hl : ∀ l ∈ ls, l.length <= 100000) (hn : ls.length <= 100000) (h0 : ls = [] \/ ∃ a r, ls = a :: r /\ kindL a ≠ 4) :
  Calls Tryz.prog 68 #[v] w fun e w' => e = .returned (.tuple #[.agg #[.string ⟨#[]⟩, .string ⟨#[]⟩], .int .i64 2]) /\ Below w.heap.size w w' := by
 obtain ⟨A, cap, rfl, hle, hc⟩ := hs
 have hcb := cellB hc
 clear hc
 rcases h0 with rfl | ⟨a, r, rfl, hka⟩
 ·clear hcb
  rw [List.length_map, List.length_nil]
  go_enter Tryz.func68, Tryz.ntmps68
  go_wp2_with fail
  have RE := Cells.new w 83 #[.string ⟨#[]⟩, .string ⟨#[]⟩]
  refine bodyPost_ret (ret_f2 rfl _ _ w.heap.size _ rfl RE rfl) rfl ?_
  exact ⟨rfl, (Below.refl _ _).alloc (Nat.le_refl _) _⟩
 obtain ⟨b, off, rfl, hbb, hca⟩ := hcb 0 a rfl
 rw [Nat.add_zero] at hca
 clear hcb
 have hal := hl a (by simp)
 have RK := fun w => refKind_any (B a) (by rw [B_size]; omega) w
 rw [B_data] at RK
 have hki : ((kindL a : Int) != 4) = true := by simp; omega
 rw [List.length_map, List.length_cons] at *
 have hnz : ((r.length : Int) + 1 == 0) = false := by rw [beq_eq_false_iff_ne]; omega
 clear hka
 generalize kindL a = ka at *
 generalize B a = X at *
 go_enter Tryz.func68, Tryz.ntmps68
 go_wp2_with fail
 refine (RK _).mono ?_
 rintro e w1 ⟨rfl, b1⟩
 have R1 := cells_kept (Cells.new w 83 #[.string ⟨#[]⟩, .string ⟨#[]⟩]) b1 (by simp)
 have c0 := R1.cell 0
 have c1 := R1.cell 1
 have f0 := R1.frozen 0
 have f1 := R1.frozen 1
 have hb1 : Below w.heap.size w w1 := ((Below.refl _ _).alloc (Nat.le_refl _) _).trans (b1.mono (by simp))
 simp only [List.getElem?_toArray, List.getElem?_cons_zero, List.getElem?_cons_succ] at c0 c1
 have RE := (R1.set 0 (.string ⟨#[]⟩)).set 1 (.string ⟨#[]⟩)
 rw [set2] at RE
 clear b1
 go_wp2_with fail
 refine bodyPost_ret (ret_f2 rfl _ _ w.heap.size _ rfl RE rfl) rfl ?_
 exact ⟨rfl, (hb1.setCell (Nat.le_refl _) _).setCell (Nat.le_refl _) _⟩
end Go.Proofs.YtbkeoiefolkjfaaGreatDoor
