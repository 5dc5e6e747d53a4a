/- Texts put together: PA, PO, PQ, PR, MB, DB, SA, DC, FS. -/
import Derived.Test.YtbkeoiefolkjfaaGreatDoorChecked
import Derived.WalkKit
import Derived.ProofKit
import Derived.OpenShut
import Derived.Below
import Derived.Lib.Hide
import Derived.Lib.Strings
import Derived.Deep.QuietTactic
import Derived.BigQuiet
import Derived.Test.YtbkeoiefolkjfaaGreatDoorBxa1
set_option linter.unusedVariables false
set_option maxRecDepth 100000
set_option maxHeartbeats 16000000
namespace Go.Proofs.YtbkeoiefolkjfaaGreatDoor
abbrev Fld := List UInt8 × List UInt8
structure It where
 kind : Int
 raw : List UInt8
 fields : List Fld
deriving DecidableEq
structure PS where
 begin_ : Nat
 said : List (List UInt8)
 items : List It
 stanzas : Nat
 at_ : Nat
 fields : List Fld
deriving DecidableEq
def PS.new : PS := ⟨0, [], [], 0, 0, []⟩
abbrev Res (α : Type) := Except (Nat × Nat) α
def fullP (p : PS) : Bool := if p.fields.length = 0 then p.stanzas == 400 else p.fields.length == 40
def endFieldN (p : PS) : Nat := if p.said = [] then 0 else if unfoldN p.said ≠ 0 then unfoldN p.said else if fullP p then 11 else 0
def endFieldP (p : PS) : PS := if p.said = [] then p else { p with fields := p.fields ++ [(unfoldK p.said, unfoldV p.said)], said := [] }
def endItemP (text : List UInt8) (p : PS) (kind end_ : Nat) : PS := { p with items := p.items ++ [⟨kind, (text.take end_).drop p.at_, p.fields⟩], at_ := end_, fields := [] }
def endBlockP (text : List UInt8) (p : PS) (end_ : Nat) : PS :=
 if p.at_ = end_ then p else if p.fields.length = 0 then endItemP text p 2 end_ else { endItemP text p 3 end_ with stanzas := p.stanzas + 1 }
def goesP (p : PS) (x : Ln) : Bool := kindL x.text == 3 && !(p.said.isEmpty)
def wentP (p : PS) (x : Ln) : PS := if goesP p x then { p with said := p.said ++ [x.text] } else p
def wrongP (p : PS) (x : Ln) : Bool := kindL x.text == 5 || (kindL x.text == 3 && !goesP p x) || !x.ended
def endsP (p : PS) (x : Ln) : Bool := wrongP p x || !goesP p x
def putP (text : List UInt8) (p : PS) (x : Ln) : PS :=
 if kindL x.text = 4 then { p with begin_ := x.no, said := [x.text] }
 else if kindL x.text = 1 then endItemP text (endBlockP text p x.at_) 1 (x.at_ + x.text.length + 1)
 else p
def thenP (p : PS) (x : Ln) : PS := if endsP p x then endFieldP (wentP p x) else wentP p x
def takeP (text : List UInt8) (p : PS) (x : Ln) : Res PS :=
 if endsP p x = true /\ endFieldN (wentP p x) ≠ 0 then .error ((wentP p x).begin_, endFieldN (wentP p x))
 else if wrongP p x then .error (x.no, 2)
 else .ok (putP text (thenP p x) x)
def runP (text : List UInt8) : PS -> List Ln -> Res PS
 | p, [] => .ok p
 | p, x :: xs => match takeP text p x with
  | .error e => .error e
  | .ok q => runP text q xs
def lastP (text : List UInt8) (p : PS) : Res (List It) :=
 if endFieldN p ≠ 0 then .error (p.begin_, endFieldN p) else .ok (endBlockP text (endFieldP p) text.length).items
def parseL (text : List UInt8) : Res (List It) :=
 match runP text PS.new (linesOf text) with
 | .error e => .error e
 | .ok p => lastP text p
theorem runP_append (text : List UInt8) : ∀ (p : PS) (a b : List Ln), runP text p (a ++ b) = match runP text p a with | .error e => .error e | .ok q => runP text q b
 | p, [], b => rfl
 | p, x :: a, b => by
  show (match takeP text p x with | .error e => _ | .ok q => runP text q (a ++ b)) = match (match takeP text p x with | .error e => _ | .ok q => runP text q a) with | .error e => _ | .ok q => _
  cases takeP text p x with
  | error e => rfl
  | ok q => exact runP_append text q a b
theorem unfoldN_le (ls : List (List UInt8)) : unfoldN ls <= 6 := by
 unfold unfoldN
 split
 ·split <;> decide
 decide
theorem endFieldN_le (p : PS) : endFieldN p <= 11 := by
 unfold endFieldN
 have := unfoldN_le p.said
 split
 ·decide
 split
 ·omega
 split <;> decide
structure Inv (p : PS) (c : Nat) : Prop where
 at_ : p.at_ <= c
 items : p.items.length <= p.at_
 stanzas : p.stanzas <= p.at_
 begin_ : p.begin_ <= c
 fields : p.fields.length <= c
 said : (p.said.map List.length).sum + p.said.length <= c
 both : p.fields.length + p.said.length <= c
theorem Inv.new : Inv PS.new 0 := ⟨Nat.le_refl _, Nat.le_refl _, Nat.le_refl _, Nat.le_refl _, Nat.le_refl _, Nat.le_refl _, Nat.le_refl _⟩
theorem Inv.mono {p : PS} {c d : Nat} (h : Inv p c) (hd : c <= d) : Inv p d :=
 ⟨Nat.le_trans h.at_ hd, h.items, h.stanzas, Nat.le_trans h.begin_ hd, Nat.le_trans h.fields hd, Nat.le_trans h.said hd, Nat.le_trans h.both hd⟩
theorem Inv.endField {p : PS} {c : Nat} (h : Inv p c) : Inv (endFieldP p) c := by
 unfold endFieldP
 split
 ·exact h
 rename_i hs
 have hb := h.both
 have : 1 <= p.said.length := by cases hp : p.said with | nil => exact absurd hp hs | cons a l => simp
 exact ⟨h.at_, h.items, h.stanzas, h.begin_, by simp; omega, by simp, by simp; omega⟩
theorem Inv.endItem {p : PS} {c : Nat} (text : List UInt8) (kind e : Nat) (h : Inv p c) (h1 : p.at_ < e) (h2 : e <= c) : Inv (endItemP text p kind e) c := by
 have a := h.items; have b := h.stanzas
 refine ⟨h2, ?_, ?_, h.begin_, by simp [endItemP], h.said, ?_⟩
 ·simp [endItemP]; omega
 ·simp [endItemP]; omega
 have := h.both; simp [endItemP]; omega
theorem Inv.endBlock {p : PS} {c : Nat} (text : List UInt8) (e : Nat) (h : Inv p c) (h1 : p.at_ <= e) (h2 : e <= c) : Inv (endBlockP text p e) c := by
 unfold endBlockP
 split
 ·exact h
 split
 ·exact h.endItem text 2 e (by omega) h2
 have g := h.endItem text 3 e (by omega) h2
 exact ⟨g.at_, g.items, by have := h.stanzas; show p.stanzas + 1 <= e; omega, g.begin_, g.fields, g.said, g.both⟩
theorem endField_at (p : PS) : (endFieldP p).at_ = p.at_ := by unfold endFieldP; split <;> rfl
theorem endField_said (p : PS) : (endFieldP p).said = [] := by unfold endFieldP; split <;> simp_all
theorem endBlock_at (text : List UInt8) (p : PS) (e : Nat) (h : p.at_ <= e) : (endBlockP text p e).at_ = e := by
 unfold endBlockP
 split
 ·assumption
 split <;> rfl
theorem endBlock_said (text : List UInt8) (p : PS) (e : Nat) : (endBlockP text p e).said = p.said := by
 unfold endBlockP
 split
 ·rfl
 split <;> rfl
theorem wentP_at (p : PS) (x : Ln) : (wentP p x).at_ = p.at_ := by unfold wentP; split <;> rfl
theorem Inv.went {p : PS} {x : Ln} {c : Nat} (h : Inv p c) : Inv (wentP p x) (c + x.text.length + 1) := by
 unfold wentP
 split
 ·have a := h.said; have b := h.both
  refine ⟨by have := h.at_; show p.at_ <= _; omega, h.items, h.stanzas, by have := h.begin_; show p.begin_ <= _; omega, by have := h.fields; show p.fields.length <= _; omega, ?_, ?_⟩
  ·simp; omega
  simp; omega
 exact h.mono (by omega)
theorem Inv.then_ {p : PS} {x : Ln} {c : Nat} (h : Inv p c) : Inv (thenP p x) (c + x.text.length + 1) := by
 unfold thenP
 split
 ·exact h.went.endField
 exact h.went
theorem thenP_at (p : PS) (x : Ln) : (thenP p x).at_ = p.at_ := by
 unfold thenP
 split
 ·rw [endField_at, wentP_at]
 exact wentP_at p x
theorem thenP_said {p : PS} {x : Ln} (h : goesP p x = false) : (thenP p x).said = [] := by
 unfold thenP endsP
 rw [h]
 simp only [Bool.not_false, Bool.or_true, if_true]
 exact endField_said _
theorem goes_kind {p : PS} {x : Ln} (h : kindL x.text ≠ 3) : goesP p x = false := by unfold goesP; simp [h]
theorem Inv.take {text : List UInt8} {p q : PS} {x : Ln} (h : Inv p x.at_) (hno : x.no <= x.at_) (he : takeP text p x = .ok q) : Inv q (x.at_ + x.bytes.length) /\ x.ended = true := by
 unfold takeP at he
 split at he
 ·cases he
 split at he
 ·cases he
 rename_i hw
 have hen : x.ended = true := by
  cases hx : x.ended with
  | true => rfl
  | false => exact absurd (by unfold wrongP; rw [hx]; simp) hw
 have hb : x.at_ + x.bytes.length = x.at_ + x.text.length + 1 := by unfold Ln.bytes; rw [hen]; simp; omega
 refine ⟨?_, hen⟩
 rw [hb]
 cases he
 have t := h.then_ (x := x)
 unfold putP
 split
 ·rename_i hk
  have e := thenP_said (goes_kind (p := p) (x := x) (by omega))
  refine ⟨t.at_, t.items, t.stanzas, by show x.no <= _; omega, t.fields, by simp, ?_⟩
  have hf : (thenP p x).fields.length <= x.at_ := by
   have g := goes_kind (p := p) (x := x) (by omega)
   unfold thenP endsP wentP
   rw [g]
   simp only [Bool.not_false, Bool.or_true, if_true]
   exact (Inv.endField h).fields
  simp; omega
 split
 ·have ta := thenP_at p x
  have ha := h.at_
  refine Inv.endItem text 1 _ (t.endBlock text x.at_ (by omega) (by omega)) ?_ (by omega)
  rw [endBlock_at text _ _ (by omega)]; omega
 exact t
end Go.Proofs.YtbkeoiefolkjfaaGreatDoor
namespace Go.Proofs.YtbkeoiefolkjfaaGreatDoor
structure Good (t : List UInt8) (p : PS) : Prop where
 st : p.stanzas <= 400
 st' : p.fields ≠ [] -> p.stanzas <= 399
 fl : p.fields.length <= 40
 each : ∀ it ∈ p.items, it.fields.length <= 40
 join : p.items.flatMap It.raw = t.take p.at_
theorem Good.new (t : List UInt8) : Good t PS.new := ⟨by decide, fun h => absurd rfl h, by decide, (fun it h => by cases h), rfl⟩
theorem Good.endField {t : List UInt8} {p : PS} (h : Good t p) (h0 : endFieldN p = 0) : Good t (endFieldP p) := by
 unfold endFieldP
 split
 ·exact h
 rename_i hs
 unfold endFieldN at h0
 rw [if_neg hs] at h0
 split at h0
 ·rename_i hu; exact absurd h0 hu
 have hfull : fullP p = false := by
  cases hf : fullP p with
  | false => rfl
  | true => rw [hf] at h0; simp at h0
 unfold fullP at hfull
 have fl := h.fl
 have st := h.st
 refine ⟨h.st, fun _ => ?_, ?_, h.each, h.join⟩
 ·show p.stanzas <= 399
  split at hfull
  ·have : p.stanzas ≠ 400 := by simpa using hfull
   omega
  rename_i hz
  exact h.st' (fun e => hz (by rw [e]; rfl))
 show (p.fields ++ [_]).length <= 40
 rw [List.length_append]
 split at hfull
 ·simp; omega
 have : p.fields.length ≠ 40 := by simpa using hfull
 simp; omega
theorem drop_take_join (t : List UInt8) (a e : Nat) (h : a <= e) : t.take a ++ (t.take e).drop a = t.take e := by
 conv => rhs; rw [<- List.take_append_drop a (t.take e), List.take_take, Nat.min_eq_left h]
theorem Good.endItem {t : List UInt8} {p : PS} (h : Good t p) (kind e : Nat) (hle : p.at_ <= e) : Good t (endItemP t p kind e) := by
 refine ⟨h.st, fun hn => absurd rfl hn, by simp [endItemP], ?_, ?_⟩
 ·intro it hi
  rcases List.mem_append.1 hi with hi | hi
  ·exact h.each it hi
  rw [List.mem_singleton.1 hi]; exact h.fl
 show (p.items ++ [_]).flatMap It.raw = t.take e
 rw [List.flatMap_append, h.join]
 simp only [List.flatMap_cons, List.flatMap_nil, List.append_nil]
 exact drop_take_join t p.at_ e hle
theorem Good.endBlock {t : List UInt8} {p : PS} (h : Good t p) (e : Nat) (hle : p.at_ <= e) : Good t (endBlockP t p e) := by
 unfold endBlockP
 split
 ·exact h
 split
 ·exact h.endItem 2 e hle
 rename_i hz
 have g := h.endItem 3 e hle
 have := h.st' (fun e => hz (by rw [e]; rfl))
 exact ⟨by show p.stanzas + 1 <= 400; omega, fun hn => absurd rfl hn, g.fl, g.each, g.join⟩
theorem Good.went {t : List UInt8} {p : PS} (h : Good t p) (x : Ln) : Good t (wentP p x) := by
 unfold wentP
 split
 ·exact ⟨h.st, h.st', h.fl, h.each, h.join⟩
 exact h
theorem take_parts {t : List UInt8} {p q : PS} {x : Ln} (he : takeP t p x = .ok q) : (endsP p x = true -> endFieldN (wentP p x) = 0) /\ wrongP p x = false /\ q = putP t (thenP p x) x := by
 unfold takeP at he
 split at he
 ·cases he
 rename_i h1
 split at he
 ·cases he
 rename_i h2
 cases he
 refine ⟨fun hn => ?_, by simpa using h2, rfl⟩
 rcases Nat.decEq (endFieldN (wentP p x)) 0 with e | e
 ·exact absurd ⟨hn, e⟩ h1
 exact e
theorem take_of {t : List UInt8} {p : PS} {x : Ln} (h1 : endsP p x = true -> endFieldN (wentP p x) = 0) (h2 : wrongP p x = false) : takeP t p x = .ok (putP t (thenP p x) x) := by
 unfold takeP
 rw [if_neg (fun h => h.2 (h1 h.1)), h2]; rfl
theorem Good.then_ {t : List UInt8} {p : PS} {x : Ln} (h : Good t p) (h1 : endsP p x = true -> endFieldN (wentP p x) = 0) : Good t (thenP p x) := by
 unfold thenP
 split
 ·rename_i he; exact (h.went x).endField (h1 he)
 exact h.went x
theorem Good.put {t : List UInt8} {p : PS} {x : Ln} (h : Good t p) (ha : p.at_ <= x.at_) : Good t (putP t p x) := by
 unfold putP
 split
 ·exact ⟨h.st, h.st', h.fl, h.each, h.join⟩
 split
 ·refine (h.endBlock x.at_ ha).endItem 1 _ ?_
  rw [endBlock_at t p _ ha]; omega
 exact h
theorem Good.take {t : List UInt8} {p q : PS} {x : Ln} (h : Good t p) (ha : p.at_ <= x.at_) (he : takeP t p x = .ok q) : Good t q := by
 obtain ⟨h1, _, rfl⟩ := take_parts he
 exact (h.then_ h1).put (by rw [thenP_at]; exact ha)
def Runs : Nat -> Nat -> List Ln -> Prop
 | _, _, [] => True
 | no, c, x :: xs => x.no = no /\ x.at_ = c /\ 1 <= x.bytes.length /\ Runs (no + 1) (c + x.bytes.length) xs
theorem runs_linesOn : ∀ (n no at_ : Nat) (l : List UInt8), l.length <= n -> Runs no at_ (linesOn no at_ l)
 | 0, no, at_, l, h => by
  have : l = [] := List.length_eq_zero_iff.1 (by omega)
  subst this; rw [linesOn_nil]; trivial
 | n + 1, no, at_, l, h => by
  by_cases hl : l = []
  ·subst hl; rw [linesOn_nil]; trivial
  have hp := used_pos l hl
  rw [linesOn_cons _ _ _ hl]
  have hb : (Ln.bytes ⟨no, at_, head l, nl l⟩).length = used l := by
   unfold Ln.bytes used; simp only [List.length_append]; split <;> rfl
  refine ⟨rfl, rfl, by rw [hb]; exact hp, ?_⟩
  rw [hb]
  exact runs_linesOn n _ _ _ (by simp only [List.length_drop]; omega)
theorem run_good (t : List UInt8) : ∀ (xs : List Ln) (no c : Nat) (p q : PS), Runs no c xs -> no <= c -> Inv p c -> Good t p -> runP t p xs = .ok q -> Inv q (c + (xs.flatMap Ln.bytes).length) /\ Good t q /\ ∀ x ∈ xs, x.ended = true
 | [], no, c, p, q, _, _, hi, hg, he => by
  cases he
  exact ⟨by simpa using hi, hg, fun x h => by cases h⟩
 | x :: xs, no, c, p, q, hr, hn, hi, hg, he => by
  obtain ⟨r1, r2, r3, r4⟩ := hr
  unfold runP at he
  cases ht : takeP t p x with
  | error e => rw [ht] at he; cases he
  | ok p1 =>
  rw [ht] at he
  dsimp only at he
  rw [<- r2] at hi
  obtain ⟨i1, e1⟩ := Inv.take hi (by omega) ht
  have g1 := hg.take hi.at_ ht
  rw [r2] at i1
  obtain ⟨a, b, d⟩ := run_good t xs (no + 1) (c + x.bytes.length) p1 q r4 (by omega) i1 g1 he
  refine ⟨?_, b, fun y hy => ?_⟩
  ·rw [List.flatMap_cons, List.length_append, <- Nat.add_assoc]; exact a
  rcases List.mem_cons.1 hy with rfl | hy
  ·exact e1
  exact d y hy
theorem parse_good {t : List UInt8} {its : List It} (h : parseL t = .ok its) : ∃ p, runP t PS.new (linesOf t) = .ok p /\ endFieldN p = 0 /\ its = (endBlockP t (endFieldP p) t.length).items /\ Good t (endBlockP t (endFieldP p) t.length) /\ Inv (endBlockP t (endFieldP p) t.length) t.length /\ (endFieldP p).at_ <= t.length := by
 unfold parseL at h
 cases hr : runP t PS.new (linesOf t) with
 | error e => rw [hr] at h; cases h
 | ok p =>
 rw [hr] at h
 dsimp only at h
 unfold lastP at h
 split at h
 ·cases h
 rename_i h0
 have h0 : endFieldN p = 0 := by simpa using h0
 cases h
 obtain ⟨a, b, _⟩ := run_good t _ 0 0 _ _ (runs_linesOn _ 0 0 t (Nat.le_refl _)) (Nat.le_refl _) Inv.new (Good.new t) hr
 rw [show linesOn 0 0 t = linesOf t from rfl, linesOf_join, Nat.zero_add] at a
 exact ⟨p, rfl, h0, rfl, (b.endField h0).endBlock _ a.endField.at_, a.endField.endBlock t _ a.endField.at_ (Nat.le_refl _), a.endField.at_⟩
theorem parse_join {t : List UInt8} {its : List It} (h : parseL t = .ok its) : its.flatMap It.raw = t /\ its.length <= t.length /\ ∀ it ∈ its, it.fields.length <= 40 /\ it.raw.length <= t.length := by
 obtain ⟨p, _, _, rfl, g, i, hle⟩ := parse_good h
 have ha := endBlock_at t (endFieldP p) t.length hle
 have hj := g.join
 rw [ha, List.take_length] at hj
 refine ⟨hj, by have := i.items; rw [ha] at this; exact this, fun it hi => ⟨g.each it hi, ?_⟩⟩
 obtain ⟨a, b, e⟩ := List.append_of_mem hi
 rw [e, List.flatMap_append, List.flatMap_cons] at hj
 have := congrArg List.length hj
 simp only [List.length_append] at this
 omega
end Go.Proofs.YtbkeoiefolkjfaaGreatDoor
namespace Go.Proofs.YtbkeoiefolkjfaaGreatDoor
theorem linesOn_cut : ∀ (a b : List Ln) (no at_ : Nat) (l : List UInt8), linesOn no at_ l = a ++ b -> (∀ x ∈ a, x.ended = true) ->
  linesOn no at_ (l.take (a.flatMap Ln.bytes).length) = a /\ b = linesOn (no + a.length) (at_ + (a.flatMap Ln.bytes).length) (l.drop (a.flatMap Ln.bytes).length)
 | [], b, no, at_, l, h, _ => by
  refine ⟨by simp [linesOn_nil], ?_⟩
  simpa using h.symm
 | x :: a, b, no, at_, l, h, he => by
  have hl : l ≠ [] := by rintro rfl; rw [linesOn_nil] at h; cases h
  rw [linesOn_cons _ _ _ hl, List.cons_append] at h
  obtain ⟨hx, ht⟩ := List.cons.inj h
  have hb : x.bytes.length = used l := by
   rw [<- hx]; unfold Ln.bytes used; simp only [List.length_append]; split <;> rfl
  have hen : nl l = true := by have := he x List.mem_cons_self; rw [<- hx] at this; exact this
  obtain ⟨i1, i2⟩ := linesOn_cut a b (no + 1) (at_ + used l) (l.drop (used l)) ht (fun y hy => he y (List.mem_cons_of_mem _ hy))
  have hsp := head_split l
  rw [hen, if_pos rfl] at hsp
  have hu : used l = (head l).length + 1 := by unfold used; rw [hen]; rfl
  have hcl := linesOn_clean _ no at_ l (Nat.le_refl _) ⟨no, at_, head l, nl l⟩ (by rw [linesOn_cons _ _ _ hl]; exact List.mem_cons_self)
  have hlen : ((x :: a).flatMap Ln.bytes).length = used l + (a.flatMap Ln.bytes).length := by rw [List.flatMap_cons, List.length_append, hb]
  rw [hlen]
  rw [hen] at hx
  clear hlen hb hen
  generalize head l = hd at *
  generalize hr : l.drop (used l) = r at *
  rw [hu] at *
  have hl2 : l = hd ++ 10 :: r := by rw [hsp]; simp
  clear hsp hu
  generalize (a.flatMap Ln.bytes).length = m at *
  have htk : l.take (hd.length + 1 + m) = hd ++ 10 :: r.take m := by
   rw [hl2, List.take_append, List.take_of_length_le (by omega), show hd.length + 1 + m - hd.length = m + 1 by omega]
   simp
  refine ⟨?_, ?_⟩
  ·rw [htk, linesOn_cons _ _ _ (by simp)]
   obtain ⟨h1, h2⟩ := head_of hd (r.take m) hcl
   have hu2 : used (hd ++ 10 :: r.take m) = hd.length + 1 := by unfold used; rw [h1, h2]; rfl
   have hd2 : (hd ++ 10 :: r.take m).drop (hd.length + 1) = r.take m := by
    rw [show hd ++ 10 :: r.take m = (hd ++ [10]) ++ r.take m by simp]
    exact List.drop_left' (by simp)
   rw [h1, h2, hu2, hd2, i1, <- hx]
  rw [i2, <- hr, List.drop_drop, List.length_cons, Nat.add_assoc no, Nat.add_comm 1, Nat.add_assoc at_]
end Go.Proofs.YtbkeoiefolkjfaaGreatDoor
namespace Go.Proofs.YtbkeoiefolkjfaaGreatDoor
def re (p : PS) (n : Nat) : PS := { p with begin_ := n }
end Go.Proofs.YtbkeoiefolkjfaaGreatDoor
namespace Go.Proofs.YtbkeoiefolkjfaaGreatDoor.Hd
open Go.Lib
def two (g : Nat) : List It := [⟨2, SIGN ++ (decDigits g ++ [10]), []⟩, ⟨1, [10], []⟩]
end Go.Proofs.YtbkeoiefolkjfaaGreatDoor.Hd
namespace Go.Proofs.YtbkeoiefolkjfaaGreatDoor.Fr
open Go.Lib
theorem sp_append : ∀ (a b : List UInt8) (s : Bool), sp s (a ++ b) = (sp s a && sp (fresh s a) b)
 | [], b, s => by simp [sp, fresh]
 | c :: a, b, s => by
  have e : fresh s (c :: a) = fresh (c == 10) a := by
   unfold fresh
   rw [List.getLast?_cons]
   cases a.getLast? <;> simp
  simp only [List.cons_append, sp, sp_append a b (c == 10), e, Bool.and_assoc]
theorem fresh_append (a b : List UInt8) (s : Bool) (h : b ≠ []) : fresh s (a ++ b) = fresh true b := by
 unfold fresh
 rw [List.getLast?_append]
 cases hb : b.getLast? with
 | none => exact absurd (List.getLast?_eq_none_iff.1 hb) h
 | some c => simp
theorem sp_spaces : ∀ (k : Nat) (s : Bool), sp s (List.replicate k 32) = true
 | 0, s => by cases s <;> rfl
 | k + 1, s => by rw [List.replicate_succ]; unfold sp; rw [sp_spaces k]; simp
theorem fresh_spaces (k : Nat) (s : Bool) : fresh s (List.replicate k 32) = (s && decide (k = 0)) := by
 cases k with
 | zero => simp [fresh]
 | succ k => unfold fresh; rw [List.getLast?_replicate]; simp
theorem good_iff {l : List UInt8} : goodR l = true ↔ 2 <= l.length /\ l.length <= 50000 /\ lastNl l = true /\ sp true l = true := by unfold goodR; simp [and_assoc]
theorem good_spaces {n : Nat} (h2 : 2 <= n) (h5 : n <= 50000) : goodR (List.replicate (n - 1) 32 ++ [10]) = true := by
 rw [good_iff, sp_append, sp_spaces, fresh_spaces]
 have : ¬ n - 1 = 0 := by omega
 refine ⟨by simp; omega, by simp; omega, by simp [lastNl], ?_⟩
 simp [sp, this]
def bodyPart (t : List UInt8) (n : Nat) : Bool := sp true t && !(fresh true t && decide (n - t.length < 2))
theorem body_part {t : List UInt8} {n : Nat} (h2 : 2 <= n) (h5 : n <= 50000) (hl : t.length < n) : (∃ z, goodR (t ++ z) = true /\ (t ++ z).length = n) ↔ bodyPart t n = true := by
 unfold bodyPart
 constructor
 ·rintro ⟨z, hg, hz⟩
  obtain ⟨_, _, h3, h4⟩ := good_iff.1 hg
  rw [sp_append] at h4
  simp only [Bool.and_eq_true] at h4 ⊢
  refine ⟨h4.1, ?_⟩
  cases hf : fresh true t with
  | false => rfl
  | true =>
  rw [hf] at h4
  rw [List.length_append] at hz
  by_cases hk : n - t.length < 2
  ·exfalso
   obtain ⟨c, rfl⟩ : ∃ c, z = [c] := by
    match z, hz with
    | [], hz => simp at hz; omega
    | [c], _ => exact ⟨c, rfl⟩
    | a :: b :: z, hz => simp at hz; omega
   have h5 := h4.2
   unfold lastNl at h3
   simp [sp] at h3 h5
   subst h3
   cases h5
  simp [hk]
 intro h
 simp only [Bool.and_eq_true] at h
 refine ⟨List.replicate (n - t.length - 1) 32 ++ [10], ?_, by simp; omega⟩
 rw [good_iff]
 refine ⟨by simp; omega, by simp; omega, by simp [lastNl], ?_⟩
 rw [sp_append, h.1, Bool.true_and, sp_append, sp_spaces, fresh_spaces]
 cases hf : fresh true t with
 | false => simp [sp]
 | true =>
 have h2 := h.2
 rw [hf] at h2
 have : ¬ n - t.length - 1 = 0 := by simp at h2; omega
 simp [sp, this]
theorem body_tail {t : List UInt8} {n : Nat} (h2 : 2 <= n) (h5 : n <= 50000) (hl : t.length < n) : goodR (t ++ (List.replicate (n - t.length - 1) 32 ++ [10])) = bodyPart t n := by
 rw [Bool.eq_iff_iff]
 constructor
 ·intro h
  exact (body_part h2 h5 hl).1 ⟨_, h, by simp; omega⟩
 intro h
 unfold bodyPart at h
 simp only [Bool.and_eq_true] at h
 rw [good_iff]
 refine ⟨by simp; omega, by simp; omega, by simp [lastNl], ?_⟩
 rw [sp_append, h.1, Bool.true_and, sp_append, sp_spaces, fresh_spaces]
 cases hf : fresh true t with
 | false => simp [sp]
 | true =>
 have h2 := h.2
 rw [hf] at h2
 have : ¬ n - t.length - 1 = 0 := by simp at h2; omega
 simp [sp, this]
def HeadPart (l : List UInt8) : Prop := ∃ n f z, 2 <= n /\ n <= 50000 /\ figB f /\ l ++ z = headR n f
theorem take_of {a b z : List UInt8} (h : a ++ z = b) (k : Nat) (hk : a.length <= k) : ∃ y, a ++ y = b.take k := ⟨z.take (k - a.length), by rw [<- h, List.take_append, List.take_of_length_le hk]⟩
theorem rec_def (n : Nat) (f b : List UInt8) : recR n f b = headR n f ++ 10 :: (b ++ footR n) := rfl
theorem part_line {t : List UInt8} (h : (10 : UInt8) ∉ t) : PartT t ↔ HeadPart t := by
 constructor
 ·rintro ⟨n, f, b, z, hg, hn, hf, he, hz⟩
  obtain ⟨h2, h5, _, _⟩ := good_iff.1 hg
  refine ⟨n, f, ?_⟩
  by_cases hl : t.length <= (headR n f).length
  ·obtain ⟨y, hy⟩ := take_of he (headR n f).length hl
   rw [rec_def, List.take_left] at hy
   exact ⟨y, by omega, by omega, hf, hy⟩
  exfalso
  have h1 : (headR n f ++ [10]).length <= t.length := by simp; omega
  have e : headR n f ++ [10] ++ (b ++ footR n) = t ++ z := by rw [he, rec_def]; simp
  obtain ⟨y, hy⟩ := take_of e t.length h1
  rw [List.take_left] at hy
  exact h (by rw [<- hy]; simp)
 rintro ⟨n, f, z, h2, h5, hf, he⟩
 refine ⟨n, f, List.replicate (n - 1) 32 ++ [10], z ++ 10 :: ((List.replicate (n - 1) 32 ++ [10]) ++ footR n), good_spaces h2 h5, by simp; omega, hf, ?_, by simp⟩
 rw [rec_def, <- he]; simp
theorem no_whole_line {t b : List UInt8} (h : (10 : UInt8) ∉ t) : ¬ WholeT t b := by
 rintro ⟨_, more, rfl⟩
 exact h (by unfold fullR; rw [rec_def]; simp)
theorem odd_line {l r : List UInt8} (hl : (10 : UInt8) ∉ l) (h : ¬ ∃ n f, IsHead l n f) : ¬ PartT (l ++ 10 :: r) /\ ¬ ∃ b, WholeT (l ++ 10 :: r) b := by
 constructor
 ·rintro ⟨n, f, b, z, hg, hn, hf, he, hz⟩
  obtain ⟨h2, h5, _, _⟩ := good_iff.1 hg
  rw [rec_def, List.append_assoc, List.cons_append] at he
  exact h ⟨n, f, by omega, by omega, hf, (split_at hl (head_no10 hf) he).1⟩
 rintro ⟨b, hg, more, he⟩
 obtain ⟨h2, h5, _, _⟩ := good_iff.1 hg
 unfold fullR at he
 rw [rec_def, List.append_assoc, List.cons_append] at he
 exact h ⟨b.length, figsB b, h2, h5, figsB_ok b, (split_at hl (head_no10 (figsB_ok b)) he).1⟩
theorem part_behind {n : Nat} {f r : List UInt8} (h2 : 2 <= n) (h5 : n <= 50000) (hf : figB f) : PartT (headR n f ++ 10 :: r) ↔ ∃ b z, goodR b = true /\ b.length = n /\ r ++ z = b ++ footR n /\ z ≠ [] := by
 constructor
 ·rintro ⟨n', f', b, z, hg, hn, hf', he, hz⟩
  obtain ⟨h2', h5', _, _⟩ := good_iff.1 hg
  rw [rec_def, List.append_assoc, List.cons_append] at he
  obtain ⟨e1, e2⟩ := split_at (head_no10 hf) (head_no10 hf') he
  obtain ⟨rfl, rfl⟩ := head_inj h5 (by omega) e1
  exact ⟨b, z, hg, hn, e2, hz⟩
 rintro ⟨b, z, hg, hn, he, hz⟩
 exact ⟨n, f, b, z, hg, hn, hf, by rw [rec_def, <- he]; simp, hz⟩
theorem whole_behind {n : Nat} {f r b : List UInt8} (h2 : 2 <= n) (h5 : n <= 50000) (hf : figB f) : WholeT (headR n f ++ 10 :: r) b ↔ goodR b = true /\ b.length = n /\ figsB b = f /\ ∃ more, r = b ++ (footR n ++ more) := by
 constructor
 ·rintro ⟨hg, more, he⟩
  obtain ⟨h2', h5', _, _⟩ := good_iff.1 hg
  unfold fullR at he
  rw [rec_def, List.append_assoc, List.cons_append] at he
  obtain ⟨e1, e2⟩ := split_at (head_no10 hf) (head_no10 (figsB_ok b)) he
  obtain ⟨rfl, rfl⟩ := head_inj h5 (by omega) e1
  exact ⟨hg, rfl, rfl, more, by rw [e2]; simp⟩
 rintro ⟨hg, rfl, rfl, more, rfl⟩
 exact ⟨hg, more, by unfold fullR; rw [rec_def]; simp⟩
theorem short_body {n : Nat} {f r : List UInt8} (h2 : 2 <= n) (h5 : n <= 50000) (hf : figB f) (hl : r.length < n) : (PartT (headR n f ++ 10 :: r) ↔ bodyPart r n = true) /\ ¬ ∃ b, WholeT (headR n f ++ 10 :: r) b := by
 constructor
 ·rw [part_behind h2 h5 hf, <- body_part h2 h5 hl]
  constructor
  ·rintro ⟨b, z, hg, hn, he, hz⟩
   obtain ⟨y, hy⟩ := take_of he b.length (by omega)
   rw [List.take_left] at hy
   exact ⟨y, by rw [hy]; exact hg, by rw [hy]; exact hn⟩
  rintro ⟨z, hg, hz⟩
  exact ⟨r ++ z, z ++ footR n, hg, hz, by simp, by intro q; have := (List.append_eq_nil_iff.1 q).2; simp [footR, END] at this⟩
 rintro ⟨b, h⟩
 obtain ⟨_, hn, _, more, rfl⟩ := (whole_behind h2 h5 hf).1 h
 simp at hl; omega
theorem long_body {n : Nat} {f b r : List UInt8} (h2 : 2 <= n) (h5 : n <= 50000) (hf : figB f) (hl : b.length = n) :
  (PartT (headR n f ++ 10 :: (b ++ r)) ↔ goodR b = true /\ ∃ z, r ++ z = footR n /\ z ≠ []) /\ (∀ b', WholeT (headR n f ++ 10 :: (b ++ r)) b' ↔ b' = b /\ goodR b = true /\ figsB b = f /\ ∃ more, r = footR n ++ more) := by
 constructor
 ·rw [part_behind h2 h5 hf]
  constructor
  ·rintro ⟨b', z, hg, hn, he, hz⟩
   rw [List.append_assoc] at he
   obtain ⟨rfl, e2⟩ := List.append_inj he (by omega)
   exact ⟨hg, z, e2, hz⟩
  rintro ⟨hg, z, he, hz⟩
  exact ⟨b, z, hg, hl, by rw [List.append_assoc, he], hz⟩
 intro b'
 rw [whole_behind h2 h5 hf]
 constructor
 ·rintro ⟨hg, hn, hfg, more, he⟩
  obtain ⟨rfl, e2⟩ := List.append_inj he (by omega)
  exact ⟨rfl, hg, hfg, more, e2⟩
 rintro ⟨rfl, hg, hfg, more, rfl⟩
 exact ⟨hg, hl, hfg, more, rfl⟩
theorem whole_not_part {t b : List UInt8} (h : WholeT t b) : ¬ PartT t := by
 obtain ⟨hg, more, rfl⟩ := h
 obtain ⟨h2, h5, _, _⟩ := good_iff.1 hg
 intro hp
 have e : fullR b ++ more = headR b.length (figsB b) ++ 10 :: (b ++ (footR b.length ++ more)) := by unfold fullR; rw [rec_def]; simp
 rw [e] at hp
 obtain ⟨_, z, hz, h0⟩ := (long_body h2 h5 (figsB_ok b) rfl).1.1 hp
 have := congrArg List.length hz
 simp only [List.length_append] at this
 exact h0 (List.eq_nil_of_length_eq_zero (by omega))
theorem whole_one {t b b' : List UInt8} (h : WholeT t b) (h' : WholeT t b') : b = b' := by
 obtain ⟨hg, more, rfl⟩ := h
 obtain ⟨h2, h5, _, _⟩ := good_iff.1 hg
 have e : fullR b ++ more = headR b.length (figsB b) ++ 10 :: (b ++ (footR b.length ++ more)) := by unfold fullR; rw [rec_def]; simp
 rw [e] at h'
 exact (((long_body h2 h5 (figsB_ok b) rfl).2 b').1 h').1.symm
theorem full_begins {b : List UInt8} (hg : goodR b = true) {k : Nat} (hk : k < (fullR b).length) : PartT ((fullR b).take k) :=
 ⟨b.length, figsB b, b, (fullR b).drop k, hg, rfl, figsB_ok b, List.take_append_drop _ _, fun q => by have := congrArg List.length q; simp at this; omega⟩
end Go.Proofs.YtbkeoiefolkjfaaGreatDoor.Fr
namespace Go.Proofs.YtbkeoiefolkjfaaGreatDoor.Bk
open Go.Lib Go.Proofs.YtbkeoiefolkjfaaGreatDoor.Fr Go.Proofs.YtbkeoiefolkjfaaGreatDoor.Hd
def begL (l : List UInt8) : Bool := hasPrefix l [37] && decide (kindL l = 5)
def cutAt (xs : List Ln) (n : Nat) : Nat := match xs.find? (fun x => begL x.text) with | some x => x.at_ | none => n
def baseL (t : List UInt8) : List UInt8 := t.take (cutAt (linesOf t) t.length)
theorem head_clean (l : List UInt8) : (10 : UInt8) ∉ head l := fun h => by
 have := List.all_eq_true.1 (List.all_takeWhile (p := fun c : UInt8 => c != 10) (l := l)) 10 h
 simp at this
theorem head_none : ∀ {l : List UInt8}, (10 : UInt8) ∉ l -> head l = l
 | [], _ => rfl
 | c :: l, h => by
  have hc : (c != 10) = true := by
   simp only [bne_iff_ne]
   rintro rfl
   exact h List.mem_cons_self
  unfold head
  rw [List.takeWhile_cons, if_pos hc]
  exact congrArg (c :: ·) (head_none fun hm => h (List.mem_cons_of_mem _ hm))
theorem cutAt_le (t : List UInt8) : cutAt (linesOf t) t.length <= t.length := by
 unfold cutAt
 cases h : (linesOf t).find? (fun x => begL x.text) with
 | none => exact Nat.le_refl _
 | some x =>
 obtain ⟨_, pre, post, he, _⟩ := List.find?_eq_some_iff_append.1 h
 obtain ⟨_, ha⟩ := linesOf_at t pre x post he
 have hj := linesOf_join t
 rw [he, List.flatMap_append] at hj
 show x.at_ <= t.length
 rw [ha, <- hj, List.length_append]
 omega
theorem baseL_len (t : List UInt8) : (baseL t).length = cutAt (linesOf t) t.length := by
 unfold baseL; rw [List.length_take]; have := cutAt_le t; omega
theorem baseL_split (t : List UInt8) : t = baseL t ++ t.drop (baseL t).length := by
 have h := baseL_len t
 rw [h]
 exact (List.take_append_drop _ t).symm
theorem behind_base (t : List UInt8) : t.drop (baseL t).length = [] \/ begL (head (t.drop (baseL t).length)) = true := by
 rw [baseL_len]
 unfold cutAt
 cases h : (linesOf t).find? (fun x => begL x.text) with
 | none => left; simp
 | some x =>
 obtain ⟨hb, pre, post, he, _⟩ := List.find?_eq_some_iff_append.1 h
 obtain ⟨_, ha⟩ := linesOf_at t pre x post he
 have hpe : ∀ y ∈ pre, y.ended = true := by
  intro y hy
  have hall : ∀ (xs : List Ln) (no a : Nat) (l : List UInt8) (z : Ln) (zs : List Ln), linesOn no a l = xs ++ z :: zs -> ∀ y ∈ xs, y.ended = true := by
   intro xs
   induction xs with
   | nil => intro no a l z zs _ y hy; cases hy
   | cons u us ih =>
   intro no a l z zs e y hy
   have hl : l ≠ [] := by rintro rfl; rw [linesOn_nil] at e; cases e
   rw [linesOn_cons _ _ _ hl, List.cons_append] at e
   obtain ⟨e1, e2⟩ := List.cons.inj e
   rcases List.mem_cons.1 hy with hy | hy
   ·subst hy
    rw [<- e1]
    show nl l = true
    cases hn : nl l with
    | true => rfl
    | false =>
    exfalso
    have hs := head_split l
    rw [hn] at hs
    have hu : used l = (head l).length := by unfold used; rw [hn]; rfl
    have h9 : l.drop (used l) = [] := by
     have hm : (10 : UInt8) ∉ l := by unfold nl at hn; simpa using hn
     have : head l = l := head_none hm
     rw [hu, this]
     exact List.drop_length
    rw [h9, linesOn_nil] at e2
    cases us <;> cases e2
   exact ih _ _ _ _ _ e2 y hy
  exact hall pre 0 0 t x post he y hy
 obtain ⟨_, c2⟩ := linesOn_cut pre (x :: post) 0 0 t he hpe
 right
 show begL (head (t.drop x.at_)) = true
 rw [ha]
 have hne : t.drop (pre.flatMap Ln.bytes).length ≠ [] := by
  intro e
  rw [e, linesOn_nil] at c2
  cases c2
 rw [linesOn_cons _ _ _ hne] at c2
 have := (List.cons.inj c2).1
 rw [this] at hb
 exact hb
theorem full_form (b : List UInt8) : fullR b = headR b.length (figsB b) ++ 10 :: (b ++ footR b.length) := rfl
structure Recd (D : List UInt8 -> Bool) (s : List UInt8) (bds : List (List UInt8)) (rest : List UInt8) : Prop where
 eq : s = bds.flatMap fullR ++ rest
 good : ∀ b ∈ bds, goodR b = true /\ D b = true
def FinB (D : List UInt8 -> Bool) (r : List UInt8) : Prop := (¬ PartT r /\ ¬ ∃ b, WholeT r b) \/ ∃ b, WholeT r b /\ D b = false
def Fin (D : List UInt8 -> Bool) (r : List UInt8) : Prop := PartT r \/ FinB D r
theorem fin_not {D : List UInt8 -> Bool} {r b : List UInt8} (h : Fin D r) (hw : WholeT r b) (hd : D b = true) : False := by
 rcases h with h | ⟨_, h⟩ | ⟨b', hb, h⟩
 ·exact whole_not_part hw h
 ·exact h ⟨b, hw⟩
 rw [whole_one hw hb] at hd; rw [hd] at h; cases h
theorem finB_not {D : List UInt8 -> Bool} {r : List UInt8} (h : PartT r) (h' : FinB D r) : False := by
 rcases h' with ⟨h1, _⟩ | ⟨b, hb, _⟩
 ·exact h1 h
 exact whole_not_part hb h
theorem recd_one {D : List UInt8 -> Bool} : ∀ {s : List UInt8} {x y : List (List UInt8)} {r q : List UInt8}, Recd D s x r -> Recd D s y q -> Fin D r -> Fin D q -> x = y /\ r = q
 | s, [], [], r, q, h, h', _, _ => ⟨rfl, by have e := h.eq; rw [h'.eq] at e; simpa using e.symm⟩
 | s, [], b :: y, r, q, h, h', hf, _ => by
  exfalso
  have e := h.eq
  have e' := h'.eq
  rw [List.flatMap_nil, List.nil_append] at e
  rw [List.flatMap_cons, List.append_assoc] at e'
  obtain ⟨g, d⟩ := h'.good b List.mem_cons_self
  exact fin_not hf ⟨g, _, e.symm.trans e'⟩ d
 | s, b :: x, [], r, q, h, h', _, hf => by
  exfalso
  have e := h.eq
  have e' := h'.eq
  rw [List.flatMap_nil, List.nil_append] at e'
  rw [List.flatMap_cons, List.append_assoc] at e
  obtain ⟨g, d⟩ := h.good b List.mem_cons_self
  exact fin_not hf ⟨g, _, e'.symm.trans e⟩ d
 | s, b :: x, c :: y, r, q, h, h', hr, hq => by
  have e := h.eq
  have e' := h'.eq
  rw [List.flatMap_cons, List.append_assoc] at e e'
  obtain ⟨g, d⟩ := h.good b List.mem_cons_self
  obtain ⟨g', d'⟩ := h'.good c List.mem_cons_self
  have hbc : b = c := whole_one ⟨g, _, e⟩ ⟨g', _, e'⟩
  subst hbc
  have e2 := List.append_cancel_left (e.symm.trans e')
  obtain ⟨h1, h2⟩ := recd_one (s := x.flatMap fullR ++ r) ⟨rfl, fun b hb => h.good b (List.mem_cons_of_mem _ hb)⟩ ⟨e2, fun b hb => h'.good b (List.mem_cons_of_mem _ hb)⟩ hr hq
  exact ⟨by rw [h1], h2⟩
theorem Recd.snoc {D : List UInt8 -> Bool} {s r b : List UInt8} {bds : List (List UInt8)} (h : Recd D s bds r) (hw : WholeT r b) (hd : D b = true) : Recd D s (bds ++ [b]) (r.drop (fullR b).length) := by
 obtain ⟨g, m, hm⟩ := hw
 refine ⟨?_, fun c hc => ?_⟩
 ·rw [h.eq, hm, List.drop_left, List.flatMap_append]
  simp
 rcases List.mem_append.1 hc with hc | hc
 ·exact h.good c hc
 rw [List.mem_singleton.1 hc]; exact ⟨g, hd⟩
def endsFrom : Nat -> List (List UInt8) -> List Nat
 | _, [] => []
 | s, b :: r => (s + (fullR b).length) :: endsFrom (s + (fullR b).length) r
theorem endsFrom_snoc : ∀ (s : Nat) (bds : List (List UInt8)) (b : List UInt8), endsFrom s (bds ++ [b]) = endsFrom s bds ++ [s + (bds.flatMap fullR).length + (fullR b).length]
 | s, [], b => by simp [endsFrom]
 | s, c :: r, b => by
  have := endsFrom_snoc (s + (fullR c).length) r b
  simp only [List.cons_append, endsFrom]
  rw [this]
  simp only [List.flatMap_cons, List.length_append, Nat.add_assoc]
theorem endsFrom_len : ∀ (s : Nat) (bds : List (List UInt8)), (endsFrom s bds).length = bds.length
 | _, [] => rfl
 | s, b :: r => by simp [endsFrom, endsFrom_len]
theorem endsFrom_last (s : Nat) (bds : List (List UInt8)) (h : bds ≠ []) : (endsFrom s bds)[bds.length - 1]? = some (s + (bds.flatMap fullR).length) := by
 rcases List.eq_nil_or_concat bds with hb | ⟨r, b, hb⟩
 ·exact absurd hb h
 rw [List.concat_eq_append] at hb
 subst hb
 rw [endsFrom_snoc, List.getElem?_append_right (by rw [endsFrom_len]; simp), endsFrom_len]
 simp [Nat.add_assoc]
theorem full_pos (b : List UInt8) : 7 <= (fullR b).length := by unfold fullR recR headR AMD; simp
theorem bds_len : ∀ (bds : List (List UInt8)), bds.length <= (bds.flatMap fullR).length
 | [] => Nat.le_refl _
 | b :: r => by
  have h := bds_len r
  have := full_pos b
  rw [List.flatMap_cons, List.length_append, List.length_cons]
  omega
def hl (n : Nat) : Nat := if 1 <= n /\ n <= 2147483648 then (headL n).length else 0
theorem hl_le {t : List UInt8} {n : Nat} (h : GenIs t n) : hl n <= t.length := by
 unfold hl
 split
 ·rename_i h1
  rcases h with ⟨_, _, r, e⟩ | ⟨rfl, _⟩
  ·rw [e]; simp
  omega
 omega
structure Sound (D : List UInt8 -> Bool) (t : List UInt8) (n : Nat) (base : List UInt8) (bds : List (List UInt8)) (tail : List UInt8) : Prop where
 gen : GenIs t n
 parse : ∃ its, parseL base = .ok its
 isB : baseL (t.drop (hl n)) = base
 recd : Recd D (t.drop (hl n + base.length)) bds tail
 fin : PartT tail
def wholeN (n : Nat) (base : List UInt8) (bds : List (List UInt8)) : Nat := hl n + base.length + (bds.flatMap fullR).length
theorem drop_plus (t : List UInt8) (a b : Nat) : t.drop (a + b) = (t.drop a).drop b := by rw [List.drop_drop]
structure Parts (t : List UInt8) (n : Nat) (base : List UInt8) (bds : List (List UInt8)) (tail : List UInt8) : Prop where
 eq : t = t.take (hl n) ++ (base ++ (bds.flatMap fullR ++ tail))
 take : t.take (wholeN n base bds) = t.take (hl n) ++ (base ++ bds.flatMap fullR)
 len : t.length = wholeN n base bds + tail.length
 tail : t.drop (wholeN n base bds) = tail
theorem Sound.parts {D : List UInt8 -> Bool} {t base tail : List UInt8} {n : Nat} {bds : List (List UInt8)} (h : Sound D t n base bds tail) : Parts t n base bds tail := by
 have hle := hl_le h.gen
 have e1 := baseL_split (t.drop (hl n))
 rw [h.isB] at e1
 have e2 := h.recd.eq
 rw [drop_plus] at e2
 rw [e2] at e1
 have e3 : t = t.take (hl n) ++ (base ++ (bds.flatMap fullR ++ tail)) := by
  rw [<- e1]; exact (List.take_append_drop _ t).symm
 have hk : (t.take (hl n)).length = hl n := by rw [List.length_take]; omega
 have e4 : t = (t.take (hl n) ++ (base ++ bds.flatMap fullR)) ++ tail := by
  rw [List.append_assoc, List.append_assoc]; exact e3
 have hw : (t.take (hl n) ++ (base ++ bds.flatMap fullR)).length = wholeN n base bds := by
  unfold wholeN; simp only [List.length_append, hk]; omega
 refine ⟨e3, ?_, ?_, ?_⟩
 ·conv => lhs; rw [e4]
  rw [<- hw, List.take_left]
 ·conv => lhs; rw [e4]
  rw [List.length_append, hw]
 conv => lhs; rw [e4]
 rw [<- hw, List.drop_left]
end Go.Proofs.YtbkeoiefolkjfaaGreatDoor.Bk
namespace Go.Proofs.YtbkeoiefolkjfaaGreatDoor.Fr
open Go.Lib
def zeros : List UInt8 := [48, 48, 48, 48, 48, 48, 48, 48]
def longest : List UInt8 := [37, 97, 109, 101, 110, 100, 32, 53, 48, 48, 48, 48, 32, 48, 48, 48, 48, 48, 48, 48, 48]
theorem zeros_fig : figB zeros := figB_iff.2 ⟨rfl, by decide⟩
theorem longest_eq : longest = headR 50000 zeros := by
 unfold headR
 rw [dec_more (by omega), dec_more (by omega), dec_more (by omega), dec_more (by omega), decDigits_one (by omega)]
 rfl
theorem dec10 : decDigits 10 = [49, 48] := by rw [dec_more (by omega), decDigits_one (by omega)]; rfl
theorem dec1 : decDigits 1 = [49] := by rw [decDigits_one (by omega)]; rfl
theorem two_ways {a b x y : List UInt8} (h : a ++ x = b ++ y) : (∃ q, b = a ++ q /\ x = q ++ y) \/ (∃ c q, a = b ++ c :: q /\ y = c :: q ++ x) := by
 rcases List.append_eq_append_iff.1 h with ⟨q, h1, h2⟩ | ⟨q, h1, h2⟩
 ·exact .inl ⟨q, h1, h2⟩
 cases q with
 | nil => exact .inl ⟨[], by simpa using h1.symm, by simpa using h2.symm⟩
 | cons c q => exact .inr ⟨c, q, h1, h2⟩
theorem fig_fill {r z f : List UInt8} (hf : figB f) (h : r ++ z = f) : figB (r ++ zeros.drop r.length) := by
 obtain ⟨h8, hx⟩ := figB_iff.1 hf
 have hl : r.length <= 8 := by have := congrArg List.length h; simp at this; omega
 refine figB_iff.2 ⟨by simp [zeros]; omega, ?_⟩
 rw [List.all_append, Bool.and_eq_true]
 rw [<- h, List.all_append, Bool.and_eq_true] at hx
 exact ⟨hx.1, List.all_eq_true.2 fun c hc => by have := List.mem_of_mem_drop hc; simp [zeros] at this; subst this; decide⟩
theorem fig_fill2 {r : List UInt8} (hl : r.length <= 8) (hx : r.all hexB = true) : figB (r ++ zeros.drop r.length) := by
 refine figB_iff.2 ⟨by simp [zeros]; omega, ?_⟩
 rw [List.all_append, Bool.and_eq_true]
 exact ⟨hx, List.all_eq_true.2 fun c hc => by have := List.mem_of_mem_drop hc; simp [zeros] at this; subst this; decide⟩
theorem head_parts {l : List UInt8} : HeadPart l ↔ ∃ at_, at_ <= 21 /\ ∃ n f, IsHead (l ++ longest.drop at_) n f := by
 constructor
 ·rintro ⟨n, f, z, h2, h5, hf, he⟩
  unfold headR at he
  rcases two_ways he with ⟨q, e1, e2⟩ | ⟨c, q, e1, e2⟩
  ·have hq : q = AMD.drop l.length := by rw [e1]; simp
   have hl : l.length <= 7 := by have := congrArg List.length e1; simp [AMD] at this; omega
   refine ⟨l.length, by omega, 50000, zeros, by omega, by omega, zeros_fig, ?_⟩
   rw [<- longest_eq]
   have e3 : longest = l ++ (q ++ longest.drop 7) := by rw [<- List.append_assoc, <- e1]; rfl
   have e4 : longest.drop l.length = q ++ longest.drop 7 := by rw [e3, List.drop_left, <- e3]
   rw [e4]; exact e3.symm
  rcases two_ways e2 with ⟨q2, e3, e4⟩ | ⟨d, q2, e3, e4⟩
  ·
   cases q2 with
   | nil =>
    rw [List.append_nil] at e3
    refine ⟨12, by omega, n, zeros, h2, h5, zeros_fig, ?_⟩
    rw [e1, e3]; unfold headR; rw [List.append_assoc]; rfl
   | cons d q2 =>
   rw [List.cons_append] at e4
   injection e4 with e5 e6
   subst e5
   have hl : q2.length <= 8 := by have := congrArg List.length e6; have := fig_len hf; simp at *; omega
   refine ⟨13 + q2.length, by omega, n, q2 ++ zeros.drop q2.length, h2, h5, fig_fill hf e6.symm, ?_⟩
   rw [e1, e3]; unfold headR
   have : longest.drop (13 + q2.length) = zeros.drop q2.length := by rw [<- List.drop_drop]; rfl
   rw [this]; simp
  -- within the number
  obtain ⟨v, e5, hv, h1v⟩ := dec_prefix n (c :: q) (d :: q2) (by simp) e3.symm
  have h1 := h1v (by omega)
  by_cases hv1 : v = 1
  ·subst hv1
   refine ⟨11, by omega, 10, zeros, by omega, by omega, zeros_fig, ?_⟩
   rw [e1, e5]; unfold headR; rw [dec10, dec1]; rfl
  refine ⟨12, by omega, v, zeros, by omega, by omega, zeros_fig, ?_⟩
  rw [e1, e5]; unfold headR; rw [List.append_assoc]; rfl
 rintro ⟨at_, _, n, f, h⟩
 exact ⟨n, f, _, h.lo, h.hi, h.fig, h.eq⟩
theorem part_len {l : List UInt8} (h : HeadPart l) : l.length <= 21 := by
 obtain ⟨n, f, z, h2, h5, hf, he⟩ := h
 have := congrArg List.length he
 have := dec_len5 (show n <= 99999 by omega)
 have := fig_len hf
 unfold headR AMD at *
 simp at *
 omega
def Compat (t : List UInt8) : Prop := ∃ n f z y, 2 <= n /\ n <= 50000 /\ figB f /\ t ++ z = headR n f ++ 10 :: y
theorem odd_of {t : List UInt8} (h : ¬ Compat t) : ReadIs t 3 [] 0 := by
 refine .inr (.inr ⟨?_, ?_, rfl, rfl, rfl⟩)
 ·rintro ⟨n, f, b, z, hg, hn, hf, he, hz⟩
  obtain ⟨h2, h5, _, _⟩ := good_iff.1 hg
  exact h ⟨n, f, z, _, by omega, by omega, hf, he⟩
 rintro ⟨b, hg, more, rfl⟩
 obtain ⟨h2, h5, _, _⟩ := good_iff.1 hg
 exact h ⟨_, _, [], b ++ footR b.length ++ more, h2, h5, figsB_ok b, by unfold fullR; rw [rec_def]; simp⟩
theorem part_of {t : List UInt8} (h : HeadPart t) : ReadIs t 2 [] 0 := by
 have h10 : (10 : UInt8) ∉ t := by
  obtain ⟨n, f, z, h2, h5, hf, he⟩ := h
  intro hm
  exact head_no10 (n := n) hf (by rw [<- he]; simp [hm])
 exact .inr (.inl ⟨(part_line h10).2 h, rfl, rfl, rfl⟩)
theorem at7_yes {t q : List UInt8} (h : AMD = t ++ q) : ReadIs t 2 [] 0 :=
 part_of ⟨50000, zeros, q ++ (decDigits 50000 ++ 32 :: zeros), by omega, by omega, zeros_fig, by unfold headR; rw [<- List.append_assoc, <- h]⟩
theorem at7_no {t : List UInt8} (hl : t.length <= 7) (h : ¬ ∃ q, AMD = t ++ q) : ReadIs t 3 [] 0 := odd_of (by
 rintro ⟨n, f, z, y, h2, h5, hf, he⟩
 unfold headR at he
 rw [List.append_assoc] at he
 rcases two_ways he with ⟨q, e1, _⟩ | ⟨c, q, e1, _⟩
 ·exact h ⟨q, e1⟩
 have := congrArg List.length e1
 simp [AMD] at this; omega)
theorem more7_no {t : List UInt8} (hl : 7 <= t.length) (h : ¬ ∃ q, t = AMD ++ q) : ReadIs t 3 [] 0 := odd_of (by
 rintro ⟨n, f, z, y, h2, h5, hf, he⟩
 unfold headR at he
 rw [List.append_assoc] at he
 rcases two_ways he with ⟨q, e1, _⟩ | ⟨c, q, e1, _⟩
 ·have := congrArg List.length e1
  simp [AMD] at this
  obtain rfl : q = [] := List.eq_nil_of_length_eq_zero (by omega)
  exact h ⟨[], by rw [e1]; simp⟩
 exact h ⟨_, e1⟩)
def dgB (c : UInt8) : Bool := decide (48 <= c.toNat) && decide (c.toNat <= 57)
theorem compat_s {s : List UInt8} (h : Compat (AMD ++ s)) : ∃ n f z y, 2 <= n /\ n <= 50000 /\ figB f /\ s ++ z = decDigits n ++ 32 :: (f ++ 10 :: y) := by
 obtain ⟨n, f, z, y, h2, h5, hf, he⟩ := h
 unfold headR at he
 rw [List.append_assoc, List.append_assoc] at he
 exact ⟨n, f, z, y, h2, h5, hf, by rw [List.append_cancel_left he]; simp⟩
theorem compat_d {ds r : List UInt8} (hd : ∀ c ∈ ds, dgB c = true) (hr : ∀ c r', r = c :: r' -> dgB c = false) (h : Compat (AMD ++ (ds ++ r))) :
  ∃ n, 2 <= n /\ n <= 50000 /\ ((r = [] /\ ∃ q, ds ++ q = decDigits n) \/ (ds = decDigits n /\ ∃ f z y r', figB f /\ r = 32 :: r' /\ r' ++ z = f ++ 10 :: y)) := by
 obtain ⟨n, f, z, y, h2, h5, hf, he⟩ := compat_s h
 refine ⟨n, h2, h5, ?_⟩
 rw [List.append_assoc] at he
 rcases two_ways he with ⟨q, e1, e2⟩ | ⟨c, q, e1, e2⟩
 ·cases r with
  | nil => exact .inl ⟨rfl, q, e1.symm⟩
  | cons c r' =>
  cases q with
  | nil =>
   rw [List.cons_append, List.nil_append] at e2
   injection e2 with e3 e4
   subst e3
   exact .inr ⟨by rw [e1]; simp, f, z, y, r', hf, rfl, e4⟩
  | cons d q =>
  rw [List.cons_append] at e2
  injection e2 with e3 e4
  subst e3
  have := dec_digits n c (by rw [e1]; simp)
  have h0 := hr c r' rfl
  unfold dgB at h0
  simp [this.1, this.2] at h0
 rw [List.cons_append] at e2
 injection e2 with e3 e4
 subst e3
 have := hd 32 (by rw [e1]; simp)
 exact absurd this (by decide)
theorem d_long {ds r : List UInt8} (hd : ∀ c ∈ ds, dgB c = true) (hr : ∀ c r', r = c :: r' -> dgB c = false) (h : 5 < ds.length) : ReadIs (AMD ++ (ds ++ r)) 3 [] 0 := odd_of (by
 intro hc
 obtain ⟨n, h2, h5, hh⟩ := compat_d hd hr hc
 have := dec_len5 (show n <= 99999 by omega)
 rcases hh with ⟨_, q, e⟩ | ⟨e, _⟩
 ·have := congrArg List.length e
  simp at this; omega
 rw [<- e] at this; omega)
theorem d_none {ds r : List UInt8} (hd : ∀ c ∈ ds, dgB c = true) (hr : ∀ c r', r = c :: r' -> dgB c = false) (hs : ds ++ r ≠ []) (h : ∀ v, 1 <= v -> v <= 50000 -> ds ≠ decDigits v) : ReadIs (AMD ++ (ds ++ r)) 3 [] 0 := odd_of (by
 intro hc
 obtain ⟨n, h2, h5, hh⟩ := compat_d hd hr hc
 rcases hh with ⟨rfl, q, e⟩ | ⟨e, _⟩
 ·have hne : ds ≠ [] := by simpa using hs
  obtain ⟨v, e1, hv, h1⟩ := dec_prefix n ds q hne e
  exact h v (h1 (by omega)) (by omega) e1
 exact h n (by omega) h5 e)
theorem d_part {v : Nat} (h1 : 1 <= v) (h5 : v <= 50000) : ReadIs (AMD ++ decDigits v) 2 [] 0 := part_of (by
 by_cases hv : v = 1
 ·subst hv
  exact ⟨10, zeros, 48 :: 32 :: zeros, by omega, by omega, zeros_fig, by unfold headR; rw [dec10, dec1]; rfl⟩
 exact ⟨v, zeros, 32 :: zeros, by omega, h5, zeros_fig, by unfold headR; rw [List.append_assoc]⟩)
theorem dec_dg (v : Nat) : ∀ c ∈ decDigits v, dgB c = true := fun c hc => by have := dec_digits v c hc; simp [dgB, this.1, this.2]
theorem d_other {v : Nat} {c : UInt8} {r : List UInt8} (hv : v <= 50000) (hc : dgB c = false) (h : c ≠ 32 \/ v < 2) : ReadIs (AMD ++ (decDigits v ++ c :: r)) 3 [] 0 := odd_of (by
 intro hq
 obtain ⟨n, h2, h5, hh⟩ := compat_d (dec_dg v) (fun c' r' e => by injection e with e _; rw [<- e]; exact hc) hq
 rcases hh with ⟨e, _⟩ | ⟨e, f, z, y, r', hf, e2, _⟩
 ·cases e
 injection e2 with e3 _
 have := dec_inj (by omega) (by omega) e
 rcases h with h | h
 ·exact h e3
 omega)
def hx (l : List UInt8) : Nat := ((l.take 8).takeWhile hexB).length
theorem h_part {n : Nat} {r : List UInt8} (h2 : 2 <= n) (h5 : n <= 50000) (h : hx r = r.length) : ReadIs (AMD ++ (decDigits n ++ 32 :: r)) 2 [] 0 := part_of (by
 have h8 : r.length <= 8 := by
  rw [<- h]; unfold hx
  exact Nat.le_trans (List.takeWhile_sublist _).length_le (by simp; omega)
 have ha : r.all hexB = true := by
  unfold hx at h
  rw [List.take_of_length_le h8] at h
  have e : r.takeWhile hexB = r := (List.takeWhile_sublist _).eq_of_length h
  rw [<- e]
  exact List.all_takeWhile
 exact ⟨n, r ++ zeros.drop r.length, zeros.drop r.length, h2, h5, fig_fill2 h8 ha, by unfold headR; simp⟩)
theorem hx_all {f y : List UInt8} (hf : figB f) : hx (f ++ y) = 8 := by
 obtain ⟨h8, ha⟩ := figB_iff.1 hf
 unfold hx
 rw [List.take_append_of_le_length (by omega), List.take_of_length_le (by omega)]
 have : f.takeWhile hexB = f := by
  have : ∀ l : List UInt8, l.all hexB = true -> l.takeWhile hexB = l := by
   intro l
   induction l with
   | nil => intro _; rfl
   | cons c l ih => intro h; simp only [List.all_cons, Bool.and_eq_true] at h; rw [List.takeWhile_cons, if_pos h.1, ih h.2]
  exact this f ha
 rw [this, h8]
theorem hx_pre {r z f : List UInt8} (hf : figB f) (h : r ++ z = f) : hx r = r.length := by
 obtain ⟨h8, ha⟩ := figB_iff.1 hf
 have hl : r.length <= 8 := by have := congrArg List.length h; simp at this; omega
 unfold hx
 rw [List.take_of_length_le hl]
 rw [<- h, List.all_append, Bool.and_eq_true] at ha
 have : ∀ l : List UInt8, l.all hexB = true -> l.takeWhile hexB = l := by
  intro l
  induction l with
  | nil => intro _; rfl
  | cons c l ih => intro h; simp only [List.all_cons, Bool.and_eq_true] at h; rw [List.takeWhile_cons, if_pos h.1, ih h.2]
 rw [this r ha.1]
theorem h_odd {n : Nat} {r : List UInt8} (h5 : n <= 50000) (h : hx r ≠ r.length) (h8 : hx r < 8 \/ r[8]? ≠ some 10) : ReadIs (AMD ++ (decDigits n ++ 32 :: r)) 3 [] 0 := odd_of (by
 intro hq
 obtain ⟨n', h2', h5', hh⟩ := compat_d (dec_dg n) (fun c' r' e => by injection e with e _; rw [<- e]; decide) hq
 rcases hh with ⟨e, _⟩ | ⟨e, f, z, y, r', hf, e2, e3⟩
 ·cases e
 injection e2 with _ e4
 subst e4
 rcases two_ways e3 with ⟨q, e5, _⟩ | ⟨c, q, e5, e6⟩
 ·exact h (hx_pre hf e5.symm)
 rw [List.cons_append] at e6
 injection e6 with e7 _
 subst e7
 rw [e5, hx_all hf] at h8
 rcases h8 with h8 | h8
 ·omega
 apply h8
 rw [List.getElem?_append_right (by rw [fig_len hf]; omega), fig_len hf]; rfl)
theorem h_head {r : List UInt8} (h8 : hx r = 8) (h10 : r[8]? = some 10) : ∃ f q, figB f /\ r = f ++ 10 :: q /\ f = r.take 8 /\ q = r.drop 9 := by
 have hl : 8 < r.length := by
  rcases Nat.lt_or_ge 8 r.length with h | h
  ·exact h
  rw [List.getElem?_eq_none h] at h10; cases h10
 refine ⟨r.take 8, r.drop 9, figB_iff.2 ⟨by simp; omega, ?_⟩, ?_, rfl, rfl⟩
 ·unfold hx at h8
  have e : (r.take 8).takeWhile hexB = r.take 8 := (List.takeWhile_sublist _).eq_of_length (by rw [h8]; simp; omega)
  rw [<- e]
  exact List.all_takeWhile
 have e := List.getElem?_eq_some_iff.1 h10
 obtain ⟨hk, e⟩ := e
 have := List.drop_eq_getElem_cons hk
 rw [e] at this
 rw [<- this, List.take_append_drop]
end Go.Proofs.YtbkeoiefolkjfaaGreatDoor.Fr
namespace Go.Proofs.YtbkeoiefolkjfaaGreatDoor
open Go.RowKit Go.WideShapes Go.ChangeAt Go.ChangeShapes
theorem drewN_below {B : Nat} {a w : World} (h : Below B a w) (n : Nat) : Below B a (w.drewN n) := ⟨h.os, h.tape, h.output, h.size, h.block⟩
def Strs (w : World) (v : Value) (ss : List ByteArray) : Prop :=
 ∃ A cap, v = .slice A ss.length cap /\ ss.length <= cap /\ ∀ (i : Nat) (s : ByteArray), ss[i]? = some s -> ∃ b off, A = some ⟨b, off, none⟩ /\ b < w.heap.size /\ w.cell? ⟨b, off + i, none⟩ = some (.string s)
theorem Strs.below {w w' : World} {v : Value} {ss : List ByteArray} {n : Nat} (h : Strs w v ss) (hb : Below n w w') (hn : w.heap.size <= n) : Strs w' v ss := by
 obtain ⟨A, cap, hv, hle, hc⟩ := h
 refine ⟨A, cap, hv, hle, fun i s hs => ?_⟩
 obtain ⟨b, off, hA, hlt, hcell⟩ := hc i s hs
 exact ⟨b, off, hA, Nat.lt_of_lt_of_le hlt hb.size, (hb.cell (p := ⟨b, off + i, none⟩) (Nat.lt_of_lt_of_le hlt hn)).trans hcell⟩
theorem Strs.alloc {w : World} {v : Value} {ss : List ByteArray} (h : Strs w v ss) (o : Obj) : Strs (w.alloc o) v ss :=
 h.below ((Below.refl w.heap.size w).alloc (Nat.le_refl _) o) (Nat.le_refl _)
theorem Strs.none (w : World) (c : Nat) : Strs w (.slice none 0 c) [] := ⟨_, c, rfl, Nat.zero_le _, fun i s h => by simp at h⟩
def B (l : List UInt8) : ByteArray := ⟨l.toArray⟩
theorem B_data (l : List UInt8) : (B l).data.toList = l := by simp [B]
theorem B_of (s : ByteArray) : B s.data.toList = s := by cases s; simp [B]
theorem B_size (l : List UInt8) : (B l).size = l.length := by simp [B, ByteArray.size]
theorem B_append (a b : List UInt8) : B a ++ B b = B (a ++ b) := by
 apply ByteArray.ext; simp [B]
def errV (n : Nat) : Value := if n = 0 then .nilIface else .iface 57 (.int .i64 (n : Int))
theorem errV_0 : errV 0 = .nilIface := rfl
theorem errV_2 : errV 2 = .iface 57 (.int .i64 2) := rfl
theorem errV_5 : errV 5 = .iface 57 (.int .i64 5) := rfl
theorem errV_6 : errV 6 = .iface 57 (.int .i64 6) := rfl
theorem errV_pos (n : Nat) (h : 0 < n) : errV n = .iface 57 (.int .i64 (n : Int)) := by unfold errV; rw [if_neg (by omega)]
attribute [local go_sem] errV_0
theorem assertErr (n : Int) (w : World) : (Instr.typeAssert (.iface 57 (.int .i64 n)) 28 57 true).run Tryz.prog w = .ok (.tuple #[.int .i64 n, .bool true]) w := by kernel_rfl
attribute [local go_sem] assertErr
theorem num_any (n : Nat) (hn : n <= 1000) (w : World) : Calls Tryz.prog 12 #[errV n] w fun e w' => e = .returned (.int .i64 n) /\ w = w' := by
 by_cases h0 : n = 0
 ·subst h0
  go_enter Tryz.func12, Tryz.ntmps12
  go_wp2
  refine wp_loop_rounds 1 ?_
  rw [rounds_succ]
  go_wp2
  go_ret
  exact ⟨rfl, rfl⟩
 rw [errV_pos n (by omega)]
 have hne : ((n : Int) != 0) = true := by simp; omega
 have hne2 : ((n : Int) == 0) = false := by simp; omega
 clear h0
 go_enter Tryz.func12, Tryz.ntmps12
 go_wp2
 refine wp_loop_rounds 1 ?_
 rw [rounds_succ]
 go_wp2
 go_ret
 exact ⟨rfl, rfl⟩
end Go.Proofs.YtbkeoiefolkjfaaGreatDoor
