/- The parser, plainly: from line to line. -/
import Derived.Test.YtngngamfceoklaaDoorFM
namespace Go.Proofs.YtngngamfceoklaaDoor

abbrev Fld := List UInt8 × List UInt8
/-- An item. -/
structure It where
  kind : Int
  raw : List UInt8
  fields : List Fld
deriving DecidableEq
/-- What the lines have made so far. -/
structure PS where
  begin_ : Nat
  said : List (List UInt8)
  items : List It
  stanzas : Nat
  at_ : Nat
  fields : List Fld
deriving DecidableEq
def PS.new : PS := ⟨0, [], [], 0, 0, []⟩
/-- What comes of a step: a place and a number, or what is made. -/
abbrev Res (α : Type) := Except (Nat × Nat) α

def fullP (p : PS) : Bool := if p.fields.length = 0 then p.stanzas == 400 else p.fields.length == 40
def endFieldN (p : PS) : Nat := if p.said = [] then 0 else if unfoldN p.said ≠ 0 then unfoldN p.said else if fullP p then 11 else 0
def endFieldP (p : PS) : PS := if p.said = [] then p else { p with fields := p.fields ++ [(unfoldK p.said, unfoldV p.said)], said := [] }
def endItemP (text : List UInt8) (p : PS) (kind end_ : Nat) : PS := { p with items := p.items ++ [⟨kind, (text.take end_).drop p.at_, p.fields⟩], at_ := end_, fields := [] }
def endBlockP (text : List UInt8) (p : PS) (end_ : Nat) : PS :=
  if p.at_ = end_ then p else if p.fields.length = 0 then endItemP text p 2 end_ else { endItemP text p 3 end_ with stanzas := p.stanzas + 1 }
def goesP (p : PS) (x : Ln) : Bool := kindL x.text == 3 && !(p.said.isEmpty)
def wentP (p : PS) (x : Ln) : PS := if goesP p x then { p with said := p.said ++ [x.text] } else p
def wrongP (p : PS) (x : Ln) : Bool := kindL x.text == 5 || (kindL x.text == 3 && !goesP p x) || !x.ended
/-- Is the field that is under way ended by the line? -/
def endsP (p : PS) (x : Ln) : Bool := wrongP p x || !goesP p x
def putP (text : List UInt8) (p : PS) (x : Ln) : PS :=
  if kindL x.text = 4 then { p with begin_ := x.no, said := [x.text] }
  else if kindL x.text = 1 then endItemP text (endBlockP text p x.at_) 1 (x.at_ + x.text.length + 1)
  else p
/-- What stands behind the end of the field, if the line ends it. -/
def thenP (p : PS) (x : Ln) : PS := if endsP p x then endFieldP (wentP p x) else wentP p x
def takeP (text : List UInt8) (p : PS) (x : Ln) : Res PS :=
  if endsP p x = true ∧ endFieldN (wentP p x) ≠ 0 then .error ((wentP p x).begin_, endFieldN (wentP p x))
  else if wrongP p x then .error (x.no, 2)
  else .ok (putP text (thenP p x) x)
def runP (text : List UInt8) : PS → List Ln → Res PS
  | p, [] => .ok p
  | p, x :: xs => match takeP text p x with
    | .error e => .error e
    | .ok q => runP text q xs
def lastP (text : List UInt8) (p : PS) : Res (List It) :=
  if endFieldN p ≠ 0 then .error (p.begin_, endFieldN p) else .ok (endBlockP text (endFieldP p) text.length).items
def parseL (text : List UInt8) : Res (List It) :=
  match runP text PS.new (linesOf text) with
  | .error e => .error e
  | .ok p => lastP text p

theorem runP_append (text : List UInt8) : ∀ (p : PS) (a b : List Ln), runP text p (a ++ b) = match runP text p a with | .error e => .error e | .ok q => runP text q b
  | p, [], b => rfl
  | p, x :: a, b => by
    show (match takeP text p x with | .error e => _ | .ok q => runP text q (a ++ b)) = match (match takeP text p x with | .error e => _ | .ok q => runP text q a) with | .error e => _ | .ok q => _
    cases takeP text p x with
    | error e => rfl
    | ok q => exact runP_append text q a b

theorem unfoldN_le (ls : List (List UInt8)) : unfoldN ls ≤ 6 := by
  unfold unfoldN
  split
  · split <;> decide
  · decide
theorem endFieldN_le (p : PS) : endFieldN p ≤ 11 := by
  unfold endFieldN
  have := unfoldN_le p.said
  split
  · decide
  · split
    · omega
    · split <;> decide

/-- What keeps the parser small: c bytes are behind it. -/
structure Inv (p : PS) (c : Nat) : Prop where
  at_ : p.at_ ≤ c
  items : p.items.length ≤ p.at_
  stanzas : p.stanzas ≤ p.at_
  begin_ : p.begin_ ≤ c
  fields : p.fields.length ≤ c
  said : (p.said.map List.length).sum + p.said.length ≤ c
  both : p.fields.length + p.said.length ≤ c
theorem Inv.new : Inv PS.new 0 := ⟨Nat.le_refl _, Nat.le_refl _, Nat.le_refl _, Nat.le_refl _, Nat.le_refl _, Nat.le_refl _, Nat.le_refl _⟩
theorem Inv.mono {p : PS} {c d : Nat} (h : Inv p c) (hd : c ≤ d) : Inv p d :=
  ⟨Nat.le_trans h.at_ hd, h.items, h.stanzas, Nat.le_trans h.begin_ hd, Nat.le_trans h.fields hd, Nat.le_trans h.said hd, Nat.le_trans h.both hd⟩
theorem Inv.endField {p : PS} {c : Nat} (h : Inv p c) : Inv (endFieldP p) c := by
  unfold endFieldP
  split
  · exact h
  · rename_i hs
    have hb := h.both
    have : 1 ≤ p.said.length := by cases hp : p.said with | nil => exact absurd hp hs | cons a l => simp
    exact ⟨h.at_, h.items, h.stanzas, h.begin_, by simp; omega, by simp, by simp; omega⟩
theorem Inv.endItem {p : PS} {c : Nat} (text : List UInt8) (kind e : Nat) (h : Inv p c) (h1 : p.at_ < e) (h2 : e ≤ c) : Inv (endItemP text p kind e) c := by
  have a := h.items; have b := h.stanzas
  refine ⟨h2, ?_, ?_, h.begin_, by simp [endItemP], h.said, ?_⟩
  · simp [endItemP]; omega
  · simp [endItemP]; omega
  · have := h.both; simp [endItemP]; omega
theorem Inv.endBlock {p : PS} {c : Nat} (text : List UInt8) (e : Nat) (h : Inv p c) (h1 : p.at_ ≤ e) (h2 : e ≤ c) : Inv (endBlockP text p e) c := by
  unfold endBlockP
  split
  · exact h
  · split
    · exact h.endItem text 2 e (by omega) h2
    · have g := h.endItem text 3 e (by omega) h2
      exact ⟨g.at_, g.items, by have := h.stanzas; show p.stanzas + 1 ≤ e; omega, g.begin_, g.fields, g.said, g.both⟩
theorem endField_at (p : PS) : (endFieldP p).at_ = p.at_ := by unfold endFieldP; split <;> rfl
theorem endField_said (p : PS) : (endFieldP p).said = [] := by unfold endFieldP; split <;> simp_all
theorem endBlock_at (text : List UInt8) (p : PS) (e : Nat) (h : p.at_ ≤ e) : (endBlockP text p e).at_ = e := by
  unfold endBlockP
  split
  · assumption
  · split <;> rfl
theorem endBlock_said (text : List UInt8) (p : PS) (e : Nat) : (endBlockP text p e).said = p.said := by
  unfold endBlockP
  split
  · rfl
  · split <;> rfl
theorem wentP_at (p : PS) (x : Ln) : (wentP p x).at_ = p.at_ := by unfold wentP; split <;> rfl
theorem Inv.went {p : PS} {x : Ln} {c : Nat} (h : Inv p c) : Inv (wentP p x) (c + x.text.length + 1) := by
  unfold wentP
  split
  · have a := h.said; have b := h.both
    refine ⟨by have := h.at_; show p.at_ ≤ _; omega, h.items, h.stanzas, by have := h.begin_; show p.begin_ ≤ _; omega, by have := h.fields; show p.fields.length ≤ _; omega, ?_, ?_⟩
    · simp; omega
    · simp; omega
  · exact h.mono (by omega)
theorem Inv.then_ {p : PS} {x : Ln} {c : Nat} (h : Inv p c) : Inv (thenP p x) (c + x.text.length + 1) := by
  unfold thenP
  split
  · exact h.went.endField
  · exact h.went
theorem thenP_at (p : PS) (x : Ln) : (thenP p x).at_ = p.at_ := by
  unfold thenP
  split
  · rw [endField_at, wentP_at]
  · exact wentP_at p x
theorem thenP_said {p : PS} {x : Ln} (h : goesP p x = false) : (thenP p x).said = [] := by
  unfold thenP endsP
  rw [h]
  simp only [Bool.not_false, Bool.or_true, if_true]
  exact endField_said _
theorem goes_kind {p : PS} {x : Ln} (h : kindL x.text ≠ 3) : goesP p x = false := by unfold goesP; simp [h]
theorem Inv.take {text : List UInt8} {p q : PS} {x : Ln} (h : Inv p x.at_) (hno : x.no ≤ x.at_) (he : takeP text p x = .ok q) : Inv q (x.at_ + x.bytes.length) ∧ x.ended = true := by
  unfold takeP at he
  split at he
  · cases he
  · split at he
    · cases he
    · rename_i hw
      have hen : x.ended = true := by
        cases hx : x.ended with
        | true => rfl
        | false => exact absurd (by unfold wrongP; rw [hx]; simp) hw
      have hb : x.at_ + x.bytes.length = x.at_ + x.text.length + 1 := by unfold Ln.bytes; rw [hen]; simp; omega
      refine ⟨?_, hen⟩
      rw [hb]
      cases he
      have t := h.then_ (x := x)
      unfold putP
      split
      · rename_i hk
        have e := thenP_said (goes_kind (p := p) (x := x) (by omega))
        refine ⟨t.at_, t.items, t.stanzas, by show x.no ≤ _; omega, t.fields, by simp, ?_⟩
        have hf : (thenP p x).fields.length ≤ x.at_ := by
          have g := goes_kind (p := p) (x := x) (by omega)
          unfold thenP endsP wentP
          rw [g]
          simp only [Bool.not_false, Bool.or_true, if_true]
          exact (Inv.endField h).fields
        simp; omega
      · split
        · have ta := thenP_at p x
          have ha := h.at_
          refine Inv.endItem text 1 _ (t.endBlock text x.at_ (by omega) (by omega)) ?_ (by omega)
          rw [endBlock_at text _ _ (by omega)]; omega
        · exact t
end Go.Proofs.YtngngamfceoklaaDoor
