/- Texts put together: DL, PA, PO, PQ, PR, PU, TA, FL. -/
import Derived.OwnWalk
import Derived.Laws.AppendOwn
import Derived.Laws.OwnMore
import Derived.Lib.SmallJoins
import Derived.Test.YtgaooalckjjplaaGreatDoorBfa2
import Derived.Test.YtgaooalckjjplaaGreatDoorBfa6
set_option linter.unusedVariables false
namespace Go.Proofs.YtgaooalckjjplaaGreatDoor.Fr
open Go.RowKit Go.Shelf
attribute [local go_sem] Oper.semAt_some

theorem readWhole_any {l b : List UInt8} (h : WholeT l b) (hl : l.length ≤ 700000) (w : World) (ht : TabsN w) :
    Calls Tryz.prog 25 #[.string (B l)] w fun e w' => e = .returned (.tuple #[.int .i64 1, .string (B b), .int .i64 ((fullR b).length : Int)]) ∧ Below w.heap.size w w' :=
  (read_any l hl w ht).mono fun e w' ⟨k, b', n, hr, he, hb⟩ => by
    obtain ⟨rfl, rfl, rfl⟩ := read_one hr (.inl ⟨h, rfl, rfl⟩)
    exact ⟨he, hb⟩
def b3 : List UInt8 := [32, 97, 10]
theorem b3_good : goodR b3 = true := by decide
theorem dec3 : Lib.decDigits b3.length = [51] := by rw [show b3.length = 3 from rfl, Lib.decDigits_one (by omega)]; rfl
theorem full3 : fullR b3 = [37, 97, 109, 101, 110, 100, 32, 51, 32] ++ figsB b3 ++ [10, 32, 97, 10, 37, 101, 110, 100, 32, 51, 10] := by
  unfold fullR recR headR footR
  rw [dec3]
  unfold AMD END b3
  simp
set_option maxRecDepth 100000 in
set_option maxHeartbeats 4000000 in
theorem alive11_any (w : World) (ht : TabsN w) :
    Calls Tryz.prog 23 #[] w fun e w' => e = .returned (.bool true) ∧ Below w.heap.size w w' := by
  have z3 : (⟨#[32, 97, 10]⟩ : ByteArray) = B b3 := rfl
  have R1 := Lib.hid (record_yes b3 b3_good w ht)
  have W1 : WholeT (fullR b3 ++ [120]) b3 := ⟨b3_good, [120], rfl⟩
  have hl := full_le b3_good
  have D1 := Lib.hid (fun w ht => readWhole_any W1 (by simp; omega) w ht)
  have e1 : Hid (B (fullR b3) ++ (⟨#[120]⟩ : ByteArray) = B (fullR b3 ++ [120])) := by show _ = _; rw [show (⟨#[120]⟩ : ByteArray) = B [120] from rfl, B_append]
  have S1 := Lib.hid (fun w => Sm.refSum_any (B b3) w (by decide))
  have F1 := Lib.hid (fun w => Sm.refFigures_any (Sm.M.crc b3) (Sm.M.crc_lt b3) w)
  have eF : Sm.figs (Sm.M.crc b3) = B (figsB b3) := (B_of _).symm
  simp only [eF] at F1
  simp only [B_data] at S1
  have e2 : ((⟨#[37, 97, 109, 101, 110, 100, 32, 51, 32]⟩ : ByteArray) ++ B (figsB b3) ++ (⟨#[10, 32, 97, 10, 37, 101, 110, 100, 32, 51, 10]⟩ : ByteArray)) = B (fullR b3) := by
    rw [show (⟨#[37, 97, 109, 101, 110, 100, 32, 51, 32]⟩ : ByteArray) = B [37, 97, 109, 101, 110, 100, 32, 51, 32] from rfl, show (⟨#[10, 32, 97, 10, 37, 101, 110, 100, 32, 51, 10]⟩ : ByteArray) = B [10, 32, 97, 10, 37, 101, 110, 100, 32, 51, 10] from rfl, B_append, B_append, full3]
  have fs := B_size (fullR b3)
  have zs : (B (figsB b3)).size ≤ 8 := by rw [B_size, fig_len (figsB_ok b3)]; omega
  have s1 : ((⟨#[37, 97, 109, 101, 110, 100, 32, 51, 32]⟩ : ByteArray) ++ B (figsB b3)).size ≤ 17 := by rw [ByteArray.size_append]; show 9 + _ ≤ _; omega
  have hs : (B (fullR b3)).size ≤ 50100 := by omega
  rw [← fs] at D1
  generalize B (fullR b3) = X at *
  generalize B (fullR b3 ++ [120]) = Y at *
  generalize B (figsB b3) = Z at *
  clear fs hl W1
  go_enter Tryz.func23, Tryz.ntmps23
  rw [z3]
  go_wp2_with fail
  refine R1.out.mono ?_
  rintro e w1 ⟨rfl, hb1⟩
  go_wp2_with fail
  rw [e1.out]
  refine (D1.out _ (ht.below hb1 (Nat.le_refl _))).mono ?_
  rintro e w2 ⟨rfl, hb2⟩
  have hb12 := hb1.trans (hb2.mono hb1.size)
  go_wp2_with fail
  refine (S1.out _).mono ?_
  rintro e w3 ⟨rfl, rfl⟩
  go_wp2_with fail
  refine (F1.out _).mono ?_
  rintro e w3 ⟨rfl, rfl⟩
  go_wp2_with fail
  go_ret
  exact ⟨rfl, hb12⟩
end Go.Proofs.YtgaooalckjjplaaGreatDoor.Fr

namespace Go.Proofs.YtgaooalckjjplaaGreatDoor

abbrev Fld := List UInt8 × List UInt8
/-- An item. -/
structure It where
  kind : Int
  raw : List UInt8
  fields : List Fld
deriving DecidableEq
/-- What the lines have made so far. -/
structure PS where
  begin_ : Nat
  said : List (List UInt8)
  items : List It
  stanzas : Nat
  at_ : Nat
  fields : List Fld
deriving DecidableEq
def PS.new : PS := ⟨0, [], [], 0, 0, []⟩
/-- What comes of a step: a place and a number, or what is made. -/
abbrev Res (α : Type) := Except (Nat × Nat) α

def fullP (p : PS) : Bool := if p.fields.length = 0 then p.stanzas == 400 else p.fields.length == 40
def endFieldN (p : PS) : Nat := if p.said = [] then 0 else if unfoldN p.said ≠ 0 then unfoldN p.said else if fullP p then 11 else 0
def endFieldP (p : PS) : PS := if p.said = [] then p else { p with fields := p.fields ++ [(unfoldK p.said, unfoldV p.said)], said := [] }
def endItemP (text : List UInt8) (p : PS) (kind end_ : Nat) : PS := { p with items := p.items ++ [⟨kind, (text.take end_).drop p.at_, p.fields⟩], at_ := end_, fields := [] }
def endBlockP (text : List UInt8) (p : PS) (end_ : Nat) : PS :=
  if p.at_ = end_ then p else if p.fields.length = 0 then endItemP text p 2 end_ else { endItemP text p 3 end_ with stanzas := p.stanzas + 1 }
def goesP (p : PS) (x : Ln) : Bool := kindL x.text == 3 && !(p.said.isEmpty)
def wentP (p : PS) (x : Ln) : PS := if goesP p x then { p with said := p.said ++ [x.text] } else p
def wrongP (p : PS) (x : Ln) : Bool := kindL x.text == 5 || (kindL x.text == 3 && !goesP p x) || !x.ended
/-- Is the field that is under way ended by the line? -/
def endsP (p : PS) (x : Ln) : Bool := wrongP p x || !goesP p x
def putP (text : List UInt8) (p : PS) (x : Ln) : PS :=
  if kindL x.text = 4 then { p with begin_ := x.no, said := [x.text] }
  else if kindL x.text = 1 then endItemP text (endBlockP text p x.at_) 1 (x.at_ + x.text.length + 1)
  else p
/-- What stands behind the end of the field, if the line ends it. -/
def thenP (p : PS) (x : Ln) : PS := if endsP p x then endFieldP (wentP p x) else wentP p x
def takeP (text : List UInt8) (p : PS) (x : Ln) : Res PS :=
  if endsP p x = true ∧ endFieldN (wentP p x) ≠ 0 then .error ((wentP p x).begin_, endFieldN (wentP p x))
  else if wrongP p x then .error (x.no, 2)
  else .ok (putP text (thenP p x) x)
def runP (text : List UInt8) : PS → List Ln → Res PS
  | p, [] => .ok p
  | p, x :: xs => match takeP text p x with
    | .error e => .error e
    | .ok q => runP text q xs
def lastP (text : List UInt8) (p : PS) : Res (List It) :=
  if endFieldN p ≠ 0 then .error (p.begin_, endFieldN p) else .ok (endBlockP text (endFieldP p) text.length).items
def parseL (text : List UInt8) : Res (List It) :=
  match runP text PS.new (linesOf text) with
  | .error e => .error e
  | .ok p => lastP text p

theorem runP_append (text : List UInt8) : ∀ (p : PS) (a b : List Ln), runP text p (a ++ b) = match runP text p a with | .error e => .error e | .ok q => runP text q b
  | p, [], b => rfl
  | p, x :: a, b => by
    show (match takeP text p x with | .error e => _ | .ok q => runP text q (a ++ b)) = match (match takeP text p x with | .error e => _ | .ok q => runP text q a) with | .error e => _ | .ok q => _
    cases takeP text p x with
    | error e => rfl
    | ok q => exact runP_append text q a b

theorem unfoldN_le (ls : List (List UInt8)) : unfoldN ls ≤ 6 := by
  unfold unfoldN
  split
  · split <;> decide
  · decide
/-- What keeps the parser small: c bytes are behind it. -/
structure Inv (p : PS) (c : Nat) : Prop where
  at_ : p.at_ ≤ c
  items : p.items.length ≤ p.at_
  stanzas : p.stanzas ≤ p.at_
  begin_ : p.begin_ ≤ c
  fields : p.fields.length ≤ c
  said : (p.said.map List.length).sum + p.said.length ≤ c
  both : p.fields.length + p.said.length ≤ c
theorem Inv.new : Inv PS.new 0 := ⟨Nat.le_refl _, Nat.le_refl _, Nat.le_refl _, Nat.le_refl _, Nat.le_refl _, Nat.le_refl _, Nat.le_refl _⟩
theorem Inv.mono {p : PS} {c d : Nat} (h : Inv p c) (hd : c ≤ d) : Inv p d :=
  ⟨Nat.le_trans h.at_ hd, h.items, h.stanzas, Nat.le_trans h.begin_ hd, Nat.le_trans h.fields hd, Nat.le_trans h.said hd, Nat.le_trans h.both hd⟩
theorem Inv.endField {p : PS} {c : Nat} (h : Inv p c) : Inv (endFieldP p) c := by
  unfold endFieldP
  split
  · exact h
  · rename_i hs
    have hb := h.both
    have : 1 ≤ p.said.length := by cases hp : p.said with | nil => exact absurd hp hs | cons a l => simp
    exact ⟨h.at_, h.items, h.stanzas, h.begin_, by simp; omega, by simp, by simp; omega⟩
theorem Inv.endItem {p : PS} {c : Nat} (text : List UInt8) (kind e : Nat) (h : Inv p c) (h1 : p.at_ < e) (h2 : e ≤ c) : Inv (endItemP text p kind e) c := by
  have a := h.items; have b := h.stanzas
  refine ⟨h2, ?_, ?_, h.begin_, by simp [endItemP], h.said, ?_⟩
  · simp [endItemP]; omega
  · simp [endItemP]; omega
  · have := h.both; simp [endItemP]; omega
theorem Inv.endBlock {p : PS} {c : Nat} (text : List UInt8) (e : Nat) (h : Inv p c) (h1 : p.at_ ≤ e) (h2 : e ≤ c) : Inv (endBlockP text p e) c := by
  unfold endBlockP
  split
  · exact h
  · split
    · exact h.endItem text 2 e (by omega) h2
    · have g := h.endItem text 3 e (by omega) h2
      exact ⟨g.at_, g.items, by have := h.stanzas; show p.stanzas + 1 ≤ e; omega, g.begin_, g.fields, g.said, g.both⟩
theorem endField_at (p : PS) : (endFieldP p).at_ = p.at_ := by unfold endFieldP; split <;> rfl
theorem endField_said (p : PS) : (endFieldP p).said = [] := by unfold endFieldP; split <;> simp_all
theorem endBlock_at (text : List UInt8) (p : PS) (e : Nat) (h : p.at_ ≤ e) : (endBlockP text p e).at_ = e := by
  unfold endBlockP
  split
  · assumption
  · split <;> rfl
theorem endBlock_said (text : List UInt8) (p : PS) (e : Nat) : (endBlockP text p e).said = p.said := by
  unfold endBlockP
  split
  · rfl
  · split <;> rfl
theorem wentP_at (p : PS) (x : Ln) : (wentP p x).at_ = p.at_ := by unfold wentP; split <;> rfl
theorem Inv.went {p : PS} {x : Ln} {c : Nat} (h : Inv p c) : Inv (wentP p x) (c + x.text.length + 1) := by
  unfold wentP
  split
  · have a := h.said; have b := h.both
    refine ⟨by have := h.at_; show p.at_ ≤ _; omega, h.items, h.stanzas, by have := h.begin_; show p.begin_ ≤ _; omega, by have := h.fields; show p.fields.length ≤ _; omega, ?_, ?_⟩
    · simp; omega
    · simp; omega
  · exact h.mono (by omega)
theorem Inv.then_ {p : PS} {x : Ln} {c : Nat} (h : Inv p c) : Inv (thenP p x) (c + x.text.length + 1) := by
  unfold thenP
  split
  · exact h.went.endField
  · exact h.went
theorem thenP_at (p : PS) (x : Ln) : (thenP p x).at_ = p.at_ := by
  unfold thenP
  split
  · rw [endField_at, wentP_at]
  · exact wentP_at p x
theorem thenP_said {p : PS} {x : Ln} (h : goesP p x = false) : (thenP p x).said = [] := by
  unfold thenP endsP
  rw [h]
  simp only [Bool.not_false, Bool.or_true, if_true]
  exact endField_said _
theorem goes_kind {p : PS} {x : Ln} (h : kindL x.text ≠ 3) : goesP p x = false := by unfold goesP; simp [h]
theorem Inv.take {text : List UInt8} {p q : PS} {x : Ln} (h : Inv p x.at_) (hno : x.no ≤ x.at_) (he : takeP text p x = .ok q) : Inv q (x.at_ + x.bytes.length) ∧ x.ended = true := by
  unfold takeP at he
  split at he
  · cases he
  · split at he
    · cases he
    · rename_i hw
      have hen : x.ended = true := by
        cases hx : x.ended with
        | true => rfl
        | false => exact absurd (by unfold wrongP; rw [hx]; simp) hw
      have hb : x.at_ + x.bytes.length = x.at_ + x.text.length + 1 := by unfold Ln.bytes; rw [hen]; simp; omega
      refine ⟨?_, hen⟩
      rw [hb]
      cases he
      have t := h.then_ (x := x)
      unfold putP
      split
      · rename_i hk
        have e := thenP_said (goes_kind (p := p) (x := x) (by omega))
        refine ⟨t.at_, t.items, t.stanzas, by show x.no ≤ _; omega, t.fields, by simp, ?_⟩
        have hf : (thenP p x).fields.length ≤ x.at_ := by
          have g := goes_kind (p := p) (x := x) (by omega)
          unfold thenP endsP wentP
          rw [g]
          simp only [Bool.not_false, Bool.or_true, if_true]
          exact (Inv.endField h).fields
        simp; omega
      · split
        · have ta := thenP_at p x
          have ha := h.at_
          refine Inv.endItem text 1 _ (t.endBlock text x.at_ (by omega) (by omega)) ?_ (by omega)
          rw [endBlock_at text _ _ (by omega)]; omega
        · exact t
end Go.Proofs.YtgaooalckjjplaaGreatDoor

namespace Go.Proofs.YtgaooalckjjplaaGreatDoor

structure Good (t : List UInt8) (p : PS) : Prop where
  st : p.stanzas ≤ 400
  st' : p.fields ≠ [] → p.stanzas ≤ 399
  fl : p.fields.length ≤ 40
  each : ∀ it ∈ p.items, it.fields.length ≤ 40
  join : p.items.flatMap It.raw = t.take p.at_
theorem Good.new (t : List UInt8) : Good t PS.new := ⟨by decide, fun h => absurd rfl h, by decide, (fun it h => by cases h), rfl⟩
theorem Good.endField {t : List UInt8} {p : PS} (h : Good t p) (h0 : endFieldN p = 0) : Good t (endFieldP p) := by
  unfold endFieldP
  split
  · exact h
  · rename_i hs
    unfold endFieldN at h0
    rw [if_neg hs] at h0
    split at h0
    · rename_i hu; exact absurd h0 hu
    · have hfull : fullP p = false := by
        cases hf : fullP p with
        | false => rfl
        | true => rw [hf] at h0; simp at h0
      unfold fullP at hfull
      have fl := h.fl
      have st := h.st
      refine ⟨h.st, fun _ => ?_, ?_, h.each, h.join⟩
      · show p.stanzas ≤ 399
        split at hfull
        · have : p.stanzas ≠ 400 := by simpa using hfull
          omega
        · rename_i hz
          exact h.st' (fun e => hz (by rw [e]; rfl))
      · show (p.fields ++ [_]).length ≤ 40
        rw [List.length_append]
        split at hfull
        · simp; omega
        · have : p.fields.length ≠ 40 := by simpa using hfull
          simp; omega
theorem drop_take_join (t : List UInt8) (a e : Nat) (h : a ≤ e) : t.take a ++ (t.take e).drop a = t.take e := by
  conv => rhs; rw [← List.take_append_drop a (t.take e), List.take_take, Nat.min_eq_left h]
theorem Good.endItem {t : List UInt8} {p : PS} (h : Good t p) (kind e : Nat) (hle : p.at_ ≤ e) : Good t (endItemP t p kind e) := by
  refine ⟨h.st, fun hn => absurd rfl hn, by simp [endItemP], ?_, ?_⟩
  · intro it hi
    rcases List.mem_append.1 hi with hi | hi
    · exact h.each it hi
    · rw [List.mem_singleton.1 hi]; exact h.fl
  · show (p.items ++ [_]).flatMap It.raw = t.take e
    rw [List.flatMap_append, h.join]
    simp only [List.flatMap_cons, List.flatMap_nil, List.append_nil]
    exact drop_take_join t p.at_ e hle
theorem Good.endBlock {t : List UInt8} {p : PS} (h : Good t p) (e : Nat) (hle : p.at_ ≤ e) : Good t (endBlockP t p e) := by
  unfold endBlockP
  split
  · exact h
  · split
    · exact h.endItem 2 e hle
    · rename_i hz
      have g := h.endItem 3 e hle
      have := h.st' (fun e => hz (by rw [e]; rfl))
      exact ⟨by show p.stanzas + 1 ≤ 400; omega, fun hn => absurd rfl hn, g.fl, g.each, g.join⟩
theorem Good.went {t : List UInt8} {p : PS} (h : Good t p) (x : Ln) : Good t (wentP p x) := by
  unfold wentP
  split
  · exact ⟨h.st, h.st', h.fl, h.each, h.join⟩
  · exact h
theorem take_parts {t : List UInt8} {p q : PS} {x : Ln} (he : takeP t p x = .ok q) : (endsP p x = true → endFieldN (wentP p x) = 0) ∧ wrongP p x = false ∧ q = putP t (thenP p x) x := by
  unfold takeP at he
  split at he
  · cases he
  · rename_i h1
    split at he
    · cases he
    · rename_i h2
      cases he
      refine ⟨fun hn => ?_, by simpa using h2, rfl⟩
      rcases Nat.decEq (endFieldN (wentP p x)) 0 with e | e
      · exact absurd ⟨hn, e⟩ h1
      · exact e
theorem take_of {t : List UInt8} {p : PS} {x : Ln} (h1 : endsP p x = true → endFieldN (wentP p x) = 0) (h2 : wrongP p x = false) : takeP t p x = .ok (putP t (thenP p x) x) := by
  unfold takeP
  rw [if_neg (fun h => h.2 (h1 h.1)), h2]; rfl
theorem Good.then_ {t : List UInt8} {p : PS} {x : Ln} (h : Good t p) (h1 : endsP p x = true → endFieldN (wentP p x) = 0) : Good t (thenP p x) := by
  unfold thenP
  split
  · rename_i he; exact (h.went x).endField (h1 he)
  · exact h.went x
theorem Good.put {t : List UInt8} {p : PS} {x : Ln} (h : Good t p) (ha : p.at_ ≤ x.at_) : Good t (putP t p x) := by
  unfold putP
  split
  · exact ⟨h.st, h.st', h.fl, h.each, h.join⟩
  · split
    · refine (h.endBlock x.at_ ha).endItem 1 _ ?_
      rw [endBlock_at t p _ ha]; omega
    · exact h
theorem Good.take {t : List UInt8} {p q : PS} {x : Ln} (h : Good t p) (ha : p.at_ ≤ x.at_) (he : takeP t p x = .ok q) : Good t q := by
  obtain ⟨h1, _, rfl⟩ := take_parts he
  exact (h.then_ h1).put (by rw [thenP_at]; exact ha)

/-- Lines that stand one behind the other, from a place on. -/
def Runs : Nat → Nat → List Ln → Prop
  | _, _, [] => True
  | no, c, x :: xs => x.no = no ∧ x.at_ = c ∧ 1 ≤ x.bytes.length ∧ Runs (no + 1) (c + x.bytes.length) xs
end Go.Proofs.YtgaooalckjjplaaGreatDoor

namespace Go.Proofs.YtgaooalckjjplaaGreatDoor

/-- A parser, put behind another one whose block is ended, d lines and e bytes on. -/
def up (q : PS) (d e : Nat) (s : PS) : PS := ⟨d + s.begin_, s.said, q.items ++ s.items, q.stanzas + s.stanzas, e + s.at_, s.fields⟩
end Go.Proofs.YtgaooalckjjplaaGreatDoor

namespace Go.Proofs.YtgaooalckjjplaaGreatDoor

theorem endField_items (p : PS) : (endFieldP p).items = p.items := by unfold endFieldP; split <;> rfl
theorem Runs.append : ∀ {a b : List Ln} {no c : Nat}, Runs no c (a ++ b) → Runs no c a ∧ Runs (no + a.length) (c + (a.flatMap Ln.bytes).length) b
  | [], b, no, c, h => ⟨trivial, h⟩
  | x :: a, b, no, c, ⟨h1, h2, h3, h4⟩ => by
    obtain ⟨i1, i2⟩ := Runs.append h4
    refine ⟨⟨h1, h2, h3, i1⟩, ?_⟩
    rw [List.flatMap_cons, List.length_append, List.length_cons, ← Nat.add_assoc c, Nat.add_comm a.length, ← Nat.add_assoc no]
    exact i2
end Go.Proofs.YtgaooalckjjplaaGreatDoor

namespace Go.Proofs.YtgaooalckjjplaaGreatDoor

/-- Texts as ended lines. -/
def num : Nat → Nat → List (List UInt8) → List Ln
  | _, _, [] => []
  | no, c, l :: r => ⟨no, c, l, true⟩ :: num (no + 1) (c + l.length + 1) r
theorem linesOn_num : ∀ (ts : List (List UInt8)) (no c : Nat), (∀ l ∈ ts, (10 : UInt8) ∉ l) → linesOn no c (textL ts) = num no c ts
  | [], no, c, _ => rfl
  | l :: r, no, c, h => by
    have e : textL (l :: r) = l ++ 10 :: textL r := by unfold textL; simp
    obtain ⟨h1, h2⟩ := head_of l (textL r) (h l List.mem_cons_self)
    have hu : used (l ++ 10 :: textL r) = l.length + 1 := by unfold used; rw [h1, h2]; rfl
    rw [e, linesOn_cons _ _ _ (by simp), h1, h2, hu]
    have hd : (l ++ 10 :: textL r).drop (l.length + 1) = textL r := by
      rw [show l ++ 10 :: textL r = (l ++ [10]) ++ textL r by simp]
      exact List.drop_left' (by simp)
    rw [hd, linesOn_num r _ _ (fun y hy => h y (List.mem_cons_of_mem _ hy))]
    rfl
theorem num_append : ∀ (a b : List (List UInt8)) (no c : Nat), num no c (a ++ b) = num no c a ++ num (no + a.length) (c + (textL a).length) b
  | [], b, no, c => rfl
  | l :: a, b, no, c => by
    have := num_append a b (no + 1) (c + l.length + 1)
    show _ :: num _ _ (a ++ b) = _ :: _ ++ _
    rw [this]
    have e : (textL (l :: a)).length = l.length + 1 + (textL a).length := by unfold textL; simp; omega
    rw [e, List.length_cons, show c + (l.length + 1 + (textL a).length) = c + l.length + 1 + (textL a).length by omega, show no + (a.length + 1) = no + 1 + a.length by omega]
    rfl
theorem run_cons {t : List UInt8} {p q : PS} {x : Ln} {xs : List Ln} (h : takeP t p x = .ok q) : runP t p (x :: xs) = runP t q xs := by
  show (match takeP t p x with | .error e => Except.error e | .ok q => runP t q xs) = _
  rw [h]
/-- Further lines go on with the field. -/
theorem run_more (t : List UInt8) : ∀ (r : List (List UInt8)) (p : PS) (no c : Nat), p.said ≠ [] → (∀ l ∈ r, kindL l = 3) → runP t p (num no c r) = .ok { p with said := p.said ++ r }
  | [], p, no, c, _, _ => by show Except.ok p = _; rw [List.append_nil]
  | l :: r, p, no, c, hs, hk => by
    have h3 := hk l List.mem_cons_self
    have hg : goesP p ⟨no, c, l, true⟩ = true := by
      unfold goesP; rw [h3]
      cases hq : p.said with
      | nil => exact absurd hq hs
      | cons a b => rfl
    have hw : wrongP p ⟨no, c, l, true⟩ = false := by unfold wrongP; rw [hg, h3]; rfl
    have he : endsP p ⟨no, c, l, true⟩ = false := by unfold endsP; rw [hw, hg]; rfl
    have ht : takeP t p ⟨no, c, l, true⟩ = .ok { p with said := p.said ++ [l] } := by
      rw [take_of (by rw [he]; intro h; cases h) hw]
      have e1 : thenP p ⟨no, c, l, true⟩ = { p with said := p.said ++ [l] } := by
        unfold thenP; rw [he, if_neg (by decide)]; unfold wentP; rw [hg, if_pos rfl]
      rw [e1]
      unfold putP
      rw [h3]; rfl
    show runP t p (⟨no, c, l, true⟩ :: num (no + 1) (c + l.length + 1) r) = _
    rw [run_cons ht, run_more t r _ _ _ (by simp) (fun y hy => hk y (List.mem_cons_of_mem _ hy))]
    simp
/-- A line that goes on with no field, ended. -/
theorem take_else {t : List UInt8} {p : PS} {no c : Nat} {l : List UInt8} (hk : kindL l ≠ 3) (h5 : kindL l ≠ 5) (h0 : endFieldN p = 0) : takeP t p ⟨no, c, l, true⟩ = .ok (putP t (endFieldP p) ⟨no, c, l, true⟩) := by
  have hg : goesP p ⟨no, c, l, true⟩ = false := goes_kind hk
  have hw : wrongP p ⟨no, c, l, true⟩ = false := by unfold wrongP; rw [hg]; simp [hk, h5]
  have he : endsP p ⟨no, c, l, true⟩ = true := by unfold endsP; rw [hg]; simp
  have hwent : wentP p ⟨no, c, l, true⟩ = p := by unfold wentP; rw [hg]; rfl
  rw [take_of (by rw [hwent]; exact fun _ => h0) hw]
  unfold thenP
  rw [he, if_pos rfl, hwent]
def linesFs (fs : List Fld) : List (List UInt8) := fs.flatMap fun f => linesL f.1 f.2
theorem lines_kinds {k v : List UInt8} (hk : goodKey k = true) : ∃ x r, linesL k v = x :: r ∧ kindL x = 4 ∧ ∀ l ∈ r, kindL l = 3 := by
  have h := lines_say (v := v) hk
  have e : linesL k v = firstL k ((partsL v).headD []) :: (partsL v).tail.map furtherL := rfl
  rw [e] at h ⊢
  refine ⟨_, _, rfl, ?_⟩
  unfold sayF at h
  simp only [Bool.and_eq_true, beq_iff_eq, List.all_eq_true] at h
  exact h
/-- Good fields, one behind the other. -/
theorem run_fields (t : List UInt8) : ∀ (fs : List Fld) (p : PS) (no c : Nat), endFieldN p = 0 → (∀ f ∈ fs, goodKey f.1 = true ∧ f.2.length ≤ 1000) → (endFieldP p).fields.length + fs.length ≤ 40 → (endFieldP p).stanzas ≤ 399 →
    ∃ q, runP t p (num no c (linesFs fs)) = .ok q ∧ endFieldN q = 0 ∧ (endFieldP q).fields = (endFieldP p).fields ++ fs ∧ (endFieldP q).items = (endFieldP p).items ∧ (endFieldP q).stanzas = (endFieldP p).stanzas ∧ (endFieldP q).at_ = (endFieldP p).at_
  | [], p, no, c, h0, _, _, _ => ⟨p, rfl, h0, by simp, rfl, rfl, rfl⟩
  | f :: fs, p, no, c, h0, hg, hn, hs => by
    obtain ⟨g1, g2⟩ := hg f List.mem_cons_self
    obtain ⟨x, r, e, kx, kr⟩ := lines_kinds (v := f.2) g1
    obtain ⟨u1, u2, u3⟩ := lines_unfold g1 g2
    have hl : linesFs (f :: fs) = (x :: r) ++ linesFs fs := by unfold linesFs; rw [List.flatMap_cons, e]
    have ht : takeP t p ⟨no, c, x, true⟩ = .ok { endFieldP p with begin_ := no, said := [x] } := by
      rw [take_else (by omega) (by omega) h0]
      unfold putP
      rw [if_pos kx]
    have hrun : runP t p (num no c (x :: r)) = .ok { endFieldP p with begin_ := no, said := x :: r } := by
      show runP t p (⟨no, c, x, true⟩ :: num _ _ r) = _
      rw [run_cons ht, run_more t r _ _ _ (by simp) kr]; rfl
    rw [hl, num_append, runP_append, hrun]
    dsimp only
    rw [List.length_cons] at hn
    have hN : endFieldN { endFieldP p with begin_ := no, said := x :: r } = 0 := by
      unfold endFieldN
      rw [if_neg (by simp)]
      show (if unfoldN (x :: r) ≠ 0 then _ else _) = 0
      rw [← e, u1, if_neg (by simp)]
      have : fullP { endFieldP p with begin_ := no, said := linesL f.1 f.2 } = false := by
        unfold fullP
        show (if (endFieldP p).fields.length = 0 then (endFieldP p).stanzas == 400 else (endFieldP p).fields.length == 40) = false
        split
        · simp; omega
        · simp; omega
      rw [this]; rfl
    have hP : endFieldP { endFieldP p with begin_ := no, said := x :: r } = { endFieldP p with begin_ := no, said := [], fields := (endFieldP p).fields ++ [f] } := by
      unfold endFieldP
      rw [if_neg (by simp)]
      show { endFieldP p with begin_ := no, said := [], fields := (endFieldP p).fields ++ [(unfoldK (x :: r), unfoldV (x :: r))] } = _
      rw [← e, u2, u3]; rfl
    obtain ⟨q, q1, q2, q3, q4, q5, q6⟩ := run_fields t fs { endFieldP p with begin_ := no, said := x :: r } (no + (x :: r).length) (c + (textL (x :: r)).length) hN (fun y hy => hg y (List.mem_cons_of_mem _ hy)) (by rw [hP]; simp; omega) (by rw [hP]; exact hs)
    refine ⟨q, q1, q2, ?_, ?_, ?_, ?_⟩
    · rw [q3, hP]; simp
    · rw [q4, hP]
    · rw [q5, hP]
    · rw [q6, hP]
end Go.Proofs.YtgaooalckjjplaaGreatDoor

namespace Go.Proofs.YtgaooalckjjplaaGreatDoor

/-- A parser of the same block, elsewhere. -/
def mv (b st a : Nat) (its : List It) (p : PS) : PS := ⟨b, p.said, its, st, a, p.fields⟩
def ml (no c : Nat) (x : Ln) : Ln := ⟨no, c, x.text, x.ended⟩
theorem mv_went (b st a : Nat) (its : List It) (p : PS) (no c : Nat) (x : Ln) : wentP (mv b st a its p) (ml no c x) = mv b st a its (wentP p x) := by
  unfold wentP
  rw [show goesP (mv b st a its p) (ml no c x) = goesP p x from rfl]
  split <;> rfl
theorem mv_endField (b st a : Nat) (its : List It) (p : PS) : endFieldP (mv b st a its p) = mv b st a its (endFieldP p) := by
  unfold endFieldP
  rw [show (mv b st a its p).said = p.said from rfl]
  split <;> rfl
theorem mv_endFieldN (b st a : Nat) (its : List It) (p : PS) (hst : st ≤ 399) (h : endFieldN p = 0) : endFieldN (mv b st a its p) = 0 := by
  unfold endFieldN at h ⊢
  rw [show (mv b st a its p).said = p.said from rfl]
  split
  · rfl
  · rename_i hs
    rw [if_neg hs] at h
    split
    · rename_i hu; rw [if_pos hu] at h; exact absurd h hu
    · rename_i hu
      rw [if_neg hu] at h
      have hf : fullP p = false := by
        cases hf : fullP p with
        | false => rfl
        | true => rw [hf] at h; simp at h
      have : fullP (mv b st a its p) = false := by
        unfold fullP at hf ⊢
        rw [show (mv b st a its p).fields = p.fields from rfl, show (mv b st a its p).stanzas = st from rfl]
        split
        · have : st ≠ 400 := by omega
          simpa using this
        · rename_i hz
          rw [if_neg hz] at hf
          exact hf
      rw [this]; rfl
theorem mv_then (b st a : Nat) (its : List It) (p : PS) (no c : Nat) (x : Ln) : thenP (mv b st a its p) (ml no c x) = mv b st a its (thenP p x) := by
  unfold thenP
  rw [show endsP (mv b st a its p) (ml no c x) = endsP p x from rfl, mv_went, mv_endField]
  split <;> rfl
theorem mv_put (t t' : List UInt8) (b st a : Nat) (its : List It) (p : PS) (no c : Nat) (x : Ln) (hk : kindL x.text ≠ 1) : ∃ b', putP t' (mv b st a its p) (ml no c x) = mv b' st a its (putP t p x) := by
  unfold putP
  rw [show (ml no c x).text = x.text from rfl, if_neg hk, if_neg hk]
  split
  · exact ⟨no, rfl⟩
  · exact ⟨b, rfl⟩
/-- A line that isn't empty does the same elsewhere. -/
theorem mv_take {t t' : List UInt8} {b st a : Nat} {its : List It} {p q : PS} {no c : Nat} {x : Ln} (hst : st ≤ 399) (hk : kindL x.text ≠ 1) (h : takeP t p x = .ok q) : ∃ b', takeP t' (mv b st a its p) (ml no c x) = .ok (mv b' st a its q) := by
  obtain ⟨h1, h2, rfl⟩ := take_parts h
  obtain ⟨b', hb⟩ := mv_put t t' b st a its (thenP p x) no c x hk
  refine ⟨b', ?_⟩
  have hT := take_of (t := t') (p := mv b st a its p) (x := ml no c x) (by rw [show endsP (mv b st a its p) (ml no c x) = endsP p x from rfl, mv_went]; exact fun he => mv_endFieldN _ _ _ _ _ hst (h1 he)) h2
  rw [hT, mv_then, hb]
/-- Such a line turns nothing but the block. -/
theorem take_keeps {t : List UInt8} {p q : PS} {x : Ln} (hk : kindL x.text ≠ 1) (h : takeP t p x = .ok q) : q.items = p.items ∧ q.stanzas = p.stanzas ∧ q.at_ = p.at_ := by
  obtain ⟨_, _, rfl⟩ := take_parts h
  have e : (thenP p x).items = p.items ∧ (thenP p x).stanzas = p.stanzas ∧ (thenP p x).at_ = p.at_ := by
    unfold thenP endFieldP wentP
    split <;> split <;> (try split) <;> exact ⟨rfl, rfl, rfl⟩
  unfold putP
  rw [if_neg hk]
  split <;> exact e

/-- What a block's lines do, wherever they stand. -/
def Does (ts said : List (List UInt8)) (fields : List Fld) : Prop :=
  ∀ (t : List UInt8) (b st a no c : Nat) (its : List It), st ≤ 399 → ∃ b', runP t ⟨b, [], its, st, a, []⟩ (num no c ts) = .ok ⟨b', said, its, st, a, fields⟩
theorem Does.nil : Does [] [] [] := fun t b st a no c its _ => ⟨b, rfl⟩
theorem Does.snoc {ts : List (List UInt8)} {t : List UInt8} {p q : PS} {x : Ln} (h : Does ts p.said p.fields) (hk : kindL x.text ≠ 1) (hx : x.ended = true) (ht : takeP t p x = .ok q) : Does (ts ++ [x.text]) q.said q.fields := by
  intro t' b st a no c its hst
  obtain ⟨b1, h1⟩ := h t' b st a no c its hst
  obtain ⟨b2, h2⟩ := mv_take (t' := t') (b := b1) (st := st) (a := a) (its := its) (no := no + ts.length) (c := c + (textL ts).length) hst hk ht
  refine ⟨b2, ?_⟩
  rw [num_append, runP_append, h1]
  dsimp only
  have e : num (no + ts.length) (c + (textL ts).length) [x.text] = ml (no + ts.length) (c + (textL ts).length) x :: [] := by
    show [(⟨_, _, x.text, true⟩ : Ln)] = [⟨_, _, x.text, x.ended⟩]
    rw [hx]
  rw [e, run_cons (by exact h2)]
  rfl
/-- A block that stands alone. -/
structure Blk (it : It) : Prop where
  kind : it.kind = if it.fields = [] then 2 else 3
  pos : it.raw ≠ []
  does : ∃ ts said fields, it.raw = textL ts ∧ (∀ l ∈ ts, (10 : UInt8) ∉ l) ∧ Does ts said fields ∧ endFieldN ⟨0, said, [], 0, 0, fields⟩ = 0 ∧ (endFieldP ⟨0, said, [], 0, 0, fields⟩).fields = it.fields
/-- Items of which no two that aren't blank stand side by side; b: what stands ahead isn't blank. -/
def apartOn : Bool → List It → List It
  | _, [] => []
  | b, x :: r => (if b = true ∧ x.kind ≠ 1 then [⟨1, [10], []⟩] else []) ++ x :: apartOn (x.kind != 1) r
def lastF : Bool → List It → Bool
  | b, [] => b
  | _, x :: r => lastF (x.kind != 1) r
theorem lastF_append : ∀ (b : Bool) (l r : List It), lastF b (l ++ r) = lastF (lastF b l) r
  | b, [], r => rfl
  | b, x :: l, r => lastF_append _ l r
/-- No two that aren't blank stand side by side. -/
def Alt : Bool → List It → Prop
  | _, [] => True
  | b, x :: r => (b = true → x.kind = 1) ∧ Alt (x.kind != 1) r
theorem Alt.apart : ∀ (b : Bool) (l : List It), Alt b l → apartOn b l = l
  | b, [], _ => rfl
  | b, x :: r, ⟨h1, h2⟩ => by
    show (if b = true ∧ x.kind ≠ 1 then _ else []) ++ x :: apartOn _ r = _
    rw [if_neg (fun h => h.2 (h1 h.1)), Alt.apart _ r h2]; rfl
theorem Alt.append : ∀ (b : Bool) (l r : List It), Alt b l → Alt (lastF b l) r → Alt b (l ++ r)
  | b, [], r, _, h => h
  | b, x :: l, r, ⟨h1, h2⟩, h => ⟨h1, Alt.append _ l r h2 h⟩

/-- What a run has made, up to a place. -/
structure Mid (t : List UInt8) (p : PS) (c : Nat) : Prop where
  at_ : p.at_ ≤ c
  blks : ∀ it ∈ p.items, it.kind ≠ 1 → Blk it
  alt : Alt false p.items ∧ lastF false p.items = false
  cur : ∃ ts, (t.take c).drop p.at_ = textL ts ∧ (∀ l ∈ ts, (10 : UInt8) ∉ l) ∧ Does ts p.said p.fields ∧ (p.at_ = c → p.fields = [])
theorem Mid.new (t : List UInt8) : Mid t PS.new 0 :=
  ⟨Nat.le_refl _, (fun it h => by cases h), ⟨trivial, rfl⟩, [], by simp [PS.new, textL], (fun l h => by cases h), Does.nil, fun _ => rfl⟩
/-- The block that ends at a place. -/
theorem Mid.endBlock {t : List UInt8} {p : PS} {c : Nat} (h : Mid t p c) (h0 : endFieldN p = 0) (hct : c ≤ t.length) :
    ∃ l, (endBlockP t (endFieldP p) c).items = p.items ++ l ∧ (∀ it ∈ l, Blk it) ∧ l.length ≤ 1 := by
  have hat := h.at_
  obtain ⟨ts, h1, h2, h3, _⟩ := h.cur
  have e : endFieldN ⟨0, p.said, [], 0, 0, p.fields⟩ = 0 := mv_endFieldN 0 0 0 [] p (by decide) h0
  have e2 : (endFieldP ⟨0, p.said, [], 0, 0, p.fields⟩).fields = (endFieldP p).fields := by
    have := mv_endField 0 0 0 [] p
    rw [show (⟨0, p.said, [], 0, 0, p.fields⟩ : PS) = mv 0 0 0 [] p from rfl, this]; rfl
  have hne : p.at_ ≠ c → (t.take c).drop p.at_ ≠ [] := by
    intro hh e
    have := congrArg List.length e
    simp only [List.length_drop, List.length_take, List.length_nil] at this
    omega
  unfold endBlockP
  rw [endField_at]
  split
  · exact ⟨[], by rw [endField_items]; simp, (fun it h => by cases h), by simp⟩
  · rename_i hac
    split
    · rename_i hz
      refine ⟨[⟨2, (t.take c).drop p.at_, (endFieldP p).fields⟩], ?_, ?_, by simp⟩
      · show (endFieldP p).items ++ [_] = _
        rw [endField_items, endField_at]; rfl
      · intro it hi
        rw [List.mem_singleton.1 hi]
        exact ⟨by rw [if_pos (List.length_eq_zero_iff.1 hz)], hne hac, ts, p.said, p.fields, h1, h2, h3, e, e2⟩
    · rename_i hz
      refine ⟨[⟨3, (t.take c).drop p.at_, (endFieldP p).fields⟩], ?_, ?_, by simp⟩
      · show (endFieldP p).items ++ [_] = _
        rw [endField_items, endField_at]; rfl
      · intro it hi
        rw [List.mem_singleton.1 hi]
        exact ⟨by rw [if_neg (fun h => hz (List.length_eq_zero_iff.2 h))], hne hac, ts, p.said, p.fields, h1, h2, h3, e, e2⟩
theorem alt_blk {l : List It} (h : ∀ it ∈ l, Blk it) (hl : l.length ≤ 1) : Alt false l := by
  match l, hl with
  | [], _ => trivial
  | [x], _ => exact ⟨fun h => (by cases h), trivial⟩
theorem Mid.take {t : List UInt8} {p q : PS} {x : Ln} (h : Mid t p x.at_) (hen : x.ended = true) (hcl : (10 : UInt8) ∉ x.text) (hrest : ∃ r, t.drop x.at_ = x.bytes ++ r) (hct : x.at_ ≤ t.length) (he : takeP t p x = .ok q) : Mid t q (x.at_ + x.bytes.length) := by
  have hat := h.at_
  obtain ⟨r, hr⟩ := hrest
  have hb : x.bytes = x.text ++ [10] := by unfold Ln.bytes; rw [hen]; simp
  have htk : t.take (x.at_ + x.bytes.length) = t.take x.at_ ++ x.bytes := by
    rw [List.take_add, hr]; simp
  by_cases hk : kindL x.text = 1
  · obtain ⟨g1, _, rfl⟩ := take_parts he
    have hg : goesP p x = false := goes_kind (by omega)
    have hw : wentP p x = p := by unfold wentP; rw [hg]; rfl
    have hE : endsP p x = true := by unfold endsP; rw [hg]; simp
    rw [hw] at g1
    have hth : thenP p x = endFieldP p := by unfold thenP; rw [hE, hw]; rfl
    obtain ⟨l, l1, l2, l3⟩ := h.endBlock (g1 hE) hct
    have ha : (endBlockP t (endFieldP p) x.at_).at_ = x.at_ := endBlock_at t _ _ (by rw [endField_at]; exact hat)
    have hlast : x.at_ + x.bytes.length = x.at_ + x.text.length + 1 := by rw [hb]; simp; omega
    unfold putP
    rw [if_neg (by omega), if_pos hk, hth]
    refine ⟨by show x.at_ + x.text.length + 1 ≤ _; omega, ?_, ?_, [], ?_, (fun l h => by cases h), ?_, fun _ => rfl⟩
    · intro it hi hk1
      rcases List.mem_append.1 (show it ∈ (endBlockP t (endFieldP p) x.at_).items ++ [_] from hi) with hi | hi
      · rw [l1] at hi
        rcases List.mem_append.1 hi with hi | hi
        · exact h.blks it hi hk1
        · exact l2 it hi
      · rw [List.mem_singleton.1 hi] at hk1; exact absurd rfl hk1
    · show Alt false ((endBlockP t (endFieldP p) x.at_).items ++ [_]) ∧ lastF false ((endBlockP t (endFieldP p) x.at_).items ++ [_]) = false
      rw [l1]
      refine ⟨Alt.append _ _ _ (Alt.append _ _ _ h.alt.1 ?_) ?_, ?_⟩
      · rw [h.alt.2]; exact alt_blk l2 l3
      · exact ⟨fun _ => rfl, trivial⟩
      · rw [lastF_append]; rfl
    · show (t.take (x.at_ + x.bytes.length)).drop (x.at_ + x.text.length + 1) = _
      rw [← hlast, List.drop_of_length_le (by rw [List.length_take]; omega)]; rfl
    · show Does [] (endBlockP t (endFieldP p) x.at_).said []
      rw [endBlock_said, endField_said]; exact Does.nil
  · obtain ⟨k1, k2, k3⟩ := take_keeps hk he
    obtain ⟨ts, h1, h2, h3, _⟩ := h.cur
    refine ⟨by rw [k3]; omega, by rw [k1]; exact h.blks, by rw [k1]; exact h.alt, ts ++ [x.text], ?_, ?_, h3.snoc hk hen he, ?_⟩
    · rw [k3, htk, List.drop_append_of_le_length (by rw [List.length_take]; omega), h1, textL_append, hb]
      unfold textL; simp
    · intro l hl
      rcases List.mem_append.1 hl with hl | hl
      · exact h2 l hl
      · rw [List.mem_singleton.1 hl]; exact hcl
    · intro hh
      rw [k3, hb] at hh
      simp at hh; omega
theorem Mid.run (t : List UInt8) : ∀ (xs : List Ln) (no c : Nat) (p q : PS), Runs no c xs → no ≤ c → Inv p c → Mid t p c → t.drop c = xs.flatMap Ln.bytes → c ≤ t.length → (∀ x ∈ xs, (10 : UInt8) ∉ x.text) → runP t p xs = .ok q → Mid t q t.length
  | [], no, c, p, q, _, _, _, hm, hr, hct, _, he => by
    cases he
    have : c = t.length := by
      have := congrArg List.length hr
      simp at this; omega
    rw [← this]; exact hm
  | x :: xs, no, c, p, q, hrun, hn, hi, hm, hr, hct, hcl, he => by
    obtain ⟨r1, r2, r3, r4⟩ := hrun
    unfold runP at he
    cases ht : takeP t p x with
    | error e => rw [ht] at he; cases he
    | ok p1 =>
      rw [ht] at he
      dsimp only at he
      rw [List.flatMap_cons] at hr
      rw [← r2] at hi hm hr hct
      obtain ⟨i1, e1⟩ := Inv.take hi (by omega) ht
      have m1 := hm.take e1 (hcl x List.mem_cons_self) ⟨_, hr⟩ hct ht
      have hr2 : t.drop (x.at_ + x.bytes.length) = xs.flatMap Ln.bytes := by
        rw [← List.drop_drop, hr]; simp
      have hct2 : x.at_ + x.bytes.length ≤ t.length := by
        have := congrArg List.length hr
        simp only [List.length_drop, List.length_append] at this
        omega
      rw [r2] at i1 m1 hr2 hct2
      exact Mid.run t xs (no + 1) (c + x.bytes.length) p1 q r4 (by omega) i1 m1 hr2 hct2 (fun y hy => hcl y (List.mem_cons_of_mem _ hy)) he
/-- The block that ends, when its field has ended: what it is. -/
theorem Blk.ends {it : It} {said : List (List UInt8)} {fields : List Fld} (hk : it.kind = if it.fields = [] then 2 else 3) (h0 : endFieldN ⟨0, said, [], 0, 0, fields⟩ = 0) (hf : (endFieldP ⟨0, said, [], 0, 0, fields⟩).fields = it.fields)
    (t : List UInt8) (b st a e : Nat) (its : List It) (hst : st ≤ 399) (hr : (t.take e).drop a = it.raw) (hae : a < e) :
    endFieldN ⟨b, said, its, st, a, fields⟩ = 0 ∧ (endBlockP t (endFieldP ⟨b, said, its, st, a, fields⟩) e).items = its ++ [it] ∧ (endBlockP t (endFieldP ⟨b, said, its, st, a, fields⟩) e).stanzas ≤ st + 1 ∧ (endBlockP t (endFieldP ⟨b, said, its, st, a, fields⟩) e).said = [] ∧ (endBlockP t (endFieldP ⟨b, said, its, st, a, fields⟩) e).fields = [] ∧ (endBlockP t (endFieldP ⟨b, said, its, st, a, fields⟩) e).at_ = e := by
  have e0 := mv_endFieldN b st a its ⟨0, said, [], 0, 0, fields⟩ hst h0
  have e1 := mv_endField b st a its ⟨0, said, [], 0, 0, fields⟩
  refine ⟨e0, ?_⟩
  rw [show (⟨b, said, its, st, a, fields⟩ : PS) = mv b st a its ⟨0, said, [], 0, 0, fields⟩ from rfl, e1]
  have es := endField_said ⟨0, said, [], 0, 0, fields⟩
  generalize endFieldP ⟨0, said, [], 0, 0, fields⟩ = p at *
  unfold endBlockP
  rw [show (mv b st a its p).at_ = a from rfl, show (mv b st a its p).fields = p.fields from rfl, hf, if_neg (by omega)]
  split
  · rename_i hz
    rw [if_pos (List.length_eq_zero_iff.1 hz)] at hk
    refine ⟨?_, by show st ≤ st + 1; omega, es, rfl, rfl⟩
    show its ++ [⟨(2 : Nat), (t.take e).drop a, p.fields⟩] = _
    rw [hr, hf]
    obtain ⟨k, r, f⟩ := it
    simp only at hk ⊢
    rw [hk]; rfl
  · rename_i hz
    rw [if_neg (fun h => hz (by rw [h]; rfl))] at hk
    refine ⟨?_, by show st + 1 ≤ st + 1; omega, es, rfl, rfl⟩
    show its ++ [⟨(3 : Nat), (t.take e).drop a, p.fields⟩] = _
    rw [hr, hf]
    obtain ⟨k, r, f⟩ := it
    simp only at hk ⊢
    rw [hk]; rfl
/-- The text of a stanza's good fields is a block that stands alone. -/
theorem blk_fields (fs : List Fld) (hg : ∀ f ∈ fs, goodKey f.1 = true ∧ f.2.length ≤ 1000) (h0 : fs ≠ []) (hl : fs.length ≤ 40) : Blk ⟨3, textL (linesFs fs), fs⟩ := by
  have hclean : ∀ l ∈ linesFs fs, (10 : UInt8) ∉ l := by
    intro l hl
    unfold linesFs at hl
    obtain ⟨f, hf1, hf2⟩ := List.mem_flatMap.1 hl
    exact linesL_clean _ (hg f hf1).1 l hf2
  have hne : textL (linesFs fs) ≠ [] := by
    cases fs with
    | nil => exact absurd rfl h0
    | cons f r =>
      obtain ⟨x, r', e, _⟩ := lines_kinds (v := f.2) (hg f List.mem_cons_self).1
      unfold linesFs
      rw [List.flatMap_cons, e]
      unfold textL; simp
  -- the run at one place gives what is said and the fields
  obtain ⟨q, q1, q2, q3, q4, q5, q6⟩ := run_fields [] fs PS.new 0 0 rfl hg (by show 0 + fs.length ≤ 40; omega) (by decide)
  have hany : ∀ (t : List UInt8) (b st a no c : Nat) (its : List It), st ≤ 399 → ∃ b', runP t ⟨b, [], its, st, a, []⟩ (num no c (linesFs fs)) = .ok ⟨b', q.said, its, st, a, q.fields⟩ := by
    have key : ∀ (ts : List (List UInt8)) (p q : PS) (n0 c0 : Nat), (∀ l ∈ ts, kindL l ≠ 1) → runP [] p (num n0 c0 ts) = .ok q → ∀ (t : List UInt8) (b st a no c : Nat) (its : List It), st ≤ 399 → ∃ b', runP t (mv b st a its p) (num no c ts) = .ok (mv b' st a its q) := by
      intro ts
      induction ts with
      | nil => intro p q n0 c0 _ h t b st a no c its _; cases h; exact ⟨b, rfl⟩
      | cons l r ih =>
        intro p q n0 c0 hk h t b st a no c its hst
        have h' : (match takeP [] p ⟨n0, c0, l, true⟩ with | .error e => Except.error e | .ok q' => runP [] q' (num (n0 + 1) (c0 + l.length + 1) r)) = .ok q := h
        cases ht : takeP [] p ⟨n0, c0, l, true⟩ with
        | error e => rw [ht] at h'; cases h'
        | ok p1 =>
          rw [ht] at h'
          obtain ⟨b1, hb1⟩ := mv_take (t' := t) (b := b) (st := st) (a := a) (its := its) (no := no) (c := c) hst (by exact hk l List.mem_cons_self) ht
          obtain ⟨b2, hb2⟩ := ih p1 q _ _ (fun y hy => hk y (List.mem_cons_of_mem _ hy)) h' t b1 st a (no + 1) (c + l.length + 1) its hst
          refine ⟨b2, ?_⟩
          show runP t _ (⟨no, c, l, true⟩ :: num (no + 1) (c + l.length + 1) r) = _
          rw [run_cons (by exact hb1)]
          exact hb2
    have hkinds : ∀ l ∈ linesFs fs, kindL l ≠ 1 := by
      intro l hl
      unfold linesFs at hl
      obtain ⟨f, hf1, hf2⟩ := List.mem_flatMap.1 hl
      obtain ⟨x, r, e, kx, kr⟩ := lines_kinds (v := f.2) (hg f hf1).1
      rw [e] at hf2
      rcases List.mem_cons.1 hf2 with rfl | h
      · rw [kx]; decide
      · rw [kr l h]; decide
    intro t b st a no c its hst
    exact key (linesFs fs) PS.new q 0 0 hkinds q1 t b st a no c its hst
  refine ⟨by rw [if_neg h0], hne, linesFs fs, q.said, q.fields, rfl, hclean, hany, mv_endFieldN 0 0 0 [] q (by decide) q2, ?_⟩
  have := mv_endField 0 0 0 [] q
  rw [show (⟨0, q.said, [], 0, 0, q.fields⟩ : PS) = mv 0 0 0 [] q from rfl, this]
  show (endFieldP q).fields = fs
  rw [q3]; rfl
end Go.Proofs.YtgaooalckjjplaaGreatDoor

namespace Go.Proofs.YtgaooalckjjplaaGreatDoor
open Go.RowKit

/-- A slice of fields, readable. -/
def Flds (w : World) (v : Value) (fs : List (List UInt8 × List UInt8)) : Prop :=
  ∃ A cap, v = .slice A fs.length cap ∧ fs.length ≤ cap ∧ ∀ (i : Nat) (f : List UInt8 × List UInt8), fs[i]? = some f → ∃ b off, A = some ⟨b, off, none⟩ ∧ b < w.heap.size ∧ w.cell? ⟨b, off + i * 2, none⟩ = some (.string (B f.1)) ∧ w.cell? ⟨b, off + i * 2 + 1, none⟩ = some (.string (B f.2))
theorem Flds.below {w w' : World} {v : Value} {fs : List (List UInt8 × List UInt8)} {n : Nat} (h : Flds w v fs) (hb : Below n w w') (hn : w.heap.size ≤ n) : Flds w' v fs := by
  obtain ⟨A, cap, hv, hle, hc⟩ := h
  refine ⟨A, cap, hv, hle, fun i s hs => ?_⟩
  obtain ⟨b, off, hA, hlt, c0, c1⟩ := hc i s hs
  exact ⟨b, off, hA, Nat.lt_of_lt_of_le hlt hb.size, (hb.cell (p := ⟨b, off + i * 2, none⟩) (Nat.lt_of_lt_of_le hlt hn)).trans c0, (hb.cell (p := ⟨b, off + i * 2 + 1, none⟩) (Nat.lt_of_lt_of_le hlt hn)).trans c1⟩
theorem Flds.one (w : World) (t : TypeId) (k v : List UInt8) : Flds (w.alloc (.cells #[.string (B k), .string (B v)] t)) (.slice (some ⟨w.heap.size, 0, none⟩) 1 1) [(k, v)] := by
  refine ⟨_, 1, rfl, Nat.le_refl _, fun i f h => ⟨w.heap.size, 0, rfl, by simp, ?_⟩⟩
  rw [World.cell?_alloc_at _ _ _ _ rfl, World.cell?_alloc_at _ _ _ _ rfl]
  match i, h with
  | 0, h => simp at h; subst h; exact ⟨rfl, rfl⟩
  | n + 1, h => simp at h
theorem Flds.two (w : World) (t : TypeId) (k v k' v' : List UInt8) : Flds (w.alloc (.cells #[.string (B k), .string (B v), .string (B k'), .string (B v')] t)) (.slice (some ⟨w.heap.size, 0, none⟩) 2 2) [(k, v), (k', v')] := by
  refine ⟨_, 2, rfl, Nat.le_refl _, fun i f h => ⟨w.heap.size, 0, rfl, by simp, ?_⟩⟩
  rw [World.cell?_alloc_at _ _ _ _ rfl, World.cell?_alloc_at _ _ _ _ rfl]
  match i, h with
  | 0, h => simp at h; subst h; exact ⟨rfl, rfl⟩
  | 1, h => simp at h; subst h; exact ⟨rfl, rfl⟩
  | n + 2, h => simp at h

def cellsF (fs : List (List UInt8 × List UInt8)) : List Value := fs.flatMap fun f => [.string (B f.1), .string (B f.2)]
theorem cellsF_at : ∀ (fs : List (List UInt8 × List UInt8)) (i : Nat) (f : List UInt8 × List UInt8), fs[i]? = some f → (cellsF fs)[i * 2]? = some (.string (B f.1)) ∧ (cellsF fs)[i * 2 + 1]? = some (.string (B f.2))
  | [], i, f, h => by simp at h
  | a :: r, 0, f, h => by simp at h; subst h; exact ⟨rfl, rfl⟩
  | a :: r, i + 1, f, h => by
    have ih := cellsF_at r i f (by simpa using h)
    have e : cellsF (a :: r) = Value.string (B a.1) :: Value.string (B a.2) :: cellsF r := rfl
    rw [e, show (i + 1) * 2 = i * 2 + 1 + 1 by omega]
    simpa using ih
theorem flds_of_own {w : World} {base : Nat} {v : Value} {fs : List (List UInt8 × List UInt8)} (h : w.ownsRow base 66 2 v fs.length (cellsF fs)) : Flds w v fs := by
  rcases Joins.ownsRow_forms h with ⟨rfl, hn⟩ | ⟨g, cap, rfl⟩
  · have : fs = [] := by cases fs with | nil => rfl | cons _ _ => simp at hn
    subst this
    exact ⟨none, 0, rfl, Nat.le_refl _, fun i f h => by simp at h⟩
  · refine ⟨_, cap, rfl, (by rcases h.2 with ⟨q, _⟩ | ⟨g', cap', cur, q, _, _, q2, _⟩; cases q; cases q; exact q2), fun i f hf => ⟨g, 0, rfl, (World.ownsRow.lt h g rfl).2, ?_⟩⟩
    have hi : i < fs.length := by
      rcases Nat.lt_or_ge i fs.length with q | q
      · exact q
      · rw [List.getElem?_eq_none q] at hf; cases hf
    obtain ⟨a, b⟩ := cellsF_at fs i f hf
    rw [Nat.zero_add, World.ownsRow.cellAt h (i * 2) (by omega), World.ownsRow.cellAt h (i * 2 + 1) (by omega)]
    exact ⟨a, b⟩
end Go.Proofs.YtgaooalckjjplaaGreatDoor

