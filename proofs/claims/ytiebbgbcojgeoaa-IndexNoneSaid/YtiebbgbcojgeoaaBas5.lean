/- Texts put together: PO, PQ, PR, PU, TA, OC, PB, PC, PD, PE, S, WA, WB, WC, WD, WE, WF, FA, FB, FC, FD, FE, FF, FG, FH, FI, FJ, PF, PG, PH, RH, PI, PJ, PK, FK, BU, FN, GB, PN, PW, PX, PY, GD, PZ. -/
import Derived.Deep.RegionLaw
import Derived.RegionTactic
import Derived.BigRegion
import Derived.Deep.DeepCutAuto
import Derived.Shelf.Small.Bits
import Derived.Shelf.Strconv.Itoa0
import Derived.Ground.Names2Prog
import Derived.Shelf.Slices.CompactI
import Derived.Shelf.Slices.SearchI
import Derived.Shelf.Slices.Cells
import Derived.Ground.SlgmProg
import Derived.Shelf.SortM.Plain
import Derived.Shelf.SortM.SortNone
import Derived.Test.YtiebbgbcojgeoaaProg
import Derived.Test.YtiebbgbcojgeoaaChecked
import Derived.WalkKit
import Derived.ShutString
import Derived.Lib.Hide
import Derived.BigCall
import Derived.ChangeAlike
import Derived.Deep.QuietTactic
import Derived.BigQuiet
import Derived.Outline
import Derived.IntWalk
import Derived.Deep.RegionWith
import Derived.Deep.AppendLies
import Derived.Deep.RegionHeld3
import Derived.Shelf.Abstract
import Derived.Shelf.RegionOpen
import Derived.OwnWalkIn
import Derived.TacticsInMore
import Derived.LoopNIn
import Derived.LoopIn
import Derived.Shelf.Strings.SlTrimAscii
import Derived.Shelf.Strings.Split
import Derived.Lib.IndexBytes
import Derived.OwnWalk
import Derived.Laws.AppendOwn
import Derived.Laws.OwnMore
import Derived.Lib.SmallJoins
import Derived.StillTailTactics
import Derived.Laws.ResultCell
import Derived.Laws.Rows
import Derived.Shelf.Strings.BuilderK
import Derived.Lib.FrozenHead
import Derived.Laws.AppendOwnNone
import Derived.Test.YtiebbgbcojgeoaaBas1
import Derived.Test.YtiebbgbcojgeoaaBas2
import Derived.Test.YtiebbgbcojgeoaaBas4
set_option linter.unusedVariables false
namespace Go.Proofs.Ytiebbgbcojgeoaa

structure Good (t : List UInt8) (p : PS) : Prop where
  st : p.stanzas ≤ 400
  st' : p.fields ≠ [] → p.stanzas ≤ 399
  fl : p.fields.length ≤ 40
  each : ∀ it ∈ p.items, it.fields.length ≤ 40
  join : p.items.flatMap It.raw = t.take p.at_
theorem Good.new (t : List UInt8) : Good t PS.new := ⟨by decide, fun h => absurd rfl h, by decide, (fun it h => by cases h), rfl⟩
theorem Good.endField {t : List UInt8} {p : PS} (h : Good t p) (h0 : endFieldN p = 0) : Good t (endFieldP p) := by
  unfold endFieldP
  split
  · exact h
  · rename_i hs
    unfold endFieldN at h0
    rw [if_neg hs] at h0
    split at h0
    · rename_i hu; exact absurd h0 hu
    · have hfull : fullP p = false := by
        cases hf : fullP p with
        | false => rfl
        | true => rw [hf] at h0; simp at h0
      unfold fullP at hfull
      have fl := h.fl
      have st := h.st
      refine ⟨h.st, fun _ => ?_, ?_, h.each, h.join⟩
      · show p.stanzas ≤ 399
        split at hfull
        · have : p.stanzas ≠ 400 := by simpa using hfull
          omega
        · rename_i hz
          exact h.st' (fun e => hz (by rw [e]; rfl))
      · show (p.fields ++ [_]).length ≤ 40
        rw [List.length_append]
        split at hfull
        · simp; omega
        · have : p.fields.length ≠ 40 := by simpa using hfull
          simp; omega
theorem drop_take_join (t : List UInt8) (a e : Nat) (h : a ≤ e) : t.take a ++ (t.take e).drop a = t.take e := by
  conv => rhs; rw [← List.take_append_drop a (t.take e), List.take_take, Nat.min_eq_left h]
theorem Good.endItem {t : List UInt8} {p : PS} (h : Good t p) (kind e : Nat) (hle : p.at_ ≤ e) : Good t (endItemP t p kind e) := by
  refine ⟨h.st, fun hn => absurd rfl hn, by simp [endItemP], ?_, ?_⟩
  · intro it hi
    rcases List.mem_append.1 hi with hi | hi
    · exact h.each it hi
    · rw [List.mem_singleton.1 hi]; exact h.fl
  · show (p.items ++ [_]).flatMap It.raw = t.take e
    rw [List.flatMap_append, h.join]
    simp only [List.flatMap_cons, List.flatMap_nil, List.append_nil]
    exact drop_take_join t p.at_ e hle
theorem Good.endBlock {t : List UInt8} {p : PS} (h : Good t p) (e : Nat) (hle : p.at_ ≤ e) : Good t (endBlockP t p e) := by
  unfold endBlockP
  split
  · exact h
  · split
    · exact h.endItem 2 e hle
    · rename_i hz
      have g := h.endItem 3 e hle
      have := h.st' (fun e => hz (by rw [e]; rfl))
      exact ⟨by show p.stanzas + 1 ≤ 400; omega, fun hn => absurd rfl hn, g.fl, g.each, g.join⟩
theorem Good.went {t : List UInt8} {p : PS} (h : Good t p) (x : Ln) : Good t (wentP p x) := by
  unfold wentP
  split
  · exact ⟨h.st, h.st', h.fl, h.each, h.join⟩
  · exact h
theorem take_parts {t : List UInt8} {p q : PS} {x : Ln} (he : takeP t p x = .ok q) : (endsP p x = true → endFieldN (wentP p x) = 0) ∧ wrongP p x = false ∧ q = putP t (thenP p x) x := by
  unfold takeP at he
  split at he
  · cases he
  · rename_i h1
    split at he
    · cases he
    · rename_i h2
      cases he
      refine ⟨fun hn => ?_, by simpa using h2, rfl⟩
      rcases Nat.decEq (endFieldN (wentP p x)) 0 with e | e
      · exact absurd ⟨hn, e⟩ h1
      · exact e
theorem take_of {t : List UInt8} {p : PS} {x : Ln} (h1 : endsP p x = true → endFieldN (wentP p x) = 0) (h2 : wrongP p x = false) : takeP t p x = .ok (putP t (thenP p x) x) := by
  unfold takeP
  rw [if_neg (fun h => h.2 (h1 h.1)), h2]; rfl
theorem Good.then_ {t : List UInt8} {p : PS} {x : Ln} (h : Good t p) (h1 : endsP p x = true → endFieldN (wentP p x) = 0) : Good t (thenP p x) := by
  unfold thenP
  split
  · rename_i he; exact (h.went x).endField (h1 he)
  · exact h.went x
theorem Good.put {t : List UInt8} {p : PS} {x : Ln} (h : Good t p) (ha : p.at_ ≤ x.at_) : Good t (putP t p x) := by
  unfold putP
  split
  · exact ⟨h.st, h.st', h.fl, h.each, h.join⟩
  · split
    · refine (h.endBlock x.at_ ha).endItem 1 _ ?_
      rw [endBlock_at t p _ ha]; omega
    · exact h
theorem Good.take {t : List UInt8} {p q : PS} {x : Ln} (h : Good t p) (ha : p.at_ ≤ x.at_) (he : takeP t p x = .ok q) : Good t q := by
  obtain ⟨h1, _, rfl⟩ := take_parts he
  exact (h.then_ h1).put (by rw [thenP_at]; exact ha)

/-- Lines that stand one behind the other, from a place on. -/
def Runs : Nat → Nat → List Ln → Prop
  | _, _, [] => True
  | no, c, x :: xs => x.no = no ∧ x.at_ = c ∧ 1 ≤ x.bytes.length ∧ Runs (no + 1) (c + x.bytes.length) xs
end Go.Proofs.Ytiebbgbcojgeoaa

namespace Go.Proofs.Ytiebbgbcojgeoaa

/-- A parser, put behind another one whose block is ended, d lines and e bytes on. -/
def up (q : PS) (d e : Nat) (s : PS) : PS := ⟨d + s.begin_, s.said, q.items ++ s.items, q.stanzas + s.stanzas, e + s.at_, s.fields⟩
end Go.Proofs.Ytiebbgbcojgeoaa

namespace Go.Proofs.Ytiebbgbcojgeoaa

theorem endField_items (p : PS) : (endFieldP p).items = p.items := by unfold endFieldP; split <;> rfl
theorem Runs.append : ∀ {a b : List Ln} {no c : Nat}, Runs no c (a ++ b) → Runs no c a ∧ Runs (no + a.length) (c + (a.flatMap Ln.bytes).length) b
  | [], b, no, c, h => ⟨trivial, h⟩
  | x :: a, b, no, c, ⟨h1, h2, h3, h4⟩ => by
    obtain ⟨i1, i2⟩ := Runs.append h4
    refine ⟨⟨h1, h2, h3, i1⟩, ?_⟩
    rw [List.flatMap_cons, List.length_append, List.length_cons, ← Nat.add_assoc c, Nat.add_comm a.length, ← Nat.add_assoc no]
    exact i2
end Go.Proofs.Ytiebbgbcojgeoaa

namespace Go.Proofs.Ytiebbgbcojgeoaa

/-- Texts as ended lines. -/
def num : Nat → Nat → List (List UInt8) → List Ln
  | _, _, [] => []
  | no, c, l :: r => ⟨no, c, l, true⟩ :: num (no + 1) (c + l.length + 1) r
theorem num_append : ∀ (a b : List (List UInt8)) (no c : Nat), num no c (a ++ b) = num no c a ++ num (no + a.length) (c + (textL a).length) b
  | [], b, no, c => rfl
  | l :: a, b, no, c => by
    have := num_append a b (no + 1) (c + l.length + 1)
    show _ :: num _ _ (a ++ b) = _ :: _ ++ _
    rw [this]
    have e : (textL (l :: a)).length = l.length + 1 + (textL a).length := by unfold textL; simp; omega
    rw [e, List.length_cons, show c + (l.length + 1 + (textL a).length) = c + l.length + 1 + (textL a).length by omega, show no + (a.length + 1) = no + 1 + a.length by omega]
    rfl
theorem run_cons {t : List UInt8} {p q : PS} {x : Ln} {xs : List Ln} (h : takeP t p x = .ok q) : runP t p (x :: xs) = runP t q xs := by
  show (match takeP t p x with | .error e => Except.error e | .ok q => runP t q xs) = _
  rw [h]
end Go.Proofs.Ytiebbgbcojgeoaa

namespace Go.Proofs.Ytiebbgbcojgeoaa

/-- A parser of the same block, elsewhere. -/
def mv (b st a : Nat) (its : List It) (p : PS) : PS := ⟨b, p.said, its, st, a, p.fields⟩
def ml (no c : Nat) (x : Ln) : Ln := ⟨no, c, x.text, x.ended⟩
theorem mv_went (b st a : Nat) (its : List It) (p : PS) (no c : Nat) (x : Ln) : wentP (mv b st a its p) (ml no c x) = mv b st a its (wentP p x) := by
  unfold wentP
  rw [show goesP (mv b st a its p) (ml no c x) = goesP p x from rfl]
  split <;> rfl
theorem mv_endField (b st a : Nat) (its : List It) (p : PS) : endFieldP (mv b st a its p) = mv b st a its (endFieldP p) := by
  unfold endFieldP
  rw [show (mv b st a its p).said = p.said from rfl]
  split <;> rfl
theorem mv_endFieldN (b st a : Nat) (its : List It) (p : PS) (hst : st ≤ 399) (h : endFieldN p = 0) : endFieldN (mv b st a its p) = 0 := by
  unfold endFieldN at h ⊢
  rw [show (mv b st a its p).said = p.said from rfl]
  split
  · rfl
  · rename_i hs
    rw [if_neg hs] at h
    split
    · rename_i hu; rw [if_pos hu] at h; exact absurd h hu
    · rename_i hu
      rw [if_neg hu] at h
      have hf : fullP p = false := by
        cases hf : fullP p with
        | false => rfl
        | true => rw [hf] at h; simp at h
      have : fullP (mv b st a its p) = false := by
        unfold fullP at hf ⊢
        rw [show (mv b st a its p).fields = p.fields from rfl, show (mv b st a its p).stanzas = st from rfl]
        split
        · have : st ≠ 400 := by omega
          simpa using this
        · rename_i hz
          rw [if_neg hz] at hf
          exact hf
      rw [this]; rfl
theorem mv_then (b st a : Nat) (its : List It) (p : PS) (no c : Nat) (x : Ln) : thenP (mv b st a its p) (ml no c x) = mv b st a its (thenP p x) := by
  unfold thenP
  rw [show endsP (mv b st a its p) (ml no c x) = endsP p x from rfl, mv_went, mv_endField]
  split <;> rfl
theorem mv_put (t t' : List UInt8) (b st a : Nat) (its : List It) (p : PS) (no c : Nat) (x : Ln) (hk : kindL x.text ≠ 1) : ∃ b', putP t' (mv b st a its p) (ml no c x) = mv b' st a its (putP t p x) := by
  unfold putP
  rw [show (ml no c x).text = x.text from rfl, if_neg hk, if_neg hk]
  split
  · exact ⟨no, rfl⟩
  · exact ⟨b, rfl⟩
/-- A line that isn't empty does the same elsewhere. -/
theorem mv_take {t t' : List UInt8} {b st a : Nat} {its : List It} {p q : PS} {no c : Nat} {x : Ln} (hst : st ≤ 399) (hk : kindL x.text ≠ 1) (h : takeP t p x = .ok q) : ∃ b', takeP t' (mv b st a its p) (ml no c x) = .ok (mv b' st a its q) := by
  obtain ⟨h1, h2, rfl⟩ := take_parts h
  obtain ⟨b', hb⟩ := mv_put t t' b st a its (thenP p x) no c x hk
  refine ⟨b', ?_⟩
  have hT := take_of (t := t') (p := mv b st a its p) (x := ml no c x) (by rw [show endsP (mv b st a its p) (ml no c x) = endsP p x from rfl, mv_went]; exact fun he => mv_endFieldN _ _ _ _ _ hst (h1 he)) h2
  rw [hT, mv_then, hb]
/-- Such a line turns nothing but the block. -/
theorem take_keeps {t : List UInt8} {p q : PS} {x : Ln} (hk : kindL x.text ≠ 1) (h : takeP t p x = .ok q) : q.items = p.items ∧ q.stanzas = p.stanzas ∧ q.at_ = p.at_ := by
  obtain ⟨_, _, rfl⟩ := take_parts h
  have e : (thenP p x).items = p.items ∧ (thenP p x).stanzas = p.stanzas ∧ (thenP p x).at_ = p.at_ := by
    unfold thenP endFieldP wentP
    split <;> split <;> (try split) <;> exact ⟨rfl, rfl, rfl⟩
  unfold putP
  rw [if_neg hk]
  split <;> exact e

/-- What a block's lines do, wherever they stand. -/
def Does (ts said : List (List UInt8)) (fields : List Fld) : Prop :=
  ∀ (t : List UInt8) (b st a no c : Nat) (its : List It), st ≤ 399 → ∃ b', runP t ⟨b, [], its, st, a, []⟩ (num no c ts) = .ok ⟨b', said, its, st, a, fields⟩
theorem Does.nil : Does [] [] [] := fun t b st a no c its _ => ⟨b, rfl⟩
theorem Does.snoc {ts : List (List UInt8)} {t : List UInt8} {p q : PS} {x : Ln} (h : Does ts p.said p.fields) (hk : kindL x.text ≠ 1) (hx : x.ended = true) (ht : takeP t p x = .ok q) : Does (ts ++ [x.text]) q.said q.fields := by
  intro t' b st a no c its hst
  obtain ⟨b1, h1⟩ := h t' b st a no c its hst
  obtain ⟨b2, h2⟩ := mv_take (t' := t') (b := b1) (st := st) (a := a) (its := its) (no := no + ts.length) (c := c + (textL ts).length) hst hk ht
  refine ⟨b2, ?_⟩
  rw [num_append, runP_append, h1]
  dsimp only
  have e : num (no + ts.length) (c + (textL ts).length) [x.text] = ml (no + ts.length) (c + (textL ts).length) x :: [] := by
    show [(⟨_, _, x.text, true⟩ : Ln)] = [⟨_, _, x.text, x.ended⟩]
    rw [hx]
  rw [e, run_cons (by exact h2)]
  rfl
/-- A block that stands alone. -/
structure Blk (it : It) : Prop where
  kind : it.kind = if it.fields = [] then 2 else 3
  pos : it.raw ≠ []
  does : ∃ ts said fields, it.raw = textL ts ∧ (∀ l ∈ ts, (10 : UInt8) ∉ l) ∧ Does ts said fields ∧ endFieldN ⟨0, said, [], 0, 0, fields⟩ = 0 ∧ (endFieldP ⟨0, said, [], 0, 0, fields⟩).fields = it.fields
def lastF : Bool → List It → Bool
  | b, [] => b
  | _, x :: r => lastF (x.kind != 1) r
theorem lastF_append : ∀ (b : Bool) (l r : List It), lastF b (l ++ r) = lastF (lastF b l) r
  | b, [], r => rfl
  | b, x :: l, r => lastF_append _ l r
/-- No two that aren't blank stand side by side. -/
def Alt : Bool → List It → Prop
  | _, [] => True
  | b, x :: r => (b = true → x.kind = 1) ∧ Alt (x.kind != 1) r
theorem Alt.append : ∀ (b : Bool) (l r : List It), Alt b l → Alt (lastF b l) r → Alt b (l ++ r)
  | b, [], r, _, h => h
  | b, x :: l, r, ⟨h1, h2⟩, h => ⟨h1, Alt.append _ l r h2 h⟩

/-- What a run has made, up to a place. -/
structure Mid (t : List UInt8) (p : PS) (c : Nat) : Prop where
  at_ : p.at_ ≤ c
  blks : ∀ it ∈ p.items, it.kind ≠ 1 → Blk it
  alt : Alt false p.items ∧ lastF false p.items = false
  cur : ∃ ts, (t.take c).drop p.at_ = textL ts ∧ (∀ l ∈ ts, (10 : UInt8) ∉ l) ∧ Does ts p.said p.fields ∧ (p.at_ = c → p.fields = [])
theorem Mid.new (t : List UInt8) : Mid t PS.new 0 :=
  ⟨Nat.le_refl _, (fun it h => by cases h), ⟨trivial, rfl⟩, [], by simp [PS.new, textL], (fun l h => by cases h), Does.nil, fun _ => rfl⟩
/-- The block that ends at a place. -/
theorem Mid.endBlock {t : List UInt8} {p : PS} {c : Nat} (h : Mid t p c) (h0 : endFieldN p = 0) (hct : c ≤ t.length) :
    ∃ l, (endBlockP t (endFieldP p) c).items = p.items ++ l ∧ (∀ it ∈ l, Blk it) ∧ l.length ≤ 1 := by
  have hat := h.at_
  obtain ⟨ts, h1, h2, h3, _⟩ := h.cur
  have e : endFieldN ⟨0, p.said, [], 0, 0, p.fields⟩ = 0 := mv_endFieldN 0 0 0 [] p (by decide) h0
  have e2 : (endFieldP ⟨0, p.said, [], 0, 0, p.fields⟩).fields = (endFieldP p).fields := by
    have := mv_endField 0 0 0 [] p
    rw [show (⟨0, p.said, [], 0, 0, p.fields⟩ : PS) = mv 0 0 0 [] p from rfl, this]; rfl
  have hne : p.at_ ≠ c → (t.take c).drop p.at_ ≠ [] := by
    intro hh e
    have := congrArg List.length e
    simp only [List.length_drop, List.length_take, List.length_nil] at this
    omega
  unfold endBlockP
  rw [endField_at]
  split
  · exact ⟨[], by rw [endField_items]; simp, (fun it h => by cases h), by simp⟩
  · rename_i hac
    split
    · rename_i hz
      refine ⟨[⟨2, (t.take c).drop p.at_, (endFieldP p).fields⟩], ?_, ?_, by simp⟩
      · show (endFieldP p).items ++ [_] = _
        rw [endField_items, endField_at]; rfl
      · intro it hi
        rw [List.mem_singleton.1 hi]
        exact ⟨by rw [if_pos (List.length_eq_zero_iff.1 hz)], hne hac, ts, p.said, p.fields, h1, h2, h3, e, e2⟩
    · rename_i hz
      refine ⟨[⟨3, (t.take c).drop p.at_, (endFieldP p).fields⟩], ?_, ?_, by simp⟩
      · show (endFieldP p).items ++ [_] = _
        rw [endField_items, endField_at]; rfl
      · intro it hi
        rw [List.mem_singleton.1 hi]
        exact ⟨by rw [if_neg (fun h => hz (List.length_eq_zero_iff.2 h))], hne hac, ts, p.said, p.fields, h1, h2, h3, e, e2⟩
theorem alt_blk {l : List It} (h : ∀ it ∈ l, Blk it) (hl : l.length ≤ 1) : Alt false l := by
  match l, hl with
  | [], _ => trivial
  | [x], _ => exact ⟨fun h => (by cases h), trivial⟩
theorem Mid.take {t : List UInt8} {p q : PS} {x : Ln} (h : Mid t p x.at_) (hen : x.ended = true) (hcl : (10 : UInt8) ∉ x.text) (hrest : ∃ r, t.drop x.at_ = x.bytes ++ r) (hct : x.at_ ≤ t.length) (he : takeP t p x = .ok q) : Mid t q (x.at_ + x.bytes.length) := by
  have hat := h.at_
  obtain ⟨r, hr⟩ := hrest
  have hb : x.bytes = x.text ++ [10] := by unfold Ln.bytes; rw [hen]; simp
  have htk : t.take (x.at_ + x.bytes.length) = t.take x.at_ ++ x.bytes := by
    rw [List.take_add, hr]; simp
  by_cases hk : kindL x.text = 1
  · obtain ⟨g1, _, rfl⟩ := take_parts he
    have hg : goesP p x = false := goes_kind (by omega)
    have hw : wentP p x = p := by unfold wentP; rw [hg]; rfl
    have hE : endsP p x = true := by unfold endsP; rw [hg]; simp
    rw [hw] at g1
    have hth : thenP p x = endFieldP p := by unfold thenP; rw [hE, hw]; rfl
    obtain ⟨l, l1, l2, l3⟩ := h.endBlock (g1 hE) hct
    have ha : (endBlockP t (endFieldP p) x.at_).at_ = x.at_ := endBlock_at t _ _ (by rw [endField_at]; exact hat)
    have hlast : x.at_ + x.bytes.length = x.at_ + x.text.length + 1 := by rw [hb]; simp; omega
    unfold putP
    rw [if_neg (by omega), if_pos hk, hth]
    refine ⟨by show x.at_ + x.text.length + 1 ≤ _; omega, ?_, ?_, [], ?_, (fun l h => by cases h), ?_, fun _ => rfl⟩
    · intro it hi hk1
      rcases List.mem_append.1 (show it ∈ (endBlockP t (endFieldP p) x.at_).items ++ [_] from hi) with hi | hi
      · rw [l1] at hi
        rcases List.mem_append.1 hi with hi | hi
        · exact h.blks it hi hk1
        · exact l2 it hi
      · rw [List.mem_singleton.1 hi] at hk1; exact absurd rfl hk1
    · show Alt false ((endBlockP t (endFieldP p) x.at_).items ++ [_]) ∧ lastF false ((endBlockP t (endFieldP p) x.at_).items ++ [_]) = false
      rw [l1]
      refine ⟨Alt.append _ _ _ (Alt.append _ _ _ h.alt.1 ?_) ?_, ?_⟩
      · rw [h.alt.2]; exact alt_blk l2 l3
      · exact ⟨fun _ => rfl, trivial⟩
      · rw [lastF_append]; rfl
    · show (t.take (x.at_ + x.bytes.length)).drop (x.at_ + x.text.length + 1) = _
      rw [← hlast, List.drop_of_length_le (by rw [List.length_take]; omega)]; rfl
    · show Does [] (endBlockP t (endFieldP p) x.at_).said []
      rw [endBlock_said, endField_said]; exact Does.nil
  · obtain ⟨k1, k2, k3⟩ := take_keeps hk he
    obtain ⟨ts, h1, h2, h3, _⟩ := h.cur
    refine ⟨by rw [k3]; omega, by rw [k1]; exact h.blks, by rw [k1]; exact h.alt, ts ++ [x.text], ?_, ?_, h3.snoc hk hen he, ?_⟩
    · rw [k3, htk, List.drop_append_of_le_length (by rw [List.length_take]; omega), h1, textL_append, hb]
      unfold textL; simp
    · intro l hl
      rcases List.mem_append.1 hl with hl | hl
      · exact h2 l hl
      · rw [List.mem_singleton.1 hl]; exact hcl
    · intro hh
      rw [k3, hb] at hh
      simp at hh; omega
theorem Mid.run (t : List UInt8) : ∀ (xs : List Ln) (no c : Nat) (p q : PS), Runs no c xs → no ≤ c → Inv p c → Mid t p c → t.drop c = xs.flatMap Ln.bytes → c ≤ t.length → (∀ x ∈ xs, (10 : UInt8) ∉ x.text) → runP t p xs = .ok q → Mid t q t.length
  | [], no, c, p, q, _, _, _, hm, hr, hct, _, he => by
    cases he
    have : c = t.length := by
      have := congrArg List.length hr
      simp at this; omega
    rw [← this]; exact hm
  | x :: xs, no, c, p, q, hrun, hn, hi, hm, hr, hct, hcl, he => by
    obtain ⟨r1, r2, r3, r4⟩ := hrun
    unfold runP at he
    cases ht : takeP t p x with
    | error e => rw [ht] at he; cases he
    | ok p1 =>
      rw [ht] at he
      dsimp only at he
      rw [List.flatMap_cons] at hr
      rw [← r2] at hi hm hr hct
      obtain ⟨i1, e1⟩ := Inv.take hi (by omega) ht
      have m1 := hm.take e1 (hcl x List.mem_cons_self) ⟨_, hr⟩ hct ht
      have hr2 : t.drop (x.at_ + x.bytes.length) = xs.flatMap Ln.bytes := by
        rw [← List.drop_drop, hr]; simp
      have hct2 : x.at_ + x.bytes.length ≤ t.length := by
        have := congrArg List.length hr
        simp only [List.length_drop, List.length_append] at this
        omega
      rw [r2] at i1 m1 hr2 hct2
      exact Mid.run t xs (no + 1) (c + x.bytes.length) p1 q r4 (by omega) i1 m1 hr2 hct2 (fun y hy => hcl y (List.mem_cons_of_mem _ hy)) he
/-- The block that ends, when its field has ended: what it is. -/
theorem Blk.ends {it : It} {said : List (List UInt8)} {fields : List Fld} (hk : it.kind = if it.fields = [] then 2 else 3) (h0 : endFieldN ⟨0, said, [], 0, 0, fields⟩ = 0) (hf : (endFieldP ⟨0, said, [], 0, 0, fields⟩).fields = it.fields)
    (t : List UInt8) (b st a e : Nat) (its : List It) (hst : st ≤ 399) (hr : (t.take e).drop a = it.raw) (hae : a < e) :
    endFieldN ⟨b, said, its, st, a, fields⟩ = 0 ∧ (endBlockP t (endFieldP ⟨b, said, its, st, a, fields⟩) e).items = its ++ [it] ∧ (endBlockP t (endFieldP ⟨b, said, its, st, a, fields⟩) e).stanzas ≤ st + 1 ∧ (endBlockP t (endFieldP ⟨b, said, its, st, a, fields⟩) e).said = [] ∧ (endBlockP t (endFieldP ⟨b, said, its, st, a, fields⟩) e).fields = [] ∧ (endBlockP t (endFieldP ⟨b, said, its, st, a, fields⟩) e).at_ = e := by
  have e0 := mv_endFieldN b st a its ⟨0, said, [], 0, 0, fields⟩ hst h0
  have e1 := mv_endField b st a its ⟨0, said, [], 0, 0, fields⟩
  refine ⟨e0, ?_⟩
  rw [show (⟨b, said, its, st, a, fields⟩ : PS) = mv b st a its ⟨0, said, [], 0, 0, fields⟩ from rfl, e1]
  have es := endField_said ⟨0, said, [], 0, 0, fields⟩
  generalize endFieldP ⟨0, said, [], 0, 0, fields⟩ = p at *
  unfold endBlockP
  rw [show (mv b st a its p).at_ = a from rfl, show (mv b st a its p).fields = p.fields from rfl, hf, if_neg (by omega)]
  split
  · rename_i hz
    rw [if_pos (List.length_eq_zero_iff.1 hz)] at hk
    refine ⟨?_, by show st ≤ st + 1; omega, es, rfl, rfl⟩
    show its ++ [⟨(2 : Nat), (t.take e).drop a, p.fields⟩] = _
    rw [hr, hf]
    obtain ⟨k, r, f⟩ := it
    simp only at hk ⊢
    rw [hk]; rfl
  · rename_i hz
    rw [if_neg (fun h => hz (by rw [h]; rfl))] at hk
    refine ⟨?_, by show st + 1 ≤ st + 1; omega, es, rfl, rfl⟩
    show its ++ [⟨(3 : Nat), (t.take e).drop a, p.fields⟩] = _
    rw [hr, hf]
    obtain ⟨k, r, f⟩ := it
    simp only at hk ⊢
    rw [hk]; rfl
end Go.Proofs.Ytiebbgbcojgeoaa

namespace Go.Proofs.Ytiebbgbcojgeoaa
open Go.RowKit

/-- append onto a slice that is owned, as one step of a region that draws. -/
theorem step_append_own {P : Program} {ops : Array Oper} {o : Oper} {a : Act} {w : World} {K : Act → World → Prop} {Q : Exit → Act → World → Prop} {E : Prop}
    (hg : o.guard = none) (s x : Operand) (t : TypeId) (hop : o.op = Op.call { callee := Callee.builtin Builtin.append, args := #[s, x], argTypes := #[t, t] })
    (e : TypeId) (i : TypeInfo) (z : Value) (size bytes : Nat) (ht : P.underlying t = some (.slice e)) (hi : P.info? e = some i) (hz : i.zero = some z)
    (hsize : i.size = size) (hby : i.bytes = bytes) (hzs : z.cells.size = size) (hsz : 0 < size)
    (v : Value) (n : Nat) (xs : List Value) (hs : a.eval s = v) (hown : w.ownsRow 0 e size v n xs)
    (ad : Addr) (m c : Nat) (news : List Value) (hx : a.eval x = .slice (some ad) m c) (hl : news.length = m * size) (hnews : ∀ j u, news[j]? = some u → w.cell? (ad.add j) = some u) (h1 : ∀ u ∈ news, u.oneCell' = true)
    (h63 : n + m ≤ maxLen) (hbytes : (n + m) * bytes ≤ 140737488355328)
    (hK : ∀ v' w', w'.ownsRow 0 e size v' (n + m) (xs ++ news) → w.grownBy w' v.ownBlock → (v'.ownBlock = v.ownBlock ∨ v'.ownBlock = some w.heap.size) → K (a.put o.dst v') w') :
    if Region.wanted o (yielded ops a.tmps) = true then Oper.wp P o a w K Q else E := by
  have hw : Region.wanted o (yielded ops a.tmps) = true := by simp [Region.wanted, hg]
  rw [if_pos hw]
  obtain ⟨v', w', hr, h2, h3, h4, h5⟩ := run_append_own_at (P := P) w 0 t o.type e i z size bytes ht hi hz hsize hby hzs hsz v n xs hown ad m c news hl hnews h1 h63 hbytes (Nat.zero_le _)
  unfold Oper.wp
  simp [execOp, hop, resolve, invoke, builtin, hs, hx, hr, Result.andThen]
  exact hK v' w' h2 h3 h5

def tagged (T : Nat → Nat) (o : Option Nat) (t : Nat) : Prop := ∀ b, o = some b → T b = t
/-- A step of a tagged thing: other blocks lie as they lay; what was tagged is so still. -/
structure Step (w : World) (T : Nat → Nat) (w' : World) (T' : Nat → Nat) : Prop where
  only : Only (fun r => T r ≠ 0) w w'
  old : ∀ r, r < w.heap.size → T' r = T r
theorem Step.refl (w : World) (T : Nat → Nat) : Step w T w T := ⟨Only.refl _ _, fun _ _ => rfl⟩
theorem Step.trans {w w1 w2 : World} {T T1 T2 : Nat → Nat} (h : Step w T w1 T1) (g : Step w1 T1 w2 T2) : Step w T w2 T2 :=
  ⟨h.only.trans g.only (fun r hr hn => by rw [← h.old r hr]; exact hn), fun r hr => (g.old r (Nat.lt_of_lt_of_le hr h.only.size)).trans (h.old r hr)⟩
theorem Step.below {w w' : World} {T : Nat → Nat} (h : Below w.heap.size w w') : Step w T w' T := ⟨Only.of_below h (Nat.le_refl _), fun _ _ => rfl⟩

end Go.Proofs.Ytiebbgbcojgeoaa

namespace Go.Proofs.Ytiebbgbcojgeoaa
open Go.RowKit

def itemCells (it : It) (v : Value) : List Value := [.int .i64 it.kind, .string (B it.raw), v]
def itemsCells : List It → List Value → List Value
  | it :: l, v :: vs => itemCells it v ++ itemsCells l vs
  | _, _ => []
theorem itemsCells_snoc : ∀ (l : List It) (vs : List Value) (it : It) (v : Value), vs.length = l.length → itemsCells (l ++ [it]) (vs ++ [v]) = itemsCells l vs ++ itemCells it v
  | [], [], it, v, _ => by simp [itemsCells]
  | [], _ :: _, _, _, h => by simp at h
  | a :: l, [], it, v, h => by simp at h
  | a :: l, u :: vs, it, v, h => by
    have := itemsCells_snoc l vs it v (by simpa using h)
    simp only [List.cons_append, itemsCells, this, List.append_assoc]
theorem itemsCells_at : ∀ (l : List It) (vs : List Value) (i : Nat) (it : It) (v : Value), l[i]? = some it → vs[i]? = some v → (itemsCells l vs)[i * 3]? = some (.int .i64 it.kind) ∧ (itemsCells l vs)[i * 3 + 1]? = some (.string (B it.raw)) ∧ (itemsCells l vs)[i * 3 + 1 + 1]? = some v
  | [], _, i, it, v, h, _ => by simp at h
  | a :: l, [], i, it, v, _, h => by simp at h
  | a :: l, u :: vs, 0, it, v, h, h' => by simp at h h'; subst h h'; exact ⟨rfl, rfl, rfl⟩
  | a :: l, u :: vs, i + 1, it, v, h, h' => by
    obtain ⟨x, y, z⟩ := itemsCells_at l vs i it v (by simpa using h) (by simpa using h')
    have e : itemsCells (a :: l) (u :: vs) = .int .i64 a.kind :: .string (B a.raw) :: u :: itemsCells l vs := rfl
    have k : (i + 1) * 3 = i * 3 + 1 + 1 + 1 := by omega
    have k1 : i * 3 + 1 + 1 + 1 + 1 = (i * 3 + 1) + 1 + 1 + 1 := by omega
    have k2 : i * 3 + 1 + 1 + 1 + 1 + 1 = (i * 3 + 1 + 1) + 1 + 1 + 1 := by omega
    rw [e, k]
    refine ⟨?_, ?_, ?_⟩
    · rw [List.getElem?_cons_succ, List.getElem?_cons_succ, List.getElem?_cons_succ]; exact x
    · rw [k1, List.getElem?_cons_succ, List.getElem?_cons_succ, List.getElem?_cons_succ]; exact y
    · rw [k2, List.getElem?_cons_succ, List.getElem?_cons_succ, List.getElem?_cons_succ]; exact z
/-- A step of the parser: what isn't its own lies as it lay. -/
structure PStep (w : World) (T : Nat → Nat) (w' : World) (T' : Nat → Nat) : Prop where
  only : Only (fun r => T r ≠ 0) w w'
  old : ∀ r, r < w.heap.size → (T' r = 0 ↔ T r = 0)
theorem PStep.refl (w : World) (T : Nat → Nat) : PStep w T w T := ⟨Only.refl _ _, fun _ _ => Iff.rfl⟩
theorem PStep.trans {w w1 w2 : World} {T T1 T2 : Nat → Nat} (h : PStep w T w1 T1) (g : PStep w1 T1 w2 T2) : PStep w T w2 T2 :=
  ⟨h.only.trans g.only (fun r hr hn => fun e => hn ((h.old r hr).2 e)), fun r hr => (g.old r (Nat.lt_of_lt_of_le hr h.only.size)).trans (h.old r hr)⟩
theorem PStep.below {w w' : World} {T : Nat → Nat} (h : Below w.heap.size w w') : PStep w T w' T := ⟨Only.of_below h (Nat.le_refl _), fun _ _ => Iff.rfl⟩
theorem PStep.drewN {w w' : World} {T T' : Nat → Nat} (h : PStep w T w' T') (n : Nat) : PStep w T (w'.drewN n) T' := ⟨h.only.drewN n, h.old⟩

/-- The slots of a slice that is owned. -/
theorem own_slice {w : World} {base : Nat} {e : TypeId} {size : Nat} {v : Value} {n : Nat} {xs : List Value} (h : w.ownsRow base e size v n xs) : ∃ a cap, v = .slice a n cap ∧ n ≤ cap := by
  rcases h.2 with ⟨rfl, rfl⟩ | ⟨g, cap, cur, rfl, _, _, hle, _⟩
  · exact ⟨none, 0, rfl, Nat.le_refl _⟩
  · exact ⟨_, cap, rfl, hle⟩

end Go.Proofs.Ytiebbgbcojgeoaa

namespace Go.Proofs.Ytiebbgbcojgeoaa
open Go.RowKit

end Go.Proofs.Ytiebbgbcojgeoaa

namespace Go.Proofs.Ytiebbgbcojgeoaa
open Go.RowKit

/-- Blocks of one tag become blocks of another one. -/
def moved (T : Nat → Nat) (a c : Nat) : Nat → Nat := fun k => if T k = a then c else T k
end Go.Proofs.Ytiebbgbcojgeoaa

namespace Go.Proofs.Ytiebbgbcojgeoaa
open Go.RowKit

end Go.Proofs.Ytiebbgbcojgeoaa

namespace Go.Proofs
open Go.Shelf
end Go.Proofs

namespace Go.Proofs.Ytiebbgbcojgeoaa
open Go.RowKit

end Go.Proofs.Ytiebbgbcojgeoaa

namespace Go.Proofs.Ytiebbgbcojgeoaa
open Go.RowKit

/-- Whatever lay lies as it lay, but for two blocks. -/
structure Two (b c : Nat) (W W' : World) : Prop where
  os : W'.os = W.os
  tape : W'.tape = W.tape
  output : W'.output = W.output
  size : W.heap.size ≤ W'.heap.size
  same : ∀ r, r < W.heap.size → r ≠ b → r ≠ c → W'.heap[r]? = W.heap[r]?
theorem Two.refl (b c : Nat) (W : World) : Two b c W W := ⟨rfl, rfl, rfl, Nat.le_refl _, fun _ _ _ _ => rfl⟩
theorem Two.alloc {b c : Nat} {X Y : World} (h : Two b c X Y) (o : Obj) : Two b c X (Y.alloc o) :=
  ⟨h.os, h.tape, h.output, by simp; have := h.size; omega, fun r a x y => (Below.heap_alloc _ _ _ (Nat.lt_of_lt_of_le a h.size)).trans (h.same r a x y)⟩
theorem Two.setCell {b c : Nat} {X Y : World} (h : Two b c X Y) {p : Addr} (hp : p.block = b ∨ p.block = c ∨ X.heap.size ≤ p.block) (u : Value) : Two b c X (Y.setCell p u) :=
  ⟨h.os, h.tape, h.output, by simp only [World.setCell, Array.size_modify]; exact h.size, fun r a x y => (Below.heap_setCell _ _ _ _ (by omega)).trans (h.same r a x y)⟩
theorem Two.drew {b c : Nat} {X Y : World} (h : Two b c X Y) : Two b c X Y.drew := ⟨h.os, h.tape, h.output, h.size, h.same⟩
theorem Two.drewN {b c : Nat} {X Y : World} (h : Two b c X Y) (n : Nat) : Two b c X (Y.drewN n) := ⟨h.os, h.tape, h.output, h.size, h.same⟩
theorem Two.box {b c d : Nat} {X Y : World} {t : TypeId} {v : Value} (h : Two b c X Y) (hv : Boxed X d t v) (x : d ≠ b) (y : d ≠ c) : Boxed Y d t v :=
  (h.same d hv.lt x y).trans hv
theorem Two.turned {b c B k : Nat} {X Y : World} (h : Two b c X Y) (hb : B ≤ b ∧ b < B + k) (hc : B ≤ c ∧ c < B + k) : Turned B k X Y :=
  ⟨h.os, h.tape, h.output, h.size, fun r a x => h.same r a (by omega) (by omega)⟩

end Go.Proofs.Ytiebbgbcojgeoaa

namespace Go.Proofs.Ytiebbgbcojgeoaa
open Go.RowKit Go.Shelf
attribute [local go_sem] Oper.semAt_some

def atOf (B : Nat) (w : World) : Nat := match w.cell? ⟨B, 0, none⟩ with | some (.int _ n) => n.toNat | _ => 0
theorem atOf_eq {B : Nat} {w : World} {t : TypeId} {n : Nat} (h : Boxed w B t (.int .i64 n)) : atOf B w = n := by unfold atOf; rw [h.cell]; simp

end Go.Proofs.Ytiebbgbcojgeoaa

namespace Go.Proofs.Ytiebbgbcojgeoaa
open Go.RowKit Go.Shelf
attribute [local go_sem] Oper.semAt_some

theorem boxNew2 (w : World) (o : Obj) (t : TypeId) (v : Value) : Boxed ((w.alloc o).alloc (.cells #[v] t)) (w.heap.size + 1) t v := by
  have := Boxed.new (w.alloc o) t v
  rwa [World.size_alloc] at this

end Go.Proofs.Ytiebbgbcojgeoaa

namespace Go.Proofs.Ytiebbgbcojgeoaa
open Go.RowKit Go.Shelf

end Go.Proofs.Ytiebbgbcojgeoaa

namespace Go.Proofs.Ytiebbgbcojgeoaa
open Go.RowKit Go.Shelf

theorem Below.drewN {B : Nat} {a w : World} (h : Below B a w) (n : Nat) : Below B a (w.drewN n) := ⟨h.os, h.tape, h.output, h.size, h.block⟩
end Go.Proofs.Ytiebbgbcojgeoaa

namespace Go.Proofs.Ytiebbgbcojgeoaa
open Go.RowKit Go.Shelf

end Go.Proofs.Ytiebbgbcojgeoaa

namespace Go.Proofs.Ytiebbgbcojgeoaa
open Go.RowKit Go.Shelf

end Go.Proofs.Ytiebbgbcojgeoaa

namespace Go.Proofs.Ytiebbgbcojgeoaa
open Go.RowKit Go.Shelf

end Go.Proofs.Ytiebbgbcojgeoaa

namespace Go.Proofs.Ytiebbgbcojgeoaa
open Go.RowKit Go.Shelf

end Go.Proofs.Ytiebbgbcojgeoaa

namespace Go.Proofs.Ytiebbgbcojgeoaa
open Go.RowKit Go.Shelf

attribute [local go_sem] errV_0 errV_5 errV_6
end Go.Proofs.Ytiebbgbcojgeoaa

namespace Go.Proofs.Ytiebbgbcojgeoaa
open Go.RowKit Go.Shelf

theorem own_kept {w w' : World} {base N : Nat} {e : TypeId} {size : Nat} {v : Value} {n : Nat} {xs : List Value} (h : w.ownsRow base e size v n xs) (hb : Below N w w') (hN : w.heap.size ≤ N) : w'.ownsRow base e size v n xs := by
  refine ⟨h.1, ?_⟩
  rcases h.2 with hn | ⟨g, cap, cur, hv, hg, hc, rest⟩
  · exact .inl hn
  · refine .inr ⟨g, cap, cur, hv, hg, ?_, rest⟩
    have : g < w.heap.size := (Array.getElem?_eq_some_iff.1 hc).1
    exact (hb.block g (by omega)).trans hc
/-- An owned row of texts. -/
def OwnS (w : World) (base : Nat) (v : Value) (ss : List ByteArray) : Prop := w.ownsRow base 9 1 v ss.length (ss.map Value.string)
theorem OwnS.kept {w w' : World} {base N : Nat} {v : Value} {ss : List ByteArray} (h : OwnS w base v ss) (hb : Below N w w') (hN : w.heap.size ≤ N) : OwnS w' base v ss := own_kept h hb hN
theorem OwnS.strs {w : World} {base : Nat} {v : Value} {ss : List ByteArray} (h : OwnS w base v ss) : Strs w v ss := by
  rcases Joins.ownsRow_forms h with ⟨rfl, hn⟩ | ⟨g, cap, rfl⟩
  · have : ss = [] := by cases ss with | nil => rfl | cons _ _ => simp at hn
    subst this
    exact Strs.none _ _
  · refine ⟨_, cap, rfl, (by rcases h.2 with ⟨q, _⟩ | ⟨g', cap', cur, q, _, _, q2, _⟩; cases q; cases q; exact q2), fun i s hs => ⟨g, 0, rfl, (World.ownsRow.lt h g rfl).2, ?_⟩⟩
    have hi : i < ss.length := by
      rcases Nat.lt_or_ge i ss.length with q | q
      · exact q
      · rw [List.getElem?_eq_none q] at hs; cases hs
    rw [Nat.zero_add, World.ownsRow.cellAt h i (by omega), List.getElem?_map, hs]; rfl
theorem OwnS.one (w : World) (base : Nat) (hb : base ≤ w.heap.size) (s : ByteArray) : OwnS (w.alloc (.cells #[.string s] 9)) base (.slice (some ⟨w.heap.size, 0, none⟩) 1 1) [s] :=
  World.ownsRow_lit w #[.string s] 1 hb (by decide) rfl
attribute [local go_sem] errV_0
end Go.Proofs.Ytiebbgbcojgeoaa

namespace Go.Proofs.Ytiebbgbcojgeoaa
open Go.RowKit Go.Shelf

attribute [local go_sem] errV_0
end Go.Proofs.Ytiebbgbcojgeoaa

namespace Go.Proofs.Ytiebbgbcojgeoaa
open Go.RowKit Go.Shelf

end Go.Proofs.Ytiebbgbcojgeoaa

namespace Go.Proofs.Ytiebbgbcojgeoaa
open Go.RowKit Go.Shelf

theorem results_cell1 {fn : Func} {p : Tmp} {ty : TypeId} (h : fn.results = #[.cell p ty]) (tmps : Array Value) (P : Program) (w : World) :
    (results fn tmps).run P w = ((asAddr (tmps.getD p undef)).run P w).andThen fun a w₁ => (loadVar ty a).run P w₁ := by
  simp only [results, h]
  simp [Sem.run_bind, Result.andThen]
theorem cells_kept {w w' : World} {b N : Nat} {t : TypeId} {cur : Array Value} (h : Cells w b t cur) (hb : Below N w w') (hN : b < N) : Cells w' b t cur := (hb.block b hN).trans h
end Go.Proofs.Ytiebbgbcojgeoaa

namespace Go.Proofs.Ytiebbgbcojgeoaa
open Go.RowKit Go.Shelf

attribute [local go_sem] errV_0 errV_2 errV_6
end Go.Proofs.Ytiebbgbcojgeoaa

namespace Go.Proofs.Ytiebbgbcojgeoaa
open Go.RowKit Go.Shelf
attribute [local go_sem] errV_0

/-- An error at a place. -/
def FaultAt (lo : Nat) (w : World) (e : Value) (at_ n : Nat) : Prop := ∃ q, lo ≤ q ∧ e = .iface 77 (.pointer (some ⟨q, 0, none⟩)) ∧ Cells w q 80 #[.int .i64 at_, errV n]
theorem FaultAt.below {lo : Nat} {w w' : World} {e : Value} {a n N : Nat} (h : FaultAt lo w e a n) (hb : Below N w w') (hN : w.heap.size ≤ N) : FaultAt lo w' e a n := by
  obtain ⟨q, h0, h1, h2⟩ := h
  exact ⟨q, h0, h1, (hb.block q (Nat.lt_of_lt_of_le h2.lt hN)).trans h2⟩
theorem FaultAt.mono {lo lo' : Nat} {w : World} {e : Value} {a n : Nat} (h : FaultAt lo w e a n) (hl : lo' ≤ lo) : FaultAt lo' w e a n := by
  obtain ⟨q, h0, h1, h2⟩ := h
  exact ⟨q, Nat.le_trans hl h0, h1, h2⟩
theorem FaultAt.new (w : World) (a n lo q : Nat) (hq : w.heap.size = q) (hl : lo ≤ q) : FaultAt lo (w.alloc (.cells #[.int .i64 a, errV n] 80)) (.iface 77 (.pointer (some ⟨q, 0, none⟩))) a n := by subst hq; exact ⟨w.heap.size, hl, rfl, Cells.new _ _ _⟩
end Go.Proofs.Ytiebbgbcojgeoaa

namespace Go.Proofs.Ytiebbgbcojgeoaa
open Go.RowKit Go.Shelf
attribute [local go_sem] errV_0 errV_2

end Go.Proofs.Ytiebbgbcojgeoaa

namespace Go.Proofs.Ytiebbgbcojgeoaa
open Go.RowKit Go.Shelf
attribute [local go_sem] errV_0 errV_2

end Go.Proofs.Ytiebbgbcojgeoaa

namespace Go.Proofs.Ytiebbgbcojgeoaa
open Go.RowKit Go.Shelf
attribute [local go_sem] Oper.semAt_some

theorem under {W W' : World} {b n : Nat} {t : TypeId} {v : Value} (h : Boxed W b t v) (hb : Below n W W') (hn : b < n) : Boxed W' b t v := (hb.block b hn).trans h
theorem rowBase {W : World} {base base' : Nat} {e : TypeId} {size : Nat} {v : Value} {n : Nat} {xs : List Value} (h : W.ownsRow base e size v n xs) (hb : base' ≤ base) : W.ownsRow base' e size v n xs := by
  refine ⟨h.1, ?_⟩
  rcases h.2 with hn | ⟨g, cap, cur, hv, hg, rest⟩
  · exact .inl hn
  · exact .inr ⟨g, cap, cur, hv, Nat.le_trans hb hg, rest⟩
end Go.Proofs.Ytiebbgbcojgeoaa

namespace Go.Proofs.Ytiebbgbcojgeoaa
open Go.RowKit Go.Shelf
attribute [local go_sem] errV_0 errV_2

end Go.Proofs.Ytiebbgbcojgeoaa

namespace Go.Proofs.Ytiebbgbcojgeoaa
open Go.RowKit Go.Shelf
attribute [local go_sem] Oper.semAt_some errV_0

/-- A slice of items, readable. -/
def Its (w : World) (v : Value) (its : List It) : Prop :=
  ∃ A cap, v = .slice A its.length cap ∧ its.length ≤ cap ∧ ∀ (i : Nat) (it : It), its[i]? = some it → ∃ b off fv, A = some ⟨b, off, none⟩ ∧ b < w.heap.size ∧
    w.cell? ⟨b, off + i * 3, none⟩ = some (.int .i64 it.kind) ∧ w.cell? ⟨b, off + i * 3 + 1, none⟩ = some (.string (B it.raw)) ∧ w.cell? ⟨b, off + i * 3 + 1 + 1, none⟩ = some fv ∧ Flds w fv it.fields
theorem Its.below {w w' : World} {v : Value} {its : List It} {n : Nat} (h : Its w v its) (hb : Below n w w') (hn : w.heap.size ≤ n) : Its w' v its := by
  obtain ⟨A, cap, hv, hle, hc⟩ := h
  refine ⟨A, cap, hv, hle, fun i it hi => ?_⟩
  obtain ⟨b, off, fv, hA, hlt, c0, c1, c2, hf⟩ := hc i it hi
  have hlt' := Nat.lt_of_lt_of_le hlt hn
  exact ⟨b, off, fv, hA, Nat.lt_of_lt_of_le hlt hb.size, (hb.cell (p := ⟨b, off + i * 3, none⟩) hlt').trans c0, (hb.cell (p := ⟨b, off + i * 3 + 1, none⟩) hlt').trans c1, (hb.cell (p := ⟨b, off + i * 3 + 1 + 1, none⟩) hlt').trans c2, hf.below hb hn⟩
/-- The fields' slices that are nil have no room. -/
def NilI (w : World) (v : Value) (its : List It) : Prop := ∀ (i : Nat) (b off : Nat) (n cap m c : Nat), v = .slice (some ⟨b, off, none⟩) n cap → i < its.length → w.cell? ⟨b, off + i * 3 + 1 + 1, none⟩ = some (.slice none m c) → c = 0
/-- What Parse comes to, of a text that isn't too long. -/
def Parsed (w : World) (text : List UInt8) (e : Ending) (w' : World) : Prop :=
  Below w.heap.size w w' ∧ match parseL text with
    | .error (a, n) => ∃ v, e = .returned (.tuple #[.slice none 0 0, v]) ∧ FaultAt w.heap.size w' v a n
    | .ok its => ∃ v, e = .returned (.tuple #[v, .nilIface]) ∧ Its w' v its ∧ NilI w' v its
theorem Parsed.no {w w' : World} {text : List UInt8} {v : Value} {a n : Nat} (h : parseL text = .error (a, n)) (hb : Below w.heap.size w w') (hf : FaultAt w.heap.size w' v a n) : Parsed w text (.returned (.tuple #[.slice none 0 0, v])) w' :=
  ⟨hb, by rw [h]; exact ⟨v, rfl, hf⟩⟩
end Go.Proofs.Ytiebbgbcojgeoaa

namespace Go.Proofs.Ytiebbgbcojgeoaa
open Go.RowKit Go.Shelf

theorem assertErrF (q : Option Addr) (w : World) : (Instr.typeAssert (.iface 77 (.pointer q)) 37 50 true).run Try.prog w = .ok (.tuple #[.int .i64 0, .bool false]) w := by kernel_rfl
theorem assertFaultF (q : Option Addr) (w : World) : (Instr.typeAssert (.iface 77 (.pointer q)) 37 77 true).run Try.prog w = .ok (.tuple #[.pointer q, .bool true]) w := by kernel_rfl
theorem assertFaultE (n : Int) (w : World) : (Instr.typeAssert (.iface 50 (.int .i64 n)) 37 77 true).run Try.prog w = .ok (.tuple #[.pointer none, .bool false]) w := by kernel_rfl
theorem assertFault0 (w : World) : (Instr.typeAssert .nilIface 37 77 true).run Try.prog w = .ok (.tuple #[.pointer none, .bool false]) w := by kernel_rfl
theorem assertErrN (n : Int) (w : World) : (Instr.typeAssert (.iface 50 (.int .i64 n)) 37 50 true).run Try.prog w = .ok (.tuple #[.int .i64 n, .bool true]) w := by kernel_rfl
attribute [local go_sem] errV_0 assertErrF assertFaultF assertFaultE assertFault0 assertErrN
theorem Its.at_ {w : World} {v : Value} {its : List It} (h : Its w v its) {i : Nat} {it : It} (hi : its[i]? = some it) : ∃ b off cap fa fc, v = .slice (some ⟨b, off, none⟩) its.length cap ∧ its.length ≤ cap ∧ b < w.heap.size ∧ w.cell? ⟨b, off + i * 3, none⟩ = some (.int .i64 it.kind) ∧ w.cell? ⟨b, off + i * 3 + 1, none⟩ = some (.string (B it.raw)) ∧ w.cell? ⟨b, off + i * 3 + 1 + 1, none⟩ = some (.slice fa it.fields.length fc) ∧ it.fields.length ≤ fc := by
  obtain ⟨A, cap, rfl, hle, hc⟩ := h
  obtain ⟨b, off, fv, rfl, hlt, c0, c1, c2, fa, fc, rfl, hfl, _⟩ := hc i it hi
  exact ⟨b, off, cap, fa, fc, rfl, hle, hlt, c0, c1, c2, hfl⟩
end Go.Proofs.Ytiebbgbcojgeoaa

namespace Go.Proofs.Ytiebbgbcojgeoaa
open Go.RowKit Go.Shelf

attribute [local go_sem] errV_0
end Go.Proofs.Ytiebbgbcojgeoaa

namespace Go.Proofs.Ytiebbgbcojgeoaa
open Go.RowKit Go.Shelf

/-- Whatever lay below R lies as it lay, but block b. -/
structure Wrote (b R : Nat) (W W' : World) : Prop where
  os : W'.os = W.os
  tape : W'.tape = W.tape
  output : W'.output = W.output
  size : W.heap.size ≤ W'.heap.size
  same : ∀ r, r < R → r < W.heap.size → r ≠ b → W'.heap[r]? = W.heap[r]?
  others : Lib.OthersKept 5 (some b) W W'

theorem Wrote.refl (b R : Nat) (W : World) : Wrote b R W W := ⟨rfl, rfl, rfl, Nat.le_refl _, fun _ _ _ _ => rfl, Lib.OthersKept.refl _ _ _⟩
theorem Wrote.trans {b R : Nat} {X Y Z : World} (h : Wrote b R X Y) (g : Wrote b R Y Z) : Wrote b R X Z :=
  ⟨g.os.trans h.os, g.tape.trans h.tape, g.output.trans h.output, Nat.le_trans h.size g.size, fun r a c e => (g.same r a (Nat.lt_of_lt_of_le c h.size) e).trans (h.same r a c e), h.others.trans g.others⟩
theorem Wrote.grown {b R : Nat} {X Y Z : World} (h : Wrote b R X Y) {row : Option Nat} (hg : Y.grownBy Z row) (hr : ∀ r, row = some r → R ≤ r ∧ ∃ c fz, Y.heap[r]? = some (.cells c 5 fz)) : Wrote b R X Z :=
  h.trans ⟨hg.os, hg.tape, hg.output, hg.size, fun r a c e => hg.block r c (fun e2 => by have := (hr r e2.symm).1; omega), (Lib.OthersKept.refl _ _ _).grown hg (fun g e => (hr g e).2)⟩
theorem Wrote.put {b R : Nat} {X Y : World} (h : Wrote b R X Y) (j : Nat) (u : Value) : Wrote b R X (Y.setCell ⟨b, j, none⟩ u) :=
  h.trans ⟨rfl, rfl, rfl, by simp [World.setCell], fun r _ _ e => Below.heap_setCell _ _ _ _ e, Lib.OthersKept.setCell (b := b) (Lib.OthersKept.refl _ _ Y) ⟨b, j, none⟩ rfl u⟩
theorem Wrote.other {b R c : Nat} {X Y : World} {cs : Array Value} {t : TypeId} (h : Wrote b R X Y) (hc : X.heap[c]? = some (.cells cs t (0, 0))) (hne : c ≠ b) (ht : t ≠ 5) : Y.heap[c]? = some (.cells cs t (0, 0)) :=
  h.others c _ hc (fun e => hne (Option.some.inj e)) (fun c' fz e => ht (by injection e))
theorem Wrote.alloc {b R : Nat} {X Y : World} (h : Wrote b R X Y) (o : Obj) : Wrote b R X (Y.alloc o) :=
  h.grown (World.grownBy_alloc Y o none) (fun r e => by cases e)
theorem Wrote.drew {b R : Nat} {X Y : World} (h : Wrote b R X Y) : Wrote b R X Y.drew := ⟨h.os, h.tape, h.output, h.size, h.same, h.others⟩
theorem Wrote.below {b R n : Nat} {X Y : World} (h : Wrote b R X Y) (hb : n ≤ b) (hR : n ≤ R) (hs : n ≤ X.heap.size) : Below n X Y :=
  ⟨h.os, h.tape, h.output, h.size, fun r a => h.same r (by omega) (by omega) (by omega)⟩
theorem Wrote.box {b R c : Nat} {X Y : World} {t : TypeId} {v : Value} (h : Wrote b R X Y) (hv : Boxed X c t v) (hc : c < R) (hne : c ≠ b) : Boxed Y c t v :=
  (h.same c hc hv.lt hne).trans hv

end Go.Proofs.Ytiebbgbcojgeoaa

namespace Go.Proofs.Ytiebbgbcojgeoaa
open Go.RowKit Go.Shelf

def foldN : List (List UInt8 × List UInt8) → Nat
  | [] => 0
  | f :: r => if checkN f.1 f.2 = 0 then foldN r else checkN f.1 f.2
def foldG (fs : List (List UInt8 × List UInt8)) : List UInt8 := fs.flatMap fun f => textL (linesL f.1 f.2)
end Go.Proofs.Ytiebbgbcojgeoaa

namespace Go.Proofs.Ytiebbgbcojgeoaa
open Go.RowKit Go.Shelf

end Go.Proofs.Ytiebbgbcojgeoaa

namespace Go.Proofs.Ytiebbgbcojgeoaa
open Go.RowKit Go.Shelf

theorem Flds.drewN {w : World} {v : Value} {fs : List Fld} (h : Flds w v fs) (n : Nat) : Flds (w.drewN n) v fs := h
end Go.Proofs.Ytiebbgbcojgeoaa

namespace Go.Proofs.Ytiebbgbcojgeoaa
open Go.RowKit Go.Shelf

end Go.Proofs.Ytiebbgbcojgeoaa

namespace Go.Proofs.Ytiebbgbcojgeoaa
open Go.RowKit Go.Shelf

theorem rcellsF_at {w : World} {ad : Addr} {fs : List Fld} {cap : Nat} (hc : ∀ (i : Nat) (f : List UInt8 × List UInt8), fs[i]? = some f → ∃ b off, some ad = some (⟨b, off, none⟩ : Addr) ∧ b < w.heap.size ∧ w.cell? ⟨b, off + i * 2, none⟩ = some (.string (B f.1)) ∧ w.cell? ⟨b, off + i * 2 + 1, none⟩ = some (.string (B f.2))) (o : Obj) :
    ∀ (j : Nat) u, (cellsF fs)[j]? = some u → (w.alloc o).cell? (ad.add j) = some u := by
  intro j u hu
  have hj : j < (cellsF fs).length := by
    rcases Nat.lt_or_ge j (cellsF fs).length with q | q
    · exact q
    · rw [List.getElem?_eq_none q] at hu; cases hu
  rw [cellsF_len] at hj
  have hi2 : j / 2 < fs.length := by omega
  obtain ⟨f, hf⟩ : ∃ f, fs[j / 2]? = some f := ⟨_, List.getElem?_eq_getElem hi2⟩
  obtain ⟨b, off, e, hbb, c0, c1⟩ := hc _ f hf
  obtain ⟨a1, a2⟩ := cellsF_at fs _ f hf
  cases e
  rw [WideShapes.add_plain, World.cell?_alloc_old _ _ _ (Nat.ne_of_lt hbb)]
  rcases Nat.mod_two_eq_zero_or_one j with h | h
  · have ej : j = j / 2 * 2 := by omega
    rw [← ej] at a1 c0
    rw [c0, ← hu, a1]
  · have ej : j = j / 2 * 2 + 1 := by omega
    rw [Nat.add_assoc, ← ej] at c1
    rw [← ej] at a2
    rw [c1, ← hu, a2]
theorem eqlNil (w : World) : (binOp BinOp.eql 30 (.slice none 0 0) (.slice none 0 0)).run Try.prog w = .ok (.bool true) w := by kernel_rfl
theorem eqlSome (ad : Addr) (n c : Nat) (w : World) : (binOp BinOp.eql 30 (.slice (some ad) n c) (.slice none 0 0)).run Try.prog w = .ok (.bool false) w := by kernel_rfl
attribute [local go_sem] eqlNil eqlSome
set_option maxRecDepth 100000 in
set_option maxHeartbeats 4000000 in
theorem clone_any (fs : List Fld) (v : Value) (w : World) (hs : Flds w v fs) (hnil : ∀ n c, v = .slice none n c → c = 0) (hn : fs.length ≤ 1000000) :
    Calls Try.prog 61 #[v] w fun e w' => ∃ v', e = .returned v' ∧ w'.ownsRow w.heap.size 45 2 v' fs.length (cellsF fs) ∧ Below w.heap.size w w' := by
  obtain ⟨A, cap, rfl, hle, hc⟩ := hs
  obtain ⟨i0, hi, hz0, hz1, hz2⟩ := info_parts infoFld
  cases A with
  | none =>
    have he : fs = [] := by
      cases fs with
      | nil => rfl
      | cons a r => obtain ⟨b, off, e, _⟩ := hc 0 a rfl; cases e
    have hc0 := hnil _ _ rfl
    subst hc0
    subst he
    simp only [List.length_nil]
    go_enter Try.func61, Try.ntmps61
    go_wp2_with fail
    go_ret
    exact ⟨_, rfl, ⟨rfl, .inl ⟨rfl, rfl⟩⟩, Below.refl _ _⟩
  | some ad =>
    have hoN : (w.alloc (.cells #[] 45)).ownsRow w.heap.size 45 2 (.slice (some ⟨w.heap.size, 0, none⟩) 0 0) 0 [] := World.ownsRow_lit w #[] 0 (Nat.le_refl _) (by decide) rfl
    have hba := (Below.refl w.heap.size w).alloc (Nat.le_refl _) (.cells #[] 45)
    have HC := Lib.hid (rcellsF_at (cap := cap) hc (.cells #[] 45))
    have hone : ∀ u ∈ cellsF fs, u.oneCell' = true := by
      intro u hu
      unfold cellsF at hu
      simp at hu
      obtain ⟨a, b, _, h | h⟩ := hu <;> subst h <;> rfl
    have HL := cellsF_len fs
    clear hc
    generalize cellsF fs = cf at *
    go_enter Try.func61, Try.ntmps61
    go_wp2_with (at_builtin; refine wpList_append_own _ rfl _ _ 30 rfl w.heap.size 45 i0 _ 2 32 Try.underlying30 hi hz0 hz1 hz2 rfl (by decide) _ 0 [] rfl hoN ad fs.length cap cf rfl HL HC.out hone ?c3 ?c4 ?c5 ?_)
    case c3 => unfold maxLen; omega
    case c4 => omega
    case c5 => simp
    intro v' w3 hown' hgrow _
    have hb3 : Below w.heap.size w w3 := hba.grown hgrow (by simp) (fun j ej => (World.ownsRow.lt hoN j ej).1)
    go_wp2_with fail
    go_ret
    exact ⟨_, rfl, hown', hb3⟩
/-- A slice of slices of fields, readable. -/
def Rws (w : World) (v : Value) (rs : List (List Fld)) : Prop :=
  ∃ A cap, v = .slice A rs.length cap ∧ rs.length ≤ cap ∧ ∀ (i : Nat) (r : List Fld), rs[i]? = some r → ∃ b off fv, A = some ⟨b, off, none⟩ ∧ b < w.heap.size ∧ w.cell? ⟨b, off + i, none⟩ = some fv ∧ Flds w fv r
theorem Rws.below {w w' : World} {v : Value} {rs : List (List Fld)} {n : Nat} (h : Rws w v rs) (hb : Below n w w') (hn : w.heap.size ≤ n) : Rws w' v rs := by
  obtain ⟨A, cap, hv, hle, hc⟩ := h
  refine ⟨A, cap, hv, hle, fun i r hi => ?_⟩
  obtain ⟨b, off, fv, hA, hlt, c0, hf⟩ := hc i r hi
  exact ⟨b, off, fv, hA, Nat.lt_of_lt_of_le hlt hb.size, (hb.cell (p := ⟨b, off + i, none⟩) (Nat.lt_of_lt_of_le hlt hn)).trans c0, hf.below hb hn⟩
/-- The accumulated rows: by definition (its rows are the items' own), by the program (its rows are new). -/
structure AccR (w wr : World) (v : Value) (vs : List Value) (rs : List (List Fld)) : Prop where
  row : wr.ownsRow w.heap.size 30 1 v vs.length vs
  len : vs.length = rs.length
  each : ∀ (j : Nat) x r, vs[j]? = some x → rs[j]? = some r → Flds w x r
  below : Below w.heap.size w wr
structure AccP (w wr : World) (v : Value) (vs : List Value) (rs : List (List Fld)) : Prop where
  row : wr.ownsRow w.heap.size 30 1 v vs.length vs
  len : vs.length = rs.length
  each : ∀ (j : Nat) x r, vs[j]? = some x → rs[j]? = some r → wr.ownsRow w.heap.size 45 2 x r.length (cellsF r)
  below : Below w.heap.size w wr
theorem snoc_at {α : Type} {l : List α} {a x : α} {j : Nat} (h : (l ++ [a])[j]? = some x) : (j < l.length ∧ l[j]? = some x) ∨ (j = l.length ∧ x = a) := by
  rcases Nat.lt_or_ge j l.length with q | q
  · rw [List.getElem?_append_left q] at h; exact .inl ⟨q, h⟩
  · rw [List.getElem?_append_right q] at h
    have hz : j - l.length = 0 := by
      rcases Nat.eq_zero_or_pos (j - l.length) with z | z
      · exact z
      · rw [List.getElem?_eq_none (by simp; omega)] at h; cases h
    rw [hz] at h
    cases h
    exact .inr ⟨by omega, rfl⟩
theorem AccR.start (w : World) : AccR w w (.slice none 0 0) [] [] := ⟨⟨rfl, .inl ⟨rfl, rfl⟩⟩, rfl, fun j x r h => by simp at h, Below.refl _ _⟩
theorem AccP.start (w : World) : AccP w w (.slice none 0 0) [] [] := ⟨⟨rfl, .inl ⟨rfl, rfl⟩⟩, rfl, fun j x r h => by simp at h, Below.refl _ _⟩
theorem AccP.kept {w wr w2 : World} {v : Value} {vs : List Value} {rs : List (List Fld)} (h : AccP w wr v vs rs) (hb : Below wr.heap.size wr w2) : AccP w w2 v vs rs :=
  ⟨own_kept h.row hb (Nat.le_refl _), h.len, fun j x r h1 h2 => own_kept (h.each j x r h1 h2) hb (Nat.le_refl _), h.below.trans (hb.mono h.below.size)⟩
theorem AccR.kept {w wr w2 : World} {v : Value} {vs : List Value} {rs : List (List Fld)} (h : AccR w wr v vs rs) (hb : Below wr.heap.size wr w2) : AccR w w2 v vs rs :=
  ⟨own_kept h.row hb (Nat.le_refl _), h.len, h.each, h.below.trans (hb.mono h.below.size)⟩
theorem AccR.snoc {w W W1 w3 : World} {v v' x : Value} {vs : List Value} {rs : List (List Fld)} {r : List Fld} (h : AccR w W v vs rs) (hx : Flds w x r) (h1 : Below W.heap.size W W1) (ho : w3.ownsRow w.heap.size 30 1 v' (vs.length + 1) (vs ++ [x])) (hg : W1.grownBy w3 v.ownBlock) : AccR w w3 v' (vs ++ [x]) (rs ++ [r]) := by
  refine ⟨by rw [List.length_append]; exact ho, by simp [h.len], fun j y s hy hs => ?_, (h.below.trans (h1.mono h.below.size)).grown hg (Nat.le_trans h.below.size h1.size) (fun k e => (h.row.lt k e).1)⟩
  rcases snoc_at hy with ⟨q, hy⟩ | ⟨q, rfl⟩
  · rw [List.getElem?_append_left (by rw [← h.len]; exact q)] at hs
    exact h.each j y s hy hs
  · rw [q, h.len, List.getElem?_append_right (Nat.le_refl _)] at hs
    simp at hs
    subst hs; exact hx
theorem row73 {W w3 : World} {lo : Nat} {v x : Value} {n m : Nat} {xs ys : List Value} (hv : W.ownsRow lo 30 1 v n xs) (hx : W.ownsRow lo 45 2 x m ys) (hg : W.grownBy w3 v.ownBlock) : w3.ownsRow lo 45 2 x m ys := by
  refine row_same hx fun b hb => hg.block b (hx.lt b hb).2 (fun e => ?_)
  rcases hx.2 with ⟨rfl, _⟩ | ⟨g, cap, cur, rfl, _, hc, _⟩
  · cases hb
  · cases hb
    rcases hv.2 with ⟨rfl, _⟩ | ⟨g', cap', cur', rfl, _, hc', _⟩
    · cases e
    · have : g = g' := Option.some.inj e
      subst this
      rw [hc] at hc'
      injection hc' with hc'
      injection hc' with _ h2 _
      exact absurd h2 (by decide)
theorem AccP.snoc {w W w3 : World} {v v' x : Value} {vs : List Value} {rs : List (List Fld)} {r : List Fld} (h : AccP w W v vs rs) (hx : W.ownsRow w.heap.size 45 2 x r.length (cellsF r)) (ho : w3.ownsRow w.heap.size 30 1 v' (vs.length + 1) (vs ++ [x])) (hg : (W.alloc (.cells #[x] 30)).grownBy w3 v.ownBlock) : AccP w w3 v' (vs ++ [x]) (rs ++ [r]) := by
  have h' := h.kept ((Below.refl W.heap.size W).alloc (Nat.le_refl _) (.cells #[x] 30))
  have hx' := own_kept hx ((Below.refl W.heap.size W).alloc (Nat.le_refl _) (.cells #[x] 30)) (Nat.le_refl _)
  refine ⟨by rw [List.length_append]; exact ho, by simp [h.len], fun j y s hy hs => ?_, h'.below.grown hg h'.below.size (fun k e => (h.row.lt k e).1)⟩
  rcases snoc_at hy with ⟨q, hy⟩ | ⟨q, rfl⟩
  · rw [List.getElem?_append_left (by rw [← h.len]; exact q)] at hs
    exact row73 h'.row (h'.each j y s hy hs) hg
  · rw [q, h.len, List.getElem?_append_right (Nat.le_refl _)] at hs
    simp at hs
    subst hs; exact row73 h'.row hx' hg
end Go.Proofs.Ytiebbgbcojgeoaa

namespace Go.Proofs.Ytiebbgbcojgeoaa
open Go.RowKit Go.Shelf

/-- Fields from lo on may have turned. -/
structure Spoilt (lo : Nat) (w w' : World) : Prop where
  os : w'.os = w.os
  tape : w'.tape = w.tape
  output : w'.output = w.output
  size : w'.heap.size = w.heap.size
  same : ∀ (r : Nat) o, w.heap[r]? = some o → w'.heap[r]? = some o ∨ (lo ≤ r ∧ ∃ cur cur', o = .cells cur 45 (0, 0) ∧ w'.heap[r]? = some (.cells cur' 45 (0, 0)) ∧ cur'.size = cur.size)
theorem Spoilt.refl (lo : Nat) (w : World) : Spoilt lo w w := ⟨rfl, rfl, rfl, rfl, fun _ _ h => .inl h⟩
theorem Spoilt.trans {lo : Nat} {a b c : World} (h : Spoilt lo a b) (g : Spoilt lo b c) : Spoilt lo a c := by
  refine ⟨g.os.trans h.os, g.tape.trans h.tape, g.output.trans h.output, g.size.trans h.size, fun r o ho => ?_⟩
  rcases h.same r o ho with h1 | ⟨h1, cur, cur', rfl, h2, h3⟩
  · exact g.same r o h1
  · rcases g.same r _ h2 with g1 | ⟨_, c1, c2, g1, g2, g3⟩
    · exact .inr ⟨h1, cur, cur', rfl, g1, h3⟩
    · injection g1 with g1
      subst g1
      exact .inr ⟨h1, cur, c2, rfl, g2, g3.trans h3⟩
theorem Spoilt.set {lo g : Nat} {w : World} {cur : Array Value} (h : w.heap[g]? = some (.cells cur 45 (0, 0))) (hg : lo ≤ g) (i : Nat) (u : Value) : Spoilt lo w (w.setCell ⟨g, i, none⟩ u) := by
  refine ⟨rfl, rfl, rfl, by simp [World.setCell], fun r o ho => ?_⟩
  by_cases e : r = g
  · subst e
    rw [h] at ho
    cases ho
    exact .inr ⟨hg, cur, cur.setIfInBounds i u, rfl, Cells.set (t := 45) h i u, by simp⟩
  · exact .inl ((Below.heap_setCell _ _ _ _ e).trans ho)
theorem Spoilt.below {lo : Nat} {w w' : World} (h : Spoilt lo w w') (hl : lo ≤ w.heap.size) : Below lo w w' := by
  refine ⟨h.os, h.tape, h.output, Nat.le_of_eq h.size.symm, fun r hr => ?_⟩
  rcases h.same r _ (Array.getElem?_eq_getElem (by omega)) with e | ⟨e, _⟩
  · rw [e]; exact (Array.getElem?_eq_getElem (by omega)).symm
  · omega
end Go.Proofs.Ytiebbgbcojgeoaa

namespace Go.Proofs.Ytiebbgbcojgeoaa
open Go.RowKit Go.Shelf Go.Maps Go.ChangeShapes Go.Joins Go.WideShapes

end Go.Proofs.Ytiebbgbcojgeoaa

namespace Go.Proofs.Ytiebbgbcojgeoaa
open Go.RowKit Go.Shelf Go.Maps Go.ChangeShapes Go.Joins Go.WideShapes

theorem its_of_own {w : World} {base : Nat} {v : Value} {its : List It} {fvs : List Value} (h : w.ownsRow base 109 3 v its.length (itemsCells its fvs)) (hl : fvs.length = its.length) (he : ∀ (j : Nat) it x, its[j]? = some it → fvs[j]? = some x → Flds w x it.fields) : Its w v its := by
  rcases Joins.ownsRow_forms h with ⟨e, hn⟩ | ⟨g, cap, e⟩
  · have : its = [] := List.length_eq_zero_iff.1 hn
    rw [e, this]
    exact ⟨none, 0, rfl, Nat.le_refl _, fun i it hi => by simp at hi⟩
  · refine ⟨some ⟨g, 0, none⟩, cap, e, (by rcases h.2 with ⟨q, _⟩ | ⟨g', cap', cur, q, _, _, q2, _⟩; · rw [e] at q; cases q
                                           · rw [e] at q; cases q; exact q2), fun i it hi => ?_⟩
    have hlt : i < its.length := by
      rcases Nat.lt_or_ge i its.length with q | q
      · exact q
      · rw [List.getElem?_eq_none q] at hi; cases hi
    obtain ⟨fv, hfv⟩ : ∃ fv, fvs[i]? = some fv := ⟨_, List.getElem?_eq_getElem (by rw [hl]; exact hlt)⟩
    obtain ⟨a0, a1, a2⟩ := itemsCells_at _ _ i it fv hi hfv
    rw [e] at h
    refine ⟨g, 0, fv, rfl, (World.ownsRow.lt h g rfl).2, ?_, ?_, ?_, he i it fv hi hfv⟩
    · rw [Nat.zero_add, World.ownsRow.cellAt h (i * 3) (by omega)]; exact a0
    · rw [Nat.zero_add, World.ownsRow.cellAt h (i * 3 + 1) (by omega)]; exact a1
    · rw [Nat.zero_add, World.ownsRow.cellAt h (i * 3 + 1 + 1) (by omega)]; exact a2
/-- The copies so far. -/
structure AccM (w wr : World) (v : Value) (fvs : List Value) (its : List It) : Prop where
  row : wr.ownsRow w.heap.size 109 3 v its.length (itemsCells its fvs)
  len : fvs.length = its.length
  each : ∀ (j : Nat) it x, its[j]? = some it → fvs[j]? = some x → wr.ownsRow w.heap.size 45 2 x it.fields.length (cellsF it.fields)
  below : Below w.heap.size w wr
theorem AccM.its {w wr : World} {v : Value} {fvs : List Value} {its : List It} (h : AccM w wr v fvs its) : Its wr v its :=
  its_of_own h.row h.len fun j it x h1 h2 => flds_of_own (h.each j it x h1 h2)
theorem AccM.nil {w wr : World} {v : Value} {fvs : List Value} {its : List It} (h : AccM w wr v fvs its) : NilI wr v its := by
  intro i b off n cap m c e hlt hcell
  obtain ⟨it, hi⟩ : ∃ it, its[i]? = some it := ⟨_, List.getElem?_eq_getElem hlt⟩
  obtain ⟨fv, hfv⟩ : ∃ fv, fvs[i]? = some fv := ⟨_, List.getElem?_eq_getElem (by rw [h.len]; exact hlt)⟩
  obtain ⟨_, _, a2⟩ := itemsCells_at _ _ i it fv hi hfv
  have hr := h.row
  rcases Joins.ownsRow_forms hr with ⟨e', hn⟩ | ⟨g, cap', e'⟩
  · omega
  · rw [e'] at e hr
    cases e
    rw [Nat.zero_add, World.ownsRow.cellAt hr (i * 3 + 1 + 1) (by omega), a2] at hcell
    cases hcell
    rcases (h.each i it _ hi hfv).2 with ⟨q, _⟩ | ⟨g', cap', cur, q, _⟩
    · cases q; rfl
    · cases q
theorem AccM.kept {w wr w2 : World} {v : Value} {fvs : List Value} {its : List It} (h : AccM w wr v fvs its) (hb : Below wr.heap.size wr w2) : AccM w w2 v fvs its :=
  ⟨own_kept h.row hb (Nat.le_refl _), h.len, fun j it x h1 h2 => own_kept (h.each j it x h1 h2) hb (Nat.le_refl _), h.below.trans (hb.mono h.below.size)⟩
theorem row42 {W w3 : World} {lo : Nat} {v x : Value} {n m : Nat} {xs ys : List Value} (hv : W.ownsRow lo 109 3 v n xs) (hx : W.ownsRow lo 45 2 x m ys) (hg : W.grownBy w3 v.ownBlock) : w3.ownsRow lo 45 2 x m ys := by
  refine row_same hx fun b hb => hg.block b (hx.lt b hb).2 (fun e => ?_)
  rcases hx.2 with ⟨rfl, _⟩ | ⟨g, cap, cur, rfl, _, hc, _⟩
  · cases hb
  · cases hb
    rcases hv.2 with ⟨rfl, _⟩ | ⟨g', cap', cur', rfl, _, hc', _⟩
    · cases e
    · have : g = g' := Option.some.inj e
      subst this
      rw [hc] at hc'
      injection hc' with hc'
      injection hc' with _ h2 _
      exact absurd h2 (by decide)
theorem AccM.snoc {w W w3 : World} {v v' x : Value} {fvs : List Value} {its : List It} {it : It} (h : AccM w W v fvs its) (hx : W.ownsRow w.heap.size 45 2 x it.fields.length (cellsF it.fields)) (ho : w3.ownsRow w.heap.size 109 3 v' (its.length + 1) (itemsCells its fvs ++ [.int .i64 it.kind, .string (B it.raw), x])) (o : Obj) (hg : (W.alloc o).grownBy w3 v.ownBlock) : AccM w w3 v' (fvs ++ [x]) (its ++ [it]) := by
  have h' := h.kept ((Below.refl W.heap.size W).alloc (Nat.le_refl _) o)
  have hx' := own_kept hx ((Below.refl W.heap.size W).alloc (Nat.le_refl _) o) (Nat.le_refl _)
  refine ⟨by rw [List.length_append, itemsCells_snoc _ _ _ _ h.len]; exact ho, by simp [h.len], fun j y s hy hs => ?_, h'.below.grown hg h'.below.size (fun k e => (h.row.lt k e).1)⟩
  rcases snoc_at hy with ⟨q, hy⟩ | ⟨q, rfl⟩
  · rw [List.getElem?_append_left (by rw [h.len]; exact q)] at hs
    exact row42 h'.row (h'.each j y s hy hs) hg
  · rw [q, ← h.len, List.getElem?_append_right (Nat.le_refl _)] at hs
    simp at hs
    subst hs; exact row42 h'.row hx' hg
end Go.Proofs.Ytiebbgbcojgeoaa

