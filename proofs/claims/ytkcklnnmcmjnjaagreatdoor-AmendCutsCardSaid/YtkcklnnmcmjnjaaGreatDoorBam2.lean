/- Texts put together: PU, TA, FS, FL, OB. -/
import Derived.Test.YtkcklnnmcmjnjaaGreatDoorChecked
import Derived.WalkKit
import Derived.ProofKit
import Derived.OpenShut
import Derived.Below
import Derived.Lib.Hide
import Derived.Lib.Strings
import Derived.Deep.QuietTactic
import Derived.BigQuiet
import Derived.OwnWalk
import Derived.Laws.AppendOwn
import Derived.Laws.OwnMore
import Derived.Lib.SmallJoins
import Derived.Test.YtkcklnnmcmjnjaaGreatDoorProg
import Derived.Maps.Own
import Derived.Maps.OwnSet
import Derived.Maps.AppendAt
import Derived.Deep.Quiet
import Derived.Deep.WholeRow
import Derived.Test.YtkcklnnmcmjnjaaGreatDoorBam1
set_option linter.unusedVariables false
namespace Go.Proofs.YtkcklnnmcmjnjaaGreatDoor

/-- Texts as ended lines. -/
def num : Nat → Nat → List (List UInt8) → List Ln
  | _, _, [] => []
  | no, c, l :: r => ⟨no, c, l, true⟩ :: num (no + 1) (c + l.length + 1) r
theorem linesOn_num : ∀ (ts : List (List UInt8)) (no c : Nat), (∀ l ∈ ts, (10 : UInt8) ∉ l) → linesOn no c (textL ts) = num no c ts
  | [], no, c, _ => rfl
  | l :: r, no, c, h => by
    have e : textL (l :: r) = l ++ 10 :: textL r := by unfold textL; simp
    obtain ⟨h1, h2⟩ := head_of l (textL r) (h l List.mem_cons_self)
    have hu : used (l ++ 10 :: textL r) = l.length + 1 := by unfold used; rw [h1, h2]; rfl
    rw [e, linesOn_cons _ _ _ (by simp), h1, h2, hu]
    have hd : (l ++ 10 :: textL r).drop (l.length + 1) = textL r := by
      rw [show l ++ 10 :: textL r = (l ++ [10]) ++ textL r by simp]
      exact List.drop_left' (by simp)
    rw [hd, linesOn_num r _ _ (fun y hy => h y (List.mem_cons_of_mem _ hy))]
    rfl
theorem num_append : ∀ (a b : List (List UInt8)) (no c : Nat), num no c (a ++ b) = num no c a ++ num (no + a.length) (c + (textL a).length) b
  | [], b, no, c => rfl
  | l :: a, b, no, c => by
    have := num_append a b (no + 1) (c + l.length + 1)
    show _ :: num _ _ (a ++ b) = _ :: _ ++ _
    rw [this]
    have e : (textL (l :: a)).length = l.length + 1 + (textL a).length := by unfold textL; simp; omega
    rw [e, List.length_cons, show c + (l.length + 1 + (textL a).length) = c + l.length + 1 + (textL a).length by omega, show no + (a.length + 1) = no + 1 + a.length by omega]
    rfl
theorem run_cons {t : List UInt8} {p q : PS} {x : Ln} {xs : List Ln} (h : takeP t p x = .ok q) : runP t p (x :: xs) = runP t q xs := by
  show (match takeP t p x with | .error e => Except.error e | .ok q => runP t q xs) = _
  rw [h]
/-- Further lines go on with the field. -/
theorem run_more (t : List UInt8) : ∀ (r : List (List UInt8)) (p : PS) (no c : Nat), p.said ≠ [] → (∀ l ∈ r, kindL l = 3) → runP t p (num no c r) = .ok { p with said := p.said ++ r }
  | [], p, no, c, _, _ => by show Except.ok p = _; rw [List.append_nil]
  | l :: r, p, no, c, hs, hk => by
    have h3 := hk l List.mem_cons_self
    have hg : goesP p ⟨no, c, l, true⟩ = true := by
      unfold goesP; rw [h3]
      cases hq : p.said with
      | nil => exact absurd hq hs
      | cons a b => rfl
    have hw : wrongP p ⟨no, c, l, true⟩ = false := by unfold wrongP; rw [hg, h3]; rfl
    have he : endsP p ⟨no, c, l, true⟩ = false := by unfold endsP; rw [hw, hg]; rfl
    have ht : takeP t p ⟨no, c, l, true⟩ = .ok { p with said := p.said ++ [l] } := by
      rw [take_of (by rw [he]; intro h; cases h) hw]
      have e1 : thenP p ⟨no, c, l, true⟩ = { p with said := p.said ++ [l] } := by
        unfold thenP; rw [he, if_neg (by decide)]; unfold wentP; rw [hg, if_pos rfl]
      rw [e1]
      unfold putP
      rw [h3]; rfl
    show runP t p (⟨no, c, l, true⟩ :: num (no + 1) (c + l.length + 1) r) = _
    rw [run_cons ht, run_more t r _ _ _ (by simp) (fun y hy => hk y (List.mem_cons_of_mem _ hy))]
    simp
/-- A line that goes on with no field, ended. -/
theorem take_else {t : List UInt8} {p : PS} {no c : Nat} {l : List UInt8} (hk : kindL l ≠ 3) (h5 : kindL l ≠ 5) (h0 : endFieldN p = 0) : takeP t p ⟨no, c, l, true⟩ = .ok (putP t (endFieldP p) ⟨no, c, l, true⟩) := by
  have hg : goesP p ⟨no, c, l, true⟩ = false := goes_kind hk
  have hw : wrongP p ⟨no, c, l, true⟩ = false := by unfold wrongP; rw [hg]; simp [hk, h5]
  have he : endsP p ⟨no, c, l, true⟩ = true := by unfold endsP; rw [hg]; simp
  have hwent : wentP p ⟨no, c, l, true⟩ = p := by unfold wentP; rw [hg]; rfl
  rw [take_of (by rw [hwent]; exact fun _ => h0) hw]
  unfold thenP
  rw [he, if_pos rfl, hwent]
def linesFs (fs : List Fld) : List (List UInt8) := fs.flatMap fun f => linesL f.1 f.2
theorem lines_kinds {k v : List UInt8} (hk : goodKey k = true) : ∃ x r, linesL k v = x :: r ∧ kindL x = 4 ∧ ∀ l ∈ r, kindL l = 3 := by
  have h := lines_say (v := v) hk
  have e : linesL k v = firstL k ((partsL v).headD []) :: (partsL v).tail.map furtherL := rfl
  rw [e] at h ⊢
  refine ⟨_, _, rfl, ?_⟩
  unfold sayF at h
  simp only [Bool.and_eq_true, beq_iff_eq, List.all_eq_true] at h
  exact h
/-- Good fields, one behind the other. -/
theorem run_fields (t : List UInt8) : ∀ (fs : List Fld) (p : PS) (no c : Nat), endFieldN p = 0 → (∀ f ∈ fs, goodKey f.1 = true ∧ f.2.length ≤ 1000) → (endFieldP p).fields.length + fs.length ≤ 40 → (endFieldP p).stanzas ≤ 399 →
    ∃ q, runP t p (num no c (linesFs fs)) = .ok q ∧ endFieldN q = 0 ∧ (endFieldP q).fields = (endFieldP p).fields ++ fs ∧ (endFieldP q).items = (endFieldP p).items ∧ (endFieldP q).stanzas = (endFieldP p).stanzas ∧ (endFieldP q).at_ = (endFieldP p).at_
  | [], p, no, c, h0, _, _, _ => ⟨p, rfl, h0, by simp, rfl, rfl, rfl⟩
  | f :: fs, p, no, c, h0, hg, hn, hs => by
    obtain ⟨g1, g2⟩ := hg f List.mem_cons_self
    obtain ⟨x, r, e, kx, kr⟩ := lines_kinds (v := f.2) g1
    obtain ⟨u1, u2, u3⟩ := lines_unfold g1 g2
    have hl : linesFs (f :: fs) = (x :: r) ++ linesFs fs := by unfold linesFs; rw [List.flatMap_cons, e]
    have ht : takeP t p ⟨no, c, x, true⟩ = .ok { endFieldP p with begin_ := no, said := [x] } := by
      rw [take_else (by omega) (by omega) h0]
      unfold putP
      rw [if_pos kx]
    have hrun : runP t p (num no c (x :: r)) = .ok { endFieldP p with begin_ := no, said := x :: r } := by
      show runP t p (⟨no, c, x, true⟩ :: num _ _ r) = _
      rw [run_cons ht, run_more t r _ _ _ (by simp) kr]; rfl
    rw [hl, num_append, runP_append, hrun]
    dsimp only
    rw [List.length_cons] at hn
    have hN : endFieldN { endFieldP p with begin_ := no, said := x :: r } = 0 := by
      unfold endFieldN
      rw [if_neg (by simp)]
      show (if unfoldN (x :: r) ≠ 0 then _ else _) = 0
      rw [← e, u1, if_neg (by simp)]
      have : fullP { endFieldP p with begin_ := no, said := linesL f.1 f.2 } = false := by
        unfold fullP
        show (if (endFieldP p).fields.length = 0 then (endFieldP p).stanzas == 400 else (endFieldP p).fields.length == 40) = false
        split
        · simp; omega
        · simp; omega
      rw [this]; rfl
    have hP : endFieldP { endFieldP p with begin_ := no, said := x :: r } = { endFieldP p with begin_ := no, said := [], fields := (endFieldP p).fields ++ [f] } := by
      unfold endFieldP
      rw [if_neg (by simp)]
      show { endFieldP p with begin_ := no, said := [], fields := (endFieldP p).fields ++ [(unfoldK (x :: r), unfoldV (x :: r))] } = _
      rw [← e, u2, u3]; rfl
    obtain ⟨q, q1, q2, q3, q4, q5, q6⟩ := run_fields t fs { endFieldP p with begin_ := no, said := x :: r } (no + (x :: r).length) (c + (textL (x :: r)).length) hN (fun y hy => hg y (List.mem_cons_of_mem _ hy)) (by rw [hP]; simp; omega) (by rw [hP]; exact hs)
    refine ⟨q, q1, q2, ?_, ?_, ?_, ?_⟩
    · rw [q3, hP]; simp
    · rw [q4, hP]
    · rw [q5, hP]
    · rw [q6, hP]
end Go.Proofs.YtkcklnnmcmjnjaaGreatDoor

namespace Go.Proofs.YtkcklnnmcmjnjaaGreatDoor

/-- A parser of the same block, elsewhere. -/
def mv (b st a : Nat) (its : List It) (p : PS) : PS := ⟨b, p.said, its, st, a, p.fields⟩
def ml (no c : Nat) (x : Ln) : Ln := ⟨no, c, x.text, x.ended⟩
theorem mv_went (b st a : Nat) (its : List It) (p : PS) (no c : Nat) (x : Ln) : wentP (mv b st a its p) (ml no c x) = mv b st a its (wentP p x) := by
  unfold wentP
  rw [show goesP (mv b st a its p) (ml no c x) = goesP p x from rfl]
  split <;> rfl
theorem mv_endField (b st a : Nat) (its : List It) (p : PS) : endFieldP (mv b st a its p) = mv b st a its (endFieldP p) := by
  unfold endFieldP
  rw [show (mv b st a its p).said = p.said from rfl]
  split <;> rfl
theorem mv_endFieldN (b st a : Nat) (its : List It) (p : PS) (hst : st ≤ 399) (h : endFieldN p = 0) : endFieldN (mv b st a its p) = 0 := by
  unfold endFieldN at h ⊢
  rw [show (mv b st a its p).said = p.said from rfl]
  split
  · rfl
  · rename_i hs
    rw [if_neg hs] at h
    split
    · rename_i hu; rw [if_pos hu] at h; exact absurd h hu
    · rename_i hu
      rw [if_neg hu] at h
      have hf : fullP p = false := by
        cases hf : fullP p with
        | false => rfl
        | true => rw [hf] at h; simp at h
      have : fullP (mv b st a its p) = false := by
        unfold fullP at hf ⊢
        rw [show (mv b st a its p).fields = p.fields from rfl, show (mv b st a its p).stanzas = st from rfl]
        split
        · have : st ≠ 400 := by omega
          simpa using this
        · rename_i hz
          rw [if_neg hz] at hf
          exact hf
      rw [this]; rfl
theorem mv_then (b st a : Nat) (its : List It) (p : PS) (no c : Nat) (x : Ln) : thenP (mv b st a its p) (ml no c x) = mv b st a its (thenP p x) := by
  unfold thenP
  rw [show endsP (mv b st a its p) (ml no c x) = endsP p x from rfl, mv_went, mv_endField]
  split <;> rfl
theorem mv_put (t t' : List UInt8) (b st a : Nat) (its : List It) (p : PS) (no c : Nat) (x : Ln) (hk : kindL x.text ≠ 1) : ∃ b', putP t' (mv b st a its p) (ml no c x) = mv b' st a its (putP t p x) := by
  unfold putP
  rw [show (ml no c x).text = x.text from rfl, if_neg hk, if_neg hk]
  split
  · exact ⟨no, rfl⟩
  · exact ⟨b, rfl⟩
/-- A line that isn't empty does the same elsewhere. -/
theorem mv_take {t t' : List UInt8} {b st a : Nat} {its : List It} {p q : PS} {no c : Nat} {x : Ln} (hst : st ≤ 399) (hk : kindL x.text ≠ 1) (h : takeP t p x = .ok q) : ∃ b', takeP t' (mv b st a its p) (ml no c x) = .ok (mv b' st a its q) := by
  obtain ⟨h1, h2, rfl⟩ := take_parts h
  obtain ⟨b', hb⟩ := mv_put t t' b st a its (thenP p x) no c x hk
  refine ⟨b', ?_⟩
  have hT := take_of (t := t') (p := mv b st a its p) (x := ml no c x) (by rw [show endsP (mv b st a its p) (ml no c x) = endsP p x from rfl, mv_went]; exact fun he => mv_endFieldN _ _ _ _ _ hst (h1 he)) h2
  rw [hT, mv_then, hb]
/-- Such a line turns nothing but the block. -/
theorem take_keeps {t : List UInt8} {p q : PS} {x : Ln} (hk : kindL x.text ≠ 1) (h : takeP t p x = .ok q) : q.items = p.items ∧ q.stanzas = p.stanzas ∧ q.at_ = p.at_ := by
  obtain ⟨_, _, rfl⟩ := take_parts h
  have e : (thenP p x).items = p.items ∧ (thenP p x).stanzas = p.stanzas ∧ (thenP p x).at_ = p.at_ := by
    unfold thenP endFieldP wentP
    split <;> split <;> (try split) <;> exact ⟨rfl, rfl, rfl⟩
  unfold putP
  rw [if_neg hk]
  split <;> exact e

/-- What a block's lines do, wherever they stand. -/
def Does (ts said : List (List UInt8)) (fields : List Fld) : Prop :=
  ∀ (t : List UInt8) (b st a no c : Nat) (its : List It), st ≤ 399 → ∃ b', runP t ⟨b, [], its, st, a, []⟩ (num no c ts) = .ok ⟨b', said, its, st, a, fields⟩
theorem Does.nil : Does [] [] [] := fun t b st a no c its _ => ⟨b, rfl⟩
theorem Does.snoc {ts : List (List UInt8)} {t : List UInt8} {p q : PS} {x : Ln} (h : Does ts p.said p.fields) (hk : kindL x.text ≠ 1) (hx : x.ended = true) (ht : takeP t p x = .ok q) : Does (ts ++ [x.text]) q.said q.fields := by
  intro t' b st a no c its hst
  obtain ⟨b1, h1⟩ := h t' b st a no c its hst
  obtain ⟨b2, h2⟩ := mv_take (t' := t') (b := b1) (st := st) (a := a) (its := its) (no := no + ts.length) (c := c + (textL ts).length) hst hk ht
  refine ⟨b2, ?_⟩
  rw [num_append, runP_append, h1]
  dsimp only
  have e : num (no + ts.length) (c + (textL ts).length) [x.text] = ml (no + ts.length) (c + (textL ts).length) x :: [] := by
    show [(⟨_, _, x.text, true⟩ : Ln)] = [⟨_, _, x.text, x.ended⟩]
    rw [hx]
  rw [e, run_cons (by exact h2)]
  rfl
/-- A block that stands alone. -/
structure Blk (it : It) : Prop where
  kind : it.kind = if it.fields = [] then 2 else 3
  pos : it.raw ≠ []
  does : ∃ ts said fields, it.raw = textL ts ∧ (∀ l ∈ ts, (10 : UInt8) ∉ l) ∧ Does ts said fields ∧ endFieldN ⟨0, said, [], 0, 0, fields⟩ = 0 ∧ (endFieldP ⟨0, said, [], 0, 0, fields⟩).fields = it.fields
theorem Blk.kind1 {it : It} (h : Blk it) : it.kind ≠ 1 := by
  rw [h.kind]; split <;> decide
/-- Items of which no two that aren't blank stand side by side; b: what stands ahead isn't blank. -/
def apartOn : Bool → List It → List It
  | _, [] => []
  | b, x :: r => (if b = true ∧ x.kind ≠ 1 then [⟨1, [10], []⟩] else []) ++ x :: apartOn (x.kind != 1) r
def apartL (its : List It) : List It := apartOn false its
def lastF : Bool → List It → Bool
  | b, [] => b
  | _, x :: r => lastF (x.kind != 1) r
theorem lastF_append : ∀ (b : Bool) (l r : List It), lastF b (l ++ r) = lastF (lastF b l) r
  | b, [], r => rfl
  | b, x :: l, r => lastF_append _ l r
/-- No two that aren't blank stand side by side. -/
def Alt : Bool → List It → Prop
  | _, [] => True
  | b, x :: r => (b = true → x.kind = 1) ∧ Alt (x.kind != 1) r
theorem Alt.apart : ∀ (b : Bool) (l : List It), Alt b l → apartOn b l = l
  | b, [], _ => rfl
  | b, x :: r, ⟨h1, h2⟩ => by
    show (if b = true ∧ x.kind ≠ 1 then _ else []) ++ x :: apartOn _ r = _
    rw [if_neg (fun h => h.2 (h1 h.1)), Alt.apart _ r h2]; rfl
theorem Alt.append : ∀ (b : Bool) (l r : List It), Alt b l → Alt (lastF b l) r → Alt b (l ++ r)
  | b, [], r, _, h => h
  | b, x :: l, r, ⟨h1, h2⟩, h => ⟨h1, Alt.append _ l r h2 h⟩

/-- What a run has made, up to a place. -/
structure Mid (t : List UInt8) (p : PS) (c : Nat) : Prop where
  at_ : p.at_ ≤ c
  blks : ∀ it ∈ p.items, it.kind ≠ 1 → Blk it
  alt : Alt false p.items ∧ lastF false p.items = false
  cur : ∃ ts, (t.take c).drop p.at_ = textL ts ∧ (∀ l ∈ ts, (10 : UInt8) ∉ l) ∧ Does ts p.said p.fields ∧ (p.at_ = c → p.fields = [])
theorem Mid.new (t : List UInt8) : Mid t PS.new 0 :=
  ⟨Nat.le_refl _, (fun it h => by cases h), ⟨trivial, rfl⟩, [], by simp [PS.new, textL], (fun l h => by cases h), Does.nil, fun _ => rfl⟩
/-- The block that ends at a place. -/
theorem Mid.endBlock {t : List UInt8} {p : PS} {c : Nat} (h : Mid t p c) (h0 : endFieldN p = 0) (hct : c ≤ t.length) :
    ∃ l, (endBlockP t (endFieldP p) c).items = p.items ++ l ∧ (∀ it ∈ l, Blk it) ∧ l.length ≤ 1 := by
  have hat := h.at_
  obtain ⟨ts, h1, h2, h3, _⟩ := h.cur
  have e : endFieldN ⟨0, p.said, [], 0, 0, p.fields⟩ = 0 := mv_endFieldN 0 0 0 [] p (by decide) h0
  have e2 : (endFieldP ⟨0, p.said, [], 0, 0, p.fields⟩).fields = (endFieldP p).fields := by
    have := mv_endField 0 0 0 [] p
    rw [show (⟨0, p.said, [], 0, 0, p.fields⟩ : PS) = mv 0 0 0 [] p from rfl, this]; rfl
  have hne : p.at_ ≠ c → (t.take c).drop p.at_ ≠ [] := by
    intro hh e
    have := congrArg List.length e
    simp only [List.length_drop, List.length_take, List.length_nil] at this
    omega
  unfold endBlockP
  rw [endField_at]
  split
  · exact ⟨[], by rw [endField_items]; simp, (fun it h => by cases h), by simp⟩
  · rename_i hac
    split
    · rename_i hz
      refine ⟨[⟨2, (t.take c).drop p.at_, (endFieldP p).fields⟩], ?_, ?_, by simp⟩
      · show (endFieldP p).items ++ [_] = _
        rw [endField_items, endField_at]; rfl
      · intro it hi
        rw [List.mem_singleton.1 hi]
        exact ⟨by rw [if_pos (List.length_eq_zero_iff.1 hz)], hne hac, ts, p.said, p.fields, h1, h2, h3, e, e2⟩
    · rename_i hz
      refine ⟨[⟨3, (t.take c).drop p.at_, (endFieldP p).fields⟩], ?_, ?_, by simp⟩
      · show (endFieldP p).items ++ [_] = _
        rw [endField_items, endField_at]; rfl
      · intro it hi
        rw [List.mem_singleton.1 hi]
        exact ⟨by rw [if_neg (fun h => hz (List.length_eq_zero_iff.2 h))], hne hac, ts, p.said, p.fields, h1, h2, h3, e, e2⟩
theorem alt_blk {l : List It} (h : ∀ it ∈ l, Blk it) (hl : l.length ≤ 1) : Alt false l := by
  match l, hl with
  | [], _ => trivial
  | [x], _ => exact ⟨fun h => (by cases h), trivial⟩
theorem Mid.take {t : List UInt8} {p q : PS} {x : Ln} (h : Mid t p x.at_) (hen : x.ended = true) (hcl : (10 : UInt8) ∉ x.text) (hrest : ∃ r, t.drop x.at_ = x.bytes ++ r) (hct : x.at_ ≤ t.length) (he : takeP t p x = .ok q) : Mid t q (x.at_ + x.bytes.length) := by
  have hat := h.at_
  obtain ⟨r, hr⟩ := hrest
  have hb : x.bytes = x.text ++ [10] := by unfold Ln.bytes; rw [hen]; simp
  have htk : t.take (x.at_ + x.bytes.length) = t.take x.at_ ++ x.bytes := by
    rw [List.take_add, hr]; simp
  by_cases hk : kindL x.text = 1
  · obtain ⟨g1, _, rfl⟩ := take_parts he
    have hg : goesP p x = false := goes_kind (by omega)
    have hw : wentP p x = p := by unfold wentP; rw [hg]; rfl
    have hE : endsP p x = true := by unfold endsP; rw [hg]; simp
    rw [hw] at g1
    have hth : thenP p x = endFieldP p := by unfold thenP; rw [hE, hw]; rfl
    obtain ⟨l, l1, l2, l3⟩ := h.endBlock (g1 hE) hct
    have ha : (endBlockP t (endFieldP p) x.at_).at_ = x.at_ := endBlock_at t _ _ (by rw [endField_at]; exact hat)
    have hlast : x.at_ + x.bytes.length = x.at_ + x.text.length + 1 := by rw [hb]; simp; omega
    unfold putP
    rw [if_neg (by omega), if_pos hk, hth]
    refine ⟨by show x.at_ + x.text.length + 1 ≤ _; omega, ?_, ?_, [], ?_, (fun l h => by cases h), ?_, fun _ => rfl⟩
    · intro it hi hk1
      rcases List.mem_append.1 (show it ∈ (endBlockP t (endFieldP p) x.at_).items ++ [_] from hi) with hi | hi
      · rw [l1] at hi
        rcases List.mem_append.1 hi with hi | hi
        · exact h.blks it hi hk1
        · exact l2 it hi
      · rw [List.mem_singleton.1 hi] at hk1; exact absurd rfl hk1
    · show Alt false ((endBlockP t (endFieldP p) x.at_).items ++ [_]) ∧ lastF false ((endBlockP t (endFieldP p) x.at_).items ++ [_]) = false
      rw [l1]
      refine ⟨Alt.append _ _ _ (Alt.append _ _ _ h.alt.1 ?_) ?_, ?_⟩
      · rw [h.alt.2]; exact alt_blk l2 l3
      · exact ⟨fun _ => rfl, trivial⟩
      · rw [lastF_append]; rfl
    · show (t.take (x.at_ + x.bytes.length)).drop (x.at_ + x.text.length + 1) = _
      rw [← hlast, List.drop_of_length_le (by rw [List.length_take]; omega)]; rfl
    · show Does [] (endBlockP t (endFieldP p) x.at_).said []
      rw [endBlock_said, endField_said]; exact Does.nil
  · obtain ⟨k1, k2, k3⟩ := take_keeps hk he
    obtain ⟨ts, h1, h2, h3, _⟩ := h.cur
    refine ⟨by rw [k3]; omega, by rw [k1]; exact h.blks, by rw [k1]; exact h.alt, ts ++ [x.text], ?_, ?_, h3.snoc hk hen he, ?_⟩
    · rw [k3, htk, List.drop_append_of_le_length (by rw [List.length_take]; omega), h1, textL_append, hb]
      unfold textL; simp
    · intro l hl
      rcases List.mem_append.1 hl with hl | hl
      · exact h2 l hl
      · rw [List.mem_singleton.1 hl]; exact hcl
    · intro hh
      rw [k3, hb] at hh
      simp at hh; omega
theorem Mid.run (t : List UInt8) : ∀ (xs : List Ln) (no c : Nat) (p q : PS), Runs no c xs → no ≤ c → Inv p c → Mid t p c → t.drop c = xs.flatMap Ln.bytes → c ≤ t.length → (∀ x ∈ xs, (10 : UInt8) ∉ x.text) → runP t p xs = .ok q → Mid t q t.length
  | [], no, c, p, q, _, _, _, hm, hr, hct, _, he => by
    cases he
    have : c = t.length := by
      have := congrArg List.length hr
      simp at this; omega
    rw [← this]; exact hm
  | x :: xs, no, c, p, q, hrun, hn, hi, hm, hr, hct, hcl, he => by
    obtain ⟨r1, r2, r3, r4⟩ := hrun
    unfold runP at he
    cases ht : takeP t p x with
    | error e => rw [ht] at he; cases he
    | ok p1 =>
      rw [ht] at he
      dsimp only at he
      rw [List.flatMap_cons] at hr
      rw [← r2] at hi hm hr hct
      obtain ⟨i1, e1⟩ := Inv.take hi (by omega) ht
      have m1 := hm.take e1 (hcl x List.mem_cons_self) ⟨_, hr⟩ hct ht
      have hr2 : t.drop (x.at_ + x.bytes.length) = xs.flatMap Ln.bytes := by
        rw [← List.drop_drop, hr]; simp
      have hct2 : x.at_ + x.bytes.length ≤ t.length := by
        have := congrArg List.length hr
        simp only [List.length_drop, List.length_append] at this
        omega
      rw [r2] at i1 m1 hr2 hct2
      exact Mid.run t xs (no + 1) (c + x.bytes.length) p1 q r4 (by omega) i1 m1 hr2 hct2 (fun y hy => hcl y (List.mem_cons_of_mem _ hy)) he
theorem linesOn_text : ∀ (ts : List (List UInt8)) (no c : Nat) (l : List UInt8), (∀ x ∈ ts, (10 : UInt8) ∉ x) → linesOn no c (textL ts ++ l) = num no c ts ++ linesOn (no + ts.length) (c + (textL ts).length) l
  | [], no, c, l, _ => rfl
  | x :: r, no, c, l, h => by
    have e : textL (x :: r) ++ l = x ++ 10 :: (textL r ++ l) := by unfold textL; simp
    have e3 : (textL (x :: r)).length = x.length + 1 + (textL r).length := by unfold textL; simp; omega
    obtain ⟨h1, h2⟩ := head_of x (textL r ++ l) (h x List.mem_cons_self)
    have hu : used (x ++ 10 :: (textL r ++ l)) = x.length + 1 := by unfold used; rw [h1, h2]; rfl
    rw [e, linesOn_cons _ _ _ (by simp), h1, h2, hu]
    have hd : (x ++ 10 :: (textL r ++ l)).drop (x.length + 1) = textL r ++ l := by
      rw [show x ++ 10 :: (textL r ++ l) = (x ++ [10]) ++ (textL r ++ l) by simp]
      exact List.drop_left' (by simp)
    rw [hd, linesOn_text r _ _ l (fun y hy => h y (List.mem_cons_of_mem _ hy)), e3, List.length_cons]
    rw [show no + 1 + r.length = no + (r.length + 1) by omega, show c + (x.length + 1) + (textL r).length = c + (x.length + 1 + (textL r).length) by omega]
    rfl
def finP (t : List UInt8) (r : Res PS) : Res (List It) := match r with | .error e => .error e | .ok q => lastP t q
theorem parse_fin (t : List UInt8) : parseL t = finP t (runP t PS.new (linesOf t)) := rfl
theorem fin_append (t : List UInt8) (p q : PS) (a b : List Ln) (h : runP t p a = .ok q) : finP t (runP t p (a ++ b)) = finP t (runP t q b) := by
  rw [runP_append, h]
/-- The block that ends, when its field has ended: what it is. -/
theorem Blk.ends {it : It} {said : List (List UInt8)} {fields : List Fld} (hk : it.kind = if it.fields = [] then 2 else 3) (h0 : endFieldN ⟨0, said, [], 0, 0, fields⟩ = 0) (hf : (endFieldP ⟨0, said, [], 0, 0, fields⟩).fields = it.fields)
    (t : List UInt8) (b st a e : Nat) (its : List It) (hst : st ≤ 399) (hr : (t.take e).drop a = it.raw) (hae : a < e) :
    endFieldN ⟨b, said, its, st, a, fields⟩ = 0 ∧ (endBlockP t (endFieldP ⟨b, said, its, st, a, fields⟩) e).items = its ++ [it] ∧ (endBlockP t (endFieldP ⟨b, said, its, st, a, fields⟩) e).stanzas ≤ st + 1 ∧ (endBlockP t (endFieldP ⟨b, said, its, st, a, fields⟩) e).said = [] ∧ (endBlockP t (endFieldP ⟨b, said, its, st, a, fields⟩) e).fields = [] ∧ (endBlockP t (endFieldP ⟨b, said, its, st, a, fields⟩) e).at_ = e := by
  have e0 := mv_endFieldN b st a its ⟨0, said, [], 0, 0, fields⟩ hst h0
  have e1 := mv_endField b st a its ⟨0, said, [], 0, 0, fields⟩
  refine ⟨e0, ?_⟩
  rw [show (⟨b, said, its, st, a, fields⟩ : PS) = mv b st a its ⟨0, said, [], 0, 0, fields⟩ from rfl, e1]
  have es := endField_said ⟨0, said, [], 0, 0, fields⟩
  generalize endFieldP ⟨0, said, [], 0, 0, fields⟩ = p at *
  unfold endBlockP
  rw [show (mv b st a its p).at_ = a from rfl, show (mv b st a its p).fields = p.fields from rfl, hf, if_neg (by omega)]
  split
  · rename_i hz
    rw [if_pos (List.length_eq_zero_iff.1 hz)] at hk
    refine ⟨?_, by show st ≤ st + 1; omega, es, rfl, rfl⟩
    show its ++ [⟨(2 : Nat), (t.take e).drop a, p.fields⟩] = _
    rw [hr, hf]
    obtain ⟨k, r, f⟩ := it
    simp only at hk ⊢
    rw [hk]; rfl
  · rename_i hz
    rw [if_neg (fun h => hz (by rw [h]; rfl))] at hk
    refine ⟨?_, by show st + 1 ≤ st + 1; omega, es, rfl, rfl⟩
    show its ++ [⟨(3 : Nat), (t.take e).drop a, p.fields⟩] = _
    rw [hr, hf]
    obtain ⟨k, r, f⟩ := it
    simp only at hk ⊢
    rw [hk]; rfl
/-- Blocks, put apart, are parsed to what they are. -/
theorem fin_blks (t : List UInt8) : ∀ (bs : List It) (x : It) (b st no c : Nat) (its : List It), st + (x :: bs).length ≤ 400 → (∀ it ∈ x :: bs, Blk it) → t.drop c = (apartL (x :: bs)).flatMap It.raw → c ≤ t.length →
    finP t (runP t ⟨b, [], its, st, c, []⟩ (linesOn no c (t.drop c))) = .ok (its ++ apartL (x :: bs))
  | [], x, b, st, no, c, its, hst, hb, ht, hct => by
    have bx := hb x List.mem_cons_self
    have hp := bx.pos
    have hk := bx.kind
    obtain ⟨ts, said, fields, d1, d2, d3, d4, d5⟩ := bx.does
    have ht' : t.drop c = x.raw := by rw [ht]; simp [apartL, apartOn]
    have hlen : c + x.raw.length = t.length := by have := congrArg List.length ht'; simp at this; omega
    have hpos : 0 < x.raw.length := List.length_pos_iff.2 hp
    obtain ⟨b', hr⟩ := d3 t b st c no c its (by simp at hst; omega)
    rw [ht', d1, ← List.append_nil (textL ts), linesOn_text ts no c [] d2, fin_append _ _ _ _ _ hr, linesOn_nil]
    obtain ⟨k1, k2, _⟩ := Blk.ends hk d4 d5 t b' st c t.length its (by simp at hst; omega) (by rw [List.take_length, ht']) (by omega)
    show lastP t _ = _
    unfold lastP
    rw [k1, if_neg (by simp), k2]
    simp [apartL, apartOn]
  | y :: bs, x, b, st, no, c, its, hst, hb, ht, hct => by
    have bx := hb x List.mem_cons_self
    have by_ := hb y (List.mem_cons_of_mem _ List.mem_cons_self)
    have hp := bx.pos
    have hk := bx.kind
    obtain ⟨ts, said, fields, d1, d2, d3, d4, d5⟩ := bx.does
    have hpos : 0 < x.raw.length := List.length_pos_iff.2 hp
    have hap : apartL (x :: y :: bs) = x :: ⟨1, [10], []⟩ :: apartL (y :: bs) := by
      have hx1 : (x.kind != 1) = true := by have := bx.kind1; simpa using this
      show ([] : List It) ++ x :: ((if (x.kind != 1) = true ∧ y.kind ≠ 1 then [(⟨1, [10], []⟩ : It)] else []) ++ y :: apartOn (y.kind != 1) bs) = _
      rw [if_pos ⟨hx1, by_.kind1⟩]
      simp [apartL, apartOn]
    rw [hap] at ht ⊢
    have ht' : t.drop c = x.raw ++ (10 :: (apartL (y :: bs)).flatMap It.raw) := by rw [ht]; simp
    generalize hR : (apartL (y :: bs)).flatMap It.raw = R at *
    have hlen : c + x.raw.length + 1 + R.length = t.length := by have := congrArg List.length ht'; simp at this; omega
    simp only [List.length_cons] at hst
    obtain ⟨b', hr⟩ := d3 t b st c no c its (by omega)
    have hde : t.drop (c + x.raw.length + 1) = R := by
      rw [Nat.add_assoc, ← List.drop_drop, ht', show x.raw ++ 10 :: R = (x.raw ++ [10]) ++ R by simp]
      exact List.drop_left' (by simp)
    have htk : (t.take (c + x.raw.length)).drop c = x.raw := by
      rw [List.take_add, ht', List.drop_append_of_le_length (by rw [List.length_take]; omega), List.drop_of_length_le (by rw [List.length_take]; omega)]; simp
    have htb : (t.take (c + x.raw.length + 1)).drop (c + x.raw.length) = [10] := by
      rw [List.take_add, List.drop_append_of_le_length (by rw [List.length_take]; omega), List.drop_of_length_le (by rw [List.length_take]; omega), ← List.drop_drop, ht']
      simp
    have e10 : (10 :: R) = textL [[]] ++ R := rfl
    rw [ht', e10]
    conv => lhs; rw [d1]
    rw [linesOn_text ts no c _ d2, fin_append _ _ _ _ _ hr, linesOn_text [[]] _ _ _ (by intro z hz; rw [List.mem_singleton.1 hz]; simp), ← d1]
    have k1 : kindL [] = 1 := by decide
    obtain ⟨z1, z2, z3, z4, z5, z6⟩ := Blk.ends hk d4 d5 t b' st c (c + x.raw.length) its (by omega) htk (by omega)
    have tk := take_else (t := t) (p := ⟨b', said, its, st, c, fields⟩) (no := no + ts.length) (c := c + x.raw.length) (l := []) (by rw [k1]; decide) (by rw [k1]; decide) z1
    have hput : putP t (endFieldP ⟨b', said, its, st, c, fields⟩) ⟨no + ts.length, c + x.raw.length, [], true⟩ = endItemP t (endBlockP t (endFieldP ⟨b', said, its, st, c, fields⟩) (c + x.raw.length)) 1 (c + x.raw.length + 1) := by
      unfold putP
      rw [if_neg (by show ¬ kindL [] = 4; rw [k1]; decide), if_pos k1]; rfl
    rw [hput] at tk
    generalize endBlockP t (endFieldP ⟨b', said, its, st, c, fields⟩) (c + x.raw.length) = p at *
    have hp2 : endItemP t p 1 (c + x.raw.length + 1) = ⟨p.begin_, [], its ++ [x] ++ [⟨1, [10], []⟩], p.stanzas, c + x.raw.length + 1, []⟩ := by
      unfold endItemP
      rw [z2, z4, z5, z6, htb]; rfl
    rw [hp2] at tk
    have hrun : runP t ⟨b', said, its, st, c, fields⟩ (num (no + ts.length) (c + x.raw.length) [[]]) = .ok ⟨p.begin_, [], its ++ [x] ++ [⟨1, [10], []⟩], p.stanzas, c + x.raw.length + 1, []⟩ := by
      show runP t _ (⟨no + ts.length, c + x.raw.length, [], true⟩ :: []) = _
      rw [run_cons tk]; rfl
    rw [fin_append _ _ _ _ _ hrun]
    have ih := fin_blks t bs y p.begin_ p.stanzas (no + ts.length + 1) (c + x.raw.length + 1) (its ++ [x] ++ [⟨1, [10], []⟩]) (by simp only [List.length_cons]; omega) (fun it hi => hb it (List.mem_cons_of_mem _ hi)) (by rw [hde, hR]) (by omega)
    rw [hde] at ih
    show finP t (runP t _ (linesOn (no + ts.length + 1) (c + x.raw.length + 1) R)) = _
    rw [ih]; simp
theorem parse_between (bs : List It) (hn : bs.length ≤ 400) (hb : ∀ it ∈ bs, Blk it) : parseL ((apartL bs).flatMap It.raw) = .ok (apartL bs) := by
  cases bs with
  | nil => rfl
  | cons x bs =>
    rw [parse_fin]
    have := fin_blks ((apartL (x :: bs)).flatMap It.raw) bs x 0 0 0 0 [] (by rw [Nat.zero_add]; exact hn) hb rfl (Nat.zero_le _)
    exact this
/-- The text of a stanza's good fields is a block that stands alone. -/
theorem blk_fields (fs : List Fld) (hg : ∀ f ∈ fs, goodKey f.1 = true ∧ f.2.length ≤ 1000) (h0 : fs ≠ []) (hl : fs.length ≤ 40) : Blk ⟨3, textL (linesFs fs), fs⟩ := by
  have hclean : ∀ l ∈ linesFs fs, (10 : UInt8) ∉ l := by
    intro l hl
    unfold linesFs at hl
    obtain ⟨f, hf1, hf2⟩ := List.mem_flatMap.1 hl
    exact linesL_clean _ (hg f hf1).1 l hf2
  have hne : textL (linesFs fs) ≠ [] := by
    cases fs with
    | nil => exact absurd rfl h0
    | cons f r =>
      obtain ⟨x, r', e, _⟩ := lines_kinds (v := f.2) (hg f List.mem_cons_self).1
      unfold linesFs
      rw [List.flatMap_cons, e]
      unfold textL; simp
  -- the run at one place gives what is said and the fields
  obtain ⟨q, q1, q2, q3, q4, q5, q6⟩ := run_fields [] fs PS.new 0 0 rfl hg (by show 0 + fs.length ≤ 40; omega) (by decide)
  have hany : ∀ (t : List UInt8) (b st a no c : Nat) (its : List It), st ≤ 399 → ∃ b', runP t ⟨b, [], its, st, a, []⟩ (num no c (linesFs fs)) = .ok ⟨b', q.said, its, st, a, q.fields⟩ := by
    have key : ∀ (ts : List (List UInt8)) (p q : PS) (n0 c0 : Nat), (∀ l ∈ ts, kindL l ≠ 1) → runP [] p (num n0 c0 ts) = .ok q → ∀ (t : List UInt8) (b st a no c : Nat) (its : List It), st ≤ 399 → ∃ b', runP t (mv b st a its p) (num no c ts) = .ok (mv b' st a its q) := by
      intro ts
      induction ts with
      | nil => intro p q n0 c0 _ h t b st a no c its _; cases h; exact ⟨b, rfl⟩
      | cons l r ih =>
        intro p q n0 c0 hk h t b st a no c its hst
        have h' : (match takeP [] p ⟨n0, c0, l, true⟩ with | .error e => Except.error e | .ok q' => runP [] q' (num (n0 + 1) (c0 + l.length + 1) r)) = .ok q := h
        cases ht : takeP [] p ⟨n0, c0, l, true⟩ with
        | error e => rw [ht] at h'; cases h'
        | ok p1 =>
          rw [ht] at h'
          obtain ⟨b1, hb1⟩ := mv_take (t' := t) (b := b) (st := st) (a := a) (its := its) (no := no) (c := c) hst (by exact hk l List.mem_cons_self) ht
          obtain ⟨b2, hb2⟩ := ih p1 q _ _ (fun y hy => hk y (List.mem_cons_of_mem _ hy)) h' t b1 st a (no + 1) (c + l.length + 1) its hst
          refine ⟨b2, ?_⟩
          show runP t _ (⟨no, c, l, true⟩ :: num (no + 1) (c + l.length + 1) r) = _
          rw [run_cons (by exact hb1)]
          exact hb2
    have hkinds : ∀ l ∈ linesFs fs, kindL l ≠ 1 := by
      intro l hl
      unfold linesFs at hl
      obtain ⟨f, hf1, hf2⟩ := List.mem_flatMap.1 hl
      obtain ⟨x, r, e, kx, kr⟩ := lines_kinds (v := f.2) (hg f hf1).1
      rw [e] at hf2
      rcases List.mem_cons.1 hf2 with rfl | h
      · rw [kx]; decide
      · rw [kr l h]; decide
    intro t b st a no c its hst
    exact key (linesFs fs) PS.new q 0 0 hkinds q1 t b st a no c its hst
  refine ⟨by rw [if_neg h0], hne, linesFs fs, q.said, q.fields, rfl, hclean, hany, mv_endFieldN 0 0 0 [] q (by decide) q2, ?_⟩
  have := mv_endField 0 0 0 [] q
  rw [show (⟨0, q.said, [], 0, 0, q.fields⟩ : PS) = mv 0 0 0 [] q from rfl, this]
  show (endFieldP q).fields = fs
  rw [q3]; rfl
end Go.Proofs.YtkcklnnmcmjnjaaGreatDoor

namespace Go.Proofs.YtkcklnnmcmjnjaaGreatDoor
open Go.RowKit Go.WideShapes Go.ChangeAt Go.ChangeShapes

theorem drewN_below {B : Nat} {a w : World} (h : Below B a w) (n : Nat) : Below B a (w.drewN n) := ⟨h.os, h.tape, h.output, h.size, h.block⟩
def Strs (w : World) (v : Value) (ss : List ByteArray) : Prop :=
  ∃ A cap, v = .slice A ss.length cap ∧ ss.length ≤ cap ∧ ∀ (i : Nat) (s : ByteArray), ss[i]? = some s → ∃ b off, A = some ⟨b, off, none⟩ ∧ b < w.heap.size ∧ w.cell? ⟨b, off + i, none⟩ = some (.string s)
theorem Strs.below {w w' : World} {v : Value} {ss : List ByteArray} {n : Nat} (h : Strs w v ss) (hb : Below n w w') (hn : w.heap.size ≤ n) : Strs w' v ss := by
  obtain ⟨A, cap, hv, hle, hc⟩ := h
  refine ⟨A, cap, hv, hle, fun i s hs => ?_⟩
  obtain ⟨b, off, hA, hlt, hcell⟩ := hc i s hs
  exact ⟨b, off, hA, Nat.lt_of_lt_of_le hlt hb.size, (hb.cell (p := ⟨b, off + i, none⟩) (Nat.lt_of_lt_of_le hlt hn)).trans hcell⟩
theorem Strs.alloc {w : World} {v : Value} {ss : List ByteArray} (h : Strs w v ss) (o : Obj) : Strs (w.alloc o) v ss :=
  h.below ((Below.refl w.heap.size w).alloc (Nat.le_refl _) o) (Nat.le_refl _)
theorem Strs.none (w : World) (c : Nat) : Strs w (.slice none 0 c) [] := ⟨_, c, rfl, Nat.zero_le _, fun i s h => by simp at h⟩
theorem Strs.one (w : World) (t : TypeId) (a : ByteArray) : Strs (w.alloc (.cells #[.string a] t)) (.slice (some ⟨w.heap.size, 0, .none⟩) 1 1) [a] := by
  refine ⟨_, 1, rfl, Nat.le_refl _, ?_⟩
  intro i s h
  refine ⟨w.heap.size, 0, rfl, by simp, ?_⟩
  rw [World.cell?_alloc_at _ _ _ _ rfl]
  match i, h with
  | 0, h => simp at h; subst h; rfl
  | n + 1, h => simp at h
theorem Strs.laid (w : World) (t : TypeId) (ss : List ByteArray) (c : Nat) (hle : ss.length ≤ c) : Strs (w.alloc (.cells (ss.map Value.string).toArray t)) (.slice (some ⟨w.heap.size, 0, .none⟩) ss.length c) ss := by
  refine ⟨_, c, rfl, hle, ?_⟩
  intro i s h
  refine ⟨w.heap.size, 0, rfl, by simp, ?_⟩
  rw [World.cell?_alloc_at _ _ _ _ rfl]
  simp [h]
structure StrsIn (w : World) (v : Value) (ss : List ByteArray) : Prop where
  strs : Strs w v ss
  len : ss.length ≤ maxLen
  each : ∀ (i : Nat) (s : ByteArray), ss[i]? = some s → s.size ≤ maxLen
theorem StrsIn.below {w w' : World} {v : Value} {ss : List ByteArray} {n : Nat} (h : StrsIn w v ss) (hb : Below n w w') (hn : w.heap.size ≤ n) : StrsIn w' v ss := ⟨h.strs.below hb hn, h.len, h.each⟩

/-- A text of bytes. -/
def B (l : List UInt8) : ByteArray := ⟨l.toArray⟩
theorem B_data (l : List UInt8) : (B l).data.toList = l := by simp [B]
theorem B_of (s : ByteArray) : B s.data.toList = s := by cases s; simp [B]
theorem B_size (l : List UInt8) : (B l).size = l.length := by simp [B, ByteArray.size]
theorem B_append (a b : List UInt8) : B a ++ B b = B (a ++ b) := by
  apply ByteArray.ext; simp [B]
/-- An error by its number; 0: none. -/
def errV (n : Nat) : Value := if n = 0 then .nilIface else .iface 67 (.int .i64 (n : Int))
theorem errV_0 : errV 0 = .nilIface := rfl
theorem errV_2 : errV 2 = .iface 67 (.int .i64 2) := rfl
theorem errV_5 : errV 5 = .iface 67 (.int .i64 5) := rfl
theorem errV_6 : errV 6 = .iface 67 (.int .i64 6) := rfl
theorem errV_pos (n : Nat) (h : 0 < n) : errV n = .iface 67 (.int .i64 (n : Int)) := by unfold errV; rw [if_neg (by omega)]
attribute [local go_sem] errV_0
theorem assertErr (n : Int) (w : World) : (Instr.typeAssert (.iface 67 (.int .i64 n)) 27 67 true).run Tryz.prog w = .ok (.tuple #[.int .i64 n, .bool true]) w := by kernel_rfl
attribute [local go_sem] assertErr
set_option maxRecDepth 100000 in
set_option maxHeartbeats 1000000 in
theorem num_any (n : Nat) (hn : n ≤ 1000) (w : World) : Calls Tryz.prog 15 #[errV n] w fun e w' => e = .returned (.int .i64 n) ∧ w = w' := by
  by_cases h0 : n = 0
  · subst h0
    go_enter Tryz.func15, Tryz.ntmps15
    go_wp2
    refine wp_loop_rounds 1 ?_
    rw [rounds_succ]
    go_wp2
    go_ret
    exact ⟨rfl, rfl⟩
  · rw [errV_pos n (by omega)]
    have hne : ((n : Int) != 0) = true := by simp; omega
    have hne2 : ((n : Int) == 0) = false := by simp; omega
    clear h0
    go_enter Tryz.func15, Tryz.ntmps15
    go_wp2
    refine wp_loop_rounds 1 ?_
    rw [rounds_succ]
    go_wp2
    go_ret
    exact ⟨rfl, rfl⟩
end Go.Proofs.YtkcklnnmcmjnjaaGreatDoor

namespace Go.Proofs.YtkcklnnmcmjnjaaGreatDoor
open Go.RowKit

/-- A slice of fields, readable. -/
def Flds (w : World) (v : Value) (fs : List (List UInt8 × List UInt8)) : Prop :=
  ∃ A cap, v = .slice A fs.length cap ∧ fs.length ≤ cap ∧ ∀ (i : Nat) (f : List UInt8 × List UInt8), fs[i]? = some f → ∃ b off, A = some ⟨b, off, none⟩ ∧ b < w.heap.size ∧ w.cell? ⟨b, off + i * 2, none⟩ = some (.string (B f.1)) ∧ w.cell? ⟨b, off + i * 2 + 1, none⟩ = some (.string (B f.2))
theorem Flds.below {w w' : World} {v : Value} {fs : List (List UInt8 × List UInt8)} {n : Nat} (h : Flds w v fs) (hb : Below n w w') (hn : w.heap.size ≤ n) : Flds w' v fs := by
  obtain ⟨A, cap, hv, hle, hc⟩ := h
  refine ⟨A, cap, hv, hle, fun i s hs => ?_⟩
  obtain ⟨b, off, hA, hlt, c0, c1⟩ := hc i s hs
  exact ⟨b, off, hA, Nat.lt_of_lt_of_le hlt hb.size, (hb.cell (p := ⟨b, off + i * 2, none⟩) (Nat.lt_of_lt_of_le hlt hn)).trans c0, (hb.cell (p := ⟨b, off + i * 2 + 1, none⟩) (Nat.lt_of_lt_of_le hlt hn)).trans c1⟩
theorem Flds.one (w : World) (t : TypeId) (k v : List UInt8) : Flds (w.alloc (.cells #[.string (B k), .string (B v)] t)) (.slice (some ⟨w.heap.size, 0, none⟩) 1 1) [(k, v)] := by
  refine ⟨_, 1, rfl, Nat.le_refl _, fun i f h => ⟨w.heap.size, 0, rfl, by simp, ?_⟩⟩
  rw [World.cell?_alloc_at _ _ _ _ rfl, World.cell?_alloc_at _ _ _ _ rfl]
  match i, h with
  | 0, h => simp at h; subst h; exact ⟨rfl, rfl⟩
  | n + 1, h => simp at h
theorem Flds.two (w : World) (t : TypeId) (k v k' v' : List UInt8) : Flds (w.alloc (.cells #[.string (B k), .string (B v), .string (B k'), .string (B v')] t)) (.slice (some ⟨w.heap.size, 0, none⟩) 2 2) [(k, v), (k', v')] := by
  refine ⟨_, 2, rfl, Nat.le_refl _, fun i f h => ⟨w.heap.size, 0, rfl, by simp, ?_⟩⟩
  rw [World.cell?_alloc_at _ _ _ _ rfl, World.cell?_alloc_at _ _ _ _ rfl]
  match i, h with
  | 0, h => simp at h; subst h; exact ⟨rfl, rfl⟩
  | 1, h => simp at h; subst h; exact ⟨rfl, rfl⟩
  | n + 2, h => simp at h

def cellsF (fs : List (List UInt8 × List UInt8)) : List Value := fs.flatMap fun f => [.string (B f.1), .string (B f.2)]
theorem cellsF_len : ∀ fs, (cellsF fs).length = fs.length * 2
  | [] => rfl
  | f :: r => by
    have := cellsF_len r
    show (Value.string (B f.1) :: Value.string (B f.2) :: cellsF r).length = _
    simp only [List.length_cons, this]; omega
theorem cellsF_at : ∀ (fs : List (List UInt8 × List UInt8)) (i : Nat) (f : List UInt8 × List UInt8), fs[i]? = some f → (cellsF fs)[i * 2]? = some (.string (B f.1)) ∧ (cellsF fs)[i * 2 + 1]? = some (.string (B f.2))
  | [], i, f, h => by simp at h
  | a :: r, 0, f, h => by simp at h; subst h; exact ⟨rfl, rfl⟩
  | a :: r, i + 1, f, h => by
    have ih := cellsF_at r i f (by simpa using h)
    have e : cellsF (a :: r) = Value.string (B a.1) :: Value.string (B a.2) :: cellsF r := rfl
    rw [e, show (i + 1) * 2 = i * 2 + 1 + 1 by omega]
    simpa using ih
theorem infoFld : (Tryz.prog.info? 35).map (fun i => (i.zero, i.size, i.bytes)) = some (some (.agg #[.string ⟨#[]⟩, .string ⟨#[]⟩]), 2, 32) := by kernel_rfl
theorem flds_of_own {w : World} {base : Nat} {v : Value} {fs : List (List UInt8 × List UInt8)} (h : w.ownsRow base 35 2 v fs.length (cellsF fs)) : Flds w v fs := by
  rcases Joins.ownsRow_forms h with ⟨rfl, hn⟩ | ⟨g, cap, rfl⟩
  · have : fs = [] := by cases fs with | nil => rfl | cons _ _ => simp at hn
    subst this
    exact ⟨none, 0, rfl, Nat.le_refl _, fun i f h => by simp at h⟩
  · refine ⟨_, cap, rfl, (by rcases h.2 with ⟨q, _⟩ | ⟨g', cap', cur, q, _, _, q2, _⟩; cases q; cases q; exact q2), fun i f hf => ⟨g, 0, rfl, (World.ownsRow.lt h g rfl).2, ?_⟩⟩
    have hi : i < fs.length := by
      rcases Nat.lt_or_ge i fs.length with q | q
      · exact q
      · rw [List.getElem?_eq_none q] at hf; cases hf
    obtain ⟨a, b⟩ := cellsF_at fs i f hf
    rw [Nat.zero_add, World.ownsRow.cellAt h (i * 2) (by omega), World.ownsRow.cellAt h (i * 2 + 1) (by omega)]
    exact ⟨a, b⟩
end Go.Proofs.YtkcklnnmcmjnjaaGreatDoor

namespace Go.RowKit
end Go.RowKit
namespace Go.Proofs.YtkcklnnmcmjnjaaGreatDoor
open Go.RowKit

/-- Whatever lay lies as it lay, but for the blocks of S. -/
structure Only (S : Nat → Prop) (W W' : World) : Prop where
  os : W'.os = W.os
  tape : W'.tape = W.tape
  output : W'.output = W.output
  size : W.heap.size ≤ W'.heap.size
  same : ∀ r, r < W.heap.size → ¬ S r → W'.heap[r]? = W.heap[r]?
section
variable {S : Nat → Prop} {X Y Z : World}
theorem Only.refl (S : Nat → Prop) (W : World) : Only S W W := ⟨rfl, rfl, rfl, Nat.le_refl _, fun _ _ _ => rfl⟩
theorem Only.trans {S' : Nat → Prop} (h : Only S X Y) (g : Only S' Y Z) (hs : ∀ r, r < X.heap.size → S' r → S r) : Only S X Z :=
  ⟨g.os.trans h.os, g.tape.trans h.tape, g.output.trans h.output, Nat.le_trans h.size g.size, fun r a b => (g.same r (Nat.lt_of_lt_of_le a h.size) (fun c => b (hs r a c))).trans (h.same r a b)⟩
theorem Only.alloc (h : Only S X Y) (o : Obj) : Only S X (Y.alloc o) :=
  ⟨h.os, h.tape, h.output, by simp; have := h.size; omega, fun r a b => (Below.heap_alloc _ _ _ (Nat.lt_of_lt_of_le a h.size)).trans (h.same r a b)⟩
theorem Only.setCell (h : Only S X Y) {p : Addr} (hp : S p.block ∨ X.heap.size ≤ p.block) (u : Value) : Only S X (Y.setCell p u) :=
  ⟨h.os, h.tape, h.output, by simp only [World.setCell, Array.size_modify]; exact h.size, fun r a b => (Below.heap_setCell _ _ _ _ (by rintro rfl; rcases hp with hp | hp; exact b hp; omega)).trans (h.same r a b)⟩
theorem Only.cellS {p : Nat} (h : Only (· = p) X Y) (o : Nat) (u : Value) : Only (· = p) X (Y.setCell ⟨p, o, none⟩ u) := h.setCell (p := ⟨p, o, none⟩) (.inl rfl) u
theorem Only.drew (h : Only S X Y) : Only S X Y.drew := ⟨h.os, h.tape, h.output, h.size, h.same⟩
theorem Only.drewN (h : Only S X Y) (n : Nat) : Only S X (Y.drewN n) := ⟨h.os, h.tape, h.output, h.size, h.same⟩
theorem Only.grown (h : Only S X Y) {row : Option Nat} (g : Y.grownBy Z row) (hr : ∀ k, row = some k → S k ∨ X.heap.size ≤ k) : Only S X Z :=
  ⟨g.os.trans h.os, g.tape.trans h.tape, g.output.trans h.output, Nat.le_trans h.size g.size, fun r a b => (g.block r (Nat.lt_of_lt_of_le a h.size) (fun e => by rcases hr r e.symm with c | c; exact b c; omega)).trans (h.same r a b)⟩
theorem Only.below (h : Only S X Y) {B : Nat} (g : Below B Y Z) (hB : X.heap.size ≤ B) : Only S X Z :=
  ⟨g.os.trans h.os, g.tape.trans h.tape, g.output.trans h.output, Nat.le_trans h.size g.size, fun r a b => (g.block r (by omega)).trans (h.same r a b)⟩
theorem Only.to_below (h : Only S X Y) {B : Nat} (hB : B ≤ X.heap.size) (hs : ∀ r, r < B → ¬ S r) : Below B X Y :=
  ⟨h.os, h.tape, h.output, h.size, fun r a => h.same r (by omega) (hs r a)⟩
theorem Only.of_below {B : Nat} (g : Below B X Y) (hB : X.heap.size ≤ B) : Only S X Y := (Only.refl S X).below g hB
theorem Only.mono {S' : Nat → Prop} (h : Only S X Y) (hs : ∀ r, r < X.heap.size → S r → S' r) : Only S' X Y := ⟨h.os, h.tape, h.output, h.size, fun r a b => h.same r a (fun c => b (hs r a c))⟩
end

theorem row_same {W W' : World} {base : Nat} {e : TypeId} {size : Nat} {v : Value} {n : Nat} {xs : List Value} (h : W.ownsRow base e size v n xs) (hs : ∀ b, v.ownBlock = some b → W'.heap[b]? = W.heap[b]?) : W'.ownsRow base e size v n xs := by
  refine ⟨h.1, ?_⟩
  rcases h.2 with hn | ⟨g, cap, cur, rfl, hbase, hg, rest⟩
  · exact .inl hn
  · exact .inr ⟨g, cap, cur, rfl, hbase, (hs g rfl).trans hg, rest⟩
theorem row_only {W W' : World} {S : Nat → Prop} {base : Nat} {e : TypeId} {size : Nat} {v : Value} {n : Nat} {xs : List Value} (h : W.ownsRow base e size v n xs) (g : Only S W W') (hs : ∀ b, v.ownBlock = some b → ¬ S b) : W'.ownsRow base e size v n xs :=
  row_same h fun b hb => g.same b (h.lt b hb).2 (hs b hb)
theorem row_below {W W' : World} {B : Nat} {base : Nat} {e : TypeId} {size : Nat} {v : Value} {n : Nat} {xs : List Value} (h : W.ownsRow base e size v n xs) (g : Below B W W') (hB : W.heap.size ≤ B) : W'.ownsRow base e size v n xs :=
  row_same h fun b hb => g.block b (Nat.lt_of_lt_of_le (h.lt b hb).2 hB)
theorem row_cell {W : World} {base : Nat} {e : TypeId} {size : Nat} {v : Value} {n : Nat} {xs : List Value} (h : W.ownsRow base e size v n xs) {p : Addr} (hp : v.ownBlock ≠ some p.block) (u : Value) : (W.setCell p u).ownsRow base e size v n xs :=
  row_same h fun b hb => Below.heap_setCell _ _ _ _ (fun e => hp (by rw [hb, e]))
/-- A block of cells known whole. -/
def Cells (W : World) (b : Nat) (t : TypeId) (cur : Array Value) : Prop := W.heap[b]? = some (.cells cur t (0, 0))
section
variable {W W' : World} {b : Nat} {t : TypeId} {cur : Array Value}
theorem Cells.lt (h : Cells W b t cur) : b < W.heap.size := (Array.getElem?_eq_some_iff.1 (show W.heap[b]? = _ from h)).1
theorem Cells.new (W : World) (t : TypeId) (cur : Array Value) : Cells (W.alloc (.cells cur t)) W.heap.size t cur := heap_alloc_new W _
theorem Cells.alloc (h : Cells W b t cur) (o : Obj) : Cells (W.alloc o) b t cur := (Below.heap_alloc _ _ _ h.lt).trans h
theorem Cells.drewN (h : Cells W b t cur) (n : Nat) : Cells (W.drewN n) b t cur := h
theorem Cells.drew (h : Cells W b t cur) : Cells W.drew b t cur := h
theorem Cells.other (h : Cells W b t cur) {p : Addr} (hp : b ≠ p.block) (u : Value) : Cells (W.setCell p u) b t cur := (Below.heap_setCell _ _ _ _ hp).trans h
theorem Cells.set (h : Cells W b t cur) (i : Nat) (u : Value) : Cells (W.setCell ⟨b, i, none⟩ u) b t (cur.setIfInBounds i u) := by
  obtain ⟨hlt, hk⟩ := Array.getElem?_eq_some_iff.1 (show W.heap[b]? = _ from h)
  show (W.heap.modify b _)[b]? = _
  rw [Array.getElem?_eq_getElem (by rw [Array.size_modify]; exact hlt), Array.getElem_modify_self, hk]
  rfl
theorem Cells.cell (h : Cells W b t cur) (i : Nat) : W.cell? ⟨b, i, none⟩ = cur[i]? := by
  simp [World.cell?, show W.heap[b]? = _ from h]
theorem Cells.frozen (h : Cells W b t cur) (i : Nat) : W.frozen? ⟨b, i, none⟩ = false := by
  simp [World.frozen?, show W.heap[b]? = _ from h]
theorem Cells.only {S : Nat → Prop} (h : Cells W b t cur) (g : Only S W W') (hb : ¬ S b) : Cells W' b t cur := (g.same b h.lt hb).trans h
theorem Cells.below {B : Nat} (h : Cells W b t cur) (g : Below B W W') (hb : b < B) : Cells W' b t cur := (g.block b hb).trans h
theorem Cells.grown {row : Option Nat} (h : Cells W b t cur) (g : W.grownBy W' row) (hb : some b ≠ row) : Cells W' b t cur := (g.block b h.lt hb).trans h
end
end Go.Proofs.YtkcklnnmcmjnjaaGreatDoor

