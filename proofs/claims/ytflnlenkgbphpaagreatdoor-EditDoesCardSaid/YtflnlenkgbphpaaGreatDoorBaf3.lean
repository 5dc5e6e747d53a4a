/- Texts put together: PR, PU, TA, FL, OC, PB. -/
import Derived.OwnWalk
import Derived.Laws.AppendOwn
import Derived.Laws.OwnMore
import Derived.Lib.SmallJoins
import Derived.Deep.RegionLaw
import Derived.RegionTactic
import Derived.Test.YtflnlenkgbphpaaGreatDoorBaf1
import Derived.Test.YtflnlenkgbphpaaGreatDoorBaf2
set_option linter.unusedVariables false
namespace Go.Proofs.YtflnlenkgbphpaaGreatDoor

theorem endField_items (p : PS) : (endFieldP p).items = p.items := by unfold endFieldP; split <;> rfl
theorem Runs.append : ∀ {a b : List Ln} {no c : Nat}, Runs no c (a ++ b) → Runs no c a ∧ Runs (no + a.length) (c + (a.flatMap Ln.bytes).length) b
  | [], b, no, c, h => ⟨trivial, h⟩
  | x :: a, b, no, c, ⟨h1, h2, h3, h4⟩ => by
    obtain ⟨i1, i2⟩ := Runs.append h4
    refine ⟨⟨h1, h2, h3, i1⟩, ?_⟩
    rw [List.flatMap_cons, List.length_append, List.length_cons, ← Nat.add_assoc c, Nat.add_comm a.length, ← Nat.add_assoc no]
    exact i2
end Go.Proofs.YtflnlenkgbphpaaGreatDoor

namespace Go.Proofs.YtflnlenkgbphpaaGreatDoor

/-- Texts as ended lines. -/
def num : Nat → Nat → List (List UInt8) → List Ln
  | _, _, [] => []
  | no, c, l :: r => ⟨no, c, l, true⟩ :: num (no + 1) (c + l.length + 1) r
theorem num_append : ∀ (a b : List (List UInt8)) (no c : Nat), num no c (a ++ b) = num no c a ++ num (no + a.length) (c + (textL a).length) b
  | [], b, no, c => rfl
  | l :: a, b, no, c => by
    have := num_append a b (no + 1) (c + l.length + 1)
    show _ :: num _ _ (a ++ b) = _ :: _ ++ _
    rw [this]
    have e : (textL (l :: a)).length = l.length + 1 + (textL a).length := by unfold textL; simp; omega
    rw [e, List.length_cons, show c + (l.length + 1 + (textL a).length) = c + l.length + 1 + (textL a).length by omega, show no + (a.length + 1) = no + 1 + a.length by omega]
    rfl
theorem run_cons {t : List UInt8} {p q : PS} {x : Ln} {xs : List Ln} (h : takeP t p x = .ok q) : runP t p (x :: xs) = runP t q xs := by
  show (match takeP t p x with | .error e => Except.error e | .ok q => runP t q xs) = _
  rw [h]
/-- Further lines go on with the field. -/
theorem run_more (t : List UInt8) : ∀ (r : List (List UInt8)) (p : PS) (no c : Nat), p.said ≠ [] → (∀ l ∈ r, kindL l = 3) → runP t p (num no c r) = .ok { p with said := p.said ++ r }
  | [], p, no, c, _, _ => by show Except.ok p = _; rw [List.append_nil]
  | l :: r, p, no, c, hs, hk => by
    have h3 := hk l List.mem_cons_self
    have hg : goesP p ⟨no, c, l, true⟩ = true := by
      unfold goesP; rw [h3]
      cases hq : p.said with
      | nil => exact absurd hq hs
      | cons a b => rfl
    have hw : wrongP p ⟨no, c, l, true⟩ = false := by unfold wrongP; rw [hg, h3]; rfl
    have he : endsP p ⟨no, c, l, true⟩ = false := by unfold endsP; rw [hw, hg]; rfl
    have ht : takeP t p ⟨no, c, l, true⟩ = .ok { p with said := p.said ++ [l] } := by
      rw [take_of (by rw [he]; intro h; cases h) hw]
      have e1 : thenP p ⟨no, c, l, true⟩ = { p with said := p.said ++ [l] } := by
        unfold thenP; rw [he, if_neg (by decide)]; unfold wentP; rw [hg, if_pos rfl]
      rw [e1]
      unfold putP
      rw [h3]; rfl
    show runP t p (⟨no, c, l, true⟩ :: num (no + 1) (c + l.length + 1) r) = _
    rw [run_cons ht, run_more t r _ _ _ (by simp) (fun y hy => hk y (List.mem_cons_of_mem _ hy))]
    simp
/-- A line that goes on with no field, ended. -/
theorem take_else {t : List UInt8} {p : PS} {no c : Nat} {l : List UInt8} (hk : kindL l ≠ 3) (h5 : kindL l ≠ 5) (h0 : endFieldN p = 0) : takeP t p ⟨no, c, l, true⟩ = .ok (putP t (endFieldP p) ⟨no, c, l, true⟩) := by
  have hg : goesP p ⟨no, c, l, true⟩ = false := goes_kind hk
  have hw : wrongP p ⟨no, c, l, true⟩ = false := by unfold wrongP; rw [hg]; simp [hk, h5]
  have he : endsP p ⟨no, c, l, true⟩ = true := by unfold endsP; rw [hg]; simp
  have hwent : wentP p ⟨no, c, l, true⟩ = p := by unfold wentP; rw [hg]; rfl
  rw [take_of (by rw [hwent]; exact fun _ => h0) hw]
  unfold thenP
  rw [he, if_pos rfl, hwent]
def linesFs (fs : List Fld) : List (List UInt8) := fs.flatMap fun f => linesL f.1 f.2
theorem lines_kinds {k v : List UInt8} (hk : goodKey k = true) : ∃ x r, linesL k v = x :: r ∧ kindL x = 4 ∧ ∀ l ∈ r, kindL l = 3 := by
  have h := lines_say (v := v) hk
  have e : linesL k v = firstL k ((partsL v).headD []) :: (partsL v).tail.map furtherL := rfl
  rw [e] at h ⊢
  refine ⟨_, _, rfl, ?_⟩
  unfold sayF at h
  simp only [Bool.and_eq_true, beq_iff_eq, List.all_eq_true] at h
  exact h
/-- Good fields, one behind the other. -/
theorem run_fields (t : List UInt8) : ∀ (fs : List Fld) (p : PS) (no c : Nat), endFieldN p = 0 → (∀ f ∈ fs, goodKey f.1 = true ∧ f.2.length ≤ 1000) → (endFieldP p).fields.length + fs.length ≤ 40 → (endFieldP p).stanzas ≤ 399 →
    ∃ q, runP t p (num no c (linesFs fs)) = .ok q ∧ endFieldN q = 0 ∧ (endFieldP q).fields = (endFieldP p).fields ++ fs ∧ (endFieldP q).items = (endFieldP p).items ∧ (endFieldP q).stanzas = (endFieldP p).stanzas ∧ (endFieldP q).at_ = (endFieldP p).at_
  | [], p, no, c, h0, _, _, _ => ⟨p, rfl, h0, by simp, rfl, rfl, rfl⟩
  | f :: fs, p, no, c, h0, hg, hn, hs => by
    obtain ⟨g1, g2⟩ := hg f List.mem_cons_self
    obtain ⟨x, r, e, kx, kr⟩ := lines_kinds (v := f.2) g1
    obtain ⟨u1, u2, u3⟩ := lines_unfold g1 g2
    have hl : linesFs (f :: fs) = (x :: r) ++ linesFs fs := by unfold linesFs; rw [List.flatMap_cons, e]
    have ht : takeP t p ⟨no, c, x, true⟩ = .ok { endFieldP p with begin_ := no, said := [x] } := by
      rw [take_else (by omega) (by omega) h0]
      unfold putP
      rw [if_pos kx]
    have hrun : runP t p (num no c (x :: r)) = .ok { endFieldP p with begin_ := no, said := x :: r } := by
      show runP t p (⟨no, c, x, true⟩ :: num _ _ r) = _
      rw [run_cons ht, run_more t r _ _ _ (by simp) kr]; rfl
    rw [hl, num_append, runP_append, hrun]
    dsimp only
    rw [List.length_cons] at hn
    have hN : endFieldN { endFieldP p with begin_ := no, said := x :: r } = 0 := by
      unfold endFieldN
      rw [if_neg (by simp)]
      show (if unfoldN (x :: r) ≠ 0 then _ else _) = 0
      rw [← e, u1, if_neg (by simp)]
      have : fullP { endFieldP p with begin_ := no, said := linesL f.1 f.2 } = false := by
        unfold fullP
        show (if (endFieldP p).fields.length = 0 then (endFieldP p).stanzas == 400 else (endFieldP p).fields.length == 40) = false
        split
        · simp; omega
        · simp; omega
      rw [this]; rfl
    have hP : endFieldP { endFieldP p with begin_ := no, said := x :: r } = { endFieldP p with begin_ := no, said := [], fields := (endFieldP p).fields ++ [f] } := by
      unfold endFieldP
      rw [if_neg (by simp)]
      show { endFieldP p with begin_ := no, said := [], fields := (endFieldP p).fields ++ [(unfoldK (x :: r), unfoldV (x :: r))] } = _
      rw [← e, u2, u3]; rfl
    obtain ⟨q, q1, q2, q3, q4, q5, q6⟩ := run_fields t fs { endFieldP p with begin_ := no, said := x :: r } (no + (x :: r).length) (c + (textL (x :: r)).length) hN (fun y hy => hg y (List.mem_cons_of_mem _ hy)) (by rw [hP]; simp; omega) (by rw [hP]; exact hs)
    refine ⟨q, q1, q2, ?_, ?_, ?_, ?_⟩
    · rw [q3, hP]; simp
    · rw [q4, hP]
    · rw [q5, hP]
    · rw [q6, hP]
end Go.Proofs.YtflnlenkgbphpaaGreatDoor

namespace Go.Proofs.YtflnlenkgbphpaaGreatDoor

/-- A parser of the same block, elsewhere. -/
def mv (b st a : Nat) (its : List It) (p : PS) : PS := ⟨b, p.said, its, st, a, p.fields⟩
def ml (no c : Nat) (x : Ln) : Ln := ⟨no, c, x.text, x.ended⟩
theorem mv_went (b st a : Nat) (its : List It) (p : PS) (no c : Nat) (x : Ln) : wentP (mv b st a its p) (ml no c x) = mv b st a its (wentP p x) := by
  unfold wentP
  rw [show goesP (mv b st a its p) (ml no c x) = goesP p x from rfl]
  split <;> rfl
theorem mv_endField (b st a : Nat) (its : List It) (p : PS) : endFieldP (mv b st a its p) = mv b st a its (endFieldP p) := by
  unfold endFieldP
  rw [show (mv b st a its p).said = p.said from rfl]
  split <;> rfl
theorem mv_endFieldN (b st a : Nat) (its : List It) (p : PS) (hst : st ≤ 399) (h : endFieldN p = 0) : endFieldN (mv b st a its p) = 0 := by
  unfold endFieldN at h ⊢
  rw [show (mv b st a its p).said = p.said from rfl]
  split
  · rfl
  · rename_i hs
    rw [if_neg hs] at h
    split
    · rename_i hu; rw [if_pos hu] at h; exact absurd h hu
    · rename_i hu
      rw [if_neg hu] at h
      have hf : fullP p = false := by
        cases hf : fullP p with
        | false => rfl
        | true => rw [hf] at h; simp at h
      have : fullP (mv b st a its p) = false := by
        unfold fullP at hf ⊢
        rw [show (mv b st a its p).fields = p.fields from rfl, show (mv b st a its p).stanzas = st from rfl]
        split
        · have : st ≠ 400 := by omega
          simpa using this
        · rename_i hz
          rw [if_neg hz] at hf
          exact hf
      rw [this]; rfl
theorem mv_then (b st a : Nat) (its : List It) (p : PS) (no c : Nat) (x : Ln) : thenP (mv b st a its p) (ml no c x) = mv b st a its (thenP p x) := by
  unfold thenP
  rw [show endsP (mv b st a its p) (ml no c x) = endsP p x from rfl, mv_went, mv_endField]
  split <;> rfl
theorem mv_put (t t' : List UInt8) (b st a : Nat) (its : List It) (p : PS) (no c : Nat) (x : Ln) (hk : kindL x.text ≠ 1) : ∃ b', putP t' (mv b st a its p) (ml no c x) = mv b' st a its (putP t p x) := by
  unfold putP
  rw [show (ml no c x).text = x.text from rfl, if_neg hk, if_neg hk]
  split
  · exact ⟨no, rfl⟩
  · exact ⟨b, rfl⟩
/-- A line that isn't empty does the same elsewhere. -/
theorem mv_take {t t' : List UInt8} {b st a : Nat} {its : List It} {p q : PS} {no c : Nat} {x : Ln} (hst : st ≤ 399) (hk : kindL x.text ≠ 1) (h : takeP t p x = .ok q) : ∃ b', takeP t' (mv b st a its p) (ml no c x) = .ok (mv b' st a its q) := by
  obtain ⟨h1, h2, rfl⟩ := take_parts h
  obtain ⟨b', hb⟩ := mv_put t t' b st a its (thenP p x) no c x hk
  refine ⟨b', ?_⟩
  have hT := take_of (t := t') (p := mv b st a its p) (x := ml no c x) (by rw [show endsP (mv b st a its p) (ml no c x) = endsP p x from rfl, mv_went]; exact fun he => mv_endFieldN _ _ _ _ _ hst (h1 he)) h2
  rw [hT, mv_then, hb]
/-- Such a line turns nothing but the block. -/
theorem take_keeps {t : List UInt8} {p q : PS} {x : Ln} (hk : kindL x.text ≠ 1) (h : takeP t p x = .ok q) : q.items = p.items ∧ q.stanzas = p.stanzas ∧ q.at_ = p.at_ := by
  obtain ⟨_, _, rfl⟩ := take_parts h
  have e : (thenP p x).items = p.items ∧ (thenP p x).stanzas = p.stanzas ∧ (thenP p x).at_ = p.at_ := by
    unfold thenP endFieldP wentP
    split <;> split <;> (try split) <;> exact ⟨rfl, rfl, rfl⟩
  unfold putP
  rw [if_neg hk]
  split <;> exact e

/-- What a block's lines do, wherever they stand. -/
def Does (ts said : List (List UInt8)) (fields : List Fld) : Prop :=
  ∀ (t : List UInt8) (b st a no c : Nat) (its : List It), st ≤ 399 → ∃ b', runP t ⟨b, [], its, st, a, []⟩ (num no c ts) = .ok ⟨b', said, its, st, a, fields⟩
theorem Does.nil : Does [] [] [] := fun t b st a no c its _ => ⟨b, rfl⟩
theorem Does.snoc {ts : List (List UInt8)} {t : List UInt8} {p q : PS} {x : Ln} (h : Does ts p.said p.fields) (hk : kindL x.text ≠ 1) (hx : x.ended = true) (ht : takeP t p x = .ok q) : Does (ts ++ [x.text]) q.said q.fields := by
  intro t' b st a no c its hst
  obtain ⟨b1, h1⟩ := h t' b st a no c its hst
  obtain ⟨b2, h2⟩ := mv_take (t' := t') (b := b1) (st := st) (a := a) (its := its) (no := no + ts.length) (c := c + (textL ts).length) hst hk ht
  refine ⟨b2, ?_⟩
  rw [num_append, runP_append, h1]
  dsimp only
  have e : num (no + ts.length) (c + (textL ts).length) [x.text] = ml (no + ts.length) (c + (textL ts).length) x :: [] := by
    show [(⟨_, _, x.text, true⟩ : Ln)] = [⟨_, _, x.text, x.ended⟩]
    rw [hx]
  rw [e, run_cons (by exact h2)]
  rfl
/-- A block that stands alone. -/
structure Blk (it : It) : Prop where
  kind : it.kind = if it.fields = [] then 2 else 3
  pos : it.raw ≠ []
  does : ∃ ts said fields, it.raw = textL ts ∧ (∀ l ∈ ts, (10 : UInt8) ∉ l) ∧ Does ts said fields ∧ endFieldN ⟨0, said, [], 0, 0, fields⟩ = 0 ∧ (endFieldP ⟨0, said, [], 0, 0, fields⟩).fields = it.fields
/-- Items of which no two that aren't blank stand side by side; b: what stands ahead isn't blank. -/
def apartOn : Bool → List It → List It
  | _, [] => []
  | b, x :: r => (if b = true ∧ x.kind ≠ 1 then [⟨1, [10], []⟩] else []) ++ x :: apartOn (x.kind != 1) r
def apartL (its : List It) : List It := apartOn false its
def lastF : Bool → List It → Bool
  | b, [] => b
  | _, x :: r => lastF (x.kind != 1) r
theorem apartOn_append : ∀ (b : Bool) (l r : List It), apartOn b (l ++ r) = apartOn b l ++ apartOn (lastF b l) r
  | b, [], r => rfl
  | b, x :: l, r => by
    show _ ++ x :: apartOn (x.kind != 1) (l ++ r) = (_ ++ x :: apartOn (x.kind != 1) l) ++ _
    rw [apartOn_append _ l r]; simp [lastF]
theorem lastF_append : ∀ (b : Bool) (l r : List It), lastF b (l ++ r) = lastF (lastF b l) r
  | b, [], r => rfl
  | b, x :: l, r => lastF_append _ l r
/-- No two that aren't blank stand side by side. -/
def Alt : Bool → List It → Prop
  | _, [] => True
  | b, x :: r => (b = true → x.kind = 1) ∧ Alt (x.kind != 1) r
theorem Alt.apart : ∀ (b : Bool) (l : List It), Alt b l → apartOn b l = l
  | b, [], _ => rfl
  | b, x :: r, ⟨h1, h2⟩ => by
    show (if b = true ∧ x.kind ≠ 1 then _ else []) ++ x :: apartOn _ r = _
    rw [if_neg (fun h => h.2 (h1 h.1)), Alt.apart _ r h2]; rfl
theorem Alt.append : ∀ (b : Bool) (l r : List It), Alt b l → Alt (lastF b l) r → Alt b (l ++ r)
  | b, [], r, _, h => h
  | b, x :: l, r, ⟨h1, h2⟩, h => ⟨h1, Alt.append _ l r h2 h⟩

/-- What a run has made, up to a place. -/
structure Mid (t : List UInt8) (p : PS) (c : Nat) : Prop where
  at_ : p.at_ ≤ c
  blks : ∀ it ∈ p.items, it.kind ≠ 1 → Blk it
  alt : Alt false p.items ∧ lastF false p.items = false
  cur : ∃ ts, (t.take c).drop p.at_ = textL ts ∧ (∀ l ∈ ts, (10 : UInt8) ∉ l) ∧ Does ts p.said p.fields ∧ (p.at_ = c → p.fields = [])
theorem Mid.new (t : List UInt8) : Mid t PS.new 0 :=
  ⟨Nat.le_refl _, (fun it h => by cases h), ⟨trivial, rfl⟩, [], by simp [PS.new, textL], (fun l h => by cases h), Does.nil, fun _ => rfl⟩
/-- The block that ends at a place. -/
theorem Mid.endBlock {t : List UInt8} {p : PS} {c : Nat} (h : Mid t p c) (h0 : endFieldN p = 0) (hct : c ≤ t.length) :
    ∃ l, (endBlockP t (endFieldP p) c).items = p.items ++ l ∧ (∀ it ∈ l, Blk it) ∧ l.length ≤ 1 := by
  have hat := h.at_
  obtain ⟨ts, h1, h2, h3, _⟩ := h.cur
  have e : endFieldN ⟨0, p.said, [], 0, 0, p.fields⟩ = 0 := mv_endFieldN 0 0 0 [] p (by decide) h0
  have e2 : (endFieldP ⟨0, p.said, [], 0, 0, p.fields⟩).fields = (endFieldP p).fields := by
    have := mv_endField 0 0 0 [] p
    rw [show (⟨0, p.said, [], 0, 0, p.fields⟩ : PS) = mv 0 0 0 [] p from rfl, this]; rfl
  have hne : p.at_ ≠ c → (t.take c).drop p.at_ ≠ [] := by
    intro hh e
    have := congrArg List.length e
    simp only [List.length_drop, List.length_take, List.length_nil] at this
    omega
  unfold endBlockP
  rw [endField_at]
  split
  · exact ⟨[], by rw [endField_items]; simp, (fun it h => by cases h), by simp⟩
  · rename_i hac
    split
    · rename_i hz
      refine ⟨[⟨2, (t.take c).drop p.at_, (endFieldP p).fields⟩], ?_, ?_, by simp⟩
      · show (endFieldP p).items ++ [_] = _
        rw [endField_items, endField_at]; rfl
      · intro it hi
        rw [List.mem_singleton.1 hi]
        exact ⟨by rw [if_pos (List.length_eq_zero_iff.1 hz)], hne hac, ts, p.said, p.fields, h1, h2, h3, e, e2⟩
    · rename_i hz
      refine ⟨[⟨3, (t.take c).drop p.at_, (endFieldP p).fields⟩], ?_, ?_, by simp⟩
      · show (endFieldP p).items ++ [_] = _
        rw [endField_items, endField_at]; rfl
      · intro it hi
        rw [List.mem_singleton.1 hi]
        exact ⟨by rw [if_neg (fun h => hz (List.length_eq_zero_iff.2 h))], hne hac, ts, p.said, p.fields, h1, h2, h3, e, e2⟩
theorem alt_blk {l : List It} (h : ∀ it ∈ l, Blk it) (hl : l.length ≤ 1) : Alt false l := by
  match l, hl with
  | [], _ => trivial
  | [x], _ => exact ⟨fun h => (by cases h), trivial⟩
theorem Mid.take {t : List UInt8} {p q : PS} {x : Ln} (h : Mid t p x.at_) (hen : x.ended = true) (hcl : (10 : UInt8) ∉ x.text) (hrest : ∃ r, t.drop x.at_ = x.bytes ++ r) (hct : x.at_ ≤ t.length) (he : takeP t p x = .ok q) : Mid t q (x.at_ + x.bytes.length) := by
  have hat := h.at_
  obtain ⟨r, hr⟩ := hrest
  have hb : x.bytes = x.text ++ [10] := by unfold Ln.bytes; rw [hen]; simp
  have htk : t.take (x.at_ + x.bytes.length) = t.take x.at_ ++ x.bytes := by
    rw [List.take_add, hr]; simp
  by_cases hk : kindL x.text = 1
  · obtain ⟨g1, _, rfl⟩ := take_parts he
    have hg : goesP p x = false := goes_kind (by omega)
    have hw : wentP p x = p := by unfold wentP; rw [hg]; rfl
    have hE : endsP p x = true := by unfold endsP; rw [hg]; simp
    rw [hw] at g1
    have hth : thenP p x = endFieldP p := by unfold thenP; rw [hE, hw]; rfl
    obtain ⟨l, l1, l2, l3⟩ := h.endBlock (g1 hE) hct
    have ha : (endBlockP t (endFieldP p) x.at_).at_ = x.at_ := endBlock_at t _ _ (by rw [endField_at]; exact hat)
    have hlast : x.at_ + x.bytes.length = x.at_ + x.text.length + 1 := by rw [hb]; simp; omega
    unfold putP
    rw [if_neg (by omega), if_pos hk, hth]
    refine ⟨by show x.at_ + x.text.length + 1 ≤ _; omega, ?_, ?_, [], ?_, (fun l h => by cases h), ?_, fun _ => rfl⟩
    · intro it hi hk1
      rcases List.mem_append.1 (show it ∈ (endBlockP t (endFieldP p) x.at_).items ++ [_] from hi) with hi | hi
      · rw [l1] at hi
        rcases List.mem_append.1 hi with hi | hi
        · exact h.blks it hi hk1
        · exact l2 it hi
      · rw [List.mem_singleton.1 hi] at hk1; exact absurd rfl hk1
    · show Alt false ((endBlockP t (endFieldP p) x.at_).items ++ [_]) ∧ lastF false ((endBlockP t (endFieldP p) x.at_).items ++ [_]) = false
      rw [l1]
      refine ⟨Alt.append _ _ _ (Alt.append _ _ _ h.alt.1 ?_) ?_, ?_⟩
      · rw [h.alt.2]; exact alt_blk l2 l3
      · exact ⟨fun _ => rfl, trivial⟩
      · rw [lastF_append]; rfl
    · show (t.take (x.at_ + x.bytes.length)).drop (x.at_ + x.text.length + 1) = _
      rw [← hlast, List.drop_of_length_le (by rw [List.length_take]; omega)]; rfl
    · show Does [] (endBlockP t (endFieldP p) x.at_).said []
      rw [endBlock_said, endField_said]; exact Does.nil
  · obtain ⟨k1, k2, k3⟩ := take_keeps hk he
    obtain ⟨ts, h1, h2, h3, _⟩ := h.cur
    refine ⟨by rw [k3]; omega, by rw [k1]; exact h.blks, by rw [k1]; exact h.alt, ts ++ [x.text], ?_, ?_, h3.snoc hk hen he, ?_⟩
    · rw [k3, htk, List.drop_append_of_le_length (by rw [List.length_take]; omega), h1, textL_append, hb]
      unfold textL; simp
    · intro l hl
      rcases List.mem_append.1 hl with hl | hl
      · exact h2 l hl
      · rw [List.mem_singleton.1 hl]; exact hcl
    · intro hh
      rw [k3, hb] at hh
      simp at hh; omega
theorem Mid.run (t : List UInt8) : ∀ (xs : List Ln) (no c : Nat) (p q : PS), Runs no c xs → no ≤ c → Inv p c → Mid t p c → t.drop c = xs.flatMap Ln.bytes → c ≤ t.length → (∀ x ∈ xs, (10 : UInt8) ∉ x.text) → runP t p xs = .ok q → Mid t q t.length
  | [], no, c, p, q, _, _, _, hm, hr, hct, _, he => by
    cases he
    have : c = t.length := by
      have := congrArg List.length hr
      simp at this; omega
    rw [← this]; exact hm
  | x :: xs, no, c, p, q, hrun, hn, hi, hm, hr, hct, hcl, he => by
    obtain ⟨r1, r2, r3, r4⟩ := hrun
    unfold runP at he
    cases ht : takeP t p x with
    | error e => rw [ht] at he; cases he
    | ok p1 =>
      rw [ht] at he
      dsimp only at he
      rw [List.flatMap_cons] at hr
      rw [← r2] at hi hm hr hct
      obtain ⟨i1, e1⟩ := Inv.take hi (by omega) ht
      have m1 := hm.take e1 (hcl x List.mem_cons_self) ⟨_, hr⟩ hct ht
      have hr2 : t.drop (x.at_ + x.bytes.length) = xs.flatMap Ln.bytes := by
        rw [← List.drop_drop, hr]; simp
      have hct2 : x.at_ + x.bytes.length ≤ t.length := by
        have := congrArg List.length hr
        simp only [List.length_drop, List.length_append] at this
        omega
      rw [r2] at i1 m1 hr2 hct2
      exact Mid.run t xs (no + 1) (c + x.bytes.length) p1 q r4 (by omega) i1 m1 hr2 hct2 (fun y hy => hcl y (List.mem_cons_of_mem _ hy)) he
/-- The block that ends, when its field has ended: what it is. -/
theorem Blk.ends {it : It} {said : List (List UInt8)} {fields : List Fld} (hk : it.kind = if it.fields = [] then 2 else 3) (h0 : endFieldN ⟨0, said, [], 0, 0, fields⟩ = 0) (hf : (endFieldP ⟨0, said, [], 0, 0, fields⟩).fields = it.fields)
    (t : List UInt8) (b st a e : Nat) (its : List It) (hst : st ≤ 399) (hr : (t.take e).drop a = it.raw) (hae : a < e) :
    endFieldN ⟨b, said, its, st, a, fields⟩ = 0 ∧ (endBlockP t (endFieldP ⟨b, said, its, st, a, fields⟩) e).items = its ++ [it] ∧ (endBlockP t (endFieldP ⟨b, said, its, st, a, fields⟩) e).stanzas ≤ st + 1 ∧ (endBlockP t (endFieldP ⟨b, said, its, st, a, fields⟩) e).said = [] ∧ (endBlockP t (endFieldP ⟨b, said, its, st, a, fields⟩) e).fields = [] ∧ (endBlockP t (endFieldP ⟨b, said, its, st, a, fields⟩) e).at_ = e := by
  have e0 := mv_endFieldN b st a its ⟨0, said, [], 0, 0, fields⟩ hst h0
  have e1 := mv_endField b st a its ⟨0, said, [], 0, 0, fields⟩
  refine ⟨e0, ?_⟩
  rw [show (⟨b, said, its, st, a, fields⟩ : PS) = mv b st a its ⟨0, said, [], 0, 0, fields⟩ from rfl, e1]
  have es := endField_said ⟨0, said, [], 0, 0, fields⟩
  generalize endFieldP ⟨0, said, [], 0, 0, fields⟩ = p at *
  unfold endBlockP
  rw [show (mv b st a its p).at_ = a from rfl, show (mv b st a its p).fields = p.fields from rfl, hf, if_neg (by omega)]
  split
  · rename_i hz
    rw [if_pos (List.length_eq_zero_iff.1 hz)] at hk
    refine ⟨?_, by show st ≤ st + 1; omega, es, rfl, rfl⟩
    show its ++ [⟨(2 : Nat), (t.take e).drop a, p.fields⟩] = _
    rw [hr, hf]
    obtain ⟨k, r, f⟩ := it
    simp only at hk ⊢
    rw [hk]; rfl
  · rename_i hz
    rw [if_neg (fun h => hz (by rw [h]; rfl))] at hk
    refine ⟨?_, by show st + 1 ≤ st + 1; omega, es, rfl, rfl⟩
    show its ++ [⟨(3 : Nat), (t.take e).drop a, p.fields⟩] = _
    rw [hr, hf]
    obtain ⟨k, r, f⟩ := it
    simp only at hk ⊢
    rw [hk]; rfl
/-- The text of a stanza's good fields is a block that stands alone. -/
theorem blk_fields (fs : List Fld) (hg : ∀ f ∈ fs, goodKey f.1 = true ∧ f.2.length ≤ 1000) (h0 : fs ≠ []) (hl : fs.length ≤ 40) : Blk ⟨3, textL (linesFs fs), fs⟩ := by
  have hclean : ∀ l ∈ linesFs fs, (10 : UInt8) ∉ l := by
    intro l hl
    unfold linesFs at hl
    obtain ⟨f, hf1, hf2⟩ := List.mem_flatMap.1 hl
    exact linesL_clean _ (hg f hf1).1 l hf2
  have hne : textL (linesFs fs) ≠ [] := by
    cases fs with
    | nil => exact absurd rfl h0
    | cons f r =>
      obtain ⟨x, r', e, _⟩ := lines_kinds (v := f.2) (hg f List.mem_cons_self).1
      unfold linesFs
      rw [List.flatMap_cons, e]
      unfold textL; simp
  -- the run at one place gives what is said and the fields
  obtain ⟨q, q1, q2, q3, q4, q5, q6⟩ := run_fields [] fs PS.new 0 0 rfl hg (by show 0 + fs.length ≤ 40; omega) (by decide)
  have hany : ∀ (t : List UInt8) (b st a no c : Nat) (its : List It), st ≤ 399 → ∃ b', runP t ⟨b, [], its, st, a, []⟩ (num no c (linesFs fs)) = .ok ⟨b', q.said, its, st, a, q.fields⟩ := by
    have key : ∀ (ts : List (List UInt8)) (p q : PS) (n0 c0 : Nat), (∀ l ∈ ts, kindL l ≠ 1) → runP [] p (num n0 c0 ts) = .ok q → ∀ (t : List UInt8) (b st a no c : Nat) (its : List It), st ≤ 399 → ∃ b', runP t (mv b st a its p) (num no c ts) = .ok (mv b' st a its q) := by
      intro ts
      induction ts with
      | nil => intro p q n0 c0 _ h t b st a no c its _; cases h; exact ⟨b, rfl⟩
      | cons l r ih =>
        intro p q n0 c0 hk h t b st a no c its hst
        have h' : (match takeP [] p ⟨n0, c0, l, true⟩ with | .error e => Except.error e | .ok q' => runP [] q' (num (n0 + 1) (c0 + l.length + 1) r)) = .ok q := h
        cases ht : takeP [] p ⟨n0, c0, l, true⟩ with
        | error e => rw [ht] at h'; cases h'
        | ok p1 =>
          rw [ht] at h'
          obtain ⟨b1, hb1⟩ := mv_take (t' := t) (b := b) (st := st) (a := a) (its := its) (no := no) (c := c) hst (by exact hk l List.mem_cons_self) ht
          obtain ⟨b2, hb2⟩ := ih p1 q _ _ (fun y hy => hk y (List.mem_cons_of_mem _ hy)) h' t b1 st a (no + 1) (c + l.length + 1) its hst
          refine ⟨b2, ?_⟩
          show runP t _ (⟨no, c, l, true⟩ :: num (no + 1) (c + l.length + 1) r) = _
          rw [run_cons (by exact hb1)]
          exact hb2
    have hkinds : ∀ l ∈ linesFs fs, kindL l ≠ 1 := by
      intro l hl
      unfold linesFs at hl
      obtain ⟨f, hf1, hf2⟩ := List.mem_flatMap.1 hl
      obtain ⟨x, r, e, kx, kr⟩ := lines_kinds (v := f.2) (hg f hf1).1
      rw [e] at hf2
      rcases List.mem_cons.1 hf2 with rfl | h
      · rw [kx]; decide
      · rw [kr l h]; decide
    intro t b st a no c its hst
    exact key (linesFs fs) PS.new q 0 0 hkinds q1 t b st a no c its hst
  refine ⟨by rw [if_neg h0], hne, linesFs fs, q.said, q.fields, rfl, hclean, hany, mv_endFieldN 0 0 0 [] q (by decide) q2, ?_⟩
  have := mv_endField 0 0 0 [] q
  rw [show (⟨0, q.said, [], 0, 0, q.fields⟩ : PS) = mv 0 0 0 [] q from rfl, this]
  show (endFieldP q).fields = fs
  rw [q3]; rfl
end Go.Proofs.YtflnlenkgbphpaaGreatDoor

namespace Go.Proofs.YtflnlenkgbphpaaGreatDoor
open Go.RowKit

/-- A slice of fields, readable. -/
def Flds (w : World) (v : Value) (fs : List (List UInt8 × List UInt8)) : Prop :=
  ∃ A cap, v = .slice A fs.length cap ∧ fs.length ≤ cap ∧ ∀ (i : Nat) (f : List UInt8 × List UInt8), fs[i]? = some f → ∃ b off, A = some ⟨b, off, none⟩ ∧ b < w.heap.size ∧ w.cell? ⟨b, off + i * 2, none⟩ = some (.string (B f.1)) ∧ w.cell? ⟨b, off + i * 2 + 1, none⟩ = some (.string (B f.2))
theorem Flds.below {w w' : World} {v : Value} {fs : List (List UInt8 × List UInt8)} {n : Nat} (h : Flds w v fs) (hb : Below n w w') (hn : w.heap.size ≤ n) : Flds w' v fs := by
  obtain ⟨A, cap, hv, hle, hc⟩ := h
  refine ⟨A, cap, hv, hle, fun i s hs => ?_⟩
  obtain ⟨b, off, hA, hlt, c0, c1⟩ := hc i s hs
  exact ⟨b, off, hA, Nat.lt_of_lt_of_le hlt hb.size, (hb.cell (p := ⟨b, off + i * 2, none⟩) (Nat.lt_of_lt_of_le hlt hn)).trans c0, (hb.cell (p := ⟨b, off + i * 2 + 1, none⟩) (Nat.lt_of_lt_of_le hlt hn)).trans c1⟩
theorem Flds.one (w : World) (t : TypeId) (k v : List UInt8) : Flds (w.alloc (.cells #[.string (B k), .string (B v)] t)) (.slice (some ⟨w.heap.size, 0, none⟩) 1 1) [(k, v)] := by
  refine ⟨_, 1, rfl, Nat.le_refl _, fun i f h => ⟨w.heap.size, 0, rfl, by simp, ?_⟩⟩
  rw [World.cell?_alloc_at _ _ _ _ rfl, World.cell?_alloc_at _ _ _ _ rfl]
  match i, h with
  | 0, h => simp at h; subst h; exact ⟨rfl, rfl⟩
  | n + 1, h => simp at h
theorem Flds.two (w : World) (t : TypeId) (k v k' v' : List UInt8) : Flds (w.alloc (.cells #[.string (B k), .string (B v), .string (B k'), .string (B v')] t)) (.slice (some ⟨w.heap.size, 0, none⟩) 2 2) [(k, v), (k', v')] := by
  refine ⟨_, 2, rfl, Nat.le_refl _, fun i f h => ⟨w.heap.size, 0, rfl, by simp, ?_⟩⟩
  rw [World.cell?_alloc_at _ _ _ _ rfl, World.cell?_alloc_at _ _ _ _ rfl]
  match i, h with
  | 0, h => simp at h; subst h; exact ⟨rfl, rfl⟩
  | 1, h => simp at h; subst h; exact ⟨rfl, rfl⟩
  | n + 2, h => simp at h

def cellsF (fs : List (List UInt8 × List UInt8)) : List Value := fs.flatMap fun f => [.string (B f.1), .string (B f.2)]
theorem cellsF_len : ∀ fs, (cellsF fs).length = fs.length * 2
  | [] => rfl
  | f :: r => by
    have := cellsF_len r
    show (Value.string (B f.1) :: Value.string (B f.2) :: cellsF r).length = _
    simp only [List.length_cons, this]; omega
theorem cellsF_at : ∀ (fs : List (List UInt8 × List UInt8)) (i : Nat) (f : List UInt8 × List UInt8), fs[i]? = some f → (cellsF fs)[i * 2]? = some (.string (B f.1)) ∧ (cellsF fs)[i * 2 + 1]? = some (.string (B f.2))
  | [], i, f, h => by simp at h
  | a :: r, 0, f, h => by simp at h; subst h; exact ⟨rfl, rfl⟩
  | a :: r, i + 1, f, h => by
    have ih := cellsF_at r i f (by simpa using h)
    have e : cellsF (a :: r) = Value.string (B a.1) :: Value.string (B a.2) :: cellsF r := rfl
    rw [e, show (i + 1) * 2 = i * 2 + 1 + 1 by omega]
    simpa using ih
theorem infoFld : (Tryz.prog.info? 35).map (fun i => (i.zero, i.size, i.bytes)) = some (some (.agg #[.string ⟨#[]⟩, .string ⟨#[]⟩]), 2, 32) := by kernel_rfl
theorem flds_of_own {w : World} {base : Nat} {v : Value} {fs : List (List UInt8 × List UInt8)} (h : w.ownsRow base 35 2 v fs.length (cellsF fs)) : Flds w v fs := by
  rcases Joins.ownsRow_forms h with ⟨rfl, hn⟩ | ⟨g, cap, rfl⟩
  · have : fs = [] := by cases fs with | nil => rfl | cons _ _ => simp at hn
    subst this
    exact ⟨none, 0, rfl, Nat.le_refl _, fun i f h => by simp at h⟩
  · refine ⟨_, cap, rfl, (by rcases h.2 with ⟨q, _⟩ | ⟨g', cap', cur, q, _, _, q2, _⟩; cases q; cases q; exact q2), fun i f hf => ⟨g, 0, rfl, (World.ownsRow.lt h g rfl).2, ?_⟩⟩
    have hi : i < fs.length := by
      rcases Nat.lt_or_ge i fs.length with q | q
      · exact q
      · rw [List.getElem?_eq_none q] at hf; cases hf
    obtain ⟨a, b⟩ := cellsF_at fs i f hf
    rw [Nat.zero_add, World.ownsRow.cellAt h (i * 2) (by omega), World.ownsRow.cellAt h (i * 2 + 1) (by omega)]
    exact ⟨a, b⟩
end Go.Proofs.YtflnlenkgbphpaaGreatDoor

namespace Go.Proofs.YtflnlenkgbphpaaGreatDoor
open Go.RowKit

/-- append onto a slice that is owned, as one step of a region that draws. -/
theorem step_append_own {P : Program} {ops : Array Oper} {o : Oper} {a : Act} {w : World} {K : Act → World → Prop} {Q : Exit → Act → World → Prop} {E : Prop}
    (hg : o.guard = none) (s x : Operand) (t : TypeId) (hop : o.op = Op.call { callee := Callee.builtin Builtin.append, args := #[s, x], argTypes := #[t, t] })
    (e : TypeId) (i : TypeInfo) (z : Value) (size bytes : Nat) (ht : P.underlying t = some (.slice e)) (hi : P.info? e = some i) (hz : i.zero = some z)
    (hsize : i.size = size) (hby : i.bytes = bytes) (hzs : z.cells.size = size) (hsz : 0 < size)
    (v : Value) (n : Nat) (xs : List Value) (hs : a.eval s = v) (hown : w.ownsRow 0 e size v n xs)
    (ad : Addr) (m c : Nat) (news : List Value) (hx : a.eval x = .slice (some ad) m c) (hl : news.length = m * size) (hnews : ∀ j u, news[j]? = some u → w.cell? (ad.add j) = some u) (h1 : ∀ u ∈ news, u.oneCell' = true)
    (h63 : n + m ≤ maxLen) (hbytes : (n + m) * bytes ≤ 140737488355328)
    (hK : ∀ v' w', w'.ownsRow 0 e size v' (n + m) (xs ++ news) → w.grownBy w' v.ownBlock → (v'.ownBlock = v.ownBlock ∨ v'.ownBlock = some w.heap.size) → K (a.put o.dst v') w') :
    if Region.wanted o (yielded ops a.tmps) = true then Oper.wp P o a w K Q else E := by
  have hw : Region.wanted o (yielded ops a.tmps) = true := by simp [Region.wanted, hg]
  rw [if_pos hw]
  obtain ⟨v', w', hr, h2, h3, h4, h5⟩ := run_append_own_at (P := P) w 0 t o.type e i z size bytes ht hi hz hsize hby hzs hsz v n xs hown ad m c news hl hnews h1 h63 hbytes (Nat.zero_le _)
  unfold Oper.wp
  simp [execOp, hop, resolve, invoke, builtin, hs, hx, hr, Result.andThen]
  exact hK v' w' h2 h3 h5

theorem cells_new_add (w : World) (t : TypeId) (cs : List Value) : ∀ j u, cs[j]? = some u → (w.alloc (.cells cs.toArray t)).cell? ((⟨w.heap.size, 0, none⟩ : Addr).add j) = some u := by
  intro j u hj
  have := (Cells.new w t cs.toArray).cell j
  have e : (⟨w.heap.size, 0, none⟩ : Addr).add j = ⟨w.heap.size, j, none⟩ := by unfold Addr.add; split <;> simp_all
  rw [e, this, List.getElem?_toArray, hj]
theorem slice_of_own {w : World} {base : Nat} {e : TypeId} {size : Nat} {v : Value} {n : Nat} {xs : List Value} (h : w.ownsRow base e size v (n + 1) xs) : ∃ g cap, v = .slice (some ⟨g, 0, none⟩) (n + 1) cap := by
  rcases h.2 with ⟨_, h⟩ | ⟨g, cap, _, h, _⟩
  · omega
  · exact ⟨g, cap, h⟩

/-- What is known behind an append of one element onto a slice that is owned; W: the world ahead of it. -/
theorem appended {w W w' : World} {g : Nat} {t : TypeId} {cur : Array Value} (hg : Cells w g t cur) {vw v' : Value} {n : Nat} {xs A : List Value} {e : TypeId} {size : Nat} (hown : w.ownsRow 0 e size vw n xs) (hne : vw.ownBlock ≠ some g)
    (hb : Below w.heap.size w W) (ho : w'.ownsRow 0 e size v' (n + 1) (xs ++ A)) (hgr : W.grownBy w' vw.ownBlock) (hbk : v'.ownBlock = vw.ownBlock ∨ v'.ownBlock = some W.heap.size) :
    (∃ g' cap, v' = .slice (some ⟨g', 0, none⟩) (n + 1) cap) ∧ Cells w' g t cur ∧ (∀ r, w.heap.size ≤ r → r < W.heap.size → w'.heap[r]? = W.heap[r]?) ∧
      (v'.ownBlock = vw.ownBlock ∨ ∃ k, v'.ownBlock = some k ∧ w.heap.size ≤ k ∧ k < w'.heap.size) ∧ Only (fun r => some r = vw.ownBlock) w w' := by
  have hs := hb.size
  refine ⟨slice_of_own ho, (hgr.block g (Nat.lt_of_lt_of_le hg.lt hs) (fun e => hne e.symm)).trans ((hb.block g hg.lt).trans hg), fun r h1 h2 => hgr.block r h2 (fun e => ?_), ?_, ?_⟩
  · have := (hown.lt r e.symm).2; omega
  · rcases hbk with h | h
    · exact .inl h
    · exact .inr ⟨_, h, hs, (ho.lt _ h).2⟩
  · exact (Only.of_below hb (Nat.le_refl _)).grown hgr (fun k hk => .inl hk.symm)

def tagged (T : Nat → Nat) (o : Option Nat) (t : Nat) : Prop := ∀ b, o = some b → T b = t
def retag (T : Nat → Nat) (lo : Nat) (o : Option Nat) (t : Nat) : Nat → Nat := fun b => if lo ≤ b ∧ o = some b then t else T b
/-- The same block, or a new one from lo on, below hi. -/
def sameOr (lo hi : Nat) (a b : Option Nat) : Prop := b = a ∨ ∃ k, b = some k ∧ lo ≤ k ∧ k < hi
theorem retag_old {T : Nat → Nat} {lo : Nat} {o : Option Nat} {t b : Nat} (h : b < lo) : retag T lo o t b = T b := by
  unfold retag; rw [if_neg (by omega)]
theorem retag_same {T : Nat → Nat} {lo hi : Nat} {a b : Option Nat} {t : Nat} (h : sameOr lo hi a b) (ha : tagged T a t) : tagged (retag T lo b t) b t := by
  intro k hk
  unfold retag
  split
  · rfl
  · rename_i hn
    rcases h with h | ⟨j, h, h1, _⟩
    · exact ha k (by rw [← h]; exact hk)
    · rw [h] at hk; cases hk; exact absurd ⟨h1, h⟩ hn
theorem retag_other {T : Nat → Nat} {lo : Nat} {o c : Option Nat} {t u : Nat} (hc : tagged T c u) (hl : ∀ k, c = some k → k < lo) : tagged (retag T lo o t) c u := by
  intro k hk; rw [retag_old (hl k hk)]; exact hc k hk
/-- A step of a tagged thing: other blocks lie as they lay; what was tagged is so still. -/
structure Step (w : World) (T : Nat → Nat) (w' : World) (T' : Nat → Nat) : Prop where
  only : Only (fun r => T r ≠ 0) w w'
  old : ∀ r, r < w.heap.size → T' r = T r
theorem Step.refl (w : World) (T : Nat → Nat) : Step w T w T := ⟨Only.refl _ _, fun _ _ => rfl⟩
theorem Step.trans {w w1 w2 : World} {T T1 T2 : Nat → Nat} (h : Step w T w1 T1) (g : Step w1 T1 w2 T2) : Step w T w2 T2 :=
  ⟨h.only.trans g.only (fun r hr hn => by rw [← h.old r hr]; exact hn), fun r hr => (g.old r (Nat.lt_of_lt_of_le hr h.only.size)).trans (h.old r hr)⟩
theorem Step.below {w w' : World} {T : Nat → Nat} (h : Below w.heap.size w w') : Step w T w' T := ⟨Only.of_below h (Nat.le_refl _), fun _ _ => rfl⟩

end Go.Proofs.YtflnlenkgbphpaaGreatDoor

namespace Go.Proofs.YtflnlenkgbphpaaGreatDoor
open Go.RowKit

/-- The values of the parser's slices, and of its items' fields. -/
structure PV where
  v1 : Value
  v3 : Value
  v6 : Value
  fvs : List Value
def pCells (p : PS) (text : ByteArray) (v1 v3 v6 : Value) : Array Value := #[.int .i64 p.begin_, v1, .string text, v3, .int .i64 p.stanzas, .int .i64 p.at_, v6]
def itemCells (it : It) (v : Value) : List Value := [.int .i64 it.kind, .string (B it.raw), v]
def itemsCells : List It → List Value → List Value
  | it :: l, v :: vs => itemCells it v ++ itemsCells l vs
  | _, _ => []
theorem itemsCells_snoc : ∀ (l : List It) (vs : List Value) (it : It) (v : Value), vs.length = l.length → itemsCells (l ++ [it]) (vs ++ [v]) = itemsCells l vs ++ itemCells it v
  | [], [], it, v, _ => by simp [itemsCells]
  | [], _ :: _, _, _, h => by simp at h
  | a :: l, [], it, v, h => by simp at h
  | a :: l, u :: vs, it, v, h => by
    have := itemsCells_snoc l vs it v (by simpa using h)
    simp only [List.cons_append, itemsCells, this, List.append_assoc]
theorem itemsCells_at : ∀ (l : List It) (vs : List Value) (i : Nat) (it : It) (v : Value), l[i]? = some it → vs[i]? = some v → (itemsCells l vs)[i * 3]? = some (.int .i64 it.kind) ∧ (itemsCells l vs)[i * 3 + 1]? = some (.string (B it.raw)) ∧ (itemsCells l vs)[i * 3 + 1 + 1]? = some v
  | [], _, i, it, v, h, _ => by simp at h
  | a :: l, [], i, it, v, _, h => by simp at h
  | a :: l, u :: vs, 0, it, v, h, h' => by simp at h h'; subst h h'; exact ⟨rfl, rfl, rfl⟩
  | a :: l, u :: vs, i + 1, it, v, h, h' => by
    obtain ⟨x, y, z⟩ := itemsCells_at l vs i it v (by simpa using h) (by simpa using h')
    have e : itemsCells (a :: l) (u :: vs) = .int .i64 a.kind :: .string (B a.raw) :: u :: itemsCells l vs := rfl
    have k : (i + 1) * 3 = i * 3 + 1 + 1 + 1 := by omega
    have k1 : i * 3 + 1 + 1 + 1 + 1 = (i * 3 + 1) + 1 + 1 + 1 := by omega
    have k2 : i * 3 + 1 + 1 + 1 + 1 + 1 = (i * 3 + 1 + 1) + 1 + 1 + 1 := by omega
    rw [e, k]
    refine ⟨?_, ?_, ?_⟩
    · rw [List.getElem?_cons_succ, List.getElem?_cons_succ, List.getElem?_cons_succ]; exact x
    · rw [k1, List.getElem?_cons_succ, List.getElem?_cons_succ, List.getElem?_cons_succ]; exact y
    · rw [k2, List.getElem?_cons_succ, List.getElem?_cons_succ, List.getElem?_cons_succ]; exact z
theorem cellsF_snoc (l : List Fld) (f : Fld) : cellsF (l ++ [f]) = cellsF l ++ [.string (B f.1), .string (B f.2)] := by unfold cellsF; simp
def saidCells (l : List (List UInt8)) : List Value := l.map fun x => .string (B x)

/-- A parser stands at b; what is its own begins at R. -/
structure ParserV (w : World) (T : Nat → Nat) (R b : Nat) (text : ByteArray) (p : PS) (V : PV) : Prop where
  cells : Cells w b 156 (pCells p text V.v1 V.v3 V.v6)
  tp : T b = 1
  r1 : w.ownsRow 0 9 1 V.v1 p.said.length (saidCells p.said)
  t1 : tagged T V.v1.ownBlock 2
  r3 : w.ownsRow 0 99 3 V.v3 p.items.length (itemsCells p.items V.fvs)
  t3 : tagged T V.v3.ownBlock 3
  r6 : w.ownsRow 0 35 2 V.v6 p.fields.length (cellsF p.fields)
  t6 : tagged T V.v6.ownBlock 4
  nf : V.fvs.length = p.items.length
  rf : ∀ (i : Nat) (it : It) (v : Value), p.items[i]? = some it → V.fvs[i]? = some v → w.ownsRow 0 35 2 v it.fields.length (cellsF it.fields) ∧ tagged T v.ownBlock 5
  low : ∀ k, T k ≠ 0 → R ≤ k ∧ k < w.heap.size
def ParserAt (w : World) (T : Nat → Nat) (R b : Nat) (text : ByteArray) (p : PS) : Prop := ∃ V, ParserV w T R b text p V

/-- A step of the parser: what isn't its own lies as it lay. -/
structure PStep (w : World) (T : Nat → Nat) (w' : World) (T' : Nat → Nat) : Prop where
  only : Only (fun r => T r ≠ 0) w w'
  old : ∀ r, r < w.heap.size → (T' r = 0 ↔ T r = 0)
theorem PStep.refl (w : World) (T : Nat → Nat) : PStep w T w T := ⟨Only.refl _ _, fun _ _ => Iff.rfl⟩
theorem PStep.trans {w w1 w2 : World} {T T1 T2 : Nat → Nat} (h : PStep w T w1 T1) (g : PStep w1 T1 w2 T2) : PStep w T w2 T2 :=
  ⟨h.only.trans g.only (fun r hr hn => fun e => hn ((h.old r hr).2 e)), fun r hr => (g.old r (Nat.lt_of_lt_of_le hr h.only.size)).trans (h.old r hr)⟩
theorem PStep.below {w w' : World} {T : Nat → Nat} (h : Below w.heap.size w w') : PStep w T w' T := ⟨Only.of_below h (Nat.le_refl _), fun _ _ => Iff.rfl⟩
theorem PStep.drewN {w w' : World} {T T' : Nat → Nat} (h : PStep w T w' T') (n : Nat) : PStep w T (w'.drewN n) T' := ⟨h.only.drewN n, h.old⟩

theorem ParserV.same {w w' : World} {T : Nat → Nat} {R b : Nat} {text : ByteArray} {p : PS} {V : PV} (h : ParserV w T R b text p V) (hs : ∀ k, T k ≠ 0 → w'.heap[k]? = w.heap[k]?) (hz : w.heap.size ≤ w'.heap.size) : ParserV w' T R b text p V := by
  have s : ∀ {o : Option Nat} {t : Nat}, tagged T o t → t ≠ 0 → ∀ k, o = some k → w'.heap[k]? = w.heap[k]? := fun ht hne k hk => hs k (by rw [ht k hk]; exact hne)
  exact ⟨(hs b (by rw [h.tp]; decide)).trans h.cells, h.tp, row_same h.r1 (s h.t1 (by decide)), h.t1, row_same h.r3 (s h.t3 (by decide)), h.t3, row_same h.r6 (s h.t6 (by decide)), h.t6, h.nf,
    fun i it v h1 h2 => ⟨row_same (h.rf i it v h1 h2).1 (s (h.rf i it v h1 h2).2 (by decide)), (h.rf i it v h1 h2).2⟩, fun k hk => ⟨(h.low k hk).1, Nat.lt_of_lt_of_le (h.low k hk).2 hz⟩⟩
theorem ParserV.below {w w' : World} {T : Nat → Nat} {R b : Nat} {text : ByteArray} {p : PS} {V : PV} (h : ParserV w T R b text p V) (hb : Below w.heap.size w w') : ParserV w' T R b text p V :=
  h.same (fun k hk => hb.block k (h.low k hk).2) hb.size
theorem ParserAt.below {w w' : World} {T : Nat → Nat} {R b : Nat} {text : ByteArray} {p : PS} (h : ParserAt w T R b text p) (hb : Below w.heap.size w w') : ParserAt w' T R b text p := by
  obtain ⟨V, h⟩ := h; exact ⟨V, h.below hb⟩
theorem ParserV.lt {w : World} {T : Nat → Nat} {R b : Nat} {text : ByteArray} {p : PS} {V : PV} (h : ParserV w T R b text p V) : b < w.heap.size := h.cells.lt

/-- A new parser. -/
theorem ParserV.new (w : World) (text : ByteArray) (R : Nat) (hR : R ≤ w.heap.size) : ParserV (w.alloc (.cells #[.int .i64 0, .slice none 0 0, .string text, .slice none 0 0, .int .i64 0, .int .i64 0, .slice none 0 0] 156)) (fun k => if k = w.heap.size then 1 else 0) R w.heap.size text PS.new ⟨.slice none 0 0, .slice none 0 0, .slice none 0 0, []⟩ := by
  have tn : ∀ t, tagged (fun k => if k = w.heap.size then 1 else 0) (Value.slice none 0 0).ownBlock t := fun t k h => by cases h
  have rn : ∀ e size, (w.alloc (.cells #[.int .i64 0, .slice none 0 0, .string text, .slice none 0 0, .int .i64 0, .int .i64 0, .slice none 0 0] 156)).ownsRow 0 e size (.slice none 0 0) 0 [] := fun e size => ⟨by simp, .inl ⟨rfl, rfl⟩⟩
  refine ⟨Cells.new _ _ _, if_pos rfl, rn _ _, tn 2, rn _ _, tn 3, rn _ _, tn 4, rfl, (fun i it v h _ => by cases h), fun k hk => ?_⟩
  have : k = w.heap.size := by
    rcases Nat.decEq k w.heap.size with h | h
    · rw [if_neg h] at hk; exact absurd rfl hk
    · exact h
  subst this
  exact ⟨hR, by simp⟩

/-- The slots of a slice that is owned. -/
theorem own_slice {w : World} {base : Nat} {e : TypeId} {size : Nat} {v : Value} {n : Nat} {xs : List Value} (h : w.ownsRow base e size v n xs) : ∃ a cap, v = .slice a n cap ∧ n ≤ cap := by
  rcases h.2 with ⟨rfl, rfl⟩ | ⟨g, cap, cur, rfl, _, _, hle, _⟩
  · exact ⟨none, 0, rfl, Nat.le_refl _⟩
  · exact ⟨_, cap, rfl, hle⟩

set_option maxHeartbeats 400000 in
theorem under_any {w : World} {T : Nat → Nat} {R b : Nat} {text : ByteArray} {p : PS} {V : PV} (h : ParserV w T R b text p V) :
    Calls Tryz.prog 117 #[.pointer (some ⟨b, 0, none⟩)] w fun e w' => e = .returned (.bool (!p.said.isEmpty)) ∧ w = w' := by
  obtain ⟨a, cap, e1, hc⟩ := own_slice h.r1
  have c1 : w.cell? ⟨b, 1, none⟩ = some (.slice a p.said.length cap) := by rw [← e1]; exact h.cells.cell 1
  have hl := h.lt
  have hb : (!p.said.isEmpty) = decide (0 < p.said.length) := by cases p.said <;> simp
  rw [hb]
  clear h
  go_enter Tryz.func117, Tryz.ntmps117
  go_wp2
  go_ret
  exact ⟨rfl, rfl⟩
set_option maxHeartbeats 400000 in
theorem full_any {w : World} {T : Nat → Nat} {R b : Nat} {text : ByteArray} {p : PS} {V : PV} (h : ParserV w T R b text p V) :
    Calls Tryz.prog 122 #[.pointer (some ⟨b, 0, none⟩)] w fun e w' => e = .returned (.bool (fullP p)) ∧ w = w' := by
  obtain ⟨a, cap, e1, hc⟩ := own_slice h.r6
  have c1 : w.cell? ⟨b, 6, none⟩ = some (.slice a p.fields.length cap) := by rw [← e1]; exact h.cells.cell 6
  have c2 : w.cell? ⟨b, 4, none⟩ = some (.int .i64 p.stanzas) := h.cells.cell 4
  have hl := h.lt
  unfold fullP
  clear h
  by_cases h0 : p.fields.length = 0
  · rw [if_pos h0]
    rw [h0] at c1
    have e2 : (p.stanzas == 400) = ((p.stanzas : Int) == 400) := by rw [Bool.eq_iff_iff]; simp; omega
    rw [e2]
    go_enter Tryz.func122, Tryz.ntmps122
    go_wp2
    go_ret
    exact ⟨rfl, rfl⟩
  · rw [if_neg h0]
    have e2 : (p.fields.length == 40) = ((p.fields.length : Int) == 40) := by rw [Bool.eq_iff_iff]; simp; omega
    have e3 : ((p.fields.length : Int) == 0) = false := beq_eq_false_iff_ne.2 (by omega)
    rw [e2]
    go_enter Tryz.func122, Tryz.ntmps122
    go_wp2
    go_ret
    exact ⟨rfl, rfl⟩
end Go.Proofs.YtflnlenkgbphpaaGreatDoor

