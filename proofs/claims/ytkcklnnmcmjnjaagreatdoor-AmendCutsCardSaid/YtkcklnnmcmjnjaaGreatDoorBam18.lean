/- Texts put together: NG, EA, NH, NF, NI, NJ, EB, IM, PL, PM, PV, AC. -/
import Derived.Lib.Strings
import Derived.Test.YtkcklnnmcmjnjaaGreatDoorBam1
import Derived.Test.YtkcklnnmcmjnjaaGreatDoorBam2
import Derived.Test.YtkcklnnmcmjnjaaGreatDoorBam10
import Derived.Test.YtkcklnnmcmjnjaaGreatDoorBam11
import Derived.Test.YtkcklnnmcmjnjaaGreatDoorBam13
import Derived.Test.YtkcklnnmcmjnjaaGreatDoorBam17
set_option linter.unusedVariables false
namespace Go.Proofs.YtkcklnnmcmjnjaaGreatDoor

def nums (es : List En) : List Int := (es.map Prod.snd).filter fun n => decide (0 < n)
theorem nums_append (a b : List En) : nums (a ++ b) = nums a ++ nums b := by unfold nums; rw [List.map_append, List.filter_append]
theorem nums_len (es : List En) : (nums es).length = lenR es := by
  unfold nums lenR
  rw [List.filter_map, List.length_map]; rfl
theorem setE_snd (es : List En) (k : Nat) (it : It) : (setE es k it).map Prod.snd = es.map Prod.snd := by
  unfold setE
  apply List.ext_getElem?
  intro j
  rw [List.getElem?_map, List.getElem?_modify, List.getElem?_map]
  cases es[j]? with
  | none => rfl
  | some e =>
    by_cases h : k = j
    · simp [h]
    · simp [h]
/-- A list whose stanzas are well numbered. -/
structure OkL (l : LS) : Prop where
  wf : WF l.es
  pos : 0 < l.next
  lt : ∀ n ∈ nums l.es, n < l.next
  nd : (nums l.es).Nodup
  len : lenR l.es ≤ 400
theorem OkL.replace {l : LS} (h : OkL l) {k : Nat} {e : En} (he : l.es[k]? = some e) (h3 : e.1.kind = 3) (fs : List Fld) : OkL ⟨setE l.es k (itemOf fs), l.next⟩ := by
  have hn : nums (setE l.es k (itemOf fs)) = nums l.es := by unfold nums; rw [setE_snd]
  refine ⟨h.wf.set k (itemOf fs) rfl e he h3, h.pos, ?_, ?_, ?_⟩
  · show ∀ n ∈ nums (setE l.es k (itemOf fs)), n < l.next
    rw [hn]; exact h.lt
  · show (nums (setE l.es k (itemOf fs))).Nodup
    rw [hn]; exact h.nd
  · show lenR (setE l.es k (itemOf fs)) ≤ 400
    rw [← nums_len, hn, nums_len]; exact h.len
theorem cut_sub (es : List En) (k : Nat) : (nums (cutE es k)).Sublist (nums es) := by
  unfold nums cutE
  refine List.Sublist.filter _ (List.Sublist.map _ ?_)
  conv => rhs; rw [← List.take_append_drop k es]
  exact (List.Sublist.refl _).append (by rw [← List.drop_drop]; exact List.drop_sublist _ _)
theorem OkL.delete {l : LS} (h : OkL l) (k : Nat) : OkL ⟨cutE l.es k, l.next⟩ := by
  have hs := cut_sub l.es k
  refine ⟨h.wf.cut k, h.pos, fun n hn => h.lt n (hs.subset hn), hs.nodup h.nd, ?_⟩
  show lenR (cutE l.es k) ≤ 400
  have := hs.length_le
  rw [nums_len, nums_len] at this
  have := h.len
  omega
theorem put_perm (es : List En) (k : Nat) (it : It) {n : Int} (hn : 0 < n) : (nums (putE es k (it, n))).Perm (n :: nums es) := by
  have e1 : nums (putE es k (it, n)) = nums (es.take k) ++ n :: nums (es.drop k) := by
    unfold putE
    rw [nums_append]
    congr 1
    unfold nums
    rw [List.map_cons, List.filter_cons, if_pos (by simpa using hn)]
  have e2 : nums es = nums (es.take k) ++ nums (es.drop k) := by rw [← nums_append, List.take_append_drop]
  rw [e1, e2]
  exact List.perm_middle
theorem OkL.insert {l : LS} (h : OkL l) (k : Nat) (fs : List Fld) (hf : ¬ 400 ≤ lenR l.es) : OkL ⟨putE l.es k (itemOf fs, l.next), l.next + 1⟩ := by
  have hp := put_perm l.es k (itemOf fs) h.pos
  have hpos := h.pos
  refine ⟨h.wf.put k ⟨rfl, h.pos⟩, by show 0 < l.next + 1; omega, fun n hn => ?_, hp.nodup_iff.2 (List.nodup_cons.2 ⟨fun q => ?_, h.nd⟩), ?_⟩
  · show n < l.next + 1
    rcases List.mem_cons.1 (hp.subset hn) with q | q
    · omega
    · have := h.lt n q; omega
  · have := h.lt _ q; omega
  · show lenR (putE l.es k (itemOf fs, l.next)) ≤ 400
    have := hp.length_eq
    rw [nums_len, List.length_cons, nums_len] at this
    omega
theorem findR_stz {es : List En} (h : WF es) {id : Int} {k : Nat} (hf : findR es id = some k) : ∃ e, es[k]? = some e ∧ e.1.kind = 3 ∧ e.2 = id := by
  obtain ⟨_, e, he, h2, h3⟩ := findR_lt hf
  rcases h e (List.mem_of_getElem? he) with ⟨q, _⟩ | ⟨_, q⟩
  · exact ⟨e, he, q, h2⟩
  · omega
theorem OkL.edit {l : LS} (h : OkL l) (kind id : Int) (fs : List Fld) : OkL (editR l kind id fs).ls := by
  unfold editR
  split
  · unfold replaceR
    split
    · exact h
    · rename_i k hk
      obtain ⟨e, he, h3, _⟩ := findR_stz h.wf hk
      split
      · exact h.replace he h3 fs
      · exact h
  · split
    · unfold deleteR
      split
      · exact h
      · exact h.delete _
    · unfold insertR
      split
      · exact h
      · split
        · split
          · exact h
          · rename_i hf; exact h.insert _ fs hf
        · exact h
/-- How an edit's length and next number grow. -/
theorem edit_len (l : LS) (kind id : Int) (fs : List Fld) : (editR l kind id fs).ls.es.length ≤ l.es.length + 1 ∧ l.next ≤ (editR l kind id fs).ls.next ∧ (editR l kind id fs).ls.next ≤ l.next + 1 := by
  unfold editR
  split
  · unfold replaceR
    split
    · exact ⟨Nat.le_succ _, Int.le_refl _, by show l.next ≤ l.next + 1; omega⟩
    · split
      · exact ⟨by show (setE _ _ _).length ≤ _; rw [setE_len]; omega, Int.le_refl _, by show l.next ≤ l.next + 1; omega⟩
      · exact ⟨Nat.le_succ _, Int.le_refl _, by show l.next ≤ l.next + 1; omega⟩
  · split
    · unfold deleteR
      split
      · exact ⟨Nat.le_succ _, Int.le_refl _, by show l.next ≤ l.next + 1; omega⟩
      · exact ⟨by show (cutE _ _).length ≤ _; unfold cutE; rw [List.length_append, List.length_take, List.length_drop]; omega, Int.le_refl _, by show l.next ≤ l.next + 1; omega⟩
    · unfold insertR
      split
      · exact ⟨Nat.le_succ _, Int.le_refl _, by show l.next ≤ l.next + 1; omega⟩
      · split
        · split
          · exact ⟨Nat.le_succ _, Int.le_refl _, by show l.next ≤ l.next + 1; omega⟩
          · exact ⟨by show (putE _ _ _).length ≤ _; unfold putE; rw [List.length_append, List.length_cons, List.length_take, List.length_drop]; omega, by show l.next ≤ l.next + 1; omega, Int.le_refl _⟩
        · exact ⟨Nat.le_succ _, Int.le_refl _, by show l.next ≤ l.next + 1; omega⟩
end Go.Proofs.YtkcklnnmcmjnjaaGreatDoor

namespace Go.Proofs.YtkcklnnmcmjnjaaGreatDoor

/-- Why an edit isn't good; 0: it is. -/
def goodE (ed : Ed) : Nat := if ed.kind = 1 ∨ ed.kind = 3 then chkN ed.fields else if ed.kind = 2 ∧ ed.fields.length = 0 then 0 else 2
theorem goodE_le (ed : Ed) : goodE ed ≤ 11 := by
  unfold goodE
  split
  · exact chkN_le _
  · split <;> decide
def chkOn : Nat → List Ed → Int × Nat
  | _, [] => (-9, 0)
  | k, ed :: r => if goodE ed = 0 then chkOn (k + 1) r else ((k : Nat), goodE ed)
/-- Where a batch isn't good, why. -/
def chkB (eds : List Ed) : Int × Nat := if eds.length < 1 ∨ 40 < eds.length then (-9, 1) else chkOn 0 eds
theorem chkOn_at : ∀ (eds : List Ed) (q k : Nat) (ed : Ed), (∀ x ∈ eds.take k, goodE x = 0) → eds[k]? = some ed → goodE ed ≠ 0 → chkOn q eds = (((q + k : Nat) : Int), goodE ed)
  | [], q, k, ed, _, h, _ => by simp at h
  | a :: r, q, 0, ed, _, h, h0 => by
    simp at h; subst h
    unfold chkOn
    rw [if_neg h0]; rfl
  | a :: r, q, k + 1, ed, hg, h, h0 => by
    have ih := chkOn_at r (q + 1) k ed (fun x hx => hg x (by rw [List.take_succ_cons]; exact List.mem_cons_of_mem _ hx)) (by simpa using h) h0
    unfold chkOn
    rw [if_pos (hg a (by rw [List.take_succ_cons]; exact List.mem_cons_self)), ih, show q + 1 + k = q + (k + 1) by omega]
theorem chkOn_all : ∀ (eds : List Ed) (q : Nat), (∀ x ∈ eds, goodE x = 0) → chkOn q eds = (-9, 0)
  | [], _, _ => rfl
  | a :: r, q, h => by
    unfold chkOn
    rw [if_pos (h a List.mem_cons_self)]
    exact chkOn_all r (q + 1) (fun x hx => h x (List.mem_cons_of_mem _ hx))
theorem chkOn_good : ∀ (eds : List Ed) (q : Nat), (chkOn q eds).2 = 0 → ∀ x ∈ eds, goodE x = 0
  | [], _, _, x, hx => by cases hx
  | a :: r, q, h, x, hx => by
    unfold chkOn at h
    split at h
    · rename_i h0
      rcases List.mem_cons.1 hx with rfl | hx
      · exact h0
      · exact chkOn_good r (q + 1) h x hx
    · rename_i h0; exact absurd h h0
theorem chkB_good {eds : List Ed} (h : (chkB eds).2 = 0) : (1 ≤ eds.length ∧ eds.length ≤ 40) ∧ ∀ x ∈ eds, goodE x = 0 := by
  unfold chkB at h
  split at h
  · cases h
  · exact ⟨by omega, chkOn_good eds 0 h⟩
theorem chkB_of {eds : List Ed} (h1 : 1 ≤ eds.length) (h2 : eds.length ≤ 40) (h : ∀ x ∈ eds, goodE x = 0) : chkB eds = (-9, 0) := by
  unfold chkB
  rw [if_neg (by omega)]
  exact chkOn_all eds 0 h
theorem chkB_zero {eds : List Ed} (h : (chkB eds).2 = 0) : chkB eds = (-9, 0) := by
  obtain ⟨⟨a, b⟩, c⟩ := chkB_good h
  exact chkB_of a b c
theorem goodE_kind {ed : Ed} (h : goodE ed = 0) : ed.kind = 1 ∨ ed.kind = 2 ∨ ed.kind = 3 := by
  unfold goodE at h
  split at h
  · rename_i q; omega
  · split at h
    · rename_i q; exact .inr (.inl q.1)
    · cases h
/-- An edit on a list. -/
def stepE (l : LS) (ed : Ed) : Did := editR l ed.kind ed.id ed.fields
def lsOn : LS → List Ed → LS
  | l, [] => l
  | l, ed :: r => lsOn (stepE l ed).ls r
/-- All edits are done. -/
def okOn : LS → List Ed → Prop
  | _, [] => True
  | l, ed :: r => (stepE l ed).bad = 0 ∧ okOn (stepE l ed).ls r
/-- The numbers that are given. -/
def idsOn : LS → List Ed → List Int
  | _, [] => []
  | l, ed :: r => (if ed.kind = 3 then [(stepE l ed).id] else []) ++ idsOn (stepE l ed).ls r
/-- Where one is refused, why. -/
def doOn : Nat → LS → List Ed → Int × Nat
  | _, _, [] => (-9, 0)
  | k, l, ed :: r => if (stepE l ed).bad = 0 then doOn (k + 1) (stepE l ed).ls r else ((k : Nat), (stepE l ed).bad)
def doB (l : LS) (eds : List Ed) : Int × Nat := if (chkB eds).2 = 0 then doOn 0 l eds else chkB eds
theorem lsOn_append : ∀ (l : LS) (a b : List Ed), lsOn l (a ++ b) = lsOn (lsOn l a) b
  | _, [], _ => rfl
  | l, ed :: r, b => lsOn_append (stepE l ed).ls r b
theorem okOn_append : ∀ (l : LS) (a b : List Ed), okOn l (a ++ b) ↔ okOn l a ∧ okOn (lsOn l a) b
  | _, [], _ => by simp [okOn, lsOn]
  | l, ed :: r, b => by
    show ((stepE l ed).bad = 0 ∧ okOn (stepE l ed).ls (r ++ b)) ↔ ((stepE l ed).bad = 0 ∧ okOn (stepE l ed).ls r) ∧ okOn (lsOn (stepE l ed).ls r) b
    rw [okOn_append, and_assoc]
theorem idsOn_append : ∀ (l : LS) (a b : List Ed), idsOn l (a ++ b) = idsOn l a ++ idsOn (lsOn l a) b
  | _, [], _ => rfl
  | l, ed :: r, b => by
    show _ ++ idsOn (stepE l ed).ls (r ++ b) = (_ ++ idsOn (stepE l ed).ls r) ++ idsOn (lsOn (stepE l ed).ls r) b
    rw [idsOn_append, List.append_assoc]
theorem doOn_append : ∀ (q : Nat) (l : LS) (a b : List Ed), okOn l a → doOn q l (a ++ b) = doOn (q + a.length) (lsOn l a) b
  | q, l, [], b, _ => rfl
  | q, l, ed :: r, b, h => by
    have ih := doOn_append (q + 1) (stepE l ed).ls r b h.2
    show (if (stepE l ed).bad = 0 then doOn (q + 1) (stepE l ed).ls (r ++ b) else _) = doOn (q + (r.length + 1)) (lsOn (stepE l ed).ls r) b
    rw [if_pos h.1, ih, show q + 1 + r.length = q + (r.length + 1) by omega]
theorem doOn_ok : ∀ (q : Nat) (l : LS) (a : List Ed), okOn l a → doOn q l a = (-9, 0) := fun q l a h => by
  have := doOn_append q l a [] h
  rw [List.append_nil] at this
  rw [this]; rfl
theorem take_snoc {eds : List Ed} {k : Nat} {ed : Ed} (h : eds[k]? = some ed) : eds.take (k + 1) = eds.take k ++ [ed] := by rw [List.take_add_one, h]; rfl
theorem take_mid {eds : List Ed} {k : Nat} {ed : Ed} (h : eds[k]? = some ed) : eds = eds.take k ++ ed :: eds.drop (k + 1) := by
  obtain ⟨hk, e⟩ := List.getElem?_eq_some_iff.1 h
  conv => lhs; rw [← List.take_append_drop k eds]
  rw [← e]
  congr 1
  exact List.drop_eq_getElem_cons hk
theorem take_len {eds : List Ed} {k : Nat} {ed : Ed} (h : eds[k]? = some ed) : (eds.take k).length = k := by
  have := (List.getElem?_eq_some_iff.1 h).1
  rw [List.length_take]; omega
/-- The list goes one edit on. -/
theorem lsOn_snoc {l : LS} {eds : List Ed} {k : Nat} {ed : Ed} (h : eds[k]? = some ed) : lsOn l (eds.take (k + 1)) = (stepE (lsOn l (eds.take k)) ed).ls := by rw [take_snoc h, lsOn_append]; rfl
theorem okOn_snoc {l : LS} {eds : List Ed} {k : Nat} {ed : Ed} (h : eds[k]? = some ed) (ho : okOn l (eds.take k)) (h0 : (stepE (lsOn l (eds.take k)) ed).bad = 0) : okOn l (eds.take (k + 1)) := by
  rw [take_snoc h, okOn_append]; exact ⟨ho, h0, trivial⟩
theorem idsOn_snoc {l : LS} {eds : List Ed} {k : Nat} {ed : Ed} (h : eds[k]? = some ed) : idsOn l (eds.take (k + 1)) = idsOn l (eds.take k) ++ (if ed.kind = 3 then [(stepE (lsOn l (eds.take k)) ed).id] else []) := by
  rw [take_snoc h, idsOn_append]
  show _ ++ ((if ed.kind = 3 then _ else _) ++ []) = _
  rw [List.append_nil]
theorem doOn_at {l : LS} {eds : List Ed} {k : Nat} {ed : Ed} (h : eds[k]? = some ed) (ho : okOn l (eds.take k)) (h0 : (stepE (lsOn l (eds.take k)) ed).bad ≠ 0) : doOn 0 l eds = (((k : Nat) : Int), (stepE (lsOn l (eds.take k)) ed).bad) := by
  have e := take_mid h
  have : doOn 0 l (eds.take k ++ ed :: eds.drop (k + 1)) = (((k : Nat) : Int), (stepE (lsOn l (eds.take k)) ed).bad) := by
    rw [doOn_append 0 l _ _ ho, take_len h]
    show (if _ then _ else _) = _
    rw [if_neg h0, Nat.zero_add]
  rw [← e] at this
  exact this
theorem idsOn_len (l : LS) : ∀ (eds : List Ed), (idsOn l eds).length ≤ eds.length := by
  intro eds
  induction eds generalizing l with
  | nil => exact Nat.le_refl _
  | cons ed r ih =>
    have := ih (stepE l ed).ls
    show ((if ed.kind = 3 then [(stepE l ed).id] else []) ++ idsOn (stepE l ed).ls r).length ≤ r.length + 1
    rw [List.length_append]
    split
    · simp only [List.length_cons, List.length_nil]; omega
    · simp only [List.length_nil]; omega
theorem OkL.on {l : LS} (h : OkL l) : ∀ (eds : List Ed), OkL (lsOn l eds) := by
  intro eds
  induction eds generalizing l with
  | nil => exact h
  | cons ed r ih => exact ih (h.edit ed.kind ed.id ed.fields)
/-- An error's number of an edit is none above 11. -/
theorem step_le (l : LS) (ed : Ed) : (stepE l ed).bad ≤ 11 := by
  unfold stepE editR
  split
  · unfold replaceR
    split
    · show (7 : Nat) ≤ 11; decide
    · split
      · exact Nat.zero_le _
      · exact chkN_le _
  · split
    · unfold deleteR
      split
      · show (7 : Nat) ≤ 11; decide
      · exact Nat.zero_le _
    · unfold insertR
      split
      · show (7 : Nat) ≤ 11; decide
      · split
        · split
          · show (11 : Nat) ≤ 11; decide
          · exact Nat.zero_le _
        · exact chkN_le _
end Go.Proofs.YtkcklnnmcmjnjaaGreatDoor

namespace Go.Proofs.YtkcklnnmcmjnjaaGreatDoor

def cnt3 (its : List It) : Nat := (its.filter fun it => decide (it.kind = 3)).length
theorem cnt3_snoc (its : List It) (it : It) : cnt3 (its ++ [it]) = cnt3 its + if it.kind = 3 then 1 else 0 := by
  unfold cnt3
  rw [List.filter_append, List.length_append]
  congr 1
  by_cases h : it.kind = 3
  · rw [if_pos h, List.filter_cons, if_pos (by simpa using h)]; rfl
  · rw [if_neg h, List.filter_cons, if_neg (by simpa using h)]; rfl
def CntP (p : PS) : Prop := cnt3 p.items = p.stanzas
theorem CntP.endField {p : PS} (h : CntP p) : CntP (endFieldP p) := by
  unfold endFieldP
  split
  · exact h
  · exact h
theorem CntP.endItem {t : List UInt8} {p : PS} (h : CntP p) (kind e : Nat) (hk : kind ≠ 3) : CntP (endItemP t p kind e) := by
  show cnt3 (p.items ++ [_]) = p.stanzas
  rw [cnt3_snoc, if_neg (by show ((kind : Nat) : Int) ≠ 3; omega), h]; rfl
theorem CntP.endBlock {t : List UInt8} {p : PS} (h : CntP p) (e : Nat) : CntP (endBlockP t p e) := by
  unfold endBlockP
  split
  · exact h
  · split
    · exact h.endItem 2 e (by decide)
    · show cnt3 (p.items ++ [_]) = p.stanzas + 1
      rw [cnt3_snoc, if_pos (by rfl), h]
theorem CntP.went {p : PS} (h : CntP p) (x : Ln) : CntP (wentP p x) := by
  unfold wentP
  split <;> exact h
theorem CntP.then_ {p : PS} (h : CntP p) (x : Ln) : CntP (thenP p x) := by
  unfold thenP
  split
  · exact (h.went x).endField
  · exact h.went x
theorem CntP.put {t : List UInt8} {p : PS} (h : CntP p) (x : Ln) : CntP (putP t p x) := by
  unfold putP
  split
  · exact h
  · split
    · exact (h.endBlock x.at_).endItem 1 _ (by decide)
    · exact h
theorem CntP.take {t : List UInt8} {p q : PS} {x : Ln} (h : CntP p) (he : takeP t p x = .ok q) : CntP q := by
  obtain ⟨_, _, rfl⟩ := take_parts he
  exact (h.then_ x).put x
theorem CntP.run (t : List UInt8) : ∀ (xs : List Ln) (p q : PS), CntP p → runP t p xs = .ok q → CntP q
  | [], p, q, h, he => by cases he; exact h
  | x :: xs, p, q, h, he => by
    unfold runP at he
    cases ht : takeP t p x with
    | error e => rw [ht] at he; cases he
    | ok p1 =>
      rw [ht] at he
      exact CntP.run t xs p1 q (h.take ht) he
theorem parse_cnt {t : List UInt8} {its : List It} (h : parseL t = .ok its) : cnt3 its ≤ 400 := by
  obtain ⟨p, hr, h0, rfl, g, _⟩ := parse_good h
  have hc : CntP (endBlockP t (endFieldP p) t.length) := ((CntP.run t _ _ _ (by rfl) hr).endField).endBlock _
  rw [show cnt3 _ = _ from hc]
  exact g.st
end Go.Proofs.YtkcklnnmcmjnjaaGreatDoor

namespace Go.Proofs.YtkcklnnmcmjnjaaGreatDoor
open Go.RowKit Go.Shelf
attribute [local go_sem] Oper.semAt_some

theorem parseA7 : parseL [65, 58, 32, 49, 10] = .ok [⟨3, [65, 58, 32, 49, 10], [([65], [49])]⟩] := by kernel_rfl
theorem fromA7 : fromL [⟨3, [65, 58, 32, 49, 10], [([65], [49])]⟩] = ⟨[(⟨3, [65, 58, 32, 49, 10], [([65], [49])]⟩, 1)], 2⟩ := by kernel_rfl
theorem wfA7 : WF [((⟨3, [65, 58, 32, 49, 10], [([65], [49])]⟩ : It), (1 : Int))] := by
  intro e he
  rw [List.mem_singleton.1 he]
  exact .inl ⟨rfl, by decide⟩
/-- Insert by a list whose stanzas are well numbered. -/
theorem insert_R (lb : Nat) (ev : Value) (ps : List Pr) (nx id : Int) (fs : List Fld) (v : Value) (w : World) (h : LA w lb ev ps nx) (hwf : WF (ps.map Prod.fst)) (h4 : lenR (ps.map Prod.fst) ≤ 400) (hps : ps.length ≤ 10000) (hnx : -1000000 ≤ nx ∧ nx ≤ 1000000) (hs : FldR w v fs) (hfs : Fine7 fs) :
    Calls Tryz.prog 133 #[ptr lb, .int .i64 id, v] w fun e w' => ∃ u ev' ps', e = .returned (.tuple #[.int .i64 (insertR ⟨ps.map Prod.fst, nx⟩ id fs).id, u]) ∧ WrR w lb ev ps (insertR ⟨ps.map Prod.fst, nx⟩ id fs) u w' ev' ps' := by
  have := insert_list lb ev ps nx id fs v w h hps hnx hs hfs
  rw [gapP_R hwf, full_R hwf h4, show insertW (gapR (ps.map Prod.fst) id) (decide (400 ≤ lenR (ps.map Prod.fst))) ⟨ps.map Prod.fst, nx⟩ fs = insertR ⟨ps.map Prod.fst, nx⟩ id fs by rw [insertR_W]] at this
  exact this
theorem len_R (lb : Nat) (ev : Value) (ps : List Pr) (nx : Int) (w : World) (h : LR w lb ev ps nx) (hwf : WF (ps.map Prod.fst)) (hps : ps.length ≤ 1000000) :
    Calls Tryz.prog 41 #[ptr lb] w fun e w' => e = .returned (.int .i64 (lenR (ps.map Prod.fst) : Nat)) ∧ Below w.heap.size w w' := by
  have := len_any lb ev ps nx w h hps
  rw [stzP_len hwf] at this
  exact this
end Go.Proofs.YtkcklnnmcmjnjaaGreatDoor

namespace Go.Proofs.YtkcklnnmcmjnjaaGreatDoor

end Go.Proofs.YtkcklnnmcmjnjaaGreatDoor

namespace Go.Proofs.YtkcklnnmcmjnjaaGreatDoor
open Go.RowKit Go.Shelf

/-- Entries of a modest size. -/
def SzL (es : List En) : Prop := ∀ e ∈ es, e.1.raw.length ≤ 100000 ∧ e.1.fields.length ≤ 1000000
theorem edit_mem (l : LS) (kind id : Int) (fs : List Fld) : ∀ e ∈ (editR l kind id fs).ls.es, e ∈ l.es ∨ (e.1 = itemOf fs ∧ chkN fs = 0) := by
  intro e he
  unfold editR at he
  split at he
  · unfold replaceR at he
    split at he
    · exact .inl he
    · rename_i k hk
      split at he
      · rename_i hc
        have he' : e ∈ setE l.es k (itemOf fs) := he
        unfold setE at he'
        obtain ⟨j, hj⟩ := List.getElem?_of_mem he'
        rw [List.getElem?_modify] at hj
        cases hx : l.es[j]? with
        | none => rw [hx] at hj; cases hj
        | some y =>
          rw [hx] at hj
          have hj' : (if k = j then (itemOf fs, y.2) else y) = e := Option.some.inj hj
          by_cases q : k = j
          · rw [if_pos q] at hj'
            rw [← hj']; exact .inr ⟨rfl, hc⟩
          · rw [if_neg q] at hj'
            rw [← hj']; exact .inl (List.mem_of_getElem? hx)
      · exact .inl he
  · split at he
    · unfold deleteR at he
      split at he
      · exact .inl he
      · have he' : e ∈ cutE l.es _ := he
        unfold cutE at he'
        rcases List.mem_append.1 he' with q | q
        · exact .inl (List.mem_of_mem_take q)
        · exact .inl (List.mem_of_mem_drop q)
    · unfold insertR at he
      split at he
      · exact .inl he
      · split at he
        · rename_i hc
          split at he
          · exact .inl he
          · have he' : e ∈ putE l.es _ (itemOf fs, l.next) := he
            unfold putE at he'
            rcases List.mem_append.1 he' with q | q
            · exact .inl (List.mem_of_mem_take q)
            · rcases List.mem_cons.1 q with q | q
              · rw [q]; exact .inr ⟨rfl, hc⟩
              · exact .inl (List.mem_of_mem_drop q)
        · exact .inl he
/-- The list that a law carries: its blocks lie at or above S0. -/
structure Carry (S0 : Nat) (w : World) (lb : Nat) (ev : Value) (ps : List Pr) (l : LS) (m : Nat) : Prop where
  la : LA w lb ev ps l.next
  es : ps.map Prod.fst = l.es
  ok : OkL l
  sz : SzL l.es
  lb0 : S0 ≤ lb
  ev0 : ∀ b, ev.ownBlock = some b → S0 ≤ b
  len : l.es.length ≤ m
  nx : l.next ≤ m + 1
theorem Carry.wf {S0 : Nat} {w : World} {lb : Nat} {ev : Value} {ps : List Pr} {l : LS} {m : Nat} (h : Carry S0 w lb ev ps l m) : WF (ps.map Prod.fst) := by rw [h.es]; exact h.ok.wf
theorem Carry.below {S0 : Nat} {w w' : World} {lb : Nat} {ev : Value} {ps : List Pr} {l : LS} {m N : Nat} (h : Carry S0 w lb ev ps l m) (hb : Below N w w') (hN : w.heap.size ≤ N) : Carry S0 w' lb ev ps l m :=
  ⟨h.la.below hb hN, h.es, h.ok, h.sz, h.lb0, h.ev0, h.len, h.nx⟩
theorem Carry.ents {S0 : Nat} {w : World} {lb : Nat} {ev : Value} {ps : List Pr} {l : LS} {m : Nat} (h : Carry S0 w lb ev ps l m) (hm : m ≤ 10000) : EntsOk ps := by
  have hmem : ∀ p ∈ ps, p.1 ∈ l.es := fun p hp => by rw [← h.es]; exact List.mem_map_of_mem hp
  have hl : ps.length = l.es.length := by rw [← h.es, List.length_map]
  refine ⟨by have := h.len; omega, fun p hp => (h.sz _ (hmem p hp)).1, fun p hp => (h.sz _ (hmem p hp)).2, fun p hp => ?_⟩
  rcases h.ok.wf _ (hmem p hp) with ⟨_, q⟩ | ⟨_, q⟩
  · have hn : p.1.2 ∈ nums l.es := by
      unfold nums
      exact List.mem_filter.2 ⟨List.mem_map_of_mem (hmem p hp), by simpa using q⟩
    have := h.ok.lt _ hn
    have := h.nx
    omega
  · omega
theorem Carry.str {S0 : Nat} {w : World} {lb : Nat} {ev : Value} {ps : List Pr} {l : LS} {m : Nat} (h : Carry S0 w lb ev ps l m) : StR w lb ev ps l.next (.slice none 0 0) [] :=
  ⟨h.la, entsQ_none w, (fun b e => by cases e), (fun p hp => by cases hp)⟩
theorem SzL.edit {l : LS} (h : SzL l.es) (kind id : Int) {fs : List Fld} (h1 : (foldG fs).length ≤ 100000) (h2 : fs.length ≤ 1000000) : SzL (editR l kind id fs).ls.es := fun e he => by
  rcases edit_mem l kind id fs e he with q | ⟨q, _⟩
  · exact h e q
  · rw [q]; exact ⟨h1, h2⟩
/-- Behind an edit (of whatever kind, by whatever call) the list is carried on. -/
theorem Carry.edit {S0 : Nat} {w w' : World} {lb : Nat} {ev ev' : Value} {ps ps' : List Pr} {l : LS} {m : Nat} (h : Carry S0 w lb ev ps l m) (kind id : Int) {fs : List Fld} (h1 : (foldG fs).length ≤ 100000) (h2 : fs.length ≤ 1000000)
    (la : LA w' lb ev' ps' (editR l kind id fs).ls.next) (es : ps'.map Prod.fst = (editR l kind id fs).ls.es) (hS : S0 ≤ w.heap.size) (hev : ∀ b, ev'.ownBlock = some b → ev.ownBlock = some b ∨ w.heap.size ≤ b) : Carry S0 w' lb ev' ps' (editR l kind id fs).ls (m + 1) := by
  obtain ⟨a, _, c⟩ := edit_len l kind id fs
  have hl := h.len
  have hn := h.nx
  refine ⟨la, es, h.ok.edit kind id fs, h.sz.edit kind id h1 h2, h.lb0, fun b e => ?_, by omega, by omega⟩
  rcases hev b e with q | q
  · exact h.ev0 b q
  · omega
end Go.Proofs.YtkcklnnmcmjnjaaGreatDoor

namespace Go.Proofs.YtkcklnnmcmjnjaaGreatDoor

theorem foldN_of : ∀ (fs : List Fld), (∀ f ∈ fs, checkN f.1 f.2 = 0) → foldN fs = 0
  | [], _ => rfl
  | f :: r, h => by
    unfold foldN
    rw [if_pos (h f List.mem_cons_self)]
    exact foldN_of r (fun x hx => h x (List.mem_cons_of_mem _ hx))
structure GkP (p : PS) : Prop where
  fl : ∀ f ∈ p.fields, checkN f.1 f.2 = 0
  each : ∀ it ∈ p.items, (∀ f ∈ it.fields, checkN f.1 f.2 = 0) ∧ (it.kind = 3 → it.fields.length ≠ 0)
theorem GkP.endField {p : PS} (h : GkP p) (h0 : endFieldN p = 0) : GkP (endFieldP p) := by
  unfold endFieldP
  split
  · exact h
  · rename_i hs
    unfold endFieldN at h0
    rw [if_neg hs] at h0
    have hu : unfoldN p.said = 0 := by
      by_cases q : unfoldN p.said = 0
      · exact q
      · rw [if_pos q] at h0; exact h0
    refine ⟨fun f hf => ?_, h.each⟩
    rcases List.mem_append.1 hf with hf | hf
    · exact h.fl f hf
    · rw [List.mem_singleton.1 hf]; exact (unfold_zero hu).1
theorem GkP.endItem {t : List UInt8} {p : PS} (h : GkP p) (kind e : Nat) (hk : kind = 3 → p.fields.length ≠ 0) : GkP (endItemP t p kind e) :=
  ⟨fun f hf => (by cases hf), fun it hi => by
    rcases List.mem_append.1 hi with hi | hi
    · exact h.each it hi
    · rw [List.mem_singleton.1 hi]
      exact ⟨h.fl, fun q => hk (by have q' : ((kind : Nat) : Int) = 3 := q; omega)⟩⟩
theorem GkP.endBlock {t : List UInt8} {p : PS} (h : GkP p) (e : Nat) : GkP (endBlockP t p e) := by
  unfold endBlockP
  split
  · exact h
  · split
    · exact h.endItem 2 e (fun q => absurd q (by decide))
    · rename_i hl
      exact ⟨(h.endItem (t := t) 3 e (fun _ => hl)).fl, (h.endItem (t := t) 3 e (fun _ => hl)).each⟩
theorem GkP.went {p : PS} (h : GkP p) (x : Ln) : GkP (wentP p x) := by
  unfold wentP
  split
  · exact ⟨h.fl, h.each⟩
  · exact h
theorem GkP.take {t : List UInt8} {p q : PS} {x : Ln} (h : GkP p) (he : takeP t p x = .ok q) : GkP q := by
  obtain ⟨h1, _, rfl⟩ := take_parts he
  have h2 : GkP (thenP p x) := by
    unfold thenP
    split
    · rename_i q; exact (h.went x).endField (h1 q)
    · exact h.went x
  unfold putP
  split
  · exact ⟨h2.fl, h2.each⟩
  · split
    · exact ⟨((h2.endBlock x.at_).endItem 1 _ (fun q => absurd q (by decide))).fl, ((h2.endBlock x.at_).endItem 1 _ (fun q => absurd q (by decide))).each⟩
    · exact ⟨h2.fl, h2.each⟩
theorem GkP.run (t : List UInt8) : ∀ (xs : List Ln) (p q : PS), GkP p → runP t p xs = .ok q → GkP q
  | [], p, q, h, he => by cases he; exact h
  | x :: xs, p, q, h, he => by
    unfold runP at he
    cases ht : takeP t p x with
    | error e => rw [ht] at he; cases he
    | ok p1 =>
      rw [ht] at he
      exact GkP.run t xs p1 q (h.take ht) he
/-- A parsed stanza's fields are a stanza's. -/
theorem parse_gk {t : List UInt8} {its : List It} (h : parseL t = .ok its) : ∀ it ∈ its, it.kind = 3 → chkN it.fields = 0 := by
  obtain ⟨p, hr, h0, rfl, g, _⟩ := parse_good h
  have hs : GkP (endBlockP t (endFieldP p) t.length) := ((GkP.run t _ _ _ ⟨(fun f h => by cases h), (fun it h => by cases h)⟩ hr).endField h0).endBlock _
  intro it hi h3
  have h40 : it.fields.length ≤ 40 := g.each it hi
  obtain ⟨h1, h2⟩ := hs.each it hi
  unfold chkN
  rw [if_neg (h2 h3), if_neg (by omega)]
  exact foldN_of _ h1
/-- All stanzas' fields are a stanza's. -/
def GkL (es : List En) : Prop := ∀ e ∈ es, e.1.kind = 3 → chkN e.1.fields = 0
theorem GkL.edit {l : LS} (h : GkL l.es) (kind id : Int) (fs : List Fld) : GkL (editR l kind id fs).ls.es := fun e he h3 => by
  rcases edit_mem l kind id fs e he with h1 | ⟨h1, h2⟩
  · exact h e h1 h3
  · rw [h1]; exact h2
theorem GkL.on {l : LS} (h : GkL l.es) : ∀ (eds : List Ed), GkL (lsOn l eds).es := by
  intro eds
  induction eds generalizing l with
  | nil => exact h
  | cons ed r ih => exact ih (h.edit ed.kind ed.id ed.fields)

end Go.Proofs.YtkcklnnmcmjnjaaGreatDoor

namespace Go.Proofs.YtkcklnnmcmjnjaaGreatDoor
/-- Lines of a text: none holds a line end, all but the last are ended, none is empty and not ended. -/
def wf : List Ln → Prop
  | [] => True
  | x :: xs => (10 : UInt8) ∉ x.text ∧ (x.ended = true ∨ (xs = [] ∧ x.text ≠ [])) ∧ wf xs
def sees (x : Ln) : List UInt8 × Bool := (x.text, x.ended)

theorem head_cleanI (t r : List UInt8) (h : (10 : UInt8) ∉ t) : head (t ++ 10 :: r) = t := by
  unfold head
  induction t with
  | nil => simp
  | cons c t ih =>
    have hc : c ≠ 10 := fun e => h (by rw [e]; exact List.mem_cons_self)
    rw [List.cons_append, List.takeWhile_cons, if_pos (by simp [hc]), ih (fun hm => h (List.mem_cons_of_mem _ hm))]
theorem head_all (t : List UInt8) (h : (10 : UInt8) ∉ t) : head t = t := by
  unfold head
  induction t with
  | nil => rfl
  | cons c t ih =>
    have hc : c ≠ 10 := fun e => h (by rw [e]; exact List.mem_cons_self)
    rw [List.takeWhile_cons, if_pos (by simp [hc]), ih (fun hm => h (List.mem_cons_of_mem _ hm))]
theorem nl_clean (t : List UInt8) (h : (10 : UInt8) ∉ t) : nl t = false := by
  unfold nl
  rw [Bool.eq_false_iff]
  intro hc
  exact h (by simpa using hc)
theorem nl_end (t r : List UInt8) : nl (t ++ 10 :: r) = true := by unfold nl; simp

/-- Lines again. -/
theorem linesOn_wf : ∀ (xs : List Ln) (no at_ : Nat), wf xs → (linesOn no at_ (xs.flatMap Ln.bytes)).map sees = xs.map sees
  | [], no, at_, _ => by simp [linesOn_nil]
  | x :: xs, no, at_, ⟨h1, h2, h3⟩ => by
    rcases h2 with he | ⟨rfl, hne⟩
    · have eb : (x :: xs).flatMap Ln.bytes = x.text ++ 10 :: xs.flatMap Ln.bytes := by simp [Ln.bytes, he]
      rw [eb, linesOn_cons _ _ _ (by simp)]
      rw [head_cleanI _ _ h1, nl_end]
      have hu : used (x.text ++ 10 :: xs.flatMap Ln.bytes) = x.text.length + 1 := by
        unfold used; rw [head_cleanI _ _ h1, nl_end]; simp
      have hd : (x.text ++ 10 :: xs.flatMap Ln.bytes).drop (x.text.length + 1) = xs.flatMap Ln.bytes := by
        rw [show x.text ++ 10 :: xs.flatMap Ln.bytes = (x.text ++ [10]) ++ xs.flatMap Ln.bytes by simp]
        exact List.drop_left' (by simp)
      rw [hu, hd, List.map_cons, List.map_cons, linesOn_wf xs _ _ h3]
      simp [sees, he]
    · have he : x.ended = false ∨ x.ended = true := by cases x.ended <;> simp
      rcases he with he | he
      · have eb : [x].flatMap Ln.bytes = x.text := by simp [Ln.bytes, he]
        rw [eb, linesOn_cons _ _ _ hne, head_all _ h1, nl_clean _ h1]
        have hu : used x.text = x.text.length := by unfold used; rw [head_all _ h1, nl_clean _ h1]; simp
        rw [hu, List.drop_length, linesOn_nil]
        simp [sees, he]
      · have eb : [x].flatMap Ln.bytes = x.text ++ 10 :: [] := by simp [Ln.bytes, he]
        rw [eb, linesOn_cons _ _ _ (by simp), head_cleanI _ _ h1, nl_end]
        have hu : used (x.text ++ 10 :: []) = x.text.length + 1 := by unfold used; rw [head_cleanI _ _ h1, nl_end]; simp
        rw [hu]
        have hd : (x.text ++ 10 :: []).drop (x.text.length + 1) = [] := by rw [List.drop_eq_nil_of_le]; simp
        rw [hd, linesOn_nil]
        simp [sees, he]
theorem wf_linesOn : ∀ (n no at_ : Nat) (l : List UInt8), l.length ≤ n → wf (linesOn no at_ l)
  | 0, _, _, l, h => by
    have : l = [] := List.length_eq_zero_iff.1 (by omega)
    subst this; rw [linesOn_nil]; trivial
  | n + 1, no, at_, l, h => by
    by_cases hl : l = []
    · subst hl; rw [linesOn_nil]; trivial
    · have hp := used_pos l hl
      have hc := linesOn_clean l.length no at_ l (Nat.le_refl _)
      rw [linesOn_cons _ _ _ hl] at hc ⊢
      refine ⟨hc _ List.mem_cons_self, ?_, wf_linesOn n _ _ _ (by simp only [List.length_drop]; omega)⟩
      cases hn : nl l with
      | true => exact .inl rfl
      | false =>
        have hh : head l = l := head_all l (fun hm => by unfold nl at hn; simp at hn; exact hn hm)
        have hu : used l = l.length := by unfold used; rw [hh, hn]; simp
        refine .inr ⟨?_, ?_⟩
        · rw [hu, List.drop_length, linesOn_nil]
        · show head l ≠ []
          rw [hh]; exact hl
theorem wf_linesOf (l : List UInt8) : wf (linesOf l) := wf_linesOn _ _ _ _ (Nat.le_refl _)

/-- With another text ahead of each. -/
def ahead (j : List UInt8) (x : Ln) : Ln := { x with text := j ++ x.text }
theorem wf_ahead (j : List UInt8) (hj : (10 : UInt8) ∉ j) : ∀ xs, wf xs → wf (xs.map (ahead j))
  | [], _ => trivial
  | x :: xs, ⟨h1, h2, h3⟩ => by
    refine ⟨fun hm => ?_, ?_, wf_ahead j hj xs h3⟩
    · rcases List.mem_append.1 hm with h | h
      · exact hj h
      · exact h1 h
    · rcases h2 with h | ⟨rfl, h⟩
      · exact .inl h
      · refine .inr ⟨rfl, fun e => h ?_⟩
        exact (List.append_eq_nil_iff.1 e).2
/-- A text without another one ahead of each line; false: it isn't there. -/
def dd (p : List UInt8) (ys : List (List UInt8 × Bool)) : List UInt8 × Bool :=
  if ys.all (fun y => p.isPrefixOf y.1) then (ys.flatMap (fun y => y.1.drop p.length ++ if y.2 then [10] else []), true) else ([], false)
theorem dd_ahead (j : List UInt8) (hj : (10 : UInt8) ∉ j) (l : List UInt8) :
    dd j ((linesOf ((linesOf l).flatMap fun x => j ++ x.bytes)).map sees) = (l, true) := by
  have e : (linesOf l).flatMap (fun x => j ++ x.bytes) = ((linesOf l).map (ahead j)).flatMap Ln.bytes := by
    rw [List.flatMap_map]
    congr 1
    funext x
    simp only [Ln.bytes, ahead, List.append_assoc]
    rfl
  rw [e]
  rw [show linesOf (((linesOf l).map (ahead j)).flatMap Ln.bytes) = linesOn 0 0 (((linesOf l).map (ahead j)).flatMap Ln.bytes) from rfl, linesOn_wf _ 0 0 (wf_ahead j hj _ (wf_linesOf l))]
  unfold dd
  rw [if_pos]
  · congr 1
    conv => rhs; rw [← linesOf_join l]
    rw [List.map_map, List.flatMap_map]
    congr 1
    funext x
    simp [sees, ahead, Ln.bytes]
    rfl
  · rw [List.all_eq_true]
    intro y hy
    obtain ⟨x, hx, rfl⟩ := List.mem_map.1 hy
    obtain ⟨x, hx, rfl⟩ := List.mem_map.1 hx
    simp [sees, ahead]
end Go.Proofs.YtkcklnnmcmjnjaaGreatDoor

namespace Go.Proofs.YtkcklnnmcmjnjaaGreatDoor
open Go.RowKit Go.Shelf

set_option maxRecDepth 1000000
end Go.Proofs.YtkcklnnmcmjnjaaGreatDoor

namespace Go.Proofs.YtkcklnnmcmjnjaaGreatDoor
open Go.RowKit Go.Shelf

end Go.Proofs.YtkcklnnmcmjnjaaGreatDoor

namespace Go.Proofs.YtkcklnnmcmjnjaaGreatDoor
open Go.RowKit Go.Shelf Go.ChangeShapes Go.WideShapes

attribute [local go_sem] errV_0
theorem foldN_good : ∀ (fs : List Fld), foldN fs = 0 → ∀ f ∈ fs, goodKey f.1 = true ∧ f.2.length ≤ 1000
  | [], _, f, hf => by cases hf
  | g :: r, h, f, hf => by
    unfold foldN at h
    split at h
    · rename_i h0
      rcases List.mem_cons.1 hf with rfl | hf
      · exact checkN_zero h0
      · exact foldN_good r h f hf
    · rename_i h0; exact absurd h h0
end Go.Proofs.YtkcklnnmcmjnjaaGreatDoor

namespace Go.Proofs.YtkcklnnmcmjnjaaGreatDoor

/-- A kind's word. -/
def wordL (k : Int) : List UInt8 := if k = 1 then [114, 101, 112, 108, 97, 99, 101] else if k = 2 then [100, 101, 108, 101, 116, 101] else if k = 3 then [105, 110, 115, 101, 114, 116] else []
/-- An edit's first line. -/
def lineA (k id : Int) : List UInt8 := if k = 1 ∨ k = 2 ∨ k = 3 then 32 :: (wordL k ++ 32 :: Lib.itoa id) else []
def ind2 (l : List UInt8) : List UInt8 := 32 :: 32 :: l
def edLs (ed : Ed) : List (List UInt8) := lineA ed.kind ed.id :: (linesFs ed.fields).map ind2
def edT (ed : Ed) : List UInt8 := textL (edLs ed)
def batchLs (eds : List Ed) : List (List UInt8) := eds.flatMap edLs
def batchT (eds : List Ed) : List UInt8 := textL (batchLs eds)
theorem wordL_no {k : Int} {c : UInt8} (h : c.toNat < 97) : c ∉ wordL k := by
  unfold wordL
  have key : ∀ l : List UInt8, (∀ x ∈ l, 97 ≤ x.toNat) → c ∉ l := fun l hl hc => by have := hl c hc; omega
  split
  · exact key _ (by decide)
  · split
    · exact key _ (by decide)
    · split
      · exact key _ (by decide)
      · simp
theorem lineA_clean (k id : Int) : (10 : UInt8) ∉ lineA k id := by
  unfold lineA
  split
  · intro h
    rcases List.mem_cons.1 h with h | h
    · exact absurd h (by decide)
    · rcases List.mem_append.1 h with h | h
      · exact wordL_no (by decide) h
      · rcases List.mem_cons.1 h with h | h
        · exact absurd h (by decide)
        · exact itoa_no (by decide) (.inl (by decide)) h
  · simp
theorem ind2_clean {l : List UInt8} (h : (10 : UInt8) ∉ l) : (10 : UInt8) ∉ ind2 l := by
  unfold ind2
  intro hm
  rcases List.mem_cons.1 hm with hm | hm
  · exact absurd hm (by decide)
  · rcases List.mem_cons.1 hm with hm | hm
    · exact absurd hm (by decide)
    · exact h hm
/-- A good edit's fields. -/
structure GoodF (fs : List Fld) : Prop where
  each : ∀ f ∈ fs, goodKey f.1 = true ∧ f.2.length ≤ 1000
  len : fs.length ≤ 40
theorem goodE_F {ed : Ed} (h : goodE ed = 0) : GoodF ed.fields := by
  unfold goodE at h
  split at h
  · obtain ⟨_, h2, h3⟩ := chkN_zero h
    exact ⟨foldN_good _ h3, h2⟩
  · split at h
    · rename_i q
      rw [List.length_eq_zero_iff.1 q.2]
      exact ⟨fun f hf => (by cases hf), Nat.zero_le _⟩
    · cases h
theorem GoodF.clean {fs : List Fld} (h : GoodF fs) : ∀ l ∈ linesFs fs, (10 : UInt8) ∉ l := by
  intro l hl
  unfold linesFs at hl
  obtain ⟨f, hf1, hf2⟩ := List.mem_flatMap.1 hl
  exact linesL_clean _ (h.each f hf1).1 l hf2
theorem edLs_clean {ed : Ed} (h : GoodF ed.fields) : ∀ l ∈ edLs ed, (10 : UInt8) ∉ l := by
  intro l hl
  rcases List.mem_cons.1 hl with rfl | hl
  · exact lineA_clean _ _
  · obtain ⟨x, hx, rfl⟩ := List.mem_map.1 hl
    exact ind2_clean (h.clean x hx)
theorem batchLs_clean {eds : List Ed} (h : ∀ ed ∈ eds, goodE ed = 0) : ∀ l ∈ batchLs eds, (10 : UInt8) ∉ l := by
  intro l hl
  obtain ⟨ed, h1, h2⟩ := List.mem_flatMap.1 hl
  exact edLs_clean (goodE_F (h ed h1)) l h2
theorem batchT_cons (ed : Ed) (r : List Ed) : batchT (ed :: r) = edT ed ++ batchT r := by
  unfold batchT batchLs edT; rw [List.flatMap_cons, textL_append]
theorem batchT_nil : batchT [] = [] := rfl
theorem batchT_append (a b : List Ed) : batchT (a ++ b) = batchT a ++ batchT b := by
  unfold batchT batchLs; rw [List.flatMap_append, textL_append]
theorem batchT_snoc (a : List Ed) (ed : Ed) : batchT (a ++ [ed]) = batchT a ++ edT ed := by
  rw [batchT_append, batchT_cons, batchT_nil, List.append_nil]
/-- Indented lines, one by one. -/
theorem ind_text (ls : List (List UInt8)) (h : ∀ l ∈ ls, (10 : UInt8) ∉ l) : (linesOf (textL ls)).flatMap (fun x => [32, 32] ++ x.bytes) = textL (ls.map ind2) := by
  show (linesOn 0 0 (textL ls)).flatMap _ = _
  rw [linesOn_num ls 0 0 h]
  suffices ∀ (ls : List (List UInt8)) (no c : Nat), (num no c ls).flatMap (fun x => [32, 32] ++ x.bytes) = textL (ls.map ind2) from this ls 0 0
  intro ls
  induction ls with
  | nil => intro no c; rfl
  | cons l r ih =>
    intro no c
    show ([32, 32] ++ (⟨no, c, l, true⟩ : Ln).bytes) ++ (num (no + 1) (c + l.length + 1) r).flatMap _ = _
    rw [ih]
    unfold textL ind2 Ln.bytes
    simp
theorem foldG_text (fs : List Fld) : foldG fs = textL (linesFs fs) := by
  unfold foldG textL linesFs; rw [List.flatMap_assoc]
theorem edT_eq {ed : Ed} (h : GoodF ed.fields) : edT ed = lineA ed.kind ed.id ++ 10 :: (linesOf (foldG ed.fields)).flatMap (fun x => [32, 32] ++ x.bytes) := by
  rw [foldG_text, ind_text _ h.clean]
  show textL (_ :: _) = _
  unfold textL; simp
def kindOf (l : List UInt8) : Int := if l = wordL 1 then 1 else if l = wordL 2 then 2 else if l = wordL 3 then 3 else 0
theorem kindOf_word {k : Int} (h : k = 1 ∨ k = 2 ∨ k = 3) : kindOf (wordL k) = k := by
  rcases h with rfl | rfl | rfl <;> decide
def unfoldF (t : List UInt8) : List Fld := match parseL (dd [32, 32] ((linesOf t).map sees)).1 with | .error _ => [] | .ok its => (recs its).flatten
def lineS (t : List UInt8) : List UInt8 := t.takeWhile (· != 10)
def restD (t : List UInt8) : List UInt8 := t.drop ((lineS t).length + 1)
def nameS (t : List UInt8) : List UInt8 := (Lib.trimPrefix (lineS t) [32]).takeWhile (· != 32)
def figS (t : List UInt8) : List UInt8 := (Lib.trimPrefix (lineS t) [32]).drop ((nameS t).length + 1)
/-- The edit that a piece of a text says. -/
def saidE (t : List UInt8) : Ed := ⟨kindOf (nameS t), atoiV (figS t), unfoldF (restD t)⟩
theorem takeW (c : UInt8) (a b : List UInt8) (h : c ∉ a) : (a ++ c :: b).takeWhile (· != c) = a := by
  induction a with
  | nil => simp
  | cons x r ih =>
    have hx : (x != c) = true := by
      have : c ≠ x := fun e => h (e ▸ List.mem_cons_self)
      simp; exact fun e => this e.symm
    rw [List.cons_append, List.takeWhile_cons, if_pos hx, ih (fun hm => h (List.mem_cons_of_mem _ hm))]
theorem dropW (c : UInt8) (a b : List UInt8) : (a ++ c :: b).drop (a.length + 1) = b := by
  rw [show a ++ c :: b = (a ++ [c]) ++ b by simp]
  exact List.drop_left' (by simp)
/-- What good fields' indented lines say. -/
theorem unfold_good {fs : List Fld} (h : GoodF fs) : unfoldF (textL ((linesFs fs).map ind2)) = fs := by
  unfold unfoldF
  have e := dd_ahead [32, 32] (by decide) (textL (linesFs fs))
  rw [ind_text _ h.clean] at e
  rw [e]
  show (match parseL (textL (linesFs fs)) with | .error _ => [] | .ok its => (recs its).flatten) = fs
  by_cases h0 : fs = []
  · subst h0; rfl
  · have p := parse_between [⟨3, textL (linesFs fs), fs⟩] (by show 1 ≤ 400; decide) (fun it hit => by rw [List.mem_singleton.1 hit]; exact blk_fields fs h.each h0 h.len)
    have e1 : (apartL [(⟨3, textL (linesFs fs), fs⟩ : It)]) = [⟨3, textL (linesFs fs), fs⟩] := rfl
    rw [e1] at p
    have e2 : ([(⟨3, textL (linesFs fs), fs⟩ : It)].flatMap It.raw) = textL (linesFs fs) := by simp
    rw [e2] at p
    rw [p]
    show (recs [(⟨3, textL (linesFs fs), fs⟩ : It)]).flatten = fs
    simp [recs]
theorem said_good {ed : Ed} (h : GoodF ed.fields) (hk : ed.kind = 1 ∨ ed.kind = 2 ∨ ed.kind = 3) (hi : I64 ed.id) : saidE (edT ed) = ed := by
  have e : edT ed = lineA ed.kind ed.id ++ 10 :: textL ((linesFs ed.fields).map ind2) := by
    show textL (_ :: _) = _
    unfold textL; simp
  have e1 : lineS (edT ed) = lineA ed.kind ed.id := by rw [e]; exact takeW 10 _ _ (lineA_clean _ _)
  have e2 : restD (edT ed) = textL ((linesFs ed.fields).map ind2) := by unfold restD; rw [e1, e]; exact dropW 10 _ _
  have e3 : lineA ed.kind ed.id = 32 :: (wordL ed.kind ++ 32 :: Lib.itoa ed.id) := by unfold lineA; rw [if_pos hk]
  have e4 : Lib.trimPrefix (lineS (edT ed)) [32] = wordL ed.kind ++ 32 :: Lib.itoa ed.id := by
    rw [e1, e3]; simp [Lib.trimPrefix, Lib.hasPrefix]
  have e5 : nameS (edT ed) = wordL ed.kind := by unfold nameS; rw [e4]; exact takeW 32 _ _ (wordL_no (by decide))
  have e6 : figS (edT ed) = Lib.itoa ed.id := by unfold figS; rw [e4, e5]; exact dropW 32 _ _
  unfold saidE
  rw [e5, e6, e2, kindOf_word hk, atoiV_itoa hi, unfold_good h]
/-- The pieces of a text: the program's cuts. -/
def piecesOn (t : List UInt8) : Nat → List Ln → List (List UInt8)
  | b, [] => [t.drop b]
  | b, x :: r => if b < x.at_ ∧ Lib.hasPrefix x.text [32, 32] = false then (t.drop b).take (x.at_ - b) :: piecesOn t x.at_ r else piecesOn t b r
def readL (t : List UInt8) : List Ed := (piecesOn t 0 (linesOf t)).map saidE
theorem pieces_ind (t : List UInt8) (b : Nat) : ∀ (ls : List (List UInt8)) (no c : Nat) (ys : List Ln), piecesOn t b (num no c (ls.map ind2) ++ ys) = piecesOn t b ys
  | [], _, _, _ => rfl
  | l :: r, no, c, ys => by
    show piecesOn t b (⟨no, c, ind2 l, true⟩ :: (num (no + 1) (c + (ind2 l).length + 1) (r.map ind2) ++ ys)) = _
    rw [piecesOn, if_neg (by intro h; exact absurd h.2 (by simp [Lib.hasPrefix, ind2]))]
    exact pieces_ind t b r _ _ ys
theorem lineA_two {k id : Int} (hk : k = 1 ∨ k = 2 ∨ k = 3) : Lib.hasPrefix (lineA k id) [32, 32] = false := by
  unfold lineA
  rw [if_pos hk]
  rcases hk with rfl | rfl | rfl <;> rfl
theorem pieces_eds (t : List UInt8) : ∀ (r : List Ed) (pre cur : List UInt8) (no : Nat), t = pre ++ (cur ++ batchT r) → cur ≠ [] → (∀ ed ∈ r, ed.kind = 1 ∨ ed.kind = 2 ∨ ed.kind = 3) →
    piecesOn t pre.length (num no (pre.length + cur.length) (batchLs r)) = cur :: r.map edT
  | [], pre, cur, no, h, hc, _ => by
    show [t.drop pre.length] = [cur]
    rw [h, List.drop_left' rfl, batchT_nil, List.append_nil]
  | e :: r, pre, cur, no, h, hc, hk => by
    have hpos : 0 < cur.length := List.length_pos_iff.2 hc
    have e1 : batchLs (e :: r) = lineA e.kind e.id :: ((linesFs e.fields).map ind2 ++ batchLs r) := by
      unfold batchLs; rw [List.flatMap_cons]; rfl
    rw [e1]
    show piecesOn t pre.length (⟨no, pre.length + cur.length, lineA e.kind e.id, true⟩ :: num (no + 1) (pre.length + cur.length + (lineA e.kind e.id).length + 1) ((linesFs e.fields).map ind2 ++ batchLs r)) = _
    rw [piecesOn, if_pos ⟨by show pre.length < pre.length + cur.length; omega, lineA_two (hk e List.mem_cons_self)⟩]
    rw [num_append, pieces_ind]
    have ih := pieces_eds t r (pre ++ cur) (edT e) (no + 1 + ((linesFs e.fields).map ind2).length) (by rw [h, batchT_cons]; simp) (by unfold edT edLs textL; simp) (fun x hx => hk x (List.mem_cons_of_mem _ hx))
    have el : (edT e).length = (lineA e.kind e.id).length + 1 + (textL ((linesFs e.fields).map ind2)).length := by unfold edT edLs textL; simp; omega
    rw [List.length_append] at ih
    rw [show pre.length + cur.length + (lineA e.kind e.id).length + 1 + (textL ((linesFs e.fields).map ind2)).length = pre.length + cur.length + (edT e).length by omega]
    rw [show (⟨no, pre.length + cur.length, lineA e.kind e.id, true⟩ : Ln).at_ = pre.length + cur.length from rfl, ih, List.map_cons]
    congr 1
    rw [h, List.drop_left' rfl, show pre.length + cur.length - pre.length = cur.length by omega, List.take_left' rfl]
/-- A good batch's text is read to it. -/
theorem read_batch {eds : List Ed} (h0 : eds ≠ []) (hg : ∀ ed ∈ eds, goodE ed = 0) (hi : ∀ ed ∈ eds, I64 ed.id) : readL (batchT eds) = eds := by
  cases eds with
  | nil => exact absurd rfl h0
  | cons e r =>
    unfold readL
    rw [show linesOf (batchT (e :: r)) = num 0 0 (batchLs (e :: r)) from linesOn_num _ 0 0 (batchLs_clean hg)]
    have e1 : batchLs (e :: r) = lineA e.kind e.id :: ((linesFs e.fields).map ind2 ++ batchLs r) := by
      unfold batchLs; rw [List.flatMap_cons]; rfl
    have e2 : piecesOn (batchT (e :: r)) 0 (num 0 0 (batchLs (e :: r))) = (e :: r).map edT := by
      rw [e1]
      show piecesOn _ 0 (⟨0, 0, lineA e.kind e.id, true⟩ :: num 1 (0 + (lineA e.kind e.id).length + 1) ((linesFs e.fields).map ind2 ++ batchLs r)) = _
      rw [piecesOn, if_neg (by intro h; exact absurd h.1 (Nat.lt_irrefl _)), num_append, pieces_ind]
      have ih := pieces_eds (batchT (e :: r)) r [] (edT e) (1 + ((linesFs e.fields).map ind2).length) (by rw [batchT_cons]; rfl) (by unfold edT edLs textL; simp) (fun x hx => goodE_kind (hg x (List.mem_cons_of_mem _ hx)))
      have el : (edT e).length = (lineA e.kind e.id).length + 1 + (textL ((linesFs e.fields).map ind2)).length := by unfold edT edLs textL; simp; omega
      rw [el] at ih
      simp only [List.length_nil] at ih
      rw [show 0 + ((lineA e.kind e.id).length + 1 + (textL ((linesFs e.fields).map ind2)).length) = 0 + (lineA e.kind e.id).length + 1 + (textL ((linesFs e.fields).map ind2)).length by omega] at ih
      exact ih
    rw [e2, List.map_map]
    conv => rhs; rw [← List.map_id (e :: r)]
    exact List.map_congr_left fun x hx => said_good (goodE_F (hg x hx)) (goodE_kind (hg x hx)) (hi x hx)
/-- The batch whose text this is. -/
def decL (t : List UInt8) : Option (List Ed) := if t.length ≤ 50000 ∧ (chkB (readL t)).2 = 0 ∧ batchT (readL t) = t then some (readL t) else none
theorem atoiV_I64 (l : List UInt8) : I64 (atoiV l) := by
  unfold atoiV
  cases h : Lib.atoiAll l with
  | ok v =>
    show I64 v
    unfold Lib.atoiAll at h
    split at h
    · cases h
    · simp only at h
      split at h
      · cases h
      · cases h
      · split at h
        · cases h
        · split at h
          · cases h
          · injection h with h
            subst h
            split
            · exact ⟨by omega, by omega⟩
            · exact ⟨by omega, by omega⟩
  | range =>
    show I64 (Lib.atoiSat l)
    unfold Lib.atoiSat
    split
    · exact ⟨by decide, by decide⟩
    · exact ⟨by decide, by decide⟩
  | _ => exact (⟨by decide, by decide⟩ : I64 0)
theorem read_I64 (t : List UInt8) : ∀ ed ∈ readL t, I64 ed.id := by
  intro ed hed
  obtain ⟨p, _, rfl⟩ := List.mem_map.1 hed
  exact atoiV_I64 _
theorem decL_iff {t : List UInt8} {eds : List Ed} : decL t = some eds ↔ t.length ≤ 50000 ∧ (chkB eds).2 = 0 ∧ (∀ ed ∈ eds, I64 ed.id) ∧ batchT eds = t := by
  unfold decL
  constructor
  · intro h
    split at h
    · rename_i q
      injection h with h
      subst h
      exact ⟨q.1, q.2.1, read_I64 t, q.2.2⟩
    · cases h
  · rintro ⟨h1, h2, h3, rfl⟩
    obtain ⟨⟨a, b⟩, c⟩ := chkB_good h2
    have e := read_batch (by intro e; rw [e] at a; simp at a) c h3
    rw [if_pos ⟨h1, by rw [e]; exact h2, by rw [e]⟩, e]
end Go.Proofs.YtkcklnnmcmjnjaaGreatDoor

