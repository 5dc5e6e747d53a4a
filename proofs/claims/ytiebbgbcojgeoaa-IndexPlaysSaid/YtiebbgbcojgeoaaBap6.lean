/- Texts put together: JP, PA, PO, PQ, PR, PU, TA, OC. -/
import Derived.Deep.RegionLaw
import Derived.RegionTactic
import Derived.Test.YtiebbgbcojgeoaaBap1
import Derived.Test.YtiebbgbcojgeoaaBap5
set_option linter.unusedVariables false
namespace Go.Proofs.Ytiebbgbcojgeoaa
open Go.RowKit Go.Maps Go.Sort Go.Shelf

/-- A text more, among texts that rise. -/
def addS : List (List UInt8) → List UInt8 → List (List UInt8)
  | [], s => [s]
  | a :: l, s => if a < s then a :: addS l s else if a = s then a :: l else s :: a :: l
theorem addS_mem : ∀ (l : List (List UInt8)) (s x : List UInt8), x ∈ addS l s ↔ x = s ∨ x ∈ l
  | [], s, x => by unfold addS; simp
  | a :: l, s, x => by
    have ih := addS_mem l s x
    unfold addS
    split
    · rw [List.mem_cons, ih, List.mem_cons]
      constructor
      · rintro (h | h | h)
        · exact .inr (.inl h)
        · exact .inl h
        · exact .inr (.inr h)
      · rintro (h | h | h)
        · exact .inr (.inl h)
        · exact .inl h
        · exact .inr (.inr h)
    · split
      · rename_i h; subst h
        exact ⟨fun q => .inr q, fun q => by rcases q with q | q; exact q ▸ List.mem_cons_self; exact q⟩
      · rw [List.mem_cons]
theorem lt_tri (a b : List UInt8) : a < b ∨ a = b ∨ b < a := by
  by_cases h : a < b
  · exact .inl h
  · by_cases e : a = b
    · exact .inr (.inl e)
    · refine .inr (.inr ?_)
      have h1 : b ≤ a := h
      rcases List.le_iff_lt_or_eq.1 h1 with q | q
      · exact q
      · exact absurd q.symm e
theorem addS_lt : ∀ (l : List (List UInt8)) (s : List UInt8), l.Pairwise (fun a b => a < b) → (addS l s).Pairwise fun a b => a < b
  | [], s, _ => by unfold addS; exact List.pairwise_singleton _ _
  | a :: l, s, h => by
    have h1 := List.pairwise_cons.1 h
    unfold addS
    split
    · rename_i q
      refine List.pairwise_cons.2 ⟨fun x hx => ?_, addS_lt l s h1.2⟩
      rcases (addS_mem l s x).1 hx with e | e
      · rw [e]; exact q
      · exact h1.1 x e
    · rename_i q
      split
      · exact h
      · rename_i q2
        have hs : s < a := by
          rcases lt_tri a s with z | z | z
          · exact absurd z q
          · exact absurd z q2
          · exact z
        refine List.pairwise_cons.2 ⟨fun x hx => ?_, h⟩
        rcases List.mem_cons.1 hx with e | e
        · rw [e]; exact hs
        · exact List.lt_trans hs (h1.1 x e)
def riseS (ts : List (List UInt8)) : List (List UInt8) := ts.foldl addS []
theorem foldS_mem : ∀ (ts l : List (List UInt8)) (x : List UInt8), x ∈ ts.foldl addS l ↔ x ∈ l ∨ x ∈ ts
  | [], l, x => by simp
  | s :: ts, l, x => by
    rw [List.foldl_cons, foldS_mem ts (addS l s) x, addS_mem, List.mem_cons]
    constructor
    · rintro ((h | h) | h)
      · exact .inr (.inl h)
      · exact .inl h
      · exact .inr (.inr h)
    · rintro (h | h | h)
      · exact .inl (.inr h)
      · exact .inl (.inl h)
      · exact .inr h
theorem foldS_lt : ∀ (ts l : List (List UInt8)), l.Pairwise (fun a b => a < b) → (ts.foldl addS l).Pairwise fun a b => a < b
  | [], l, h => h
  | s :: ts, l, h => foldS_lt ts (addS l s) (addS_lt l s h)
theorem riseS_mem (ts : List (List UInt8)) (x : List UInt8) : x ∈ riseS ts ↔ x ∈ ts := by unfold riseS; rw [foldS_mem]; simp
theorem riseS_lt (ts : List (List UInt8)) : (riseS ts).Pairwise fun a b => a < b := foldS_lt ts [] List.Pairwise.nil
theorem lt_ne {a b : List UInt8} (h : a < b) : a ≠ b := fun e => by subst e; exact List.lt_irrefl _ h
/-- Sorted answers are the rising ones. -/
theorem sortS_rise {ss ts : List (List UInt8)} (nd : ss.Nodup) (h : ∀ x, x ∈ ss ↔ x ∈ ts) : sortS ss = riseS ts := by
  have hn : (riseS ts).Nodup := (riseS_lt ts).imp fun q => lt_ne q
  have hp : ss.Perm (riseS ts) := (List.perm_ext_iff_of_nodup nd hn).2 fun x => by rw [riseS_mem, h]
  rw [sortS_eq hp]
  exact sortS_same ((riseS_lt ts).imp fun q => List.le_of_lt q)
/-- All keys; all values of a key. -/
def keysR (rs : List Sz) : List (List UInt8) := riseS (rs.flatMap fun s => s.2.map Prod.fst)
def valsR (rs : List Sz) (k : List UInt8) : List (List UInt8) := riseS (rs.flatMap fun s => (s.2.filter fun f => f.1 == k).map Prod.snd)
theorem keys_R {rs : List Sz} {ss : List (List UInt8)} (nd : ss.Nodup) (h : ∀ k, k ∈ ss ↔ ∃ s i, 0 < fOf rs k s i) : sortS ss = keysR rs := sortS_rise nd fun k => by
  rw [h, List.mem_flatMap]
  constructor
  · rintro ⟨s, i, hi⟩
    obtain ⟨st, h1, _, h3⟩ := fOf_pos hi
    exact ⟨st, h1, List.mem_map.2 ⟨_, h3, rfl⟩⟩
  · rintro ⟨st, h1, h2⟩
    obtain ⟨f, hf, rfl⟩ := List.mem_map.1 h2
    exact ⟨f.2, st.1, fOf_of h1 hf⟩
theorem vals_R {rs : List Sz} {k : List UInt8} {ss : List (List UInt8)} (nd : ss.Nodup) (h : ∀ s, s ∈ ss ↔ ∃ i, 0 < fOf rs k s i) : sortS ss = valsR rs k := sortS_rise nd fun s => by
  rw [h, List.mem_flatMap]
  constructor
  · rintro ⟨i, hi⟩
    obtain ⟨st, h1, _, h3⟩ := fOf_pos hi
    exact ⟨st, h1, List.mem_map.2 ⟨(k, s), List.mem_filter.2 ⟨h3, by simp⟩, rfl⟩⟩
  · rintro ⟨st, h1, h2⟩
    obtain ⟨f, hf, rfl⟩ := List.mem_map.1 h2
    obtain ⟨h3, h4⟩ := List.mem_filter.1 hf
    have e : f.1 = k := by simpa using h4
    exact ⟨st.1, fOf_of h1 (by rw [← e]; exact h3)⟩
/-- Who has a key with a value that is asked for. -/
def whoR (rs : List Sz) (k : List UInt8) (p : List UInt8 → Bool) : List Int := (rs.filter fun s => s.2.any fun f => f.1 == k && p f.2).map Prod.fst
theorem who_mem (rs : List Sz) (k : List UInt8) (p : List UInt8 → Bool) (i : Int) : i ∈ whoR rs k p ↔ ∃ s, p s = true ∧ 0 < fOf rs k s i := by
  unfold whoR
  rw [List.mem_map]
  constructor
  · rintro ⟨st, h, rfl⟩
    obtain ⟨h1, h2⟩ := List.mem_filter.1 h
    obtain ⟨f, hf, hq⟩ := List.any_eq_true.1 h2
    simp only [Bool.and_eq_true, beq_iff_eq] at hq
    exact ⟨f.2, hq.2, fOf_of h1 (by rw [← hq.1]; exact hf)⟩
  · rintro ⟨s, hp, hi⟩
    obtain ⟨st, h1, h2, h3⟩ := fOf_pos hi
    exact ⟨st, List.mem_filter.2 ⟨h1, List.any_eq_true.2 ⟨_, h3, by simp [hp]⟩⟩, h2⟩
theorem who_nodup {rs : List Sz} (nd : (rs.map Prod.fst).Nodup) (k : List UInt8) (p : List UInt8 → Bool) : (whoR rs k p).Nodup := nd.sublist (List.filter_sublist.map _)
theorem who_R {rs : List Sz} (nr : (rs.map Prod.fst).Nodup) {k : List UInt8} {p : List UInt8 → Bool} {ss : List Int} (nd : ss.Nodup) (h : ∀ i, i ∈ ss ↔ ∃ s, p s = true ∧ 0 < fOf rs k s i) : sortZ ss = sortZ (whoR rs k p) :=
  sortZ_eq ((List.perm_ext_iff_of_nodup nd (who_nodup nr k p)).2 fun i => by rw [h, who_mem])
theorem whoE_R {rs : List Sz} (nr : (rs.map Prod.fst).Nodup) {k t : List UInt8} {ss : List Int} (nd : ss.Nodup) (h : ∀ i, i ∈ ss ↔ 0 < fOf rs k t i) : sortZ ss = sortZ (whoR rs k fun s => s == t) :=
  who_R nr nd fun i => by rw [h]; exact ⟨fun q => ⟨t, by simp, q⟩, fun ⟨s, e, q⟩ => by rw [← (by simpa using e : s = t)]; exact q⟩
theorem who_len (rs : List Sz) (k : List UInt8) (p : List UInt8 → Bool) : (whoR rs k p).length ≤ rs.length := by unfold whoR; rw [List.length_map]; exact List.length_filter_le _ _
/-- How many fields. -/
def countR (rs : List Sz) (k s : List UInt8) : Nat := (rs.map fun st => cntF k s st.2).sum
theorem pick_sum (n : Nat) (j : Int) : ∀ ss : List Int, ss.Nodup → (ss.map fun i => if i = j then n else 0).sum = if j ∈ ss then n else 0
  | [], _ => rfl
  | i :: r, h => by
    have hc := List.nodup_cons.1 h
    have ih := pick_sum n j r hc.2
    rw [List.map_cons, List.sum_cons, ih]
    by_cases e : i = j
    · subst e
      rw [if_pos rfl, if_neg hc.1, if_pos List.mem_cons_self]; rfl
    · rw [if_neg e, Nat.zero_add]
      by_cases q : j ∈ r
      · rw [if_pos q, if_pos (List.mem_cons_of_mem _ q)]
      · rw [if_neg q, if_neg (fun z => by rcases List.mem_cons.1 z with z | z; exact e z.symm; exact q z)]
theorem count_all (k s : List UInt8) : ∀ (rs : List Sz) (ss : List Int), ss.Nodup → (∀ st ∈ rs, 0 < cntF k s st.2 → st.1 ∈ ss) → (ss.map (fOf rs k s)).sum = countR rs k s
  | [], ss, nd, _ => by
    have : ∀ l : List Int, (l.map (fOf [] k s)).sum = 0 := fun l => by
      induction l with
      | nil => rfl
      | cons a r ih => rw [List.map_cons, List.sum_cons, ih]; rfl
    rw [this]; rfl
  | st :: r, ss, nd, h => by
    have ih := count_all k s r ss nd fun q hq => h q (List.mem_cons_of_mem _ hq)
    have e : ss.map (fOf (st :: r) k s) = ss.map fun i => (if i = st.1 then cntF k s st.2 else 0) + fOf r k s i := rfl
    rw [e, sum_add (fun i => if i = st.1 then cntF k s st.2 else 0) (fOf r k s) ss, ih, pick_sum _ _ _ nd]
    unfold countR
    rw [List.map_cons, List.sum_cons]
    congr 1
    by_cases q : 0 < cntF k s st.2
    · rw [if_pos (h st List.mem_cons_self q)]
    · split
      · rfl
      · omega
theorem count_R {rs : List Sz} {k s : List UInt8} {ss : List Int} (nd : ss.Nodup) (h : ∀ i, i ∈ ss ↔ 0 < fOf rs k s i) : (ss.map (fOf rs k s)).sum = countR rs k s :=
  count_all k s rs ss nd fun st hs hc => (h _).2 (by
    obtain ⟨f, hf, hq⟩ := List.countP_pos_iff.1 hc
    simp only [Bool.and_eq_true, beq_iff_eq] at hq
    exact fOf_of hs (by rw [← hq.1, ← hq.2]; exact hf))
theorem len_R8 {rs : List Sz} (nr : (rs.map Prod.fst).Nodup) {ss : List Int} (nd : ss.Nodup) (h : ∀ i, i ∈ ss ↔ idsOf rs i = true) : ss.length = rs.length := by
  have hp : ss.Perm (rs.map Prod.fst) := (List.perm_ext_iff_of_nodup nd nr).2 fun i => by rw [h, idsOf_iff]
  rw [hp.length_eq, List.length_map]
section
variable {S : Nat} {w : World} {T : Nat → Tag} {x kb yb n : Nat} {rs : List Sz}
theorem keysC (h : IdxL S w T x kb yb n rs) : Calls Try.prog 22 #[.pointer (some ⟨x, 0, none⟩)] w fun e w' => ∃ v, e = .returned v ∧ Strs w' v ((keysR rs).map B) ∧ Below w.heap.size w w' := by
  refine (idxKeys h.at_ (by have := h.n; omega)).mono ?_
  rintro e w' ⟨v, ss, rfl, nd, hm, ha⟩
  have := ha.strs
  rw [keys_R nd hm] at this
  exact ⟨v, rfl, this, ha.2.2⟩
theorem valsC (h : IdxL S w T x kb yb n rs) (k : ByteArray) (hk : k.size ≤ maxLen) : Calls Try.prog 23 #[.pointer (some ⟨x, 0, none⟩), .string k] w fun e w' => ∃ v, e = .returned v ∧ Strs w' v ((valsR rs k.data.toList).map B) ∧ Below w.heap.size w w' := by
  refine (idxValues h.at_ (by have := h.n; omega) k hk).mono ?_
  rintro e w' ⟨v, ss, rfl, nd, hm, ha⟩
  have := ha.strs
  rw [vals_R nd hm] at this
  exact ⟨v, rfl, this, ha.2.2⟩
theorem withC (h : IdxL S w T x kb yb n rs) (nr : (rs.map Prod.fst).Nodup) (k : ByteArray) (hk : k.size ≤ maxLen) : Calls Try.prog 19 #[.pointer (some ⟨x, 0, none⟩), .string k] w fun e w' => ∃ v, e = .returned v ∧ Nums w' v (sortZ (whoR rs k.data.toList fun _ => true)) ∧ Below w.heap.size w w' := by
  refine (idxWith h.at_ (by have := h.n; omega) k hk).mono ?_
  rintro e w' ⟨v, ss, rfl, nd, hm, ha⟩
  have := ha.nums
  rw [who_R nr nd hm] at this
  exact ⟨v, rfl, this, ha.2.2⟩
theorem betwC (h : IdxL S w T x kb yb n rs) (nr : (rs.map Prod.fst).Nodup) (k a b : ByteArray) (hk : k.size ≤ maxLen) : Calls Try.prog 21 #[.pointer (some ⟨x, 0, none⟩), .string k, .string a, .string b] w fun e w' => ∃ v, e = .returned v ∧ Nums w' v (sortZ (whoR rs k.data.toList (betw a.data.toList b.data.toList))) ∧ Below w.heap.size w w' := by
  refine (idxBetween h.at_ (by have := h.n; omega) k a b hk).mono ?_
  rintro e w' ⟨v, ss, rfl, nd, hm, ha⟩
  have := ha.nums
  rw [who_R nr nd hm] at this
  exact ⟨v, rfl, this, ha.2.2⟩
theorem equalC (h : IdxL S w T x kb yb n rs) (nr : (rs.map Prod.fst).Nodup) (k s : ByteArray) (hk : k.size ≤ maxLen) (hs : s.size ≤ maxLen) : Calls Try.prog 20 #[.pointer (some ⟨x, 0, none⟩), .string k, .string s] w fun e w' => ∃ v, e = .returned v ∧ Nums w' v (sortZ (whoR rs k.data.toList fun t => t == s.data.toList)) ∧ Below w.heap.size w w' := by
  refine (idxEqual h.at_ (by have := h.n; omega) k s hk hs).mono ?_
  rintro e w' ⟨v, ss, rfl, nd, hm, ha⟩
  have := ha.nums
  rw [whoE_R nr nd hm] at this
  exact ⟨v, rfl, this, ha.2.2⟩
theorem countC (h : IdxL S w T x kb yb n rs) (k s : ByteArray) (hk : k.size ≤ maxLen) (hs : s.size ≤ maxLen) (hn : numF rs ≤ 1000000) : Calls Try.prog 24 #[.pointer (some ⟨x, 0, none⟩), .string k, .string s] w fun e w' => e = .returned (.int .i64 (countR rs k.data.toList s.data.toList : Nat)) ∧ Below w.heap.size w w' := by
  refine (idxCount h.at_ k s hk hs (fun ss nd => Nat.le_trans (fOf_sum _ _ rs ss nd) hn)).mono ?_
  rintro e w' ⟨ss, rfl, nd, hm, ho⟩
  rw [count_R nd hm]
  exact ⟨rfl, ho.to_below (Nat.le_refl _) (fun _ _ h => h)⟩
theorem lenC (h : IdxL S w T x kb yb n rs) (nr : (rs.map Prod.fst).Nodup) : Calls Try.prog 25 #[.pointer (some ⟨x, 0, none⟩)] w fun e w' => e = .returned (.int .i64 (rs.length : Nat)) ∧ w' = w := by
  refine (len_idx h.at_ (by have := h.n; omega)).mono ?_
  rintro e w' ⟨ss, rfl, nd, hm, rfl⟩
  rw [len_R8 nr nd hm]
  exact ⟨rfl, rfl⟩
end
end Go.Proofs.Ytiebbgbcojgeoaa

namespace Go.Proofs.Ytiebbgbcojgeoaa

abbrev Fld := List UInt8 × List UInt8
/-- An item. -/
structure It where
  kind : Int
  raw : List UInt8
  fields : List Fld
deriving DecidableEq
/-- What the lines have made so far. -/
structure PS where
  begin_ : Nat
  said : List (List UInt8)
  items : List It
  stanzas : Nat
  at_ : Nat
  fields : List Fld
deriving DecidableEq
def PS.new : PS := ⟨0, [], [], 0, 0, []⟩
/-- What comes of a step: a place and a number, or what is made. -/
abbrev Res (α : Type) := Except (Nat × Nat) α

def fullP (p : PS) : Bool := if p.fields.length = 0 then p.stanzas == 400 else p.fields.length == 40
def endFieldN (p : PS) : Nat := if p.said = [] then 0 else if unfoldN p.said ≠ 0 then unfoldN p.said else if fullP p then 11 else 0
def endFieldP (p : PS) : PS := if p.said = [] then p else { p with fields := p.fields ++ [(unfoldK p.said, unfoldV p.said)], said := [] }
def endItemP (text : List UInt8) (p : PS) (kind end_ : Nat) : PS := { p with items := p.items ++ [⟨kind, (text.take end_).drop p.at_, p.fields⟩], at_ := end_, fields := [] }
def endBlockP (text : List UInt8) (p : PS) (end_ : Nat) : PS :=
  if p.at_ = end_ then p else if p.fields.length = 0 then endItemP text p 2 end_ else { endItemP text p 3 end_ with stanzas := p.stanzas + 1 }
def goesP (p : PS) (x : Ln) : Bool := kindL x.text == 3 && !(p.said.isEmpty)
def wentP (p : PS) (x : Ln) : PS := if goesP p x then { p with said := p.said ++ [x.text] } else p
def wrongP (p : PS) (x : Ln) : Bool := kindL x.text == 5 || (kindL x.text == 3 && !goesP p x) || !x.ended
/-- Is the field that is under way ended by the line? -/
def endsP (p : PS) (x : Ln) : Bool := wrongP p x || !goesP p x
def putP (text : List UInt8) (p : PS) (x : Ln) : PS :=
  if kindL x.text = 4 then { p with begin_ := x.no, said := [x.text] }
  else if kindL x.text = 1 then endItemP text (endBlockP text p x.at_) 1 (x.at_ + x.text.length + 1)
  else p
/-- What stands behind the end of the field, if the line ends it. -/
def thenP (p : PS) (x : Ln) : PS := if endsP p x then endFieldP (wentP p x) else wentP p x
def takeP (text : List UInt8) (p : PS) (x : Ln) : Res PS :=
  if endsP p x = true ∧ endFieldN (wentP p x) ≠ 0 then .error ((wentP p x).begin_, endFieldN (wentP p x))
  else if wrongP p x then .error (x.no, 2)
  else .ok (putP text (thenP p x) x)
def runP (text : List UInt8) : PS → List Ln → Res PS
  | p, [] => .ok p
  | p, x :: xs => match takeP text p x with
    | .error e => .error e
    | .ok q => runP text q xs
def lastP (text : List UInt8) (p : PS) : Res (List It) :=
  if endFieldN p ≠ 0 then .error (p.begin_, endFieldN p) else .ok (endBlockP text (endFieldP p) text.length).items
def parseL (text : List UInt8) : Res (List It) :=
  match runP text PS.new (linesOf text) with
  | .error e => .error e
  | .ok p => lastP text p

theorem runP_append (text : List UInt8) : ∀ (p : PS) (a b : List Ln), runP text p (a ++ b) = match runP text p a with | .error e => .error e | .ok q => runP text q b
  | p, [], b => rfl
  | p, x :: a, b => by
    show (match takeP text p x with | .error e => _ | .ok q => runP text q (a ++ b)) = match (match takeP text p x with | .error e => _ | .ok q => runP text q a) with | .error e => _ | .ok q => _
    cases takeP text p x with
    | error e => rfl
    | ok q => exact runP_append text q a b

/-- What keeps the parser small: c bytes are behind it. -/
structure Inv (p : PS) (c : Nat) : Prop where
  at_ : p.at_ ≤ c
  items : p.items.length ≤ p.at_
  stanzas : p.stanzas ≤ p.at_
  begin_ : p.begin_ ≤ c
  fields : p.fields.length ≤ c
  said : (p.said.map List.length).sum + p.said.length ≤ c
  both : p.fields.length + p.said.length ≤ c
theorem Inv.new : Inv PS.new 0 := ⟨Nat.le_refl _, Nat.le_refl _, Nat.le_refl _, Nat.le_refl _, Nat.le_refl _, Nat.le_refl _, Nat.le_refl _⟩
theorem Inv.mono {p : PS} {c d : Nat} (h : Inv p c) (hd : c ≤ d) : Inv p d :=
  ⟨Nat.le_trans h.at_ hd, h.items, h.stanzas, Nat.le_trans h.begin_ hd, Nat.le_trans h.fields hd, Nat.le_trans h.said hd, Nat.le_trans h.both hd⟩
theorem Inv.endField {p : PS} {c : Nat} (h : Inv p c) : Inv (endFieldP p) c := by
  unfold endFieldP
  split
  · exact h
  · rename_i hs
    have hb := h.both
    have : 1 ≤ p.said.length := by cases hp : p.said with | nil => exact absurd hp hs | cons a l => simp
    exact ⟨h.at_, h.items, h.stanzas, h.begin_, by simp; omega, by simp, by simp; omega⟩
theorem Inv.endItem {p : PS} {c : Nat} (text : List UInt8) (kind e : Nat) (h : Inv p c) (h1 : p.at_ < e) (h2 : e ≤ c) : Inv (endItemP text p kind e) c := by
  have a := h.items; have b := h.stanzas
  refine ⟨h2, ?_, ?_, h.begin_, by simp [endItemP], h.said, ?_⟩
  · simp [endItemP]; omega
  · simp [endItemP]; omega
  · have := h.both; simp [endItemP]; omega
theorem Inv.endBlock {p : PS} {c : Nat} (text : List UInt8) (e : Nat) (h : Inv p c) (h1 : p.at_ ≤ e) (h2 : e ≤ c) : Inv (endBlockP text p e) c := by
  unfold endBlockP
  split
  · exact h
  · split
    · exact h.endItem text 2 e (by omega) h2
    · have g := h.endItem text 3 e (by omega) h2
      exact ⟨g.at_, g.items, by have := h.stanzas; show p.stanzas + 1 ≤ e; omega, g.begin_, g.fields, g.said, g.both⟩
theorem endField_at (p : PS) : (endFieldP p).at_ = p.at_ := by unfold endFieldP; split <;> rfl
theorem endField_said (p : PS) : (endFieldP p).said = [] := by unfold endFieldP; split <;> simp_all
theorem endBlock_at (text : List UInt8) (p : PS) (e : Nat) (h : p.at_ ≤ e) : (endBlockP text p e).at_ = e := by
  unfold endBlockP
  split
  · assumption
  · split <;> rfl
theorem endBlock_said (text : List UInt8) (p : PS) (e : Nat) : (endBlockP text p e).said = p.said := by
  unfold endBlockP
  split
  · rfl
  · split <;> rfl
theorem wentP_at (p : PS) (x : Ln) : (wentP p x).at_ = p.at_ := by unfold wentP; split <;> rfl
theorem Inv.went {p : PS} {x : Ln} {c : Nat} (h : Inv p c) : Inv (wentP p x) (c + x.text.length + 1) := by
  unfold wentP
  split
  · have a := h.said; have b := h.both
    refine ⟨by have := h.at_; show p.at_ ≤ _; omega, h.items, h.stanzas, by have := h.begin_; show p.begin_ ≤ _; omega, by have := h.fields; show p.fields.length ≤ _; omega, ?_, ?_⟩
    · simp; omega
    · simp; omega
  · exact h.mono (by omega)
theorem Inv.then_ {p : PS} {x : Ln} {c : Nat} (h : Inv p c) : Inv (thenP p x) (c + x.text.length + 1) := by
  unfold thenP
  split
  · exact h.went.endField
  · exact h.went
theorem thenP_at (p : PS) (x : Ln) : (thenP p x).at_ = p.at_ := by
  unfold thenP
  split
  · rw [endField_at, wentP_at]
  · exact wentP_at p x
theorem thenP_said {p : PS} {x : Ln} (h : goesP p x = false) : (thenP p x).said = [] := by
  unfold thenP endsP
  rw [h]
  simp only [Bool.not_false, Bool.or_true, if_true]
  exact endField_said _
theorem goes_kind {p : PS} {x : Ln} (h : kindL x.text ≠ 3) : goesP p x = false := by unfold goesP; simp [h]
theorem Inv.take {text : List UInt8} {p q : PS} {x : Ln} (h : Inv p x.at_) (hno : x.no ≤ x.at_) (he : takeP text p x = .ok q) : Inv q (x.at_ + x.bytes.length) ∧ x.ended = true := by
  unfold takeP at he
  split at he
  · cases he
  · split at he
    · cases he
    · rename_i hw
      have hen : x.ended = true := by
        cases hx : x.ended with
        | true => rfl
        | false => exact absurd (by unfold wrongP; rw [hx]; simp) hw
      have hb : x.at_ + x.bytes.length = x.at_ + x.text.length + 1 := by unfold Ln.bytes; rw [hen]; simp; omega
      refine ⟨?_, hen⟩
      rw [hb]
      cases he
      have t := h.then_ (x := x)
      unfold putP
      split
      · rename_i hk
        have e := thenP_said (goes_kind (p := p) (x := x) (by omega))
        refine ⟨t.at_, t.items, t.stanzas, by show x.no ≤ _; omega, t.fields, by simp, ?_⟩
        have hf : (thenP p x).fields.length ≤ x.at_ := by
          have g := goes_kind (p := p) (x := x) (by omega)
          unfold thenP endsP wentP
          rw [g]
          simp only [Bool.not_false, Bool.or_true, if_true]
          exact (Inv.endField h).fields
        simp; omega
      · split
        · have ta := thenP_at p x
          have ha := h.at_
          refine Inv.endItem text 1 _ (t.endBlock text x.at_ (by omega) (by omega)) ?_ (by omega)
          rw [endBlock_at text _ _ (by omega)]; omega
        · exact t
end Go.Proofs.Ytiebbgbcojgeoaa

namespace Go.Proofs.Ytiebbgbcojgeoaa

structure Good (t : List UInt8) (p : PS) : Prop where
  st : p.stanzas ≤ 400
  st' : p.fields ≠ [] → p.stanzas ≤ 399
  fl : p.fields.length ≤ 40
  each : ∀ it ∈ p.items, it.fields.length ≤ 40
  join : p.items.flatMap It.raw = t.take p.at_
theorem Good.new (t : List UInt8) : Good t PS.new := ⟨by decide, fun h => absurd rfl h, by decide, (fun it h => by cases h), rfl⟩
theorem Good.endField {t : List UInt8} {p : PS} (h : Good t p) (h0 : endFieldN p = 0) : Good t (endFieldP p) := by
  unfold endFieldP
  split
  · exact h
  · rename_i hs
    unfold endFieldN at h0
    rw [if_neg hs] at h0
    split at h0
    · rename_i hu; exact absurd h0 hu
    · have hfull : fullP p = false := by
        cases hf : fullP p with
        | false => rfl
        | true => rw [hf] at h0; simp at h0
      unfold fullP at hfull
      have fl := h.fl
      have st := h.st
      refine ⟨h.st, fun _ => ?_, ?_, h.each, h.join⟩
      · show p.stanzas ≤ 399
        split at hfull
        · have : p.stanzas ≠ 400 := by simpa using hfull
          omega
        · rename_i hz
          exact h.st' (fun e => hz (by rw [e]; rfl))
      · show (p.fields ++ [_]).length ≤ 40
        rw [List.length_append]
        split at hfull
        · simp; omega
        · have : p.fields.length ≠ 40 := by simpa using hfull
          simp; omega
theorem drop_take_join (t : List UInt8) (a e : Nat) (h : a ≤ e) : t.take a ++ (t.take e).drop a = t.take e := by
  conv => rhs; rw [← List.take_append_drop a (t.take e), List.take_take, Nat.min_eq_left h]
theorem Good.endItem {t : List UInt8} {p : PS} (h : Good t p) (kind e : Nat) (hle : p.at_ ≤ e) : Good t (endItemP t p kind e) := by
  refine ⟨h.st, fun hn => absurd rfl hn, by simp [endItemP], ?_, ?_⟩
  · intro it hi
    rcases List.mem_append.1 hi with hi | hi
    · exact h.each it hi
    · rw [List.mem_singleton.1 hi]; exact h.fl
  · show (p.items ++ [_]).flatMap It.raw = t.take e
    rw [List.flatMap_append, h.join]
    simp only [List.flatMap_cons, List.flatMap_nil, List.append_nil]
    exact drop_take_join t p.at_ e hle
theorem Good.endBlock {t : List UInt8} {p : PS} (h : Good t p) (e : Nat) (hle : p.at_ ≤ e) : Good t (endBlockP t p e) := by
  unfold endBlockP
  split
  · exact h
  · split
    · exact h.endItem 2 e hle
    · rename_i hz
      have g := h.endItem 3 e hle
      have := h.st' (fun e => hz (by rw [e]; rfl))
      exact ⟨by show p.stanzas + 1 ≤ 400; omega, fun hn => absurd rfl hn, g.fl, g.each, g.join⟩
theorem Good.went {t : List UInt8} {p : PS} (h : Good t p) (x : Ln) : Good t (wentP p x) := by
  unfold wentP
  split
  · exact ⟨h.st, h.st', h.fl, h.each, h.join⟩
  · exact h
theorem take_parts {t : List UInt8} {p q : PS} {x : Ln} (he : takeP t p x = .ok q) : (endsP p x = true → endFieldN (wentP p x) = 0) ∧ wrongP p x = false ∧ q = putP t (thenP p x) x := by
  unfold takeP at he
  split at he
  · cases he
  · rename_i h1
    split at he
    · cases he
    · rename_i h2
      cases he
      refine ⟨fun hn => ?_, by simpa using h2, rfl⟩
      rcases Nat.decEq (endFieldN (wentP p x)) 0 with e | e
      · exact absurd ⟨hn, e⟩ h1
      · exact e
theorem take_of {t : List UInt8} {p : PS} {x : Ln} (h1 : endsP p x = true → endFieldN (wentP p x) = 0) (h2 : wrongP p x = false) : takeP t p x = .ok (putP t (thenP p x) x) := by
  unfold takeP
  rw [if_neg (fun h => h.2 (h1 h.1)), h2]; rfl
theorem Good.then_ {t : List UInt8} {p : PS} {x : Ln} (h : Good t p) (h1 : endsP p x = true → endFieldN (wentP p x) = 0) : Good t (thenP p x) := by
  unfold thenP
  split
  · rename_i he; exact (h.went x).endField (h1 he)
  · exact h.went x
theorem Good.put {t : List UInt8} {p : PS} {x : Ln} (h : Good t p) (ha : p.at_ ≤ x.at_) : Good t (putP t p x) := by
  unfold putP
  split
  · exact ⟨h.st, h.st', h.fl, h.each, h.join⟩
  · split
    · refine (h.endBlock x.at_ ha).endItem 1 _ ?_
      rw [endBlock_at t p _ ha]; omega
    · exact h
theorem Good.take {t : List UInt8} {p q : PS} {x : Ln} (h : Good t p) (ha : p.at_ ≤ x.at_) (he : takeP t p x = .ok q) : Good t q := by
  obtain ⟨h1, _, rfl⟩ := take_parts he
  exact (h.then_ h1).put (by rw [thenP_at]; exact ha)

/-- Lines that stand one behind the other, from a place on. -/
def Runs : Nat → Nat → List Ln → Prop
  | _, _, [] => True
  | no, c, x :: xs => x.no = no ∧ x.at_ = c ∧ 1 ≤ x.bytes.length ∧ Runs (no + 1) (c + x.bytes.length) xs
end Go.Proofs.Ytiebbgbcojgeoaa

namespace Go.Proofs.Ytiebbgbcojgeoaa

/-- A parser, put behind another one whose block is ended, d lines and e bytes on. -/
def up (q : PS) (d e : Nat) (s : PS) : PS := ⟨d + s.begin_, s.said, q.items ++ s.items, q.stanzas + s.stanzas, e + s.at_, s.fields⟩
end Go.Proofs.Ytiebbgbcojgeoaa

namespace Go.Proofs.Ytiebbgbcojgeoaa

theorem endField_items (p : PS) : (endFieldP p).items = p.items := by unfold endFieldP; split <;> rfl
theorem Runs.append : ∀ {a b : List Ln} {no c : Nat}, Runs no c (a ++ b) → Runs no c a ∧ Runs (no + a.length) (c + (a.flatMap Ln.bytes).length) b
  | [], b, no, c, h => ⟨trivial, h⟩
  | x :: a, b, no, c, ⟨h1, h2, h3, h4⟩ => by
    obtain ⟨i1, i2⟩ := Runs.append h4
    refine ⟨⟨h1, h2, h3, i1⟩, ?_⟩
    rw [List.flatMap_cons, List.length_append, List.length_cons, ← Nat.add_assoc c, Nat.add_comm a.length, ← Nat.add_assoc no]
    exact i2
end Go.Proofs.Ytiebbgbcojgeoaa

namespace Go.Proofs.Ytiebbgbcojgeoaa

/-- Texts as ended lines. -/
def num : Nat → Nat → List (List UInt8) → List Ln
  | _, _, [] => []
  | no, c, l :: r => ⟨no, c, l, true⟩ :: num (no + 1) (c + l.length + 1) r
theorem num_append : ∀ (a b : List (List UInt8)) (no c : Nat), num no c (a ++ b) = num no c a ++ num (no + a.length) (c + (textL a).length) b
  | [], b, no, c => rfl
  | l :: a, b, no, c => by
    have := num_append a b (no + 1) (c + l.length + 1)
    show _ :: num _ _ (a ++ b) = _ :: _ ++ _
    rw [this]
    have e : (textL (l :: a)).length = l.length + 1 + (textL a).length := by unfold textL; simp; omega
    rw [e, List.length_cons, show c + (l.length + 1 + (textL a).length) = c + l.length + 1 + (textL a).length by omega, show no + (a.length + 1) = no + 1 + a.length by omega]
    rfl
theorem run_cons {t : List UInt8} {p q : PS} {x : Ln} {xs : List Ln} (h : takeP t p x = .ok q) : runP t p (x :: xs) = runP t q xs := by
  show (match takeP t p x with | .error e => Except.error e | .ok q => runP t q xs) = _
  rw [h]
end Go.Proofs.Ytiebbgbcojgeoaa

namespace Go.Proofs.Ytiebbgbcojgeoaa

/-- A parser of the same block, elsewhere. -/
def mv (b st a : Nat) (its : List It) (p : PS) : PS := ⟨b, p.said, its, st, a, p.fields⟩
def ml (no c : Nat) (x : Ln) : Ln := ⟨no, c, x.text, x.ended⟩
theorem mv_went (b st a : Nat) (its : List It) (p : PS) (no c : Nat) (x : Ln) : wentP (mv b st a its p) (ml no c x) = mv b st a its (wentP p x) := by
  unfold wentP
  rw [show goesP (mv b st a its p) (ml no c x) = goesP p x from rfl]
  split <;> rfl
theorem mv_endField (b st a : Nat) (its : List It) (p : PS) : endFieldP (mv b st a its p) = mv b st a its (endFieldP p) := by
  unfold endFieldP
  rw [show (mv b st a its p).said = p.said from rfl]
  split <;> rfl
theorem mv_endFieldN (b st a : Nat) (its : List It) (p : PS) (hst : st ≤ 399) (h : endFieldN p = 0) : endFieldN (mv b st a its p) = 0 := by
  unfold endFieldN at h ⊢
  rw [show (mv b st a its p).said = p.said from rfl]
  split
  · rfl
  · rename_i hs
    rw [if_neg hs] at h
    split
    · rename_i hu; rw [if_pos hu] at h; exact absurd h hu
    · rename_i hu
      rw [if_neg hu] at h
      have hf : fullP p = false := by
        cases hf : fullP p with
        | false => rfl
        | true => rw [hf] at h; simp at h
      have : fullP (mv b st a its p) = false := by
        unfold fullP at hf ⊢
        rw [show (mv b st a its p).fields = p.fields from rfl, show (mv b st a its p).stanzas = st from rfl]
        split
        · have : st ≠ 400 := by omega
          simpa using this
        · rename_i hz
          rw [if_neg hz] at hf
          exact hf
      rw [this]; rfl
theorem mv_then (b st a : Nat) (its : List It) (p : PS) (no c : Nat) (x : Ln) : thenP (mv b st a its p) (ml no c x) = mv b st a its (thenP p x) := by
  unfold thenP
  rw [show endsP (mv b st a its p) (ml no c x) = endsP p x from rfl, mv_went, mv_endField]
  split <;> rfl
theorem mv_put (t t' : List UInt8) (b st a : Nat) (its : List It) (p : PS) (no c : Nat) (x : Ln) (hk : kindL x.text ≠ 1) : ∃ b', putP t' (mv b st a its p) (ml no c x) = mv b' st a its (putP t p x) := by
  unfold putP
  rw [show (ml no c x).text = x.text from rfl, if_neg hk, if_neg hk]
  split
  · exact ⟨no, rfl⟩
  · exact ⟨b, rfl⟩
/-- A line that isn't empty does the same elsewhere. -/
theorem mv_take {t t' : List UInt8} {b st a : Nat} {its : List It} {p q : PS} {no c : Nat} {x : Ln} (hst : st ≤ 399) (hk : kindL x.text ≠ 1) (h : takeP t p x = .ok q) : ∃ b', takeP t' (mv b st a its p) (ml no c x) = .ok (mv b' st a its q) := by
  obtain ⟨h1, h2, rfl⟩ := take_parts h
  obtain ⟨b', hb⟩ := mv_put t t' b st a its (thenP p x) no c x hk
  refine ⟨b', ?_⟩
  have hT := take_of (t := t') (p := mv b st a its p) (x := ml no c x) (by rw [show endsP (mv b st a its p) (ml no c x) = endsP p x from rfl, mv_went]; exact fun he => mv_endFieldN _ _ _ _ _ hst (h1 he)) h2
  rw [hT, mv_then, hb]
/-- Such a line turns nothing but the block. -/
theorem take_keeps {t : List UInt8} {p q : PS} {x : Ln} (hk : kindL x.text ≠ 1) (h : takeP t p x = .ok q) : q.items = p.items ∧ q.stanzas = p.stanzas ∧ q.at_ = p.at_ := by
  obtain ⟨_, _, rfl⟩ := take_parts h
  have e : (thenP p x).items = p.items ∧ (thenP p x).stanzas = p.stanzas ∧ (thenP p x).at_ = p.at_ := by
    unfold thenP endFieldP wentP
    split <;> split <;> (try split) <;> exact ⟨rfl, rfl, rfl⟩
  unfold putP
  rw [if_neg hk]
  split <;> exact e

/-- What a block's lines do, wherever they stand. -/
def Does (ts said : List (List UInt8)) (fields : List Fld) : Prop :=
  ∀ (t : List UInt8) (b st a no c : Nat) (its : List It), st ≤ 399 → ∃ b', runP t ⟨b, [], its, st, a, []⟩ (num no c ts) = .ok ⟨b', said, its, st, a, fields⟩
theorem Does.nil : Does [] [] [] := fun t b st a no c its _ => ⟨b, rfl⟩
theorem Does.snoc {ts : List (List UInt8)} {t : List UInt8} {p q : PS} {x : Ln} (h : Does ts p.said p.fields) (hk : kindL x.text ≠ 1) (hx : x.ended = true) (ht : takeP t p x = .ok q) : Does (ts ++ [x.text]) q.said q.fields := by
  intro t' b st a no c its hst
  obtain ⟨b1, h1⟩ := h t' b st a no c its hst
  obtain ⟨b2, h2⟩ := mv_take (t' := t') (b := b1) (st := st) (a := a) (its := its) (no := no + ts.length) (c := c + (textL ts).length) hst hk ht
  refine ⟨b2, ?_⟩
  rw [num_append, runP_append, h1]
  dsimp only
  have e : num (no + ts.length) (c + (textL ts).length) [x.text] = ml (no + ts.length) (c + (textL ts).length) x :: [] := by
    show [(⟨_, _, x.text, true⟩ : Ln)] = [⟨_, _, x.text, x.ended⟩]
    rw [hx]
  rw [e, run_cons (by exact h2)]
  rfl
/-- A block that stands alone. -/
structure Blk (it : It) : Prop where
  kind : it.kind = if it.fields = [] then 2 else 3
  pos : it.raw ≠ []
  does : ∃ ts said fields, it.raw = textL ts ∧ (∀ l ∈ ts, (10 : UInt8) ∉ l) ∧ Does ts said fields ∧ endFieldN ⟨0, said, [], 0, 0, fields⟩ = 0 ∧ (endFieldP ⟨0, said, [], 0, 0, fields⟩).fields = it.fields
/-- Items of which no two that aren't blank stand side by side; b: what stands ahead isn't blank. -/
def apartOn : Bool → List It → List It
  | _, [] => []
  | b, x :: r => (if b = true ∧ x.kind ≠ 1 then [⟨1, [10], []⟩] else []) ++ x :: apartOn (x.kind != 1) r
def lastF : Bool → List It → Bool
  | b, [] => b
  | _, x :: r => lastF (x.kind != 1) r
theorem lastF_append : ∀ (b : Bool) (l r : List It), lastF b (l ++ r) = lastF (lastF b l) r
  | b, [], r => rfl
  | b, x :: l, r => lastF_append _ l r
/-- No two that aren't blank stand side by side. -/
def Alt : Bool → List It → Prop
  | _, [] => True
  | b, x :: r => (b = true → x.kind = 1) ∧ Alt (x.kind != 1) r
theorem Alt.apart : ∀ (b : Bool) (l : List It), Alt b l → apartOn b l = l
  | b, [], _ => rfl
  | b, x :: r, ⟨h1, h2⟩ => by
    show (if b = true ∧ x.kind ≠ 1 then _ else []) ++ x :: apartOn _ r = _
    rw [if_neg (fun h => h.2 (h1 h.1)), Alt.apart _ r h2]; rfl
theorem Alt.append : ∀ (b : Bool) (l r : List It), Alt b l → Alt (lastF b l) r → Alt b (l ++ r)
  | b, [], r, _, h => h
  | b, x :: l, r, ⟨h1, h2⟩, h => ⟨h1, Alt.append _ l r h2 h⟩

/-- What a run has made, up to a place. -/
structure Mid (t : List UInt8) (p : PS) (c : Nat) : Prop where
  at_ : p.at_ ≤ c
  blks : ∀ it ∈ p.items, it.kind ≠ 1 → Blk it
  alt : Alt false p.items ∧ lastF false p.items = false
  cur : ∃ ts, (t.take c).drop p.at_ = textL ts ∧ (∀ l ∈ ts, (10 : UInt8) ∉ l) ∧ Does ts p.said p.fields ∧ (p.at_ = c → p.fields = [])
theorem Mid.new (t : List UInt8) : Mid t PS.new 0 :=
  ⟨Nat.le_refl _, (fun it h => by cases h), ⟨trivial, rfl⟩, [], by simp [PS.new, textL], (fun l h => by cases h), Does.nil, fun _ => rfl⟩
/-- The block that ends at a place. -/
theorem Mid.endBlock {t : List UInt8} {p : PS} {c : Nat} (h : Mid t p c) (h0 : endFieldN p = 0) (hct : c ≤ t.length) :
    ∃ l, (endBlockP t (endFieldP p) c).items = p.items ++ l ∧ (∀ it ∈ l, Blk it) ∧ l.length ≤ 1 := by
  have hat := h.at_
  obtain ⟨ts, h1, h2, h3, _⟩ := h.cur
  have e : endFieldN ⟨0, p.said, [], 0, 0, p.fields⟩ = 0 := mv_endFieldN 0 0 0 [] p (by decide) h0
  have e2 : (endFieldP ⟨0, p.said, [], 0, 0, p.fields⟩).fields = (endFieldP p).fields := by
    have := mv_endField 0 0 0 [] p
    rw [show (⟨0, p.said, [], 0, 0, p.fields⟩ : PS) = mv 0 0 0 [] p from rfl, this]; rfl
  have hne : p.at_ ≠ c → (t.take c).drop p.at_ ≠ [] := by
    intro hh e
    have := congrArg List.length e
    simp only [List.length_drop, List.length_take, List.length_nil] at this
    omega
  unfold endBlockP
  rw [endField_at]
  split
  · exact ⟨[], by rw [endField_items]; simp, (fun it h => by cases h), by simp⟩
  · rename_i hac
    split
    · rename_i hz
      refine ⟨[⟨2, (t.take c).drop p.at_, (endFieldP p).fields⟩], ?_, ?_, by simp⟩
      · show (endFieldP p).items ++ [_] = _
        rw [endField_items, endField_at]; rfl
      · intro it hi
        rw [List.mem_singleton.1 hi]
        exact ⟨by rw [if_pos (List.length_eq_zero_iff.1 hz)], hne hac, ts, p.said, p.fields, h1, h2, h3, e, e2⟩
    · rename_i hz
      refine ⟨[⟨3, (t.take c).drop p.at_, (endFieldP p).fields⟩], ?_, ?_, by simp⟩
      · show (endFieldP p).items ++ [_] = _
        rw [endField_items, endField_at]; rfl
      · intro it hi
        rw [List.mem_singleton.1 hi]
        exact ⟨by rw [if_neg (fun h => hz (List.length_eq_zero_iff.2 h))], hne hac, ts, p.said, p.fields, h1, h2, h3, e, e2⟩
theorem alt_blk {l : List It} (h : ∀ it ∈ l, Blk it) (hl : l.length ≤ 1) : Alt false l := by
  match l, hl with
  | [], _ => trivial
  | [x], _ => exact ⟨fun h => (by cases h), trivial⟩
theorem Mid.take {t : List UInt8} {p q : PS} {x : Ln} (h : Mid t p x.at_) (hen : x.ended = true) (hcl : (10 : UInt8) ∉ x.text) (hrest : ∃ r, t.drop x.at_ = x.bytes ++ r) (hct : x.at_ ≤ t.length) (he : takeP t p x = .ok q) : Mid t q (x.at_ + x.bytes.length) := by
  have hat := h.at_
  obtain ⟨r, hr⟩ := hrest
  have hb : x.bytes = x.text ++ [10] := by unfold Ln.bytes; rw [hen]; simp
  have htk : t.take (x.at_ + x.bytes.length) = t.take x.at_ ++ x.bytes := by
    rw [List.take_add, hr]; simp
  by_cases hk : kindL x.text = 1
  · obtain ⟨g1, _, rfl⟩ := take_parts he
    have hg : goesP p x = false := goes_kind (by omega)
    have hw : wentP p x = p := by unfold wentP; rw [hg]; rfl
    have hE : endsP p x = true := by unfold endsP; rw [hg]; simp
    rw [hw] at g1
    have hth : thenP p x = endFieldP p := by unfold thenP; rw [hE, hw]; rfl
    obtain ⟨l, l1, l2, l3⟩ := h.endBlock (g1 hE) hct
    have ha : (endBlockP t (endFieldP p) x.at_).at_ = x.at_ := endBlock_at t _ _ (by rw [endField_at]; exact hat)
    have hlast : x.at_ + x.bytes.length = x.at_ + x.text.length + 1 := by rw [hb]; simp; omega
    unfold putP
    rw [if_neg (by omega), if_pos hk, hth]
    refine ⟨by show x.at_ + x.text.length + 1 ≤ _; omega, ?_, ?_, [], ?_, (fun l h => by cases h), ?_, fun _ => rfl⟩
    · intro it hi hk1
      rcases List.mem_append.1 (show it ∈ (endBlockP t (endFieldP p) x.at_).items ++ [_] from hi) with hi | hi
      · rw [l1] at hi
        rcases List.mem_append.1 hi with hi | hi
        · exact h.blks it hi hk1
        · exact l2 it hi
      · rw [List.mem_singleton.1 hi] at hk1; exact absurd rfl hk1
    · show Alt false ((endBlockP t (endFieldP p) x.at_).items ++ [_]) ∧ lastF false ((endBlockP t (endFieldP p) x.at_).items ++ [_]) = false
      rw [l1]
      refine ⟨Alt.append _ _ _ (Alt.append _ _ _ h.alt.1 ?_) ?_, ?_⟩
      · rw [h.alt.2]; exact alt_blk l2 l3
      · exact ⟨fun _ => rfl, trivial⟩
      · rw [lastF_append]; rfl
    · show (t.take (x.at_ + x.bytes.length)).drop (x.at_ + x.text.length + 1) = _
      rw [← hlast, List.drop_of_length_le (by rw [List.length_take]; omega)]; rfl
    · show Does [] (endBlockP t (endFieldP p) x.at_).said []
      rw [endBlock_said, endField_said]; exact Does.nil
  · obtain ⟨k1, k2, k3⟩ := take_keeps hk he
    obtain ⟨ts, h1, h2, h3, _⟩ := h.cur
    refine ⟨by rw [k3]; omega, by rw [k1]; exact h.blks, by rw [k1]; exact h.alt, ts ++ [x.text], ?_, ?_, h3.snoc hk hen he, ?_⟩
    · rw [k3, htk, List.drop_append_of_le_length (by rw [List.length_take]; omega), h1, textL_append, hb]
      unfold textL; simp
    · intro l hl
      rcases List.mem_append.1 hl with hl | hl
      · exact h2 l hl
      · rw [List.mem_singleton.1 hl]; exact hcl
    · intro hh
      rw [k3, hb] at hh
      simp at hh; omega
theorem Mid.run (t : List UInt8) : ∀ (xs : List Ln) (no c : Nat) (p q : PS), Runs no c xs → no ≤ c → Inv p c → Mid t p c → t.drop c = xs.flatMap Ln.bytes → c ≤ t.length → (∀ x ∈ xs, (10 : UInt8) ∉ x.text) → runP t p xs = .ok q → Mid t q t.length
  | [], no, c, p, q, _, _, _, hm, hr, hct, _, he => by
    cases he
    have : c = t.length := by
      have := congrArg List.length hr
      simp at this; omega
    rw [← this]; exact hm
  | x :: xs, no, c, p, q, hrun, hn, hi, hm, hr, hct, hcl, he => by
    obtain ⟨r1, r2, r3, r4⟩ := hrun
    unfold runP at he
    cases ht : takeP t p x with
    | error e => rw [ht] at he; cases he
    | ok p1 =>
      rw [ht] at he
      dsimp only at he
      rw [List.flatMap_cons] at hr
      rw [← r2] at hi hm hr hct
      obtain ⟨i1, e1⟩ := Inv.take hi (by omega) ht
      have m1 := hm.take e1 (hcl x List.mem_cons_self) ⟨_, hr⟩ hct ht
      have hr2 : t.drop (x.at_ + x.bytes.length) = xs.flatMap Ln.bytes := by
        rw [← List.drop_drop, hr]; simp
      have hct2 : x.at_ + x.bytes.length ≤ t.length := by
        have := congrArg List.length hr
        simp only [List.length_drop, List.length_append] at this
        omega
      rw [r2] at i1 m1 hr2 hct2
      exact Mid.run t xs (no + 1) (c + x.bytes.length) p1 q r4 (by omega) i1 m1 hr2 hct2 (fun y hy => hcl y (List.mem_cons_of_mem _ hy)) he
/-- The block that ends, when its field has ended: what it is. -/
theorem Blk.ends {it : It} {said : List (List UInt8)} {fields : List Fld} (hk : it.kind = if it.fields = [] then 2 else 3) (h0 : endFieldN ⟨0, said, [], 0, 0, fields⟩ = 0) (hf : (endFieldP ⟨0, said, [], 0, 0, fields⟩).fields = it.fields)
    (t : List UInt8) (b st a e : Nat) (its : List It) (hst : st ≤ 399) (hr : (t.take e).drop a = it.raw) (hae : a < e) :
    endFieldN ⟨b, said, its, st, a, fields⟩ = 0 ∧ (endBlockP t (endFieldP ⟨b, said, its, st, a, fields⟩) e).items = its ++ [it] ∧ (endBlockP t (endFieldP ⟨b, said, its, st, a, fields⟩) e).stanzas ≤ st + 1 ∧ (endBlockP t (endFieldP ⟨b, said, its, st, a, fields⟩) e).said = [] ∧ (endBlockP t (endFieldP ⟨b, said, its, st, a, fields⟩) e).fields = [] ∧ (endBlockP t (endFieldP ⟨b, said, its, st, a, fields⟩) e).at_ = e := by
  have e0 := mv_endFieldN b st a its ⟨0, said, [], 0, 0, fields⟩ hst h0
  have e1 := mv_endField b st a its ⟨0, said, [], 0, 0, fields⟩
  refine ⟨e0, ?_⟩
  rw [show (⟨b, said, its, st, a, fields⟩ : PS) = mv b st a its ⟨0, said, [], 0, 0, fields⟩ from rfl, e1]
  have es := endField_said ⟨0, said, [], 0, 0, fields⟩
  generalize endFieldP ⟨0, said, [], 0, 0, fields⟩ = p at *
  unfold endBlockP
  rw [show (mv b st a its p).at_ = a from rfl, show (mv b st a its p).fields = p.fields from rfl, hf, if_neg (by omega)]
  split
  · rename_i hz
    rw [if_pos (List.length_eq_zero_iff.1 hz)] at hk
    refine ⟨?_, by show st ≤ st + 1; omega, es, rfl, rfl⟩
    show its ++ [⟨(2 : Nat), (t.take e).drop a, p.fields⟩] = _
    rw [hr, hf]
    obtain ⟨k, r, f⟩ := it
    simp only at hk ⊢
    rw [hk]; rfl
  · rename_i hz
    rw [if_neg (fun h => hz (by rw [h]; rfl))] at hk
    refine ⟨?_, by show st + 1 ≤ st + 1; omega, es, rfl, rfl⟩
    show its ++ [⟨(3 : Nat), (t.take e).drop a, p.fields⟩] = _
    rw [hr, hf]
    obtain ⟨k, r, f⟩ := it
    simp only at hk ⊢
    rw [hk]; rfl
end Go.Proofs.Ytiebbgbcojgeoaa

namespace Go.Proofs.Ytiebbgbcojgeoaa
open Go.RowKit

theorem cells_new_add (w : World) (t : TypeId) (cs : List Value) : ∀ j u, cs[j]? = some u → (w.alloc (.cells cs.toArray t)).cell? ((⟨w.heap.size, 0, none⟩ : Addr).add j) = some u := by
  intro j u hj
  have := (Cells.new w t cs.toArray).cell j
  have e : (⟨w.heap.size, 0, none⟩ : Addr).add j = ⟨w.heap.size, j, none⟩ := by unfold Addr.add; split <;> simp_all
  rw [e, this, List.getElem?_toArray, hj]
def tagged (T : Nat → Nat) (o : Option Nat) (t : Nat) : Prop := ∀ b, o = some b → T b = t
/-- A step of a tagged thing: other blocks lie as they lay; what was tagged is so still. -/
structure Step (w : World) (T : Nat → Nat) (w' : World) (T' : Nat → Nat) : Prop where
  only : Only (fun r => T r ≠ 0) w w'
  old : ∀ r, r < w.heap.size → T' r = T r
theorem Step.refl (w : World) (T : Nat → Nat) : Step w T w T := ⟨Only.refl _ _, fun _ _ => rfl⟩
theorem Step.trans {w w1 w2 : World} {T T1 T2 : Nat → Nat} (h : Step w T w1 T1) (g : Step w1 T1 w2 T2) : Step w T w2 T2 :=
  ⟨h.only.trans g.only (fun r hr hn => by rw [← h.old r hr]; exact hn), fun r hr => (g.old r (Nat.lt_of_lt_of_le hr h.only.size)).trans (h.old r hr)⟩
theorem Step.below {w w' : World} {T : Nat → Nat} (h : Below w.heap.size w w') : Step w T w' T := ⟨Only.of_below h (Nat.le_refl _), fun _ _ => rfl⟩

end Go.Proofs.Ytiebbgbcojgeoaa

