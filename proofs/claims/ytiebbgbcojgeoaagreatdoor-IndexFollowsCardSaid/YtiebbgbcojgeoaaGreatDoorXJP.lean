/- What an index answers, by definition, plainly. -/
import Derived.Test.YtiebbgbcojgeoaaGreatDoorBas0
set_option linter.unusedVariables false
namespace Go.Proofs.YtiebbgbcojgeoaaGreatDoor
open Go.RowKit Go.Maps Go.Sort Go.Shelf

/-- A text more, among texts that rise. -/
def addS : List (List UInt8) → List UInt8 → List (List UInt8)
  | [], s => [s]
  | a :: l, s => if a < s then a :: addS l s else if a = s then a :: l else s :: a :: l
theorem addS_mem : ∀ (l : List (List UInt8)) (s x : List UInt8), x ∈ addS l s ↔ x = s ∨ x ∈ l
  | [], s, x => by unfold addS; simp
  | a :: l, s, x => by
    have ih := addS_mem l s x
    unfold addS
    split
    · rw [List.mem_cons, ih, List.mem_cons]
      constructor
      · rintro (h | h | h)
        · exact .inr (.inl h)
        · exact .inl h
        · exact .inr (.inr h)
      · rintro (h | h | h)
        · exact .inr (.inl h)
        · exact .inl h
        · exact .inr (.inr h)
    · split
      · rename_i h; subst h
        exact ⟨fun q => .inr q, fun q => by rcases q with q | q; exact q ▸ List.mem_cons_self; exact q⟩
      · rw [List.mem_cons]
theorem lt_tri (a b : List UInt8) : a < b ∨ a = b ∨ b < a := by
  by_cases h : a < b
  · exact .inl h
  · by_cases e : a = b
    · exact .inr (.inl e)
    · refine .inr (.inr ?_)
      have h1 : b ≤ a := h
      rcases List.le_iff_lt_or_eq.1 h1 with q | q
      · exact q
      · exact absurd q.symm e
theorem addS_lt : ∀ (l : List (List UInt8)) (s : List UInt8), l.Pairwise (fun a b => a < b) → (addS l s).Pairwise fun a b => a < b
  | [], s, _ => by unfold addS; exact List.pairwise_singleton _ _
  | a :: l, s, h => by
    have h1 := List.pairwise_cons.1 h
    unfold addS
    split
    · rename_i q
      refine List.pairwise_cons.2 ⟨fun x hx => ?_, addS_lt l s h1.2⟩
      rcases (addS_mem l s x).1 hx with e | e
      · rw [e]; exact q
      · exact h1.1 x e
    · rename_i q
      split
      · exact h
      · rename_i q2
        have hs : s < a := by
          rcases lt_tri a s with z | z | z
          · exact absurd z q
          · exact absurd z q2
          · exact z
        refine List.pairwise_cons.2 ⟨fun x hx => ?_, h⟩
        rcases List.mem_cons.1 hx with e | e
        · rw [e]; exact hs
        · exact List.lt_trans hs (h1.1 x e)
def riseS (ts : List (List UInt8)) : List (List UInt8) := ts.foldl addS []
theorem foldS_mem : ∀ (ts l : List (List UInt8)) (x : List UInt8), x ∈ ts.foldl addS l ↔ x ∈ l ∨ x ∈ ts
  | [], l, x => by simp
  | s :: ts, l, x => by
    rw [List.foldl_cons, foldS_mem ts (addS l s) x, addS_mem, List.mem_cons]
    constructor
    · rintro ((h | h) | h)
      · exact .inr (.inl h)
      · exact .inl h
      · exact .inr (.inr h)
    · rintro (h | h | h)
      · exact .inl (.inr h)
      · exact .inl (.inl h)
      · exact .inr h
theorem foldS_lt : ∀ (ts l : List (List UInt8)), l.Pairwise (fun a b => a < b) → (ts.foldl addS l).Pairwise fun a b => a < b
  | [], l, h => h
  | s :: ts, l, h => foldS_lt ts (addS l s) (addS_lt l s h)
theorem riseS_mem (ts : List (List UInt8)) (x : List UInt8) : x ∈ riseS ts ↔ x ∈ ts := by unfold riseS; rw [foldS_mem]; simp
theorem riseS_lt (ts : List (List UInt8)) : (riseS ts).Pairwise fun a b => a < b := foldS_lt ts [] List.Pairwise.nil
theorem lt_ne {a b : List UInt8} (h : a < b) : a ≠ b := fun e => by subst e; exact List.lt_irrefl _ h
/-- Sorted answers are the rising ones. -/
theorem sortS_rise {ss ts : List (List UInt8)} (nd : ss.Nodup) (h : ∀ x, x ∈ ss ↔ x ∈ ts) : sortS ss = riseS ts := by
  have hn : (riseS ts).Nodup := (riseS_lt ts).imp fun q => lt_ne q
  have hp : ss.Perm (riseS ts) := (List.perm_ext_iff_of_nodup nd hn).2 fun x => by rw [riseS_mem, h]
  rw [sortS_eq hp]
  exact sortS_same ((riseS_lt ts).imp fun q => List.le_of_lt q)
/-- All keys; all values of a key. -/
def keysR (rs : List Sz) : List (List UInt8) := riseS (rs.flatMap fun s => s.2.map Prod.fst)
def valsR (rs : List Sz) (k : List UInt8) : List (List UInt8) := riseS (rs.flatMap fun s => (s.2.filter fun f => f.1 == k).map Prod.snd)
theorem keys_R {rs : List Sz} {ss : List (List UInt8)} (nd : ss.Nodup) (h : ∀ k, k ∈ ss ↔ ∃ s i, 0 < fOf rs k s i) : sortS ss = keysR rs := sortS_rise nd fun k => by
  rw [h, List.mem_flatMap]
  constructor
  · rintro ⟨s, i, hi⟩
    obtain ⟨st, h1, _, h3⟩ := fOf_pos hi
    exact ⟨st, h1, List.mem_map.2 ⟨_, h3, rfl⟩⟩
  · rintro ⟨st, h1, h2⟩
    obtain ⟨f, hf, rfl⟩ := List.mem_map.1 h2
    exact ⟨f.2, st.1, fOf_of h1 hf⟩
theorem vals_R {rs : List Sz} {k : List UInt8} {ss : List (List UInt8)} (nd : ss.Nodup) (h : ∀ s, s ∈ ss ↔ ∃ i, 0 < fOf rs k s i) : sortS ss = valsR rs k := sortS_rise nd fun s => by
  rw [h, List.mem_flatMap]
  constructor
  · rintro ⟨i, hi⟩
    obtain ⟨st, h1, _, h3⟩ := fOf_pos hi
    exact ⟨st, h1, List.mem_map.2 ⟨(k, s), List.mem_filter.2 ⟨h3, by simp⟩, rfl⟩⟩
  · rintro ⟨st, h1, h2⟩
    obtain ⟨f, hf, rfl⟩ := List.mem_map.1 h2
    obtain ⟨h3, h4⟩ := List.mem_filter.1 hf
    have e : f.1 = k := by simpa using h4
    exact ⟨st.1, fOf_of h1 (by rw [← e]; exact h3)⟩
/-- Who has a key with a value that is asked for. -/
def whoR (rs : List Sz) (k : List UInt8) (p : List UInt8 → Bool) : List Int := (rs.filter fun s => s.2.any fun f => f.1 == k && p f.2).map Prod.fst
theorem who_mem (rs : List Sz) (k : List UInt8) (p : List UInt8 → Bool) (i : Int) : i ∈ whoR rs k p ↔ ∃ s, p s = true ∧ 0 < fOf rs k s i := by
  unfold whoR
  rw [List.mem_map]
  constructor
  · rintro ⟨st, h, rfl⟩
    obtain ⟨h1, h2⟩ := List.mem_filter.1 h
    obtain ⟨f, hf, hq⟩ := List.any_eq_true.1 h2
    simp only [Bool.and_eq_true, beq_iff_eq] at hq
    exact ⟨f.2, hq.2, fOf_of h1 (by rw [← hq.1]; exact hf)⟩
  · rintro ⟨s, hp, hi⟩
    obtain ⟨st, h1, h2, h3⟩ := fOf_pos hi
    exact ⟨st, List.mem_filter.2 ⟨h1, List.any_eq_true.2 ⟨_, h3, by simp [hp]⟩⟩, h2⟩
theorem who_nodup {rs : List Sz} (nd : (rs.map Prod.fst).Nodup) (k : List UInt8) (p : List UInt8 → Bool) : (whoR rs k p).Nodup := nd.sublist (List.filter_sublist.map _)
theorem who_R {rs : List Sz} (nr : (rs.map Prod.fst).Nodup) {k : List UInt8} {p : List UInt8 → Bool} {ss : List Int} (nd : ss.Nodup) (h : ∀ i, i ∈ ss ↔ ∃ s, p s = true ∧ 0 < fOf rs k s i) : sortZ ss = sortZ (whoR rs k p) :=
  sortZ_eq ((List.perm_ext_iff_of_nodup nd (who_nodup nr k p)).2 fun i => by rw [h, who_mem])
theorem whoE_R {rs : List Sz} (nr : (rs.map Prod.fst).Nodup) {k t : List UInt8} {ss : List Int} (nd : ss.Nodup) (h : ∀ i, i ∈ ss ↔ 0 < fOf rs k t i) : sortZ ss = sortZ (whoR rs k fun s => s == t) :=
  who_R nr nd fun i => by rw [h]; exact ⟨fun q => ⟨t, by simp, q⟩, fun ⟨s, e, q⟩ => by rw [← (by simpa using e : s = t)]; exact q⟩
theorem who_len (rs : List Sz) (k : List UInt8) (p : List UInt8 → Bool) : (whoR rs k p).length ≤ rs.length := by unfold whoR; rw [List.length_map]; exact List.length_filter_le _ _
/-- How many fields. -/
def countR (rs : List Sz) (k s : List UInt8) : Nat := (rs.map fun st => cntF k s st.2).sum
theorem pick_sum (n : Nat) (j : Int) : ∀ ss : List Int, ss.Nodup → (ss.map fun i => if i = j then n else 0).sum = if j ∈ ss then n else 0
  | [], _ => rfl
  | i :: r, h => by
    have hc := List.nodup_cons.1 h
    have ih := pick_sum n j r hc.2
    rw [List.map_cons, List.sum_cons, ih]
    by_cases e : i = j
    · subst e
      rw [if_pos rfl, if_neg hc.1, if_pos List.mem_cons_self]; rfl
    · rw [if_neg e, Nat.zero_add]
      by_cases q : j ∈ r
      · rw [if_pos q, if_pos (List.mem_cons_of_mem _ q)]
      · rw [if_neg q, if_neg (fun z => by rcases List.mem_cons.1 z with z | z; exact e z.symm; exact q z)]
theorem count_all (k s : List UInt8) : ∀ (rs : List Sz) (ss : List Int), ss.Nodup → (∀ st ∈ rs, 0 < cntF k s st.2 → st.1 ∈ ss) → (ss.map (fOf rs k s)).sum = countR rs k s
  | [], ss, nd, _ => by
    have : ∀ l : List Int, (l.map (fOf [] k s)).sum = 0 := fun l => by
      induction l with
      | nil => rfl
      | cons a r ih => rw [List.map_cons, List.sum_cons, ih]; rfl
    rw [this]; rfl
  | st :: r, ss, nd, h => by
    have ih := count_all k s r ss nd fun q hq => h q (List.mem_cons_of_mem _ hq)
    have e : ss.map (fOf (st :: r) k s) = ss.map fun i => (if i = st.1 then cntF k s st.2 else 0) + fOf r k s i := rfl
    rw [e, sum_add (fun i => if i = st.1 then cntF k s st.2 else 0) (fOf r k s) ss, ih, pick_sum _ _ _ nd]
    unfold countR
    rw [List.map_cons, List.sum_cons]
    congr 1
    by_cases q : 0 < cntF k s st.2
    · rw [if_pos (h st List.mem_cons_self q)]
    · split
      · rfl
      · omega
theorem count_R {rs : List Sz} {k s : List UInt8} {ss : List Int} (nd : ss.Nodup) (h : ∀ i, i ∈ ss ↔ 0 < fOf rs k s i) : (ss.map (fOf rs k s)).sum = countR rs k s :=
  count_all k s rs ss nd fun st hs hc => (h _).2 (by
    obtain ⟨f, hf, hq⟩ := List.countP_pos_iff.1 hc
    simp only [Bool.and_eq_true, beq_iff_eq] at hq
    exact fOf_of hs (by rw [← hq.1, ← hq.2]; exact hf))
theorem len_R8 {rs : List Sz} (nr : (rs.map Prod.fst).Nodup) {ss : List Int} (nd : ss.Nodup) (h : ∀ i, i ∈ ss ↔ idsOf rs i = true) : ss.length = rs.length := by
  have hp : ss.Perm (rs.map Prod.fst) := (List.perm_ext_iff_of_nodup nd nr).2 fun i => by rw [h, idsOf_iff]
  rw [hp.length_eq, List.length_map]
/-! the calls, by these answers -/
section
variable {S : Nat} {w : World} {T : Nat → Tag} {x kb yb n : Nat} {rs : List Sz}
theorem keysC (h : IdxL S w T x kb yb n rs) : Calls Tryz.prog 42 #[.pointer (some ⟨x, 0, none⟩)] w fun e w' => ∃ v, e = .returned v ∧ Strs w' v ((keysR rs).map B) ∧ Below w.heap.size w w' := by
  refine (idxKeys h.at_ (by have := h.n; omega)).mono ?_
  rintro e w' ⟨v, ss, rfl, nd, hm, ha⟩
  have := ha.strs
  rw [keys_R nd hm] at this
  exact ⟨v, rfl, this, ha.2.2⟩
theorem valsC (h : IdxL S w T x kb yb n rs) (k : ByteArray) (hk : k.size ≤ maxLen) : Calls Tryz.prog 43 #[.pointer (some ⟨x, 0, none⟩), .string k] w fun e w' => ∃ v, e = .returned v ∧ Strs w' v ((valsR rs k.data.toList).map B) ∧ Below w.heap.size w w' := by
  refine (idxValues h.at_ (by have := h.n; omega) k hk).mono ?_
  rintro e w' ⟨v, ss, rfl, nd, hm, ha⟩
  have := ha.strs
  rw [vals_R nd hm] at this
  exact ⟨v, rfl, this, ha.2.2⟩
theorem withC (h : IdxL S w T x kb yb n rs) (nr : (rs.map Prod.fst).Nodup) (k : ByteArray) (hk : k.size ≤ maxLen) : Calls Tryz.prog 45 #[.pointer (some ⟨x, 0, none⟩), .string k] w fun e w' => ∃ v, e = .returned v ∧ Nums w' v (sortZ (whoR rs k.data.toList fun _ => true)) ∧ Below w.heap.size w w' := by
  refine (idxWith h.at_ (by have := h.n; omega) k hk).mono ?_
  rintro e w' ⟨v, ss, rfl, nd, hm, ha⟩
  have := ha.nums
  rw [who_R nr nd hm] at this
  exact ⟨v, rfl, this, ha.2.2⟩
theorem betwC (h : IdxL S w T x kb yb n rs) (nr : (rs.map Prod.fst).Nodup) (k a b : ByteArray) (hk : k.size ≤ maxLen) : Calls Tryz.prog 48 #[.pointer (some ⟨x, 0, none⟩), .string k, .string a, .string b] w fun e w' => ∃ v, e = .returned v ∧ Nums w' v (sortZ (whoR rs k.data.toList (betw a.data.toList b.data.toList))) ∧ Below w.heap.size w w' := by
  refine (idxBetween h.at_ (by have := h.n; omega) k a b hk).mono ?_
  rintro e w' ⟨v, ss, rfl, nd, hm, ha⟩
  have := ha.nums
  rw [who_R nr nd hm] at this
  exact ⟨v, rfl, this, ha.2.2⟩
theorem equalC (h : IdxL S w T x kb yb n rs) (nr : (rs.map Prod.fst).Nodup) (k s : ByteArray) (hk : k.size ≤ maxLen) (hs : s.size ≤ maxLen) : Calls Tryz.prog 46 #[.pointer (some ⟨x, 0, none⟩), .string k, .string s] w fun e w' => ∃ v, e = .returned v ∧ Nums w' v (sortZ (whoR rs k.data.toList fun t => t == s.data.toList)) ∧ Below w.heap.size w w' := by
  refine (idxEqual h.at_ (by have := h.n; omega) k s hk hs).mono ?_
  rintro e w' ⟨v, ss, rfl, nd, hm, ha⟩
  have := ha.nums
  rw [whoE_R nr nd hm] at this
  exact ⟨v, rfl, this, ha.2.2⟩
theorem countC (h : IdxL S w T x kb yb n rs) (k s : ByteArray) (hk : k.size ≤ maxLen) (hs : s.size ≤ maxLen) (hn : numF rs ≤ 1000000) : Calls Tryz.prog 47 #[.pointer (some ⟨x, 0, none⟩), .string k, .string s] w fun e w' => e = .returned (.int .i64 (countR rs k.data.toList s.data.toList : Nat)) ∧ Below w.heap.size w w' := by
  refine (idxCount h.at_ k s hk hs (fun ss nd => Nat.le_trans (fOf_sum _ _ rs ss nd) hn)).mono ?_
  rintro e w' ⟨ss, rfl, nd, hm, ho⟩
  rw [count_R nd hm]
  exact ⟨rfl, ho.to_below (Nat.le_refl _) (fun _ _ h => h)⟩
theorem lenC (h : IdxL S w T x kb yb n rs) (nr : (rs.map Prod.fst).Nodup) : Calls Tryz.prog 40 #[.pointer (some ⟨x, 0, none⟩)] w fun e w' => e = .returned (.int .i64 (rs.length : Nat)) ∧ w' = w := by
  refine (len_idx h.at_ (by have := h.n; omega)).mono ?_
  rintro e w' ⟨ss, rfl, nd, hm, rfl⟩
  rw [len_R8 nr nd hm]
  exact ⟨rfl, rfl⟩
end
end Go.Proofs.YtiebbgbcojgeoaaGreatDoor
