/- A list and an index side by side: what each edit makes of both. -/
import Derived.Test.YtiebbgbcojgeoaaGreatDoorXJE
import Derived.Test.YtiebbgbcojgeoaaGreatDoorXJI
import Derived.Test.YtiebbgbcojgeoaaGreatDoorBas0
set_option linter.unusedVariables false
namespace Go.Proofs.YtiebbgbcojgeoaaGreatDoor
open Go.RowKit Go.Maps Go.Sort Go.Shelf

/-! plainly -/
theorem dropZ_mid {a b : List Sz} {s : Sz} (h : idsOf (a ++ b) s.1 = false) : dropZ (a ++ s :: b) s.1 = a ++ b := by
  have hf : ∀ l : List Sz, idsOf l s.1 = false → l.filter (fun q => decide (q.1 ≠ s.1)) = l := fun l hl => List.filter_eq_self.2 fun q hq => by
    have : q.1 ≠ s.1 := fun e => by
      have h2 := (idsOf_iff l s.1).2 (List.mem_map.2 ⟨q, hq, e⟩)
      rw [hl] at h2; cases h2
    simpa using this
  rw [idsOf_append, Bool.or_eq_false_iff] at h
  unfold dropZ
  rw [List.filter_append, List.filter_cons_of_neg (by simp), hf a h.1, hf b h.2]
theorem dropZ_none {rs : List Sz} {id : Int} (h : idsOf rs id = false) : dropZ rs id = rs := List.filter_eq_self.2 fun q hq => by
  have : q.1 ≠ id := fun e => by
    have h2 := (idsOf_iff rs id).2 (List.mem_map.2 ⟨q, hq, e⟩)
    rw [h] at h2; cases h2
  simpa using this
/-- The same is known. -/
def SameI (a b : List Sz) : Prop := idsOf a = idsOf b ∧ fOf a = fOf b
theorem sameI_mid (a b : List Sz) (s : Sz) : SameI (a ++ b ++ [s]) (a ++ s :: b) := by
  refine ⟨?_, ?_⟩
  · funext i
    rw [idsOf_append, idsOf_append, idsOf_append, idsOf_cons, idsOf_cons]
    show (idsOf a i || idsOf b i || (s.1 == i || false)) = (idsOf a i || (s.1 == i || idsOf b i))
    cases idsOf a i <;> cases idsOf b i <;> cases (s.1 == i) <;> rfl
  · funext k v i
    rw [fOf_append, fOf_append, fOf_append, fOf, fOf, fOf]; omega
theorem stz_split {es : List En} {k : Nat} {e : En} (h : es[k]? = some e) : es = es.take k ++ e :: es.drop (k + 1) := by
  obtain ⟨hk, hv⟩ := List.getElem?_eq_some_iff.1 h
  rw [← hv, ← List.drop_eq_getElem_cons hk, List.take_append_drop]
theorem stzE_at {es : List En} {k : Nat} {e : En} (h : es[k]? = some e) (h3 : e.1.kind = 3) : stzE es = stzE (es.take k) ++ (e.2, e.1.fields) :: stzE (es.drop (k + 1)) := by
  have := congrArg stzE (stz_split h)
  rw [this, stzE_append]
  show _ ++ stzE ([e] ++ _) = _
  rw [stzE_append, stzE_one h3]; rfl
theorem setE_split {es : List En} {k : Nat} {e : En} (h : es[k]? = some e) (it : It) : setE es k it = es.take k ++ (it, e.2) :: es.drop (k + 1) := by
  unfold setE
  rw [List.modify_eq_take_cons_drop (List.getElem?_eq_some_iff.1 h).1]
  obtain ⟨_, hv⟩ := List.getElem?_eq_some_iff.1 h
  rw [hv]
theorem ids_mid {l : LS} (ok : OkL l) {k : Nat} {e : En} (h : l.es[k]? = some e) (h3 : e.1.kind = 3) : idsOf (stzE (l.es.take k) ++ stzE (l.es.drop (k + 1))) e.2 = false := by
  have h1 := stzE_at h h3
  have h2 : ((stzE l.es).map Prod.fst).Nodup := by rw [stzE_nums ok.wf]; exact ok.nd
  rw [h1] at h2
  exact nodup_mid (s := (e.2, e.1.fields)) h2
theorem rs_replace {l : LS} (ok : OkL l) {id : Int} {fs : List Fld} (h : (replaceR l id fs).bad = 0) : 1 ≤ id ∧ id < l.next ∧ SameI (putZ (stzE l.es) id fs) (stzE (replaceR l id fs).ls.es) := by
  unfold replaceR at h ⊢
  cases hf : findR l.es id with
  | none => rw [hf] at h; cases h
  | some k =>
    rw [hf] at h
    dsimp only at h ⊢
    by_cases hc : chkN fs = 0
    · rw [if_pos hc]
      dsimp only
      obtain ⟨e, he, h3, hid⟩ := findR_stz ok.wf hf
      have hm := ids_mid ok he h3
      have h1 := stzE_at he h3
      have hn : e.2 ∈ nums l.es := by rw [← stzE_nums ok.wf, h1]; simp
      obtain ⟨_, _, _, hp⟩ := nums_mem hn
      refine ⟨by omega, by rw [← hid]; exact ok.lt _ hn, ?_⟩
      have h2 : stzE (setE l.es k (itemOf fs)) = stzE (l.es.take k) ++ (e.2, fs) :: stzE (l.es.drop (k + 1)) := by
        rw [setE_split he]
        rw [stzE_append]
        show _ ++ stzE ([(itemOf fs, e.2)] ++ _) = _
        rw [stzE_append, stzE_one (show (itemOf fs).kind = 3 from rfl)]; rfl
      rw [h2, h1, ← hid]
      unfold putZ
      rw [dropZ_mid (s := (e.2, e.1.fields)) hm]
      exact sameI_mid _ _ _
    · rw [if_neg hc] at h
      exact absurd h hc
theorem rs_replace_no {l : LS} {id : Int} {fs : List Fld} (h : (replaceR l id fs).bad ≠ 0) : (replaceR l id fs).ls = l := by
  unfold replaceR at h ⊢
  cases hf : findR l.es id with
  | none => rfl
  | some k =>
    rw [hf] at h
    dsimp only at h ⊢
    by_cases hc : chkN fs = 0
    · rw [if_pos hc] at h; exact absurd rfl h
    · rw [if_neg hc]
theorem findI_none {l : LS} (ok : OkL l) {id : Int} (h : findR l.es id = none) : idsOf (stzE l.es) id = false := by
  rw [Bool.eq_false_iff]
  intro e
  rw [idsOf_iff, stzE_nums ok.wf] at e
  obtain ⟨q, hq, hqe, hp⟩ := nums_mem e
  unfold findR at h
  rw [if_pos hp] at h
  rw [List.findIdx?_eq_none_iff] at h
  have := h q hq
  simp [hqe] at this
theorem rs_delete {l : LS} (ok : OkL l) (id : Int) : decide ((deleteR l id).bad = 0) = idsOf (stzE l.es) id ∧ stzE (deleteR l id).ls.es = dropZ (stzE l.es) id := by
  unfold deleteR
  cases hf : findR l.es id with
  | none =>
    have := findI_none ok hf
    exact ⟨by rw [this]; rfl, by rw [dropZ_none this]⟩
  | some k =>
    obtain ⟨e, he, h3, hid⟩ := findR_stz ok.wf hf
    have hm := ids_mid ok he h3
    have h1 := stzE_at he h3
    have h2 : idsOf (stzE l.es) id = true := by rw [idsOf_iff, h1, ← hid]; simp
    refine ⟨by rw [h2]; rfl, ?_⟩
    dsimp only
    unfold cutE
    rw [stzE_append, h1, ← hid, dropZ_mid (s := (e.2, e.1.fields)) hm]
theorem rs_insert {l : LS} (ok : OkL l) {id : Int} {fs : List Fld} (h : (insertR l id fs).bad = 0) : (insertR l id fs).id = l.next ∧ SameI (putZ (stzE l.es) l.next fs) (stzE (insertR l id fs).ls.es) := by
  unfold insertR at h ⊢
  cases hf : gapR l.es id with
  | none => rw [hf] at h; cases h
  | some k =>
    rw [hf] at h
    dsimp only at h ⊢
    by_cases hc : chkN fs = 0
    · rw [if_pos hc] at h ⊢
      by_cases h4 : 400 ≤ lenR l.es
      · rw [if_pos h4] at h; cases h
      · rw [if_neg h4]
        refine ⟨rfl, ?_⟩
        dsimp only
        have hn : idsOf (stzE l.es) l.next = false := by
          rw [Bool.eq_false_iff]
          intro e
          rw [idsOf_iff, stzE_nums ok.wf] at e
          have := ok.lt _ e
          omega
        have h2 : stzE (putE l.es k (itemOf fs, l.next)) = stzE (l.es.take k) ++ (l.next, fs) :: stzE (l.es.drop k) := by
          unfold putE
          rw [stzE_append]
          show _ ++ stzE ([(itemOf fs, l.next)] ++ _) = _
          rw [stzE_append, stzE_one (show (itemOf fs).kind = 3 from rfl)]; rfl
        have h1 : stzE l.es = stzE (l.es.take k) ++ stzE (l.es.drop k) := by rw [← stzE_append, List.take_append_drop]
        rw [h2]
        unfold putZ
        rw [dropZ_none hn, h1]
        exact sameI_mid _ _ _
    · rw [if_neg hc] at h
      exact absurd h hc
theorem rs_insert_no {l : LS} {id : Int} {fs : List Fld} (h : (insertR l id fs).bad ≠ 0) : (insertR l id fs).ls = l := by
  rcases insert_id l id fs with ⟨h1, _⟩ | ⟨_, _, h2⟩
  · exact absurd h1 h
  · exact h2
/-! in memory -/
/-- A list and an index, apart. -/
structure TwoI (S0 S : Nat) (w : World) (lb : Nat) (ev : Value) (ps : List Pr) (l : LS) (m : Nat) (T : Nat → Tag) (x kb yb n : Nat) (rs : List Sz) : Prop where
  ca : Carry S0 w lb ev ps l m
  sh : ShL l.es
  ix : IdxL S w T x kb yb n rs
  off : ∀ r, BlkR lb ev ps (.slice none 0 0) [] r → T r = (0, [], [])
theorem TwoI.eq {S0 S : Nat} {w : World} {lb : Nat} {ev : Value} {ps : List Pr} {l : LS} {m : Nat} {T : Nat → Tag} {x kb yb n : Nat} {rs rs' : List Sz} (h : TwoI S0 S w lb ev ps l m T x kb yb n rs) (e : SameI rs rs') : TwoI S0 S w lb ev ps l m T x kb yb n rs' :=
  ⟨h.ca, h.sh, ⟨by rw [← e.1, ← e.2]; exact h.ix.at_, h.ix.low, h.ix.size, h.ix.n⟩, h.off⟩
theorem TwoI.below {S0 S : Nat} {w w' : World} {lb : Nat} {ev : Value} {ps : List Pr} {l : LS} {m : Nat} {T : Nat → Tag} {x kb yb n : Nat} {rs : List Sz} (h : TwoI S0 S w lb ev ps l m T x kb yb n rs) {N : Nat} (hb : Below N w w') (hN : w.heap.size ≤ N) : TwoI S0 S w' lb ev ps l m T x kb yb n rs :=
  ⟨h.ca.below hb hN, h.sh, h.ix.below hb hN, h.off⟩
theorem TwoI.bareT {S0 S : Nat} {w : World} {lb : Nat} {ev : Value} {ps : List Pr} {l : LS} {m : Nat} {T : Nat → Tag} {x kb yb n : Nat} {rs : List Sz} (h : TwoI S0 S w lb ev ps l m T x kb yb n rs) : TwoI S0 S w lb ev ps l m (bareT T w.heap.size) x kb yb n rs :=
  ⟨h.ca, h.sh, h.ix.bareT, fun r hr => by rw [bareT_lt (h.ca.str.lt hr)]; exact h.off r hr⟩
/-- Behind an edit of the list. -/
theorem TwoI.list {S0 S : Nat} {w w' : World} {lb : Nat} {ev ev' u : Value} {ps ps' : List Pr} {l : LS} {m : Nat} {T : Nat → Tag} {x kb yb n : Nat} {rs : List Sz} (h : TwoI S0 S w lb ev ps l m T x kb yb n rs) (kind id : Int) {fs : List Fld} (h1 : (foldG fs).length ≤ 100000) (h2 : fs.length ≤ 1000000) (hS : S0 ≤ w.heap.size)
    (hw : WrR w lb ev ps (editR l kind id fs) u w' ev' ps') : TwoI S0 S w' lb ev' ps' (editR l kind id fs).ls (m + 1) (Go.Proofs.YtiebbgbcojgeoaaGreatDoor.bareT T w.heap.size) x kb yb n rs := by
  refine ⟨h.ca.edit kind id h1 h2 hw.la hw.es hS (fun b e => ?_), h.sh.edit kind id fs, ?_, fun r hr => ?_⟩
  · rcases hw.blk with q | ⟨b', q, hb'⟩
    · exact .inl (q.symm.trans e)
    · rw [q] at e; cases e; exact .inr hb'
  · have hb := h.ix.bareT
    refine ⟨hb.at_.turn hw.only (fun _ _ => rfl) (fun c hc hs => ?_), hb.low, Nat.le_trans hb.size hw.only.size, hb.n⟩
    have hbl : BlkR lb ev ps (.slice none 0 0) [] c := by
      rcases hs with q | q
      · exact .inl q
      · exact .inr (.inl q)
    have : Go.Proofs.YtiebbgbcojgeoaaGreatDoor.bareT T w.heap.size c = (0, [], []) := by rw [bareT_lt (h.ca.str.lt hbl)]; exact h.off c hbl
    unfold OfIdx at hc
    rw [this] at hc
    exact hc rfl
  · have old : BlkR lb ev ps (.slice none 0 0) [] r → Go.Proofs.YtiebbgbcojgeoaaGreatDoor.bareT T w.heap.size r = (0, [], []) := fun hr => by rw [bareT_lt (h.ca.str.lt hr)]; exact h.off r hr
    rcases hr with q | q | q | ⟨p, hp, hne, hb⟩ | ⟨p, hp, _⟩
    · exact old (.inl q)
    · rcases hw.blk with z | ⟨b', z, hb'⟩
      · exact old (.inr (.inl (z.symm.trans q)))
      · rw [z] at q; cases q; exact bareT_ge hb'
    · cases q
    · rcases hw.mem p hp with z | z
      · exact old (.inr (.inr (.inr (.inl ⟨p, z, hne, hb⟩))))
      · exact bareT_ge (z r hb)
    · cases hp
/-- Behind a word to the index. -/
theorem TwoI.index {S0 S : Nat} {w w' : World} {lb : Nat} {ev : Value} {ps : List Pr} {l : LS} {m : Nat} {T T' : Nat → Tag} {x kb yb n n' : Nat} {rs rs' : List Sz} (h : TwoI S0 S w lb ev ps l m T x kb yb n rs) (ht : ∀ c, c < w.heap.size → T' c = T c) (hi : IdxL S w' T' x kb yb n' rs') (ho : Only (OfIdx T) w w') : TwoI S0 S w' lb ev ps l m T' x kb yb n' rs' := by
  have hs := h.ca.str.only ho (fun r hr e => by unfold OfIdx at e; rw [h.off r hr] at e; exact e rfl)
  exact ⟨⟨hs.la, h.ca.es, h.ca.ok, h.ca.sz, h.ca.lb0, h.ca.ev0, h.ca.len, h.ca.nx⟩, h.sh, hi, fun r hr => by rw [ht r (h.ca.str.lt hr)]; exact h.off r hr⟩
/-- What came in ahead of the index lies as it lay, whatever the index writes. -/
theorem flds_stay {S : Nat} {w : World} {T : Nat → Tag} {x kb yb n : Nat} {rs : List Sz} (h : IdxL S w T x kb yb n rs) {v : Value} {fs : List Fld} (hf : Flds w v fs) (hb : fs ≠ [] → ∀ b, v.ownBlock = some b → b < S) : ∀ W, Only (OfIdx (Go.Proofs.YtiebbgbcojgeoaaGreatDoor.bareT T w.heap.size)) w W → Flds W v fs := fun W hW =>
  hf.only hW fun hne b hv e => by
    have h1 := hb hne b hv
    have h2 := h.size
    unfold OfIdx at e
    rw [bareT_lt (by omega), h.low b h1] at e
    exact e rfl
theorem errZ_iface {lo : Nat} {w : World} {u : Value} {a : Int} {n : Nat} (h : ErrZ lo w u a n) : (n = 0 ∧ u = .nilIface) ∨ (n ≠ 0 ∧ ∃ z, u = .iface 75 (.int .i64 z)) ∨ (n ≠ 0 ∧ ∃ q, u = .iface 107 (.pointer (some ⟨q, 0, none⟩))) := by
  obtain ⟨_, ⟨h, _⟩ | ⟨k, ⟨q, _, e, _⟩, _, h0⟩⟩ := h
  · by_cases e : n = 0
    · subst e; exact .inl ⟨rfl, h⟩
    · exact .inr (.inl ⟨e, _, by rw [h, errV_pos n (by omega)]⟩)
  · exact .inr (.inr ⟨h0, q, e⟩)
end Go.Proofs.YtiebbgbcojgeoaaGreatDoor
