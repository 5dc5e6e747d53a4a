/- Texts put together: NV, NG, NH, NL, UR, US, UT. -/
import Derived.Test.YtiebbgbcojgeoaaGreatDoorBas2
import Derived.Test.YtiebbgbcojgeoaaGreatDoorBas6
import Derived.Test.YtiebbgbcojgeoaaGreatDoorBas7
import Derived.Test.YtiebbgbcojgeoaaGreatDoorBas11
set_option linter.unusedVariables false
namespace Go.Proofs.YtiebbgbcojgeoaaGreatDoor
open Go.RowKit Go.Shelf
attribute [local go_sem] Oper.semAt_some

set_option maxRecDepth 100000 in
set_option maxHeartbeats 1000000 in
theorem refText7_any (ps : List Pr) (v : Value) (nx : Int) (w : World) (h : EntsQ w v ps) (hps : ps.length ≤ 10000) (hraw : ∀ p ∈ ps, p.1.1.raw.length ≤ 100000) :
    Calls Tryz.prog 62 #[.agg #[v, .int .i64 nx]] w fun e w' => e = .returned (.string (B ((apartL (itsP ps)).flatMap It.raw))) ∧ Below w.heap.size w w' := by
  obtain ⟨A, cap, rfl, hle⟩ := h.empty
  have hb := (Below.refl w.heap.size w).alloc (Nat.le_refl _) (.cells #[.slice A ps.length cap, .int .i64 nx] 32)
  have IT := Lib.hid (refItems7_any ps _ nx _ (h.below hb (Nat.le_refl _)) hps)
  have HB := Lib.hid hb
  have HR := Lib.hid (show ∀ it ∈ itsP ps, it.raw.length ≤ 100000 from fun it hi => by
    obtain ⟨p, hp, rfl⟩ := List.mem_map.1 hi
    exact hraw p hp)
  clear h hb hraw
  go_enter Tryz.func62, Tryz.ntmps62
  go_wp2_with fail
  refine IT.out.mono ?_
  rintro e w1 ⟨u, fvs, rfl, acc⟩
  have b1 := acc.below
  have hb1 := Lib.hid (HB.out.trans (b1.mono (by simp)))
  have RN := Lib.hid (refRender_any (itsP ps) _ w1 acc.its (by rw [itsP_len]; omega) HR.out)
  obtain ⟨ua, uc, rfl, _⟩ := own_slice acc.row
  clear acc b1 IT
  go_wp2_with fail
  refine RN.out.mono ?_
  rintro e w2 ⟨rfl, b2⟩
  have hb2 := Lib.hid (hb1.out.trans (b2.mono hb1.out.size))
  clear b2 RN
  go_wp2_with fail
  go_ret
  exact ⟨rfl, hb2.out⟩
/-- What the document's Get answers. -/
def getV (o : Option Pr) : Value := match o with
  | some p => .tuple #[.agg #[.int .i64 p.1.1.kind, .string (B p.1.1.raw), p.2], .bool true]
  | none => .tuple #[.agg #[.int .i64 0, .string ⟨#[]⟩, .slice none 0 0], .bool false]
set_option maxRecDepth 100000 in
set_option maxHeartbeats 1000000 in
theorem refGet7_any (ps : List Pr) (v : Value) (nx id : Int) (w : World) (h : EntsQ w v ps) (hps : ps.length ≤ 10000) :
    Calls Tryz.prog 20 #[.agg #[v, .int .i64 nx], .int .i64 id] w fun e w' => e = .returned (getV ((findR (ps.map Prod.fst) id).bind (ps[·]?))) ∧ Below w.heap.size w w' := by
  obtain ⟨A, cap, rfl, hle⟩ := h.empty
  obtain ⟨W0, hW0⟩ : ∃ W0, W0 = (w.alloc (.cells #[.slice A ps.length cap, .int .i64 nx] 32)).alloc (.cells #[.int .i64 0, .string ⟨#[]⟩, .slice none 0 0] 47) := ⟨_, rfl⟩
  have hb0 : Below w.heap.size w W0 := by rw [hW0]; exact ((Below.refl _ w).alloc (Nat.le_refl _) _).alloc (by simp) _
  have C0 : Cells W0 w.heap.size 32 #[.slice A ps.length cap, .int .i64 nx] := by rw [hW0]; exact (Cells.new _ _ _).alloc _
  have C1 : Cells W0 (w.heap.size + 1) 47 #[.int .i64 0, .string ⟨#[]⟩, .slice none 0 0] := by
    rw [hW0]
    have := Cells.new (w.alloc (.cells #[.slice A ps.length cap, .int .i64 nx] 32)) 47 #[.int .i64 0, .string ⟨#[]⟩, .slice none 0 0]
    rw [World.size_alloc] at this; exact this
  have H0 := h.below hb0 (Nat.le_refl _)
  have FD := Lib.hid (refFind_any ps _ nx id W0 H0 (by omega))
  have HB := Lib.hid hb0
  have HC0 := Lib.hid C0
  have HC1 := Lib.hid C1
  have HH := Lib.hid H0
  clear h hb0 C0 C1 H0
  go_enter Tryz.func20, Tryz.ntmps20
  go_wp2_with fail
  rw [← hW0]
  refine FD.out.mono ?_
  rintro e w1 ⟨rfl, b1⟩
  have D0 := Lib.hid (cells_kept HC0.out b1 HC0.out.lt)
  have D1 := Lib.hid (cells_kept HC1.out b1 HC1.out.lt)
  have HB1 := Lib.hid (HB.out.trans (b1.mono HB.out.size))
  have H1 := Lib.hid (HH.out.below b1 (Nat.le_refl _))
  have d0 : w1.cell? ⟨w.heap.size, 0, none⟩ = some (.slice A ps.length cap) := D0.out.cell 0
  have j0 := D1.out.cell 0
  have j1 := D1.out.cell 1
  have j2 := D1.out.cell 2
  have f0 := D1.out.frozen 0
  have f1 := D1.out.frozen 1
  have f2 := D1.out.frozen 2
  simp only [List.getElem?_toArray, List.getElem?_cons_zero, List.getElem?_cons_succ] at j0 j1 j2
  have hsz := b1.size
  have hz0 : W0.heap.size = w.heap.size + 2 := by rw [hW0]; simp
  clear FD b1 HB HC0 HC1 HH hW0
  cases hf : findR (ps.map Prod.fst) id with
  | none =>
    have hm : (-1 : Int) < 0 := by decide
    have HF := Lib.hid hf
    clear hf
    unfold findI
    dsimp only
    go_wp2_with fail
    have RE := ((D1.out.set 0 (.int .i64 0)).set 1 (.string ⟨#[]⟩)).set 2 (.slice none 0 0)
    rw [set3] at RE
    refine bodyPost_ret (ret_i2 rfl _ _ (w.heap.size + 1) _ rfl RE rfl) rfl ?_
    exact ⟨by rw [HF.out]; rfl, ((HB1.out.setCell (p := ⟨w.heap.size + 1, 0, none⟩) (by show w.heap.size ≤ w.heap.size + 1; omega) _).setCell (p := ⟨w.heap.size + 1, 1, none⟩) (by show w.heap.size ≤ w.heap.size + 1; omega) _).setCell (p := ⟨w.heap.size + 1, 2, none⟩) (by show w.heap.size ≤ w.heap.size + 1; omega) _⟩
  | some k =>
    obtain ⟨hk, -⟩ := findR_lt hf
    rw [List.length_map] at hk
    obtain ⟨p, hp⟩ : ∃ p, ps[k]? = some p := ⟨_, List.getElem?_eq_getElem hk⟩
    obtain ⟨g, cap', pa, pc, e1, _, hg, e2, d4, d5, d6, d7⟩ := H1.out.here hp
    cases e1
    rw [e2] at d6
    have hkn : ¬ ((k : Int) < 0) := by omega
    have HP := Lib.hid hp
    have E2 := Lib.hid e2
    have HF := Lib.hid hf
    clear hp hf e2
    unfold findI
    dsimp only
    go_wp2_with fail
    have RE := ((D1.out.set 0 (.int .i64 p.1.1.kind)).set 1 (.string (B p.1.1.raw))).set 2 (.slice pa p.1.1.fields.length pc)
    rw [set3] at RE
    refine bodyPost_ret (ret_i2 rfl _ _ (w.heap.size + 1) _ rfl RE rfl) rfl ?_
    refine ⟨?_, ((HB1.out.setCell (p := ⟨w.heap.size + 1, 0, none⟩) (by show w.heap.size ≤ w.heap.size + 1; omega) _).setCell (p := ⟨w.heap.size + 1, 1, none⟩) (by show w.heap.size ≤ w.heap.size + 1; omega) _).setCell (p := ⟨w.heap.size + 1, 2, none⟩) (by show w.heap.size ≤ w.heap.size + 1; omega) _⟩
    rw [HF.out]
    show _ = Ending.returned (getV (ps[k]?))
    rw [HP.out]
    show _ = Ending.returned (.tuple #[.agg #[.int .i64 p.1.1.kind, .string (B p.1.1.raw), p.2], .bool true])
    rw [E2.out]; rfl
/-- Which one a stanza is among stanzas. -/
def placeS (rs : List Stz) (id : Int) : Int := match rs.findIdx? fun s => s.1 == id with | none => -1 | some k => (k : Nat)
theorem placeS_P (ps : List Pr) (id : Int) : placeS (stzL (stzP 0 ps)) id = placeP ps id := by
  unfold placeS placeP stzL
  rw [List.findIdx?_map]; rfl
set_option maxRecDepth 100000 in
set_option maxHeartbeats 1000000 in
theorem refPlace7_any (ps : List Pr) (v : Value) (nx id : Int) (w : World) (h : EntsQ w v ps) (hps : ps.length ≤ 10000) :
    Calls Tryz.prog 23 #[.agg #[v, .int .i64 nx], .int .i64 id] w fun e w' => e = .returned (.int .i64 (placeS (stzN ps) id)) ∧ Below w.heap.size w w' := by
  obtain ⟨A, cap, rfl, hle⟩ := h.empty
  have hb := (Below.refl w.heap.size w).alloc (Nat.le_refl _) (.cells #[.slice A ps.length cap, .int .i64 nx] 32)
  have ST := Lib.hid (refStanzas7_any ps _ nx _ (h.below hb (Nat.le_refl _)) hps)
  have HB := Lib.hid hb
  clear h hb
  go_enter Tryz.func23, Tryz.ntmps23
  go_wp2_with fail
  refine ST.out.mono ?_
  rintro e w1 ⟨u, fvs, rfl, acc⟩
  have hb1 := Lib.hid (HB.out.trans (acc.below.mono (by simp)))
  have hsl := stzN_len ps
  obtain ⟨ua, uc, rfl, _⟩ := own_slice acc.row
  have SZ := Lib.hid acc.szs
  generalize hrs : stzN ps = rs at *
  have HRS := Lib.hid hrs
  clear acc ST hrs
  go_wp2_with fail
  go_loopw [6] (fun i W => ∃ k : Nat, k ≤ rs.length ∧ i = .int .i64 k ∧ (∀ s ∈ rs.take k, s.1 ≠ id) ∧ W = w1) (fun i _ => rs.length - (intOf i).toNat)
  case atStart => exact ⟨0, Nat.zero_le _, rfl, (fun s h => by simp at h), rfl⟩
  case round =>
    obtain ⟨k, hk, rfl, hn, rfl⟩ := hrel
    have HN := Lib.hid hn
    clear hn
    by_cases hlt : k < rs.length
    · obtain ⟨s, hs⟩ : ∃ s, rs[k]? = some s := ⟨_, List.getElem?_eq_getElem hlt⟩
      obtain ⟨_, _, e1, _, hc⟩ := SZ.out
      cases e1
      obtain ⟨b, off, fv, rfl, hbb, c0, c1, hf⟩ := hc k s hs
      obtain ⟨fa, fc, rfl, _, _⟩ := hf
      have HS := Lib.hid hs
      clear hs hc
      by_cases hq : s.1 = id
      · rw [hq] at c0
        have hid : Hid (s.1 = id) := hq
        clear hq
        go_wp2_with fail
        go_ret
        refine ⟨?_, hb1.out⟩
        have : (rs.findIdx? fun s => s.1 == id) = some k := by
          refine List.findIdx?_eq_some_iff_getElem.2 ⟨hlt, ?_, fun j hj => ?_⟩
          · have : rs[k] = s := (List.getElem?_eq_some_iff.1 HS.out).2
            rw [this]; simpa using hid.out
          · have hm : rs[j] ∈ rs.take k := by
              refine List.mem_of_getElem? (i := j) ?_
              rw [List.getElem?_take, if_pos hj, List.getElem?_eq_getElem (by omega)]
            simpa using HN.out _ hm
        unfold placeS
        rw [HRS.out, this]; rfl
      · have hq1 : ((s.1 : Int) == id) = false := beq_eq_false_iff_ne.2 hq
        have HQ := Lib.hid hq
        clear hq
        go_wp2_with fail
        go_roundw
        case rel =>
          refine ⟨k + 1, hlt, by go_num, fun x hx => ?_, by first | rfl | trivial⟩
          rw [List.take_add_one, HS.out] at hx
          rcases List.mem_append.1 hx with hx | hx
          · exact HN.out x hx
          · simp at hx; rw [hx]; exact HQ.out
        case measure => simp [intOf]; omega
    · obtain rfl : k = rs.length := by omega
      have hfin : Hid (placeS rs id = -1) := by
        show placeS rs id = -1
        have := HN.out
        rw [List.take_length] at this
        unfold placeS
        rw [List.findIdx?_eq_none_iff.2 (fun x hx => by simpa using this x hx)]
      go_wp2_with fail
      go_ret
      exact ⟨by rw [HRS.out, hfin.out]; rfl, hb1.out⟩
end Go.Proofs.YtiebbgbcojgeoaaGreatDoor

namespace Go.Proofs.YtiebbgbcojgeoaaGreatDoor

def nums (es : List En) : List Int := (es.map Prod.snd).filter fun n => decide (0 < n)
theorem nums_append (a b : List En) : nums (a ++ b) = nums a ++ nums b := by unfold nums; rw [List.map_append, List.filter_append]
theorem nums_len (es : List En) : (nums es).length = lenR es := by
  unfold nums lenR
  rw [List.filter_map, List.length_map]; rfl
theorem nums_mem {es : List En} {n : Int} (h : n ∈ nums es) : ∃ e ∈ es, e.2 = n ∧ 0 < n := by
  unfold nums at h
  obtain ⟨h1, h2⟩ := List.mem_filter.1 h
  obtain ⟨e, he, hn⟩ := List.mem_map.1 h1
  exact ⟨e, he, hn, of_decide_eq_true h2⟩
theorem setE_snd (es : List En) (k : Nat) (it : It) : (setE es k it).map Prod.snd = es.map Prod.snd := by
  unfold setE
  apply List.ext_getElem?
  intro j
  rw [List.getElem?_map, List.getElem?_modify, List.getElem?_map]
  cases es[j]? with
  | none => rfl
  | some e =>
    by_cases h : k = j
    · simp [h]
    · simp [h]
/-- A list whose stanzas are well numbered. -/
structure OkL (l : LS) : Prop where
  wf : WF l.es
  pos : 0 < l.next
  lt : ∀ n ∈ nums l.es, n < l.next
  nd : (nums l.es).Nodup
  len : lenR l.es ≤ 400
theorem OkL.replace {l : LS} (h : OkL l) {k : Nat} {e : En} (he : l.es[k]? = some e) (h3 : e.1.kind = 3) (fs : List Fld) : OkL ⟨setE l.es k (itemOf fs), l.next⟩ := by
  have hn : nums (setE l.es k (itemOf fs)) = nums l.es := by unfold nums; rw [setE_snd]
  refine ⟨h.wf.set k (itemOf fs) rfl e he h3, h.pos, ?_, ?_, ?_⟩
  · show ∀ n ∈ nums (setE l.es k (itemOf fs)), n < l.next
    rw [hn]; exact h.lt
  · show (nums (setE l.es k (itemOf fs))).Nodup
    rw [hn]; exact h.nd
  · show lenR (setE l.es k (itemOf fs)) ≤ 400
    rw [← nums_len, hn, nums_len]; exact h.len
theorem cut_sub (es : List En) (k : Nat) : (nums (cutE es k)).Sublist (nums es) := by
  unfold nums cutE
  refine List.Sublist.filter _ (List.Sublist.map _ ?_)
  conv => rhs; rw [← List.take_append_drop k es]
  exact (List.Sublist.refl _).append (by rw [← List.drop_drop]; exact List.drop_sublist _ _)
theorem OkL.delete {l : LS} (h : OkL l) (k : Nat) : OkL ⟨cutE l.es k, l.next⟩ := by
  have hs := cut_sub l.es k
  refine ⟨h.wf.cut k, h.pos, fun n hn => h.lt n (hs.subset hn), hs.nodup h.nd, ?_⟩
  show lenR (cutE l.es k) ≤ 400
  have := hs.length_le
  rw [nums_len, nums_len] at this
  have := h.len
  omega
theorem put_perm (es : List En) (k : Nat) (it : It) {n : Int} (hn : 0 < n) : (nums (putE es k (it, n))).Perm (n :: nums es) := by
  have e1 : nums (putE es k (it, n)) = nums (es.take k) ++ n :: nums (es.drop k) := by
    unfold putE
    rw [nums_append]
    congr 1
    unfold nums
    rw [List.map_cons, List.filter_cons, if_pos (by simpa using hn)]
  have e2 : nums es = nums (es.take k) ++ nums (es.drop k) := by rw [← nums_append, List.take_append_drop]
  rw [e1, e2]
  exact List.perm_middle
theorem OkL.insert {l : LS} (h : OkL l) (k : Nat) (fs : List Fld) (hf : ¬ 400 ≤ lenR l.es) : OkL ⟨putE l.es k (itemOf fs, l.next), l.next + 1⟩ := by
  have hp := put_perm l.es k (itemOf fs) h.pos
  have hpos := h.pos
  refine ⟨h.wf.put k ⟨rfl, h.pos⟩, by show 0 < l.next + 1; omega, fun n hn => ?_, hp.nodup_iff.2 (List.nodup_cons.2 ⟨fun q => ?_, h.nd⟩), ?_⟩
  · show n < l.next + 1
    rcases List.mem_cons.1 (hp.subset hn) with q | q
    · omega
    · have := h.lt n q; omega
  · have := h.lt _ q; omega
  · show lenR (putE l.es k (itemOf fs, l.next)) ≤ 400
    have := hp.length_eq
    rw [nums_len, List.length_cons, nums_len] at this
    omega
theorem findR_stz {es : List En} (h : WF es) {id : Int} {k : Nat} (hf : findR es id = some k) : ∃ e, es[k]? = some e ∧ e.1.kind = 3 ∧ e.2 = id := by
  obtain ⟨_, e, he, h2, h3⟩ := findR_lt hf
  rcases h e (List.mem_of_getElem? he) with ⟨q, _⟩ | ⟨_, q⟩
  · exact ⟨e, he, q, h2⟩
  · omega
theorem OkL.edit {l : LS} (h : OkL l) (kind id : Int) (fs : List Fld) : OkL (editR l kind id fs).ls := by
  unfold editR
  split
  · unfold replaceR
    split
    · exact h
    · rename_i k hk
      obtain ⟨e, he, h3, _⟩ := findR_stz h.wf hk
      split
      · exact h.replace he h3 fs
      · exact h
  · split
    · unfold deleteR
      split
      · exact h
      · exact h.delete _
    · unfold insertR
      split
      · exact h
      · split
        · split
          · exact h
          · rename_i hf; exact h.insert _ fs hf
        · exact h
/-- How an edit's length and next number grow. -/
theorem edit_len (l : LS) (kind id : Int) (fs : List Fld) : (editR l kind id fs).ls.es.length ≤ l.es.length + 1 ∧ l.next ≤ (editR l kind id fs).ls.next ∧ (editR l kind id fs).ls.next ≤ l.next + 1 := by
  unfold editR
  split
  · unfold replaceR
    split
    · exact ⟨Nat.le_succ _, Int.le_refl _, by show l.next ≤ l.next + 1; omega⟩
    · split
      · exact ⟨by show (setE _ _ _).length ≤ _; rw [setE_len]; omega, Int.le_refl _, by show l.next ≤ l.next + 1; omega⟩
      · exact ⟨Nat.le_succ _, Int.le_refl _, by show l.next ≤ l.next + 1; omega⟩
  · split
    · unfold deleteR
      split
      · exact ⟨Nat.le_succ _, Int.le_refl _, by show l.next ≤ l.next + 1; omega⟩
      · exact ⟨by show (cutE _ _).length ≤ _; unfold cutE; rw [List.length_append, List.length_take, List.length_drop]; omega, Int.le_refl _, by show l.next ≤ l.next + 1; omega⟩
    · unfold insertR
      split
      · exact ⟨Nat.le_succ _, Int.le_refl _, by show l.next ≤ l.next + 1; omega⟩
      · split
        · split
          · exact ⟨Nat.le_succ _, Int.le_refl _, by show l.next ≤ l.next + 1; omega⟩
          · exact ⟨by show (putE _ _ _).length ≤ _; unfold putE; rw [List.length_append, List.length_cons, List.length_take, List.length_drop]; omega, by show l.next ≤ l.next + 1; omega, Int.le_refl _⟩
        · exact ⟨Nat.le_succ _, Int.le_refl _, by show l.next ≤ l.next + 1; omega⟩
/-- An insert that is done gives the next number; one that isn't gives none. -/
theorem insert_id (l : LS) (id : Int) (fs : List Fld) : ((insertR l id fs).bad = 0 ∧ (insertR l id fs).id = l.next ∧ (insertR l id fs).ls.next = l.next + 1) ∨ ((insertR l id fs).bad ≠ 0 ∧ (insertR l id fs).id = 0 ∧ (insertR l id fs).ls = l) := by
  unfold insertR
  split
  · exact .inr ⟨by show (7 : Nat) ≠ 0; decide, rfl, rfl⟩
  · split
    · split
      · exact .inr ⟨by show (11 : Nat) ≠ 0; decide, rfl, rfl⟩
      · exact .inl ⟨rfl, rfl, rfl⟩
    · rename_i hc; exact .inr ⟨hc, rfl, rfl⟩
end Go.Proofs.YtiebbgbcojgeoaaGreatDoor

namespace Go.Proofs.YtiebbgbcojgeoaaGreatDoor

def cnt3 (its : List It) : Nat := (its.filter fun it => decide (it.kind = 3)).length
theorem cnt3_snoc (its : List It) (it : It) : cnt3 (its ++ [it]) = cnt3 its + if it.kind = 3 then 1 else 0 := by
  unfold cnt3
  rw [List.filter_append, List.length_append]
  congr 1
  by_cases h : it.kind = 3
  · rw [if_pos h, List.filter_cons, if_pos (by simpa using h)]; rfl
  · rw [if_neg h, List.filter_cons, if_neg (by simpa using h)]; rfl
def CntP (p : PS) : Prop := cnt3 p.items = p.stanzas
theorem CntP.endField {p : PS} (h : CntP p) : CntP (endFieldP p) := by
  unfold endFieldP
  split
  · exact h
  · exact h
theorem CntP.endItem {t : List UInt8} {p : PS} (h : CntP p) (kind e : Nat) (hk : kind ≠ 3) : CntP (endItemP t p kind e) := by
  show cnt3 (p.items ++ [_]) = p.stanzas
  rw [cnt3_snoc, if_neg (by show ((kind : Nat) : Int) ≠ 3; omega), h]; rfl
theorem CntP.endBlock {t : List UInt8} {p : PS} (h : CntP p) (e : Nat) : CntP (endBlockP t p e) := by
  unfold endBlockP
  split
  · exact h
  · split
    · exact h.endItem 2 e (by decide)
    · show cnt3 (p.items ++ [_]) = p.stanzas + 1
      rw [cnt3_snoc, if_pos (by rfl), h]
theorem CntP.went {p : PS} (h : CntP p) (x : Ln) : CntP (wentP p x) := by
  unfold wentP
  split <;> exact h
theorem CntP.then_ {p : PS} (h : CntP p) (x : Ln) : CntP (thenP p x) := by
  unfold thenP
  split
  · exact (h.went x).endField
  · exact h.went x
theorem CntP.put {t : List UInt8} {p : PS} (h : CntP p) (x : Ln) : CntP (putP t p x) := by
  unfold putP
  split
  · exact h
  · split
    · exact (h.endBlock x.at_).endItem 1 _ (by decide)
    · exact h
theorem CntP.take {t : List UInt8} {p q : PS} {x : Ln} (h : CntP p) (he : takeP t p x = .ok q) : CntP q := by
  obtain ⟨_, _, rfl⟩ := take_parts he
  exact (h.then_ x).put x
theorem CntP.run (t : List UInt8) : ∀ (xs : List Ln) (p q : PS), CntP p → runP t p xs = .ok q → CntP q
  | [], p, q, h, he => by cases he; exact h
  | x :: xs, p, q, h, he => by
    unfold runP at he
    cases ht : takeP t p x with
    | error e => rw [ht] at he; cases he
    | ok p1 =>
      rw [ht] at he
      exact CntP.run t xs p1 q (h.take ht) he
theorem parse_cnt {t : List UInt8} {its : List It} (h : parseL t = .ok its) : cnt3 its ≤ 400 := by
  obtain ⟨p, hr, h0, rfl, g, _⟩ := parse_good h
  have hc : CntP (endBlockP t (endFieldP p) t.length) := ((CntP.run t _ _ _ (by rfl) hr).endField).endBlock _
  rw [show cnt3 _ = _ from hc]
  exact g.st
theorem nums_from : ∀ (n : Int) (its : List It), 0 < n → (∀ m ∈ nums (fromOn n its), n ≤ m ∧ m < fromNext n its) ∧ (nums (fromOn n its)).Nodup ∧ (nums (fromOn n its)).length = cnt3 its ∧ n ≤ fromNext n its
  | n, [], h => ⟨(fun m hm => by cases hm), List.nodup_nil, rfl, Int.le_refl _⟩
  | n, it :: r, h => by
    by_cases hk : it.kind = 3
    · obtain ⟨a, b, c, d⟩ := nums_from (n + 1) r (by omega)
      have e1 : nums (fromOn n (it :: r)) = n :: nums (fromOn (n + 1) r) := by
        unfold nums
        rw [fromOn, if_pos hk, List.map_cons, List.filter_cons, if_pos (by simpa using h)]
      have e2 : fromNext n (it :: r) = fromNext (n + 1) r := by rw [fromNext, if_pos hk]
      rw [e1, e2]
      refine ⟨fun m hm => ?_, List.nodup_cons.2 ⟨fun q => ?_, b⟩, ?_, by omega⟩
      · rcases List.mem_cons.1 hm with rfl | hm
        · exact ⟨Int.le_refl _, by omega⟩
        · have := a m hm; exact ⟨by omega, this.2⟩
      · have := (a n q).1; omega
      · unfold cnt3 at c ⊢
        rw [List.length_cons, c, List.filter_cons, if_pos (by simpa using hk)]; rfl
    · obtain ⟨a, b, c, d⟩ := nums_from n r h
      have e1 : nums (fromOn n (it :: r)) = nums (fromOn n r) := by
        unfold nums
        rw [fromOn, if_neg hk, List.map_cons, List.filter_cons, if_neg (by simp)]
      have e2 : fromNext n (it :: r) = fromNext n r := by rw [fromNext, if_neg hk]
      rw [e1, e2]
      refine ⟨a, b, ?_, d⟩
      unfold cnt3 at c ⊢
      rw [c, List.filter_cons, if_neg (by simpa using hk)]
theorem from_ok {t : List UInt8} {its : List It} (h : parseL t = .ok its) : OkL (fromL its) := by
  obtain ⟨a, b, c, d⟩ := nums_from 1 its (by decide)
  refine ⟨from_wf 1 its (by decide), by show 0 < fromNext 1 its; omega, fun n hn => (a n hn).2, b, ?_⟩
  rw [← nums_len]
  show (nums (fromOn 1 its)).length ≤ 400
  rw [c]; exact parse_cnt h
end Go.Proofs.YtiebbgbcojgeoaaGreatDoor

namespace Go.Proofs.YtiebbgbcojgeoaaGreatDoor

/-- A blank line's item. -/
structure BlankI (it : It) : Prop where
  kind : it.kind = 1
  fields : it.fields = []
  raw : ∃ l, it.raw = l ++ [10] ∧ (10 : UInt8) ∉ l ∧ kindL l = 1
/-- An item that stands alone. -/
def Itm (it : It) : Prop := Blk it ∨ BlankI it

/-- What a run has made since its beginning isn't taken back. -/
def Made (n : Nat) (p : PS) : Prop := n ≤ p.items.length ∧ (n < p.items.length ∨ p.said ≠ [] ∨ p.fields ≠ [])
theorem Made.endField {n : Nat} {p : PS} (h : Made n p) : Made n (endFieldP p) := by
  unfold endFieldP
  split
  · exact h
  · exact ⟨h.1, .inr (.inr (by simp))⟩
theorem Made.went {n : Nat} {p : PS} (h : Made n p) (x : Ln) : Made n (wentP p x) := by
  unfold wentP
  split
  · exact ⟨h.1, .inr (.inl (by simp))⟩
  · exact h
theorem Made.then_ {n : Nat} {p : PS} (h : Made n p) (x : Ln) : Made n (thenP p x) := by
  unfold thenP
  split
  · exact (h.went x).endField
  · exact h.went x
theorem endBlock_more (t : List UInt8) (p : PS) (e : Nat) : p.items.length ≤ (endBlockP t p e).items.length := by
  unfold endBlockP
  split
  · exact Nat.le_refl _
  · split
    · simp [endItemP]
    · simp [endItemP]
theorem Made.put {n : Nat} {t : List UInt8} {p : PS} (h : Made n p) (x : Ln) : Made n (putP t p x) := by
  unfold putP
  split
  · exact ⟨h.1, .inr (.inl (by simp))⟩
  · split
    · have h1 := endBlock_more t p x.at_
      have h2 : (endItemP t (endBlockP t p x.at_) 1 (x.at_ + x.text.length + 1)).items.length = (endBlockP t p x.at_).items.length + 1 := by simp [endItemP]
      have h3 := h.1
      exact ⟨by omega, .inl (by omega)⟩
    · exact h
theorem Made.take {n : Nat} {t : List UInt8} {p q : PS} {x : Ln} (h : Made n p) (he : takeP t p x = .ok q) : Made n q := by
  obtain ⟨_, _, rfl⟩ := take_parts he
  exact (h.then_ x).put x
theorem Made.run {n : Nat} (t : List UInt8) : ∀ (xs : List Ln) (p q : PS), Made n p → runP t p xs = .ok q → Made n q
  | [], p, q, h, he => by cases he; exact h
  | x :: xs, p, q, h, he => by
    unfold runP at he
    cases ht : takeP t p x with
    | error e => rw [ht] at he; cases he
    | ok p1 =>
      rw [ht] at he
      exact Made.run t xs p1 q (h.take ht) he
theorem made_not {b st a n : Nat} {its : List It} (hn : its.length = n) : ¬ Made n ⟨b, [], its, st, a, []⟩ := by
  rintro ⟨_, h | h | h⟩
  · simp only at h; omega
  · exact h rfl
  · exact h rfl
theorem then_clean {b st a no c : Nat} {its : List It} {l : List UInt8} {e : Bool} (hk : kindL l ≠ 3) : thenP ⟨b, [], its, st, a, []⟩ ⟨no, c, l, e⟩ = ⟨b, [], its, st, a, []⟩ := by
  have hg : goesP ⟨b, [], its, st, a, []⟩ ⟨no, c, l, e⟩ = false := goes_kind hk
  unfold thenP wentP
  rw [hg]
  simp [endFieldP]
/-- Lines that make nothing do nothing, with however many stanzas behind them. -/
theorem run_notes {t : List UInt8} : ∀ (ts : List (List UInt8)) (b st a no c : Nat) (its : List It) (b' : Nat), runP t ⟨b, [], its, st, a, []⟩ (num no c ts) = .ok ⟨b', [], its, st, a, []⟩ →
    ∀ (t' : List UInt8) (b2 st2 a2 no2 c2 : Nat) (its2 : List It), runP t' ⟨b2, [], its2, st2, a2, []⟩ (num no2 c2 ts) = .ok ⟨b2, [], its2, st2, a2, []⟩
  | [], b, st, a, no, c, its, b', h, t', b2, st2, a2, no2, c2, its2 => rfl
  | l :: r, b, st, a, no, c, its, b', h, t', b2, st2, a2, no2, c2, its2 => by
    have h' : (match takeP t ⟨b, [], its, st, a, []⟩ ⟨no, c, l, true⟩ with | .error e => Except.error e | .ok q' => runP t q' (num (no + 1) (c + l.length + 1) r)) = .ok ⟨b', [], its, st, a, []⟩ := h
    cases ht : takeP t ⟨b, [], its, st, a, []⟩ ⟨no, c, l, true⟩ with
    | error e => rw [ht] at h'; cases h'
    | ok q =>
      rw [ht] at h'
      dsimp only at h'
      obtain ⟨g1, g2, hq⟩ := take_parts ht
      have hk3 : kindL l ≠ 3 := by
        intro e
        unfold wrongP goesP at g2
        simp [e] at g2
      have hk5 : kindL l ≠ 5 := by
        intro e
        unfold wrongP at g2
        simp [e] at g2
      rw [then_clean hk3] at hq
      have hk4 : kindL l ≠ 4 := by
        intro e
        have hm : Made its.length q := by
          rw [hq]; unfold putP
          rw [if_pos (by exact e)]
          exact ⟨Nat.le_refl _, .inr (.inl (by simp))⟩
        exact made_not rfl (Made.run t _ _ _ hm h')
      have hk1 : kindL l ≠ 1 := by
        intro e
        have hm : Made its.length q := by
          rw [hq]; unfold putP
          rw [if_neg (by exact hk4), if_pos (by exact e)]
          have h1 := endBlock_more t ⟨b, [], its, st, a, []⟩ c
          have h2 : (endItemP t (endBlockP t ⟨b, [], its, st, a, []⟩ c) 1 (c + l.length + 1)).items.length = (endBlockP t ⟨b, [], its, st, a, []⟩ c).items.length + 1 := by simp [endItemP]
          simp only at h1
          exact ⟨by show its.length ≤ (endItemP t (endBlockP t ⟨b, [], its, st, a, []⟩ c) 1 (c + l.length + 1)).items.length; omega, .inl (by show its.length < (endItemP t (endBlockP t ⟨b, [], its, st, a, []⟩ c) 1 (c + l.length + 1)).items.length; omega)⟩
        exact made_not rfl (Made.run t _ _ _ hm h')
      have hput : ∀ (t : List UInt8) (p : PS) (no c : Nat), putP t p ⟨no, c, l, true⟩ = p := fun t p no c => by
        unfold putP
        rw [if_neg (by exact hk4), if_neg (by exact hk1)]
      rw [hput] at hq
      subst hq
      have ih := run_notes r b st a (no + 1) (c + l.length + 1) its b' h' t' b2 st2 a2 (no2 + 1) (c2 + l.length + 1) its2
      have tk := take_else (t := t') (p := ⟨b2, [], its2, st2, a2, []⟩) (no := no2) (c := c2) hk3 hk5 rfl
      rw [show endFieldP ⟨b2, [], its2, st2, a2, []⟩ = ⟨b2, [], its2, st2, a2, []⟩ from rfl, hput] at tk
      show runP t' _ (⟨no2, c2, l, true⟩ :: num (no2 + 1) (c2 + l.length + 1) r) = _
      rw [run_cons tk]
      exact ih
/-- A block that stands alone, wherever it stands. -/
theorem Blk.here {it : It} (h : Blk it) : ∃ ts said fields, it.raw = textL ts ∧ (∀ l ∈ ts, (10 : UInt8) ∉ l) ∧ ∀ (t : List UInt8) (b st a no c e : Nat) (its : List It), (it.kind = 3 → st ≤ 399) → (t.take e).drop a = it.raw → a < e →
    ∃ b', runP t ⟨b, [], its, st, a, []⟩ (num no c ts) = .ok ⟨b', said, its, st, a, fields⟩ ∧ endFieldN ⟨b', said, its, st, a, fields⟩ = 0 ∧ endBlockP t (endFieldP ⟨b', said, its, st, a, fields⟩) e = ⟨b', [], its ++ [it], st + (if it.kind = 3 then 1 else 0), e, []⟩ := by
  obtain ⟨kind, raw, fs⟩ := it
  have hk := h.kind
  obtain ⟨ts, said, fields, d1, d2, d3, d4, d5⟩ := h.does
  dsimp only at hk d1 d5 ⊢
  by_cases hf : fs = []
  · rw [if_pos hf] at hk
    subst hf hk
    have hs : said = [] ∧ fields = [] := by
      unfold endFieldP at d5
      split at d5
      · rename_i hs; exact ⟨hs, d5⟩
      · simp at d5
    obtain ⟨rfl, rfl⟩ := hs
    obtain ⟨b0, h0⟩ := d3 [] 0 0 0 0 0 [] (by decide)
    refine ⟨ts, [], [], d1, d2, fun t b st a no c e its _ hr hae => ⟨b, run_notes ts 0 0 0 0 0 [] b0 h0 t b st a no c its, rfl, ?_⟩⟩
    rw [show endFieldP ⟨b, [], its, st, a, []⟩ = ⟨b, [], its, st, a, []⟩ from rfl]
    unfold endBlockP
    rw [if_neg (by show ¬ a = e; omega), if_pos (show (⟨b, [], its, st, a, []⟩ : PS).fields.length = 0 from rfl)]
    unfold endItemP
    dsimp only
    rw [hr]; rfl
  · rw [if_neg hf] at hk
    subst hk
    refine ⟨ts, said, fields, d1, d2, fun t b st a no c e its hst hr hae => ?_⟩
    obtain ⟨b', hrun⟩ := d3 t b st a no c its (hst rfl)
    have e0 := mv_endFieldN b' st a its ⟨0, said, [], 0, 0, fields⟩ (hst rfl) d4
    have e1 := mv_endField b' st a its ⟨0, said, [], 0, 0, fields⟩
    refine ⟨b', hrun, e0, ?_⟩
    rw [show (⟨b', said, its, st, a, fields⟩ : PS) = mv b' st a its ⟨0, said, [], 0, 0, fields⟩ from rfl, e1]
    have es := endField_said ⟨0, said, [], 0, 0, fields⟩
    generalize endFieldP ⟨0, said, [], 0, 0, fields⟩ = p at *
    unfold endBlockP
    rw [show (mv b' st a its p).at_ = a from rfl, show (mv b' st a its p).fields = p.fields from rfl, d5, if_neg (by omega), if_neg (fun q => hf (List.length_eq_zero_iff.1 q))]
    show (⟨b', p.said, its ++ [⟨3, (t.take e).drop a, p.fields⟩], st + 1, e, []⟩ : PS) = _
    rw [es, hr, d5]; rfl
/-- Of what is parsed: its blank lines. -/
structure MidB (t : List UInt8) (p : PS) (c : Nat) : Prop where
  at_ : p.at_ ≤ c
  bl : ∀ it ∈ p.items, it.kind = 1 → BlankI it
  cur : p.at_ = c → p.fields = [] ∧ p.said = []
theorem MidB.endBlock {t : List UInt8} {p : PS} {c : Nat} (h : MidB t p c) : (∀ it ∈ (endBlockP t (endFieldP p) c).items, it.kind = 1 → BlankI it) ∧ (endBlockP t (endFieldP p) c).fields = [] := by
  unfold endBlockP
  rw [endField_at]
  split
  · rename_i hac
    obtain ⟨h1, h2⟩ := h.cur hac
    refine ⟨by rw [endField_items]; exact h.bl, ?_⟩
    unfold endFieldP
    rw [if_pos h2]; exact h1
  · have key : ∀ (k : Nat), k ≠ 1 → ∀ it ∈ (endItemP t (endFieldP p) k c).items, it.kind = 1 → BlankI it := by
      intro k hk it hi h1
      rcases List.mem_append.1 (show it ∈ (endFieldP p).items ++ [_] from hi) with q | q
      · rw [endField_items] at q; exact h.bl it q h1
      · rw [List.mem_singleton.1 q] at h1
        exact absurd (show ((k : Nat) : Int) = 1 from h1) (by omega)
    split
    · exact ⟨key 2 (by decide), rfl⟩
    · exact ⟨key 3 (by decide), rfl⟩
theorem MidB.take {t : List UInt8} {p q : PS} {x : Ln} (h : MidB t p x.at_) (hen : x.ended = true) (hcl : (10 : UInt8) ∉ x.text) (hrest : ∃ r, t.drop x.at_ = x.bytes ++ r) (hct : x.at_ ≤ t.length) (he : takeP t p x = .ok q) : MidB t q (x.at_ + x.bytes.length) := by
  have hat := h.at_
  obtain ⟨r, hr⟩ := hrest
  have hb : x.bytes = x.text ++ [10] := by unfold Ln.bytes; rw [hen]; simp
  have hbl : x.bytes.length = x.text.length + 1 := by rw [hb]; simp
  by_cases hk : kindL x.text = 1
  · obtain ⟨g1, _, rfl⟩ := take_parts he
    have hg : goesP p x = false := goes_kind (by omega)
    have hw : wentP p x = p := by unfold wentP; rw [hg]; rfl
    have hE : endsP p x = true := by unfold endsP; rw [hg]; simp
    have hth : thenP p x = endFieldP p := by unfold thenP; rw [hE, hw]; rfl
    obtain ⟨l1, l2⟩ := h.endBlock
    have ha : (endBlockP t (endFieldP p) x.at_).at_ = x.at_ := endBlock_at t _ _ (by rw [endField_at]; exact hat)
    unfold putP
    rw [if_neg (by omega), if_pos hk, hth]
    refine ⟨by show x.at_ + x.text.length + 1 ≤ _; omega, fun it hi h1 => ?_, fun _ => ⟨rfl, ?_⟩⟩
    · rcases List.mem_append.1 (show it ∈ (endBlockP t (endFieldP p) x.at_).items ++ [_] from hi) with hi | hi
      · exact l1 it hi h1
      · rw [List.mem_singleton.1 hi]
        refine ⟨rfl, l2, x.text, ?_, hcl, hk⟩
        show (t.take (x.at_ + x.text.length + 1)).drop (endBlockP t (endFieldP p) x.at_).at_ = _
        rw [ha, Nat.add_assoc, List.take_add, hr, ← hbl, List.drop_append_of_le_length (by rw [List.length_take]; omega), List.drop_of_length_le (by rw [List.length_take]; omega), List.take_left' rfl, hb]; rfl
    · show (endBlockP t (endFieldP p) x.at_).said = []
      rw [endBlock_said, endField_said]
  · obtain ⟨k1, k2, k3⟩ := take_keeps hk he
    exact ⟨by rw [k3]; omega, by rw [k1]; exact h.bl, fun q => by rw [k3] at q; omega⟩
theorem MidB.run (t : List UInt8) : ∀ (xs : List Ln) (no c : Nat) (p q : PS), Runs no c xs → no ≤ c → Inv p c → MidB t p c → t.drop c = xs.flatMap Ln.bytes → c ≤ t.length → (∀ x ∈ xs, (10 : UInt8) ∉ x.text) → runP t p xs = .ok q → MidB t q t.length
  | [], no, c, p, q, _, _, _, hm, hr, hct, _, he => by
    cases he
    have : c = t.length := by
      have := congrArg List.length hr
      simp at this; omega
    rw [← this]; exact hm
  | x :: xs, no, c, p, q, hrun, hn, hi, hm, hr, hct, hcl, he => by
    obtain ⟨r1, r2, r3, r4⟩ := hrun
    unfold runP at he
    cases ht : takeP t p x with
    | error e => rw [ht] at he; cases he
    | ok p1 =>
      rw [ht] at he
      dsimp only at he
      rw [List.flatMap_cons] at hr
      rw [← r2] at hi hm hr hct
      obtain ⟨i1, e1⟩ := Inv.take hi (by omega) ht
      have m1 := hm.take e1 (hcl x List.mem_cons_self) ⟨_, hr⟩ hct ht
      have hr2 : t.drop (x.at_ + x.bytes.length) = xs.flatMap Ln.bytes := by
        rw [← List.drop_drop, hr]; simp
      have hct2 : x.at_ + x.bytes.length ≤ t.length := by
        have := congrArg List.length hr
        simp only [List.length_drop, List.length_append] at this
        omega
      rw [r2] at i1 m1 hr2 hct2
      exact MidB.run t xs (no + 1) (c + x.bytes.length) p1 q r4 (by omega) i1 m1 hr2 hct2 (fun y hy => hcl y (List.mem_cons_of_mem _ hy)) he
end Go.Proofs.YtiebbgbcojgeoaaGreatDoor

namespace Go.Proofs.YtiebbgbcojgeoaaGreatDoor
open Go.RowKit Go.Shelf
attribute [local go_sem] Oper.semAt_some

theorem infoQ : (Tryz.prog.info? 105).map (fun i => (i.zero, i.size, i.bytes)) = some (some (.agg #[.int .i64 0, .string ⟨#[]⟩, .slice none 0 0, .int .i64 0]), 4, 56) := by kernel_rfl
/-- The document's list as it is made: its box, its row in new memory. -/
structure AccQ (w wr : World) (ob : Nat) (v : Value) (ps : List Pr) (nx : Int) : Prop where
  head : Cells wr ob 32 #[v, .int .i64 nx]
  row : wr.ownsRow w.heap.size 105 4 v ps.length (entCells ps)
  below : Below w.heap.size w wr
  lo : w.heap.size ≤ ob
theorem AccQ.ne {w wr : World} {ob : Nat} {v : Value} {ps : List Pr} {nx : Int} (h : AccQ w wr ob v ps nx) : v.ownBlock ≠ some ob :=
  own_cells_ne h.row h.head (by decide)
theorem AccQ.alloc {w wr : World} {ob : Nat} {v : Value} {ps : List Pr} {nx : Int} (h : AccQ w wr ob v ps nx) (o : Obj) : AccQ w (wr.alloc o) ob v ps nx :=
  ⟨h.head.alloc o, h.row.alloc o, h.below.alloc h.below.size o, h.lo⟩
theorem AccQ.drew {w wr : World} {ob : Nat} {v : Value} {ps : List Pr} {nx : Int} (h : AccQ w wr ob v ps nx) : AccQ w wr.drew ob v ps nx := ⟨h.head.drew, h.row, h.below.drew, h.lo⟩
theorem AccQ.kept {w wr w2 : World} {ob : Nat} {v : Value} {ps : List Pr} {nx : Int} (h : AccQ w wr ob v ps nx) (hb : Below wr.heap.size wr w2) : AccQ w w2 ob v ps nx :=
  ⟨cells_kept h.head hb h.head.lt, own_kept h.row hb (Nat.le_refl _), h.below.trans (hb.mono h.below.size), h.lo⟩
theorem AccQ.snoc {w wa w6 : World} {ob : Nat} {v v' : Value} {ps : List Pr} {nx : Int} {p : Pr} (h : AccQ w wa ob v ps nx)
    (ho : w6.ownsRow 0 105 4 v' (ps.length + 1) (entCells ps ++ entCell p)) (h6 : Cells w6 ob 32 #[v, .int .i64 nx]) (hk : v'.ownBlock = v.ownBlock ∨ ∃ k, v'.ownBlock = some k ∧ wa.heap.size ≤ k ∧ k < w6.heap.size) (o6 : Only (fun r => some r = v.ownBlock) wa w6) :
    AccQ w (w6.setCell ⟨ob, 0, none⟩ v') ob v' (ps ++ [p]) nx := by
  have hne : v'.ownBlock ≠ some ob := by
    intro e
    rcases hk with hk | ⟨k, hk, h1, _⟩
    · rw [hk] at e; exact h.ne e
    · rw [hk] at e
      have : k = ob := Option.some.inj e
      have := h.head.lt
      omega
  have hz := h.below.size
  have hrow : w6.ownsRow w.heap.size 105 4 v' (ps.length + 1) (entCells ps ++ entCell p) := by
    rcases ho.2 with ⟨q, _⟩ | ⟨g2, cap2, cur2, q, _, rest⟩
    · exact ⟨ho.1, .inl ⟨q, by omega⟩⟩
    · refine ⟨ho.1, .inr ⟨g2, cap2, cur2, q, ?_, rest⟩⟩
      rcases hk with hk | ⟨k, hk, h1, _⟩
      · exact (h.row.lt g2 (by rw [← hk, q]; rfl)).1
      · rw [q] at hk
        have : g2 = k := Option.some.inj hk
        omega
  refine ⟨?_, ?_, ?_, h.lo⟩
  · have := h6.set 0 v'
    simpa [List.setIfInBounds_toArray, List.set] using this
  · rw [List.length_append, entCells_snoc]
    exact row_cell hrow hne _
  · have b6 : Below w.heap.size wa w6 := o6.to_below hz (fun r hr e => by
      have := (h.row.lt r e.symm).1
      omega)
    exact (h.below.trans b6).setCell (p := ⟨ob, 0, none⟩) h.lo _
theorem AccQ.grown_head {w wa w6 : World} {ob : Nat} {v : Value} {ps : List Pr} {nx : Int} (h : AccQ w wa ob v ps nx) (hg : wa.grownBy w6 v.ownBlock) : Cells w6 ob 32 #[v, .int .i64 nx] :=
  (hg.block ob h.head.lt (fun e => h.ne e.symm)).trans h.head
theorem AccQ.grow {w wa w6 : World} {ob : Nat} {v v' : Value} {ps : List Pr} {nx : Int} {p : Pr} (h : AccQ w wa ob v ps nx)
    (ho : w6.ownsRow w.heap.size 105 4 v' (ps.length + 1) (entCells ps ++ entCell p)) (hg : wa.grownBy w6 v.ownBlock) :
    AccQ w (w6.setCell ⟨ob, 0, none⟩ v') ob v' (ps ++ [p]) nx := by
  have h6 := h.grown_head hg
  refine ⟨?_, ?_, ?_, h.lo⟩
  · have := h6.set 0 v'
    simpa [List.setIfInBounds_toArray, List.set] using this
  · rw [List.length_append, entCells_snoc]
    exact row_cell ho (own_cells_ne ho h6 (by decide)) _
  · exact (h.below.grown hg h.below.size (fun k e => (h.row.lt k e).1)).setCell (p := ⟨ob, 0, none⟩) h.lo _
theorem AccQ.other {w wr : World} {ob : Nat} {v : Value} {ps : List Pr} {nx : Int} (h : AccQ w wr ob v ps nx) {b : Nat} (i : Nat) (u : Value) (hb : w.heap.size ≤ b) (h1 : b ≠ ob) (h2 : ∀ r, v.ownBlock = some r → r ≠ b) : AccQ w (wr.setCell ⟨b, i, none⟩ u) ob v ps nx :=
  ⟨h.head.other (p := ⟨b, i, none⟩) (fun e => h1 e.symm) u, row_cell h.row (fun e => h2 b e rfl) u, h.below.setCell (p := ⟨b, i, none⟩) hb u, h.lo⟩
theorem AccQ.start (w : World) (nx : Int) : AccQ w (w.alloc (.cells #[.slice none 0 0, .int .i64 nx] 32)) w.heap.size (.slice none 0 0) [] nx :=
  ⟨Cells.new _ _ _, ⟨rfl, .inl ⟨rfl, rfl⟩⟩, (Below.refl _ _).alloc (Nat.le_refl _) _, Nat.le_refl _⟩
/-- The document's list behind an edit: where its blocks lie. x: the fields that came in. -/
structure WrQ (w : World) (v : Value) (ps : List Pr) (x : Value) (es : List En) (w' : World) (v' : Value) (ps' : List Pr) : Prop where
  ents : EntsQ w' v' ps'
  es : ps'.map Prod.fst = es
  below : Below w.heap.size w w'
  blk : v' = v ∨ ∀ b, v'.ownBlock = some b → w.heap.size ≤ b
  mem : ∀ p ∈ ps', p ∈ ps ∨ p.2 = x
theorem WrQ.same {w w' : World} {v : Value} {ps : List Pr} {x : Value} {es : List En} (h : EntsQ w v ps) (he : ps.map Prod.fst = es) (hb : Below w.heap.size w w') : WrQ w v ps x es w' v ps :=
  ⟨h.below hb (Nat.le_refl _), he, hb, .inl rfl, fun p hp => .inl hp⟩
theorem AccQ.done {w wr : World} {ob : Nat} {v v' : Value} {ps ps' : List Pr} {nx : Int} {x : Value} {fs : List Fld} {es : List En} (h : AccQ w wr ob v' ps' nx) (hq : EntsQ w v ps) (hx : Flds w x fs) (he : ps'.map Prod.fst = es) (hm : ∀ p ∈ ps', p ∈ ps ∨ (p.2 = x ∧ p.1.1.fields = fs)) : WrQ w v ps x es wr v' ps' := by
  refine ⟨⟨rowBase h.row (Nat.zero_le _), fun p hp => ?_⟩, he, h.below, .inr fun b hb => (h.row.lt b hb).1, fun p hp => (hm p hp).imp id (·.1)⟩
  rcases hm p hp with q | ⟨q1, q2⟩
  · exact (hq.each p q).below h.below (Nat.le_refl _)
  · rw [q1, q2]; exact hx.below h.below (Nat.le_refl _)
theorem AccQ.end_ {w w1 wr : World} {ob : Nat} {v v' : Value} {ps ps' : List Pr} {nx : Int} {x : Value} {fs : List Fld} {es : List En} (h : AccQ w1 wr ob v' ps' nx) (hb : Below w.heap.size w w1) (hq : EntsQ w v ps) (hx : Flds w x fs) (he : ps'.map Prod.fst = es) (hm : ∀ p ∈ ps', p ∈ ps ∨ (p.2 = x ∧ p.1.1.fields = fs)) {b : Nat} (h1 : w.heap.size ≤ b) (h2 : b < w1.heap.size) (i j : Nat) (a c : Value) :
    WrQ w v ps x es ((wr.setCell ⟨b, i, none⟩ a).setCell ⟨b, j, none⟩ c) v' ps' := by
  have hB : Below w.heap.size w ((wr.setCell ⟨b, i, none⟩ a).setCell ⟨b, j, none⟩ c) := ((hb.trans (h.below.mono hb.size)).setCell (p := ⟨b, i, none⟩) h1 _).setCell (p := ⟨b, j, none⟩) h1 _
  have hne : v'.ownBlock ≠ some b := fun e => by have := (h.row.lt b e).1; omega
  refine ⟨⟨row_cell (row_cell (rowBase h.row (Nat.zero_le _)) hne _) hne _, fun p hp => ?_⟩, he, hB, .inr fun r hr => Nat.le_trans hb.size (h.row.lt r hr).1, fun p hp => (hm p hp).imp id (·.1)⟩
  rcases hm p hp with q | ⟨q1, q2⟩
  · exact (hq.each p q).below hB (Nat.le_refl _)
  · rw [q1, q2]; exact hx.below hB (Nat.le_refl _)
theorem WrQ.from {w w1 w' : World} {v v' : Value} {ps ps' : List Pr} {x : Value} {es : List En} (h : WrQ w1 v ps x es w' v' ps') (hb : Below w.heap.size w w1) : WrQ w v ps x es w' v' ps' :=
  ⟨h.ents, h.es, hb.trans (h.below.mono hb.size), h.blk.imp id fun q b e => Nat.le_trans hb.size (q b e), h.mem⟩
theorem results_q3 {fn : Func} {p u z : Tmp} {ty : TypeId} (h : fn.results = #[.cell p ty, .tmp u, .tmp z]) (tmps : Array Value) (P : Program) (w : World) :
    (results fn tmps).run P w = ((asAddr (tmps.getD p undef)).run P w).andThen fun a w₁ => ((loadVar ty a).run P w₁).andThen fun v w₂ => .ok (.tuple #[v, tmps.getD u undef, tmps.getD z undef]) w₂ := by
  simp only [results, h]
  simp [Sem.run_bind, Result.andThen]
set_option maxRecDepth 100000 in
theorem ret_q3 {fn : Func} {p u z : Tmp} (h : fn.results = #[.cell p 32, .tmp u, .tmp z]) (tmps : Array Value) (w : World) (b : Nat) (cur : Array Value) (hp : tmps.getD p undef = .pointer (some ⟨b, 0, none⟩))
    (hc : Cells w b 32 cur) (hz : cur.size = 2) : (results fn tmps).run Tryz.prog w = .ok (.tuple #[.agg cur, tmps.getD u undef, tmps.getD z undef]) w := by
  have L := run_loadVar_row (P := Tryz.prog) w b 32 32 cur (0, 0) _ hc Tryz.underlying32 rfl (by rw [hz]; kernel_rfl)
  rw [results_q3 h, hp]
  show ((loadVar _ _).run _ _).andThen _ = _
  rw [L]; rfl
theorem results_q4 {fn : Func} {p u z y : Tmp} {ty : TypeId} (h : fn.results = #[.cell p ty, .tmp u, .tmp z, .tmp y]) (tmps : Array Value) (P : Program) (w : World) :
    (results fn tmps).run P w = ((asAddr (tmps.getD p undef)).run P w).andThen fun a w₁ => ((loadVar ty a).run P w₁).andThen fun v w₂ => .ok (.tuple #[v, tmps.getD u undef, tmps.getD z undef, tmps.getD y undef]) w₂ := by
  simp only [results, h]
  simp [Sem.run_bind, Result.andThen]
set_option maxRecDepth 100000 in
theorem ret_q4 {fn : Func} {p u z y : Tmp} (h : fn.results = #[.cell p 32, .tmp u, .tmp z, .tmp y]) (tmps : Array Value) (w : World) (b : Nat) (cur : Array Value) (hp : tmps.getD p undef = .pointer (some ⟨b, 0, none⟩))
    (hc : Cells w b 32 cur) (hz : cur.size = 2) : (results fn tmps).run Tryz.prog w = .ok (.tuple #[.agg cur, tmps.getD u undef, tmps.getD z undef, tmps.getD y undef]) w := by
  have L := run_loadVar_row (P := Tryz.prog) w b 32 32 cur (0, 0) _ hc Tryz.underlying32 rfl (by rw [hz]; kernel_rfl)
  rw [results_q4 h, hp]
  show ((loadVar _ _).run _ _).andThen _ = _
  rw [L]; rfl
set_option maxRecDepth 100000 in
theorem ret_q2 {fn : Func} {p u : Tmp} (h : fn.results = #[.cell p 32, .tmp u]) (tmps : Array Value) (w : World) (b : Nat) (cur : Array Value) (hp : tmps.getD p undef = .pointer (some ⟨b, 0, none⟩))
    (hc : Cells w b 32 cur) (hz : cur.size = 2) : (results fn tmps).run Tryz.prog w = .ok (.tuple #[.agg cur, tmps.getD u undef]) w := by
  have L := run_loadVar_row (P := Tryz.prog) w b 32 32 cur (0, 0) _ hc Tryz.underlying32 rfl (by rw [hz]; kernel_rfl)
  rw [results_cell_tmp h, hp]
  show ((loadVar _ _).run _ _).andThen _ = _
  rw [L]; rfl
end Go.Proofs.YtiebbgbcojgeoaaGreatDoor

namespace Go.Proofs.YtiebbgbcojgeoaaGreatDoor
open Go.RowKit Go.Shelf
attribute [local go_sem] Oper.semAt_some

/-- A list cut at a place, entry by entry. -/
def cutQ (ps : List Pr) (k j : Nat) : List Pr := if j ≤ k then ps.take j else ps.take k ++ (ps.take j).drop (k + 1)
theorem cutQ_len (ps : List Pr) (k j : Nat) : (cutQ ps k j).length ≤ j := by
  unfold cutQ
  split
  · rw [List.length_take]; omega
  · rw [List.length_append, List.length_take, List.length_drop, List.length_take]; omega
theorem cutQ_at (ps : List Pr) (k : Nat) (p : Pr) (h : ps[k]? = some p) : cutQ ps k (k + 1) = cutQ ps k k := by
  unfold cutQ
  rw [if_neg (by omega), if_pos (Nat.le_refl _), List.drop_eq_nil_of_le (by rw [List.length_take]; omega), List.append_nil]
theorem cutQ_on (ps : List Pr) (k j : Nat) (p : Pr) (h : ps[j]? = some p) (hj : j ≠ k) : cutQ ps k (j + 1) = cutQ ps k j ++ [p] := by
  have hl := (List.getElem?_eq_some_iff.1 h).1
  have e : ps.take (j + 1) = ps.take j ++ [p] := by rw [List.take_add_one, h]; rfl
  unfold cutQ
  by_cases q : j < k
  · rw [if_pos (by omega), if_pos (by omega), e]
  · rw [if_neg (by omega), if_neg (by omega), e, List.drop_append, List.length_take, show k + 1 - min j ps.length = 0 by omega, List.drop_zero, List.append_assoc]
theorem cutQ_end (ps : List Pr) (k : Nat) (h : k < ps.length) : cutQ ps k ps.length = ps.take k ++ ps.drop (k + 1) := by
  unfold cutQ
  rw [if_neg (by omega), List.take_length]
theorem cutQ_map (ps : List Pr) (k : Nat) : (ps.take k ++ ps.drop (k + 1)).map Prod.fst = cutE (ps.map Prod.fst) k := by
  unfold cutE; rw [List.map_append, List.map_take, List.map_drop]
set_option maxRecDepth 100000 in
set_option maxHeartbeats 2000000 in
theorem refDelete_any (ps : List Pr) (v : Value) (nx id : Int) (w : World) (h : EntsQ w v ps) (hps : ps.length ≤ 1000000) :
    Calls Tryz.prog 55 #[.agg #[v, .int .i64 nx], .int .i64 id] w fun e w' => ∃ v' ps', e = .returned (.tuple #[.agg #[v', .int .i64 (deleteR ⟨ps.map Prod.fst, nx⟩ id).ls.next], .int .i64 (deleteR ⟨ps.map Prod.fst, nx⟩ id).bad]) ∧ WrQ w v ps (.slice none 0 0) (deleteR ⟨ps.map Prod.fst, nx⟩ id).ls.es w' v' ps' := by
  obtain ⟨i0, hi, hz0, hz1, hz2⟩ := info_parts infoQ
  rw [deleteR_W]
  dsimp only
  obtain ⟨A, cap, rfl, hle⟩ := h.empty
  obtain ⟨W, hW⟩ : ∃ W, W = (w.alloc (.cells #[.slice A ps.length cap, .int .i64 nx] 32)).alloc (.cells #[.slice none 0 0, .int .i64 0] 32) := ⟨_, rfl⟩
  have hbW : Below w.heap.size w W := by rw [hW]; exact ((Below.refl _ w).alloc (Nat.le_refl _) _).alloc (by simp) _
  have hzW : W.heap.size = w.heap.size + 2 := by rw [hW]; simp
  have C0 : Cells W w.heap.size 32 #[.slice A ps.length cap, .int .i64 nx] := by rw [hW]; exact (Cells.new _ _ _).alloc _
  have C1 : Cells W (w.heap.size + 1) 32 #[.slice none 0 0, .int .i64 0] := by
    rw [hW]; have := Cells.new (w.alloc (.cells #[.slice A ps.length cap, .int .i64 nx] 32)) 32 #[.slice none 0 0, .int .i64 0]
    simpa using this
  have H0 := Lib.hid h
  have FN := Lib.hid (refFind_any ps (.slice A ps.length cap) nx id W (h.below hbW (Nat.le_refl _)) hps)
  have HBW := Lib.hid hbW
  have HC0 := Lib.hid C0
  have HC1 := Lib.hid C1
  have HT : Hid (∀ w1, Below W.heap.size W w1 → Cells w1 w.heap.size 32 #[.slice A ps.length cap, .int .i64 nx] ∧ Cells w1 (w.heap.size + 1) 32 #[.slice none 0 0, .int .i64 0] ∧ Below w.heap.size w w1 ∧ w.heap.size + 2 ≤ w1.heap.size) := fun w1 b1 =>
    ⟨cells_kept HC0.out b1 (by omega), cells_kept HC1.out b1 (by omega), HBW.out.trans (b1.mono (by omega)), by have := b1.size; omega⟩
  clear C0 C1 h hbW hzW
  subst hW
  cases hf : findR (ps.map Prod.fst) id with
  | none =>
    rw [hf] at FN
    dsimp only [findI] at FN
    clear hf
    unfold deleteW
    dsimp only
    go_enter Tryz.func55, Tryz.ntmps55
    go_wp2_with fail
    refine FN.out.mono ?_
    rintro e w1 ⟨rfl, b1⟩
    obtain ⟨D0, D1, hb1, hzz⟩ := HT.out w1 b1
    have c0 := D0.cell 0
    have c1 := D0.cell 1
    have r0 := D1.cell 0
    have r1 := D1.cell 1
    have f0 := D1.frozen 0
    have f1 := D1.frozen 1
    simp only [List.getElem?_toArray, List.getElem?_cons_zero, List.getElem?_cons_succ] at c0 c1 r0 r1
    have RE := (D1.set 0 (.slice A ps.length cap)).set 1 (.int .i64 nx)
    rw [set2] at RE
    have HB : Hid (Below w.heap.size w ((w1.setCell ⟨w.heap.size + 1, 0, none⟩ (.slice A ps.length cap)).setCell ⟨w.heap.size + 1, 1, none⟩ (.int .i64 nx))) :=
      (hb1.setCell (p := ⟨w.heap.size + 1, 0, none⟩) (by show _ ≤ _ + 1; omega) _).setCell (p := ⟨w.heap.size + 1, 1, none⟩) (by show _ ≤ _ + 1; omega) _
    clear FN b1 hb1 D0 D1
    go_wp2_with fail
    refine bodyPost_ret (ret_q2 rfl _ _ (w.heap.size + 1) _ rfl RE rfl) rfl ?_
    exact ⟨_, ps, rfl, .same H0.out rfl HB.out⟩
  | some k =>
    rw [hf] at FN
    dsimp only [findI] at FN
    have hk : k < ps.length := by
      have := (findR_lt hf).1
      rwa [List.length_map] at this
    clear hf
    unfold deleteW
    dsimp only
    go_enter Tryz.func55, Tryz.ntmps55
    go_wp2_with fail
    refine FN.out.mono ?_
    rintro e w1 ⟨rfl, b1⟩
    obtain ⟨D0, D1, hb1, hzz⟩ := HT.out w1 b1
    have c1 : w1.cell? ⟨w.heap.size, 1, none⟩ = some (.int .i64 nx) := D0.cell 1
    have HD0 := Lib.hid D0
    have HD1 := Lib.hid D1
    have HB1 := Lib.hid hb1
    have H1 := Lib.hid (H0.out.below hb1 (Nat.le_refl _))
    clear FN b1 D0 D1 hb1
    go_wp2_with fail
    go_loopw [8] (fun i wr => ∃ (j : Nat) (u : Value), j ≤ ps.length ∧ i = .int .i64 j ∧ AccQ w1 wr w1.heap.size u (cutQ ps k j) nx) (fun i _ => ps.length - (intOf i).toNat)
    case atStart =>
      refine ⟨0, .slice none 0 0, Nat.zero_le _, rfl, ?_⟩
      have := AccQ.start w1 nx
      unfold cutQ
      rw [if_pos (Nat.zero_le _), List.take_zero]
      exact this
    case round =>
      obtain ⟨j, u, hj, rfl, hacc⟩ := hrel
      have hb := hacc.below
      have hlw := hb.size
      have e0 : wr.cell? ⟨w.heap.size, 0, none⟩ = some (.slice A ps.length cap) := (cells_kept HD0.out hb (by omega)).cell 0
      have g0 : wr.cell? ⟨w1.heap.size, 0, none⟩ = some u := hacc.head.cell 0
      by_cases hlt : j < ps.length
      · obtain ⟨p, hp⟩ : ∃ p, ps[j]? = some p := ⟨_, List.getElem?_eq_getElem hlt⟩
        by_cases hjk : j = k
        · have CA := Lib.hid (show cutQ ps k (j + 1) = cutQ ps k j by rw [hjk]; exact cutQ_at ps k p (hjk ▸ hp))
          have ACC := Lib.hid (show AccQ w1 wr w1.heap.size u (cutQ ps k (j + 1)) nx by rw [CA.out]; exact hacc)
          have hq : ((j : Int) != (k : Int)) = false := by simp [hjk]
          clear hacc hp hb
          go_wp2_with fail
          go_roundw
          case rel => exact ⟨j + 1, u, hlt, by go_num, ACC.out⟩
          case measure => simp [intOf]; omega
        · have CO := Lib.hid (cutQ_on ps k j p hp hjk)
          have hq : ((j : Int) != (k : Int)) = true := bne_iff_ne.2 (by omega)
          obtain ⟨g, cap', pa, pc, e1, _, hg, e2, d0, d1, d2, d3⟩ := (H1.out.below hb (Nat.le_refl _)).here hp
          cases e1
          have hcl := cutQ_len ps k j
          have ACC := Lib.hid hacc
          have HO := Lib.hid (rowBase hacc.row (Nat.zero_le _))
          have HNE := Lib.hid hacc.ne
          obtain ⟨ua, uc, rfl, _⟩ := own_slice hacc.row
          have HHD := Lib.hid hacc.head
          have g1 : ∀ o, (wr.alloc o).cell? ⟨w1.heap.size, 0, none⟩ = some (.slice ua (cutQ ps k j).length uc) := fun o => (hacc.head.alloc o).cell 0
          generalize hcq : (cutQ ps k j) = cq at *
          rw [e2] at d2
          clear hacc hp hb hcq
          go_wp2_with fail
          go_region_law (refine step_append_own rfl (.tmp 29) (.tmp 35) 30 rfl 105 i0 _ 4 56 Tryz.underlying30 hi hz0 hz1 hz2 rfl (by decide) (.slice ua cq.length uc) cq.length (entCells cq) (by simp [Act.eval]) (by exact (HO.out.alloc _).drew) ⟨wr.heap.size, 0, none⟩ 1 1 [.int .i64 p.1.1.kind, .string (B p.1.1.raw), .slice pa p.1.1.fields.length pc, .int .i64 p.1.2] (by simp [Act.eval]) rfl (cells_new_add wr 105 [.int .i64 p.1.1.kind, .string (B p.1.1.raw), .slice pa p.1.1.fields.length pc, .int .i64 p.1.2]) (by intro u hu; simp at hu; rcases hu with rfl | rfl | rfl | rfl <;> rfl) (by unfold maxLen; omega) (by omega) ?_; intro v' w' ho hgr hbk; obtain ⟨⟨g', cap', rfl⟩, hg', hbx, hkk, hon⟩ := appended HHD.out HO.out HNE.out (((Below.refl _ wr).alloc (Nat.le_refl _) _).drew) ho hgr hbk; have k0 : w'.cell? ⟨w1.heap.size, 0, none⟩ = some (.slice ua cq.length uc) := hg'.cell 0; have kf0 := hg'.frozen 0)
          all_goals go_wp2_with fail
          all_goals
            have acc2 := ACC.out.snoc (p := p) (by unfold entCell; rw [e2]; exact ho) hg' hkk hon
            go_roundw
            case rel => exact ⟨j + 1, _, hlt, by go_num, by rw [CO.out]; exact acc2⟩
            case measure => simp [intOf]; omega
      · obtain rfl : j = ps.length := by omega
        have D1 := cells_kept HD1.out hb (by omega)
        have G1 : wr.cell? ⟨w1.heap.size, 1, none⟩ = some (.int .i64 nx) := hacc.head.cell 1
        obtain ⟨ua, uc, rfl, _⟩ := own_slice hacc.row
        have r0 := D1.cell 0
        have r1 := D1.cell 1
        have f0 := D1.frozen 0
        have f1 := D1.frozen 1
        simp only [List.getElem?_toArray, List.getElem?_cons_zero, List.getElem?_cons_succ] at r0 r1
        have HMAP := Lib.hid (cutQ_map ps k)
        have HMEM : Hid (∀ p ∈ ps.take k ++ ps.drop (k + 1), p ∈ ps ∨ (p.2 = .slice none 0 0 ∧ p.1.1.fields = [])) := fun p hp => by
          rcases List.mem_append.1 hp with h | h
          · exact .inl (List.mem_of_mem_take h)
          · exact .inl (List.mem_of_mem_drop h)
        rw [cutQ_end ps k hk] at *
        generalize ps.take k ++ ps.drop (k + 1) = L at *
        have RE := (D1.set 0 (.slice ua L.length uc)).set 1 (.int .i64 nx)
        rw [set2] at RE
        have ACC := Lib.hid hacc
        clear hacc hb D1
        go_wp2_with fail
        refine bodyPost_ret (ret_q2 rfl _ _ (w.heap.size + 1) _ rfl RE rfl) rfl ?_
        refine ⟨_, L, rfl, ?_⟩
        exact ACC.out.end_ HB1.out H0.out (fs := []) ⟨none, 0, rfl, Nat.le_refl _, fun i f h => by simp at h⟩ HMAP.out HMEM.out (Nat.le_succ _) (by omega) 0 1 _ _
end Go.Proofs.YtiebbgbcojgeoaaGreatDoor

namespace Go.Proofs.YtiebbgbcojgeoaaGreatDoor
open Go.RowKit Go.Shelf
attribute [local go_sem] Oper.semAt_some

theorem setQ_at (ps : List Pr) (k : Nat) (q : Pr) (h : k < ps.length) : (ps.set k q).take (k + 1) = (ps.set k q).take k ++ [q] := by
  rw [List.take_add_one, List.getElem?_set_self h]; rfl
theorem setQ_on (ps : List Pr) (k j : Nat) (p q : Pr) (h : ps[j]? = some p) (hj : j ≠ k) : (ps.set k q).take (j + 1) = (ps.set k q).take j ++ [p] := by
  rw [List.take_add_one, List.getElem?_set_ne (fun e => hj e.symm), h]; rfl
set_option maxRecDepth 100000 in
set_option maxHeartbeats 4000000 in
theorem refReplace_any (ps : List Pr) (v x : Value) (nx id : Int) (fs : List Fld) (w : World) (h : EntsQ w v ps) (hps : ps.length ≤ 1000000) (hx : Flds w x fs) (hfs : Fine7 fs) :
    Calls Tryz.prog 54 #[.agg #[v, .int .i64 nx], .int .i64 id, x] w fun e w' => ∃ v' ps', e = .returned (.tuple #[.agg #[v', .int .i64 (replaceR ⟨ps.map Prod.fst, nx⟩ id fs).ls.next], .int .i64 (replaceR ⟨ps.map Prod.fst, nx⟩ id fs).at_, .int .i64 (replaceR ⟨ps.map Prod.fst, nx⟩ id fs).bad]) ∧ WrQ w v ps x (replaceR ⟨ps.map Prod.fst, nx⟩ id fs).ls.es w' v' ps' := by
  obtain ⟨i0, hi, hz0, hz1, hz2⟩ := info_parts infoQ
  rw [replaceR_W]
  dsimp only
  obtain ⟨A, cap, rfl, hle⟩ := h.empty
  obtain ⟨xa, xc, rfl, _, _⟩ := _root_.id hx
  obtain ⟨W, hW⟩ : ∃ W, W = (w.alloc (.cells #[.slice A ps.length cap, .int .i64 nx] 32)).alloc (.cells #[.slice none 0 0, .int .i64 0] 32) := ⟨_, rfl⟩
  have hbW : Below w.heap.size w W := by rw [hW]; exact ((Below.refl _ w).alloc (Nat.le_refl _) _).alloc (by simp) _
  have hzW : W.heap.size = w.heap.size + 2 := by rw [hW]; simp
  have C0 : Cells W w.heap.size 32 #[.slice A ps.length cap, .int .i64 nx] := by rw [hW]; exact (Cells.new _ _ _).alloc _
  have C1 : Cells W (w.heap.size + 1) 32 #[.slice none 0 0, .int .i64 0] := by
    rw [hW]; have := Cells.new (w.alloc (.cells #[.slice A ps.length cap, .int .i64 nx] 32)) 32 #[.slice none 0 0, .int .i64 0]
    simpa using this
  have H0 := Lib.hid h
  have HX := Lib.hid hx
  have FN := Lib.hid (refFind_any ps (.slice A ps.length cap) nx id W (h.below hbW (Nat.le_refl _)) hps)
  have HBW := Lib.hid hbW
  have HC0 := Lib.hid C0
  have HC1 := Lib.hid C1
  have HT : Hid (∀ w1, Below W.heap.size W w1 → Cells w1 w.heap.size 32 #[.slice A ps.length cap, .int .i64 nx] ∧ Cells w1 (w.heap.size + 1) 32 #[.slice none 0 0, .int .i64 0] ∧ Below w.heap.size w w1 ∧ w.heap.size + 2 ≤ w1.heap.size) := fun w1 b1 =>
    ⟨cells_kept HC0.out b1 (by omega), cells_kept HC1.out b1 (by omega), HBW.out.trans (b1.mono (by omega)), by have := b1.size; omega⟩
  -- an answer that leaves the list as it was
  have RET : Hid (∀ w1, Below W.heap.size W w1 → Cells ((w1.setCell ⟨w.heap.size + 1, 0, none⟩ (.slice A ps.length cap)).setCell ⟨w.heap.size + 1, 1, none⟩ (.int .i64 nx)) (w.heap.size + 1) 32 #[.slice A ps.length cap, .int .i64 nx] ∧ Below w.heap.size w ((w1.setCell ⟨w.heap.size + 1, 0, none⟩ (.slice A ps.length cap)).setCell ⟨w.heap.size + 1, 1, none⟩ (.int .i64 nx))) := fun w1 b1 => by
    obtain ⟨_, D1, hb1, _⟩ := HT.out w1 b1
    have RE := (D1.set 0 (.slice A ps.length cap)).set 1 (.int .i64 nx)
    rw [set2] at RE
    exact ⟨RE, (hb1.setCell (p := ⟨w.heap.size + 1, 0, none⟩) (Nat.le_succ _) _).setCell (p := ⟨w.heap.size + 1, 1, none⟩) (Nat.le_succ _) _⟩
  clear C0 C1 h hbW hzW hx
  subst hW
  cases hf : findR (ps.map Prod.fst) id with
  | none =>
    rw [hf] at FN
    dsimp only [findI] at FN
    clear hf
    unfold replaceW
    dsimp only
    go_enter Tryz.func54, Tryz.ntmps54
    go_wp2_with fail
    refine FN.out.mono ?_
    rintro e w1 ⟨rfl, b1⟩
    obtain ⟨D0, D1, hb1, hzz⟩ := HT.out w1 b1
    obtain ⟨RE, HB⟩ := RET.out w1 b1
    have c0 := D0.cell 0
    have c1 := D0.cell 1
    have r0 := D1.cell 0
    have r1 := D1.cell 1
    have f0 := D1.frozen 0
    have f1 := D1.frozen 1
    simp only [List.getElem?_toArray, List.getElem?_cons_zero, List.getElem?_cons_succ] at c0 c1 r0 r1
    have HRE := Lib.hid RE
    have HHB := Lib.hid HB
    clear FN b1 hb1 D0 D1 RE HB
    go_wp2_with fail
    refine bodyPost_ret (ret_q3 rfl _ _ (w.heap.size + 1) _ rfl HRE.out rfl) rfl ?_
    exact ⟨_, ps, rfl, .same H0.out rfl HHB.out⟩
  | some k =>
    rw [hf] at FN
    dsimp only [findI] at FN
    have hk : k < ps.length := by
      have := (findR_lt hf).1
      rwa [List.length_map] at this
    clear hf
    obtain ⟨p0, hp0⟩ : ∃ p, ps[k]? = some p := ⟨_, List.getElem?_eq_getElem hk⟩
    have HP0 := Lib.hid hp0
    have hat : chkN fs ≤ 11 := chkN_le fs
    by_cases hb : chkN fs = 0
    · rw [replaceW_yes hb]
      dsimp only
      obtain ⟨q, hq⟩ : ∃ q : Pr, q = ((itemOf fs, p0.1.2), .slice xa fs.length xc) := ⟨_, rfl⟩
      have HSET := Lib.hid (setE_map ps k p0 (itemOf fs) (.slice xa fs.length xc) hp0)
      have SAT := Lib.hid (setQ_at ps k q hk)
      have SON := Lib.hid (fun j p => setQ_on ps k j p q)
      have HQ := Lib.hid hq
      have HMEM : Hid (∀ p ∈ ps.set k q, p ∈ ps ∨ (p.2 = .slice xa fs.length xc ∧ p.1.1.fields = fs)) := fun p hp => by
        rcases List.mem_or_eq_of_mem_set hp with h | h
        · exact .inl h
        · right; rw [h, hq]; exact ⟨rfl, rfl⟩
      have CK : Hid (∀ w1, Flds w1 (.slice xa fs.length xc) fs → Calls Tryz.prog 96 #[.slice xa fs.length xc] w1 fun e w' => e = .returned (.tuple #[.int .i64 (chkAt fs), .int .i64 0]) ∧ Below w1.heap.size w1 w') := fun w1 h1 => by
        have := refChk_any fs _ w1 h1 (by have := hfs.len; omega) (fun f hf => by have := hfs.each f hf; omega)
        rw [hb] at this; exact this
      have IT : Hid (∀ w1, Flds w1 (.slice xa fs.length xc) fs → Calls Tryz.prog 97 #[.slice xa fs.length xc] w1 fun e w' => e = .returned (.agg #[.int .i64 3, .string (B (foldG fs)), .slice xa fs.length xc]) ∧ Below w1.heap.size w1 w') := fun w1 h1 =>
        refItem_any fs xa _ xc w1 h1 hfs.len hfs.each
      obtain ⟨T, hT⟩ : ∃ T, T = chkAt fs := ⟨_, rfl⟩
      obtain ⟨G, hG⟩ : ∃ G, G = foldG fs := ⟨_, rfl⟩
      have HG := Lib.hid hG
      rw [← hT] at CK
      rw [← hG] at IT
      obtain ⟨L, hL⟩ : ∃ L, L = ps.set k q := ⟨_, rfl⟩
      have HLL : Hid (L.length = ps.length) := by show _ = _; rw [hL, List.length_set]
      rw [← hL] at HMEM SAT SON
      have HL := Lib.hid hL
      clear hb hat hp0 hT hG hL hq
      go_enter Tryz.func54, Tryz.ntmps54
      go_wp2_with fail
      refine FN.out.mono ?_
      rintro e w1 ⟨rfl, b1⟩
      obtain ⟨_, _, hb1, _⟩ := HT.out w1 b1
      have CK1 := Lib.hid (CK.out w1 (HX.out.below hb1 (Nat.le_refl _)))
      have B1 := Lib.hid b1
      clear FN b1 hb1 CK
      go_wp2_with fail
      refine CK1.out.mono ?_
      rintro e w2 ⟨rfl, b2⟩
      have b2' := B1.out.trans (b2.mono B1.out.size)
      obtain ⟨D0, D1, hb2, hzz⟩ := HT.out w2 b2'
      have c1 : w2.cell? ⟨w.heap.size, 1, none⟩ = some (.int .i64 nx) := D0.cell 1
      have HD0 := Lib.hid D0
      have HD1 := Lib.hid D1
      have HB2 := Lib.hid hb2
      have H1 := Lib.hid (H0.out.below hb2 (Nat.le_refl _))
      have HX1 := Lib.hid (HX.out.below hb2 (Nat.le_refl _))
      clear CK1 b2 b2' D0 D1 hb2 B1
      go_wp2_with fail
      go_loopw [13] (fun i wr => ∃ (j : Nat) (u : Value), j ≤ ps.length ∧ i = .int .i64 j ∧ AccQ w2 wr w2.heap.size u (L.take j) nx) (fun i _ => ps.length - (intOf i).toNat)
      case atStart => exact ⟨0, .slice none 0 0, Nat.zero_le _, rfl, AccQ.start w2 nx⟩
      case round =>
        obtain ⟨j, u, hj, rfl, hacc⟩ := hrel
        have hb := hacc.below
        have hlw := hb.size
        have e0 : wr.cell? ⟨w.heap.size, 0, none⟩ = some (.slice A ps.length cap) := (cells_kept HD0.out hb (by omega)).cell 0
        obtain ⟨ua, uc, rfl, _⟩ := own_slice hacc.row
        by_cases hlt : j < ps.length
        · obtain ⟨p, hp⟩ : ∃ p, ps[j]? = some p := ⟨_, List.getElem?_eq_getElem hlt⟩
          obtain ⟨g, cap', pa, pc, e1, _, hg, e2, d0, d1, d2, d3⟩ := (H1.out.below hb (Nat.le_refl _)).here hp
          cases e1
          rw [e2] at d2
          have hcl : (L.take j).length ≤ j := by rw [List.length_take]; omega
          by_cases hjk : j = k
          · have hq : ((j : Int) == (k : Int)) = true := by simp [hjk]
            have SJ : Hid (L.take (j + 1) = L.take j ++ [q]) := by show _ = _; rw [hjk]; exact SAT.out
            have hpp : p = p0 := by
              have := HP0.out
              rw [← hjk, hp] at this
              exact Option.some.inj this
            subst hpp
            obtain ⟨wa, hwa⟩ : ∃ wa, wa = wr.alloc (.cells #[.int .i64 p.1.1.kind, .string (B p.1.1.raw), .slice pa p.1.1.fields.length pc, .int .i64 p.1.2] 105) := ⟨_, rfl⟩
            have IT1 := Lib.hid (IT.out wa (HX1.out.below (hb.trans (by rw [hwa]; exact (Below.refl _ wr).alloc (by omega) _)) (Nat.le_refl _)))
            have HBX : Hid (Cells wa wr.heap.size 105 #[.int .i64 p.1.1.kind, .string (B p.1.1.raw), .slice pa p.1.1.fields.length pc, .int .i64 p.1.2]) := by show Cells _ _ _ _; rw [hwa]; exact Cells.new _ _ _
            have ACC := Lib.hid (show AccQ w2 wa w2.heap.size (.slice ua (L.take j).length uc) (L.take j) nx by rw [hwa]; exact hacc.alloc _)
            have hzz2 : Hid (wa.heap.size = wr.heap.size + 1) := by show _ = _; rw [hwa]; simp
            have obl := hacc.head.lt
            have HLT : Hid (∀ r, (Value.slice ua (L.take j).length uc).ownBlock = some r → r ≠ wr.heap.size) := fun r e => by have := (hacc.row.lt r e).2; omega
            generalize hcq : L.take j = cq at *
            clear hacc hp hb hcq hjk
            subst hwa
            go_wp2_with fail
            refine IT1.out.mono ?_
            rintro e w4 ⟨rfl, b4⟩
            have ACC4 := Lib.hid (ACC.out.kept b4)
            have BX4 := cells_kept HBX.out b4 (by rw [hzz2.out]; omega)
            have h4z := b4.size
            rw [hzz2.out] at h4z
            have ob_ne : wr.heap.size ≠ w2.heap.size := by omega
            have ne_ob : w2.heap.size ≠ wr.heap.size := by omega
            have acc5 := ((ACC4.out.other (b := wr.heap.size) 0 (.int .i64 3) hlw ob_ne HLT.out).other (b := wr.heap.size) 1 (.string (B G)) hlw ob_ne HLT.out).other (b := wr.heap.size) 2 (.slice xa fs.length xc) hlw ob_ne HLT.out
            have BX5 : Cells (((w4.setCell ⟨wr.heap.size, 0, none⟩ (.int .i64 3)).setCell ⟨wr.heap.size, 1, none⟩ (.string (B G))).setCell ⟨wr.heap.size, 2, none⟩ (.slice xa fs.length xc)) wr.heap.size 105 #[.int .i64 3, .string (B G), .slice xa fs.length xc, .int .i64 p.1.2] := by
              have := ((BX4.set 0 (.int .i64 3)).set 1 (.string (B G))).set 2 (.slice xa fs.length xc)
              simpa [List.setIfInBounds_toArray, List.set] using this
            have q0 := BX4.cell 0
            have q1 := BX4.cell 1
            have q2 := BX4.cell 2
            simp only [List.getElem?_toArray, List.getElem?_cons_zero, List.getElem?_cons_succ] at q0 q1 q2
            have fr0 := BX4.frozen 0
            have fr1 := BX4.frozen 1
            have fr2 := BX4.frozen 2
            have s0 : (((w4.setCell ⟨wr.heap.size, 0, none⟩ (.int .i64 3)).setCell ⟨wr.heap.size, 1, none⟩ (.string (B G))).setCell ⟨wr.heap.size, 2, none⟩ (.slice xa fs.length xc)).cell? ⟨wr.heap.size, 0, none⟩ = some (.int .i64 3) := BX5.cell 0
            have s1 : (((w4.setCell ⟨wr.heap.size, 0, none⟩ (.int .i64 3)).setCell ⟨wr.heap.size, 1, none⟩ (.string (B G))).setCell ⟨wr.heap.size, 2, none⟩ (.slice xa fs.length xc)).cell? ⟨wr.heap.size, 1, none⟩ = some (.string (B G)) := BX5.cell 1
            have s2 : (((w4.setCell ⟨wr.heap.size, 0, none⟩ (.int .i64 3)).setCell ⟨wr.heap.size, 1, none⟩ (.string (B G))).setCell ⟨wr.heap.size, 2, none⟩ (.slice xa fs.length xc)).cell? ⟨wr.heap.size, 2, none⟩ = some (.slice xa fs.length xc) := BX5.cell 2
            have s3 : (((w4.setCell ⟨wr.heap.size, 0, none⟩ (.int .i64 3)).setCell ⟨wr.heap.size, 1, none⟩ (.string (B G))).setCell ⟨wr.heap.size, 2, none⟩ (.slice xa fs.length xc)).cell? ⟨wr.heap.size, 3, none⟩ = some (.int .i64 p.1.2) := BX5.cell 3
            have k0 : (((w4.setCell ⟨wr.heap.size, 0, none⟩ (.int .i64 3)).setCell ⟨wr.heap.size, 1, none⟩ (.string (B G))).setCell ⟨wr.heap.size, 2, none⟩ (.slice xa fs.length xc)).cell? ⟨w2.heap.size, 0, none⟩ = some (.slice ua cq.length uc) := acc5.head.cell 0
            have hrow := acc5.row
            have hz25 := acc5.below.size
            have A5 := Lib.hid (acc5.alloc (.cells #[.int .i64 3, .string (B G), .slice xa fs.length xc, .int .i64 p.1.2] 105))
            have hv := cells_new_add (((w4.setCell ⟨wr.heap.size, 0, none⟩ (.int .i64 3)).setCell ⟨wr.heap.size, 1, none⟩ (.string (B G))).setCell ⟨wr.heap.size, 2, none⟩ (.slice xa fs.length xc)) 105 [.int .i64 3, .string (B G), .slice xa fs.length xc, .int .i64 p.1.2]
            rw [show (((w4.setCell ⟨wr.heap.size, 0, none⟩ (.int .i64 3)).setCell ⟨wr.heap.size, 1, none⟩ (.string (B G))).setCell ⟨wr.heap.size, 2, none⟩ (.slice xa fs.length xc)).heap.size = w4.heap.size by simp [World.setCell]] at hv hz25
            have HV := Lib.hid hv
            clear hv acc5 BX5 BX4 b4
            go_wp2_with (at_builtin; refine wpList_append_own _ rfl _ _ 30 rfl w2.heap.size 105 i0 _ 4 56 Tryz.underlying30 hi hz0 hz1 hz2 rfl (by decide) _ _ _ rfl (hrow.alloc _) ⟨w4.heap.size, 0, none⟩ 1 1 _ rfl rfl HV.out (by intro u hu; simp at hu; rcases hu with rfl | rfl | rfl | rfl <;> rfl) (by unfold maxLen; omega) (by omega) (by first | omega | (simp only [World.size_alloc]; omega) | (simp [World.setCell]; omega)) ?_)
            intro v' w6 hown' hgrow _
            have h6 := (A5.out.grown_head hgrow)
            have acc6 := Lib.hid (A5.out.grow (p := q) (by rw [HQ.out, HG.out] at *; exact hown') hgrow)
            have k6 : w6.cell? ⟨w2.heap.size, 0, none⟩ = some (.slice ua cq.length uc) := h6.cell 0
            have kf6 := h6.frozen 0
            obtain ⟨g', cap6, rfl⟩ := ownsRow_succ hown'
            clear hown' hgrow h6
            go_wp2_with fail
            go_roundw
            case rel => exact ⟨j + 1, _, hlt, by go_num, by rw [SJ.out]; exact acc6.out⟩
            case measure => simp [intOf]; omega
          · have hq : ((j : Int) == (k : Int)) = false := beq_eq_false_iff_ne.2 (by omega)
            have SJ : Hid (L.take (j + 1) = L.take j ++ [p]) := SON.out j p hp hjk
            have ACC := Lib.hid ((hacc.alloc (.cells #[.int .i64 p.1.1.kind, .string (B p.1.1.raw), .slice pa p.1.1.fields.length pc, .int .i64 p.1.2] 105)).alloc (.cells #[.int .i64 p.1.1.kind, .string (B p.1.1.raw), .slice pa p.1.1.fields.length pc, .int .i64 p.1.2] 105))
            have k0 : wr.cell? ⟨w2.heap.size, 0, none⟩ = some (.slice ua (L.take j).length uc) := hacc.head.cell 0
            have hrow := hacc.row
            have obl := hacc.head.lt
            have hv := cells_new_add (wr.alloc (.cells #[.int .i64 p.1.1.kind, .string (B p.1.1.raw), .slice pa p.1.1.fields.length pc, .int .i64 p.1.2] 105)) 105 [.int .i64 p.1.1.kind, .string (B p.1.1.raw), .slice pa p.1.1.fields.length pc, .int .i64 p.1.2]
            rw [World.size_alloc] at hv
            have HV := Lib.hid hv
            generalize hcq : L.take j = cq at *
            have ne_ob : w2.heap.size ≠ wr.heap.size := by omega
            clear hacc hp hb hcq hv hjk
            go_wp2_with (at_builtin; refine wpList_append_own _ rfl _ _ 30 rfl w2.heap.size 105 i0 _ 4 56 Tryz.underlying30 hi hz0 hz1 hz2 rfl (by decide) _ _ _ rfl ((hrow.alloc _).alloc _) ⟨wr.heap.size + 1, 0, none⟩ 1 1 _ rfl rfl HV.out (by intro u hu; simp at hu; rcases hu with rfl | rfl | rfl | rfl <;> rfl) (by unfold maxLen; omega) (by omega) (by first | omega | (simp only [World.size_alloc]; omega) | (simp [World.setCell]; omega)) ?_)
            intro v' w6 hown' hgrow _
            have h6 := (ACC.out.grown_head hgrow)
            have acc6 := Lib.hid (ACC.out.grow (p := p) (by unfold entCell; rw [e2]; exact hown') hgrow)
            have k6 : w6.cell? ⟨w2.heap.size, 0, none⟩ = some (.slice ua cq.length uc) := h6.cell 0
            have kf6 := h6.frozen 0
            obtain ⟨g', cap6, rfl⟩ := ownsRow_succ hown'
            clear hown' hgrow h6
            go_wp2_with fail
            go_roundw
            case rel => exact ⟨j + 1, _, hlt, by go_num, by rw [SJ.out]; exact acc6.out⟩
            case measure => simp [intOf]; omega
        · obtain rfl : j = ps.length := by omega
          rw [show L.take ps.length = L by rw [← HLL.out, List.take_length]] at *
          have D1 := cells_kept HD1.out hb (by omega)
          have G1 : wr.cell? ⟨w2.heap.size, 1, none⟩ = some (.int .i64 nx) := hacc.head.cell 1
          have G0 : wr.cell? ⟨w2.heap.size, 0, none⟩ = some (.slice ua L.length uc) := hacc.head.cell 0
          have r0 := D1.cell 0
          have r1 := D1.cell 1
          have f0 := D1.frozen 0
          have f1 := D1.frozen 1
          simp only [List.getElem?_toArray, List.getElem?_cons_zero, List.getElem?_cons_succ] at r0 r1
          have RE := (D1.set 0 (.slice ua L.length uc)).set 1 (.int .i64 nx)
          rw [set2] at RE
          have HRE := Lib.hid RE
          have ACC := Lib.hid hacc
          clear hacc hb D1 RE
          go_wp2_with fail
          refine bodyPost_ret (ret_q3 rfl _ _ (w.heap.size + 1) _ rfl HRE.out rfl) rfl ?_
          refine ⟨_, L, rfl, ?_⟩
          exact ACC.out.end_ HB2.out H0.out HX.out (by rw [HL.out, HQ.out]; exact HSET.out) HMEM.out (Nat.le_succ _) (by omega) 0 1 _ _
    · rw [replaceW_no hb]
      dsimp only
      have hbb : (((chkN fs : Nat) : Int) != 0) = true := bne_iff_ne.2 (by omega)
      obtain ⟨N, hN⟩ : ∃ N, N = chkN fs := ⟨_, rfl⟩
      obtain ⟨T, hT⟩ : ∃ T, T = chkAt fs := ⟨_, rfl⟩
      have CK : Hid (∀ w1, Flds w1 (.slice xa fs.length xc) fs → Calls Tryz.prog 96 #[.slice xa fs.length xc] w1 fun e w' => e = .returned (.tuple #[.int .i64 T, .int .i64 (N : Nat)]) ∧ Below w1.heap.size w1 w') := fun w1 h1 => by
        rw [hN, hT]; exact refChk_any fs _ w1 h1 (by have := hfs.len; omega) (fun f hf => by have := hfs.each f hf; omega)
      rw [← hN] at hbb hat ⊢
      rw [← hT]
      clear hb hp0 hN hT
      go_enter Tryz.func54, Tryz.ntmps54
      go_wp2_with fail
      refine FN.out.mono ?_
      rintro e w1 ⟨rfl, b1⟩
      obtain ⟨D0, D1, hb1, hzz⟩ := HT.out w1 b1
      have CK1 := Lib.hid (CK.out w1 (HX.out.below hb1 (Nat.le_refl _)))
      have B1 := Lib.hid b1
      clear FN b1 hb1 D0 D1
      go_wp2_with fail
      refine CK1.out.mono ?_
      rintro e w2 ⟨rfl, b2⟩
      have b2' := B1.out.trans (b2.mono B1.out.size)
      obtain ⟨D0, D1, hb1, hzz2⟩ := HT.out w2 b2'
      obtain ⟨RE, HB⟩ := RET.out w2 b2'
      have c0 := D0.cell 0
      have c1 := D0.cell 1
      have r0 := D1.cell 0
      have r1 := D1.cell 1
      have f0 := D1.frozen 0
      have f1 := D1.frozen 1
      simp only [List.getElem?_toArray, List.getElem?_cons_zero, List.getElem?_cons_succ] at c0 c1 r0 r1
      have HRE := Lib.hid RE
      have HHB := Lib.hid HB
      clear CK1 b2 b2' hb1 D0 D1 RE HB
      go_wp2_with fail
      refine bodyPost_ret (ret_q3 rfl _ _ (w.heap.size + 1) _ rfl HRE.out rfl) rfl ?_
      exact ⟨_, ps, rfl, .same H0.out rfl HHB.out⟩
end Go.Proofs.YtiebbgbcojgeoaaGreatDoor

