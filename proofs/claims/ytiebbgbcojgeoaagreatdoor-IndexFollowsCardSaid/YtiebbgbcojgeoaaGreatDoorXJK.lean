/- The calls of IndexFollows on a list and an index side by side. -/
import Derived.Test.YtiebbgbcojgeoaaGreatDoorXJG
set_option linter.unusedVariables false
namespace Go.Proofs.YtiebbgbcojgeoaaGreatDoor
open Go.RowKit Go.Maps Go.Sort Go.Shelf

/-- What an edit of the list answers: u the error. -/
def Said8 (bad : Nat) (u : Value) : Prop := (bad = 0 ∧ u = .nilIface) ∨ (bad ≠ 0 ∧ ∃ z, u = .iface 75 (.int .i64 z)) ∨ (bad ≠ 0 ∧ ∃ q, u = .iface 107 (.pointer (some ⟨q, 0, none⟩)))
/-- What the list's blocks are. -/
def OfLst (lb : Nat) (ev : Value) (r : Nat) : Prop := r = lb ∨ ev.ownBlock = some r
section
variable {S0 S : Nat} {w : World} {lb : Nat} {ev : Value} {ps : List Pr} {l : LS} {m : Nat} {T : Nat → Tag} {x kb yb n : Nat} {rs : List Sz}
theorem TwoI.base (h : TwoI S0 S w lb ev ps l m T x kb yb n rs) : S0 ≤ w.heap.size := by
  have := h.ca.lb0
  have := h.ca.la.lr.head.lt
  omega
theorem put_two (h : TwoI S0 S w lb ev ps l m T x kb yb n rs) (id : Int) (hw : (Lit.int .i64 id).wf = true) (h1 : 1 ≤ id) (v : Value) (fs : List Fld) (hf : Flds w v fs) (hb : fs ≠ [] → ∀ b, v.ownBlock = some b → b < S) (hn : n + 1 + 2 * fs.length ≤ 800000) (hl : ∀ f ∈ fs, f.1.length ≤ maxLen ∧ f.2.length ≤ maxLen) :
    Calls Tryz.prog 38 #[.pointer (some ⟨x, 0, none⟩), .int .i64 id, v] w fun e w' => e = .returned .nilIface ∧ ∃ T', TwoI S0 S w' lb ev ps l m T' x kb yb (n + 1 + 2 * fs.length) (putZ rs id fs) ∧ Below S w w' := by
  refine (put_L h.ix id hw h1 v fs (flds_stay h.ix hf hb) hn hl).mono ?_
  rintro e w' ⟨rfl, T', ht, hi, ho⟩
  exact ⟨rfl, T', h.index ht hi ho, h.ix.only (T' := T') ho⟩
theorem drop_two (h : TwoI S0 S w lb ev ps l m T x kb yb n rs) (id : Int) (hw : (Lit.int .i64 id).wf = true) :
    Calls Tryz.prog 39 #[.pointer (some ⟨x, 0, none⟩), .int .i64 id] w fun e w' => e = .returned (.bool (idsOf rs id)) ∧ ∃ T', TwoI S0 S w' lb ev ps l m T' x kb yb n (dropZ rs id) ∧ Below S w w' := by
  refine (drop_L h.ix id hw).mono ?_
  rintro e w' ⟨rfl, T', ht, hi, ho⟩
  exact ⟨rfl, T', h.index ht hi ho, h.ix.only (T' := T') ho⟩
theorem rep_two (h : TwoI S0 S w lb ev ps l m T x kb yb n rs) (hm : m ≤ 10000) (id : Int) (v : Value) (fs : List Fld) (hf : FldR w v fs) (hfs : Fine7 fs) (h1 : (foldG fs).length ≤ 100000) (h2 : fs.length ≤ 1000000) :
    Calls Tryz.prog 34 #[.pointer (some ⟨lb, 0, none⟩), .int .i64 id, v] w fun e w' => ∃ u ev' ps', e = .returned u ∧ Said8 (replaceR l id fs).bad u ∧ TwoI S0 S w' lb ev' ps' (replaceR l id fs).ls (m + 1) (bareT T w.heap.size) x kb yb n rs ∧ Only (OfLst lb ev) w w' := by
  have hl := h.ca.len
  have he : ps.length = l.es.length := by rw [← h.ca.es, List.length_map]
  have := replace_list lb ev ps l.next id fs v w h.ca.la (by omega) hf hfs
  rw [findP_R h.ca.wf, h.ca.es] at this
  refine this.mono ?_
  rintro e w' ⟨u, ev', ps', rfl, hw⟩
  have hw2 : WrR w lb ev ps (editR l 1 id fs) u w' ev' ps' := hw
  exact ⟨u, ev', ps', rfl, errZ_iface hw.err, h.list 1 id h1 h2 h.base hw2, hw.only⟩
theorem del_two (h : TwoI S0 S w lb ev ps l m T x kb yb n rs) (hm : m ≤ 10000) (id : Int) :
    Calls Tryz.prog 35 #[.pointer (some ⟨lb, 0, none⟩), .int .i64 id] w fun e w' => ∃ u ev' ps', e = .returned u ∧ Said8 (deleteR l id).bad u ∧ TwoI S0 S w' lb ev' ps' (deleteR l id).ls (m + 1) (bareT T w.heap.size) x kb yb n rs ∧ Only (OfLst lb ev) w w' := by
  have hl := h.ca.len
  have he : ps.length = l.es.length := by rw [← h.ca.es, List.length_map]
  have := delete_list lb ev ps l.next id w h.ca.la (by omega)
  rw [findP_R h.ca.wf, h.ca.es] at this
  refine this.mono ?_
  rintro e w' ⟨u, ev', ps', rfl, hw⟩
  have hw2 : WrR w lb ev ps (editR l 2 id []) u w' ev' ps' := hw
  exact ⟨u, ev', ps', rfl, errZ_iface hw.err, h.list 2 id (fs := []) (by decide) (by decide) h.base hw2, hw.only⟩
theorem ins_two (h : TwoI S0 S w lb ev ps l m T x kb yb n rs) (hm : m ≤ 10000) (id : Int) (v : Value) (fs : List Fld) (hf : FldR w v fs) (hfs : Fine7 fs) (h1 : (foldG fs).length ≤ 100000) (h2 : fs.length ≤ 1000000) :
    Calls Tryz.prog 32 #[.pointer (some ⟨lb, 0, none⟩), .int .i64 id, v] w fun e w' => ∃ u ev' ps', e = .returned (.tuple #[.int .i64 (insertR l id fs).id, u]) ∧ Said8 (insertR l id fs).bad u ∧ TwoI S0 S w' lb ev' ps' (insertR l id fs).ls (m + 1) (bareT T w.heap.size) x kb yb n rs ∧ Only (OfLst lb ev) w w' := by
  have hl := h.ca.len
  have he : ps.length = l.es.length := by rw [← h.ca.es, List.length_map]
  have hnx := h.ca.nx
  have hpos := h.ca.ok.pos
  have := insert_R lb ev ps l.next id fs v w h.ca.la h.ca.wf (by rw [h.ca.es]; exact h.ca.ok.len) (by omega) (by omega) hf hfs
  rw [h.ca.es] at this
  refine this.mono ?_
  rintro e w' ⟨u, ev', ps', rfl, hw⟩
  have hw2 : WrR w lb ev ps (editR l 3 id fs) u w' ev' ps' := hw
  exact ⟨u, ev', ps', rfl, errZ_iface hw.err, h.list 3 id h1 h2 h.base hw2, hw.only⟩
/-- The list's writes, from without. -/
theorem TwoI.onlyB {w' : World} (h : TwoI S0 S w lb ev ps l m T x kb yb n rs) (ho : Only (OfLst lb ev) w w') : Below S0 w w' := ho.to_below h.base (fun r hr e => by
  rcases e with e | e
  · have := h.ca.lb0; omega
  · have := h.ca.ev0 r e; omega)
/-- A block that is neither. -/
theorem TwoI.free {w' : World} (h : TwoI S0 S w lb ev ps l m T x kb yb n rs) (ho : Only (OfLst lb ev) w w') {b : Nat} {t : TypeId} {cur : Array Value} (hc : Cells w b t cur) (h1 : b ≠ lb) (h2 : ev.ownBlock ≠ some b) : Cells w' b t cur := hc.only ho (fun e => by
  rcases e with e | e
  · exact h1 e
  · exact h2 e)
end
end Go.Proofs.YtiebbgbcojgeoaaGreatDoor
