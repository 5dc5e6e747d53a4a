/- Texts put together. -/
import Derived.Shelf.Spec.SlicesInsertGrow
import Derived.ArgAppend
import Derived.Test.YtiebbgbcojgeoaaBap5
import Derived.Test.YtiebbgbcojgeoaaBap7
import Derived.Test.YtiebbgbcojgeoaaBap8
set_option linter.unusedVariables false
namespace Go.Proofs.Ytiebbgbcojgeoaa
open Go.RowKit Go.Shelf

/-- Values laid over an array from a place on. -/
def layV (cur : Array Value) : Nat → List Value → Array Value
  | _, [] => cur
  | o, v :: r => layV (cur.setIfInBounds o v) (o + 1) r
theorem layV_size : ∀ (vs : List Value) (cur : Array Value) (o : Nat), (layV cur o vs).size = cur.size
  | [], _, _ => rfl
  | v :: r, cur, o => by
    show (layV (cur.setIfInBounds o v) (o + 1) r).size = _
    rw [layV_size r]; simp
theorem layV_at : ∀ (vs : List Value) (cur : Array Value) (o j : Nat), o + vs.length ≤ cur.size → (layV cur o vs)[j]? = if o ≤ j ∧ j < o + vs.length then vs[j - o]? else cur[j]?
  | [], cur, o, j, _ => by
    show cur[j]? = _
    rw [if_neg (by simp only [List.length_nil]; omega)]
  | v :: r, cur, o, j, h => by
    show (layV (cur.setIfInBounds o v) (o + 1) r)[j]? = _
    rw [layV_at r _ _ _ (by simp at h ⊢; omega)]
    simp only [List.length_cons] at h ⊢
    by_cases h1 : o + 1 ≤ j ∧ j < o + 1 + r.length
    · rw [if_pos h1, if_pos (by omega), show j - o = (j - (o + 1)) + 1 by omega, List.getElem?_cons_succ]
    · rw [if_neg h1]
      by_cases h2 : o = j
      · subst h2
        rw [if_pos (by omega), Nat.sub_self, List.getElem?_cons_zero, Array.getElem?_setIfInBounds]
        simp
        omega
      · rw [if_neg (by omega), Array.getElem?_setIfInBounds, if_neg h2]
theorem Cells.lay {W : World} {b : Nat} {t : TypeId} : ∀ (vs : List Value) {cur : Array Value} (o : Nat), Cells W b t cur → Cells (W.setCells b o vs) b t (layV cur o vs)
  | [], _, _, h => h
  | v :: r, cur, o, h => by
    have := Cells.lay (W := W.setCell ⟨b, o, none⟩ v) r (o + 1) (h.set o v)
    exact this
end Go.Proofs.Ytiebbgbcojgeoaa

namespace Go.Proofs.Ytiebbgbcojgeoaa
open Go.RowKit Go.Shelf Go.Lib

/-- An append onto a slice that is owned, as the walk meets it: where the row lies then is told, too. -/
theorem wpList_append_at {P : Program} {w : World} {ops : Array Oper} {rest : List Oper} {o : Oper} {a : Act} {Q : Exit → Act → World → Prop} (hgd : o.guard = none) (s x : Operand) (t : TypeId)
    (hop : o.op = Op.call { callee := Callee.builtin Builtin.append, args := #[s, x], argTypes := #[t, t] }) (base : Nat)
    (e : TypeId) (i : TypeInfo) (z : Value) (size bytes : Nat) (ht : P.underlying t = some (.slice e)) (hi : P.info? e = some i) (hz : i.zero = some z)
    (hsize : i.size = size) (hby : i.bytes = bytes) (hzs : z.cells.size = size) (hsz : 0 < size)
    (v : Value) (n : Nat) (xs : List Value) (hs : a.eval s = v) (hown : w.ownsRow base e size v n xs)
    (ad : Addr) (m c : Nat) (news : List Value) (hx : a.eval x = .slice (some ad) m c) (hl : news.length = m * size) (hnews : ∀ j u, news[j]? = some u → w.cell? (ad.add j) = some u) (h1 : ∀ u ∈ news, u.oneCell' = true)
    (h63 : n + m ≤ maxLen) (hbytes : (n + m) * bytes ≤ 140737488355328) (hb : base ≤ w.heap.size)
    (h : ∀ v' w', w'.ownsRow base e size v' (n + m) (xs ++ news) → w.grownBy w' v.ownBlock → Hid (v'.ownBlock = v.ownBlock ∨ v'.ownBlock = some w.heap.size) → wpList P ops Q rest (a.put o.dst v') w') : wpList P ops Q (o :: rest) a w := by
  refine wpList_plain hgd fun K hK => ?_
  obtain ⟨v', w', hr, h2, h3, h4, h5⟩ := run_append_own_at (P := P) w base t o.type e i z size bytes ht hi hz hsize hby hzs hsz v n xs hown ad m c news hl hnews h1 h63 hbytes hb
  unfold Oper.wp
  simp [execOp, hop, resolve, invoke, builtin, hs, hx, hr, Result.andThen]
  exact hK _ _ (h v' w' h2 h3 h5)
end Go.Proofs.Ytiebbgbcojgeoaa

namespace Go.Proofs.Ytiebbgbcojgeoaa
open Go.RowKit Go.Shelf
attribute [local go_sem] Oper.semAt_some errV_0

theorem Flds.only {w w' : World} {v : Value} {fs : List Fld} {S : Nat → Prop} (h : Flds w v fs) (g : Only S w w') (hs : fs ≠ [] → ∀ b, v.ownBlock = some b → ¬ S b) : Flds w' v fs := by
  obtain ⟨A, cap, hv, hle, hc⟩ := h
  refine ⟨A, cap, hv, hle, fun i s hi => ?_⟩
  obtain ⟨b, off, hA, hlt, c0, c1⟩ := hc i s hi
  have hb : w'.heap[b]? = w.heap[b]? := g.same b hlt (hs (fun e => by rw [e] at hi; simp at hi) b (by rw [hv, hA]; rfl))
  exact ⟨b, off, hA, Nat.lt_of_lt_of_le hlt g.size, (World.cell?_of_block (w := w) (a := ⟨b, off + i * 2, none⟩) hb).trans c0, (World.cell?_of_block (w := w) (a := ⟨b, off + i * 2 + 1, none⟩) hb).trans c1⟩
theorem FldR.only {w w' : World} {v : Value} {fs : List Fld} {S : Nat → Prop} (h : FldR w v fs) (g : Only S w w') (hs : fs ≠ [] → ∀ b, v.ownBlock = some b → ¬ S b) : FldR w' v fs := ⟨h.1.only g hs, h.2⟩
theorem Flds.lt {w : World} {v : Value} {fs : List Fld} (h : Flds w v fs) (hne : fs ≠ []) : ∀ b, v.ownBlock = some b → b < w.heap.size := by
  obtain ⟨A, cap, hv, hle, hc⟩ := h
  intro b hb
  cases fs with
  | nil => exact absurd rfl hne
  | cons f r =>
    obtain ⟨b', off, hA, hlt, _⟩ := hc 0 f rfl
    rw [hv, hA] at hb
    cases hb; exact hlt
/-- A list in memory that may be written: the fields of its entries lie in neither of its two blocks. -/
structure LA (w : World) (lb : Nat) (ev : Value) (ps : List Pr) (nx : Int) : Prop where
  lr : LR w lb ev ps nx
  apart : ∀ p ∈ ps, p.1.1.fields ≠ [] → ∀ b, p.2.ownBlock = some b → b ≠ lb ∧ ev.ownBlock ≠ some b
theorem LR.row_ne {w : World} {lb : Nat} {ev : Value} {ps : List Pr} {nx : Int} (h : LR w lb ev ps nx) : ev.ownBlock ≠ some lb := by
  intro e
  rcases h.ents.row.2 with ⟨q, _⟩ | ⟨g, cap, cur, q, _, hg, _⟩
  · rw [q] at e; cases e
  · rw [q] at e
    have : g = lb := Option.some.inj e
    subst this
    have := hg.symm.trans h.head
    simp at this
theorem LA.below {w w' : World} {lb : Nat} {ev : Value} {ps : List Pr} {nx : Int} {n : Nat} (h : LA w lb ev ps nx) (hb : Below n w w') (hn : w.heap.size ≤ n) : LA w' lb ev ps nx := ⟨h.lr.below hb hn, h.apart⟩
end Go.Proofs.Ytiebbgbcojgeoaa

namespace Go.Proofs.Ytiebbgbcojgeoaa
open Go.RowKit Go.Shelf

theorem Its.rest {w : World} {b off n cap : Nat} {its : List It} (h : Its w (.slice (some ⟨b, off, none⟩) n cap) its) (k : Nat) (hk : k ≤ its.length) : Its w (.slice (some ⟨b, off + k * 3, none⟩) (its.length - k) (cap - k)) (its.drop k) := by
  obtain ⟨A', cap', e, hle, hc⟩ := h
  cases e
  refine ⟨_, cap - k, by rw [List.length_drop], by rw [List.length_drop]; omega, fun i it hi => ?_⟩
  rw [List.getElem?_drop] at hi
  obtain ⟨b', off', fv, e, h1, h2, h3, h4, h5⟩ := hc _ it hi
  cases e
  refine ⟨b, off + k * 3, fv, rfl, h1, ?_, ?_, ?_, h5⟩
  · rw [show off + k * 3 + i * 3 = off + (k + i) * 3 by omega]; exact h2
  · rw [show off + k * 3 + i * 3 + 1 = off + (k + i) * 3 + 1 by omega]; exact h3
  · rw [show off + k * 3 + i * 3 + 1 + 1 = off + (k + i) * 3 + 1 + 1 by omega]; exact h4
theorem Its.empty (w : World) (A : Option Addr) (cap : Nat) : Its w (.slice A 0 cap) [] := ⟨A, cap, rfl, Nat.zero_le _, fun i it h => by simp at h⟩
end Go.Proofs.Ytiebbgbcojgeoaa

namespace Go.Proofs.Ytiebbgbcojgeoaa
open Go.RowKit Go.Shelf
attribute [local go_sem] Oper.semAt_some errV_0

/-- What Of comes to. -/
def OfR (w : World) (t : List UInt8) (e : Ending) (w' : World) : Prop :=
  Below w.heap.size w w' ∧ match parseL t with
    | .error (a, n) => ∃ u, e = .returned (.tuple #[.pointer none, u]) ∧ FaultAt w.heap.size w' u a n
    | .ok its => ∃ lb ev ps, e = .returned (.tuple #[ptr lb, .nilIface]) ∧ w.heap.size ≤ lb ∧ (∀ b, ev.ownBlock = some b → w.heap.size ≤ b) ∧ LA w' lb ev ps (fromL its).next ∧ ps.map Prod.fst = (fromL its).es
theorem OfR.no {w w' : World} {t : List UInt8} {e : Ending} {a n : Nat} (h : OfR w t e w') (hp : parseL t = .error (a, n)) : Below w.heap.size w w' ∧ ∃ u, e = .returned (.tuple #[.pointer none, u]) ∧ FaultAt w.heap.size w' u a n := by
  obtain ⟨h1, h2⟩ := h
  rw [hp] at h2
  exact ⟨h1, h2⟩
/-- The entries so far, their row in new memory. -/
structure AccE (w wr : World) (lb : Nat) (ev : Value) (ps : List Pr) (nx : Int) : Prop where
  head : Cells wr lb 122 #[ev, .int .i64 (nx - 1)]
  row : wr.ownsRow w.heap.size 111 4 ev ps.length (entCells ps)
  each : ∀ p ∈ ps, FldR w p.2 p.1.1.fields
  below : Below w.heap.size w wr
  lb : w.heap.size ≤ lb
theorem AccE.la {w wr : World} {lb : Nat} {ev : Value} {ps : List Pr} {nx : Int} (h : AccE w wr lb ev ps nx) : LA wr lb ev ps nx :=
  ⟨⟨h.head, ⟨rowBase h.row (Nat.zero_le _), fun p hp => (h.each p hp).below h.below (Nat.le_refl _)⟩⟩, fun p hp hne b hb => by
    have h1 := (h.each p hp).1.lt hne b hb
    refine ⟨by have := h.lb; omega, fun e => ?_⟩
    have := (h.row.lt b e).1
    omega⟩
theorem AccE.ne {w wr : World} {lb : Nat} {ev : Value} {ps : List Pr} {nx : Int} (h : AccE w wr lb ev ps nx) : ev.ownBlock ≠ some lb := h.la.lr.row_ne
theorem AccE.alloc {w wr : World} {lb : Nat} {ev : Value} {ps : List Pr} {nx : Int} (h : AccE w wr lb ev ps nx) (o : Obj) : AccE w (wr.alloc o) lb ev ps nx :=
  ⟨h.head.alloc o, h.row.alloc o, h.each, h.below.alloc h.below.size o, h.lb⟩
theorem AccE.snoc {w wa w5 w6 : World} {lb : Nat} {ev v' : Value} {ps : List Pr} {nx nx' : Int} {p : Pr} (h : AccE w wa lb ev ps nx) (h5 : Cells w5 lb 122 #[ev, .int .i64 (nx' - 1)]) (o5 : Only (· = lb) wa w5) (hp : FldR w p.2 p.1.1.fields)
    (ho : w6.ownsRow 0 111 4 v' (ps.length + 1) (entCells ps ++ entCell p)) (h6 : Cells w6 lb 122 #[ev, .int .i64 (nx' - 1)]) (hk : v'.ownBlock = ev.ownBlock ∨ ∃ k, v'.ownBlock = some k ∧ w5.heap.size ≤ k ∧ k < w6.heap.size) (o6 : Only (fun r => some r = ev.ownBlock) w5 w6) :
    AccE w (w6.setCell ⟨lb, 0, none⟩ v') lb v' (ps ++ [p]) nx' := by
  have hne : v'.ownBlock ≠ some lb := by
    intro e
    rcases hk with hk | ⟨k, hk, h1, _⟩
    · rw [hk] at e; exact h.ne e
    · rw [hk] at e
      have : k = lb := Option.some.inj e
      have := h5.lt
      omega
  have hz := h.below.size
  have hz5 := o5.size
  have hrow : w6.ownsRow w.heap.size 111 4 v' (ps.length + 1) (entCells ps ++ entCell p) := by
    rcases ho.2 with ⟨q, _⟩ | ⟨g2, cap2, cur2, q, _, rest⟩
    · exact ⟨ho.1, .inl ⟨q, by omega⟩⟩
    · refine ⟨ho.1, .inr ⟨g2, cap2, cur2, q, ?_, rest⟩⟩
      rcases hk with hk | ⟨k, hk, h1, _⟩
      · exact (h.row.lt g2 (by rw [← hk, q]; rfl)).1
      · rw [q] at hk
        have : g2 = k := Option.some.inj hk
        omega
  refine ⟨?_, ?_, ?_, ?_, h.lb⟩
  · have := h6.set 0 v'
    simpa [List.setIfInBounds_toArray, List.set] using this
  · rw [List.length_append, entCells_snoc]
    exact row_cell hrow hne _
  · intro q hq
    rcases List.mem_append.1 hq with hq | hq
    · exact h.each q hq
    · rw [List.mem_singleton.1 hq]; exact hp
  · have b5 : Below w.heap.size w w5 := h.below.trans (o5.to_below hz (fun r hr e => by have := h.lb; omega))
    have b6 : Below w.heap.size w5 w6 := o6.to_below (by omega) (fun r hr e => by
      have := (h.row.lt r e.symm).1
      omega)
    exact (b5.trans b6).setCell (p := ⟨lb, 0, none⟩) h.lb _
end Go.Proofs.Ytiebbgbcojgeoaa

namespace Go.Proofs.Ytiebbgbcojgeoaa
open Go.RowKit Go.Shelf
attribute [local go_sem] Oper.semAt_some errV_0

/-- An error's number, and the place. -/
def ErrZ (lo : Nat) (w : World) (u : Value) (a : Int) (n : Nat) : Prop := n ≤ 11 ∧ ((u = errV n ∧ a = -9) ∨ ∃ k : Nat, FaultAt lo w u k n ∧ a = k ∧ n ≠ 0)
theorem ErrZ.of {lo : Nat} {w : World} {u : Value} {fs : List Fld} (h : ChkV lo w u fs) : ErrZ lo w u (chkAt fs) (chkN fs) := by
  unfold ChkV at h
  unfold chkAt
  refine ⟨chkN_le fs, ?_⟩
  split at h
  · rename_i hb
    rw [if_pos hb]; exact .inl ⟨h, rfl⟩
  · rename_i hb
    rw [if_neg hb]
    have h2 : chkN fs = foldN fs := by
      unfold bare at hb
      unfold chkN
      rw [if_neg (fun e => hb (.inl e)), if_neg (fun e => hb (.inr (.inl e)))]
    refine .inr ⟨_, by rw [h2]; exact h, rfl, fun e => hb (.inr (.inr (by omega)))⟩
theorem ErrZ.none (lo : Nat) (w : World) : ErrZ lo w .nilIface (-9) 0 := ⟨by decide, .inl ⟨rfl, rfl⟩⟩
theorem ErrZ.below {lo : Nat} {w w' : World} {u : Value} {a : Int} {n N : Nat} (h : ErrZ lo w u a n) (hb : Below N w w') (hN : w.heap.size ≤ N) : ErrZ lo w' u a n := by
  obtain ⟨hn, h | ⟨k, hf, h⟩⟩ := h
  · exact ⟨hn, .inl h⟩
  · exact ⟨hn, .inr ⟨k, hf.below hb hN, h⟩⟩
theorem ErrZ.only {lo : Nat} {w w' : World} {u : Value} {a : Int} {n : Nat} {S : Nat → Prop} (h : ErrZ lo w u a n) (g : Only S w w') (hS : ∀ r, lo ≤ r → ¬ S r) : ErrZ lo w' u a n := by
  obtain ⟨hn, h | ⟨k, ⟨q, hq, e, hc⟩, h⟩⟩ := h
  · exact ⟨hn, .inl h⟩
  · exact ⟨hn, .inr ⟨k, ⟨q, hq, e, hc.only g (hS q hq)⟩, h⟩⟩
theorem entCells_set (ps : List Pr) (k : Nat) (q : Pr) (h : k < ps.length) : entCells (ps.set k q) = (entCells ps).take (k * 4) ++ (entCell q ++ (entCells ps).drop ((k + 1) * 4)) := by
  rw [List.set_eq_take_append_cons_drop, if_pos h, entCells_append, show entCells (q :: ps.drop (k + 1)) = entCell q ++ entCells (ps.drop (k + 1)) from rfl, entCells_take, entCells_drop]
theorem LA.replace {w : World} {lb g cap : Nat} {ps : List Pr} {nx : Int} {k : Nat} {p : Pr} {it : It} {x : Value} (h : LA w lb (.slice (some ⟨g, 0, none⟩) ps.length cap) ps nx) (hp : ps[k]? = some p) (hx : FldR w x it.fields) (hxb : it.fields ≠ [] → ∀ b, x.ownBlock = some b → b ≠ lb ∧ b ≠ g) :
    LA (((w.setCell ⟨g, k * 4, none⟩ (.int .i64 it.kind)).setCell ⟨g, k * 4 + 1, none⟩ (.string (B it.raw))).setCell ⟨g, k * 4 + 1 + 1, none⟩ x) lb (.slice (some ⟨g, 0, none⟩) ps.length cap) (ps.set k ((it, p.1.2), x)) nx ∧
      Only (· = g) w (((w.setCell ⟨g, k * 4, none⟩ (.int .i64 it.kind)).setCell ⟨g, k * 4 + 1, none⟩ (.string (B it.raw))).setCell ⟨g, k * 4 + 1 + 1, none⟩ x) := by
  have hk := (List.getElem?_eq_some_iff.1 hp).1
  have hgl : g ≠ lb := fun e => h.lr.row_ne (by rw [e]; rfl)
  have o : Only (· = g) w (((w.setCell ⟨g, k * 4, none⟩ (.int .i64 it.kind)).setCell ⟨g, k * 4 + 1, none⟩ (.string (B it.raw))).setCell ⟨g, k * 4 + 1 + 1, none⟩ x) :=
    (((Only.refl (· = g) w).cellS _ _).cellS _ _).cellS _ _
  obtain ⟨hl, h2⟩ := h.lr.ents.row
  obtain ⟨cur, hg, hle, hcm, hcs, htk⟩ : ∃ cur, Cells w g 111 cur ∧ ps.length ≤ cap ∧ cap ≤ maxLen ∧ cur.size = cap * 4 ∧ cur.toList.take (ps.length * 4) = entCells ps := by
    rcases h2 with ⟨q, _⟩ | ⟨g', cap', cur, q, a, b, c, d, e, f⟩
    · cases q
    · cases q; exact ⟨cur, b, c, d, e, f⟩
  have hat : ∀ j, j < ps.length * 4 → (entCells ps)[j]? = cur[j]? := fun j hj => by rw [← htk, List.getElem?_take, if_pos hj]; simp
  have C3 : Cells (((w.setCell ⟨g, k * 4, none⟩ (.int .i64 it.kind)).setCell ⟨g, k * 4 + 1, none⟩ (.string (B it.raw))).setCell ⟨g, k * 4 + 1 + 1, none⟩ x) g 111 (layV cur (k * 4) [.int .i64 it.kind, .string (B it.raw), x]) :=
    Cells.lay [.int .i64 it.kind, .string (B it.raw), x] (k * 4) hg
  have hid := entCells_at ps k p hp 3 (.int .i64 p.1.2) rfl
  refine ⟨⟨⟨h.lr.head.only o (fun e => hgl e.symm), ⟨?_, fun q hq => ?_⟩⟩, fun q hq hne b hb => ?_⟩, o⟩
  · rw [List.length_set, entCells_set ps k _ hk]
    have hll : ((entCells ps).take (k * 4) ++ (entCell ((it, p.1.2), x) ++ (entCells ps).drop ((k + 1) * 4))).length = ps.length * 4 := by
      rw [List.length_append, List.length_append, List.length_take, List.length_drop, hl]
      show _ + (4 + _) = _
      omega
    refine ⟨hll, .inr ⟨g, cap, _, rfl, Nat.zero_le _, C3, hle, hcm, by rw [layV_size, hcs], ?_⟩⟩
    apply List.ext_getElem?
    intro j
    rw [List.getElem?_take]
    split
    · rename_i hj
      rw [Array.getElem?_toList, layV_at _ _ _ _ (by rw [hcs]; simp only [List.length_cons, List.length_nil]; omega)]
      simp only [List.length_cons, List.length_nil]
      split
      · rename_i h3
        rw [List.getElem?_append_right (by rw [List.length_take, hl]; omega), List.length_take, hl, show min (k * 4) (ps.length * 4) = k * 4 by omega, List.getElem?_append_left (by show _ < 4; omega)]
        rcases (by omega : j - k * 4 = 0 ∨ j - k * 4 = 1 ∨ j - k * 4 = 2) with e | e | e <;> rw [e] <;> rfl
      · rename_i h3
        rw [← hat j hj]
        rcases Nat.lt_or_ge j (k * 4) with h4 | h4
        · rw [List.getElem?_append_left (by rw [List.length_take, hl]; omega), List.getElem?_take, if_pos h4]
        · rw [List.getElem?_append_right (by rw [List.length_take, hl]; omega), List.length_take, hl, show min (k * 4) (ps.length * 4) = k * 4 by omega]
          rcases Nat.lt_or_ge j (k * 4 + 4) with h5 | h5
          · have e : j = k * 4 + 3 := by omega
            subst e
            rw [show k * 4 + 3 - k * 4 = 3 by omega, hid]; rfl
          · rw [List.getElem?_append_right (by show 4 ≤ _; omega), List.getElem?_drop]
            show _ = (entCells ps)[(k + 1) * 4 + (j - k * 4 - 4)]?
            congr 1; omega
    · rename_i hj
      rw [List.getElem?_eq_none (by omega)]
  · rcases List.mem_or_eq_of_mem_set hq with hq | rfl
    · exact (h.lr.ents.each q hq).only o (fun hne b hb e => (h.apart q hq hne b hb).2 (by rw [e]; rfl))
    · exact hx.only o (fun hne b hb e => (hxb hne b hb).2 e)
  · rcases List.mem_or_eq_of_mem_set hq with hq | rfl
    · exact h.apart q hq hne b hb
    · obtain ⟨a1, a2⟩ := hxb hne b hb
      exact ⟨a1, fun e => a2 (Option.some.inj e).symm⟩
end Go.Proofs.Ytiebbgbcojgeoaa

namespace Go.Proofs.Ytiebbgbcojgeoaa
open Go.RowKit Go.Shelf
attribute [local go_sem] Oper.semAt_some errV_0

end Go.Proofs.Ytiebbgbcojgeoaa

