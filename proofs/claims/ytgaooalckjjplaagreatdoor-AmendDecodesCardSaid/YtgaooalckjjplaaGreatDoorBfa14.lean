/- Texts put together: UM, UN, UO, UP, UQ, UR, US, UT, NA, TO, NB, NC, RT, NR, ND. -/
import Derived.Deep.RegionHeld3
import Derived.StillTailTactics
import Derived.Test.YtgaooalckjjplaaGreatDoorBfa13
set_option linter.unusedVariables false
namespace Go.Proofs.YtgaooalckjjplaaGreatDoor
open Go.RowKit Go.Shelf
attribute [local go_sem] Oper.semAt_some errV_0

/-- What Of comes to. -/
def OfR (w : World) (t : List UInt8) (e : Ending) (w' : World) : Prop :=
  Below w.heap.size w w' ∧ match parseL t with
    | .error (a, n) => ∃ u, e = .returned (.tuple #[.pointer none, u]) ∧ FaultAt w.heap.size w' u a n
    | .ok its => ∃ lb ev ps, e = .returned (.tuple #[ptr lb, .nilIface]) ∧ w.heap.size ≤ lb ∧ (∀ b, ev.ownBlock = some b → w.heap.size ≤ b) ∧ LA w' lb ev ps (fromL its).next ∧ ps.map Prod.fst = (fromL its).es
theorem OfR.no {w w' : World} {t : List UInt8} {e : Ending} {a n : Nat} (h : OfR w t e w') (hp : parseL t = .error (a, n)) : Below w.heap.size w w' ∧ ∃ u, e = .returned (.tuple #[.pointer none, u]) ∧ FaultAt w.heap.size w' u a n := by
  obtain ⟨h1, h2⟩ := h
  rw [hp] at h2
  exact ⟨h1, h2⟩
theorem OfR.yes {w w' : World} {t : List UInt8} {e : Ending} {its : List It} (h : OfR w t e w') (hp : parseL t = .ok its) : Below w.heap.size w w' ∧ ∃ lb ev ps, e = .returned (.tuple #[ptr lb, .nilIface]) ∧ w.heap.size ≤ lb ∧ (∀ b, ev.ownBlock = some b → w.heap.size ≤ b) ∧ LA w' lb ev ps (fromL its).next ∧ ps.map Prod.fst = (fromL its).es := by
  obtain ⟨h1, h2⟩ := h
  rw [hp] at h2
  exact ⟨h1, h2⟩
/-- The entries so far, their row in new memory. -/
structure AccE (w wr : World) (lb : Nat) (ev : Value) (ps : List Pr) (nx : Int) : Prop where
  head : Cells wr lb 141 #[ev, .int .i64 (nx - 1)]
  row : wr.ownsRow w.heap.size 102 4 ev ps.length (entCells ps)
  each : ∀ p ∈ ps, FldR w p.2 p.1.1.fields
  below : Below w.heap.size w wr
  lb : w.heap.size ≤ lb
theorem AccE.la {w wr : World} {lb : Nat} {ev : Value} {ps : List Pr} {nx : Int} (h : AccE w wr lb ev ps nx) : LA wr lb ev ps nx :=
  ⟨⟨h.head, ⟨rowBase h.row (Nat.zero_le _), fun p hp => (h.each p hp).below h.below (Nat.le_refl _)⟩⟩, fun p hp hne b hb => by
    have h1 := (h.each p hp).1.lt hne b hb
    refine ⟨by have := h.lb; omega, fun e => ?_⟩
    have := (h.row.lt b e).1
    omega⟩
theorem AccE.ne {w wr : World} {lb : Nat} {ev : Value} {ps : List Pr} {nx : Int} (h : AccE w wr lb ev ps nx) : ev.ownBlock ≠ some lb := h.la.lr.row_ne
theorem AccE.alloc {w wr : World} {lb : Nat} {ev : Value} {ps : List Pr} {nx : Int} (h : AccE w wr lb ev ps nx) (o : Obj) : AccE w (wr.alloc o) lb ev ps nx :=
  ⟨h.head.alloc o, h.row.alloc o, h.each, h.below.alloc h.below.size o, h.lb⟩
theorem AccE.snoc {w wa w5 w6 : World} {lb : Nat} {ev v' : Value} {ps : List Pr} {nx nx' : Int} {p : Pr} (h : AccE w wa lb ev ps nx) (h5 : Cells w5 lb 141 #[ev, .int .i64 (nx' - 1)]) (o5 : Only (· = lb) wa w5) (hp : FldR w p.2 p.1.1.fields)
    (ho : w6.ownsRow 0 102 4 v' (ps.length + 1) (entCells ps ++ entCell p)) (h6 : Cells w6 lb 141 #[ev, .int .i64 (nx' - 1)]) (hk : v'.ownBlock = ev.ownBlock ∨ ∃ k, v'.ownBlock = some k ∧ w5.heap.size ≤ k ∧ k < w6.heap.size) (o6 : Only (fun r => some r = ev.ownBlock) w5 w6) :
    AccE w (w6.setCell ⟨lb, 0, none⟩ v') lb v' (ps ++ [p]) nx' := by
  have hne : v'.ownBlock ≠ some lb := by
    intro e
    rcases hk with hk | ⟨k, hk, h1, _⟩
    · rw [hk] at e; exact h.ne e
    · rw [hk] at e
      have : k = lb := Option.some.inj e
      have := h5.lt
      omega
  have hz := h.below.size
  have hz5 := o5.size
  have hrow : w6.ownsRow w.heap.size 102 4 v' (ps.length + 1) (entCells ps ++ entCell p) := by
    rcases ho.2 with ⟨q, _⟩ | ⟨g2, cap2, cur2, q, _, rest⟩
    · exact ⟨ho.1, .inl ⟨q, by omega⟩⟩
    · refine ⟨ho.1, .inr ⟨g2, cap2, cur2, q, ?_, rest⟩⟩
      rcases hk with hk | ⟨k, hk, h1, _⟩
      · exact (h.row.lt g2 (by rw [← hk, q]; rfl)).1
      · rw [q] at hk
        have : g2 = k := Option.some.inj hk
        omega
  refine ⟨?_, ?_, ?_, ?_, h.lb⟩
  · have := h6.set 0 v'
    simpa [List.setIfInBounds_toArray, List.set] using this
  · rw [List.length_append, entCells_snoc]
    exact row_cell hrow hne _
  · intro q hq
    rcases List.mem_append.1 hq with hq | hq
    · exact h.each q hq
    · rw [List.mem_singleton.1 hq]; exact hp
  · have b5 : Below w.heap.size w w5 := h.below.trans (o5.to_below hz (fun r hr e => by have := h.lb; omega))
    have b6 : Below w.heap.size w5 w6 := o6.to_below (by omega) (fun r hr e => by
      have := (h.row.lt r e.symm).1
      omega)
    exact (b5.trans b6).setCell (p := ⟨lb, 0, none⟩) h.lb _
end Go.Proofs.YtgaooalckjjplaaGreatDoor

namespace Go.Proofs.YtgaooalckjjplaaGreatDoor
open Go.RowKit Go.Shelf
attribute [local go_sem] Oper.semAt_some errV_0

/-- An error's number, and the place. -/
def ErrZ (lo : Nat) (w : World) (u : Value) (a : Int) (n : Nat) : Prop := n ≤ 11 ∧ ((u = errV n ∧ a = -9) ∨ ∃ k : Nat, FaultAt lo w u k n ∧ a = k ∧ n ≠ 0)
theorem ErrZ.of {lo : Nat} {w : World} {u : Value} {fs : List Fld} (h : ChkV lo w u fs) : ErrZ lo w u (chkAt fs) (chkN fs) := by
  unfold ChkV at h
  unfold chkAt
  refine ⟨chkN_le fs, ?_⟩
  split at h
  · rename_i hb
    rw [if_pos hb]; exact .inl ⟨h, rfl⟩
  · rename_i hb
    rw [if_neg hb]
    have h2 : chkN fs = foldN fs := by
      unfold bare at hb
      unfold chkN
      rw [if_neg (fun e => hb (.inl e)), if_neg (fun e => hb (.inr (.inl e)))]
    refine .inr ⟨_, by rw [h2]; exact h, rfl, fun e => hb (.inr (.inr (by omega)))⟩
theorem ErrZ.none (lo : Nat) (w : World) : ErrZ lo w .nilIface (-9) 0 := ⟨by decide, .inl ⟨rfl, rfl⟩⟩
theorem ErrZ.err (lo : Nat) (w : World) (n : Nat) (h : n ≤ 11) : ErrZ lo w (errV n) (-9) n := ⟨h, .inl ⟨rfl, rfl⟩⟩
theorem ErrZ.below {lo : Nat} {w w' : World} {u : Value} {a : Int} {n N : Nat} (h : ErrZ lo w u a n) (hb : Below N w w') (hN : w.heap.size ≤ N) : ErrZ lo w' u a n := by
  obtain ⟨hn, h | ⟨k, hf, h⟩⟩ := h
  · exact ⟨hn, .inl h⟩
  · exact ⟨hn, .inr ⟨k, hf.below hb hN, h⟩⟩
theorem ErrZ.only {lo : Nat} {w w' : World} {u : Value} {a : Int} {n : Nat} {S : Nat → Prop} (h : ErrZ lo w u a n) (g : Only S w w') (hS : ∀ r, lo ≤ r → ¬ S r) : ErrZ lo w' u a n := by
  obtain ⟨hn, h | ⟨k, ⟨q, hq, e, hc⟩, h⟩⟩ := h
  · exact ⟨hn, .inl h⟩
  · exact ⟨hn, .inr ⟨k, ⟨q, hq, e, hc.only g (hS q hq)⟩, h⟩⟩
/-- What an edit leaves of a list in memory: u is the error. -/
structure WrR (w : World) (lb : Nat) (ev : Value) (ps : List Pr) (d : Did) (u : Value) (w' : World) (ev' : Value) (ps' : List Pr) : Prop where
  la : LA w' lb ev' ps' d.ls.next
  es : ps'.map Prod.fst = d.ls.es
  only : Only (fun r => r = lb ∨ ev.ownBlock = some r) w w'
  blk : ev'.ownBlock = ev.ownBlock ∨ ∃ b, ev'.ownBlock = some b ∧ w.heap.size ≤ b
  err : ErrZ w.heap.size w' u d.at_ d.bad
  mem : ∀ p ∈ ps', p ∈ ps ∨ ∀ b, p.2.ownBlock = some b → w.heap.size ≤ b
theorem entCells_set (ps : List Pr) (k : Nat) (q : Pr) (h : k < ps.length) : entCells (ps.set k q) = (entCells ps).take (k * 4) ++ (entCell q ++ (entCells ps).drop ((k + 1) * 4)) := by
  rw [List.set_eq_take_append_cons_drop, if_pos h, entCells_append, show entCells (q :: ps.drop (k + 1)) = entCell q ++ entCells (ps.drop (k + 1)) from rfl, entCells_take, entCells_drop]
/-- Fields are held to what is asked of them. -/
structure Fine7 (fs : List Fld) : Prop where
  len : fs.length ≤ 1000
  each : ∀ f ∈ fs, f.1.length ≤ 100000 ∧ f.2.length ≤ 100000
theorem LA.replace {w : World} {lb g cap : Nat} {ps : List Pr} {nx : Int} {k : Nat} {p : Pr} {it : It} {x : Value} (h : LA w lb (.slice (some ⟨g, 0, none⟩) ps.length cap) ps nx) (hp : ps[k]? = some p) (hx : FldR w x it.fields) (hxb : it.fields ≠ [] → ∀ b, x.ownBlock = some b → b ≠ lb ∧ b ≠ g) :
    LA (((w.setCell ⟨g, k * 4, none⟩ (.int .i64 it.kind)).setCell ⟨g, k * 4 + 1, none⟩ (.string (B it.raw))).setCell ⟨g, k * 4 + 1 + 1, none⟩ x) lb (.slice (some ⟨g, 0, none⟩) ps.length cap) (ps.set k ((it, p.1.2), x)) nx ∧
      Only (· = g) w (((w.setCell ⟨g, k * 4, none⟩ (.int .i64 it.kind)).setCell ⟨g, k * 4 + 1, none⟩ (.string (B it.raw))).setCell ⟨g, k * 4 + 1 + 1, none⟩ x) := by
  have hk := (List.getElem?_eq_some_iff.1 hp).1
  have hgl : g ≠ lb := fun e => h.lr.row_ne (by rw [e]; rfl)
  have o : Only (· = g) w (((w.setCell ⟨g, k * 4, none⟩ (.int .i64 it.kind)).setCell ⟨g, k * 4 + 1, none⟩ (.string (B it.raw))).setCell ⟨g, k * 4 + 1 + 1, none⟩ x) :=
    (((Only.refl (· = g) w).cellS _ _).cellS _ _).cellS _ _
  obtain ⟨hl, h2⟩ := h.lr.ents.row
  obtain ⟨cur, hg, hle, hcm, hcs, htk⟩ : ∃ cur, Cells w g 102 cur ∧ ps.length ≤ cap ∧ cap ≤ maxLen ∧ cur.size = cap * 4 ∧ cur.toList.take (ps.length * 4) = entCells ps := by
    rcases h2 with ⟨q, _⟩ | ⟨g', cap', cur, q, a, b, c, d, e, f⟩
    · cases q
    · cases q; exact ⟨cur, b, c, d, e, f⟩
  have hat : ∀ j, j < ps.length * 4 → (entCells ps)[j]? = cur[j]? := fun j hj => by rw [← htk, List.getElem?_take, if_pos hj]; simp
  have C3 : Cells (((w.setCell ⟨g, k * 4, none⟩ (.int .i64 it.kind)).setCell ⟨g, k * 4 + 1, none⟩ (.string (B it.raw))).setCell ⟨g, k * 4 + 1 + 1, none⟩ x) g 102 (layV cur (k * 4) [.int .i64 it.kind, .string (B it.raw), x]) :=
    Cells.lay [.int .i64 it.kind, .string (B it.raw), x] (k * 4) hg
  have hid := entCells_at ps k p hp 3 (.int .i64 p.1.2) rfl
  refine ⟨⟨⟨h.lr.head.only o (fun e => hgl e.symm), ⟨?_, fun q hq => ?_⟩⟩, fun q hq hne b hb => ?_⟩, o⟩
  · rw [List.length_set, entCells_set ps k _ hk]
    have hll : ((entCells ps).take (k * 4) ++ (entCell ((it, p.1.2), x) ++ (entCells ps).drop ((k + 1) * 4))).length = ps.length * 4 := by
      rw [List.length_append, List.length_append, List.length_take, List.length_drop, hl]
      show _ + (4 + _) = _
      omega
    refine ⟨hll, .inr ⟨g, cap, _, rfl, Nat.zero_le _, C3, hle, hcm, by rw [layV_size, hcs], ?_⟩⟩
    apply List.ext_getElem?
    intro j
    rw [List.getElem?_take]
    split
    · rename_i hj
      rw [Array.getElem?_toList, layV_at _ _ _ _ (by rw [hcs]; simp only [List.length_cons, List.length_nil]; omega)]
      simp only [List.length_cons, List.length_nil]
      split
      · rename_i h3
        rw [List.getElem?_append_right (by rw [List.length_take, hl]; omega), List.length_take, hl, show min (k * 4) (ps.length * 4) = k * 4 by omega, List.getElem?_append_left (by show _ < 4; omega)]
        rcases (by omega : j - k * 4 = 0 ∨ j - k * 4 = 1 ∨ j - k * 4 = 2) with e | e | e <;> rw [e] <;> rfl
      · rename_i h3
        rw [← hat j hj]
        rcases Nat.lt_or_ge j (k * 4) with h4 | h4
        · rw [List.getElem?_append_left (by rw [List.length_take, hl]; omega), List.getElem?_take, if_pos h4]
        · rw [List.getElem?_append_right (by rw [List.length_take, hl]; omega), List.length_take, hl, show min (k * 4) (ps.length * 4) = k * 4 by omega]
          rcases Nat.lt_or_ge j (k * 4 + 4) with h5 | h5
          · have e : j = k * 4 + 3 := by omega
            subst e
            rw [show k * 4 + 3 - k * 4 = 3 by omega, hid]; rfl
          · rw [List.getElem?_append_right (by show 4 ≤ _; omega), List.getElem?_drop]
            show _ = (entCells ps)[(k + 1) * 4 + (j - k * 4 - 4)]?
            congr 1; omega
    · rename_i hj
      rw [List.getElem?_eq_none (by omega)]
  · rcases List.mem_or_eq_of_mem_set hq with hq | rfl
    · exact (h.lr.ents.each q hq).only o (fun hne b hb e => (h.apart q hq hne b hb).2 (by rw [e]; rfl))
    · exact hx.only o (fun hne b hb e => (hxb hne b hb).2 e)
  · rcases List.mem_or_eq_of_mem_set hq with hq | rfl
    · exact h.apart q hq hne b hb
    · obtain ⟨a1, a2⟩ := hxb hne b hb
      exact ⟨a1, fun e => a2 (Option.some.inj e).symm⟩
end Go.Proofs.YtgaooalckjjplaaGreatDoor

namespace Go.Proofs.YtgaooalckjjplaaGreatDoor
open Go.RowKit Go.Shelf
attribute [local go_sem] Oper.semAt_some errV_0

/-- The list behind an Insert into its row. -/
theorem LA.insert {w w1 w2 w' : World} {lb : Nat} {ev v' : Value} {ps : List Pr} {nx nx' : Int} {k : Nat} {q : Pr} {lo : Nat} (h : LA w1 lb ev ps nx) (hb1 : Below w.heap.size w w1) (hlb : lb < w.heap.size) (hevb : ∀ b, ev.ownBlock = some b → b < w.heap.size) (hk : k ≤ ps.length)
    (h2 : Cells w2 lb 141 #[ev, .int .i64 (nx' - 1)]) (o12 : Only (· = lb) w1 w2)
    (hq : FldR w2 q.2 q.1.1.fields) (hqb : q.1.1.fields ≠ [] → ∀ b, q.2.ownBlock = some b → w.heap.size ≤ b ∧ b < w2.heap.size)
    (hr : w'.ownsRow lo 102 4 v' (ps.length + 1) ((entCells ps).take (k * 4) ++ (entCell q ++ (entCells ps).drop (k * 4)))) (ho : Only (fun r => ev.ownBlock = some r) w2 w') (hbk : v'.ownBlock = ev.ownBlock ∨ ∃ b, v'.ownBlock = some b ∧ w2.heap.size ≤ b) :
    LA (w'.setCell ⟨lb, 0, none⟩ v') lb v' (ps.take k ++ q :: ps.drop k) nx' ∧ Only (fun r => r = lb ∨ ev.ownBlock = some r) w (w'.setCell ⟨lb, 0, none⟩ v') ∧ (v'.ownBlock = ev.ownBlock ∨ ∃ b, v'.ownBlock = some b ∧ w.heap.size ≤ b) := by
  have hevl := h.lr.row_ne
  have hz1 := hb1.size
  have hz2 := o12.size
  have hne : v'.ownBlock ≠ some lb := by
    rcases hbk with e | ⟨b, e, hb⟩
    · rw [e]; exact hevl
    · rw [e]; intro q; have : b = lb := Option.some.inj q; omega
  have o2 : Only (fun r => r = lb ∨ ev.ownBlock = some r) w1 w' := (o12.mono (fun r _ e => .inl e)).trans ho (fun r _ e => .inr e)
  have o3 : Only (fun r => r = lb ∨ ev.ownBlock = some r) w1 (w'.setCell ⟨lb, 0, none⟩ v') := o2.setCell (p := ⟨lb, 0, none⟩) (.inl (.inl rfl)) _
  have hl' : Cells w' lb 141 #[ev, .int .i64 (nx' - 1)] := h2.only ho hevl
  have hmem : ∀ y ∈ ps.take k ++ q :: ps.drop k, y ∈ ps ∨ y = q := fun y hy => by
    rcases List.mem_append.1 hy with a | a
    · exact .inl (List.mem_of_mem_take a)
    · rcases List.mem_cons.1 a with a | a
      · exact .inr a
      · exact .inl (List.mem_of_mem_drop a)
  have hqn : q.1.1.fields ≠ [] → ∀ b, q.2.ownBlock = some b → b ≠ lb ∧ ev.ownBlock ≠ some b ∧ v'.ownBlock ≠ some b := fun hn b hb => by
    obtain ⟨a1, a2⟩ := hqb hn b hb
    have a3 : ev.ownBlock ≠ some b := fun e => by have := hevb b e; omega
    refine ⟨by omega, a3, ?_⟩
    rcases hbk with e | ⟨b', e, hb'⟩
    · rw [e]; exact a3
    · rw [e]; intro q; have : b' = b := Option.some.inj q; omega
  refine ⟨⟨⟨?_, ⟨?_, ?_⟩⟩, ?_⟩, (Only.of_below hb1 (Nat.le_refl _)).trans o3 (fun r _ e => e), ?_⟩
  · have := hl'.set 0 v'
    simpa [List.setIfInBounds_toArray, List.set] using this
  · have hlen : (ps.take k ++ q :: ps.drop k).length = ps.length + 1 := by rw [List.length_append, List.length_cons, List.length_take, List.length_drop]; omega
    rw [hlen, entCells_append, show entCells (q :: ps.drop k) = entCell q ++ entCells (ps.drop k) from rfl, entCells_take, entCells_drop]
    exact row_cell (p := ⟨lb, 0, none⟩) (rowBase hr (Nat.zero_le _)) hne _
  · intro y hy
    rcases hmem y hy with hy | rfl
    · refine (h.lr.ents.each y hy).only o3 (fun hn b hb e => ?_)
      obtain ⟨a1, a2⟩ := h.apart y hy hn b hb
      rcases e with e | e
      · exact a1 e
      · exact a2 e
    · refine hq.only ((ho.mono (S' := fun r => r = lb ∨ ev.ownBlock = some r) (fun r _ e => .inr e)).setCell (p := ⟨lb, 0, none⟩) (.inl (.inl rfl)) v') (fun hn b hb e => ?_)
      obtain ⟨a1, a2, _⟩ := hqn hn b hb
      rcases e with e | e
      · exact a1 e
      · exact a2 e
  · intro y hy hn b hb
    rcases hmem y hy with hy | rfl
    · obtain ⟨a1, a2⟩ := h.apart y hy hn b hb
      refine ⟨a1, ?_⟩
      have hb1' := (h.lr.ents.each y hy).1.lt hn b hb
      rcases hbk with e | ⟨b', e, hb'⟩
      · rw [e]; exact a2
      · rw [e]; intro q; have : b' = b := Option.some.inj q; omega
    · obtain ⟨a1, _, a3⟩ := hqn hn b hb
      exact ⟨a1, a3⟩
  · rcases hbk with e | ⟨b, e, hb⟩
    · exact .inl e
    · exact .inr ⟨b, e, by omega⟩
end Go.Proofs.YtgaooalckjjplaaGreatDoor

namespace Go.Proofs.YtgaooalckjjplaaGreatDoor
open Go.RowKit Go.Shelf
attribute [local go_sem] Oper.semAt_some errV_0

/-- The copy so far. -/
structure AccC (w wr : World) (lb : Nat) (ev : Value) (ps : List Pr) (nx : Int) : Prop where
  head : Cells wr lb 141 #[ev, .int .i64 (nx - 1)]
  row : wr.ownsRow w.heap.size 102 4 ev ps.length (entCells ps)
  each : ∀ p ∈ ps, wr.ownsRow w.heap.size 66 2 p.2 p.1.1.fields.length (cellsF p.1.1.fields)
  below : Below w.heap.size w wr
  lb : w.heap.size ≤ lb
theorem own_cells_ne {W : World} {lo n b : Nat} {t u : TypeId} {sz : Nat} {v : Value} {xs : List Value} {cs : Array Value} (h : W.ownsRow lo t sz v n xs) (hc : Cells W b u cs) (ht : t ≠ u) : v.ownBlock ≠ some b := by
  intro e
  rcases h.2 with ⟨q, _⟩ | ⟨g, cap, cur, q, _, hg, _⟩
  · rw [q] at e; cases e
  · rw [q] at e
    have : g = b := Option.some.inj e
    subst this
    have := hg.symm.trans hc
    injection this with this
    injection this with _ h2 _
    exact ht h2
theorem own_own_ne {W : World} {lo lo' n m : Nat} {t u : TypeId} {sz sz' : Nat} {v x : Value} {xs ys : List Value} (h : W.ownsRow lo t sz v n xs) (g : W.ownsRow lo' u sz' x m ys) (ht : t ≠ u) : ∀ b, v.ownBlock = some b → x.ownBlock ≠ some b := by
  intro b hb
  rcases h.2 with ⟨q, _⟩ | ⟨g', cap, cur, q, _, hg, _⟩
  · rw [q] at hb; cases hb
  · rw [q] at hb
    obtain rfl : g' = b := Option.some.inj hb
    exact own_cells_ne g hg (fun e => ht e.symm)
theorem AccC.la {w wr : World} {lb : Nat} {ev : Value} {ps : List Pr} {nx : Int} (h : AccC w wr lb ev ps nx) : LA wr lb ev ps nx :=
  ⟨⟨h.head, ⟨rowBase h.row (Nat.zero_le _), fun p hp => FldR.own (h.each p hp)⟩⟩, fun p hp _ b hb =>
    ⟨fun e => own_cells_ne (h.each p hp) h.head (by decide) (by rw [← e]; exact hb), own_own_ne (h.each p hp) h.row (by decide) b hb⟩⟩
theorem AccC.snoc {w w5 w6 : World} {lb : Nat} {ev v' : Value} {ps : List Pr} {nx : Int} {p : Pr} (h : AccC w w5 lb ev ps nx) (hp : w5.ownsRow w.heap.size 66 2 p.2 p.1.1.fields.length (cellsF p.1.1.fields))
    (ho : w6.ownsRow 0 102 4 v' (ps.length + 1) (entCells ps ++ entCell p)) (h6 : Cells w6 lb 141 #[ev, .int .i64 (nx - 1)]) (hk : v'.ownBlock = ev.ownBlock ∨ ∃ k, v'.ownBlock = some k ∧ w5.heap.size ≤ k ∧ k < w6.heap.size) (o6 : Only (fun r => some r = ev.ownBlock) w5 w6) :
    AccC w (w6.setCell ⟨lb, 0, none⟩ v') lb v' (ps ++ [p]) nx := by
  have hne : v'.ownBlock ≠ some lb := own_cells_ne ho h6 (by decide)
  have hz := h.below.size
  have hrow : w6.ownsRow w.heap.size 102 4 v' (ps.length + 1) (entCells ps ++ entCell p) := by
    rcases ho.2 with ⟨q, _⟩ | ⟨g2, cap2, cur2, q, _, rest⟩
    · exact ⟨ho.1, .inl ⟨q, by omega⟩⟩
    · refine ⟨ho.1, .inr ⟨g2, cap2, cur2, q, ?_, rest⟩⟩
      rcases hk with hk | ⟨k, hk, h1, _⟩
      · exact (h.row.lt g2 (by rw [← hk, q]; rfl)).1
      · rw [q] at hk
        have : g2 = k := Option.some.inj hk
        omega
  have keep : ∀ {x : Value} {m : Nat} {ys : List Value}, w5.ownsRow w.heap.size 66 2 x m ys → (w6.setCell ⟨lb, 0, none⟩ v').ownsRow w.heap.size 66 2 x m ys := fun hx =>
    have h6x := row_only hx o6 (fun b hb e => own_own_ne hx h.row (by decide) b hb e.symm)
    row_cell (p := ⟨lb, 0, none⟩) h6x (own_cells_ne h6x h6 (by decide)) _
  refine ⟨?_, ?_, ?_, ?_, h.lb⟩
  · have := h6.set 0 v'
    simpa [List.setIfInBounds_toArray, List.set] using this
  · rw [List.length_append, entCells_snoc]
    exact row_cell (p := ⟨lb, 0, none⟩) hrow hne _
  · intro q hq
    rcases List.mem_append.1 hq with hq | hq
    · exact keep (h.each q hq)
    · rw [List.mem_singleton.1 hq]; exact keep hp
  · have b6 : Below w.heap.size w5 w6 := o6.to_below hz (fun r hr e => by
      have := (h.row.lt r e.symm).1
      omega)
    exact (h.below.trans b6).setCell (p := ⟨lb, 0, none⟩) h.lb _
end Go.Proofs.YtgaooalckjjplaaGreatDoor

namespace Go.Proofs.YtgaooalckjjplaaGreatDoor
open Go.RowKit Go.Shelf

/-- The document's entries, readable. -/
structure EntsQ (w : World) (v : Value) (ps : List Pr) : Prop where
  row : w.ownsRow 0 146 4 v ps.length (entCells ps)
  each : ∀ p ∈ ps, Flds w p.2 p.1.1.fields
theorem EntsQ.below {w w' : World} {v : Value} {ps : List Pr} {n : Nat} (h : EntsQ w v ps) (hb : Below n w w') (hn : w.heap.size ≤ n) : EntsQ w' v ps :=
  ⟨own_kept h.row hb hn, fun p hp => (h.each p hp).below hb hn⟩
theorem EntsQ.here {w : World} {v : Value} {ps : List Pr} (h : EntsQ w v ps) {i : Nat} {p : Pr} (hi : ps[i]? = some p) : ∃ g cap A c, v = .slice (some ⟨g, 0, none⟩) ps.length cap ∧ ps.length ≤ cap ∧ g < w.heap.size ∧ p.2 = .slice A p.1.1.fields.length c ∧
    w.cell? ⟨g, i * 4, none⟩ = some (.int .i64 p.1.1.kind) ∧ w.cell? ⟨g, i * 4 + 1, none⟩ = some (.string (B p.1.1.raw)) ∧ w.cell? ⟨g, i * 4 + 1 + 1, none⟩ = some p.2 ∧ w.cell? ⟨g, i * 4 + 1 + 1 + 1, none⟩ = some (.int .i64 p.1.2) := by
  have hlt : i < ps.length := (List.getElem?_eq_some_iff.1 hi).1
  obtain ⟨A, c, hA, _⟩ := h.each p (List.mem_of_getElem? hi)
  have hr := h.row
  rcases h.row.2 with ⟨_, hn⟩ | ⟨g, cap, cur, e, _, hg, hle, _⟩
  · omega
  · rw [e] at hr
    have at_ := entCells_at ps i p hi
    refine ⟨g, cap, A, c, e, hle, (World.ownsRow.lt hr g rfl).2, hA, ?_, ?_, ?_, ?_⟩
    · rw [World.ownsRow.cellAt hr (i * 4) (by omega)]; exact at_ 0 _ rfl
    · rw [World.ownsRow.cellAt hr (i * 4 + 1) (by omega)]; exact at_ 1 _ rfl
    · rw [World.ownsRow.cellAt hr (i * 4 + 1 + 1) (by omega)]; exact at_ 2 _ rfl
    · rw [World.ownsRow.cellAt hr (i * 4 + 1 + 1 + 1) (by omega)]; exact at_ 3 _ rfl
theorem EntsQ.empty {w : World} {v : Value} {ps : List Pr} (h : EntsQ w v ps) : ∃ A cap, v = .slice A ps.length cap ∧ ps.length ≤ cap := by
  rcases h.row.2 with ⟨e, hn⟩ | ⟨g, cap, cur, e, _, hg, hle, _⟩
  · exact ⟨none, 0, by rw [e, hn], by omega⟩
  · exact ⟨_, cap, e, hle⟩
theorem entsQ_none (w : World) : EntsQ w (.slice none 0 0) [] := ⟨⟨rfl, .inl ⟨rfl, rfl⟩⟩, fun p h => by cases h⟩
end Go.Proofs.YtgaooalckjjplaaGreatDoor

namespace Go.Proofs.YtgaooalckjjplaaGreatDoor
open Go.RowKit Go.Shelf
attribute [local go_sem] Oper.semAt_some

/-- The document's list as it is made: its box, its row in new memory. -/
structure AccQ (w wr : World) (ob : Nat) (v : Value) (ps : List Pr) (nx : Int) : Prop where
  head : Cells wr ob 28 #[v, .int .i64 nx]
  row : wr.ownsRow w.heap.size 146 4 v ps.length (entCells ps)
  below : Below w.heap.size w wr
  lo : w.heap.size ≤ ob
theorem AccQ.ne {w wr : World} {ob : Nat} {v : Value} {ps : List Pr} {nx : Int} (h : AccQ w wr ob v ps nx) : v.ownBlock ≠ some ob :=
  own_cells_ne h.row h.head (by decide)
theorem AccQ.alloc {w wr : World} {ob : Nat} {v : Value} {ps : List Pr} {nx : Int} (h : AccQ w wr ob v ps nx) (o : Obj) : AccQ w (wr.alloc o) ob v ps nx :=
  ⟨h.head.alloc o, h.row.alloc o, h.below.alloc h.below.size o, h.lo⟩
theorem AccQ.drew {w wr : World} {ob : Nat} {v : Value} {ps : List Pr} {nx : Int} (h : AccQ w wr ob v ps nx) : AccQ w wr.drew ob v ps nx := ⟨h.head.drew, h.row, h.below.drew, h.lo⟩
theorem AccQ.kept {w wr w2 : World} {ob : Nat} {v : Value} {ps : List Pr} {nx : Int} (h : AccQ w wr ob v ps nx) (hb : Below wr.heap.size wr w2) : AccQ w w2 ob v ps nx :=
  ⟨cells_kept h.head hb h.head.lt, own_kept h.row hb (Nat.le_refl _), h.below.trans (hb.mono h.below.size), h.lo⟩
theorem AccQ.snoc {w wa w6 : World} {ob : Nat} {v v' : Value} {ps : List Pr} {nx : Int} {p : Pr} (h : AccQ w wa ob v ps nx)
    (ho : w6.ownsRow 0 146 4 v' (ps.length + 1) (entCells ps ++ entCell p)) (h6 : Cells w6 ob 28 #[v, .int .i64 nx]) (hk : v'.ownBlock = v.ownBlock ∨ ∃ k, v'.ownBlock = some k ∧ wa.heap.size ≤ k ∧ k < w6.heap.size) (o6 : Only (fun r => some r = v.ownBlock) wa w6) :
    AccQ w (w6.setCell ⟨ob, 0, none⟩ v') ob v' (ps ++ [p]) nx := by
  have hne : v'.ownBlock ≠ some ob := by
    intro e
    rcases hk with hk | ⟨k, hk, h1, _⟩
    · rw [hk] at e; exact h.ne e
    · rw [hk] at e
      have : k = ob := Option.some.inj e
      have := h.head.lt
      omega
  have hz := h.below.size
  have hrow : w6.ownsRow w.heap.size 146 4 v' (ps.length + 1) (entCells ps ++ entCell p) := by
    rcases ho.2 with ⟨q, _⟩ | ⟨g2, cap2, cur2, q, _, rest⟩
    · exact ⟨ho.1, .inl ⟨q, by omega⟩⟩
    · refine ⟨ho.1, .inr ⟨g2, cap2, cur2, q, ?_, rest⟩⟩
      rcases hk with hk | ⟨k, hk, h1, _⟩
      · exact (h.row.lt g2 (by rw [← hk, q]; rfl)).1
      · rw [q] at hk
        have : g2 = k := Option.some.inj hk
        omega
  refine ⟨?_, ?_, ?_, h.lo⟩
  · have := h6.set 0 v'
    simpa [List.setIfInBounds_toArray, List.set] using this
  · rw [List.length_append, entCells_snoc]
    exact row_cell hrow hne _
  · have b6 : Below w.heap.size wa w6 := o6.to_below hz (fun r hr e => by
      have := (h.row.lt r e.symm).1
      omega)
    exact (h.below.trans b6).setCell (p := ⟨ob, 0, none⟩) h.lo _
theorem AccQ.grown_head {w wa w6 : World} {ob : Nat} {v : Value} {ps : List Pr} {nx : Int} (h : AccQ w wa ob v ps nx) (hg : wa.grownBy w6 v.ownBlock) : Cells w6 ob 28 #[v, .int .i64 nx] :=
  (hg.block ob h.head.lt (fun e => h.ne e.symm)).trans h.head
theorem AccQ.grow {w wa w6 : World} {ob : Nat} {v v' : Value} {ps : List Pr} {nx : Int} {p : Pr} (h : AccQ w wa ob v ps nx)
    (ho : w6.ownsRow w.heap.size 146 4 v' (ps.length + 1) (entCells ps ++ entCell p)) (hg : wa.grownBy w6 v.ownBlock) :
    AccQ w (w6.setCell ⟨ob, 0, none⟩ v') ob v' (ps ++ [p]) nx := by
  have h6 := h.grown_head hg
  refine ⟨?_, ?_, ?_, h.lo⟩
  · have := h6.set 0 v'
    simpa [List.setIfInBounds_toArray, List.set] using this
  · rw [List.length_append, entCells_snoc]
    exact row_cell ho (own_cells_ne ho h6 (by decide)) _
  · exact (h.below.grown hg h.below.size (fun k e => (h.row.lt k e).1)).setCell (p := ⟨ob, 0, none⟩) h.lo _
theorem AccQ.other {w wr : World} {ob : Nat} {v : Value} {ps : List Pr} {nx : Int} (h : AccQ w wr ob v ps nx) {b : Nat} (i : Nat) (u : Value) (hb : w.heap.size ≤ b) (h1 : b ≠ ob) (h2 : ∀ r, v.ownBlock = some r → r ≠ b) : AccQ w (wr.setCell ⟨b, i, none⟩ u) ob v ps nx :=
  ⟨h.head.other (p := ⟨b, i, none⟩) (fun e => h1 e.symm) u, row_cell h.row (fun e => h2 b e rfl) u, h.below.setCell (p := ⟨b, i, none⟩) hb u, h.lo⟩
/-- The document's list behind an edit: where its blocks lie. x: the fields that came in. -/
structure WrQ (w : World) (v : Value) (ps : List Pr) (x : Value) (es : List En) (w' : World) (v' : Value) (ps' : List Pr) : Prop where
  ents : EntsQ w' v' ps'
  es : ps'.map Prod.fst = es
  below : Below w.heap.size w w'
  blk : v' = v ∨ ∀ b, v'.ownBlock = some b → w.heap.size ≤ b
  mem : ∀ p ∈ ps', p ∈ ps ∨ p.2 = x
theorem WrQ.same {w w' : World} {v : Value} {ps : List Pr} {x : Value} {es : List En} (h : EntsQ w v ps) (he : ps.map Prod.fst = es) (hb : Below w.heap.size w w') : WrQ w v ps x es w' v ps :=
  ⟨h.below hb (Nat.le_refl _), he, hb, .inl rfl, fun p hp => .inl hp⟩
theorem AccQ.done {w wr : World} {ob : Nat} {v v' : Value} {ps ps' : List Pr} {nx : Int} {x : Value} {fs : List Fld} {es : List En} (h : AccQ w wr ob v' ps' nx) (hq : EntsQ w v ps) (hx : Flds w x fs) (he : ps'.map Prod.fst = es) (hm : ∀ p ∈ ps', p ∈ ps ∨ (p.2 = x ∧ p.1.1.fields = fs)) : WrQ w v ps x es wr v' ps' := by
  refine ⟨⟨rowBase h.row (Nat.zero_le _), fun p hp => ?_⟩, he, h.below, .inr fun b hb => (h.row.lt b hb).1, fun p hp => (hm p hp).imp id (·.1)⟩
  rcases hm p hp with q | ⟨q1, q2⟩
  · exact (hq.each p q).below h.below (Nat.le_refl _)
  · rw [q1, q2]; exact hx.below h.below (Nat.le_refl _)
theorem AccQ.end_ {w w1 wr : World} {ob : Nat} {v v' : Value} {ps ps' : List Pr} {nx : Int} {x : Value} {fs : List Fld} {es : List En} (h : AccQ w1 wr ob v' ps' nx) (hb : Below w.heap.size w w1) (hq : EntsQ w v ps) (hx : Flds w x fs) (he : ps'.map Prod.fst = es) (hm : ∀ p ∈ ps', p ∈ ps ∨ (p.2 = x ∧ p.1.1.fields = fs)) {b : Nat} (h1 : w.heap.size ≤ b) (h2 : b < w1.heap.size) (i j : Nat) (a c : Value) :
    WrQ w v ps x es ((wr.setCell ⟨b, i, none⟩ a).setCell ⟨b, j, none⟩ c) v' ps' := by
  have hB : Below w.heap.size w ((wr.setCell ⟨b, i, none⟩ a).setCell ⟨b, j, none⟩ c) := ((hb.trans (h.below.mono hb.size)).setCell (p := ⟨b, i, none⟩) h1 _).setCell (p := ⟨b, j, none⟩) h1 _
  have hne : v'.ownBlock ≠ some b := fun e => by have := (h.row.lt b e).1; omega
  refine ⟨⟨row_cell (row_cell (rowBase h.row (Nat.zero_le _)) hne _) hne _, fun p hp => ?_⟩, he, hB, .inr fun r hr => Nat.le_trans hb.size (h.row.lt r hr).1, fun p hp => (hm p hp).imp id (·.1)⟩
  rcases hm p hp with q | ⟨q1, q2⟩
  · exact (hq.each p q).below hB (Nat.le_refl _)
  · rw [q1, q2]; exact hx.below hB (Nat.le_refl _)
theorem WrQ.from {w w1 w' : World} {v v' : Value} {ps ps' : List Pr} {x : Value} {es : List En} (h : WrQ w1 v ps x es w' v' ps') (hb : Below w.heap.size w w1) : WrQ w v ps x es w' v' ps' :=
  ⟨h.ents, h.es, hb.trans (h.below.mono hb.size), h.blk.imp id fun q b e => Nat.le_trans hb.size (q b e), h.mem⟩
end Go.Proofs.YtgaooalckjjplaaGreatDoor

namespace Go.Proofs.YtgaooalckjjplaaGreatDoor
open Go.RowKit Go.Shelf
attribute [local go_sem] Oper.semAt_some

end Go.Proofs.YtgaooalckjjplaaGreatDoor

namespace Go.Proofs.YtgaooalckjjplaaGreatDoor
open Go.RowKit Go.Shelf
attribute [local go_sem] Oper.semAt_some

end Go.Proofs.YtgaooalckjjplaaGreatDoor

namespace Go.Proofs.YtgaooalckjjplaaGreatDoor
open Go.RowKit Go.Shelf
attribute [local go_sem] Oper.semAt_some

/-- With the fresh entry's box. -/
structure AccF (w wr : World) (ob fb : Nat) (cf : Array Value) (v : Value) (ps : List Pr) (nx : Int) : Prop where
  acc : AccQ w wr ob v ps nx
  fr : Cells wr fb 146 cf
  ne : ∀ r, v.ownBlock = some r → r ≠ fb
  ob : fb ≠ ob
theorem AccF.alloc {w wr : World} {ob fb : Nat} {cf : Array Value} {v : Value} {ps : List Pr} {nx : Int} (h : AccF w wr ob fb cf v ps nx) (o : Obj) : AccF w (wr.alloc o) ob fb cf v ps nx := ⟨h.acc.alloc o, h.fr.alloc o, h.ne, h.ob⟩
theorem AccF.snoc {w wa w6 : World} {ob fb : Nat} {cf : Array Value} {v v' : Value} {ps : List Pr} {nx : Int} {p : Pr} (h : AccF w wa ob fb cf v ps nx)
    (ho : w6.ownsRow 0 146 4 v' (ps.length + 1) (entCells ps ++ entCell p)) (h6 : Cells w6 ob 28 #[v, .int .i64 nx]) (hk : v'.ownBlock = v.ownBlock ∨ ∃ k, v'.ownBlock = some k ∧ wa.heap.size ≤ k ∧ k < w6.heap.size) (o6 : Only (fun r => some r = v.ownBlock) wa w6) :
    AccF w (w6.setCell ⟨ob, 0, none⟩ v') ob fb cf v' (ps ++ [p]) nx := by
  refine ⟨h.acc.snoc ho h6 hk o6, (h.fr.only o6 (fun e => h.ne fb e.symm rfl)).other (p := ⟨ob, 0, none⟩) h.ob _, fun r hr => ?_, h.ob⟩
  rcases hk with hk | ⟨k, hk, h1, _⟩
  · exact h.ne r (by rw [← hk]; exact hr)
  · rw [hk] at hr
    have : k = r := Option.some.inj hr
    have := h.fr.lt
    omega
theorem AccF.grow {w wa w6 : World} {ob fb : Nat} {cf : Array Value} {v v' : Value} {ps : List Pr} {nx : Int} {p : Pr} (h : AccF w wa ob fb cf v ps nx)
    (ho : w6.ownsRow w.heap.size 146 4 v' (ps.length + 1) (entCells ps ++ entCell p)) (hg : wa.grownBy w6 v.ownBlock) (hk : v'.ownBlock = v.ownBlock ∨ v'.ownBlock = some wa.heap.size) :
    AccF w (w6.setCell ⟨ob, 0, none⟩ v') ob fb cf v' (ps ++ [p]) nx := by
  refine ⟨h.acc.grow ho hg, (h.fr.grown hg (fun e => h.ne fb e.symm rfl)).other (p := ⟨ob, 0, none⟩) h.ob _, fun r hr => ?_, h.ob⟩
  rcases hk with hk | hk
  · exact h.ne r (by rw [← hk]; exact hr)
  · rw [hk] at hr
    have : wa.heap.size = r := Option.some.inj hr
    have := h.fr.lt
    omega
end Go.Proofs.YtgaooalckjjplaaGreatDoor

namespace Go.Proofs.YtgaooalckjjplaaGreatDoor
open Go.RowKit Go.Shelf

/-- A slice of fields that may be written over: its block. -/
def MineP (w : World) (P : Nat → Prop) (v : Value) (n : Nat) : Prop :=
  n = 0 ∧ (∃ A c, v = .slice A 0 c) ∨ ∃ g cap cur, v = .slice (some ⟨g, 0, none⟩) n cap ∧ n ≤ cap ∧ P g ∧ w.heap[g]? = some (.cells cur 66 (0, 0)) ∧ n * 2 ≤ cur.size
/-- Fields in those blocks may have turned. -/
structure Spoils (P : Nat → Prop) (w w' : World) : Prop where
  os : w'.os = w.os
  tape : w'.tape = w.tape
  output : w'.output = w.output
  size : w.heap.size ≤ w'.heap.size
  same : ∀ (r : Nat) o, w.heap[r]? = some o → w'.heap[r]? = some o ∨ (P r ∧ ∃ cur cur', o = .cells cur 66 (0, 0) ∧ w'.heap[r]? = some (.cells cur' 66 (0, 0)) ∧ cur'.size = cur.size)
theorem Spoils.refl (P : Nat → Prop) (w : World) : Spoils P w w := ⟨rfl, rfl, rfl, Nat.le_refl _, fun _ _ h => .inl h⟩
theorem Spoils.trans {P : Nat → Prop} {a b c : World} (h : Spoils P a b) (g : Spoils P b c) : Spoils P a c := by
  refine ⟨g.os.trans h.os, g.tape.trans h.tape, g.output.trans h.output, Nat.le_trans h.size g.size, fun r o ho => ?_⟩
  rcases h.same r o ho with h1 | ⟨h1, cur, cur', rfl, h2, h3⟩
  · exact g.same r o h1
  · rcases g.same r _ h2 with g1 | ⟨_, c1, c2, g1, g2, g3⟩
    · exact .inr ⟨h1, cur, cur', rfl, g1, h3⟩
    · injection g1 with g1
      subst g1
      exact .inr ⟨h1, cur, c2, rfl, g2, g3.trans h3⟩
theorem Spoils.set {P : Nat → Prop} {g : Nat} {w : World} {cur : Array Value} (h : w.heap[g]? = some (.cells cur 66 (0, 0))) (hg : P g) (i : Nat) (u : Value) : Spoils P w (w.setCell ⟨g, i, none⟩ u) := by
  refine ⟨rfl, rfl, rfl, by simp [World.setCell], fun r o ho => ?_⟩
  by_cases e : r = g
  · subst e
    rw [h] at ho
    cases ho
    exact .inr ⟨hg, cur, cur.setIfInBounds i u, rfl, Cells.set (t := 66) h i u, by simp⟩
  · exact .inl ((Below.heap_setCell _ _ _ _ e).trans ho)
theorem Spoils.block {P : Nat → Prop} {w w' : World} (h : Spoils P w w') {r : Nat} (hr : r < w.heap.size) (hP : ¬ P r) : w'.heap[r]? = w.heap[r]? := by
  rcases h.same r _ (Array.getElem?_eq_getElem hr) with e | ⟨e, _⟩
  · rw [e]; exact (Array.getElem?_eq_getElem hr).symm
  · exact absurd e hP
theorem Spoils.below {P : Nat → Prop} {lo : Nat} {w w' : World} (h : Spoils P w w') (hP : ∀ r, P r → lo ≤ r) (hl : lo ≤ w.heap.size) : Below lo w w' :=
  ⟨h.os, h.tape, h.output, h.size, fun r hr => h.block (by omega) (fun q => by have := hP r q; omega)⟩
theorem MineP.below {P : Nat → Prop} {n N : Nat} {w w' : World} {v : Value} (h : MineP w P v n) (hb : Below N w w') (hN : w.heap.size ≤ N) : MineP w' P v n := by
  rcases h with h | ⟨g, cap, cur, e, h0, h1, h2, h3⟩
  · exact .inl h
  · have hg : g < w.heap.size := (Array.getElem?_eq_some_iff.1 h2).1
    exact .inr ⟨g, cap, cur, e, h0, h1, (hb.block g (by omega)).trans h2, h3⟩
theorem Spoils.alloc {P : Nat → Prop} {w w' : World} (h : Spoils P w w') (o : Obj) : Spoils P w (w'.alloc o) := by
  have hb := (Below.refl w'.heap.size w').alloc (Nat.le_refl _) o
  refine ⟨h.os, h.tape, h.output, Nat.le_trans h.size hb.size, fun r o ho => ?_⟩
  have hr : r < w'.heap.size := Nat.lt_of_lt_of_le (Array.getElem?_eq_some_iff.1 ho).1 h.size
  rw [hb.block r hr]
  exact h.same r o ho
theorem Spoils.kept {P : Nat → Prop} {w w' : World} {b : Nat} {t : TypeId} {cs : Array Value} (h : Spoils P w w') (hc : Cells w b t cs) (ht : t ≠ 66) : Cells w' b t cs := by
  rcases h.same b _ hc with e | ⟨_, c1, c2, e, _⟩
  · exact e
  · injection e with _ e _
    exact absurd e ht
theorem AccM.cellAt {w W : World} {v : Value} {fvs : List Value} {its : List It} {k : Nat} {it : It} (h : AccM w W v fvs its) (hi : its[k]? = some it) : ∃ g cap fv cur, v = .slice (some ⟨g, 0, none⟩) its.length cap ∧ fvs[k]? = some fv ∧ Cells W g 89 cur ∧ cur[k * 3]? = some (.int .i64 it.kind) ∧ cur[k * 3 + 1]? = some (.string (B it.raw)) ∧ cur[k * 3 + 1 + 1]? = some fv := by
  have hlt : k < its.length := by
    rcases Nat.lt_or_ge k its.length with q | q
    · exact q
    · rw [List.getElem?_eq_none q] at hi; cases hi
  obtain ⟨fv, hfv⟩ : ∃ fv, fvs[k]? = some fv := ⟨_, List.getElem?_eq_getElem (by rw [h.len]; exact hlt)⟩
  obtain ⟨a0, a1, a2⟩ := itemsCells_at _ _ k it fv hi hfv
  have hr := h.row
  rcases h.row.2 with ⟨_, q2⟩ | ⟨g, cap, cur, q1, q2, q3, _⟩
  · omega
  · have hC : Cells W g 89 cur := q3
    rw [q1] at hr
    refine ⟨g, cap, fv, cur, q1, hfv, hC, ?_, ?_, ?_⟩
    · rw [← hC.cell, World.ownsRow.cellAt hr (k * 3) (by omega)]; exact a0
    · rw [← hC.cell, World.ownsRow.cellAt hr (k * 3 + 1) (by omega)]; exact a1
    · rw [← hC.cell, World.ownsRow.cellAt hr (k * 3 + 1 + 1) (by omega)]; exact a2
end Go.Proofs.YtgaooalckjjplaaGreatDoor

namespace Go.Proofs.YtgaooalckjjplaaGreatDoor
open Go.RowKit Go.Shelf

/-- The blocks of both lists. -/
def BlkR (lb : Nat) (ev : Value) (ps : List Pr) (v : Value) (qs : List Pr) (r : Nat) : Prop :=
  r = lb ∨ ev.ownBlock = some r ∨ v.ownBlock = some r ∨ (∃ p ∈ ps, p.1.1.fields ≠ [] ∧ p.2.ownBlock = some r) ∨ (∃ p ∈ qs, p.1.1.fields ≠ [] ∧ p.2.ownBlock = some r)
structure StR (w : World) (lb : Nat) (ev : Value) (ps : List Pr) (nx : Int) (v : Value) (qs : List Pr) : Prop where
  la : LA w lb ev ps nx
  q : EntsQ w v qs
  va : ∀ b, v.ownBlock = some b → b ≠ lb ∧ ev.ownBlock ≠ some b
  qa : ∀ p ∈ qs, p.1.1.fields ≠ [] → ∀ b, p.2.ownBlock = some b → b ≠ lb ∧ ev.ownBlock ≠ some b
theorem EntsQ.only {w w' : World} {v : Value} {ps : List Pr} {S : Nat → Prop} (h : EntsQ w v ps) (g : Only S w w') (h1 : ∀ b, v.ownBlock = some b → ¬ S b) (h2 : ∀ p ∈ ps, p.1.1.fields ≠ [] → ∀ b, p.2.ownBlock = some b → ¬ S b) : EntsQ w' v ps :=
  ⟨row_only h.row g h1, fun p hp => (h.each p hp).only g (fun hne b hb => h2 p hp hne b hb)⟩
theorem StR.lt {w : World} {lb : Nat} {ev : Value} {ps : List Pr} {nx : Int} {v : Value} {qs : List Pr} (h : StR w lb ev ps nx v qs) {r : Nat} (hr : BlkR lb ev ps v qs r) : r < w.heap.size := by
  rcases hr with rfl | hr | hr | ⟨p, hp, hne, hb⟩ | ⟨p, hp, hne, hb⟩
  · exact h.la.lr.head.lt
  · exact (h.la.lr.ents.row.lt r hr).2
  · exact (h.q.row.lt r hr).2
  · exact (h.la.lr.ents.each p hp).1.lt hne r hb
  · exact (h.q.each p hp).lt hne r hb
theorem StR.only {w w' : World} {lb : Nat} {ev : Value} {ps : List Pr} {nx : Int} {v : Value} {qs : List Pr} {S : Nat → Prop} (h : StR w lb ev ps nx v qs) (g : Only S w w') (hs : ∀ r, BlkR lb ev ps v qs r → ¬ S r) : StR w' lb ev ps nx v qs := by
  refine ⟨⟨⟨h.la.lr.head.only g (hs lb (.inl rfl)), ⟨row_only h.la.lr.ents.row g (fun b hb => hs b (.inr (.inl hb))), fun p hp => (h.la.lr.ents.each p hp).only g (fun hne b hb => hs b (.inr (.inr (.inr (.inl ⟨p, hp, hne, hb⟩)))))⟩⟩, h.la.apart⟩, ?_, h.va, h.qa⟩
  exact h.q.only g (fun b hb => hs b (.inr (.inr (.inl hb)))) (fun p hp hne b hb => hs b (.inr (.inr (.inr (.inr ⟨p, hp, hne, hb⟩)))))
theorem StR.below {w w' : World} {lb : Nat} {ev : Value} {ps : List Pr} {nx : Int} {v : Value} {qs : List Pr} {N : Nat} (h : StR w lb ev ps nx v qs) (hb : Below N w w') (hN : w.heap.size ≤ N) : StR w' lb ev ps nx v qs :=
  h.only (S := fun _ => False) (Only.of_below hb hN) (fun _ _ e => e)
theorem only_one {b : Nat} (w : World) (i : Nat) (u : Value) : Only (· = b) w (w.setCell ⟨b, i, none⟩ u) := (Only.refl (· = b) w).cellS i u
theorem StR.set {w : World} {lb : Nat} {ev : Value} {ps : List Pr} {nx : Int} {v : Value} {qs : List Pr} (h : StR w lb ev ps nx v qs) {b : Nat} (i : Nat) (u : Value) (hs : ¬ BlkR lb ev ps v qs b) : StR (w.setCell ⟨b, i, none⟩ u) lb ev ps nx v qs :=
  h.only (only_one (b := b) w i u) (fun r hr e => hs (by rw [← e]; exact hr))
theorem StR.drew {w : World} {lb : Nat} {ev : Value} {ps : List Pr} {nx : Int} {v : Value} {qs : List Pr} (h : StR w lb ev ps nx v qs) : StR w.drew lb ev ps nx v qs := h.below ((Below.refl _ _).drew) (Nat.le_refl _)
end Go.Proofs.YtgaooalckjjplaaGreatDoor

namespace Go.Proofs.YtgaooalckjjplaaGreatDoor
open Go.RowKit Go.Shelf
attribute [local go_sem] Oper.semAt_some

end Go.Proofs.YtgaooalckjjplaaGreatDoor

namespace Go.Proofs.YtgaooalckjjplaaGreatDoor
open Go.RowKit

end Go.Proofs.YtgaooalckjjplaaGreatDoor

namespace Go.Proofs.YtgaooalckjjplaaGreatDoor
open Go.RowKit Go.Shelf
attribute [local go_sem] Oper.semAt_some

section
variable {o : Oper} {a : Act} {w : World} {K : Act → World → Prop} {Q : Exit → Act → World → Prop}
end
end Go.Proofs.YtgaooalckjjplaaGreatDoor

namespace Go.Proofs.YtgaooalckjjplaaGreatDoor
open Go.RowKit Go.Shelf
attribute [local go_sem] Oper.semAt_some

end Go.Proofs.YtgaooalckjjplaaGreatDoor

