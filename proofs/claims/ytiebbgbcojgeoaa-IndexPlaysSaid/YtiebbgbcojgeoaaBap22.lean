/- Texts put together. -/
import Derived.Deep.RegionHeld3
import Derived.StillTailTactics
import Derived.Test.YtiebbgbcojgeoaaBap8
import Derived.Test.YtiebbgbcojgeoaaBap21
set_option linter.unusedVariables false
namespace Go.Proofs.Ytiebbgbcojgeoaa
open Go.RowKit Go.Shelf
attribute [local go_sem] Oper.semAt_some errV_0

/-- The copy so far. -/
structure AccC (w wr : World) (lb : Nat) (ev : Value) (ps : List Pr) (nx : Int) : Prop where
  head : Cells wr lb 122 #[ev, .int .i64 (nx - 1)]
  row : wr.ownsRow w.heap.size 111 4 ev ps.length (entCells ps)
  each : ∀ p ∈ ps, wr.ownsRow w.heap.size 45 2 p.2 p.1.1.fields.length (cellsF p.1.1.fields)
  below : Below w.heap.size w wr
  lb : w.heap.size ≤ lb
theorem own_cells_ne {W : World} {lo n b : Nat} {t u : TypeId} {sz : Nat} {v : Value} {xs : List Value} {cs : Array Value} (h : W.ownsRow lo t sz v n xs) (hc : Cells W b u cs) (ht : t ≠ u) : v.ownBlock ≠ some b := by
  intro e
  rcases h.2 with ⟨q, _⟩ | ⟨g, cap, cur, q, _, hg, _⟩
  · rw [q] at e; cases e
  · rw [q] at e
    have : g = b := Option.some.inj e
    subst this
    have := hg.symm.trans hc
    injection this with this
    injection this with _ h2 _
    exact ht h2
theorem own_own_ne {W : World} {lo lo' n m : Nat} {t u : TypeId} {sz sz' : Nat} {v x : Value} {xs ys : List Value} (h : W.ownsRow lo t sz v n xs) (g : W.ownsRow lo' u sz' x m ys) (ht : t ≠ u) : ∀ b, v.ownBlock = some b → x.ownBlock ≠ some b := by
  intro b hb
  rcases h.2 with ⟨q, _⟩ | ⟨g', cap, cur, q, _, hg, _⟩
  · rw [q] at hb; cases hb
  · rw [q] at hb
    obtain rfl : g' = b := Option.some.inj hb
    exact own_cells_ne g hg (fun e => ht e.symm)
theorem AccC.la {w wr : World} {lb : Nat} {ev : Value} {ps : List Pr} {nx : Int} (h : AccC w wr lb ev ps nx) : LA wr lb ev ps nx :=
  ⟨⟨h.head, ⟨rowBase h.row (Nat.zero_le _), fun p hp => FldR.own (h.each p hp)⟩⟩, fun p hp _ b hb =>
    ⟨fun e => own_cells_ne (h.each p hp) h.head (by decide) (by rw [← e]; exact hb), own_own_ne (h.each p hp) h.row (by decide) b hb⟩⟩
theorem AccC.snoc {w w5 w6 : World} {lb : Nat} {ev v' : Value} {ps : List Pr} {nx : Int} {p : Pr} (h : AccC w w5 lb ev ps nx) (hp : w5.ownsRow w.heap.size 45 2 p.2 p.1.1.fields.length (cellsF p.1.1.fields))
    (ho : w6.ownsRow 0 111 4 v' (ps.length + 1) (entCells ps ++ entCell p)) (h6 : Cells w6 lb 122 #[ev, .int .i64 (nx - 1)]) (hk : v'.ownBlock = ev.ownBlock ∨ ∃ k, v'.ownBlock = some k ∧ w5.heap.size ≤ k ∧ k < w6.heap.size) (o6 : Only (fun r => some r = ev.ownBlock) w5 w6) :
    AccC w (w6.setCell ⟨lb, 0, none⟩ v') lb v' (ps ++ [p]) nx := by
  have hne : v'.ownBlock ≠ some lb := own_cells_ne ho h6 (by decide)
  have hz := h.below.size
  have hrow : w6.ownsRow w.heap.size 111 4 v' (ps.length + 1) (entCells ps ++ entCell p) := by
    rcases ho.2 with ⟨q, _⟩ | ⟨g2, cap2, cur2, q, _, rest⟩
    · exact ⟨ho.1, .inl ⟨q, by omega⟩⟩
    · refine ⟨ho.1, .inr ⟨g2, cap2, cur2, q, ?_, rest⟩⟩
      rcases hk with hk | ⟨k, hk, h1, _⟩
      · exact (h.row.lt g2 (by rw [← hk, q]; rfl)).1
      · rw [q] at hk
        have : g2 = k := Option.some.inj hk
        omega
  have keep : ∀ {x : Value} {m : Nat} {ys : List Value}, w5.ownsRow w.heap.size 45 2 x m ys → (w6.setCell ⟨lb, 0, none⟩ v').ownsRow w.heap.size 45 2 x m ys := fun hx =>
    have h6x := row_only hx o6 (fun b hb e => own_own_ne hx h.row (by decide) b hb e.symm)
    row_cell (p := ⟨lb, 0, none⟩) h6x (own_cells_ne h6x h6 (by decide)) _
  refine ⟨?_, ?_, ?_, ?_, h.lb⟩
  · have := h6.set 0 v'
    simpa [List.setIfInBounds_toArray, List.set] using this
  · rw [List.length_append, entCells_snoc]
    exact row_cell (p := ⟨lb, 0, none⟩) hrow hne _
  · intro q hq
    rcases List.mem_append.1 hq with hq | hq
    · exact keep (h.each q hq)
    · rw [List.mem_singleton.1 hq]; exact keep hp
  · have b6 : Below w.heap.size w5 w6 := o6.to_below hz (fun r hr e => by
      have := (h.row.lt r e.symm).1
      omega)
    exact (h.below.trans b6).setCell (p := ⟨lb, 0, none⟩) h.lb _
end Go.Proofs.Ytiebbgbcojgeoaa

namespace Go.Proofs.Ytiebbgbcojgeoaa
open Go.RowKit Go.Shelf

end Go.Proofs.Ytiebbgbcojgeoaa

namespace Go.Proofs.Ytiebbgbcojgeoaa
open Go.RowKit Go.Shelf
attribute [local go_sem] Oper.semAt_some

end Go.Proofs.Ytiebbgbcojgeoaa

namespace Go.Proofs.Ytiebbgbcojgeoaa
open Go.RowKit Go.Shelf
attribute [local go_sem] Oper.semAt_some

end Go.Proofs.Ytiebbgbcojgeoaa

namespace Go.Proofs.Ytiebbgbcojgeoaa
open Go.RowKit Go.Shelf
attribute [local go_sem] Oper.semAt_some

end Go.Proofs.Ytiebbgbcojgeoaa

namespace Go.Proofs.Ytiebbgbcojgeoaa
open Go.RowKit Go.Shelf
attribute [local go_sem] Oper.semAt_some

end Go.Proofs.Ytiebbgbcojgeoaa

namespace Go.Proofs.Ytiebbgbcojgeoaa
open Go.RowKit Go.Shelf

/-- A slice of fields that may be written over: its block. -/
def MineP (w : World) (P : Nat → Prop) (v : Value) (n : Nat) : Prop :=
  n = 0 ∧ (∃ A c, v = .slice A 0 c) ∨ ∃ g cap cur, v = .slice (some ⟨g, 0, none⟩) n cap ∧ n ≤ cap ∧ P g ∧ w.heap[g]? = some (.cells cur 45 (0, 0)) ∧ n * 2 ≤ cur.size
/-- Fields in those blocks may have turned. -/
structure Spoils (P : Nat → Prop) (w w' : World) : Prop where
  os : w'.os = w.os
  tape : w'.tape = w.tape
  output : w'.output = w.output
  size : w.heap.size ≤ w'.heap.size
  same : ∀ (r : Nat) o, w.heap[r]? = some o → w'.heap[r]? = some o ∨ (P r ∧ ∃ cur cur', o = .cells cur 45 (0, 0) ∧ w'.heap[r]? = some (.cells cur' 45 (0, 0)) ∧ cur'.size = cur.size)
theorem Spoils.refl (P : Nat → Prop) (w : World) : Spoils P w w := ⟨rfl, rfl, rfl, Nat.le_refl _, fun _ _ h => .inl h⟩
theorem Spoils.trans {P : Nat → Prop} {a b c : World} (h : Spoils P a b) (g : Spoils P b c) : Spoils P a c := by
  refine ⟨g.os.trans h.os, g.tape.trans h.tape, g.output.trans h.output, Nat.le_trans h.size g.size, fun r o ho => ?_⟩
  rcases h.same r o ho with h1 | ⟨h1, cur, cur', rfl, h2, h3⟩
  · exact g.same r o h1
  · rcases g.same r _ h2 with g1 | ⟨_, c1, c2, g1, g2, g3⟩
    · exact .inr ⟨h1, cur, cur', rfl, g1, h3⟩
    · injection g1 with g1
      subst g1
      exact .inr ⟨h1, cur, c2, rfl, g2, g3.trans h3⟩
theorem Spoils.set {P : Nat → Prop} {g : Nat} {w : World} {cur : Array Value} (h : w.heap[g]? = some (.cells cur 45 (0, 0))) (hg : P g) (i : Nat) (u : Value) : Spoils P w (w.setCell ⟨g, i, none⟩ u) := by
  refine ⟨rfl, rfl, rfl, by simp [World.setCell], fun r o ho => ?_⟩
  by_cases e : r = g
  · subst e
    rw [h] at ho
    cases ho
    exact .inr ⟨hg, cur, cur.setIfInBounds i u, rfl, Cells.set (t := 45) h i u, by simp⟩
  · exact .inl ((Below.heap_setCell _ _ _ _ e).trans ho)
theorem Spoils.block {P : Nat → Prop} {w w' : World} (h : Spoils P w w') {r : Nat} (hr : r < w.heap.size) (hP : ¬ P r) : w'.heap[r]? = w.heap[r]? := by
  rcases h.same r _ (Array.getElem?_eq_getElem hr) with e | ⟨e, _⟩
  · rw [e]; exact (Array.getElem?_eq_getElem hr).symm
  · exact absurd e hP
theorem Spoils.below {P : Nat → Prop} {lo : Nat} {w w' : World} (h : Spoils P w w') (hP : ∀ r, P r → lo ≤ r) (hl : lo ≤ w.heap.size) : Below lo w w' :=
  ⟨h.os, h.tape, h.output, h.size, fun r hr => h.block (by omega) (fun q => by have := hP r q; omega)⟩
theorem MineP.spoils {P : Nat → Prop} {n : Nat} {w w' : World} {v : Value} (h : MineP w P v n) (hs : Spoils P w w') : MineP w' P v n := by
  rcases h with h | ⟨g, cap, cur, e, h0, h1, h2, h3⟩
  · exact .inl h
  · rcases hs.same g _ h2 with k | ⟨_, c1, c2, k1, k2, k3⟩
    · exact .inr ⟨g, cap, cur, e, h0, h1, k, h3⟩
    · injection k1 with k1
      subst k1
      exact .inr ⟨g, cap, c2, e, h0, h1, k2, by omega⟩
theorem MineP.below {P : Nat → Prop} {n N : Nat} {w w' : World} {v : Value} (h : MineP w P v n) (hb : Below N w w') (hN : w.heap.size ≤ N) : MineP w' P v n := by
  rcases h with h | ⟨g, cap, cur, e, h0, h1, h2, h3⟩
  · exact .inl h
  · have hg : g < w.heap.size := (Array.getElem?_eq_some_iff.1 h2).1
    exact .inr ⟨g, cap, cur, e, h0, h1, (hb.block g (by omega)).trans h2, h3⟩
theorem Spoils.alloc {P : Nat → Prop} {w w' : World} (h : Spoils P w w') (o : Obj) : Spoils P w (w'.alloc o) := by
  have hb := (Below.refl w'.heap.size w').alloc (Nat.le_refl _) o
  refine ⟨h.os, h.tape, h.output, Nat.le_trans h.size hb.size, fun r o ho => ?_⟩
  have hr : r < w'.heap.size := Nat.lt_of_lt_of_le (Array.getElem?_eq_some_iff.1 ho).1 h.size
  rw [hb.block r hr]
  exact h.same r o ho
theorem Spoils.kept {P : Nat → Prop} {w w' : World} {b : Nat} {t : TypeId} {cs : Array Value} (h : Spoils P w w') (hc : Cells w b t cs) (ht : t ≠ 45) : Cells w' b t cs := by
  rcases h.same b _ hc with e | ⟨_, c1, c2, e, _⟩
  · exact e
  · injection e with _ e _
    exact absurd e ht
theorem AccM.cellAt {w W : World} {v : Value} {fvs : List Value} {its : List It} {k : Nat} {it : It} (h : AccM w W v fvs its) (hi : its[k]? = some it) : ∃ g cap fv cur, v = .slice (some ⟨g, 0, none⟩) its.length cap ∧ fvs[k]? = some fv ∧ Cells W g 109 cur ∧ cur[k * 3]? = some (.int .i64 it.kind) ∧ cur[k * 3 + 1]? = some (.string (B it.raw)) ∧ cur[k * 3 + 1 + 1]? = some fv := by
  have hlt : k < its.length := by
    rcases Nat.lt_or_ge k its.length with q | q
    · exact q
    · rw [List.getElem?_eq_none q] at hi; cases hi
  obtain ⟨fv, hfv⟩ : ∃ fv, fvs[k]? = some fv := ⟨_, List.getElem?_eq_getElem (by rw [h.len]; exact hlt)⟩
  obtain ⟨a0, a1, a2⟩ := itemsCells_at _ _ k it fv hi hfv
  have hr := h.row
  rcases h.row.2 with ⟨_, q2⟩ | ⟨g, cap, cur, q1, q2, q3, _⟩
  · omega
  · have hC : Cells W g 109 cur := q3
    rw [q1] at hr
    refine ⟨g, cap, fv, cur, q1, hfv, hC, ?_, ?_, ?_⟩
    · rw [← hC.cell, World.ownsRow.cellAt hr (k * 3) (by omega)]; exact a0
    · rw [← hC.cell, World.ownsRow.cellAt hr (k * 3 + 1) (by omega)]; exact a1
    · rw [← hC.cell, World.ownsRow.cellAt hr (k * 3 + 1 + 1) (by omega)]; exact a2
set_option maxRecDepth 100000 in
set_option maxHeartbeats 4000000 in
theorem spoilP_any (n : Nat) (P : Nat → Prop) (v : Value) (w : World) (h : MineP w P v n) (hn : n ≤ 1000000) :
    Calls Try.prog 15 #[v] w fun e w' => e = .returned (.tuple #[]) ∧ Spoils P w w' := by
  have HM := Lib.hid h
  rcases h with ⟨rfl, A, c, rfl⟩ | ⟨g, cap, cur, rfl, hle, _, _, _⟩
  · go_enter Try.func15, Try.ntmps15
    go_wp2_with fail
    refine wp_loop_rounds 1 ?_
    rw [rounds_succ]
    go_wp2_with fail
    go_end0
    exact ⟨rfl, Spoils.refl _ _⟩
  · go_enter Try.func15, Try.ntmps15
    go_wp2_with fail
    go_loopw [5] (fun i wr => ∃ k : Nat, k ≤ n ∧ i = .int .i64 k ∧ Spoils P w wr) (fun i _ => n - (intOf i).toNat)
    case atStart => exact ⟨0, Nat.zero_le _, rfl, Spoils.refl _ _⟩
    case round =>
      obtain ⟨k, hk, rfl, hs⟩ := hrel
      by_cases hlt : k < n
      · rcases HM.out.spoils hs with ⟨h0, _⟩ | ⟨g', cap', cur', e, h0, h1, h2, h3⟩
        · omega
        · cases e
          have hC : Cells wr g 45 cur' := h2
          obtain ⟨x0, hx0⟩ : ∃ x, cur'[k * 2]? = some x := ⟨_, Array.getElem?_eq_getElem (by omega)⟩
          obtain ⟨x1, hx1⟩ : ∃ x, cur'[k * 2 + 1]? = some x := ⟨_, Array.getElem?_eq_getElem (by omega)⟩
          have c0 : wr.cell? ⟨g, k * 2, none⟩ = some x0 := (hC.cell _).trans hx0
          have c1 : wr.cell? ⟨g, k * 2 + 1, none⟩ = some x1 := (hC.cell _).trans hx1
          have f0 := hC.frozen (k * 2)
          have f1 := hC.frozen (k * 2 + 1)
          have HC := Lib.hid hC
          have HS := Lib.hid hs
          have H1 := Lib.hid h1
          clear HM hs h2 hC hx0 hx1 h1
          go_wp2_with fail
          go_roundw
          case rel =>
            refine ⟨k + 1, hlt, by go_num, HS.out.trans ((Spoils.set HC.out H1.out (k * 2) _).trans (Spoils.set (HC.out.set (k * 2) _) H1.out (k * 2 + 1) _))⟩
          case measure => simp [intOf]; omega
      · obtain rfl : k = n := by omega
        clear HM
        go_wp2_with fail
        go_end0
        exact ⟨rfl, hs⟩
end Go.Proofs.Ytiebbgbcojgeoaa

namespace Go.Proofs.Ytiebbgbcojgeoaa
open Go.RowKit Go.Shelf

end Go.Proofs.Ytiebbgbcojgeoaa

namespace Go.Proofs.Ytiebbgbcojgeoaa
open Go.RowKit Go.Shelf
attribute [local go_sem] Oper.semAt_some

end Go.Proofs.Ytiebbgbcojgeoaa

namespace Go.Proofs.Ytiebbgbcojgeoaa
open Go.RowKit

end Go.Proofs.Ytiebbgbcojgeoaa

namespace Go.Proofs.Ytiebbgbcojgeoaa
open Go.RowKit Go.Shelf
attribute [local go_sem] Oper.semAt_some

section
variable {o : Oper} {a : Act} {w : World} {K : Act → World → Prop} {Q : Exit → Act → World → Prop}
end
end Go.Proofs.Ytiebbgbcojgeoaa

namespace Go.Proofs.Ytiebbgbcojgeoaa
open Go.RowKit Go.Shelf
attribute [local go_sem] Oper.semAt_some

end Go.Proofs.Ytiebbgbcojgeoaa

namespace Go.Proofs.Ytiebbgbcojgeoaa
open Go.RowKit Go.Shelf Go.Maps Go.ChangeShapes Go.Joins Go.WideShapes
attribute [local go_sem] Oper.semAt_some

structure Ed where
  kind : Int
  id : Int
  fields : List Fld
structure EdIn (W : World) (cs : List Value) (ed : Ed) (fv : Value) : Prop where
  cs : cs = [.int .i64 ed.kind, .int .i64 ed.id, fv]
  flds : FldsIn W fv ed.fields
/-- A script that came in. -/
structure EdsIn (w : World) (v : Value) (eds : List Ed) : Prop where
  len : eds.length ≤ maxLen
  at_ : ∃ A cap, v = .slice A eds.length cap ∧ eds.length ≤ cap ∧ ∀ (i : Nat) (ed : Ed), eds[i]? = some ed → ∃ b off fv, A = some ⟨b, off, none⟩ ∧ b < w.heap.size ∧ w.cell? ⟨b, off + i * 3, none⟩ = some (.int .i64 ed.kind) ∧ w.cell? ⟨b, off + i * 3 + 1, none⟩ = some (.int .i64 ed.id) ∧ w.cell? ⟨b, off + i * 3 + 1 + 1, none⟩ = some fv ∧ FldsIn w fv ed.fields
theorem FldsIn.kept {w w' : World} {v : Value} {fs : List Fld} {N : Nat} (h : FldsIn w v fs) (hb : Below N w w') (hN : w.heap.size ≤ N) : FldsIn w' v fs := ⟨h.flds.below hb hN, h.nil, h.len, h.each⟩
theorem EdsIn.below {w w' : World} {v : Value} {eds : List Ed} {N : Nat} (h : EdsIn w v eds) (hb : Below N w w') (hN : w.heap.size ≤ N) : EdsIn w' v eds := by
  obtain ⟨hl, A, cap, e, hle, hc⟩ := h
  refine ⟨hl, A, cap, e, hle, fun i ed hi => ?_⟩
  obtain ⟨b, off, fv, e1, hbb, c0, c1, c2, hf⟩ := hc i ed hi
  have hbN : b < N := by omega
  exact ⟨b, off, fv, e1, Nat.lt_of_lt_of_le hbb hb.size, (hb.cell (p := ⟨b, off + i * 3, none⟩) hbN).trans c0, (hb.cell (p := ⟨b, off + i * 3 + 1, none⟩) hbN).trans c1, (hb.cell (p := ⟨b, off + i * 3 + 1 + 1, none⟩) hbN).trans c2, hf.kept hb hN⟩
/-- What isn't heavy. -/
def Light (eds : List Ed) : Prop := eds.length ≤ 51 ∧ ∀ ed ∈ eds, ed.fields.length ≤ 61 ∧ (∀ f ∈ ed.fields, f.1.length ≤ 6000 ∧ f.2.length ≤ 6000) ∧ minF ed.fields ≤ 6000
def HeavyR (eds : List Ed) (e : Ending) : Prop := ∃ b : Bool, e = .returned (.bool b) ∧ (b = false → Light eds)
set_option maxRecDepth 100000 in
set_option maxHeartbeats 4000000 in
theorem heavy_any (eds : List Ed) (v : Value) (w : World) (h : EdsIn w v eds) :
    Calls Try.prog 6 #[v] w fun e w' => HeavyR eds e ∧ Below w.heap.size w w' := by
  have HH := Lib.hid h
  obtain ⟨hm, A, cap, rfl, hle, hc⟩ := h
  have PC := Lib.hid hc
  clear hc
  unfold maxLen at hm
  go_enter Try.func6, Try.ntmps6
  go_wp2_with fail
  go_loopw [7] (fun i wr => ∃ k : Nat, k ≤ eds.length ∧ k ≤ 51 ∧ i = .int .i64 k ∧ (∀ ed ∈ eds.take k, ed.fields.length ≤ 61 ∧ (∀ f ∈ ed.fields, f.1.length ≤ 6000 ∧ f.2.length ≤ 6000) ∧ minF ed.fields ≤ 6000) ∧ Below w.heap.size w wr) (fun i _ => eds.length - (intOf i).toNat)
  case atStart => exact ⟨0, Nat.zero_le _, by decide, rfl, (fun ed h => by simp at h), Below.refl _ _⟩
  case round =>
    obtain ⟨k, hk, hk51, rfl, hsm, hb⟩ := hrel
    by_cases hlt : k < eds.length
    · obtain ⟨ed, hed⟩ : ∃ ed, eds[k]? = some ed := ⟨_, List.getElem?_eq_getElem hlt⟩
      obtain ⟨b, off, fv, rfl, hbb, c0, c1, c2, hf⟩ := PC.out k ed hed
      obtain ⟨fa, fc, rfl, _, _⟩ := _root_.id hf.flds
      replace c0 := (hb.cell (p := ⟨b, off + k * 3, none⟩) hbb).trans c0
      replace c1 := (hb.cell (p := ⟨b, off + k * 3 + 1, none⟩) hbb).trans c1
      replace c2 := (hb.cell (p := ⟨b, off + k * 3 + 1 + 1, none⟩) hbb).trans c2
      have TK := Lib.hid (show eds.take (k + 1) = eds.take k ++ [ed] by rw [List.take_add_one, hed]; rfl)
      have HSM := Lib.hid hsm
      obtain ⟨wa, hwa⟩ : ∃ wa, wa = wr.alloc (.cells #[.int .i64 ed.kind, .int .i64 ed.id, .slice fa ed.fields.length fc] 32) := ⟨_, rfl⟩
      have hba : Below w.heap.size w wa := by rw [hwa]; exact hb.alloc hb.size _
      have MU := Lib.hid (much_any ed.fields (.slice fa ed.fields.length fc) wa (hf.kept hba (Nat.le_refl _)).flds hf.len hf.each)
      have HBA := Lib.hid hba
      clear hed hsm hf hba
      by_cases h50 : 50 < k
      · subst hwa
        go_wp2_with fail
        go_ret
        exact ⟨⟨true, rfl, fun h => by cases h⟩, HBA.out⟩
      · subst hwa
        go_wp2_with fail
        refine MU.out.mono ?_
        rintro e w2 ⟨⟨q, rfl, hq⟩, b2⟩
        have HB2 := Lib.hid (HBA.out.trans (b2.mono HBA.out.size))
        have HQ := Lib.hid hq
        clear b2 hq MU
        cases q with
        | true =>
          go_wp2_with fail
          go_ret
          exact ⟨⟨true, rfl, fun h => by cases h⟩, HB2.out⟩
        | false =>
          go_wp2_with fail
          go_roundw
          case rel =>
            refine ⟨k + 1, hlt, by omega, by go_num, fun x hx => ?_, HB2.out⟩
            rw [TK.out] at hx
            rcases List.mem_append.1 hx with hx | hx
            · exact HSM.out x hx
            · rw [List.mem_singleton.1 hx]
              obtain ⟨a1, a2, a3⟩ := HQ.out (by first | exact rfl | trivial)
              exact ⟨a1, a2, a3⟩
          case measure => simp [intOf]; omega
    · obtain rfl : k = eds.length := by omega
      rw [List.take_length] at hsm
      have HSM := Lib.hid hsm
      clear PC hsm
      go_wp2_with fail
      go_ret
      exact ⟨⟨false, rfl, fun _ => ⟨hk51, HSM.out⟩⟩, hb⟩
end Go.Proofs.Ytiebbgbcojgeoaa

namespace Go.Proofs.Ytiebbgbcojgeoaa
open Go.RowKit Go.Shelf Go.Maps Go.ChangeShapes Go.Joins Go.WideShapes
attribute [local go_sem] Oper.semAt_some

set_option maxRecDepth 100000 in
theorem edit_wf {H : Type} {enc : TypeId × Value → H} {W : World} {base : Nat} {sp : Nat → Bool} {held : Bool} {fuel : Nat} {cs : List Value} {x : DataW H × List MemPlace} (h : DataW.trod enc Try.prog W base sp held fuel 32 cs = some x) :
    ∃ ed fv, EdIn W cs ed fv ∧ (Lit.int .i64 ed.id).wf = true := by
  obtain ⟨xs, m, _, _, hl, hxl, hf⟩ := DataW.trod_struct Try.underlying32 h
  have hl2 : cs.length = 3 := hl.trans (by kernel_rfl)
  obtain ⟨c0, c1, c2, rfl⟩ := cells3 hl2
  have k3 : Try.prog.cellsOf 3 = 1 := by kernel_rfl
  have k40 : Try.prog.cellsOf 30 = 1 := by kernel_rfl
  have hx : ∀ i, i < 3 → ∃ y, xs[i]? = some y := fun i hi => ⟨_, List.getElem?_eq_getElem (by rw [hxl]; exact hi)⟩
  obtain ⟨y0, e0⟩ := hx 0 (by decide)
  obtain ⟨y1, e1⟩ := hx 1 (by decide)
  obtain ⟨y2, e2⟩ := hx 2 (by decide)
  have q0 : DataW.trod enc Try.prog W base sp held m 3 (List.take (Try.prog.cellsOf 3) [c0, c1, c2]) = _ := hf 0 _ rfl
  have q1 : DataW.trod enc Try.prog W base sp held m 3 (List.take (Try.prog.cellsOf 3) [c1, c2]) = _ := hf 1 _ rfl
  have q2 : DataW.trod enc Try.prog W base sp held m 30 (List.take (Try.prog.cellsOf 30) [c2]) = _ := hf 2 _ rfl
  rw [k3, e0] at q0
  rw [k3, e1] at q1
  rw [k40, e2] at q2
  obtain ⟨kind, f0, _, _⟩ := DataW.trod_int Try.underlying3 q0
  obtain ⟨id, f1, _, hwf⟩ := DataW.trod_int Try.underlying3 q1
  obtain ⟨fs, hfs⟩ := flds_in (v := c2) q2
  simp at f0 f1
  subst f0 f1
  exact ⟨⟨kind, id, fs⟩, c2, ⟨rfl, hfs⟩, hwf⟩
set_option maxRecDepth 100000 in
theorem edits_wf {H : Type} {enc : TypeId × Value → H} {W : World} {base : Nat} {sp : Nat → Bool} {held : Bool} {fuel : Nat} {v : Value} {x : DataW H × List MemPlace} (h : DataW.trod enc Try.prog W base sp held fuel 22 [v] = some x) :
    ∃ eds, EdsIn W v eds ∧ ∀ ed ∈ eds, (Lit.int .i64 ed.id).wf = true := by
  rcases DataW.trod_slice Try.underlying22 h with ⟨e, _⟩ | ⟨a, len, cap, elems, rest, n, _, e, _, _, hl, hm, hlen, hel, _, _⟩
  · obtain rfl : v = .slice none 0 0 := by simpa using e
    exact ⟨[], ⟨Nat.zero_le _, none, 0, rfl, Nat.le_refl _, fun i f h => by simp at h⟩, fun ed h => by cases h⟩
  · obtain rfl : v = .slice (some a) len cap := by simpa using e
    have k3 : Try.prog.cellsOf 32 = 3 := by kernel_rfl
    have each : ∀ i, i < len → ∃ ed : Ed, ∃ b off fv, a = ⟨b, off, none⟩ ∧ b < W.heap.size ∧ W.cell? ⟨b, off + i * 3, none⟩ = some (.int .i64 ed.kind) ∧ W.cell? ⟨b, off + i * 3 + 1, none⟩ = some (.int .i64 ed.id) ∧ W.cell? ⟨b, off + i * 3 + 1 + 1, none⟩ = some fv ∧ FldsIn W fv ed.fields ∧ (Lit.int .i64 ed.id).wf = true := by
      intro i hi
      have h1 := hel i hi
      rw [k3, List.getElem?_eq_getElem (by omega)] at h1
      obtain ⟨cs, hc, ht⟩ := Option.bind_eq_some_iff.1 h1
      obtain ⟨ed, fv, ⟨rfl, hf⟩, hwf⟩ := edit_wf ht
      obtain ⟨_, _, hat⟩ := World.cells?_some hc
      have c0 := hat 0 (by decide)
      have c1 := hat 1 (by decide)
      have c2 := hat 2 (by decide)
      obtain ⟨b, off, spot⟩ := a
      have hspot : spot = none := by
        have h2 := hel 0 (by omega)
        rw [k3, List.getElem?_eq_getElem (by omega)] at h2
        obtain ⟨cs', hc', ht'⟩ := Option.bind_eq_some_iff.1 h2
        obtain ⟨ed', fv', ⟨rfl, _⟩, _⟩ := edit_wf ht'
        obtain ⟨_, hlen', hat'⟩ := World.cells?_some hc'
        have := World.cell?_spot (hat' 0 (by decide))
        simpa [Addr.add] using this
      subst hspot
      rw [WideShapes.add_plain] at c0 c1 c2
      exact ⟨ed, b, off, fv, rfl, World.block_lt_of_cell? W _ c0, c0, c1, c2, hf, hwf⟩
    have : ∃ g : Nat → Ed, ∀ i, i < len → ∃ b off fv, a = ⟨b, off, none⟩ ∧ b < W.heap.size ∧ W.cell? ⟨b, off + i * 3, none⟩ = some (.int .i64 (g i).kind) ∧ W.cell? ⟨b, off + i * 3 + 1, none⟩ = some (.int .i64 (g i).id) ∧ W.cell? ⟨b, off + i * 3 + 1 + 1, none⟩ = some fv ∧ FldsIn W fv (g i).fields ∧ (Lit.int .i64 (g i).id).wf = true := by
      refine ⟨fun i => if h : i < len then (each i h).choose else ⟨0, 0, []⟩, fun i hi => ?_⟩
      simp only [dif_pos hi]
      exact (each i hi).choose_spec
    obtain ⟨g, hg⟩ := this
    have hll : ((List.range len).map g).length = len := by simp
    refine ⟨(List.range len).map g, ⟨by rw [hll]; omega, some a, cap, by rw [hll], by rw [hll]; exact hl, fun i ed hi => ?_⟩, fun ed hed => ?_⟩
    rotate_left
    · obtain ⟨i, hi, rfl⟩ := List.mem_map.1 hed
      obtain ⟨_, _, _, _, _, _, _, _, _, q⟩ := hg i (List.mem_range.1 hi)
      exact q
    have hlt : i < len := by
      rcases Nat.lt_or_ge i len with q | q
      · exact q
      · rw [List.getElem?_eq_none (by rw [hll]; exact q)] at hi; cases hi
    rw [List.getElem?_map, List.getElem?_range hlt] at hi
    obtain rfl := (Option.some.inj hi).symm
    obtain ⟨b, off, fv, ea, hb, c0, c1, c2, hf, _⟩ := hg i hlt
    exact ⟨b, off, fv, by rw [ea], hb, c0, c1, c2, hf⟩
end Go.Proofs.Ytiebbgbcojgeoaa

