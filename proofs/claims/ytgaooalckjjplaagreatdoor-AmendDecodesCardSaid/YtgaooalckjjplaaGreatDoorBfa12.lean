/- Texts put together: PJ, PK, FK, BU, FN, GB, PN, PW, PX, PY, GD, PZ, TF. -/
import Derived.Shelf.Strings.BuilderK
import Derived.Lib.FrozenHead
import Derived.Laws.AppendOwnNone
import Derived.Deep.DeepCutAuto
import Derived.Test.YtgaooalckjjplaaGreatDoorBfa3
import Derived.Test.YtgaooalckjjplaaGreatDoorBfa5
import Derived.Test.YtgaooalckjjplaaGreatDoorBfa7
import Derived.Test.YtgaooalckjjplaaGreatDoorBfa9
import Derived.Test.YtgaooalckjjplaaGreatDoorBfa10
import Derived.Test.YtgaooalckjjplaaGreatDoorBfa11
set_option linter.unusedVariables false
namespace Go.Proofs.YtgaooalckjjplaaGreatDoor
open Go.RowKit Go.Shelf
attribute [local go_sem] Oper.semAt_some errV_0

/-- A slice of items, readable. -/
def Its (w : World) (v : Value) (its : List It) : Prop :=
  ∃ A cap, v = .slice A its.length cap ∧ its.length ≤ cap ∧ ∀ (i : Nat) (it : It), its[i]? = some it → ∃ b off fv, A = some ⟨b, off, none⟩ ∧ b < w.heap.size ∧
    w.cell? ⟨b, off + i * 3, none⟩ = some (.int .i64 it.kind) ∧ w.cell? ⟨b, off + i * 3 + 1, none⟩ = some (.string (B it.raw)) ∧ w.cell? ⟨b, off + i * 3 + 1 + 1, none⟩ = some fv ∧ Flds w fv it.fields
theorem Its.below {w w' : World} {v : Value} {its : List It} {n : Nat} (h : Its w v its) (hb : Below n w w') (hn : w.heap.size ≤ n) : Its w' v its := by
  obtain ⟨A, cap, hv, hle, hc⟩ := h
  refine ⟨A, cap, hv, hle, fun i it hi => ?_⟩
  obtain ⟨b, off, fv, hA, hlt, c0, c1, c2, hf⟩ := hc i it hi
  have hlt' := Nat.lt_of_lt_of_le hlt hn
  exact ⟨b, off, fv, hA, Nat.lt_of_lt_of_le hlt hb.size, (hb.cell (p := ⟨b, off + i * 3, none⟩) hlt').trans c0, (hb.cell (p := ⟨b, off + i * 3 + 1, none⟩) hlt').trans c1, (hb.cell (p := ⟨b, off + i * 3 + 1 + 1, none⟩) hlt').trans c2, hf.below hb hn⟩
theorem ParserV.its {w : World} {T : Nat → Nat} {R b : Nat} {text : ByteArray} {p : PS} {V : PV} (h : ParserV w T R b text p V) : Its w V.v3 p.items := by
  rcases Joins.ownsRow_forms h.r3 with ⟨e, hn⟩ | ⟨g, cap, e⟩
  · have : p.items = [] := List.length_eq_zero_iff.1 hn
    rw [e, this]
    exact ⟨none, 0, rfl, Nat.le_refl _, fun i it hi => by simp at hi⟩
  · refine ⟨some ⟨g, 0, none⟩, cap, e, (by rcases h.r3.2 with ⟨q, _⟩ | ⟨g', cap', cur, q, _, _, q2, _⟩; · rw [e] at q; cases q
                                           · rw [e] at q; cases q; exact q2), fun i it hi => ?_⟩
    have hlt : i < p.items.length := by
      rcases Nat.lt_or_ge i p.items.length with q | q
      · exact q
      · rw [List.getElem?_eq_none q] at hi; cases hi
    obtain ⟨fv, hfv⟩ : ∃ fv, V.fvs[i]? = some fv := ⟨_, List.getElem?_eq_getElem (by rw [h.nf]; exact hlt)⟩
    obtain ⟨a0, a1, a2⟩ := itemsCells_at _ _ i it fv hi hfv
    have hr := h.r3
    rw [e] at hr
    refine ⟨g, 0, fv, rfl, (World.ownsRow.lt hr g rfl).2, ?_, ?_, ?_, flds_of_own (h.rf i it fv hi hfv).1⟩
    · rw [Nat.zero_add, World.ownsRow.cellAt hr (i * 3) (by omega)]; exact a0
    · rw [Nat.zero_add, World.ownsRow.cellAt hr (i * 3 + 1) (by omega)]; exact a1
    · rw [Nat.zero_add, World.ownsRow.cellAt hr (i * 3 + 1 + 1) (by omega)]; exact a2
/-- The fields' slices that are nil have no room. -/
def NilI (w : World) (v : Value) (its : List It) : Prop := ∀ (i : Nat) (b off : Nat) (n cap m c : Nat), v = .slice (some ⟨b, off, none⟩) n cap → i < its.length → w.cell? ⟨b, off + i * 3 + 1 + 1, none⟩ = some (.slice none m c) → c = 0
theorem ParserV.nil {w : World} {T : Nat → Nat} {R b : Nat} {text : ByteArray} {p : PS} {V : PV} (h : ParserV w T R b text p V) : NilI w V.v3 p.items := by
  intro i b off n cap m c e hlt hcell
  obtain ⟨it, hi⟩ : ∃ it, p.items[i]? = some it := ⟨_, List.getElem?_eq_getElem hlt⟩
  obtain ⟨fv, hfv⟩ : ∃ fv, V.fvs[i]? = some fv := ⟨_, List.getElem?_eq_getElem (by rw [h.nf]; exact hlt)⟩
  obtain ⟨_, _, a2⟩ := itemsCells_at _ _ i it fv hi hfv
  have hr := h.r3
  rcases Joins.ownsRow_forms hr with ⟨e', hn⟩ | ⟨g, cap', e'⟩
  · omega
  · rw [e'] at e hr
    cases e
    rw [Nat.zero_add, World.ownsRow.cellAt hr (i * 3 + 1 + 1) (by omega), a2] at hcell
    cases hcell
    rcases (h.rf i it _ hi hfv).1.2 with ⟨q, _⟩ | ⟨g', cap', cur, q, _⟩
    · cases q; rfl
    · cases q
/-- What Parse comes to, of a text that isn't too long. -/
def Parsed (w : World) (text : List UInt8) (e : Ending) (w' : World) : Prop :=
  Below w.heap.size w w' ∧ match parseL text with
    | .error (a, n) => ∃ v, e = .returned (.tuple #[.slice none 0 0, v]) ∧ FaultAt w.heap.size w' v a n
    | .ok its => ∃ v, e = .returned (.tuple #[v, .nilIface]) ∧ Its w' v its ∧ NilI w' v its
theorem Parsed.no {w w' : World} {text : List UInt8} {v : Value} {a n : Nat} (h : parseL text = .error (a, n)) (hb : Below w.heap.size w w') (hf : FaultAt w.heap.size w' v a n) : Parsed w text (.returned (.tuple #[.slice none 0 0, v])) w' :=
  ⟨hb, by rw [h]; exact ⟨v, rfl, hf⟩⟩
theorem Parsed.yes {w w' : World} {text : List UInt8} {v : Value} {its : List It} (h : parseL text = .ok its) (hb : Below w.heap.size w w') (hf : Its w' v its ∧ NilI w' v its) : Parsed w text (.returned (.tuple #[v, .nilIface])) w' :=
  ⟨hb, by rw [h]; exact ⟨v, rfl, hf⟩⟩

end Go.Proofs.YtgaooalckjjplaaGreatDoor

namespace Go.Proofs.YtgaooalckjjplaaGreatDoor
open Go.RowKit Go.Shelf

theorem assertErrF (q : Option Addr) (w : World) : (Instr.typeAssert (.iface 82 (.pointer q)) 32 54 true).run Tryz.prog w = .ok (.tuple #[.int .i64 0, .bool false]) w := by kernel_rfl
theorem assertFaultF (q : Option Addr) (w : World) : (Instr.typeAssert (.iface 82 (.pointer q)) 32 82 true).run Tryz.prog w = .ok (.tuple #[.pointer q, .bool true]) w := by kernel_rfl
theorem assertFaultE (n : Int) (w : World) : (Instr.typeAssert (.iface 54 (.int .i64 n)) 32 82 true).run Tryz.prog w = .ok (.tuple #[.pointer none, .bool false]) w := by kernel_rfl
theorem assertFault0 (w : World) : (Instr.typeAssert .nilIface 32 82 true).run Tryz.prog w = .ok (.tuple #[.pointer none, .bool false]) w := by kernel_rfl
theorem assertErrN (n : Int) (w : World) : (Instr.typeAssert (.iface 54 (.int .i64 n)) 32 54 true).run Tryz.prog w = .ok (.tuple #[.int .i64 n, .bool true]) w := by kernel_rfl
attribute [local go_sem] errV_0 assertErrF assertFaultF assertFaultE assertFault0 assertErrN
theorem Its.at_ {w : World} {v : Value} {its : List It} (h : Its w v its) {i : Nat} {it : It} (hi : its[i]? = some it) : ∃ b off cap fa fc, v = .slice (some ⟨b, off, none⟩) its.length cap ∧ its.length ≤ cap ∧ b < w.heap.size ∧ w.cell? ⟨b, off + i * 3, none⟩ = some (.int .i64 it.kind) ∧ w.cell? ⟨b, off + i * 3 + 1, none⟩ = some (.string (B it.raw)) ∧ w.cell? ⟨b, off + i * 3 + 1 + 1, none⟩ = some (.slice fa it.fields.length fc) ∧ it.fields.length ≤ fc := by
  obtain ⟨A, cap, rfl, hle, hc⟩ := h
  obtain ⟨b, off, fv, rfl, hlt, c0, c1, c2, fa, fc, rfl, hfl, _⟩ := hc i it hi
  exact ⟨b, off, cap, fa, fc, rfl, hle, hlt, c0, c1, c2, hfl⟩
end Go.Proofs.YtgaooalckjjplaaGreatDoor

namespace Go.Proofs.YtgaooalckjjplaaGreatDoor
open Go.RowKit Go.Shelf

theorem unfold_zero {ls : List (List UInt8)} (h : unfoldN ls = 0) : checkN (unfoldK ls) (unfoldV ls) = 0 ∧ (unfoldK ls).length ≤ 32 ∧ (unfoldV ls).length ≤ 1000 := by
  cases hF : sayF ls with
  | false => rw [(unfold_no hF).1] at h; cases h
  | true =>
    by_cases hl : (saidV ls).length ≤ 1000
    · obtain ⟨a, r, rfl, hka, _⟩ := sayF_parts hF
      obtain ⟨_, e2, e3⟩ := unfold_yes hF hl
      have hg : goodKey (before a) = true := (kind4 hka).2.2
      rw [e2, e3]
      exact ⟨by unfold checkN; rw [hg, if_pos rfl, if_pos hl], (good_parts hg).2.1, hl⟩
    · rw [(unfold_long hF hl).1] at h; cases h
attribute [local go_sem] errV_0
end Go.Proofs.YtgaooalckjjplaaGreatDoor

namespace Go.Proofs.YtgaooalckjjplaaGreatDoor
open Go.RowKit Go.Shelf

theorem laid240 : Lays.n240 Tryz.prog Tryz.lays156_ren := { Tryz.lays156 with }

/-- The builder in block b holds the bytes l; its row lies from R on. -/
def Bld (b R : Nat) (l : List UInt8) (W : World) : Prop :=
  ∃ p v, W.heap[b]? = some (.cells #[p, v] 121 (0, 0)) ∧ (p = .pointer none ∨ p = .pointer (some ⟨b, 0, none⟩)) ∧ W.ownsRow R 5 1 v l.length (Lib.byteCells l)

/-- Whatever lay below R lies as it lay, but block b. -/
structure Wrote (b R : Nat) (W W' : World) : Prop where
  os : W'.os = W.os
  tape : W'.tape = W.tape
  output : W'.output = W.output
  size : W.heap.size ≤ W'.heap.size
  same : ∀ r, r < R → r < W.heap.size → r ≠ b → W'.heap[r]? = W.heap[r]?
  others : Lib.OthersKept 5 (some b) W W'

theorem Wrote.refl (b R : Nat) (W : World) : Wrote b R W W := ⟨rfl, rfl, rfl, Nat.le_refl _, fun _ _ _ _ => rfl, Lib.OthersKept.refl _ _ _⟩
theorem Wrote.trans {b R : Nat} {X Y Z : World} (h : Wrote b R X Y) (g : Wrote b R Y Z) : Wrote b R X Z :=
  ⟨g.os.trans h.os, g.tape.trans h.tape, g.output.trans h.output, Nat.le_trans h.size g.size, fun r a c e => (g.same r a (Nat.lt_of_lt_of_le c h.size) e).trans (h.same r a c e), h.others.trans g.others⟩
theorem Wrote.grown {b R : Nat} {X Y Z : World} (h : Wrote b R X Y) {row : Option Nat} (hg : Y.grownBy Z row) (hr : ∀ r, row = some r → R ≤ r ∧ ∃ c fz, Y.heap[r]? = some (.cells c 5 fz)) : Wrote b R X Z :=
  h.trans ⟨hg.os, hg.tape, hg.output, hg.size, fun r a c e => hg.block r c (fun e2 => by have := (hr r e2.symm).1; omega), (Lib.OthersKept.refl _ _ _).grown hg (fun g e => (hr g e).2)⟩
theorem Wrote.put {b R : Nat} {X Y : World} (h : Wrote b R X Y) (j : Nat) (u : Value) : Wrote b R X (Y.setCell ⟨b, j, none⟩ u) :=
  h.trans ⟨rfl, rfl, rfl, by simp [World.setCell], fun r _ _ e => Below.heap_setCell _ _ _ _ e, Lib.OthersKept.setCell (b := b) (Lib.OthersKept.refl _ _ Y) ⟨b, j, none⟩ rfl u⟩
theorem Wrote.other {b R c : Nat} {X Y : World} {cs : Array Value} {t : TypeId} (h : Wrote b R X Y) (hc : X.heap[c]? = some (.cells cs t (0, 0))) (hne : c ≠ b) (ht : t ≠ 5) : Y.heap[c]? = some (.cells cs t (0, 0)) :=
  h.others c _ hc (fun e => hne (Option.some.inj e)) (fun c' fz e => ht (by injection e))
theorem Wrote.alloc {b R : Nat} {X Y : World} (h : Wrote b R X Y) (o : Obj) : Wrote b R X (Y.alloc o) :=
  h.grown (World.grownBy_alloc Y o none) (fun r e => by cases e)
theorem Wrote.drew {b R : Nat} {X Y : World} (h : Wrote b R X Y) : Wrote b R X Y.drew := ⟨h.os, h.tape, h.output, h.size, h.same, h.others⟩
theorem Wrote.below {b R n : Nat} {X Y : World} (h : Wrote b R X Y) (hb : n ≤ b) (hR : n ≤ R) (hs : n ≤ X.heap.size) : Below n X Y :=
  ⟨h.os, h.tape, h.output, h.size, fun r a => h.same r (by omega) (by omega) (by omega)⟩
theorem Wrote.stay {b R B k : Nat} {X Y : World} (h : Wrote b R X Y) (hb : b < B) (hR : B + k ≤ R) (hs : B + k ≤ X.heap.size) : Stay B k X Y :=
  ⟨h.size, fun r a c => h.same r (by omega) (by omega) (by omega)⟩
theorem Wrote.box {b R c : Nat} {X Y : World} {t : TypeId} {v : Value} (h : Wrote b R X Y) (hv : Boxed X c t v) (hc : c < R) (hne : c ≠ b) : Boxed Y c t v :=
  (h.same c hc hv.lt hne).trans hv

theorem Bld.lt {b R : Nat} {l : List UInt8} {W : World} (h : Bld b R l W) : b < W.heap.size := by
  obtain ⟨p, v, hb, _⟩ := h
  exact (Array.getElem?_eq_some_iff.1 hb).1
theorem Bld.alloc {b R : Nat} {l : List UInt8} {W : World} (h : Bld b R l W) (o : Obj) : Bld b R l (W.alloc o) := by
  have hlt := h.lt
  obtain ⟨p, v, hb, hp, hv⟩ := h
  exact ⟨p, v, (Below.heap_alloc _ _ _ hlt).trans hb, hp, hv.alloc _⟩
theorem Bld.new (w : World) (R : Nat) : Bld w.heap.size R [] (w.alloc (.cells #[.pointer none, .slice none 0 0] 121)) :=
  ⟨_, _, World.alloc_heap_new w _, .inl rfl, by simp [Lib.byteCells], .inl ⟨rfl, rfl⟩⟩
theorem Bld.turned {b R B k : Nat} {l : List UInt8} {W W' : World} (h : Bld b R l W) (ht : Turned B k W W') (hb : b < B) (hR : B + k ≤ R) : Bld b R l W' := by
  have hlt := h.lt
  obtain ⟨p, v, hb', hp, hv⟩ := h
  refine ⟨p, v, (ht.same b hlt (.inl hb)).trans hb', hp, ?_⟩
  exact ht.row hv (fun g e => .inr (by have := (hv.lt g e).1; omega))
/-- As the library's builder. -/
theorem Bld.library {b R B : Nat} {l : List UInt8} {W : World} (h : Bld b R l W) (hB : B ≤ b) (hR : B ≤ R) : Lib.IsBuilderF 121 5 B b (Lib.byteCells l) W := by
  obtain ⟨p, v, hb, hp, hv⟩ := h
  have hv2 : W.ownsRow B 5 1 v (Lib.byteCells l).length (Lib.byteCells l) := by
    rw [Lib.byteCells_length]
    refine ⟨hv.1, ?_⟩
    rcases hv.2 with hn | ⟨g, cap, cur, e1, e2, rest⟩
    · exact .inl hn
    · exact .inr ⟨g, cap, cur, e1, Nat.le_trans hR e2, rest⟩
  have hne : v.ownBlock ≠ some b := Lib.ownBlock_ne hv hb (by decide)
  refine Lib.IsBuilderF.of ?_
  rcases hp with rfl | rfl
  · exact .inl ⟨hB, v, hb, hv2, hne⟩
  · exact .inr ⟨hB, v, hb, hv2, hne⟩

set_option maxHeartbeats 2000000 in
set_option maxRecDepth 100000 in
theorem writes (b R : Nat) (l : List UInt8) (s : ByteArray) (w : World) (h : Bld b R l w) (hbR : b < R) (hR : R ≤ w.heap.size) (hlen : l.length + s.size ≤ 140737488355328) :
    Calls Tryz.prog 53 #[.pointer (some ⟨b, 0, none⟩), .string s] w fun e w' => e = .returned (.tuple #[.int .i64 s.size, .nilIface]) ∧ Bld b R (l ++ s.data.toList) w' ∧ Wrote b R w w' := by
  obtain ⟨i0, hi, hz0, hz1, hz2⟩ := info_parts Tryz.Builder_Extra_156.infoByte
  have hcopy : Calls Tryz.prog 99 #[.pointer (some ⟨b, 0, none⟩)] w fun e w' => e = .returned (.tuple #[]) ∧ (∃ v, w'.heap[b]? = some (.cells #[.pointer (some ⟨b, 0, none⟩), v] 121 (0, 0)) ∧ w'.ownsRow R 5 1 v l.length (Lib.byteCells l)) ∧ Wrote b R w w' := by
    obtain ⟨p, v, hb, hp, hv⟩ := h
    have hlt : b < w.heap.size := (Array.getElem?_eq_some_iff.1 hb).1
    rcases hp with rfl | rfl
    · refine (Any.Builder_copyCheck_fresh laid240 Tryz.Builder_Extra_156.toX72 b w ?_ ?_ ?_).mono ?_
      · rw [Lib.cell_of_heap hb]; rfl
      · simp [World.shape?, hb]; rfl
      · exact Lib.frozen_of_heap hb 0
      rintro e w' ⟨rfl, rfl⟩
      refine ⟨rfl, ⟨v, ?_, ?_⟩, ?_⟩
      · simp [World.setCell, Array.getElem?_modify, hb]
      · exact hv.kept (grownBy_setCell' w b _) (by
          cases hvb : v.ownBlock with
          | none => exact .inl rfl
          | some g => exact .inr (fun e => by have := (hv.lt g hvb).1; have := Option.some.inj e; omega))
      · exact (Wrote.refl b R w).put 0 _
    · refine (Any.Builder_copyCheck_used laid240 Tryz.Builder_Extra_156.toX72 b w ?_).mono ?_
      · rw [Lib.cell_of_heap hb]; rfl
      rintro e w' ⟨rfl, rfl⟩
      exact ⟨rfl, ⟨v, hb, hv⟩, Wrote.refl b R _⟩
  go_enter Tryz.func53, Tryz.ntmps53
  go_wp2_with (go_at_call 99; refine hcopy.mono ?_)
  rintro e w1 ⟨rfl, ⟨v, hbk, hown⟩, hw1⟩
  have c0 : w1.cell? ⟨b, 0, none⟩ = some (.pointer (some ⟨b, 0, none⟩)) := by rw [Lib.cell_of_heap hbk]; rfl
  have c1 : w1.cell? ⟨b, 1, none⟩ = some v := by rw [Lib.cell_of_heap hbk]; rfl
  go_wp2_with (at_builtin; refine Lib.wpList_append_own_string _ rfl _ _ 119 9 rfl R 5 i0 Tryz.underlying119 Tryz.underlying9 hi hz0 hz1 hz2 _ _ _ rfl hown s rfl ?c3 ?c4 ?c5 ?_)
  case c3 => unfold maxLen; omega
  case c4 => omega
  case c5 => have := hw1.size; omega
  intro v' w2 hown' hgrow _
  have hlt : b < w1.heap.size := (Array.getElem?_eq_some_iff.1 hbk).1
  have hrow : ∀ r, v.ownBlock = some r → R ≤ r := fun r e => (hown.lt r e).1
  have hb2 : w2.heap[b]? = some (.cells #[.pointer (some ⟨b, 0, none⟩), v] 121 (0, 0)) := by
    rw [hgrow.block b hlt (fun e => by have := hrow b e.symm; omega)]
    exact hbk
  have d0 : w2.cell? ⟨b, 0, none⟩ = some (.pointer (some ⟨b, 0, none⟩)) := by rw [Lib.cell_of_heap hb2]; rfl
  have d1 : w2.cell? ⟨b, 1, none⟩ = some v := by rw [Lib.cell_of_heap hb2]; rfl
  have f1 : w2.frozen? ⟨b, 1, none⟩ = false := Lib.frozen_of_heap hb2 1
  obtain ⟨ao, n', cap, rfl⟩ : ∃ ao n' cap, v' = .slice ao n' cap := by
    rcases hown'.2 with ⟨hv, _⟩ | ⟨g, cap, cur, hv, _⟩
    · exact ⟨_, _, _, hv⟩
    · exact ⟨_, _, _, hv⟩
  go_wp2
  go_ret2
  have hset : w2.grownBy (w2.setCell ⟨b, 1, none⟩ (.slice ao n' cap)) (some b) :=
    ⟨rfl, rfl, rfl, by simp [World.setCell], fun k _ hk => Below.heap_setCell _ _ _ k (fun e => hk (by rw [e]))⟩
  refine ⟨rfl, ⟨.pointer (some ⟨b, 0, none⟩), .slice ao n' cap, ?_, .inr rfl, ?_⟩, ?_⟩
  · simp [World.setCell, Array.getElem?_modify, hb2]
  · rw [List.length_append, ← Lib.size_eq, Lib.byteCells_append, ← Lib.strCells_eq]
    refine hown'.kept hset ?_
    cases hvb : (Value.slice ao n' cap).ownBlock with
    | none => exact .inl rfl
    | some g => exact .inr (fun e => by have := (hown'.lt g hvb).1; have := Option.some.inj e; omega)
  · refine (hw1.grown hgrow (fun r e => ⟨hrow r e, ?_⟩)).put 1 _
    rcases hown.2 with ⟨hn, _⟩ | ⟨g, cap, cur, hv, _, hg, _⟩
    · rw [hn] at e; cases e
    · rw [hv] at e
      cases e
      exact ⟨_, _, hg⟩
end Go.Proofs.YtgaooalckjjplaaGreatDoor

namespace Go.Proofs.YtgaooalckjjplaaGreatDoor
open Go.RowKit Go.Shelf

def foldN : List (List UInt8 × List UInt8) → Nat
  | [] => 0
  | f :: r => if checkN f.1 f.2 = 0 then foldN r else checkN f.1 f.2
def foldG (fs : List (List UInt8 × List UInt8)) : List UInt8 := fs.flatMap fun f => textL (linesL f.1 f.2)
def foldT (fs : List (List UInt8 × List UInt8)) : List UInt8 := if foldN fs = 0 then foldG fs else []
theorem foldN_le : ∀ fs, foldN fs ≤ 6
  | [] => by decide
  | f :: r => by
    unfold foldN
    split
    · exact foldN_le r
    · unfold checkN; split
      · split <;> decide
      · decide
theorem checkN_zero {k v : List UInt8} (h : checkN k v = 0) : goodKey k = true ∧ v.length ≤ 1000 := by
  unfold checkN at h
  split at h
  · rename_i hg
    split at h
    · rename_i hl; exact ⟨hg, hl⟩
    · cases h
  · cases h
theorem text_le {k v : List UInt8} (h : checkN k v = 0) : (textL (linesL k v)).length ≤ 4000 := by
  obtain ⟨a, b⟩ := checkN_zero h
  have c := (good_parts a).2.1
  rw [textL_len]
  have := lines_sum k v
  omega
theorem foldG_snoc (fs : List (List UInt8 × List UInt8)) (f : List UInt8 × List UInt8) : foldG (fs ++ [f]) = foldG fs ++ textL (linesL f.1 f.2) := by unfold foldG; simp
theorem textL_snoc (ls : List (List UInt8)) (x : List UInt8) : textL (ls ++ [x]) = (textL ls ++ x) ++ [10] := by unfold textL; simp
theorem textL_take (ls : List (List UInt8)) (j : Nat) : (textL (ls.take j)).length ≤ (textL ls).length := by
  conv => rhs; rw [← List.take_append_drop j ls, textL_append, List.length_append]
  omega
/-- A row of texts beside a builder. -/
theorem OwnS.wrote {w w' : World} {base b R : Nat} {v : Value} {ss : List ByteArray} (h : OwnS w base v ss) (hw : Wrote b R w w') {cs : Array Value} (hb : w.heap[b]? = some (.cells cs 121 (0, 0))) : OwnS w' base v ss := by
  refine ⟨h.1, ?_⟩
  rcases h.2 with hn | ⟨g, cap, cur, hv, hg, hc, rest⟩
  · exact .inl hn
  · refine .inr ⟨g, cap, cur, hv, hg, hw.other hc ?_ (by decide), rest⟩
    rintro rfl
    rw [hb] at hc
    cases hc
theorem Bld.kept {b R N : Nat} {l : List UInt8} {W W' : World} (h : Bld b R l W) (hb : Below N W W') (hN : W.heap.size ≤ N) : Bld b R l W' := by
  have hlt := h.lt
  obtain ⟨p, v, hb', hp, hv⟩ := h
  exact ⟨p, v, (hb.block b (by omega)).trans hb', hp, own_kept hv hb hN⟩
theorem Bld.cells {b R : Nat} {l : List UInt8} {W : World} (h : Bld b R l W) : ∃ cs, W.heap[b]? = some (.cells cs 121 (0, 0)) := by
  obtain ⟨p, v, hb', _⟩ := h
  exact ⟨_, hb'⟩
end Go.Proofs.YtgaooalckjjplaaGreatDoor

namespace Go.Proofs.YtgaooalckjjplaaGreatDoor
open Go.RowKit Go.Shelf

def minF (fs : List (List UInt8 × List UInt8)) : Nat := (fs.map fun f => min f.1.length 10000 + min f.2.length 10000).sum
theorem minF_snoc (fs : List (List UInt8 × List UInt8)) (f : List UInt8 × List UInt8) : minF (fs ++ [f]) = minF fs + (min f.1.length 10000 + min f.2.length 10000) := by unfold minF; simp
theorem minF_small : ∀ (fs : List (List UInt8 × List UInt8)), minF fs ≤ 6000 → ∀ f ∈ fs, f.1.length ≤ 6000 ∧ f.2.length ≤ 6000
  | [], _, f, hf => by simp at hf
  | a :: r, h, f, hf => by
    have e : minF (a :: r) = (min a.1.length 10000 + min a.2.length 10000) + minF r := rfl
    rw [e] at h
    rcases List.mem_cons.1 hf with rfl | hf
    · omega
    · exact minF_small r (by omega) f hf
structure FldsIn (w : World) (v : Value) (fs : List (List UInt8 × List UInt8)) : Prop where
  flds : Flds w v fs
  nil : ∀ n c, v = .slice none n c → c = 0
  len : fs.length ≤ maxLen
  each : ∀ f ∈ fs, f.1.length ≤ maxLen ∧ f.2.length ≤ maxLen

def MuchR (fs : List (List UInt8 × List UInt8)) (e : Ending) : Prop := ∃ b : Bool, e = .returned (.bool b) ∧ (b = false → fs.length ≤ 61 ∧ (∀ f ∈ fs, f.1.length ≤ 6000 ∧ f.2.length ≤ 6000) ∧ minF fs ≤ 6000)
set_option maxRecDepth 100000 in
set_option maxHeartbeats 4000000 in
theorem much_any (fs : List (List UInt8 × List UInt8)) (v : Value) (w : World) (hs : Flds w v fs) (hm : fs.length ≤ maxLen) (he : ∀ f ∈ fs, f.1.length ≤ maxLen ∧ f.2.length ≤ maxLen) :
    Calls Tryz.prog 28 #[v] w fun e w' => MuchR fs e ∧ Below w.heap.size w w' := by
  obtain ⟨A, cap, rfl, hle, hc⟩ := hs
  have PC := Lib.hid hc
  have EA := Lib.hid he
  clear hc he
  unfold maxLen at hm
  go_enter Tryz.func28, Tryz.ntmps28
  go_wp2_with fail
  go_loopw [3, 8] (fun s i wr => ∃ k : Nat, k ≤ fs.length ∧ k ≤ 61 ∧ i = .int .i64 k ∧ s = .int .i64 (minF (fs.take k) : Nat) ∧ minF (fs.take k) ≤ 6000 ∧ Below w.heap.size w wr) (fun _ i _ => fs.length - (intOf i).toNat)
  case atStart => exact ⟨0, Nat.zero_le _, by decide, rfl, rfl, by simp [minF], Below.refl _ _⟩
  case round =>
    obtain ⟨k, hk, hk61, rfl, rfl, hms, hb⟩ := hrel
    by_cases hlt : k < fs.length
    · obtain ⟨f, hf⟩ : ∃ f, fs[k]? = some f := ⟨_, List.getElem?_eq_getElem hlt⟩
      obtain ⟨b, off, rfl, hbb, c0, c1⟩ := PC.out k f hf
      replace c0 := (hb.cell (p := ⟨b, off + k * 2, none⟩) hbb).trans c0
      replace c1 := (hb.cell (p := ⟨b, off + k * 2 + 1, none⟩) hbb).trans c1
      have T1 : Hid (minF (fs.take (k + 1)) = minF (fs.take k) + (min f.1.length 10000 + min f.2.length 10000)) := by
        show _ = _
        rw [List.take_add_one, hf]; exact minF_snoc _ _
      obtain ⟨l1, l2⟩ := EA.out f (List.mem_of_getElem? hf)
      unfold maxLen at l1 l2
      have y1 := B_size f.1
      have y2 := B_size f.2
      have m1 : ((min f.1.length 10000 : Nat) : Int) = min (f.1.length : Int) 10000 := by omega
      have m2 : ((min f.2.length 10000 : Nat) : Int) = min (f.2.length : Int) 10000 := by omega
      have hba := hb.alloc hb.size (.cells #[.string (B f.1), .string (B f.2)] 66)
      clear hf
      generalize minF (fs.take k) = m at *
      by_cases h60 : 60 < k
      · go_wp2_with fail
        go_ret
        exact ⟨⟨true, rfl, fun h => by cases h⟩, hba⟩
      · by_cases hm4 : 6000 < m + (min f.1.length 10000 + min f.2.length 10000)
        · go_wp2_with fail
          go_ret
          exact ⟨⟨true, rfl, fun h => by cases h⟩, hba⟩
        · go_wp2_with fail
          go_roundw
          case rel => exact ⟨k + 1, hlt, by omega, by go_num, by rw [T1.out, Int.natCast_add, Int.natCast_add, m1, m2], by rw [T1.out]; omega, hba⟩
          case measure => simp [intOf]; omega
    · obtain rfl : k = fs.length := by omega
      rw [List.take_length] at hms
      have SM := Lib.hid (minF_small fs hms)
      clear PC EA
      go_wp2_with fail
      go_ret
      exact ⟨⟨false, rfl, fun _ => ⟨hk61, SM.out, hms⟩⟩, hb⟩
end Go.Proofs.YtgaooalckjjplaaGreatDoor

namespace Go.Proofs.YtgaooalckjjplaaGreatDoor
open Go.RowKit Go.Shelf

theorem Flds.drewN {w : World} {v : Value} {fs : List Fld} (h : Flds w v fs) (n : Nat) : Flds (w.drewN n) v fs := h
end Go.Proofs.YtgaooalckjjplaaGreatDoor

namespace Go.Proofs.YtgaooalckjjplaaGreatDoor
open Go.RowKit Go.Shelf

end Go.Proofs.YtgaooalckjjplaaGreatDoor

namespace Go.Proofs.YtgaooalckjjplaaGreatDoor
open Go.RowKit Go.Shelf

theorem eqlNil (w : World) : (binOp BinOp.eql 46 (.slice none 0 0) (.slice none 0 0)).run Tryz.prog w = .ok (.bool true) w := by kernel_rfl
theorem eqlSome (ad : Addr) (n c : Nat) (w : World) : (binOp BinOp.eql 46 (.slice (some ad) n c) (.slice none 0 0)).run Tryz.prog w = .ok (.bool false) w := by kernel_rfl
attribute [local go_sem] eqlNil eqlSome
/-- A slice of slices of fields, readable. -/
def Rws (w : World) (v : Value) (rs : List (List Fld)) : Prop :=
  ∃ A cap, v = .slice A rs.length cap ∧ rs.length ≤ cap ∧ ∀ (i : Nat) (r : List Fld), rs[i]? = some r → ∃ b off fv, A = some ⟨b, off, none⟩ ∧ b < w.heap.size ∧ w.cell? ⟨b, off + i, none⟩ = some fv ∧ Flds w fv r
theorem Rws.below {w w' : World} {v : Value} {rs : List (List Fld)} {n : Nat} (h : Rws w v rs) (hb : Below n w w') (hn : w.heap.size ≤ n) : Rws w' v rs := by
  obtain ⟨A, cap, hv, hle, hc⟩ := h
  refine ⟨A, cap, hv, hle, fun i r hi => ?_⟩
  obtain ⟨b, off, fv, hA, hlt, c0, hf⟩ := hc i r hi
  exact ⟨b, off, fv, hA, Nat.lt_of_lt_of_le hlt hb.size, (hb.cell (p := ⟨b, off + i, none⟩) (Nat.lt_of_lt_of_le hlt hn)).trans c0, hf.below hb hn⟩
/-- The accumulated rows: by definition (its rows are the items' own), by the program (its rows are new). -/
structure AccR (w wr : World) (v : Value) (vs : List Value) (rs : List (List Fld)) : Prop where
  row : wr.ownsRow w.heap.size 46 1 v vs.length vs
  len : vs.length = rs.length
  each : ∀ (j : Nat) x r, vs[j]? = some x → rs[j]? = some r → Flds w x r
  below : Below w.heap.size w wr
structure AccP (w wr : World) (v : Value) (vs : List Value) (rs : List (List Fld)) : Prop where
  row : wr.ownsRow w.heap.size 46 1 v vs.length vs
  len : vs.length = rs.length
  each : ∀ (j : Nat) x r, vs[j]? = some x → rs[j]? = some r → wr.ownsRow w.heap.size 66 2 x r.length (cellsF r)
  below : Below w.heap.size w wr
theorem snoc_at {α : Type} {l : List α} {a x : α} {j : Nat} (h : (l ++ [a])[j]? = some x) : (j < l.length ∧ l[j]? = some x) ∨ (j = l.length ∧ x = a) := by
  rcases Nat.lt_or_ge j l.length with q | q
  · rw [List.getElem?_append_left q] at h; exact .inl ⟨q, h⟩
  · rw [List.getElem?_append_right q] at h
    have hz : j - l.length = 0 := by
      rcases Nat.eq_zero_or_pos (j - l.length) with z | z
      · exact z
      · rw [List.getElem?_eq_none (by simp; omega)] at h; cases h
    rw [hz] at h
    cases h
    exact .inr ⟨by omega, rfl⟩
theorem AccP.kept {w wr w2 : World} {v : Value} {vs : List Value} {rs : List (List Fld)} (h : AccP w wr v vs rs) (hb : Below wr.heap.size wr w2) : AccP w w2 v vs rs :=
  ⟨own_kept h.row hb (Nat.le_refl _), h.len, fun j x r h1 h2 => own_kept (h.each j x r h1 h2) hb (Nat.le_refl _), h.below.trans (hb.mono h.below.size)⟩
theorem AccR.kept {w wr w2 : World} {v : Value} {vs : List Value} {rs : List (List Fld)} (h : AccR w wr v vs rs) (hb : Below wr.heap.size wr w2) : AccR w w2 v vs rs :=
  ⟨own_kept h.row hb (Nat.le_refl _), h.len, h.each, h.below.trans (hb.mono h.below.size)⟩
theorem AccR.snoc {w W W1 w3 : World} {v v' x : Value} {vs : List Value} {rs : List (List Fld)} {r : List Fld} (h : AccR w W v vs rs) (hx : Flds w x r) (h1 : Below W.heap.size W W1) (ho : w3.ownsRow w.heap.size 46 1 v' (vs.length + 1) (vs ++ [x])) (hg : W1.grownBy w3 v.ownBlock) : AccR w w3 v' (vs ++ [x]) (rs ++ [r]) := by
  refine ⟨by rw [List.length_append]; exact ho, by simp [h.len], fun j y s hy hs => ?_, (h.below.trans (h1.mono h.below.size)).grown hg (Nat.le_trans h.below.size h1.size) (fun k e => (h.row.lt k e).1)⟩
  rcases snoc_at hy with ⟨q, hy⟩ | ⟨q, rfl⟩
  · rw [List.getElem?_append_left (by rw [← h.len]; exact q)] at hs
    exact h.each j y s hy hs
  · rw [q, h.len, List.getElem?_append_right (Nat.le_refl _)] at hs
    simp at hs
    subst hs; exact hx
theorem row73 {W w3 : World} {lo : Nat} {v x : Value} {n m : Nat} {xs ys : List Value} (hv : W.ownsRow lo 46 1 v n xs) (hx : W.ownsRow lo 66 2 x m ys) (hg : W.grownBy w3 v.ownBlock) : w3.ownsRow lo 66 2 x m ys := by
  refine row_same hx fun b hb => hg.block b (hx.lt b hb).2 (fun e => ?_)
  rcases hx.2 with ⟨rfl, _⟩ | ⟨g, cap, cur, rfl, _, hc, _⟩
  · cases hb
  · cases hb
    rcases hv.2 with ⟨rfl, _⟩ | ⟨g', cap', cur', rfl, _, hc', _⟩
    · cases e
    · have : g = g' := Option.some.inj e
      subst this
      rw [hc] at hc'
      injection hc' with hc'
      injection hc' with _ h2 _
      exact absurd h2 (by decide)
theorem AccP.snoc {w W w3 : World} {v v' x : Value} {vs : List Value} {rs : List (List Fld)} {r : List Fld} (h : AccP w W v vs rs) (hx : W.ownsRow w.heap.size 66 2 x r.length (cellsF r)) (ho : w3.ownsRow w.heap.size 46 1 v' (vs.length + 1) (vs ++ [x])) (hg : (W.alloc (.cells #[x] 46)).grownBy w3 v.ownBlock) : AccP w w3 v' (vs ++ [x]) (rs ++ [r]) := by
  have h' := h.kept ((Below.refl W.heap.size W).alloc (Nat.le_refl _) (.cells #[x] 46))
  have hx' := own_kept hx ((Below.refl W.heap.size W).alloc (Nat.le_refl _) (.cells #[x] 46)) (Nat.le_refl _)
  refine ⟨by rw [List.length_append]; exact ho, by simp [h.len], fun j y s hy hs => ?_, h'.below.grown hg h'.below.size (fun k e => (h.row.lt k e).1)⟩
  rcases snoc_at hy with ⟨q, hy⟩ | ⟨q, rfl⟩
  · rw [List.getElem?_append_left (by rw [← h.len]; exact q)] at hs
    exact row73 h'.row (h'.each j y s hy hs) hg
  · rw [q, h.len, List.getElem?_append_right (Nat.le_refl _)] at hs
    simp at hs
    subst hs; exact row73 h'.row hx' hg
end Go.Proofs.YtgaooalckjjplaaGreatDoor

namespace Go.Proofs.YtgaooalckjjplaaGreatDoor
open Go.RowKit Go.Shelf

/-- A slice of fields that may be written over. -/
def Mine (w : World) (lo : Nat) (v : Value) (n : Nat) : Prop :=
  n = 0 ∧ (∃ A c, v = .slice A 0 c) ∨ ∃ g cap cur, v = .slice (some ⟨g, 0, none⟩) n cap ∧ n ≤ cap ∧ lo ≤ g ∧ w.heap[g]? = some (.cells cur 66 (0, 0)) ∧ n * 2 ≤ cur.size
/-- Fields from lo on may have turned. -/
structure Spoilt (lo : Nat) (w w' : World) : Prop where
  os : w'.os = w.os
  tape : w'.tape = w.tape
  output : w'.output = w.output
  size : w'.heap.size = w.heap.size
  same : ∀ (r : Nat) o, w.heap[r]? = some o → w'.heap[r]? = some o ∨ (lo ≤ r ∧ ∃ cur cur', o = .cells cur 66 (0, 0) ∧ w'.heap[r]? = some (.cells cur' 66 (0, 0)) ∧ cur'.size = cur.size)
theorem Spoilt.refl (lo : Nat) (w : World) : Spoilt lo w w := ⟨rfl, rfl, rfl, rfl, fun _ _ h => .inl h⟩
theorem Spoilt.trans {lo : Nat} {a b c : World} (h : Spoilt lo a b) (g : Spoilt lo b c) : Spoilt lo a c := by
  refine ⟨g.os.trans h.os, g.tape.trans h.tape, g.output.trans h.output, g.size.trans h.size, fun r o ho => ?_⟩
  rcases h.same r o ho with h1 | ⟨h1, cur, cur', rfl, h2, h3⟩
  · exact g.same r o h1
  · rcases g.same r _ h2 with g1 | ⟨_, c1, c2, g1, g2, g3⟩
    · exact .inr ⟨h1, cur, cur', rfl, g1, h3⟩
    · injection g1 with g1
      subst g1
      exact .inr ⟨h1, cur, c2, rfl, g2, g3.trans h3⟩
theorem Spoilt.set {lo g : Nat} {w : World} {cur : Array Value} (h : w.heap[g]? = some (.cells cur 66 (0, 0))) (hg : lo ≤ g) (i : Nat) (u : Value) : Spoilt lo w (w.setCell ⟨g, i, none⟩ u) := by
  refine ⟨rfl, rfl, rfl, by simp [World.setCell], fun r o ho => ?_⟩
  by_cases e : r = g
  · subst e
    rw [h] at ho
    cases ho
    exact .inr ⟨hg, cur, cur.setIfInBounds i u, rfl, Cells.set (t := 66) h i u, by simp⟩
  · exact .inl ((Below.heap_setCell _ _ _ _ e).trans ho)
theorem Spoilt.below {lo : Nat} {w w' : World} (h : Spoilt lo w w') (hl : lo ≤ w.heap.size) : Below lo w w' := by
  refine ⟨h.os, h.tape, h.output, Nat.le_of_eq h.size.symm, fun r hr => ?_⟩
  rcases h.same r _ (Array.getElem?_eq_getElem (by omega)) with e | ⟨e, _⟩
  · rw [e]; exact (Array.getElem?_eq_getElem (by omega)).symm
  · omega
end Go.Proofs.YtgaooalckjjplaaGreatDoor

namespace Go.Proofs.YtgaooalckjjplaaGreatDoor
open Go.RowKit Go.Shelf Go.Maps Go.ChangeShapes Go.Joins Go.WideShapes

theorem cells2 {cs : List Value} (h : cs.length = 2) : ∃ c0 c1, cs = [c0, c1] := by
  match cs, h with
  | [c0, c1], _ => exact ⟨_, _, rfl⟩

set_option maxRecDepth 100000 in
theorem fld_in {H : Type} {enc : TypeId × Value → H} {W : World} {base : Nat} {sp : Nat → Bool} {held : Bool} {fuel : Nat} {cs : List Value} {x : DataW H × List MemPlace} (h : DataW.trod enc Tryz.prog W base sp held fuel 66 cs = some x) :
    ∃ f : List UInt8 × List UInt8, cs = [.string (B f.1), .string (B f.2)] ∧ f.1.length ≤ maxLen ∧ f.2.length ≤ maxLen := by
  obtain ⟨xs, m, _, _, hl, hxl, hf⟩ := DataW.trod_struct Tryz.underlying66 h
  have hl2 : cs.length = 2 := hl.trans (by kernel_rfl)
  obtain ⟨c0, c1, rfl⟩ := cells2 hl2
  have k9 : Tryz.prog.cellsOf 9 = 1 := by kernel_rfl
  have hx : ∀ i, i < 2 → ∃ y, xs[i]? = some y := fun i hi => ⟨_, List.getElem?_eq_getElem (by rw [hxl]; exact hi)⟩
  obtain ⟨y0, e0⟩ := hx 0 (by decide)
  obtain ⟨y1, e1⟩ := hx 1 (by decide)
  have q0 : DataW.trod enc Tryz.prog W base sp held m 9 (List.take (Tryz.prog.cellsOf 9) [c0, c1]) = _ := hf 0 _ rfl
  have q1 : DataW.trod enc Tryz.prog W base sp held m 9 (List.take (Tryz.prog.cellsOf 9) [c1]) = _ := hf 1 _ rfl
  rw [k9, e0] at q0
  rw [k9, e1] at q1
  obtain ⟨s, f0, _, w0⟩ := DataW.trod_string Tryz.underlying9 q0
  obtain ⟨t, f1, _, w1⟩ := DataW.trod_string Tryz.underlying9 q1
  simp at f0 f1
  subst f0 f1
  exact ⟨(s.data.toList, t.data.toList), by rw [B_of, B_of], by rw [← Lib.size_eq]; exact w0, by rw [← Lib.size_eq]; exact w1⟩
set_option maxRecDepth 100000 in
theorem flds_in {H : Type} {enc : TypeId × Value → H} {W : World} {base : Nat} {sp : Nat → Bool} {held : Bool} {fuel : Nat} {v : Value} {x : DataW H × List MemPlace} (h : DataW.trod enc Tryz.prog W base sp held fuel 46 [v] = some x) :
    ∃ fs, FldsIn W v fs := by
  rcases DataW.trod_slice Tryz.underlying46 h with ⟨e, _⟩ | ⟨a, len, cap, elems, rest, n, _, e, _, _, hl, hm, hlen, hel, _, _⟩
  · obtain rfl : v = .slice none 0 0 := by simpa using e
    exact ⟨[], ⟨⟨none, 0, rfl, Nat.le_refl _, fun i f h => by simp at h⟩, fun n c h => by cases h; rfl, Nat.zero_le _, fun f hf => by cases hf⟩⟩
  · obtain rfl : v = .slice (some a) len cap := by simpa using e
    have k2 : Tryz.prog.cellsOf 66 = 2 := by kernel_rfl
    have each : ∀ i, i < len → ∃ f : List UInt8 × List UInt8, (∃ b off, a = ⟨b, off, none⟩ ∧ b < W.heap.size ∧ W.cell? ⟨b, off + i * 2, none⟩ = some (.string (B f.1)) ∧ W.cell? ⟨b, off + i * 2 + 1, none⟩ = some (.string (B f.2))) ∧ f.1.length ≤ maxLen ∧ f.2.length ≤ maxLen := by
      intro i hi
      have h1 := hel i hi
      rw [k2, List.getElem?_eq_getElem (by omega)] at h1
      obtain ⟨cs, hc, ht⟩ := Option.bind_eq_some_iff.1 h1
      obtain ⟨f, rfl, hf1, hf2⟩ := fld_in ht
      obtain ⟨_, _, hat⟩ := World.cells?_some hc
      have c0 := hat 0 (by decide)
      have c1 := hat 1 (by decide)
      obtain ⟨b, off, spot⟩ := a
      have hspot : spot = none := by
        have h2 := hel 0 (by omega)
        rw [k2, List.getElem?_eq_getElem (by omega)] at h2
        obtain ⟨cs', hc', ht'⟩ := Option.bind_eq_some_iff.1 h2
        obtain ⟨f', rfl, _⟩ := fld_in ht'
        obtain ⟨_, hlen', hat'⟩ := World.cells?_some hc'
        have := World.cell?_spot (hat' 0 (by decide))
        simpa [Addr.add] using this
      subst hspot
      rw [WideShapes.add_plain] at c0 c1
      exact ⟨f, ⟨b, off, rfl, World.block_lt_of_cell? W _ c0, c0, c1⟩, hf1, hf2⟩
    have : ∃ g : Nat → List UInt8 × List UInt8, ∀ i, i < len → (∃ b off, a = ⟨b, off, none⟩ ∧ b < W.heap.size ∧ W.cell? ⟨b, off + i * 2, none⟩ = some (.string (B (g i).1)) ∧ W.cell? ⟨b, off + i * 2 + 1, none⟩ = some (.string (B (g i).2))) ∧ (g i).1.length ≤ maxLen ∧ (g i).2.length ≤ maxLen := by
      refine ⟨fun i => if h : i < len then (each i h).choose else ([], []), fun i hi => ?_⟩
      simp only [dif_pos hi]
      exact (each i hi).choose_spec
    obtain ⟨g, hg⟩ := this
    have hll : ((List.range len).map g).length = len := by simp
    refine ⟨(List.range len).map g, ⟨⟨some a, cap, by rw [hll], by rw [hll]; exact hl, fun i f hf => ?_⟩, (fun n c h => by cases h), by rw [hll]; omega, fun f hf => ?_⟩⟩
    · have hi : i < len := by
        rcases Nat.lt_or_ge i len with q | q
        · exact q
        · rw [List.getElem?_eq_none (by rw [hll]; exact q)] at hf; cases hf
      have e : f = g i := by
        rw [List.getElem?_map, List.getElem?_range hi] at hf
        exact (Option.some.inj hf).symm
      subst e
      obtain ⟨b, off, ea, hb, c0, c1⟩ := (hg i hi).1
      exact ⟨b, off, by rw [ea], hb, c0, c1⟩
    · obtain ⟨i, hi, rfl⟩ := List.mem_map.1 hf
      exact (hg i (List.mem_range.1 hi)).2
end Go.Proofs.YtgaooalckjjplaaGreatDoor

namespace Go.Proofs.YtgaooalckjjplaaGreatDoor
open Go.RowKit Go.Shelf Go.Maps Go.ChangeShapes Go.Joins Go.WideShapes

theorem cells3 {cs : List Value} (h : cs.length = 3) : ∃ c0 c1 c2, cs = [c0, c1, c2] := by
  match cs, h with
  | [c0, c1, c2], _ => exact ⟨_, _, _, rfl⟩
/-- A slice of items that came in. -/
structure ItsIn (w : World) (v : Value) (its : List It) : Prop where
  is_ : Its w v its
  len : its.length ≤ maxLen
  raw : ∀ it ∈ its, it.raw.length ≤ maxLen
  each : ∀ (i : Nat) (it : It), its[i]? = some it → ∃ b off n cap fv, v = .slice (some ⟨b, off, none⟩) n cap ∧ w.cell? ⟨b, off + i * 3 + 1 + 1, none⟩ = some fv ∧ FldsIn w fv it.fields
theorem its_of_own {w : World} {base : Nat} {v : Value} {its : List It} {fvs : List Value} (h : w.ownsRow base 89 3 v its.length (itemsCells its fvs)) (hl : fvs.length = its.length) (he : ∀ (j : Nat) it x, its[j]? = some it → fvs[j]? = some x → Flds w x it.fields) : Its w v its := by
  rcases Joins.ownsRow_forms h with ⟨e, hn⟩ | ⟨g, cap, e⟩
  · have : its = [] := List.length_eq_zero_iff.1 hn
    rw [e, this]
    exact ⟨none, 0, rfl, Nat.le_refl _, fun i it hi => by simp at hi⟩
  · refine ⟨some ⟨g, 0, none⟩, cap, e, (by rcases h.2 with ⟨q, _⟩ | ⟨g', cap', cur, q, _, _, q2, _⟩; · rw [e] at q; cases q
                                           · rw [e] at q; cases q; exact q2), fun i it hi => ?_⟩
    have hlt : i < its.length := by
      rcases Nat.lt_or_ge i its.length with q | q
      · exact q
      · rw [List.getElem?_eq_none q] at hi; cases hi
    obtain ⟨fv, hfv⟩ : ∃ fv, fvs[i]? = some fv := ⟨_, List.getElem?_eq_getElem (by rw [hl]; exact hlt)⟩
    obtain ⟨a0, a1, a2⟩ := itemsCells_at _ _ i it fv hi hfv
    rw [e] at h
    refine ⟨g, 0, fv, rfl, (World.ownsRow.lt h g rfl).2, ?_, ?_, ?_, he i it fv hi hfv⟩
    · rw [Nat.zero_add, World.ownsRow.cellAt h (i * 3) (by omega)]; exact a0
    · rw [Nat.zero_add, World.ownsRow.cellAt h (i * 3 + 1) (by omega)]; exact a1
    · rw [Nat.zero_add, World.ownsRow.cellAt h (i * 3 + 1 + 1) (by omega)]; exact a2
/-- The copies so far. -/
structure AccM (w wr : World) (v : Value) (fvs : List Value) (its : List It) : Prop where
  row : wr.ownsRow w.heap.size 89 3 v its.length (itemsCells its fvs)
  len : fvs.length = its.length
  each : ∀ (j : Nat) it x, its[j]? = some it → fvs[j]? = some x → wr.ownsRow w.heap.size 66 2 x it.fields.length (cellsF it.fields)
  below : Below w.heap.size w wr
theorem AccM.its {w wr : World} {v : Value} {fvs : List Value} {its : List It} (h : AccM w wr v fvs its) : Its wr v its :=
  its_of_own h.row h.len fun j it x h1 h2 => flds_of_own (h.each j it x h1 h2)
theorem AccM.nil {w wr : World} {v : Value} {fvs : List Value} {its : List It} (h : AccM w wr v fvs its) : NilI wr v its := by
  intro i b off n cap m c e hlt hcell
  obtain ⟨it, hi⟩ : ∃ it, its[i]? = some it := ⟨_, List.getElem?_eq_getElem hlt⟩
  obtain ⟨fv, hfv⟩ : ∃ fv, fvs[i]? = some fv := ⟨_, List.getElem?_eq_getElem (by rw [h.len]; exact hlt)⟩
  obtain ⟨_, _, a2⟩ := itemsCells_at _ _ i it fv hi hfv
  have hr := h.row
  rcases Joins.ownsRow_forms hr with ⟨e', hn⟩ | ⟨g, cap', e'⟩
  · omega
  · rw [e'] at e hr
    cases e
    rw [Nat.zero_add, World.ownsRow.cellAt hr (i * 3 + 1 + 1) (by omega), a2] at hcell
    cases hcell
    rcases (h.each i it _ hi hfv).2 with ⟨q, _⟩ | ⟨g', cap', cur, q, _⟩
    · cases q; rfl
    · cases q
theorem AccM.kept {w wr w2 : World} {v : Value} {fvs : List Value} {its : List It} (h : AccM w wr v fvs its) (hb : Below wr.heap.size wr w2) : AccM w w2 v fvs its :=
  ⟨own_kept h.row hb (Nat.le_refl _), h.len, fun j it x h1 h2 => own_kept (h.each j it x h1 h2) hb (Nat.le_refl _), h.below.trans (hb.mono h.below.size)⟩
theorem row42 {W w3 : World} {lo : Nat} {v x : Value} {n m : Nat} {xs ys : List Value} (hv : W.ownsRow lo 89 3 v n xs) (hx : W.ownsRow lo 66 2 x m ys) (hg : W.grownBy w3 v.ownBlock) : w3.ownsRow lo 66 2 x m ys := by
  refine row_same hx fun b hb => hg.block b (hx.lt b hb).2 (fun e => ?_)
  rcases hx.2 with ⟨rfl, _⟩ | ⟨g, cap, cur, rfl, _, hc, _⟩
  · cases hb
  · cases hb
    rcases hv.2 with ⟨rfl, _⟩ | ⟨g', cap', cur', rfl, _, hc', _⟩
    · cases e
    · have : g = g' := Option.some.inj e
      subst this
      rw [hc] at hc'
      injection hc' with hc'
      injection hc' with _ h2 _
      exact absurd h2 (by decide)
theorem AccM.snoc {w W w3 : World} {v v' x : Value} {fvs : List Value} {its : List It} {it : It} (h : AccM w W v fvs its) (hx : W.ownsRow w.heap.size 66 2 x it.fields.length (cellsF it.fields)) (ho : w3.ownsRow w.heap.size 89 3 v' (its.length + 1) (itemsCells its fvs ++ [.int .i64 it.kind, .string (B it.raw), x])) (o : Obj) (hg : (W.alloc o).grownBy w3 v.ownBlock) : AccM w w3 v' (fvs ++ [x]) (its ++ [it]) := by
  have h' := h.kept ((Below.refl W.heap.size W).alloc (Nat.le_refl _) o)
  have hx' := own_kept hx ((Below.refl W.heap.size W).alloc (Nat.le_refl _) o) (Nat.le_refl _)
  refine ⟨by rw [List.length_append, itemsCells_snoc _ _ _ _ h.len]; exact ho, by simp [h.len], fun j y s hy hs => ?_, h'.below.grown hg h'.below.size (fun k e => (h.row.lt k e).1)⟩
  rcases snoc_at hy with ⟨q, hy⟩ | ⟨q, rfl⟩
  · rw [List.getElem?_append_left (by rw [h.len]; exact q)] at hs
    exact row42 h'.row (h'.each j y s hy hs) hg
  · rw [q, ← h.len, List.getElem?_append_right (Nat.le_refl _)] at hs
    simp at hs
    subst hs; exact row42 h'.row hx' hg
end Go.Proofs.YtgaooalckjjplaaGreatDoor

namespace Go.Proofs.YtgaooalckjjplaaGreatDoor
open Go.RowKit Go.Shelf

/-- The items so far, of which each one's fields lie where they lay. -/
structure AccI (w wr : World) (v : Value) (fvs : List Value) (its : List It) : Prop where
  row : wr.ownsRow w.heap.size 89 3 v its.length (itemsCells its fvs)
  len : fvs.length = its.length
  each : ∀ (j : Nat) it x, its[j]? = some it → fvs[j]? = some x → Flds w x it.fields
  below : Below w.heap.size w wr
theorem AccI.its {w wr : World} {v : Value} {fvs : List Value} {its : List It} (h : AccI w wr v fvs its) : Its wr v its :=
  its_of_own h.row h.len fun j it x h1 h2 => (h.each j it x h1 h2).below h.below (Nat.le_refl _)
theorem AccI.kept {w wr w2 : World} {v : Value} {fvs : List Value} {its : List It} (h : AccI w wr v fvs its) (hb : Below wr.heap.size wr w2) : AccI w w2 v fvs its :=
  ⟨own_kept h.row hb (Nat.le_refl _), h.len, h.each, h.below.trans (hb.mono h.below.size)⟩
theorem AccI.snoc {w W w3 : World} {v v' x : Value} {fvs : List Value} {its : List It} {it : It} (h : AccI w W v fvs its) (hx : Flds w x it.fields) (ho : w3.ownsRow w.heap.size 89 3 v' (its.length + 1) (itemsCells its fvs ++ [.int .i64 it.kind, .string (B it.raw), x])) (o : Obj) (hg : (W.alloc o).grownBy w3 v.ownBlock) : AccI w w3 v' (fvs ++ [x]) (its ++ [it]) := by
  have h' := h.kept ((Below.refl W.heap.size W).alloc (Nat.le_refl _) o)
  refine ⟨by rw [List.length_append, itemsCells_snoc _ _ _ _ h.len]; exact ho, by simp [h.len], fun j y s hy hs => ?_, h'.below.grown hg h'.below.size (fun k e => (h.row.lt k e).1)⟩
  rcases snoc_at hy with ⟨q, hy⟩ | ⟨q, rfl⟩
  · rw [List.getElem?_append_left (by rw [h.len]; exact q)] at hs
    exact h.each j y s hy hs
  · rw [q, ← h.len, List.getElem?_append_right (Nat.le_refl _)] at hs
    simp at hs
    subst hs; exact hx
end Go.Proofs.YtgaooalckjjplaaGreatDoor

