/- A strings.Builder in a block of its own, its row from R on: what WriteString does to the world, block by block. -/
import Derived.Test.YtngngamfceoklaaDoorRF
import Derived.Test.YtngngamfceoklaaDoorS
import Derived.Shelf.Strings.BuilderK
import Derived.Lib.FrozenHead
namespace Go.Proofs.YtngngamfceoklaaDoor
open Go.RowKit Go.Shelf

theorem laid166 : Lays.n166 Tryd.prog Tryd.lays156_ren := { Tryd.lays156 with }
theorem laid240 : Lays.n240 Tryd.prog Tryd.lays156_ren := { Tryd.lays156 with }

/-- The builder in block b holds the bytes l; its row lies from R on. -/
def Bld (b R : Nat) (l : List UInt8) (W : World) : Prop :=
  ∃ p v, W.heap[b]? = some (.cells #[p, v] 85 (0, 0)) ∧ (p = .pointer none ∨ p = .pointer (some ⟨b, 0, none⟩)) ∧ W.ownsRow R 5 1 v l.length (Lib.byteCells l)

/-- Whatever lay below R lies as it lay, but block b. -/
structure Wrote (b R : Nat) (W W' : World) : Prop where
  os : W'.os = W.os
  tape : W'.tape = W.tape
  output : W'.output = W.output
  size : W.heap.size ≤ W'.heap.size
  same : ∀ r, r < R → r < W.heap.size → r ≠ b → W'.heap[r]? = W.heap[r]?
  others : Lib.OthersKept 5 (some b) W W'

theorem Wrote.refl (b R : Nat) (W : World) : Wrote b R W W := ⟨rfl, rfl, rfl, Nat.le_refl _, fun _ _ _ _ => rfl, Lib.OthersKept.refl _ _ _⟩
theorem Wrote.trans {b R : Nat} {X Y Z : World} (h : Wrote b R X Y) (g : Wrote b R Y Z) : Wrote b R X Z :=
  ⟨g.os.trans h.os, g.tape.trans h.tape, g.output.trans h.output, Nat.le_trans h.size g.size, fun r a c e => (g.same r a (Nat.lt_of_lt_of_le c h.size) e).trans (h.same r a c e), h.others.trans g.others⟩
theorem Wrote.grown {b R : Nat} {X Y Z : World} (h : Wrote b R X Y) {row : Option Nat} (hg : Y.grownBy Z row) (hr : ∀ r, row = some r → R ≤ r ∧ ∃ c fz, Y.heap[r]? = some (.cells c 5 fz)) : Wrote b R X Z :=
  h.trans ⟨hg.os, hg.tape, hg.output, hg.size, fun r a c e => hg.block r c (fun e2 => by have := (hr r e2.symm).1; omega), (Lib.OthersKept.refl _ _ _).grown hg (fun g e => (hr g e).2)⟩
theorem Wrote.put {b R : Nat} {X Y : World} (h : Wrote b R X Y) (j : Nat) (u : Value) : Wrote b R X (Y.setCell ⟨b, j, none⟩ u) :=
  h.trans ⟨rfl, rfl, rfl, by simp [World.setCell], fun r _ _ e => Below.heap_setCell _ _ _ _ e, Lib.OthersKept.setCell (b := b) (Lib.OthersKept.refl _ _ Y) ⟨b, j, none⟩ rfl u⟩
theorem Wrote.other {b R c : Nat} {X Y : World} {cs : Array Value} {t : TypeId} (h : Wrote b R X Y) (hc : X.heap[c]? = some (.cells cs t (0, 0))) (hne : c ≠ b) (ht : t ≠ 5) : Y.heap[c]? = some (.cells cs t (0, 0)) :=
  h.others c _ hc (fun e => hne (Option.some.inj e)) (fun c' fz e => ht (by injection e))
theorem Wrote.alloc {b R : Nat} {X Y : World} (h : Wrote b R X Y) (o : Obj) : Wrote b R X (Y.alloc o) :=
  h.grown (World.grownBy_alloc Y o none) (fun r e => by cases e)
theorem Wrote.drew {b R : Nat} {X Y : World} (h : Wrote b R X Y) : Wrote b R X Y.drew := ⟨h.os, h.tape, h.output, h.size, h.same, h.others⟩
theorem Wrote.below {b R n : Nat} {X Y : World} (h : Wrote b R X Y) (hb : n ≤ b) (hR : n ≤ R) (hs : n ≤ X.heap.size) : Below n X Y :=
  ⟨h.os, h.tape, h.output, h.size, fun r a => h.same r (by omega) (by omega) (by omega)⟩
theorem Wrote.stay {b R B k : Nat} {X Y : World} (h : Wrote b R X Y) (hb : b < B) (hR : B + k ≤ R) (hs : B + k ≤ X.heap.size) : Stay B k X Y :=
  ⟨h.size, fun r a c => h.same r (by omega) (by omega) (by omega)⟩
theorem Wrote.box {b R c : Nat} {X Y : World} {t : TypeId} {v : Value} (h : Wrote b R X Y) (hv : Boxed X c t v) (hc : c < R) (hne : c ≠ b) : Boxed Y c t v :=
  (h.same c hc hv.lt hne).trans hv

theorem Bld.lt {b R : Nat} {l : List UInt8} {W : World} (h : Bld b R l W) : b < W.heap.size := by
  obtain ⟨p, v, hb, _⟩ := h
  exact (Array.getElem?_eq_some_iff.1 hb).1
theorem Bld.alloc {b R : Nat} {l : List UInt8} {W : World} (h : Bld b R l W) (o : Obj) : Bld b R l (W.alloc o) := by
  have hlt := h.lt
  obtain ⟨p, v, hb, hp, hv⟩ := h
  exact ⟨p, v, (Below.heap_alloc _ _ _ hlt).trans hb, hp, hv.alloc _⟩
theorem Bld.new (w : World) (R : Nat) : Bld w.heap.size R [] (w.alloc (.cells #[.pointer none, .slice none 0 0] 85)) :=
  ⟨_, _, World.alloc_heap_new w _, .inl rfl, by simp [Lib.byteCells], .inl ⟨rfl, rfl⟩⟩
theorem Bld.turned {b R B k : Nat} {l : List UInt8} {W W' : World} (h : Bld b R l W) (ht : Turned B k W W') (hb : b < B) (hR : B + k ≤ R) : Bld b R l W' := by
  have hlt := h.lt
  obtain ⟨p, v, hb', hp, hv⟩ := h
  refine ⟨p, v, (ht.same b hlt (.inl hb)).trans hb', hp, ?_⟩
  exact ht.row hv (fun g e => .inr (by have := (hv.lt g e).1; omega))
/-- As the library's builder. -/
theorem Bld.library {b R B : Nat} {l : List UInt8} {W : World} (h : Bld b R l W) (hB : B ≤ b) (hR : B ≤ R) : Lib.IsBuilderF 85 5 B b (Lib.byteCells l) W := by
  obtain ⟨p, v, hb, hp, hv⟩ := h
  have hv2 : W.ownsRow B 5 1 v (Lib.byteCells l).length (Lib.byteCells l) := by
    rw [Lib.byteCells_length]
    refine ⟨hv.1, ?_⟩
    rcases hv.2 with hn | ⟨g, cap, cur, e1, e2, rest⟩
    · exact .inl hn
    · exact .inr ⟨g, cap, cur, e1, Nat.le_trans hR e2, rest⟩
  have hne : v.ownBlock ≠ some b := Lib.ownBlock_ne hv hb (by decide)
  refine Lib.IsBuilderF.of ?_
  rcases hp with rfl | rfl
  · exact .inl ⟨hB, v, hb, hv2, hne⟩
  · exact .inr ⟨hB, v, hb, hv2, hne⟩

set_option maxHeartbeats 2000000 in
set_option maxRecDepth 100000 in
theorem writes (b R : Nat) (l : List UInt8) (s : ByteArray) (w : World) (h : Bld b R l w) (hbR : b < R) (hR : R ≤ w.heap.size) (hlen : l.length + s.size ≤ 140737488355328) :
    Calls Tryd.prog 35 #[.pointer (some ⟨b, 0, none⟩), .string s] w fun e w' => e = .returned (.tuple #[.int .i64 s.size, .nilIface]) ∧ Bld b R (l ++ s.data.toList) w' ∧ Wrote b R w w' := by
  obtain ⟨i0, hi, hz0, hz1, hz2⟩ := info_parts Tryd.Builder_Extra_156.infoByte
  have hcopy : Calls Tryd.prog 51 #[.pointer (some ⟨b, 0, none⟩)] w fun e w' => e = .returned (.tuple #[]) ∧ (∃ v, w'.heap[b]? = some (.cells #[.pointer (some ⟨b, 0, none⟩), v] 85 (0, 0)) ∧ w'.ownsRow R 5 1 v l.length (Lib.byteCells l)) ∧ Wrote b R w w' := by
    obtain ⟨p, v, hb, hp, hv⟩ := h
    have hlt : b < w.heap.size := (Array.getElem?_eq_some_iff.1 hb).1
    rcases hp with rfl | rfl
    · refine (Any.Builder_copyCheck_fresh laid240 Tryd.Builder_Extra_156.toX72 b w ?_ ?_ ?_).mono ?_
      · rw [Lib.cell_of_heap hb]; rfl
      · simp [World.shape?, hb]; rfl
      · exact Lib.frozen_of_heap hb 0
      rintro e w' ⟨rfl, rfl⟩
      refine ⟨rfl, ⟨v, ?_, ?_⟩, ?_⟩
      · simp [World.setCell, Array.getElem?_modify, hb]
      · exact hv.kept (grownBy_setCell' w b _) (by
          cases hvb : v.ownBlock with
          | none => exact .inl rfl
          | some g => exact .inr (fun e => by have := (hv.lt g hvb).1; have := Option.some.inj e; omega))
      · exact (Wrote.refl b R w).put 0 _
    · refine (Any.Builder_copyCheck_used laid240 Tryd.Builder_Extra_156.toX72 b w ?_).mono ?_
      · rw [Lib.cell_of_heap hb]; rfl
      rintro e w' ⟨rfl, rfl⟩
      exact ⟨rfl, ⟨v, hb, hv⟩, Wrote.refl b R _⟩
  go_enter Tryd.func35, Tryd.ntmps35
  go_wp2_with (go_at_call 51; refine hcopy.mono ?_)
  rintro e w1 ⟨rfl, ⟨v, hbk, hown⟩, hw1⟩
  have c0 : w1.cell? ⟨b, 0, none⟩ = some (.pointer (some ⟨b, 0, none⟩)) := by rw [Lib.cell_of_heap hbk]; rfl
  have c1 : w1.cell? ⟨b, 1, none⟩ = some v := by rw [Lib.cell_of_heap hbk]; rfl
  go_wp2_with (at_builtin; refine Lib.wpList_append_own_string _ rfl _ _ 83 9 rfl R 5 i0 Tryd.underlying83 Tryd.underlying9 hi hz0 hz1 hz2 _ _ _ rfl hown s rfl ?c3 ?c4 ?c5 ?_)
  case c3 => unfold maxLen; omega
  case c4 => omega
  case c5 => have := hw1.size; omega
  intro v' w2 hown' hgrow _
  have hlt : b < w1.heap.size := (Array.getElem?_eq_some_iff.1 hbk).1
  have hrow : ∀ r, v.ownBlock = some r → R ≤ r := fun r e => (hown.lt r e).1
  have hb2 : w2.heap[b]? = some (.cells #[.pointer (some ⟨b, 0, none⟩), v] 85 (0, 0)) := by
    rw [hgrow.block b hlt (fun e => by have := hrow b e.symm; omega)]
    exact hbk
  have d0 : w2.cell? ⟨b, 0, none⟩ = some (.pointer (some ⟨b, 0, none⟩)) := by rw [Lib.cell_of_heap hb2]; rfl
  have d1 : w2.cell? ⟨b, 1, none⟩ = some v := by rw [Lib.cell_of_heap hb2]; rfl
  have f1 : w2.frozen? ⟨b, 1, none⟩ = false := Lib.frozen_of_heap hb2 1
  obtain ⟨ao, n', cap, rfl⟩ : ∃ ao n' cap, v' = .slice ao n' cap := by
    rcases hown'.2 with ⟨hv, _⟩ | ⟨g, cap, cur, hv, _⟩
    · exact ⟨_, _, _, hv⟩
    · exact ⟨_, _, _, hv⟩
  go_wp2
  go_ret2
  have hset : w2.grownBy (w2.setCell ⟨b, 1, none⟩ (.slice ao n' cap)) (some b) :=
    ⟨rfl, rfl, rfl, by simp [World.setCell], fun k _ hk => Below.heap_setCell _ _ _ k (fun e => hk (by rw [e]))⟩
  refine ⟨rfl, ⟨.pointer (some ⟨b, 0, none⟩), .slice ao n' cap, ?_, .inr rfl, ?_⟩, ?_⟩
  · simp [World.setCell, Array.getElem?_modify, hb2]
  · rw [List.length_append, ← Lib.size_eq, Lib.byteCells_append, ← Lib.strCells_eq]
    refine hown'.kept hset ?_
    cases hvb : (Value.slice ao n' cap).ownBlock with
    | none => exact .inl rfl
    | some g => exact .inr (fun e => by have := (hown'.lt g hvb).1; have := Option.some.inj e; omega)
  · refine (hw1.grown hgrow (fun r e => ⟨hrow r e, ?_⟩)).put 1 _
    rcases hown.2 with ⟨hn, _⟩ | ⟨g, cap, cur, hv, _, hg, _⟩
    · rw [hn] at e; cases e
    · rw [hv] at e
      cases e
      exact ⟨_, _, hg⟩
end Go.Proofs.YtngngamfceoklaaDoor
