/- A script of operations that came in; whether it is too long. -/
import Derived.Test.YtdfjkcdmbbmipaaYG
import Derived.Deep.Slices
import Derived.Deep.Fields
import Derived.ChangeSame
namespace Go.Proofs.Ytdfjkcdmbbmipaa
open Go.RowKit Go.Maps Go.ChangeShapes Go.Joins Go.WideShapes

/-- An operation. -/
structure OpV where
  kind : Int
  n : Int
  name : ByteArray
  text : ByteArray
  keep : Value
  ks : List Int
  ad : Addr
/-- What is known of one. -/
structure OpOk (W : World) (o : OpV) : Prop where
  ints : Ints W o.keep o.ks o.ad
  len : o.ks.length ≤ maxLen
  name : o.name.size ≤ maxLen
  text : o.text.size ≤ maxLen
  wk : (Lit.int .i64 o.kind).wf = true
  wn : (Lit.int .i64 o.n).wf = true
/-- An operation's cells from p on. -/
def OpCells (w : World) (o : OpV) (p : Addr) : Prop := w.cell? p = some (.int .i64 o.kind) ∧ w.cell? ⟨p.block, p.off + 1, none⟩ = some (.int .i64 o.n) ∧ w.cell? ⟨p.block, p.off + 2, none⟩ = some (.string o.name) ∧ w.cell? ⟨p.block, p.off + 3, none⟩ = some (.string o.text) ∧ w.cell? ⟨p.block, p.off + 4, none⟩ = some o.keep
/-- A slice of operations: v reads as ops wherever all that lay in W lies as it lay. -/
structure Script (W : World) (v : Value) (ops : List OpV) (a : Addr) : Prop where
  val : ∃ ao cap, v = .slice ao ops.length cap ∧ (0 < ops.length → ao = some a)
  lt : 0 < ops.length → a.block < W.heap.size
  cells : ∀ w', Below W.heap.size W w' → ∀ i (h : i < ops.length), OpCells w' ops[i] (a.add (i * 5))
  ok : ∀ o ∈ ops, OpOk W o
  len : ops.length ≤ maxLen
theorem cells5 {cs : List Value} (h : cs.length = 5) : ∃ c0 c1 c2 c3 c4, cs = [c0, c1, c2, c3, c4] := by
  match cs, h with
  | [c0, c1, c2, c3, c4], _ => exact ⟨_, _, _, _, _, rfl⟩
theorem op_in {H : Type} {enc : TypeId × Value → H} {W : World} {base : Nat} {sp : Nat → Bool} {held : Bool} {fuel : Nat} {cs : List Value} {x : DataW H × List MemPlace} (h : DataW.trod enc Try.prog W base sp held fuel 40 cs = some x) :
    ∃ o : OpV, cs = [.int .i64 o.kind, .int .i64 o.n, .string o.name, .string o.text, o.keep] ∧ OpOk W o := by
  obtain ⟨xs, m, _, _, hl, hxl, hf⟩ := DataW.trod_struct Try.underlying40 h
  have hl5 : cs.length = 5 := hl.trans (by kernel_rfl)
  obtain ⟨c0, c1, c2, c3, c4, rfl⟩ := cells5 hl5
  have k3 : Try.prog.cellsOf 3 = 1 := by kernel_rfl
  have k9 : Try.prog.cellsOf 9 = 1 := by kernel_rfl
  have k38 : Try.prog.cellsOf 38 = 1 := by kernel_rfl
  have hx : ∀ i, i < 5 → ∃ y, xs[i]? = some y := fun i hi => ⟨_, List.getElem?_eq_getElem (by rw [hxl]; exact hi)⟩
  obtain ⟨y0, e0⟩ := hx 0 (by decide)
  obtain ⟨y1, e1⟩ := hx 1 (by decide)
  obtain ⟨y2, e2⟩ := hx 2 (by decide)
  obtain ⟨y3, e3⟩ := hx 3 (by decide)
  obtain ⟨y4, e4⟩ := hx 4 (by decide)
  have q0 : DataW.trod enc Try.prog W base sp held m 3 (List.take (Try.prog.cellsOf 3) [c0, c1, c2, c3, c4]) = _ := hf 0 _ rfl
  have q1 : DataW.trod enc Try.prog W base sp held m 3 (List.take (Try.prog.cellsOf 3) [c1, c2, c3, c4]) = _ := hf 1 _ rfl
  have q2 : DataW.trod enc Try.prog W base sp held m 9 (List.take (Try.prog.cellsOf 9) [c2, c3, c4]) = _ := hf 2 _ rfl
  have q3 : DataW.trod enc Try.prog W base sp held m 9 (List.take (Try.prog.cellsOf 9) [c3, c4]) = _ := hf 3 _ rfl
  have q4 : DataW.trod enc Try.prog W base sp held m 38 (List.take (Try.prog.cellsOf 38) [c4]) = _ := hf 4 _ rfl
  rw [k3, e0] at q0
  rw [k3, e1] at q1
  rw [k9, e2] at q2
  rw [k9, e3] at q3
  rw [k38, e4] at q4
  obtain ⟨kind, f0, _, w0⟩ := DataW.trod_int Try.underlying3 q0
  obtain ⟨n, f1, _, w1⟩ := DataW.trod_int Try.underlying3 q1
  obtain ⟨name, f2, _, w2⟩ := DataW.trod_string Try.underlying9 q2
  obtain ⟨text, f3, _, w3⟩ := DataW.trod_string Try.underlying9 q3
  obtain ⟨ks, ad, hi, hkl⟩ := ints_in q4
  simp at f0 f1 f2 f3
  subst f0 f1 f2 f3
  exact ⟨⟨kind, n, name, text, c4, ks, ad⟩, rfl, ⟨hi, hkl, w2, w3, w0, w1⟩⟩
theorem script_in {H : Type} {enc : TypeId × Value → H} {W : World} {base : Nat} {sp : Nat → Bool} {held : Bool} {fuel : Nat} {v : Value} {x : DataW H × List MemPlace} (h : DataW.trod enc Try.prog W base sp held fuel 22 [v] = some x) :
    ∃ ops a, Script W v ops a := by
  rcases DataW.trod_slice Try.underlying22 h with ⟨e, _⟩ | ⟨a, len, cap, elems, rest, n, _, e, _, _, hl, hm, hlen, hel, _, _⟩
  · obtain rfl : v = .slice none 0 0 := by simpa using e
    exact ⟨[], ⟨0, 0, none⟩, ⟨none, 0, rfl, fun h => by simp at h⟩, fun h => by simp at h, fun _ _ i h => by simp at h, (fun o ho => by cases ho), Nat.zero_le _⟩
  · obtain rfl : v = .slice (some a) len cap := by simpa using e
    have k5 : Try.prog.cellsOf 40 = 5 := by kernel_rfl
    have each : ∀ i, i < len → ∃ o : OpV, OpCells W o (a.add (i * 5)) ∧ OpOk W o := by
      intro i hi
      have h1 := hel i hi
      rw [k5, List.getElem?_eq_getElem (by omega)] at h1
      obtain ⟨cs, hc, ht⟩ := Option.bind_eq_some_iff.1 h1
      obtain ⟨o, rfl, hok⟩ := op_in ht
      obtain ⟨_, _, hat⟩ := World.cells?_some hc
      exact ⟨o, ⟨hat 0 (by decide), hat 1 (by decide), hat 2 (by decide), hat 3 (by decide), hat 4 (by decide)⟩, hok⟩
    have : ∃ f : Nat → OpV, ∀ i, i < len → OpCells W (f i) (a.add (i * 5)) ∧ OpOk W (f i) := by
      refine ⟨fun i => if h : i < len then (each i h).choose else ⟨0, 0, ⟨#[]⟩, ⟨#[]⟩, .nilFunc, [], a⟩, fun i hi => ?_⟩
      simp only [dif_pos hi]
      exact (each i hi).choose_spec
    obtain ⟨f, hf⟩ := this
    have hll : ((List.range len).map f).length = len := by simp
    refine ⟨(List.range len).map f, a, ⟨some a, cap, by rw [hll], fun _ => rfl⟩, fun h => ?_, fun w' hb i hi => ?_, fun o ho => ?_, by rw [hll]; omega⟩
    · rw [hll] at h
      have h1 := (hf 0 h).1.1
      have := World.block_lt_of_cell? W _ h1
      rwa [add_block] at this
    · rw [hll] at hi
      obtain ⟨h0, h1, h2, h3, h4⟩ := (hf i hi).1
      have hlt : (a.add (i * 5)).block < W.heap.size := World.block_lt_of_cell? W _ h0
      have e : ((List.range len).map f)[i]'(by rw [hll]; exact hi) = f i := by simp
      rw [e]
      exact ⟨(hb.cell hlt).trans h0, (hb.cell (p := ⟨_, _, none⟩) hlt).trans h1, (hb.cell (p := ⟨_, _, none⟩) hlt).trans h2, (hb.cell (p := ⟨_, _, none⟩) hlt).trans h3, (hb.cell (p := ⟨_, _, none⟩) hlt).trans h4⟩
    · obtain ⟨i, hi, rfl⟩ := List.mem_map.1 ho
      exact (hf i (List.mem_range.1 hi)).2

theorem OpOk.below {W W' : World} {o : OpV} (h : OpOk W o) (hb : Below W.heap.size W W') : OpOk W' o :=
  ⟨⟨h.ints.val, fun w' h' => h.ints.cells w' (hb.trans (h'.mono hb.size)), h.ints.wf⟩, h.len, h.name, h.text, h.wk, h.wn⟩
theorem Script.below {W W' : World} {v : Value} {ops : List OpV} {a : Addr} (h : Script W v ops a) (hb : Below W.heap.size W W') : Script W' v ops a :=
  ⟨h.val, fun hl => Nat.lt_of_lt_of_le (h.lt hl) hb.size, fun w' h' => h.cells w' (hb.trans (h'.mono hb.size)), fun o ho => (h.ok o ho).below hb, h.len⟩
/-- What is short enough to be played. -/
def shortOp (o : OpV) : Prop := o.text.size ≤ 200 ∧ o.name.size ≤ 100 ∧ o.ks.length ≤ 60
def Short (ops : List OpV) : Prop := ops.length ≤ 61 ∧ ∀ i (h : i < ops.length), shortOp ops[i]
end Go.Proofs.Ytdfjkcdmbbmipaa
