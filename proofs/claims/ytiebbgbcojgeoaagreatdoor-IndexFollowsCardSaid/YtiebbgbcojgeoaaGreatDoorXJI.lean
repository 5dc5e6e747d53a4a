/- Edits that came in: their numbers are numbers. -/
import Derived.Test.YtiebbgbcojgeoaaGreatDoorBas0
set_option linter.unusedVariables false
namespace Go.Proofs.YtiebbgbcojgeoaaGreatDoor
open Go.RowKit Go.Shelf Go.Maps Go.ChangeShapes Go.Joins Go.WideShapes
attribute [local go_sem] Oper.semAt_some

set_option maxRecDepth 100000 in
theorem edit_wf {H : Type} {enc : TypeId × Value → H} {W : World} {base : Nat} {sp : Nat → Bool} {held : Bool} {fuel : Nat} {cs : List Value} {x : DataW H × List MemPlace} (h : DataW.trod enc Tryz.prog W base sp held fuel 38 cs = some x) :
    ∃ ed fv, EdIn W cs ed fv ∧ (Lit.int .i64 ed.id).wf = true := by
  obtain ⟨xs, m, _, _, hl, hxl, hf⟩ := DataW.trod_struct Tryz.underlying38 h
  have hl2 : cs.length = 3 := hl.trans (by kernel_rfl)
  obtain ⟨c0, c1, c2, rfl⟩ := cells3 hl2
  have k3 : Tryz.prog.cellsOf 3 = 1 := by kernel_rfl
  have k40 : Tryz.prog.cellsOf 36 = 1 := by kernel_rfl
  have hx : ∀ i, i < 3 → ∃ y, xs[i]? = some y := fun i hi => ⟨_, List.getElem?_eq_getElem (by rw [hxl]; exact hi)⟩
  obtain ⟨y0, e0⟩ := hx 0 (by decide)
  obtain ⟨y1, e1⟩ := hx 1 (by decide)
  obtain ⟨y2, e2⟩ := hx 2 (by decide)
  have q0 : DataW.trod enc Tryz.prog W base sp held m 3 (List.take (Tryz.prog.cellsOf 3) [c0, c1, c2]) = _ := hf 0 _ rfl
  have q1 : DataW.trod enc Tryz.prog W base sp held m 3 (List.take (Tryz.prog.cellsOf 3) [c1, c2]) = _ := hf 1 _ rfl
  have q2 : DataW.trod enc Tryz.prog W base sp held m 36 (List.take (Tryz.prog.cellsOf 36) [c2]) = _ := hf 2 _ rfl
  rw [k3, e0] at q0
  rw [k3, e1] at q1
  rw [k40, e2] at q2
  obtain ⟨kind, f0, _, _⟩ := DataW.trod_int Tryz.underlying3 q0
  obtain ⟨id, f1, _, hwf⟩ := DataW.trod_int Tryz.underlying3 q1
  obtain ⟨fs, hfs⟩ := flds_in (v := c2) q2
  simp at f0 f1
  subst f0 f1
  exact ⟨⟨kind, id, fs⟩, c2, ⟨rfl, hfs⟩, hwf⟩
set_option maxRecDepth 100000 in
theorem edits_wf {H : Type} {enc : TypeId × Value → H} {W : World} {base : Nat} {sp : Nat → Bool} {held : Bool} {fuel : Nat} {v : Value} {x : DataW H × List MemPlace} (h : DataW.trod enc Tryz.prog W base sp held fuel 22 [v] = some x) :
    ∃ eds, EdsIn W v eds ∧ ∀ ed ∈ eds, (Lit.int .i64 ed.id).wf = true := by
  rcases DataW.trod_slice Tryz.underlying22 h with ⟨e, _⟩ | ⟨a, len, cap, elems, rest, n, _, e, _, _, hl, hm, hlen, hel, _, _⟩
  · obtain rfl : v = .slice none 0 0 := by simpa using e
    exact ⟨[], ⟨Nat.zero_le _, none, 0, rfl, Nat.le_refl _, fun i f h => by simp at h⟩, fun ed h => by cases h⟩
  · obtain rfl : v = .slice (some a) len cap := by simpa using e
    have k3 : Tryz.prog.cellsOf 38 = 3 := by kernel_rfl
    have each : ∀ i, i < len → ∃ ed : Ed, ∃ b off fv, a = ⟨b, off, none⟩ ∧ b < W.heap.size ∧ W.cell? ⟨b, off + i * 3, none⟩ = some (.int .i64 ed.kind) ∧ W.cell? ⟨b, off + i * 3 + 1, none⟩ = some (.int .i64 ed.id) ∧ W.cell? ⟨b, off + i * 3 + 1 + 1, none⟩ = some fv ∧ FldsIn W fv ed.fields ∧ (Lit.int .i64 ed.id).wf = true := by
      intro i hi
      have h1 := hel i hi
      rw [k3, List.getElem?_eq_getElem (by omega)] at h1
      obtain ⟨cs, hc, ht⟩ := Option.bind_eq_some_iff.1 h1
      obtain ⟨ed, fv, ⟨rfl, hf⟩, hwf⟩ := edit_wf ht
      obtain ⟨_, _, hat⟩ := World.cells?_some hc
      have c0 := hat 0 (by decide)
      have c1 := hat 1 (by decide)
      have c2 := hat 2 (by decide)
      obtain ⟨b, off, spot⟩ := a
      have hspot : spot = none := by
        have h2 := hel 0 (by omega)
        rw [k3, List.getElem?_eq_getElem (by omega)] at h2
        obtain ⟨cs', hc', ht'⟩ := Option.bind_eq_some_iff.1 h2
        obtain ⟨ed', fv', ⟨rfl, _⟩, _⟩ := edit_wf ht'
        obtain ⟨_, hlen', hat'⟩ := World.cells?_some hc'
        have := World.cell?_spot (hat' 0 (by decide))
        simpa [Addr.add] using this
      subst hspot
      rw [WideShapes.add_plain] at c0 c1 c2
      exact ⟨ed, b, off, fv, rfl, World.block_lt_of_cell? W _ c0, c0, c1, c2, hf, hwf⟩
    have : ∃ g : Nat → Ed, ∀ i, i < len → ∃ b off fv, a = ⟨b, off, none⟩ ∧ b < W.heap.size ∧ W.cell? ⟨b, off + i * 3, none⟩ = some (.int .i64 (g i).kind) ∧ W.cell? ⟨b, off + i * 3 + 1, none⟩ = some (.int .i64 (g i).id) ∧ W.cell? ⟨b, off + i * 3 + 1 + 1, none⟩ = some fv ∧ FldsIn W fv (g i).fields ∧ (Lit.int .i64 (g i).id).wf = true := by
      refine ⟨fun i => if h : i < len then (each i h).choose else ⟨0, 0, []⟩, fun i hi => ?_⟩
      simp only [dif_pos hi]
      exact (each i hi).choose_spec
    obtain ⟨g, hg⟩ := this
    have hll : ((List.range len).map g).length = len := by simp
    refine ⟨(List.range len).map g, ⟨by rw [hll]; omega, some a, cap, by rw [hll], by rw [hll]; exact hl, fun i ed hi => ?_⟩, fun ed hed => ?_⟩
    rotate_left
    · obtain ⟨i, hi, rfl⟩ := List.mem_map.1 hed
      obtain ⟨_, _, _, _, _, _, _, _, _, q⟩ := hg i (List.mem_range.1 hi)
      exact q
    have hlt : i < len := by
      rcases Nat.lt_or_ge i len with q | q
      · exact q
      · rw [List.getElem?_eq_none (by rw [hll]; exact q)] at hi; cases hi
    rw [List.getElem?_map, List.getElem?_range hlt] at hi
    obtain rfl := (Option.some.inj hi).symm
    obtain ⟨b, off, fv, ea, hb, c0, c1, c2, hf, _⟩ := hg i hlt
    exact ⟨b, off, fv, by rw [ea], hb, c0, c1, c2, hf⟩
end Go.Proofs.YtiebbgbcojgeoaaGreatDoor
