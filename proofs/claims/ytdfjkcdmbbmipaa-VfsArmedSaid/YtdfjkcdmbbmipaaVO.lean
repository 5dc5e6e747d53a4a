/- What a file is behind so many units, in all cases; what waits of a file made sure: (*file).keep. -/
import Derived.Test.YtdfjkcdmbbmipaaVN
namespace Go.Proofs.Ytdfjkcdmbbmipaa
open Go.RowKit

set_option maxRecDepth 100000 in
set_option maxHeartbeats 2000000 in
theorem after_nil (gf o : Nat) (sure : ByteArray) (u0 : Int) (w : World)
    (hs : w.cell? ⟨gf, o, none⟩ = some (.string sure)) (hv : w.cell? ⟨gf, o + 1, none⟩ = some (.slice none 0 0)) (hgf : gf < w.heap.size) (hlen : sure.size ≤ 1000000) :
    Calls Try.prog 54 #[.pointer (some ⟨gf, o, none⟩), .int .i64 u0] w fun e w' => e = .returned (.string ⟨sure.data.toList.toArray⟩) ∧ Below w.heap.size w w' := by
  have hcv := Lib.run_convert_string_bytes (P := Try.prog) w 9 146 5 sure Try.underlying9 Try.underlying146 Try.underlying5
  have hbr := BRow.made w 5 sure (by omega)
  have hon := bytesWorld_only (S := fun _ => False) w 5 sure
  generalize Lib.bytesWorld w 5 sure = W1 at *
  generalize grownCap w sure.size 0 5 = cap1 at *
  have hb1 : Below w.heap.size w W1 := hon.to_below (Nat.le_refl _) (fun _ _ h => h)
  have hv1 := (hb1.cell (p := ⟨gf, o + 1, none⟩) hgf).trans hv
  have hcv2 := hbr.back 146 9 5 Try.underlying146 Try.underlying5 Try.underlying9
  have HB := Lib.hid hb1
  clear hbr hb1 hon
  go_enter Try.func54, Try.ntmps54
  go_wp2
  go_loopw [5, 19] (fun b i wr => b = .slice (some ⟨w.heap.size, 0, none⟩) sure.size cap1 ∧ i = .int .i64 0 ∧ wr = W1) (fun _ i _ => 0)
  case atStart => exact ⟨rfl, rfl, rfl⟩
  case round =>
    obtain ⟨rfl, rfl, rfl⟩ := hrel
    go_wp2
    go_ret
    exact ⟨rfl, HB.out⟩

/-- A file's cells from o on, and what waits. -/
structure FileAt (w : World) (gf o : Nat) (sure : ByteArray) (vw : Value) (l : List ActA) (size : Int) : Prop where
  c0 : w.cell? ⟨gf, o, none⟩ = some (.string sure)
  c1 : w.cell? ⟨gf, o + 1, none⟩ = some vw
  c2 : w.cell? ⟨gf, o + 2, none⟩ = some (.int .i64 size)
  row : w.ownsRow 0 94 5 vw l.length (actsCells l)
theorem FileAt.below {w w' : World} {gf o : Nat} {sure : ByteArray} {vw : Value} {l : List ActA} {size : Int} {B : Nat} (h : FileAt w gf o sure vw l size) (hb : Below B w w') (hB : w.heap.size ≤ B) (hgf : gf < w.heap.size) : FileAt w' gf o sure vw l size :=
  ⟨(hb.cell (p := ⟨gf, o, none⟩) (by simp only; omega)).trans h.c0, (hb.cell (p := ⟨gf, o + 1, none⟩) (by simp only; omega)).trans h.c1, (hb.cell (p := ⟨gf, o + 2, none⟩) (by simp only; omega)).trans h.c2, row_below h.row hb hB⟩

theorem after_any (gf o : Nat) (sure : ByteArray) (vw : Value) (l : List ActA) (size : Int) (u0 : Int) (w : World) (h : FileAt w gf o sure vw l size) (hgf : gf < w.heap.size)
    (hf : fitsW l sure.size) (hlen : sure.size + lenW l ≤ 1000000) (hw : (Lit.int .i64 u0).wf = true) (hk : ∀ a ∈ l, a.kind ≤ 1000000) (hl : l.length ≤ 1000000) :
    Calls Try.prog 54 #[.pointer (some ⟨gf, o, none⟩), .int .i64 u0] w fun e w' => e = .returned (.string ⟨(afterF l u0 sure.data.toList).toArray⟩) ∧ Below w.heap.size w w' := by
  rcases h.row.2 with ⟨rfl, h0⟩ | ⟨g, cap, cur, rfl, _⟩
  · have : l = [] := List.eq_nil_of_length_eq_zero h0
    subst this
    exact after_nil gf o sure u0 w h.c0 h.c1 hgf (by simpa [lenW] using hlen)
  · exact after_some gf o sure g cap 0 l u0 w h.c0 h.c1 hgf h.row hf hlen hw hk hl

set_option maxRecDepth 100000 in
set_option maxHeartbeats 2000000 in
theorem fkeep_any (gf o : Nat) (cur : Array Value) (sure : ByteArray) (vw : Value) (l : List ActA) (size : Int) (u0 : Int) (w : World) (hc : Cells w gf 105 cur) (h : FileAt w gf o sure vw l size)
    (hf : fitsW l sure.size) (hlen : sure.size + lenW l ≤ 1000000) (hw : (Lit.int .i64 u0).wf = true) (hk : ∀ a ∈ l, a.kind ≤ 1000000) (hl : l.length ≤ 1000000) :
    Calls Try.prog 53 #[.pointer (some ⟨gf, o, none⟩), .int .i64 u0] w fun e w' => e = .returned (.tuple #[]) ∧
      Cells w' gf 105 (((cur.setIfInBounds o (.string ⟨(afterF l u0 sure.data.toList).toArray⟩)).setIfInBounds (o + 1) (.slice none 0 0)).setIfInBounds (o + 2) (.int .i64 (afterF l u0 sure.data.toList).length)) ∧ Only (· = gf) w w' := by
  have C := after_any gf o sure vw l size u0 w h hc.lt hf hlen hw hk hl
  have hz : (⟨(afterF l u0 sure.data.toList).toArray⟩ : ByteArray).size = (afterF l u0 sure.data.toList).length := by rw [Lib.size_eq]
  generalize (⟨(afterF l u0 sure.data.toList).toArray⟩ : ByteArray) = res at *
  generalize (afterF l u0 sure.data.toList).length = n at *
  obtain ⟨c0, c1, c2, _⟩ := h
  have HC := Lib.hid C
  have hgl := hc.lt
  clear C hlen hl
  subst hz
  have G := fun w1 (hb : Below w.heap.size w w1) => show Cells w1 gf 105 cur from hc.below hb hgl
  have G0 : cur[o]? = some (.string sure) := by rw [← hc.cell]; exact c0
  have G1 : cur[o + 1]? = some vw := by rw [← hc.cell]; exact c1
  have G2 : cur[o + 2]? = some (.int .i64 size) := by rw [← hc.cell]; exact c2
  go_enter Try.func53, Try.ntmps53
  go_wp2_with fail
  refine HC.out.mono ?_
  rintro e w1 ⟨rfl, hb⟩
  have g1 := G w1 hb
  have k0 : w1.cell? ⟨gf, o, none⟩ = some (.string sure) := (g1.cell _).trans G0
  have k1 : w1.cell? ⟨gf, o + 1, none⟩ = some vw := (g1.cell _).trans G1
  have k2 : w1.cell? ⟨gf, o + 2, none⟩ = some (.int .i64 size) := (g1.cell _).trans G2
  have f0 := g1.frozen o
  have f1 := g1.frozen (o + 1)
  have f2 := g1.frozen (o + 2)
  have P := Lib.hid (show Cells (((w1.setCell ⟨gf, o, none⟩ (.string res)).setCell ⟨gf, o + 1, none⟩ (.slice none 0 0)).setCell ⟨gf, o + 2, none⟩ (.int .i64 res.size)) gf 105 _ ∧ Only (· = gf) w _ from
    ⟨((g1.set o (.string res)).set (o + 1) (.slice none 0 0)).set (o + 2) (.int .i64 res.size), (((Only.of_below hb (Nat.le_refl _)).cellS o (.string res)).cellS (o + 1) (.slice none 0 0)).cellS (o + 2) (.int .i64 res.size)⟩)
  clear HC G G0 G1 G2 g1 hb c0 c1 c2
  go_wp2
  go_end0
  exact ⟨rfl, P.out.1, P.out.2⟩
end Go.Proofs.Ytdfjkcdmbbmipaa
