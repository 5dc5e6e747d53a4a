/- The reference's operations on an empty disk: those that are refused. -/
import Derived.Test.YtdfjkcdmbbmipaaZC
import Derived.Laws.ResultCell
import Derived.Laws.Rows
namespace Go.Proofs.Ytdfjkcdmbbmipaa
open Go.RowKit Go.Maps

/-- Something and a number are answered. -/
def Two (W : World) (e : Ending) (w' : World) : Prop := (∃ (cur : Array Value) (n : Int), cur.size = 9 ∧ cur.all (·.oneCell') = true ∧ e = .returned (.tuple #[.agg cur, .int .i64 n])) ∧ Below W.heap.size W w'
theorem all9_mk {c0 c1 c2 c3 c4 c5 c6 c7 c8 : Value} (h0 : c0.oneCell' = true) (h1 : c1.oneCell' = true) (h2 : c2.oneCell' = true) (h3 : c3.oneCell' = true) (h4 : c4.oneCell' = true) (h5 : c5.oneCell' = true) (h6 : c6.oneCell' = true) (h7 : c7.oneCell' = true) (h8 : c8.oneCell' = true) : (#[c0, c1, c2, c3, c4, c5, c6, c7, c8] : Array Value).all (·.oneCell') = true := by
  simp [h0, h1, h2, h3, h4, h5, h6, h7, h8]
/-- A text, and a number. -/
def TwoS (W : World) (e : Ending) (w' : World) : Prop := (∃ (s : ByteArray) (n : Int), e = .returned (.tuple #[.string s, .int .i64 n])) ∧ Below W.heap.size W w'
def rows9 : Array Value := #[.int .i64 0, .slice none 0 0, .slice none 0 0, .slice none 0 0, .int .i64 0, .int .i64 0, .bool false, .bool false, .slice none 0 0]
/-- The cells of a box of the empty disk. -/
structure Box9 (w : World) (b : Nat) : Prop where
  c0 : w.cell? ⟨b, 0, none⟩ = some (.int .i64 0)
  c1 : w.cell? ⟨b, 1, none⟩ = some (.slice none 0 0)
  c2 : w.cell? ⟨b, 2, none⟩ = some (.slice none 0 0)
  c3 : w.cell? ⟨b, 3, none⟩ = some (.slice none 0 0)
  c4 : w.cell? ⟨b, 4, none⟩ = some (.int .i64 0)
  c5 : w.cell? ⟨b, 5, none⟩ = some (.int .i64 0)
  c6 : w.cell? ⟨b, 6, none⟩ = some (.bool false)
  c7 : w.cell? ⟨b, 7, none⟩ = some (.bool false)
  c8 : w.cell? ⟨b, 8, none⟩ = some (.slice none 0 0)
  lt : b < w.heap.size
  f0 : w.frozen? ⟨b, 0, none⟩ = false
  f1 : w.frozen? ⟨b, 1, none⟩ = false
  f2 : w.frozen? ⟨b, 2, none⟩ = false
  f3 : w.frozen? ⟨b, 3, none⟩ = false
  f4 : w.frozen? ⟨b, 4, none⟩ = false
  f5 : w.frozen? ⟨b, 5, none⟩ = false
  f6 : w.frozen? ⟨b, 6, none⟩ = false
  f7 : w.frozen? ⟨b, 7, none⟩ = false
  f8 : w.frozen? ⟨b, 8, none⟩ = false
theorem Box9.of {w : World} {b : Nat} {t : TypeId} (h : Cells w b t rows9) : Box9 w b := ⟨h.cell 0, h.cell 1, h.cell 2, h.cell 3, h.cell 4, h.cell 5, h.cell 6, h.cell 7, h.cell 8, h.lt, h.frozen 0, h.frozen 1, h.frozen 2, h.frozen 3, h.frozen 4, h.frozen 5, h.frozen 6, h.frozen 7, h.frozen 8⟩
/-- Behind a call that keeps what lay: one box, or two. -/
theorem box_one {w w1 : World} {B : Nat} (hb : Below B (w.alloc (.cells rows9 37)) w1) (hB : w.heap.size < B) : Box9 w1 w.heap.size := .of ((Cells.new w 37 rows9).below hb hB)
theorem box_two {w w1 : World} {B : Nat} (hb : Below B ((w.alloc (.cells rows9 37)).alloc (.cells rows9 37)) w1) (hB : w.heap.size + 1 < B) : Box9 w1 w.heap.size ∧ Box9 w1 (w.heap.size + 1) := by
  have h1 := ((Cells.new w 37 rows9).alloc (.cells rows9 37)).below hb (by omega)
  have h2 := (Cells.new (w.alloc (.cells rows9 37)) 37 rows9).below hb (by simpa using hB)
  refine ⟨.of h1, ?_⟩
  have e : (w.alloc (.cells rows9 37)).heap.size = w.heap.size + 1 := by simp
  rw [e] at h2
  exact .of h2
theorem box_two_cells {w w1 : World} {B : Nat} (hb : Below B ((w.alloc (.cells rows9 37)).alloc (.cells rows9 37)) w1) (hB : w.heap.size + 1 < B) : Cells w1 (w.heap.size + 1) 37 rows9 := by
  have h2 := (Cells.new (w.alloc (.cells rows9 37)) 37 rows9).below hb (by simpa using hB)
  have e : (w.alloc (.cells rows9 37)).heap.size = w.heap.size + 1 := by simp
  rw [e] at h2
  exact h2
set_option maxRecDepth 100000 in
theorem ret_box {fn : Func} {p u : Tmp} (h : fn.results = #[.cell p 37, .tmp u]) (tmps : Array Value) (w : World) (b : Nat) (cur : Array Value) (hp : tmps.getD p undef = .pointer (some ⟨b, 0, none⟩))
    (hc : Cells w b 37 cur) (hz : cur.size = 9) : (results fn tmps).run Try.prog w = .ok (.tuple #[.agg cur, tmps.getD u undef]) w := by
  have L := run_loadVar_row (P := Try.prog) w b 37 37 cur (0, 0) _ hc Try.underlying37 rfl (by rw [hz]; kernel_rfl)
  rw [results_cell_tmp h, hp]
  show ((loadVar _ _).run _ _).andThen _ = _
  rw [L]; rfl
/-- A box written whole. -/
def setBox (w : World) (b : Nat) (v0 v1 v2 v3 v4 v5 v6 v7 v8 : Value) : World := ((((((((w.setCell ⟨b, 0, none⟩ v0).setCell ⟨b, 1, none⟩ v1).setCell ⟨b, 2, none⟩ v2).setCell ⟨b, 3, none⟩ v3).setCell ⟨b, 4, none⟩ v4).setCell ⟨b, 5, none⟩ v5).setCell ⟨b, 6, none⟩ v6).setCell ⟨b, 7, none⟩ v7).setCell ⟨b, 8, none⟩ v8
theorem setBox_cells {w : World} {b : Nat} {t : TypeId} {cur : Array Value} (h : Cells w b t cur) (hz : cur.size = 9) (v0 v1 v2 v3 v4 v5 v6 v7 v8 : Value) : ∃ cur', cur'.size = 9 ∧ Cells (setBox w b v0 v1 v2 v3 v4 v5 v6 v7 v8) b t cur' :=
  ⟨_, by simp [hz], ((((((((h.set 0 v0).set 1 v1).set 2 v2).set 3 v3).set 4 v4).set 5 v5).set 6 v6).set 7 v7).set 8 v8⟩
theorem set9 (c0 c1 c2 c3 c4 c5 c6 c7 c8 v0 v1 v2 v3 v4 v5 v6 v7 v8 : Value) : ((((((((#[c0, c1, c2, c3, c4, c5, c6, c7, c8].setIfInBounds 0 v0).setIfInBounds 1 v1).setIfInBounds 2 v2).setIfInBounds 3 v3).setIfInBounds 4 v4).setIfInBounds 5 v5).setIfInBounds 6 v6).setIfInBounds 7 v7).setIfInBounds 8 v8 = #[v0, v1, v2, v3, v4, v5, v6, v7, v8] := by
  simp [List.setIfInBounds_toArray, List.set]
theorem setBox_to {w : World} {b : Nat} {t : TypeId} {c0 c1 c2 c3 c4 c5 c6 c7 c8 : Value} (h : Cells w b t #[c0, c1, c2, c3, c4, c5, c6, c7, c8]) (v0 v1 v2 v3 v4 v5 v6 v7 v8 : Value) : Cells (setBox w b v0 v1 v2 v3 v4 v5 v6 v7 v8) b t #[v0, v1, v2, v3, v4, v5, v6, v7, v8] := by
  have h2 := ((((((((h.set 0 v0).set 1 v1).set 2 v2).set 3 v3).set 4 v4).set 5 v5).set 6 v6).set 7 v7).set 8 v8
  rw [set9] at h2
  exact h2
theorem setBox_below {B : Nat} {a w : World} {b : Nat} (h : Below B a w) (hb : B ≤ b) (v0 v1 v2 v3 v4 v5 v6 v7 v8 : Value) : Below B a (setBox w b v0 v1 v2 v3 v4 v5 v6 v7 v8) :=
  ((((((((h.setCell hb v0).setCell hb v1).setCell hb v2).setCell hb v3).setCell hb v4).setCell hb v5).setCell hb v6).setCell hb v7).setCell hb v8
set_option maxRecDepth 100000 in
set_option maxHeartbeats 2000000 in
theorem refwrite_e (z t : ByteArray) (hz : z.size ≤ 1000) (w : World) : Calls Try.prog 34 #[refE, .string z, .string t] w (Two w) := by
  have B := Lib.hid (fun o : Obj => (Below.refl _ w).alloc (Nat.le_refl _) o)
  have A := Lib.hid (refasked_e z hz)
  rw [refE_is] at A ⊢
  cases hg : goodB z
  all_goals
    rw [hg] at A
    clear hg
    go_enter Try.func34, Try.ntmps34
    go_wp2_with fail
    refine (A.out _).mono ?_
    rintro e w1 ⟨rfl, hb1⟩
    obtain ⟨b0, b1, b2, b3, b4, b5, b6, b7, b8, bl, _⟩ := (box_two hb1 (by simp)).1
    obtain ⟨x0, x1, x2, x3, x4, x5, x6, x7, x8, xl, f0, f1, f2, f3, f4, f5, f6, f7, f8⟩ := (box_two hb1 (by simp)).2
    have X := Lib.hid (box_two_cells hb1 (by simp))
    have HB := Lib.hid (((B.out _).alloc (by simp) _).trans (hb1.mono (by simp; omega)))
    clear hb1
    go_wp2
    refine bodyPost_ret (ret_box rfl _ _ (w.heap.size + 1) _ rfl (setBox_to X.out _ _ _ _ _ _ _ _ _) rfl) rfl ?_
    exact ⟨⟨_, _, rfl, all9_mk rfl rfl rfl rfl rfl rfl rfl rfl rfl, rfl⟩, setBox_below HB.out (by omega) _ _ _ _ _ _ _ _ _⟩
set_option maxRecDepth 100000 in
set_option maxHeartbeats 2000000 in
theorem refcut_e (z : ByteArray) (k : Int) (hz : z.size ≤ 1000) (w : World) : Calls Try.prog 35 #[refE, .string z, .int .i64 k] w (Two w) := by
  have B := Lib.hid (fun o : Obj => (Below.refl _ w).alloc (Nat.le_refl _) o)
  have A := Lib.hid (refasked_e z hz)
  rw [refE_is] at A ⊢
  cases hg : goodB z
  all_goals
    rw [hg] at A
    clear hg
    go_enter Try.func35, Try.ntmps35
    go_wp2_with fail
    refine (A.out _).mono ?_
    rintro e w1 ⟨rfl, hb1⟩
    obtain ⟨b0, b1, b2, b3, b4, b5, b6, b7, b8, bl, _⟩ := (box_two hb1 (by simp)).1
    obtain ⟨x0, x1, x2, x3, x4, x5, x6, x7, x8, xl, f0, f1, f2, f3, f4, f5, f6, f7, f8⟩ := (box_two hb1 (by simp)).2
    have X := Lib.hid (box_two_cells hb1 (by simp))
    have HB := Lib.hid (((B.out _).alloc (by simp) _).trans (hb1.mono (by simp; omega)))
    clear hb1
    go_wp2
    refine bodyPost_ret (ret_box rfl _ _ (w.heap.size + 1) _ rfl (setBox_to X.out _ _ _ _ _ _ _ _ _) rfl) rfl ?_
    exact ⟨⟨_, _, rfl, all9_mk rfl rfl rfl rfl rfl rfl rfl rfl rfl, rfl⟩, setBox_below HB.out (by omega) _ _ _ _ _ _ _ _ _⟩
set_option maxRecDepth 100000 in
set_option maxHeartbeats 2000000 in
theorem refsync_e (z : ByteArray)  (hz : z.size ≤ 1000) (w : World) : Calls Try.prog 36 #[refE, .string z] w (Two w) := by
  have B := Lib.hid (fun o : Obj => (Below.refl _ w).alloc (Nat.le_refl _) o)
  have A := Lib.hid (refasked_e z hz)
  rw [refE_is] at A ⊢
  cases hg : goodB z
  all_goals
    rw [hg] at A
    clear hg
    go_enter Try.func36, Try.ntmps36
    go_wp2_with fail
    refine (A.out _).mono ?_
    rintro e w1 ⟨rfl, hb1⟩
    obtain ⟨b0, b1, b2, b3, b4, b5, b6, b7, b8, bl, _⟩ := (box_two hb1 (by simp)).1
    obtain ⟨x0, x1, x2, x3, x4, x5, x6, x7, x8, xl, f0, f1, f2, f3, f4, f5, f6, f7, f8⟩ := (box_two hb1 (by simp)).2
    have X := Lib.hid (box_two_cells hb1 (by simp))
    have HB := Lib.hid (((B.out _).alloc (by simp) _).trans (hb1.mono (by simp; omega)))
    clear hb1
    go_wp2
    refine bodyPost_ret (ret_box rfl _ _ (w.heap.size + 1) _ rfl (setBox_to X.out _ _ _ _ _ _ _ _ _) rfl) rfl ?_
    exact ⟨⟨_, _, rfl, all9_mk rfl rfl rfl rfl rfl rfl rfl rfl rfl, rfl⟩, setBox_below HB.out (by omega) _ _ _ _ _ _ _ _ _⟩
set_option maxRecDepth 100000 in
set_option maxHeartbeats 2000000 in
theorem refremove_e (z : ByteArray)  (hz : z.size ≤ 1000) (w : World) : Calls Try.prog 38 #[refE, .string z] w (Two w) := by
  have B := Lib.hid (fun o : Obj => (Below.refl _ w).alloc (Nat.le_refl _) o)
  have A := Lib.hid (refasked_e z hz)
  rw [refE_is] at A ⊢
  cases hg : goodB z
  all_goals
    rw [hg] at A
    clear hg
    go_enter Try.func38, Try.ntmps38
    go_wp2_with fail
    refine (A.out _).mono ?_
    rintro e w1 ⟨rfl, hb1⟩
    obtain ⟨b0, b1, b2, b3, b4, b5, b6, b7, b8, bl, _⟩ := (box_two hb1 (by simp)).1
    obtain ⟨x0, x1, x2, x3, x4, x5, x6, x7, x8, xl, f0, f1, f2, f3, f4, f5, f6, f7, f8⟩ := (box_two hb1 (by simp)).2
    have X := Lib.hid (box_two_cells hb1 (by simp))
    have HB := Lib.hid (((B.out _).alloc (by simp) _).trans (hb1.mono (by simp; omega)))
    clear hb1
    go_wp2
    refine bodyPost_ret (ret_box rfl _ _ (w.heap.size + 1) _ rfl (setBox_to X.out _ _ _ _ _ _ _ _ _) rfl) rfl ?_
    exact ⟨⟨_, _, rfl, all9_mk rfl rfl rfl rfl rfl rfl rfl rfl rfl, rfl⟩, setBox_below HB.out (by omega) _ _ _ _ _ _ _ _ _⟩
end Go.Proofs.Ytdfjkcdmbbmipaa
