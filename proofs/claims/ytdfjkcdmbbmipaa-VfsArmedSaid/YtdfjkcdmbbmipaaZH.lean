/- The reference's SyncDir on an empty disk. -/
import Derived.Test.YtdfjkcdmbbmipaaZF
namespace Go.Proofs.Ytdfjkcdmbbmipaa
open Go.RowKit Go.Maps

set_option maxRecDepth 100000 in
set_option maxHeartbeats 1000000 in
theorem refdir_v (r u l : Int) (a1 a4 : Option Addr) (l1 l4 p1 p4 : Nat) (q g : Bool) (w : World) : Calls Try.prog 42 #[refV (.int .i64 r) (.slice a1 l1 p1) (.slice none 0 0) (.slice none 0 0) (.int .i64 u) (.int .i64 l) (.bool q) (.bool g) (.slice a4 l4 p4)] w fun e w' => e = .returned (.slice none 0 0) ∧ Below w.heap.size w w' := by
  have B := Lib.hid (fun o : Obj => (Below.refl _ w).alloc (Nat.le_refl _) o)
  unfold refV
  go_enter Try.func42, Try.ntmps42
  go_wp2
  refine wp_loop_rounds 1 ?_
  rw [rounds_succ]
  go_wp2
  go_ret
  exact ⟨rfl, B.out _⟩
theorem setBox_other {w : World} {b b2 : Nat} {t : TypeId} {cur : Array Value} (h : Cells w b2 t cur) (hne : b2 ≠ b) (v0 v1 v2 v3 v4 v5 v6 v7 v8 : Value) : Cells (setBox w b v0 v1 v2 v3 v4 v5 v6 v7 v8) b2 t cur :=
  ((((((((h.other (p := ⟨b, 0, none⟩) hne v0).other (p := ⟨b, 1, none⟩) hne v1).other (p := ⟨b, 2, none⟩) hne v2).other (p := ⟨b, 3, none⟩) hne v3).other (p := ⟨b, 4, none⟩) hne v4).other (p := ⟨b, 5, none⟩) hne v5).other (p := ⟨b, 6, none⟩) hne v6).other (p := ⟨b, 7, none⟩) hne v7).other (p := ⟨b, 8, none⟩) hne v8
theorem box_two_cells0 {w w1 : World} {B : Nat} (hb : Below B ((w.alloc (.cells rows9 37)).alloc (.cells rows9 37)) w1) (hB : w.heap.size + 1 < B) : Cells w1 w.heap.size 37 rows9 :=
  ((Cells.new w 37 rows9).alloc (.cells rows9 37)).below hb (by omega)
set_option maxRecDepth 100000 in
set_option maxHeartbeats 4000000 in
theorem refsyncdir_e (w : World) : Calls Try.prog 39 #[refE] w (Two w) := by
  have B := Lib.hid (fun o : Obj => (Below.refl _ w).alloc (Nat.le_refl _) o)
  have U := Lib.hid refunit_e
  have DD := Lib.hid refdir_v
  have DI := Lib.hid refdid_e
  rw [refE_is] at U ⊢
  unfold refV at U DI DD
  go_enter Try.func39, Try.ntmps39
  go_wp2_with fail
  refine (U.out _).mono ?_
  rintro e w1 ⟨rfl, hb1⟩
  obtain ⟨b0, b1, b2, b3, b4, b5, b6, b7, b8, bl, g0, g1, g2, g3, g4, g5, g6, g7, g8⟩ := (box_two hb1 (by simp)).1
  have X := Lib.hid (box_two_cells hb1 (by simp))
  have X0 := Lib.hid (box_two_cells0 hb1 (by simp))
  have HB := Lib.hid (((B.out _).alloc (by simp) _).trans (hb1.mono (by simp; omega)))
  clear hb1
  have X1 := Lib.hid (setBox_to X0.out (.int .i64 0) (.slice none 0 0) (.slice none 0 0) (.slice none 0 0) (.int .i64 1) (.int .i64 0) (.bool false) (.bool false) (.slice none 0 0))
  have X2 := Lib.hid (setBox_other X.out (b := w.heap.size) (by omega) (.int .i64 0) (.slice none 0 0) (.slice none 0 0) (.slice none 0 0) (.int .i64 1) (.int .i64 0) (.bool false) (.bool false) (.slice none 0 0))
  have HB1 := Lib.hid (setBox_below HB.out (b := w.heap.size) (Nat.le_refl _) (.int .i64 0) (.slice none 0 0) (.slice none 0 0) (.slice none 0 0) (.int .i64 1) (.int .i64 0) (.bool false) (.bool false) (.slice none 0 0))
  go_wp2_with fail
  refine (DD.out _ _ _ _ _ _ _ _ _ _ _ _).mono ?_
  rintro e w2 ⟨rfl, hb2⟩
  have Y1 := X1.out.below hb2 X1.out.lt
  have Y2 := X2.out.below hb2 X2.out.lt
  have HB2 := Lib.hid (HB1.out.trans (hb2.mono (HB1.out.size)))
  clear hb2 X1 X2 HB1 b0 b1 b2 b3 b4 b5 b6 b7 b8 bl g0 g1 g2 g3 g4 g5 g6 g7 g8 X X0 HB
  obtain ⟨b0, b1, b2, b3, b4, b5, b6, b7, b8⟩ := cells9 Y1
  have bl := Y1.lt
  have g2 := Y1.frozen 2
  have g3 := Y1.frozen 3
  have HB3 := Lib.hid ((HB2.out.setCell (p := ⟨w.heap.size, 2, none⟩) (Nat.le_refl _) (.slice none 0 0)).setCell (p := ⟨w.heap.size, 3, none⟩) (Nat.le_refl _) (.slice none 0 0))
  have Y3 := Lib.hid ((Y2.other (p := ⟨w.heap.size, 2, none⟩) (by dsimp only; omega) (.slice none 0 0)).other (p := ⟨w.heap.size, 3, none⟩) (by dsimp only; omega) (.slice none 0 0))
  clear Y1 Y2 HB2
  go_wp2_with fail
  refine (DI.out _ _ _ _ _ _ _ _ _ _ _ _ _ _ _ _ _ _ _ _).mono ?_
  rintro e w3 ⟨⟨b, c, rfl⟩, hb3⟩
  have Z := Y3.out.below hb3 Y3.out.lt
  have HB4 := Lib.hid (HB3.out.trans (hb3.mono (HB3.out.size)))
  obtain ⟨x0, x1, x2, x3, x4, x5, x6, x7, x8, xl, f0, f1, f2, f3, f4, f5, f6, f7, f8⟩ := Box9.of Z
  have ZX := Lib.hid Z
  clear hb3 Z Y3 HB3 b0 b1 b2 b3 b4 b5 b6 b7 b8 bl g2 g3
  go_wp2
  refine bodyPost_ret (ret_box rfl _ _ (w.heap.size + 1) _ rfl (setBox_to ZX.out _ _ _ _ _ _ _ _ _) rfl) rfl ?_
  exact ⟨⟨_, _, rfl, all9_mk rfl rfl rfl rfl rfl rfl rfl rfl rfl, rfl⟩, setBox_below HB4.out (by omega) _ _ _ _ _ _ _ _ _⟩
end Go.Proofs.Ytdfjkcdmbbmipaa
