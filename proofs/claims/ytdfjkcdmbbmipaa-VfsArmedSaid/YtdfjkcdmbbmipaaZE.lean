/- The reference's operations on an empty disk: Rename, Read, SyncDir, Create. -/
import Derived.Test.YtdfjkcdmbbmipaaZD
namespace Go.Proofs.Ytdfjkcdmbbmipaa
open Go.RowKit Go.Maps

set_option maxRecDepth 100000 in
set_option maxHeartbeats 2000000 in
theorem refread_e (z : ByteArray) (hz : z.size ≤ 1000) (w : World) : Calls Try.prog 41 #[refE, .string z] w (TwoS w) := by
  have B := Lib.hid (fun o : Obj => (Below.refl _ w).alloc (Nat.le_refl _) o)
  have A := Lib.hid (refasked_e z hz)
  rw [refE_is] at A ⊢
  cases hg : goodB z
  all_goals
    rw [hg] at A
    clear hg
    go_enter Try.func41, Try.ntmps41
    go_wp2_with fail
    refine (A.out _).mono ?_
    rintro e w1 ⟨rfl, hb1⟩
    have HB := Lib.hid ((B.out _).trans (hb1.mono (by simp)))
    clear hb1
    go_wp2
    go_ret2
    exact ⟨⟨_, _, rfl⟩, HB.out⟩
set_option maxRecDepth 100000 in
set_option maxHeartbeats 2000000 in
theorem refrename_e (z y : ByteArray) (hz : z.size ≤ 1000) (hy : y.size ≤ 1000) (w : World) : Calls Try.prog 37 #[refE, .string z, .string y] w (Two w) := by
  have B := Lib.hid (fun o : Obj => (Below.refl _ w).alloc (Nat.le_refl _) o)
  have A := Lib.hid (refasked_e z hz)
  have G1 := Lib.hid (refgood z hz)
  have G2 := Lib.hid (refgood y hy)
  rw [refE_is] at A ⊢
  have hb0 := fun (w' : World) (h : (w.alloc (.cells rows9 37)).alloc (.cells rows9 37) = w') => (h ▸ Below.refl _ _ : Below w'.heap.size ((w.alloc (.cells rows9 37)).alloc (.cells rows9 37)) w')
  have HB0 := Lib.hid hb0
  clear hb0
  cases hg : goodB z
  · rw [hg] at G1
    clear hg A G2
    go_enter Try.func37, Try.ntmps37
    go_wp2_with fail
    refine (G1.out _).mono ?_
    rintro e w1 ⟨rfl, hw⟩
    have hb1 := HB0.out w1 hw
    have hsz : w1.heap.size = w.heap.size + 2 := by rw [← hw]; simp
    rw [hsz] at hb1
    clear hw
    obtain ⟨b0, b1, b2, b3, b4, b5, b6, b7, b8, bl, _⟩ := (box_two hb1 (by omega)).1
    obtain ⟨x0, x1, x2, x3, x4, x5, x6, x7, x8, xl, f0, f1, f2, f3, f4, f5, f6, f7, f8⟩ := (box_two hb1 (by omega)).2
    have X := Lib.hid (box_two_cells hb1 (by omega))
    have HB := Lib.hid (((B.out _).alloc (by simp) _).trans (hb1.mono (by omega)))
    clear hb1 hsz HB0
    go_wp2
    refine bodyPost_ret (ret_box rfl _ _ (w.heap.size + 1) _ rfl (setBox_to X.out _ _ _ _ _ _ _ _ _) rfl) rfl ?_
    exact ⟨⟨_, _, rfl, all9_mk rfl rfl rfl rfl rfl rfl rfl rfl rfl, rfl⟩, setBox_below HB.out (by omega) _ _ _ _ _ _ _ _ _⟩
  · rw [hg] at G1 A
    clear hg
    cases hg2 : goodB y
    · rw [hg2] at G2
      clear hg2 A
      go_enter Try.func37, Try.ntmps37
      go_wp2_with fail
      refine (G1.out _).mono ?_
      rintro e w1 ⟨rfl, hw⟩
      go_wp2_with fail
      refine (G2.out _).mono ?_
      rintro e w1' ⟨rfl, rfl⟩
      have hb1 := HB0.out w1 hw
      have hsz : w1.heap.size = w.heap.size + 2 := by rw [← hw]; simp
      rw [hsz] at hb1
      clear hw
      obtain ⟨b0, b1, b2, b3, b4, b5, b6, b7, b8, bl, _⟩ := (box_two hb1 (by omega)).1
      obtain ⟨x0, x1, x2, x3, x4, x5, x6, x7, x8, xl, f0, f1, f2, f3, f4, f5, f6, f7, f8⟩ := (box_two hb1 (by omega)).2
      have X := Lib.hid (box_two_cells hb1 (by omega))
      have HB := Lib.hid (((B.out _).alloc (by simp) _).trans (hb1.mono (by omega)))
      clear hb1 hsz HB0
      go_wp2
      refine bodyPost_ret (ret_box rfl _ _ (w.heap.size + 1) _ rfl (setBox_to X.out _ _ _ _ _ _ _ _ _) rfl) rfl ?_
      exact ⟨⟨_, _, rfl, all9_mk rfl rfl rfl rfl rfl rfl rfl rfl rfl, rfl⟩, setBox_below HB.out (by omega) _ _ _ _ _ _ _ _ _⟩
    · rw [hg2] at G2
      clear hg2
      go_enter Try.func37, Try.ntmps37
      go_wp2_with fail
      refine (G1.out _).mono ?_
      rintro e w1 ⟨rfl, hw⟩
      go_wp2_with fail
      refine (G2.out _).mono ?_
      rintro e w1' ⟨rfl, rfl⟩
      have hb1 := HB0.out w1 hw
      have hsz : w1.heap.size = w.heap.size + 2 := by rw [← hw]; simp
      rw [hsz] at hb1
      clear hw
      obtain ⟨b0, b1, b2, b3, b4, b5, b6, b7, b8, bl, _⟩ := (box_two hb1 (by omega)).1
      have HB1 := Lib.hid hb1
      clear hb1
      go_wp2_with fail
      refine (A.out _).mono ?_
      rintro e w2 ⟨rfl, hb2⟩
      have hb1 := HB1.out.trans (hb2.mono (by omega))
      clear hb2 b0 b1 b2 b3 b4 b5 b6 b7 b8 bl HB1
      obtain ⟨b0, b1, b2, b3, b4, b5, b6, b7, b8, bl, _⟩ := (box_two hb1 (by omega)).1
      obtain ⟨x0, x1, x2, x3, x4, x5, x6, x7, x8, xl, f0, f1, f2, f3, f4, f5, f6, f7, f8⟩ := (box_two hb1 (by omega)).2
      have X := Lib.hid (box_two_cells hb1 (by omega))
      have HB := Lib.hid (((B.out _).alloc (by simp) _).trans (hb1.mono (by omega)))
      clear hb1 hsz HB0
      go_wp2
      refine bodyPost_ret (ret_box rfl _ _ (w.heap.size + 1) _ rfl (setBox_to X.out _ _ _ _ _ _ _ _ _) rfl) rfl ?_
      exact ⟨⟨_, _, rfl, all9_mk rfl rfl rfl rfl rfl rfl rfl rfl rfl, rfl⟩, setBox_below HB.out (by omega) _ _ _ _ _ _ _ _ _⟩
end Go.Proofs.Ytdfjkcdmbbmipaa
