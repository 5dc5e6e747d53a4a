/- The reference's Create on an empty disk. -/
import Derived.Test.YtdfjkcdmbbmipaaZH
import Derived.Test.YtdfjkcdmbbmipaaZG
import Derived.Deep.Cut
import Derived.Laws.AppendOwnNone
import Derived.Laws.OwnMore
namespace Go.Proofs.Ytdfjkcdmbbmipaa
open Go.RowKit Go.Maps
attribute [local go_sem ↓] Go.wp_at_zero Go.wp_at_succ
attribute [local go_sem] World.cell?_alloc_some

theorem infoRefFile : (Try.prog.info? 92).map (fun i => (i.zero, i.size, i.bytes)) = some (some (.agg #[.string ⟨#[]⟩, .slice none 0 0]), 2, 40) := by kernel_rfl
set_option maxRecDepth 100000 in
set_option maxHeartbeats 4000000 in
theorem refcreate_e (z : ByteArray) (hz : z.size ≤ 1000) (w : World) : Calls Try.prog 33 #[refE, .string z] w (Two w) := by
  have B := Lib.hid (fun o : Obj => (Below.refl _ w).alloc (Nat.le_refl _) o)
  obtain ⟨i0, hi, hz0, hz1, hz2⟩ := info_parts infoRefFile
  have A := Lib.hid (refasked_e z hz)
  have U := Lib.hid refunit_e
  have MO := Lib.hid refmoved_e
  have DI := Lib.hid refdid_e
  rw [refE_is] at U A ⊢
  unfold refV at U DI MO
  cases hg : goodB z
  all_goals rw [hg] at A
  · clear U MO DI hg
    go_enter Try.func33, Try.ntmps33
    go_wp2_with fail
    refine (A.out _).mono ?_
    rintro e w1 ⟨rfl, hb1⟩
    obtain ⟨b0, b1, b2, b3, b4, b5, b6, b7, b8, bl, _⟩ := (box_two hb1 (by simp)).1
    obtain ⟨x0, x1, x2, x3, x4, x5, x6, x7, x8, xl, f0, f1, f2, f3, f4, f5, f6, f7, f8⟩ := (box_two hb1 (by simp)).2
    have X := Lib.hid (box_two_cells hb1 (by simp))
    have HB := Lib.hid (((B.out _).alloc (by simp) _).trans (hb1.mono (by simp; omega)))
    clear hb1
    go_wp2
    refine bodyPost_ret (ret_box rfl _ _ (w.heap.size + 1) _ rfl (setBox_to X.out _ _ _ _ _ _ _ _ _) rfl) rfl ?_
    exact ⟨⟨_, _, rfl, all9_mk rfl rfl rfl rfl rfl rfl rfl rfl rfl, rfl⟩, setBox_below HB.out (by omega) _ _ _ _ _ _ _ _ _⟩
  · clear hg
    go_enter Try.func33, Try.ntmps33
    go_wp2_with fail
    refine (A.out _).mono ?_
    rintro e w1 ⟨rfl, hb1⟩
    obtain ⟨b0, b1, b2, b3, b4, b5, b6, b7, b8, bl, _⟩ := (box_two hb1 (by simp)).1
    have X := Lib.hid (box_two_cells hb1 (by simp))
    have X0 := Lib.hid (box_two_cells0 hb1 (by simp))
    have HB := Lib.hid (((B.out _).alloc (by simp) _).trans (hb1.mono (by simp; omega)))
    clear hb1
    go_wp2_with fail
    refine (U.out _).mono ?_
    rintro e w2 ⟨rfl, hb2⟩
    have Y0 := X0.out.below hb2 X0.out.lt
    have Y := X.out.below hb2 X.out.lt
    have HB2 := Lib.hid (HB.out.trans (hb2.mono HB.out.size))
    clear b0 b1 b2 b3 b4 b5 b6 b7 b8 bl hb2 X X0 HB
    obtain ⟨b0, b1, b2, b3, b4, b5, b6, b7, b8, bl, f0, f1, f2, f3, f4, f5, f6, f7, f8⟩ := Box9.of Y0
    have X1 := Lib.hid (setBox_to Y0 (.int .i64 0) (.slice none 0 0) (.slice none 0 0) (.slice none 0 0) (.int .i64 1) (.int .i64 0) (.bool false) (.bool false) (.slice none 0 0))
    have X2 := Lib.hid (setBox_other Y (b := w.heap.size) (by omega) (.int .i64 0) (.slice none 0 0) (.slice none 0 0) (.slice none 0 0) (.int .i64 1) (.int .i64 0) (.bool false) (.bool false) (.slice none 0 0))
    have HB3 := Lib.hid (setBox_below HB2.out (b := w.heap.size) (Nat.le_refl _) (.int .i64 0) (.slice none 0 0) (.slice none 0 0) (.slice none 0 0) (.int .i64 1) (.int .i64 0) (.bool false) (.bool false) (.slice none 0 0))
    clear Y0 Y HB2
    go_wp2_with fail
    refine (MO.out _ _ _ _ _ _ _ _ _ _ _ _ _ _ _ _ _ _).mono ?_
    rintro e w3 ⟨⟨mb, mc, rfl⟩, hb3⟩
    have Y0 := X1.out.below hb3 X1.out.lt
    have Y := X2.out.below hb3 X2.out.lt
    have HB4 := Lib.hid (HB3.out.trans (hb3.mono HB3.out.size))
    clear b0 b1 b2 b3 b4 b5 b6 b7 b8 bl f0 f1 f2 f3 f4 f5 f6 f7 f8 hb3 X1 X2 HB3
    obtain ⟨b0, b1, b2, b3, b4, b5, b6, b7, b8⟩ := cells9 Y0
    have bl := Y0.lt
    have f0 := Y0.frozen 0; have f1 := Y0.frozen 1; have f2 := Y0.frozen 2; have f3 := Y0.frozen 3; have f4 := Y0.frozen 4; have f5 := Y0.frozen 5; have f6 := Y0.frozen 6; have f7 := Y0.frozen 7; have f8 := Y0.frozen 8
    have X1 := Lib.hid (setBox_to Y0 (.int .i64 0) (.slice none 0 0) (.slice none 0 0) (.slice (some ⟨mb, 0, none⟩) 1 mc) (.int .i64 1) (.int .i64 0) (.bool false) (.bool false) (.slice none 0 0))
    have X2 := Lib.hid (setBox_other Y (b := w.heap.size) (by omega) (.int .i64 0) (.slice none 0 0) (.slice none 0 0) (.slice (some ⟨mb, 0, none⟩) 1 mc) (.int .i64 1) (.int .i64 0) (.bool false) (.bool false) (.slice none 0 0))
    have HB5 := Lib.hid (setBox_below HB4.out (b := w.heap.size) (Nat.le_refl _) (.int .i64 0) (.slice none 0 0) (.slice none 0 0) (.slice (some ⟨mb, 0, none⟩) 1 mc) (.int .i64 1) (.int .i64 0) (.bool false) (.bool false) (.slice none 0 0))
    clear Y0 Y HB4
    go_upto_region 10 with fail
    obtain ⟨W3, hW3⟩ : ∃ W, setBox w3 w.heap.size (.int .i64 0) (.slice none 0 0) (.slice none 0 0) (.slice (some ⟨mb, 0, none⟩) 1 mc) (.int .i64 1) (.int .i64 0) (.bool false) (.bool false) (.slice none 0 0) = W := ⟨_, rfl⟩
    have Z1 := X1.out
    have Z2 := X2.out
    have HB6 := HB5.out
    rw [hW3] at Z1 Z2 HB6
    unfold setBox at hW3
    rw [hW3]
    have HB6H := Lib.hid HB6
    have Z2H := Lib.hid Z2
    have Z1H := Lib.hid Z1
    clear hW3 HB5 X1 X2 b0 b1 b2 b3 b4 b5 b6 b7 b8 f0 f1 f2 f3 f4 f5 f6 f7 f8 bl Z2 HB6
    obtain ⟨b0, b1, b2, b3, b4, b5, b6, b7, b8⟩ := cells9 Z1
    have bl := Z1.lt
    clear Z1
    have hoN : (W3.alloc (.cells #[] 92)).ownsRow W3.heap.size 92 2 (.slice (some ⟨W3.heap.size, 0, none⟩) 0 0) 0 [] := World.ownsRow_lit W3 #[] 0 (Nat.le_refl _) (by decide) rfl
    have HC := Lib.hid (new_at (W3.alloc (.cells #[] 92)) (n := W3.heap.size + 1) (by simp) 92 [.string ⟨#[]⟩, .slice none 0 0])
    go_wp2_with (first
      | (at_builtin; refine wpList_append_own_none rfl _ _ 32 rfl W3.heap.size 92 i0 2 Try.underlying32 hi _ 0 [] rfl hoN rfl ?_)
      | (at_builtin; refine wpList_append_own _ rfl _ _ 32 rfl W3.heap.size 92 i0 _ 2 40 Try.underlying32 hi hz0 hz1 hz2 rfl (by decide) _ 0 [] rfl (hoN.alloc _) ⟨W3.heap.size + 1, 0, none⟩ 1 1 _ rfl rfl HC.out ?c2 ?c3 ?c4 ?c5 ?_))
    case c2 => intro u hu; simp at hu; rcases hu with rfl | rfl <;> rfl
    case c3 => unfold maxLen; omega
    case c4 => omega
    case c5 => simp <;> omega
    intro v' w5 hown' hgrow _
    obtain ⟨g', cap', rfl⟩ := slice_of_own hown'
    have hb5 : Below W3.heap.size W3 w5 := (((Below.refl W3.heap.size W3).alloc (Nat.le_refl _) _).alloc (by simp) _).grown hgrow (by simp <;> omega) (fun j ej => (World.ownsRow.lt hoN j ej).1)
    have Y1 := Z1H.out.below hb5 bl
    have Y2 := Z2H.out.below hb5 Z2H.out.lt
    have HB7 := HB6H.out.trans (hb5.mono (Nat.le_of_lt bl))
    clear b0 b1 b2 b3 b4 b5 b6 b7 b8 bl hoN HC hown' hgrow hb5 Z1H Z2H HB6H
    obtain ⟨b0, b1, b2, b3, b4, b5, b6, b7, b8⟩ := cells9 Y1
    have f1 := Y1.frozen 1
    have V1 := Y1.set 1 (.slice (some ⟨g', 0, none⟩) 1 cap')
    have V2 := Y2.other (p := ⟨w.heap.size, 1, none⟩) (by show w.heap.size + 1 ≠ w.heap.size; omega) (.slice (some ⟨g', 0, none⟩) 1 cap')
    have HB8 := HB7.setCell (p := ⟨w.heap.size, 1, none⟩) (Nat.le_refl _) (.slice (some ⟨g', 0, none⟩) 1 cap')
    simp only [List.setIfInBounds_toArray, List.set] at V1
    go_upto_region 11 with fail
    clear b0 b1 b2 b3 b4 b5 b6 b7 b8 f1 Y1 Y2 HB7
    generalize w5.setCell _ _ = W6 at *
    obtain ⟨b0, b1, b2, b3, b4, b5, b6, b7, b8⟩ := cells9 V1
    have VH := Lib.hid V2
    have HB9 := Lib.hid HB8
    clear V1 V2 HB8
    go_wp2_with fail
    refine (DI.out _ _ _ _ _ _ _ _ _ _ _ _ _ _ _ _ _ _ _ _).mono ?_
    rintro e w7 ⟨⟨db, dc, rfl⟩, hb7⟩
    have X := Lib.hid (VH.out.below hb7 VH.out.lt)
    have HB := Lib.hid (HB9.out.trans (hb7.mono HB9.out.size))
    clear b0 b1 b2 b3 b4 b5 b6 b7 b8 hb7 VH HB9
    obtain ⟨x0, x1, x2, x3, x4, x5, x6, x7, x8, xl, f0, f1, f2, f3, f4, f5, f6, f7, f8⟩ := Box9.of X.out
    go_wp2
    refine bodyPost_ret (ret_box rfl _ _ (w.heap.size + 1) _ rfl (setBox_to X.out _ _ _ _ _ _ _ _ _) rfl) rfl ?_
    exact ⟨⟨_, _, rfl, all9_mk rfl rfl rfl rfl rfl rfl rfl rfl rfl, rfl⟩, setBox_below HB.out (by omega) _ _ _ _ _ _ _ _ _⟩
end Go.Proofs.Ytdfjkcdmbbmipaa
