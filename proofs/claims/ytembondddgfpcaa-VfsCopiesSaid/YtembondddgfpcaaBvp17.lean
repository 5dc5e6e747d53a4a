/- Texts put together: XX, XZ, YOA, YO. -/
import Derived.Deep.DeepCutAuto
import Derived.Test.YtembondddgfpcaaSI
import Derived.Sort.KeysCollected
import Derived.Test.YtembondddgfpcaaBvp16
set_option linter.unusedVariables false
namespace Go.Proofs.Ytembondddgfpcaa
open Go.RowKit Go.Maps
attribute [local go_sem] World.cell?_alloc_some

theorem wf_range {k : Int} (h : (Lit.int .i64 k).wf = true) : -9223372036854775808 ≤ k ∧ k ≤ 9223372036854775807 := by
  have h2 : IntKind.i64.min ≤ k ∧ k ≤ 9223372036854775807 := by simpa [Lit.wf] using h
  exact ⟨h2.1, h2.2⟩
set_option maxRecDepth 100000 in
set_option maxHeartbeats 8000000 in
theorem do2_crash {L n p : Nat} {w : World} {D : ADisk} {M : RefM} {f s m a : Tri} (hP : Pr L n p w D M f s m a) (hn : n ≤ 80000) (hL : L ≤ w.heap.size) (k : Int) (name text : ByteArray) (ao : Option Addr) (c : Nat) (hnm : name.size ≤ 100) (htx : text.size ≤ 200) (hk1 : -9223372036854775808 ≤ k) (hk2 : k ≤ 9223372036854775807) (ks : List Int) (ad : Addr) (hao : 0 < ks.length → ao = some ad) (hks : ∀ k ∈ ks, (Lit.int .i64 k).wf = true) (hkl : ks.length ≤ 1000000) (hkw : (Lit.int .i64 k).wf = true) (hd : ∀ W, Below L w W → ∀ j (h : j < ks.length), W.cell? (ad.add j) = some (.int .i64 ks[j])) :
    Calls Try.prog 9 #[.pointer (some ⟨p, 0, none⟩), slices f s m a M.room M.units M.left M.armed M.gone, opV 9 k name text ao ks.length c] w (DoG L (n + 402) p w (crashD D k ks) (crashM M k ks)) := by
  have hl0 := hP.fine.l0
  obtain ⟨B3, C4, C5, C6⟩ := do_boxes (w := w) (M := M) (f := f) (s := s) (m := m) (a := a) 9 k name text ao ks.length c
  obtain ⟨W1, hW1⟩ : ∃ W, ((w.alloc (.cells (curM M f s m a) 37)).alloc (.cells #[.int .i64 9, .int .i64 k, .string name, .string text, .slice ao ks.length c] 40)).alloc (.cells rows9 37) = W := ⟨_, rfl⟩
  rw [hW1] at B3 C4 C5 C6
  have hP1 := hP.below B3
  have hL1 : L ≤ W1.heap.size := Nat.le_trans hL B3.size
  have FIT := hP.fit (by omega)
  have PC := Lib.hid (lift_op hP1.disk hL1 (fun T hA h2 _ => crash_any hA hP.fine (by omega) k hkw ks ao ad c hao (fun w' ho j h => hd w' ((B3.mono hL).trans (ho.to_below hL1 (fun r hr hn => by have := h2 r hn; omega))) j h) hks hkl))
  have RC := Lib.hid (fun (W : World) (HR : RefAt W M f s m a) (hW : Below L w W) => refcrash_any FIT k ⟨hk1, hk2⟩ ks ao ad c hao (fun k hk => wf_range (hks k hk)) hkl W HR (fun W' hb j h => hd W' (hW.trans (hb.mono (Nat.le_trans hL hW.size))) j h))
  have ht := Ties.crash hP.ties k ks
  have FI := Lib.hid (show Fine (n + 402) (crashD D k ks) from (crash_fine hP.fine k ks).mono (by omega))
  have TY := Lib.hid (show Tidy (crashD D k ks) from hP.tidy.crash hP.fine (by omega) k ks)
  have LF := Lib.hid (show InL (crashM M k ks).left from crashM_left hP.left k ks)
  have HT := Lib.hid ht
  have H1 := Lib.hid hP1.ref
  have HB := Lib.hid B3
  have H4 := Lib.hid C4
  have H5 := Lib.hid C5
  have H6 := Lib.hid C6
  have HL := Lib.hid hL1
  clear ht hP hP1 hl0 B3 hL1 FIT hd hks hao
  obtain ⟨f1, f2, f3⟩ := f
  obtain ⟨s1, s2, s3⟩ := s
  obtain ⟨m1, m2, m3⟩ := m
  obtain ⟨a1, a2, a3⟩ := a
  unfold opV slices refA
  unfold curM rows9 at hW1
  dsimp only at hW1 ⊢
  obtain ⟨q0, q1, q2, q3, q4⟩ : W1.cell? ⟨w.heap.size + 1, 0, none⟩ = some (.int .i64 9) ∧ W1.cell? ⟨w.heap.size + 1, 1, none⟩ = some (.int .i64 k) ∧ W1.cell? ⟨w.heap.size + 1, 2, none⟩ = some (.string name) ∧ W1.cell? ⟨w.heap.size + 1, 3, none⟩ = some (.string text) ∧ W1.cell? ⟨w.heap.size + 1, 4, none⟩ = some (.slice ao ks.length c) := ⟨C5.cell 0, C5.cell 1, C5.cell 2, C5.cell 3, C5.cell 4⟩
  have q5 := C5.lt
  clear C4 C5 C6
  go_enter Try.func9, Try.ntmps9
  go_wp2_with fail
  refine PC.out.mono ?_
  clear PC q0 q1 q2 q3 q4 q5 hW1
  rintro e w2 ⟨rfl, hd2, hk2'⟩
  have K5 := hk2'.cells H5.out (by decide)
  have K4 := hk2'.cells H4.out (by decide)
  unfold curM at K4
  dsimp only at K4
  obtain ⟨b0, b1, b2, b3, b4, b5, b6, b7, b8⟩ := cells9 K4
  have bl := K4.lt
  obtain ⟨q0, q1, q2, q3, q4⟩ : w2.cell? ⟨w.heap.size + 1, 0, none⟩ = some (.int .i64 9) ∧ w2.cell? ⟨w.heap.size + 1, 1, none⟩ = some (.int .i64 k) ∧ w2.cell? ⟨w.heap.size + 1, 2, none⟩ = some (.string name) ∧ w2.cell? ⟨w.heap.size + 1, 3, none⟩ = some (.string text) ∧ w2.cell? ⟨w.heap.size + 1, 4, none⟩ = some (.slice ao ks.length c) := ⟨K5.cell 0, K5.cell 1, K5.cell 2, K5.cell 3, K5.cell 4⟩
  have q5 := K5.lt
  have D2 := Lib.hid hd2
  have KK := Lib.hid hk2'
  have RC2 := Lib.hid (RC.out w2 (H1.out.keeps hk2') ((HB.out.mono hL).trans hk2'.bel))
  unfold slices refA at RC2
  dsimp only at RC2
  clear K4 K5 hd2 hk2' RC
  go_wp2_with fail
  refine RC2.out.mono ?_
  clear RC2 b0 b1 b2 b3 b4 b5 b6 b7 b8 bl q0 q1 q2 q3 q4 q5
  rintro e w3 ⟨⟨f1', f2', f3'⟩, ⟨s1', s2', s3'⟩, rfl, hr3, hb3⟩
  try unfold slices refA
  try dsimp only
  have K4 := (KK.out.cells H4.out (by decide)).below hb3 (KK.out.cells H4.out (by decide)).lt
  have K6 := (KK.out.cells H6.out (by decide)).below hb3 (KK.out.cells H6.out (by decide)).lt
  unfold curM at K4
  dsimp only at K4
  have D3 := Lib.hid (D2.out.below hb3)
  have K3 := Lib.hid ((Keeps.of_below HB.out hL).trans (KK.out.then_ hb3 HL.out))
  have R3 := Lib.hid hr3
  have B6 := Lib.hid K6
  have B4 := Lib.hid K4
  obtain ⟨b0, b1, b2, b3, b4, b5, b6, b7, b8⟩ := cells9 K4
  have bl := K4.lt
  have g0 := K4.frozen 0; have g1 := K4.frozen 1; have g2 := K4.frozen 2; have g3 := K4.frozen 3; have g4 := K4.frozen 4; have g5 := K4.frozen 5; have g6 := K4.frozen 6; have g7 := K4.frozen 7; have g8 := K4.frozen 8
  clear K4 K6 hb3 hr3 D2 KK
  go_upto_region 37 with fail
  clear b0 b1 b2 b3 b4 b5 b6 b7 b8 bl g0 g1 g2 g3 g4 g5 g6 g7 g8
  have E4 := setBox_to B4.out (.int .i64 M.room) (.slice f1' f2' f3') (.slice s1' s2' s3') (.slice none 0 0) (.int .i64 M.units) (.int .i64 M.left) (.bool false) (.bool false) (.slice a1 a2 a3)
  have E6 := setBox_other B6.out (b := w.heap.size) (by omega) (.int .i64 M.room) (.slice f1' f2' f3') (.slice s1' s2' s3') (.slice none 0 0) (.int .i64 M.units) (.int .i64 M.left) (.bool false) (.bool false) (.slice a1 a2 a3)
  have D5 := D3.out.box B4.out (by decide) (.int .i64 M.room) (.slice f1' f2' f3') (.slice s1' s2' s3') (.slice none 0 0) (.int .i64 M.units) (.int .i64 M.left) (.bool false) (.bool false) (.slice a1 a2 a3)
  have R5 := R3.out.box B4.out (.int .i64 M.room) (.slice f1' f2' f3') (.slice s1' s2' s3') (.slice none 0 0) (.int .i64 M.units) (.int .i64 M.left) (.bool false) (.bool false) (.slice a1 a2 a3)
  have K5 := K3.out.box (b := w.heap.size) (Nat.le_refl _) hL (.int .i64 M.room) (.slice f1' f2' f3') (.slice s1' s2' s3') (.slice none 0 0) (.int .i64 M.units) (.int .i64 M.left) (.bool false) (.bool false) (.slice a1 a2 a3)
  have P5 := Pr.mk (n := n + 402) D5 R5 HT.out FI.out TY.out LF.out
  clear D5 R5
  obtain ⟨W5, hW5⟩ : ∃ W, setBox w3 w.heap.size (.int .i64 M.room) (.slice f1' f2' f3') (.slice s1' s2' s3') (.slice none 0 0) (.int .i64 M.units) (.int .i64 M.left) (.bool false) (.bool false) (.slice a1 a2 a3) = W := ⟨_, rfl⟩
  rw [hW5] at E4 E6 P5 K5
  unfold setBox at hW5
  rw [hW5]
  clear hW5
  obtain ⟨b0, b1, b2, b3, b4, b5, b6, b7, b8⟩ := cells9 E4
  have bl := E4.lt
  obtain ⟨x0, x1, x2, x3, x4, x5, x6, x7, x8, xl, y0, y1, y2, y3, y4, y5, y6, y7, y8⟩ := Box9.of E6
  have F6 := Lib.hid E6
  have P5 := Lib.hid P5
  have K5 := Lib.hid K5
  clear E4 E6
  have NU := fun W => num_still 0 (by omega) W
  rw [errV_0] at NU
  have NU := Lib.hid NU

  go_region_law ((go_simp; go_at_call 28; refine (NU.out _).mono ?_; rintro e w9 ⟨rfl, rfl⟩))
  all_goals go_wp2
  all_goals
    refine bodyPost_ret (ret_box rfl _ _ (w.heap.size + 1 + 1) _ rfl (setBox_to F6.out _ _ _ _ _ _ _ _ _).drew rfl) rfl ?_
    have P6 := Pr.mk (n := n + 402) (P5.out.disk.box F6.out (by decide) (.int .i64 M.room) (.slice f1' f2' f3') (.slice s1' s2' s3') (.slice none 0 0) (.int .i64 M.units) (.int .i64 M.left) (.bool false) (.bool false) (.slice a1 a2 a3)) (P5.out.ref.box F6.out _ _ _ _ _ _ _ _ _) P5.out.ties P5.out.fine P5.out.tidy P5.out.left
    have K6 := K5.out.box (b := w.heap.size + 1 + 1) (by omega) hL (.int .i64 M.room) (.slice f1' f2' f3') (.slice s1' s2' s3') (.slice none 0 0) (.int .i64 M.units) (.int .i64 M.left) (.bool false) (.bool false) (.slice a1 a2 a3)
    exact ⟨(f1', f2', f3'), (s1', s2', s3'), (none, 0, 0), (a1, a2, a3), rfl, P6.below (Below.refl _ _).drew, K6.then_ (Below.refl _ _).drew hL⟩
set_option maxRecDepth 100000 in
set_option maxHeartbeats 8000000 in
theorem do2_read {L n p : Nat} {w : World} {D : ADisk} {M : RefM} {f s m a : Tri} (hP : Pr L n p w D M f s m a) (hn : n ≤ 80000) (hL : L ≤ w.heap.size) (kind k : Int) (name text : ByteArray) (ao : Option Addr) (l c : Nat) (hnm : name.size ≤ 100) (htx : text.size ≤ 200) (hk1 : -9223372036854775808 ≤ k) (hk2 : k ≤ 9223372036854775807) (hk : (kind == 1) = false ∧ (kind == 2) = false ∧ (kind == 3) = false ∧ (kind == 4) = false ∧ (kind == 5) = false ∧ (kind == 6) = false ∧ (kind == 7) = false ∧ (kind == 8) = false ∧ (kind == 9) = false) :
    Calls Try.prog 9 #[.pointer (some ⟨p, 0, none⟩), slices f s m a M.room M.units M.left M.armed M.gone, opV kind k name text ao l c] w (DoG L (n + 402) p w D M) := by
  have hl0 := hP.fine.l0
  obtain ⟨B3, C4, C5, C6⟩ := do_boxes (w := w) (M := M) (f := f) (s := s) (m := m) (a := a) kind k name text ao l c
  obtain ⟨W1, hW1⟩ : ∃ W, ((w.alloc (.cells (curM M f s m a) 37)).alloc (.cells #[.int .i64 kind, .int .i64 k, .string name, .string text, .slice ao l c] 40)).alloc (.cells rows9 37) = W := ⟨_, rfl⟩
  rw [hW1] at B3 C4 C5 C6
  have hP1 := hP.below B3
  have hL1 : L ≤ W1.heap.size := Nat.le_trans hL B3.size
  have FIT := hP.fit (by omega)
  have PC : Calls Try.prog 13 #[.pointer (some ⟨p, 0, none⟩), .string name] W1 fun e w' => e = .returned (.tuple #[.string (readR D name).1, errV (readR D name).2]) ∧ Below W1.heap.size W1 w' := by
    obtain ⟨T, hA, _⟩ := hP1.disk
    exact read_any hA hP.fine (by omega) name (by omega)
  have RC := Lib.hid (fun (W : World) (HR : RefAt W M f s m a) => refread_any M f s m a FIT.fit name (by omega) W HR)
  rw [hP.ties.read name] at RC
  have hle : (readR D name).2 ≤ 12 := by
    unfold readR
    split
    · exact le12 (by decide)
    · split
      · exact asked_le hP.fine name []
      · exact le12 (by decide)
  have HT := Lib.hid hP.ties
  have FI := Lib.hid (show Fine (n + 402) D from hP.fine.mono (by omega))
  have TY := Lib.hid hP.tidy
  have LF := Lib.hid hP.left
  have H1 := Lib.hid hP1.ref
  have HO := Lib.hid hP1.disk
  have HB := Lib.hid B3
  have H4 := Lib.hid C4
  have H5 := Lib.hid C5
  have H6 := Lib.hid C6
  have HL := Lib.hid hL1
  clear hP hP1 hl0 B3 hL1 FIT
  generalize readR D name = RR at *
  obtain ⟨txt, en⟩ := RR
  dsimp only at *
  have PC := Lib.hid PC
  obtain ⟨e0, e1, e2, e3, e4, e5, e6, e7, e8⟩ := hk
  have hstr : (txt.toList == txt.toList) = true := by simp
  obtain ⟨f1, f2, f3⟩ := f
  obtain ⟨s1, s2, s3⟩ := s
  obtain ⟨m1, m2, m3⟩ := m
  obtain ⟨a1, a2, a3⟩ := a
  unfold opV slices refA
  unfold curM rows9 at hW1
  dsimp only at hW1 ⊢
  obtain ⟨q0, q1, q2, q3, q4⟩ : W1.cell? ⟨w.heap.size + 1, 0, none⟩ = some (.int .i64 kind) ∧ W1.cell? ⟨w.heap.size + 1, 1, none⟩ = some (.int .i64 k) ∧ W1.cell? ⟨w.heap.size + 1, 2, none⟩ = some (.string name) ∧ W1.cell? ⟨w.heap.size + 1, 3, none⟩ = some (.string text) ∧ W1.cell? ⟨w.heap.size + 1, 4, none⟩ = some (.slice ao l c) := ⟨C5.cell 0, C5.cell 1, C5.cell 2, C5.cell 3, C5.cell 4⟩
  have q5 := C5.lt
  clear C4 C5 C6
  go_enter Try.func9, Try.ntmps9
  go_wp2_with fail
  refine PC.out.mono ?_
  clear PC q0 q1 q2 q3 q4 q5 hW1
  rintro e w2 ⟨rfl, hb2⟩
  have K5 := H5.out.below hb2 H5.out.lt
  have K4 := H4.out.below hb2 H4.out.lt
  unfold curM at K4
  dsimp only at K4
  obtain ⟨b0, b1, b2, b3, b4, b5, b6, b7, b8⟩ := cells9 K4
  have bl := K4.lt
  obtain ⟨q0, q1, q2, q3, q4⟩ : w2.cell? ⟨w.heap.size + 1, 0, none⟩ = some (.int .i64 kind) ∧ w2.cell? ⟨w.heap.size + 1, 1, none⟩ = some (.int .i64 k) ∧ w2.cell? ⟨w.heap.size + 1, 2, none⟩ = some (.string name) ∧ w2.cell? ⟨w.heap.size + 1, 3, none⟩ = some (.string text) ∧ w2.cell? ⟨w.heap.size + 1, 4, none⟩ = some (.slice ao l c) := ⟨K5.cell 0, K5.cell 1, K5.cell 2, K5.cell 3, K5.cell 4⟩
  have q5 := K5.lt
  have HB2 := Lib.hid hb2
  have RC2 := Lib.hid (RC.out w2 (H1.out.below hb2 (Nat.le_refl _)))
  unfold slices refA at RC2
  dsimp only at RC2
  clear K4 K5 hb2 RC
  go_wp2_with fail
  refine RC2.out.mono ?_
  clear RC2 b0 b1 b2 b3 b4 b5 b6 b7 b8 bl q0 q1 q2 q3 q4 q5
  rintro e w3 ⟨rfl, hb3⟩
  have hb4 := HB2.out.trans (hb3.mono HB2.out.size)
  have E4 := H4.out.below hb4 H4.out.lt
  have E6 := H6.out.below hb4 H6.out.lt
  unfold curM at E4
  dsimp only at E4
  have K5 : Keeps L w w3 := (Keeps.of_below HB.out hL).then_ hb4 hL
  have P5 := Pr.mk (n := n + 402) (HO.out.below hb4) (H1.out.below hb4 (Nat.le_refl _)) HT.out FI.out TY.out LF.out
  clear hb3 hb4 HB2
  go_upto_region 37 with fail
  obtain ⟨b0, b1, b2, b3, b4, b5, b6, b7, b8⟩ := cells9 E4
  have bl := E4.lt
  obtain ⟨x0, x1, x2, x3, x4, x5, x6, x7, x8, xl, y0, y1, y2, y3, y4, y5, y6, y7, y8⟩ := Box9.of E6
  have F6 := Lib.hid E6
  have P5 := Lib.hid P5
  have K5 := Lib.hid K5
  clear E4 E6
  have NU := fun W => num_still en (by omega) W
  have NU := Lib.hid NU
  have hqq : ((en : Int) == (en : Int)) = true := by simp
  go_region_law ((go_simp; go_at_call 28; refine (NU.out _).mono ?_; rintro e w9 ⟨rfl, rfl⟩))
  all_goals go_wp2
  all_goals
    refine bodyPost_ret (ret_box rfl _ _ (w.heap.size + 1 + 1) _ rfl (setBox_to F6.out _ _ _ _ _ _ _ _ _).drew rfl) rfl ?_
    have P6 := Pr.mk (n := n + 402) (P5.out.disk.box F6.out (by decide) (.int .i64 M.room) (.slice f1 f2 f3) (.slice s1 s2 s3) (.slice m1 m2 m3) (.int .i64 M.units) (.int .i64 M.left) (.bool M.armed) (.bool M.gone) (.slice a1 a2 a3)) (P5.out.ref.box F6.out _ _ _ _ _ _ _ _ _) P5.out.ties P5.out.fine P5.out.tidy P5.out.left
    have K6 := K5.out.box (b := w.heap.size + 1 + 1) (by omega) hL (.int .i64 M.room) (.slice f1 f2 f3) (.slice s1 s2 s3) (.slice m1 m2 m3) (.int .i64 M.units) (.int .i64 M.left) (.bool M.armed) (.bool M.gone) (.slice a1 a2 a3)
    exact ⟨(f1, f2, f3), (s1, s2, s3), (m1, m2, m3), (a1, a2, a3), rfl, P6.below (Below.refl _ _).drew, K6.then_ (Below.refl _ _).drew hL⟩
end Go.Proofs.Ytembondddgfpcaa

namespace Go.Proofs.Ytembondddgfpcaa
open Go.RowKit Go.Maps
set_option maxRecDepth 100000 in
set_option maxHeartbeats 2000000 in
theorem refgoodW (s : ByteArray) (hs : s.size ≤ 1000000) (w : World) : Calls Try.prog 63 #[.string s] w fun e w' => e = .returned (.bool (goodB s)) ∧ w = w' := by
  by_cases hlen : 1 ≤ s.size ∧ s.size ≤ 20
  · obtain ⟨h1, h2⟩ := hlen
    have d1 : decide ((s.size : Int) < 1) = false := decide_eq_false (by omega)
    have d2 : decide (20 < (s.size : Int)) = false := decide_eq_false (by omega)
    have hg : goodB s = s.data.toList.all goodC := by unfold goodB; simp [h1, h2]
    rw [hg]
    clear hg
    generalize hB0 : s.data.toList.all goodC = B
    have HB := Lib.hid hB0
    clear hB0
    go_enter Try.func63, Try.ntmps63
    go_wp2
    go_loopw [3] (fun i wr => ∃ k : Nat, k ≤ s.size ∧ i = .int .i64 k ∧ wr = w ∧ ∀ c ∈ s.data.toList.take k, goodC c = true) (fun i _ => s.size - (intOf i).toNat)
    case atStart => exact ⟨0, Nat.zero_le _, rfl, rfl, by simp⟩
    case round =>
      obtain ⟨k, hk, rfl, rfl, hpre⟩ := hrel
      by_cases hlt : k < s.size
      · have hl' : k < s.data.toList.length := by rw [← Lib.size_eq]; exact hlt
        have HP := Lib.hid hpre
        clear hpre
        have hx : s.data.toList[k] = s[k] := rfl
        have hgd : goodC s[k] = true ↔ (97 ≤ s[k].toNat ∧ s[k].toNat ≤ 122) ∨ (48 ≤ s[k].toNat ∧ s[k].toNat ≤ 57) ∨ s[k].toNat = 46 := by
          unfold goodC; simp [or_assoc]
        have HX := Lib.hid hx
        clear hx
        by_cases hgc : goodC s[k] = true
        · have HN : Hid (∀ c ∈ s.data.toList.take (k + 1), goodC c = true) := fun c hc => by
            rw [List.take_succ_eq_append_getElem hl'] at hc
            rcases List.mem_append.1 hc with h | h
            · exact HP.out c h
            · rw [List.mem_singleton.1 h, HX.out]; exact hgc
          have hin := hgd.1 hgc
          clear hgc hgd HP HX
          by_cases a1 : 97 ≤ s[k].toNat
          all_goals by_cases a2 : s[k].toNat ≤ 122
          all_goals by_cases a3 : 48 ≤ s[k].toNat
          all_goals by_cases a4 : s[k].toNat ≤ 57
          all_goals by_cases a5 : s[k].toNat = 46
          all_goals try omega
          all_goals clear hin
          all_goals
            go_wp2
            go_roundw
            case rel => exact ⟨k + 1, by omega, by go_num, trivial, HN.out⟩
            case measure => simp [intOf]; omega
        · have hin : ¬ ((97 ≤ s[k].toNat ∧ s[k].toNat ≤ 122) ∨ (48 ≤ s[k].toNat ∧ s[k].toNat ≤ 57) ∨ s[k].toNat = 46) := fun h => hgc (hgd.2 h)
          have hall : s.data.toList.all goodC = false := by
            rw [List.all_eq_false]
            exact ⟨_, List.getElem_mem hl', by rw [HX.out]; exact hgc⟩
          obtain rfl : B = false := HB.out.symm.trans hall
          clear hgc hgd HP HX hall HB
          by_cases a1 : 97 ≤ s[k].toNat
          all_goals by_cases a2 : s[k].toNat ≤ 122
          all_goals by_cases a3 : 48 ≤ s[k].toNat
          all_goals by_cases a4 : s[k].toNat ≤ 57
          all_goals by_cases a5 : s[k].toNat = 46
          all_goals try omega
          all_goals clear hin
          all_goals go_wp2
          all_goals first | (exfalso; rename_i h; simp at h; omega) | (go_ret; exact ⟨rfl, rfl⟩)
      · obtain rfl : k = s.size := by omega
        have hall : s.data.toList.all goodC = true := by
          rw [List.all_eq_true]
          intro c hc
          exact hpre c (by rw [List.take_of_length_le (by rw [← Lib.size_eq]; exact Nat.le_refl _)]; exact hc)
        obtain rfl : B = true := HB.out.symm.trans hall
        clear hpre hall HB
        go_wp2
        go_ret
        exact ⟨rfl, rfl⟩
  · have hg : goodB s = false := by unfold goodB; simp; omega
    rw [hg]
    rcases (show s.size < 1 ∨ (1 ≤ s.size ∧ 20 < s.size) by omega) with h | ⟨h, h2⟩
    · have d1 : decide ((s.size : Int) < 1) = true := decide_eq_true (by omega)
      go_enter Try.func63, Try.ntmps63
      go_wp2
      go_ret
      exact ⟨rfl, rfl⟩
    · have d1 : decide ((s.size : Int) < 1) = false := decide_eq_false (by omega)
      have d2 : decide (20 < (s.size : Int)) = true := decide_eq_true (by omega)
      go_enter Try.func63, Try.ntmps63
      go_wp2
      go_ret
      exact ⟨rfl, rfl⟩
set_option maxRecDepth 100000 in
set_option maxHeartbeats 4000000 in
theorem refasked_anyW (room units left : Int) (armed gone : Bool) (vf vs vm va : Value) (sure : Dir) (waits : List ChangeA) (z : ByteArray) (hz : z.size ≤ 1000000) (w : World) (hs : EntryRow w vs sure) (hm : MovesRow w vm waits) (hr : Rising sure) (h1 : SmallD sure) (h2 : SmallC waits) (hl : sure.length + waits.length ≤ 1000000) :
    Calls Try.prog 56 #[refA room units left armed gone vf vs vm va, .string z] w fun e w' =>
      e = .returned (.tuple #[.int .i64 (askedI (findR (readyE gone [z]) (dget (dplay waits sure) z.data.toList))), .int .i64 (findR (readyE gone [z]) (dget (dplay waits sure) z.data.toList)).2]) ∧ Below w.heap.size w w' := by
  have G := Lib.hid (refgoodW z hz)
  have D := fun (W : World) (hb : Below w.heap.size w W) => refdir_any room units left armed gone vf vs vm va sure waits W (row_below hs hb (Nat.le_refl _)) (row_below hm hb (Nat.le_refl _)) hr h1 h2 hl
  have F := fun (W : World) (v : Value) (h : EntryRow W v (dplay waits sure)) => reffind_any (dplay waits sure) v z.data.toList W h (by have := dplay_length waits sure; omega) (by rw [← Lib.size_eq]; omega) (fun x hx => (dplay_small waits h2 h1 x hx).1)
  simp only [bs_of] at F
  have hfl : ∀ f, dget (dplay waits sure) z.data.toList = some f → f ≤ 1000000 := fun f hf => by
    obtain ⟨x, hx, rfl⟩ := dget_mem hf
    exact (dplay_small waits h2 h1 x hx).2
  have D := Lib.hid D
  have F := Lib.hid F
  have B := Lib.hid (fun o : Obj => (Below.refl _ w).alloc (Nat.le_refl _) o)
  clear hs hm hr h1 h2 hl
  unfold refA
  cases hg : goodB z
  · have e1 : readyE gone [z] = 1 := by unfold readyE; simp [hg]
    rw [e1]
    rw [hg] at G
    clear hg e1
    go_enter Try.func56, Try.ntmps56
    go_wp2_with fail
    refine (G.out _).mono ?_
    rintro e w1 ⟨rfl, rfl⟩
    go_wp2
    go_ret2
    exact ⟨rfl, B.out _⟩
  · rw [hg] at G
    cases gone with
    | true =>
      have e1 : readyE true [z] = 3 := by unfold readyE; simp [hg]
      rw [e1]
      clear hg e1
      go_enter Try.func56, Try.ntmps56
      go_wp2_with fail
      refine (G.out _).mono ?_
      rintro e w1 ⟨rfl, rfl⟩
      go_wp2
      go_ret2
      exact ⟨rfl, B.out _⟩
    | false =>
      have e1 : readyE false [z] = 0 := by unfold readyE; simp [hg]
      rw [e1]
      clear hg e1
      cases hq : dget (dplay waits sure) z.data.toList with
      | none =>
        rw [hq] at F
        go_enter Try.func56, Try.ntmps56
        go_wp2_with fail
        refine (G.out _).mono ?_
        rintro e w1 ⟨rfl, rfl⟩
        go_wp2_with fail
        refine (D.out _ (B.out _)).mono ?_
        rintro e w1 ⟨v', rfl, hrow, hb1⟩
        have HB := Lib.hid ((B.out _).trans (hb1.mono (B.out _).size))
        have F2 := Lib.hid (F.out w1 v' hrow)
        clear hb1 hrow
        go_wp2_with fail
        refine F2.out.mono ?_
        rintro e w2 ⟨rfl, rfl⟩
        unfold foundI
        go_wp2
        go_ret2
        exact ⟨rfl, HB.out⟩
      | some f =>
        rw [hq] at F
        have hf := hfl f hq
        go_enter Try.func56, Try.ntmps56
        go_wp2_with fail
        refine (G.out _).mono ?_
        rintro e w1 ⟨rfl, rfl⟩
        go_wp2_with fail
        refine (D.out _ (B.out _)).mono ?_
        rintro e w1 ⟨v', rfl, hrow, hb1⟩
        have HB := Lib.hid ((B.out _).trans (hb1.mono (B.out _).size))
        have F2 := Lib.hid (F.out w1 v' hrow)
        clear hb1 hrow
        go_wp2_with fail
        refine F2.out.mono ?_
        rintro e w2 ⟨rfl, rfl⟩
        unfold foundI
        go_wp2
        go_ret2
        exact ⟨rfl, HB.out⟩
theorem asked_callW {M : RefM} {f s m a : Option Addr × Nat × Nat} (hF : Fit M) (z : ByteArray) (hz : z.size ≤ 1000000) (w : World) (h : RefAt w M f s m a) :
    Calls Try.prog 56 #[slices f s m a M.room M.units M.left M.armed M.gone, .string z] w fun e w' => e = .returned (.tuple #[.int .i64 (askedI (askedM M [z] z)), .int .i64 (askedM M [z] z).2]) ∧ Below w.heap.size w w' :=
  refasked_anyW M.room M.units M.left M.armed M.gone (sliceV f) (sliceV s) (sliceV m) (sliceV a) M.sure M.waits z hz w h.sure h.moves hF.rising hF.names hF.moves hF.dirs
set_option maxRecDepth 100000 in
set_option maxHeartbeats 4000000 in
theorem refread_anyW (M : RefM) (f s m a : Option Addr × Nat × Nat) (hF : Fit M) (z : ByteArray) (hz : z.size ≤ 1000000) (w : World) (h : RefAt w M f s m a) :
    Calls Try.prog 37 #[slices f s m a M.room M.units M.left M.armed M.gone, .string z] w fun e w' => e = .returned (.tuple #[.string (readM M z).1, .int .i64 (readM M z).2]) ∧ Below w.heap.size w w' := by
  have A := fun (W : World) (hb : Below w.heap.size w W) => asked_callW hF z hz W (h.below hb (Nat.le_refl _))
  obtain ⟨l, hl, hfr⟩ := h.files
  obtain ⟨f1, f2, f3⟩ := f
  obtain ⟨s1, s2, s3⟩ := s
  obtain ⟨m1, m2, m3⟩ := m
  obtain ⟨a1, a2, a3⟩ := a
  unfold sliceV at hfr
  unfold slices refA at A ⊢
  dsimp only at hfr A ⊢
  have B := Lib.hid (fun o : Obj => (Below.refl _ w).alloc (Nat.le_refl _) o)
  have A := Lib.hid A
  have R := Lib.hid (show readM M z = _ from rfl)
  have hlt := fun hq => hF.asked_lt (zs := [z]) (z := z) hq
  have hcode := asked_codes M [z] z
  have hfs := hF.files
  unfold readM at R
  unfold readM
  have HL := hF.nfiles
  rw [← hl] at hlt hfs HL
  rw [List.length_map] at HL
  rw [← hl]
  clear R hF h
  generalize askedM M [z] z = q at *
  obtain ⟨q1, q2⟩ := q
  generalize M.gone = gone at *
  dsimp only at hlt hcode A ⊢
  unfold askedI at A
  dsimp only at A
  cases gone with
  | true =>
    go_enter Try.func37, Try.ntmps37
    go_wp2
    go_ret2
    exact ⟨rfl, B.out _⟩
  | false =>
    by_cases h0 : q2 = 0
    · subst h0
      have hq : q1 < l.length := by have := hlt rfl; rw [List.length_map] at this; exact this
      clear hlt
      have H := Lib.hid hfr
      have HFS := Lib.hid (hfs l[q1].1 (List.mem_map.2 ⟨l[q1], List.getElem_mem hq, rfl⟩))
      have e1 : (l.map (·.1))[q1]? = some l[q1].1 := by rw [List.getElem?_map, List.getElem?_eq_getElem hq]; rfl
      rw [e1]
      simp only [if_true] at A
      clear hfr hfs hl e1 hcode
      go_enter Try.func37, Try.ntmps37
      go_wp2_with fail
      refine (A.out _ (B.out _)).mono ?_
      rintro e w1 ⟨rfl, hb1⟩
      have HB := Lib.hid ((B.out _).trans (hb1.mono (B.out _).size))
      have hfr1 := H.out.below HB.out (Nat.le_refl _)
      have hc := (Cells.new w 37 #[.int .i64 M.room, .slice f1 f2 f3, .slice s1 s2 s3, .slice m1 m2 m3, .int .i64 M.units, .int .i64 M.left, .bool M.armed, .bool false, .slice a1 a2 a3]).below hb1 (by simp)
      have b1 := hc.cell 1
      have hwl := hc.lt
      simp at b1
      obtain ⟨g0, cap, ⟨⟩, _⟩ := Joins.ownsRow_form hfr1.1 (by omega)
      obtain ⟨c0, c1⟩ := filesM_at l q1 hq
      have r0 := row_at hfr1.1 c0
      have r1 := row_at hfr1.1 c1
      have S := Lib.hid (fun (W : World) (hb : Below w1.heap.size w1 W) => refseen_any l[q1].1 l[q1].2 W (row_below (hfr1.2 _ (List.getElem_mem hq)) hb (Nat.le_refl _)) HFS.out)
      have hg := (hfr1.1.lt g0 rfl).2
      obtain ⟨wo, wcap, ew, _⟩ := row_shape (hfr1.2 _ (List.getElem_mem hq))
      have hpv : l[q1].2 = .slice wo l[q1].1.waits.length wcap := ew
      have S := S
      rw [hpv] at r1 S
      clear hc hb1
      have hq1 : (q1 : Int) < (l.length : Int) := by omega
      have hl6 : l.length ≤ 1000000 := HL
      go_wp2_with fail
      refine (S.out _ (Below.refl _ _)).mono ?_
      rintro e w2 ⟨rfl, hb2⟩
      go_wp2
      go_ret2
      exact ⟨rfl, HB.out.trans (hb2.mono HB.out.size)⟩
    · have e1 : (if q2 = 0 then (q1 : Int) else -1) = -1 := if_neg h0
      rw [e1] at A
      have hne : ((q2 : Int) == 0) = false := by rw [beq_eq_false_iff_ne]; omega
      simp only [Bool.false_eq_true, if_false, ne_eq, h0, not_false_eq_true, if_true]
      clear hfr hfs hl e1 hlt
      go_enter Try.func37, Try.ntmps37
      go_wp2_with fail
      refine (A.out _ (B.out _)).mono ?_
      rintro e w1 ⟨rfl, hb1⟩
      have HB := Lib.hid ((B.out _).trans (hb1.mono (B.out _).size))
      clear hb1
      go_wp2
      go_ret2
      exact ⟨rfl, HB.out⟩
set_option maxRecDepth 100000 in
set_option maxHeartbeats 4000000 in
theorem refsure_anyW (M : RefM) (f s m a : Option Addr × Nat × Nat) (hF : Fit M) (z : ByteArray) (hz : z.size ≤ 1000000) (w : World) (h : RefAt w M f s m a) :
    Calls Try.prog 39 #[slices f s m a M.room M.units M.left M.armed M.gone, .string z] w fun e w' => e = .returned (.tuple #[.string (sureM M z).1, .bool (sureM M z).2]) ∧ Below w.heap.size w w' := by
  have F := fun (W : World) (hb : Below w.heap.size w W) => reffind_any M.sure (sliceV s) z.data.toList W (row_below h.sure hb (Nat.le_refl _)) (by have := hF.dirs; omega) (by rw [← Lib.size_eq]; omega) (fun x hx => (hF.names x hx).1)
  simp only [bs_of] at F
  obtain ⟨l, hl, hfr⟩ := h.files
  obtain ⟨f1, f2, f3⟩ := f
  obtain ⟨s1, s2, s3⟩ := s
  obtain ⟨m1, m2, m3⟩ := m
  obtain ⟨a1, a2, a3⟩ := a
  unfold sliceV at hfr F
  unfold slices refA
  dsimp only at hfr F ⊢
  have B := Lib.hid (fun o : Obj => (Below.refl _ w).alloc (Nat.le_refl _) o)
  have HL := hF.nfiles
  have hlt : ∀ i, dget M.sure z.data.toList = some i → i < l.length := fun i hi => by
    obtain ⟨x, hx, rfl⟩ := dget_mem hi
    have := hF.sureF x hx
    rw [← hl, List.length_map] at this; exact this
  unfold sureM
  rw [← hl] at HL ⊢
  rw [List.length_map] at HL
  clear hF h
  generalize dget M.sure z.data.toList = o at *
  cases o with
  | none =>
    have F := Lib.hid F
    unfold foundI at F
    clear hfr hlt hl
    go_enter Try.func39, Try.ntmps39
    go_wp2_with fail
    refine (F.out _ (B.out _)).mono ?_
    rintro e w1 ⟨rfl, rfl⟩
    go_wp2
    go_ret2
    exact ⟨rfl, B.out _⟩
  | some i =>
    have hq := hlt i rfl
    have e1 : (l.map (·.1))[i]? = some l[i].1 := by rw [List.getElem?_map, List.getElem?_eq_getElem hq]; rfl
    dsimp only
    rw [e1]
    have F := Lib.hid F
    unfold foundI at F
    have HFR := Lib.hid (fun (W : World) (hb : Below w.heap.size w W) => hfr.below hb (Nat.le_refl _))
    obtain ⟨g0, cap, ⟨⟩, _⟩ := Joins.ownsRow_form hfr.1 (by omega)
    obtain ⟨c0, c1⟩ := filesM_at l i hq
    have hfr0 := HFR.out (w.alloc (.cells #[.int .i64 M.room, .slice (some ⟨g0, 0, none⟩) l.length f3, .slice s1 s2 s3, .slice m1 m2 m3, .int .i64 M.units, .int .i64 M.left, .bool M.armed, .bool M.gone, .slice a1 a2 a3] 37)) (B.out _)
    have r0 := row_at hfr0.1 c0
    have hg := (hfr.1.lt g0 rfl).2
    have hr0 := row_at hfr.1 c0
    generalize l[i] = p at *
    clear hfr hfr0 c0 c1 hlt hl e1
    go_enter Try.func39, Try.ntmps39
    go_wp2_with fail
    refine (F.out _ (B.out _)).mono ?_
    rintro e w1 ⟨rfl, rfl⟩
    go_wp2
    go_ret2
    exact ⟨rfl, B.out _⟩
end Go.Proofs.Ytembondddgfpcaa

namespace Go.Proofs.Ytembondddgfpcaa.Sd
open Go.RowKit Go.Maps Go.Sort Go.Shelf

theorem drewN_below {B : Nat} {a w : World} (h : Below B a w) (n : Nat) : Below B a (w.drewN n) := ⟨h.os, h.tape, h.output, h.size, h.block⟩
def Strs (w : World) (v : Value) (ss : List ByteArray) : Prop :=
  ∃ A cap, v = .slice A ss.length cap ∧ ss.length ≤ cap ∧ ∀ (i : Nat) (s : ByteArray), ss[i]? = some s → ∃ b off, A = some ⟨b, off, none⟩ ∧ b < w.heap.size ∧ w.cell? ⟨b, off + i, none⟩ = some (.string s)
theorem Strs.below {w w' : World} {v : Value} {ss : List ByteArray} {n : Nat} (h : Strs w v ss) (hb : Below n w w') (hn : w.heap.size ≤ n) : Strs w' v ss := by
  obtain ⟨A, cap, hv, hle, hc⟩ := h
  refine ⟨A, cap, hv, hle, fun i s hs => ?_⟩
  obtain ⟨b, off, hA, hlt, hcell⟩ := hc i s hs
  exact ⟨b, off, hA, Nat.lt_of_lt_of_le hlt hb.size, (hb.cell (p := ⟨b, off + i, none⟩) (Nat.lt_of_lt_of_le hlt hn)).trans hcell⟩
theorem Strs.none (w : World) (c : Nat) : Strs w (.slice none 0 c) [] := ⟨_, c, rfl, Nat.zero_le _, fun i s h => by simp at h⟩
set_option maxRecDepth 100000 in
set_option maxHeartbeats 4000000 in
theorem texts_any (v v' : Value) (ss zs : List ByteArray) (w : World) (h : Strs w v ss) (h' : Strs w v' zs) (hl : ss.length ≤ 1000000) (hl' : zs.length ≤ 1000000) :
    Calls Try.prog 40 #[v, v'] w fun e w' => e = .returned (.bool (decide (ss = zs))) ∧ Below w.heap.size w w' := by
  obtain ⟨A, cap, rfl, hle, hc⟩ := h
  obtain ⟨A', cap', rfl, hle', hc'⟩ := h'
  by_cases hne : ss.length = zs.length
  · go_enter Try.func40, Try.ntmps40
    go_wp2
    go_loopw [13] (fun i wr => ∃ k : Nat, k ≤ ss.length ∧ i = .int .i64 k ∧ (ss.take k = zs.take k) ∧ Below w.heap.size w wr) (fun i _ => ss.length - (intOf i).toNat)
    case atStart => exact ⟨0, Nat.zero_le _, rfl, rfl, Below.refl _ _⟩
    case round =>
      obtain ⟨k, hk, rfl, he, hbl⟩ := hrel
      by_cases hlt : k < ss.length
      · obtain ⟨x, e1⟩ : ∃ x, ss[k]? = some x := ⟨_, List.getElem?_eq_getElem hlt⟩
        obtain ⟨y, e2⟩ : ∃ y, zs[k]? = some y := ⟨_, List.getElem?_eq_getElem (by omega)⟩
        obtain ⟨b, off, rfl, hb, c1⟩ := hc k _ e1
        obtain ⟨b', off', rfl, hb', c2⟩ := hc' k _ e2
        replace c1 := (hbl.cell (p := ⟨b, off + k, none⟩) hb).trans c1
        replace c2 := (hbl.cell (p := ⟨b', off' + k, none⟩) hb').trans c2
        have E := Lib.hid he
        have T1 : Hid (ss.take (k + 1) = ss.take k ++ [x]) := by show _ = _; rw [List.take_add_one, e1]; rfl
        have T2 : Hid (zs.take (k + 1) = zs.take k ++ [y]) := by show _ = _; rw [List.take_add_one, e2]; rfl
        have F := Lib.hid (show x ≠ y → ss ≠ zs from fun hn hs => by subst hs; rw [e1] at e2; exact hn (Option.some.inj e2))
        have hz : k < zs.length := by omega
        clear hc hc' e1 e2 he
        by_cases hxy : x = y
        · subst hxy
          go_wp2_with (go_quiet (fail))
          go_roundw
          case rel => exact ⟨k + 1, hlt, by go_num, by rw [T1.out, T2.out, E.out], drewN_below hbl _⟩
          case measure => simp [intOf]; omega
        · have hx2 : ¬ x.toList = y.toList := fun e => hxy (by apply ByteArray.ext; apply Array.ext'; have := e; rw [Lib.toList_data, Lib.toList_data] at this; exact this)
          have F2 := Lib.hid (F.out hxy)
          clear F
          have hx3 : (x.toList == y.toList) = false := by simpa using hx2
          have hx4 : (x.toList != y.toList) = true := by simpa using hx2
          go_wp2_with (go_quiet (fail))
          go_ret
          exact ⟨by simp [F2.out], drewN_below hbl _⟩
      · obtain rfl : k = ss.length := by omega
        rw [List.take_of_length_le (Nat.le_refl _), List.take_of_length_le (by omega)] at he
        clear hc hc'
        go_wp2
        go_ret
        exact ⟨by simp [he], hbl⟩
  · have hn : ¬ ((ss.length : Int) = zs.length) := by omega
    have F := Lib.hid (show ss ≠ zs from fun hs => by subst hs; exact hne rfl)
    clear hc hc' hne
    go_enter Try.func40, Try.ntmps40
    go_wp2
    go_ret
    exact ⟨by simp [F.out], Below.refl _ _⟩
theorem strs_of {w : World} {lo : Nat} {v : Value} {ss : List (List UInt8)} (h : w.ownsRow lo 9 1 v ss.length (ss.map fun s => .string (bs s))) : Strs w v (ss.map bs) := by
  have h0 := h
  rcases h.2 with ⟨q, hn⟩ | ⟨g, cap, cur, q, hb, hc, hle, _⟩
  · have : ss = [] := List.eq_nil_of_length_eq_zero (by first | exact hn | exact hn.symm | omega)
    subst this
    rw [q]; exact Strs.none w 0
  · refine ⟨some ⟨g, 0, none⟩, cap, by rw [List.length_map]; exact q, by rw [List.length_map]; exact hle, fun i s hs => ⟨g, 0, rfl, (Array.getElem?_eq_some_iff.1 hc).1, ?_⟩⟩
    rw [List.getElem?_map] at hs
    obtain ⟨x, hx, rfl⟩ := Option.map_eq_some_iff.1 hs
    rw [q] at h0
    have := row_at h0 (j := i) (u := .string (bs x)) (by rw [List.getElem?_map, hx]; rfl)
    simpa using this
end Go.Proofs.Ytembondddgfpcaa.Sd

namespace Go.Proofs.Ytembondddgfpcaa.Sd
open Go.RowKit Go.Maps Go.Sort Go.Shelf

theorem before_le : ∀ {a b : List UInt8}, bytesBefore a b = true → a ≤ b
  | [], _, _ => List.nil_le _
  | x :: a, [], h => by cases h
  | x :: a, y :: b, h => by
    have h' : (decide (x < y) || (x == y && bytesBefore a b)) = true := h
    rw [List.cons_le_cons_iff]
    simp at h'
    rcases h' with h' | ⟨h1, h2⟩
    · exact .inl h'
    · exact .inr ⟨h1, before_le h2⟩
theorem dir_keys (l : Dir) : strKeys (dmapD l) = l.map (·.1) := by
  show (l.map dlit).map (fun p => strOf p.1) = _
  rw [List.map_map]; rfl
theorem rising_sorted {l : Dir} (h : Rising l) {ss : List (List UInt8)} (hp : ss.Perm (l.map (·.1))) : ss.mergeSort (fun x y => decide (x ≤ y)) = l.map (·.1) := by
  have h1 : (ss.mergeSort (fun x y : List UInt8 => decide (x ≤ y))).Pairwise fun x y => x ≤ y := by
    have := List.pairwise_mergeSort (le := fun x y : List UInt8 => decide (x ≤ y)) (fun a b c h1 h2 => by simp at h1 h2 ⊢; exact List.le_trans h1 h2) (fun a b => by simp; exact List.le_total a b) ss
    exact this.imp fun h => by simpa using h
  have h2 : (l.map (·.1)).Pairwise fun x y => x ≤ y := List.pairwise_map.2 (h.up.imp fun h => before_le h)
  exact List.Perm.eq_of_pairwise (le := fun x y : List UInt8 => x ≤ y) (fun a b _ _ h1 h2 => List.le_antisymm h1 h2) h1 h2 ((List.mergeSort_perm _ _).trans hp)
/-- slices.Sort, at any world. -/
theorem sortsS (m : Nat) : AnyZ.SortsIn Try.prog Try.sortedS_ren Fence.wide m :=
  ⟨fun blk off cap ss W hH hblk hsz => callsIn_wide.2 (AnyM.slices_Sort_string Try.sortS blk off cap ss W hH hblk hsz), fun p cap W => callsIn_wide.2 (AnyM.slices_Sort_string_none Try.sortS p cap W)⟩
theorem keysD_call (mb : Option Nat) (W : World) : CallsIn Fence.wide 5 Try.prog 55 #[.map mb] W fun e w' => e = .returned (.func (.func 73) #[] #[.pointer (some ⟨W.heap.size, 0, none⟩)]) ∧ w' = W.alloc (.cells #[.map mb] 65) :=
  AnyZ.keys_in Try.keysD Fence.wide 5 trivial rfl mb W
/-- What a sorted answer is: its elements rising, in a new array; nil where there is none. -/
def AnsS (w w' : World) (v : Value) (ss : List (List UInt8)) : Prop :=
  w'.ownsRow w.heap.size 9 1 v ss.length ((ss.mergeSort (fun x y => decide (x ≤ y))).map encStr) ∧ (v = .slice none 0 0 ↔ ss = []) ∧ Below w.heap.size w w'
set_option maxHeartbeats 1000000 in
theorem sortedD (b nn : Nat) (D0 : DataW Unit) (R : Value → Option (DataW Unit × List MemPlace)) (w : World) (hown : w.ownsMap Try.prog 9 R b nn D0) (hmax : Maps.size D0 ≤ 10000000) :
    CallsIn Fence.wide 5 Try.prog 54 #[.func (.func 73) #[] #[.pointer (some ⟨w.heap.size, 0, none⟩)]] (w.alloc (.cells #[.map (some b)] 65)) fun e w' => ∃ (v : Value) (ss : List (List UInt8)), e = .returned v ∧ ss.Perm (strKeys D0) ∧ AnsS w w' v ss := by
  have hbl := hown.lt
  have hseq : SeqGives Fence.wide 2 Try.prog 73 #[.pointer (some ⟨w.heap.size, 0, none⟩)] encStr (fun ss => ss.Perm (strKeys D0)) (Maps.size D0) (w.alloc (.cells #[.map (some b)] 65)) :=
    AnyZ.keys_gives (ρ := Try.keysD_ren) { Try.keysD with } Fence.wide _ trivial rfl (by omega) w.heap.size b nn D0 _ (by simp) (by simp) (by
      obtain ⟨es, clock, hb, Ft, hs, hD⟩ := hown
      exact ⟨es, clock, (Below.heap_alloc _ _ b hbl).trans hb, Ft, hs, hD⟩)
  refine (AnyZ.sorted_in Try.sortedS Fence.wide 5 trivial trivial trivial trivial rfl (by omega) (sortsS _) (enters_of Try.func72 (by kernel_rfl) rfl) 73 #[.pointer (some ⟨w.heap.size, 0, none⟩)] trivial (enters_of Try.func73 (by kernel_rfl) rfl) _ _ (by unfold maxLen; omega) (by omega) _ hseq).mono ?_
  rintro e w' ⟨v, ss, rfl, hS, hrow, hnil, hb⟩
  exact ⟨v, ss, rfl, hS, ownsRow_base_a hrow (by simp), hnil, ((Below.refl _ w).alloc (Nat.le_refl _) _).trans (hb.mono (by simp))⟩
set_option maxHeartbeats 1000000 in
theorem sortedD_nil (w : World) :
    CallsIn Fence.wide 5 Try.prog 54 #[.func (.func 73) #[] #[.pointer (some ⟨w.heap.size, 0, none⟩)]] (w.alloc (.cells #[.map none] 65)) fun e w' => e = .returned (.slice none 0 0) ∧ Below w.heap.size w w' := by
  have hseq : SeqGives Fence.wide 2 Try.prog 73 #[.pointer (some ⟨w.heap.size, 0, none⟩)] encStr (fun ss : List (List UInt8) => ss = []) 0 (w.alloc (.cells #[.map none] 65)) :=
    AnyZ.keys_gives_nil (ρ := Try.keysD_ren) { Try.keysD with } Fence.wide _ trivial rfl w.heap.size _ (by simp) (by simp)
  refine (AnyZ.sorted_in Try.sortedS Fence.wide 5 trivial trivial trivial trivial rfl (by omega) (sortsS _) (enters_of Try.func72 (by kernel_rfl) rfl) 73 #[.pointer (some ⟨w.heap.size, 0, none⟩)] trivial (enters_of Try.func73 (by kernel_rfl) rfl) _ 0 (Nat.zero_le _) (by omega) _ hseq).mono ?_
  rintro e w' ⟨v, ss, rfl, hS, hrow, hnil, hb⟩
  exact ⟨by rw [hnil.2 hS], ((Below.refl _ w).alloc (Nat.le_refl _) _).trans (hb.mono (by simp))⟩
theorem ansD {w w' : World} {v : Value} {ss : List (List UInt8)} {l : Dir} (hr : Rising l) (hp : ss.Perm (l.map (·.1))) (h : AnsS w w' v ss) : Strs w' v (l.map fun x => bs x.1) := by
  have h1 := h.1
  rw [rising_sorted hr hp] at h1
  have hl : ss.length = (l.map (·.1)).length := hp.length_eq
  rw [hl] at h1
  have e : (l.map fun x => bs x.1) = (l.map (·.1)).map bs := by rw [List.map_map]; rfl
  rw [e]
  exact strs_of h1
set_option maxRecDepth 100000 in
set_option maxHeartbeats 4000000 in
theorem names_any {w : World} {T : Nat → Nat} {p n : Nat} {D : ADisk} (hA : DiskAt w T p D) (hf : Fine n D) (hn : n ≤ 300000) (hr : Rising D.seen) :
    Calls Try.prog 23 #[.pointer (some ⟨p, 0, none⟩)] w fun e w' => ∃ v, e = .returned v ∧ Strs w' v (D.seen.map fun x => bs x.1) ∧ Below w.heap.size w w' := by
  obtain ⟨V, hV⟩ := hA
  have hp := hV.cells.lt
  have d6 : w.cell? ⟨p, 6, none⟩ = some V.v6 := hV.cells.cell 6
  have hfK : Fence.wide.fn 55 := trivial
  have hfS : Fence.wide.fn 54 := trivial
  have hlen : D.seen.length ≤ 1000000 := by
    have h1 := dplay_length D.waits D.sure
    have h2 := hf.dirs
    unfold ADisk.seen; omega
  refine (callsIn_wide (n := 6)).1 ?_
  rcases hV.m6 with ⟨e6, hs⟩ | ⟨b6, e6, ho⟩
  · rw [e6] at d6
    rw [hs]
    have cS := sortedD_nil w
    clear hV hf hr hs hlen
    refine callsIn_of_wp Try.func23 rfl trivial ?_ rfl
    simp only [Try.ntmps23, List.size_toArray, List.length_cons, List.length_nil, Nat.reduceAdd, Nat.reduceSub, Array.replicate_succ, Array.replicate_zero, List.push_toArray, List.append_toArray, List.nil_append, List.cons_append]
    gi_wp2_with (first
      | (gi_at_call 55; refine (keysD_call _ _).mono ?_; rintro e w' ⟨rfl, rfl⟩)
      | (gi_at_call 54; refine cS.mono ?_; rintro e w' ⟨rfl, hb⟩))
    go_ret
    exact ⟨_, rfl, Strs.none _ _, hb⟩
  · rw [e6] at d6
    have cS := sortedD b6 D.seen.length (dmapD D.seen) (plainElem Try.prog 3) w ho (by have := ho.size_le; omega)
    rw [dir_keys] at cS
    have HR := Lib.hid hr
    clear hV hf hr hlen ho
    refine callsIn_of_wp Try.func23 rfl trivial ?_ rfl
    simp only [Try.ntmps23, List.size_toArray, List.length_cons, List.length_nil, Nat.reduceAdd, Nat.reduceSub, Array.replicate_succ, Array.replicate_zero, List.push_toArray, List.append_toArray, List.nil_append, List.cons_append]
    gi_wp2_with (first
      | (gi_at_call 55; refine (keysD_call _ _).mono ?_; rintro e w' ⟨rfl, rfl⟩)
      | (gi_at_call 54; refine cS.mono ?_; rintro e w' ⟨v, ss, rfl, hS, ha⟩))
    go_ret
    exact ⟨v, rfl, ansD HR.out hS ha, ha.2.2⟩
end Go.Proofs.Ytembondddgfpcaa.Sd

