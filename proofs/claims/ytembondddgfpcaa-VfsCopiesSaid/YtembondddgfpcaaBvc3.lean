/- Texts put together: KG. -/
import Derived.Test.YtembondddgfpcaaBvp1
import Derived.Test.YtembondddgfpcaaBvp2
import Derived.Test.YtembondddgfpcaaBvp3
import Derived.Test.YtembondddgfpcaaBvp4
import Derived.Test.YtembondddgfpcaaBvp5
import Derived.Test.YtembondddgfpcaaBvp6
import Derived.Test.YtembondddgfpcaaBvp7
import Derived.Test.YtembondddgfpcaaBvp8
import Derived.Test.YtembondddgfpcaaBvp9
import Derived.Test.YtembondddgfpcaaBvp10
import Derived.Test.YtembondddgfpcaaBvp11
import Derived.Test.YtembondddgfpcaaBvp12
import Derived.Test.YtembondddgfpcaaBvp13
import Derived.Test.YtembondddgfpcaaBvp14
import Derived.Test.YtembondddgfpcaaBvp15
import Derived.Test.YtembondddgfpcaaBvp16
import Derived.Test.YtembondddgfpcaaBvp17
import Derived.Test.YtembondddgfpcaaBvp18
import Derived.Test.YtembondddgfpcaaBvp19
import Derived.Test.YtembondddgfpcaaBvc1
import Derived.Test.YtembondddgfpcaaBvc2
set_option linter.unusedVariables false
namespace Go.Proofs.Ytembondddgfpcaa
open Go.RowKit Go.Maps
attribute [local go_sem] World.cell?_alloc_some

theorem do2_at {L : Nat} {W w : World} {n p : Nat} {D : ADisk} {M : RefM} {f s m a : Tri} (hP : Pr L n p w D M f s m a) (hn : n ≤ 80000) (hWL : W.heap.size ≤ L) (hL : L ≤ w.heap.size) (hb : Below W.heap.size W w) (o : OpV) (ho : OpOk W o) (hsh : shortOp o) (ao : Option Addr) (cap : Nat) (hkv : o.keep = .slice ao o.ks.length cap) (hao : 0 < o.ks.length → ao = some o.ad) :
    Calls Try.prog 9 #[.pointer (some ⟨p, 0, none⟩), slices f s m a M.room M.units M.left M.armed M.gone, opV o.kind o.n o.name o.text ao o.ks.length cap] w fun e w' => ∃ D' M', DoG L (n + 402) p w D' M' e w' := by
  obtain ⟨hi, hkl, hnl, htl, hwk, hwn⟩ := ho
  obtain ⟨htx, hnm, hks⟩ := hsh
  obtain ⟨hk1, hk2⟩ := wf_range hwn
  obtain ⟨kind, k, name, text, keep, ks, ad⟩ := o
  dsimp only at *
  by_cases h1 : kind = 1
  · subst h1; exact (do2_create hP hn hL k name text ao ks.length cap hnm htx hk1 hk2).mono fun e w' h => ⟨_, _, h⟩
  by_cases h2 : kind = 2
  · subst h2; exact (do2_write hP hn hL k name text ao ks.length cap hnm htx hk1 hk2).mono fun e w' h => ⟨_, _, h⟩
  by_cases h3 : kind = 3
  · subst h3; exact (do2_cut hP hn hL k name text ao ks.length cap hnm htx hk1 hk2).mono fun e w' h => ⟨_, _, h⟩
  by_cases h4 : kind = 4
  · subst h4; exact (do2_sync hP hn hL k name text ao ks.length cap hnm htx hk1 hk2).mono fun e w' h => ⟨_, _, h⟩
  by_cases h5 : kind = 5
  · subst h5; exact (do2_rename hP hn hL k name text ao ks.length cap hnm htx hk1 hk2).mono fun e w' h => ⟨_, _, h⟩
  by_cases h6 : kind = 6
  · subst h6; exact (do2_remove hP hn hL k name text ao ks.length cap hnm htx hk1 hk2).mono fun e w' h => ⟨_, _, h⟩
  by_cases h7 : kind = 7
  · subst h7; exact (do2_syncdir hP hn hL k name text ao ks.length cap hnm htx hk1 hk2).mono fun e w' h => ⟨_, _, h⟩
  by_cases h8 : kind = 8
  · subst h8; exact (do2_arm hP hn hL k name text ao ks.length cap hnm htx hk1 hk2).mono fun e w' h => ⟨_, _, h⟩
  by_cases h9 : kind = 9
  · subst h9; exact (do2_crash hP hn hL k name text ao cap hnm htx hk1 hk2 ks ad hao hi.wf (by omega) hwn (fun W' hB j h => hi.cells W' (hb.trans (hB.mono (by omega))) j h)).mono fun e w' h => ⟨_, _, h⟩
  exact (do2_read hP hn hL kind k name text ao ks.length cap hnm htx hk1 hk2 ⟨by simpa using h1, by simpa using h2, by simpa using h3, by simpa using h4, by simpa using h5, by simpa using h6, by simpa using h7, by simpa using h8, by simpa using h9⟩).mono fun e w' h => ⟨_, _, h⟩
theorem isThree (w : World) : Calls Try.prog 8 #[errV 3, .int .i64 3] w fun e w' => e = .returned (.bool true) ∧ w' = w := by
  have N1 := Lib.hid (num_still 3 (by omega) w)
  go_enter Try.func8, Try.ntmps8
  go_wp2_with fail
  refine N1.out.mono ?_
  rintro e w1 ⟨rfl, rfl⟩
  go_wp2_with fail
  go_ret
  exact ⟨rfl, rfl⟩
theorem script_one {w : World} {o : OpV} (ho : OpOk w o) : Script (w.alloc (.cells #[.int .i64 o.kind, .int .i64 o.n, .string o.name, .string o.text, o.keep] 40)) (.slice (some ⟨w.heap.size, 0, none⟩) 1 1) [o] ⟨w.heap.size, 0, none⟩ := by
  have hb := (Below.refl w.heap.size w).alloc (Nat.le_refl _) (.cells #[.int .i64 o.kind, .int .i64 o.n, .string o.name, .string o.text, o.keep] 40)
  have C : Cells (w.alloc (.cells #[.int .i64 o.kind, .int .i64 o.n, .string o.name, .string o.text, o.keep] 40)) w.heap.size 40 #[.int .i64 o.kind, .int .i64 o.n, .string o.name, .string o.text, o.keep] := Cells.new _ _ _
  refine ⟨⟨_, 1, rfl, fun _ => rfl⟩, fun _ => C.lt, fun w' hb' i hi => ?_, fun o' h' => ?_, by simp [maxLen]⟩
  · obtain rfl : i = 0 := by simp at hi; omega
    have C' := C.below hb' C.lt
    have e : (⟨w.heap.size, 0, none⟩ : Addr).add (0 * 5) = ⟨w.heap.size, 0, none⟩ := by unfold Addr.add; split <;> simp_all
    rw [e]
    exact ⟨C'.cell 0, C'.cell 1, C'.cell 2, C'.cell 3, C'.cell 4⟩
  · obtain rfl : o' = o := by simpa using h'
    exact ho.below hb
set_option maxRecDepth 100000 in
set_option maxHeartbeats 16000000 in
theorem copiesLaw (v1 v2 : Value) (ops1 ops2 : List OpV) (a1 a2 : Addr) (o : OpV) (W : World) (hs1 : Script W v1 ops1 a1) (hs2 : Script W v2 ops2 a2) (ho : OpOk W o) :
    Calls Try.prog 4 #[v1, v2, .agg #[.int .i64 o.kind, .int .i64 o.n, .string o.name, .string o.text, o.keep]] W fun e w' => e = .returned (.bool true) ∧ Below W.heap.size W w' := by
  obtain ⟨ao, cap, hkv, hkao⟩ := ho.ints.val
  obtain ⟨W1, hW1⟩ : ∃ z, W.alloc (.cells #[.int .i64 o.kind, .int .i64 o.n, .string o.name, .string o.text, .slice ao o.ks.length cap] 40) = z := ⟨_, rfl⟩
  have hbW : Below W.heap.size W W1 := by rw [← hW1]; exact (Below.refl _ _).alloc (Nat.le_refl _) _
  have CX : Cells W1 W.heap.size 40 #[.int .i64 o.kind, .int .i64 o.n, .string o.name, .string o.text, .slice ao o.ks.length cap] := by rw [← hW1]; exact Cells.new _ _ _
  have HS1 := Lib.hid (hs1.below hbW)
  have HS2 := Lib.hid (hs2.below hbW)
  have HO := Lib.hid (ho.below hbW)
  have HBW := Lib.hid hbW
  have X5 : Hid (∀ W', Below W1.heap.size W1 W' → W'.cell? ⟨W.heap.size, 0, none⟩ = some (.int .i64 o.kind) ∧ W'.cell? ⟨W.heap.size, 1, none⟩ = some (.int .i64 o.n) ∧ W'.cell? ⟨W.heap.size, 2, none⟩ = some (.string o.name) ∧ W'.cell? ⟨W.heap.size, 3, none⟩ = some (.string o.text) ∧ W'.cell? ⟨W.heap.size, 4, none⟩ = some (.slice ao o.ks.length cap)) := fun W' hb => by
    have C := CX.below hb CX.lt
    exact ⟨C.cell 0, C.cell 1, C.cell 2, C.cell 3, C.cell 4⟩
  have AL := Lib.hid (alive_any W1)
  obtain ⟨z1, q1, rfl, hz1⟩ := hs1.val
  obtain ⟨z2, q2, rfl, hz2⟩ := hs2.val
  have HZ1 := Lib.hid hz1
  have HZ2 := Lib.hid hz2
  have LO1 := Lib.hid (fun W' (hb : Below W1.heap.size W1 W') => long_any _ ops1 a1 W' (HS1.out.below hb))
  have LO2 := Lib.hid (fun W' (hb : Below W1.heap.size W1 W') => long_any _ ops2 a2 W' (HS2.out.below hb))
  have LO3 := fun W' (hb : Below W1.heap.size W1 W') => long_any _ [o] _ _ (script_one (HO.out.below hb))
  have hl1 := hs1.len
  have hl2 := hs2.len
  unfold maxLen at hl1 hl2
  rw [hkv] at LO3 ⊢
  have LO3 := Lib.hid LO3
  have HKV := Lib.hid hkv
  have HW1 := Lib.hid hW1
  clear hs1 hs2 ho hbW CX hz1 hz2 hkv hW1
  go_enter Try.func4, Try.ntmps4
  go_wp2_with fail
  rw [HW1.out]
  clear HW1
  refine AL.out.mono ?_
  rintro e w0 ⟨rfl, hb0⟩
  have HB0 := Lib.hid hb0
  clear hb0 AL
  go_wp2_with fail
  refine (LO1.out w0 HB0.out).mono ?_
  rintro e w1 ⟨⟨b1, rfl, hsh1⟩, hb1⟩
  have HB1 := Lib.hid (HB0.out.trans (hb1.mono HB0.out.size))
  clear hb1 LO1 HB0
  cases b1
  rotate_left
  · clear hsh1
    go_wp2_with fail
    go_ret
    exact ⟨rfl, HBW.out.trans (HB1.out.mono HBW.out.size)⟩
  have SH1 := Lib.hid (hsh1 rfl)
  clear hsh1
  go_wp2_with fail
  refine (LO2.out w1 HB1.out).mono ?_
  rintro e w2 ⟨⟨b2, rfl, hsh2⟩, hb2⟩
  have HB2 := Lib.hid (HB1.out.trans (hb2.mono HB1.out.size))
  clear hb2 LO2 HB1
  cases b2
  rotate_left
  · clear hsh2
    go_wp2_with fail
    go_ret
    exact ⟨rfl, HBW.out.trans (HB2.out.mono HBW.out.size)⟩
  have SH2 := Lib.hid (hsh2 rfl)
  clear hsh2
  obtain ⟨x0, x1, x2, x3, x4⟩ := X5.out w2 HB2.out
  go_wp2_with fail
  refine (LO3.out w2 HB2.out).mono ?_
  rintro e w3 ⟨⟨b3, rfl, hsh3⟩, hb3⟩
  have HB3 := Lib.hid (HB2.out.trans ((((Below.refl w2.heap.size w2).alloc (Nat.le_refl _) _).trans (hb3.mono (by simp))).mono HB2.out.size))
  clear hb3 LO3 HB2 x0 x1 x2 x3 x4
  cases b3
  rotate_left
  · clear hsh3
    go_wp2_with fail
    go_ret
    exact ⟨rfl, HBW.out.trans (HB3.out.mono HBW.out.size)⟩
  clear hsh3
  have NY := Lib.hid (new_yes 500 w3 (by decide))
  go_wp2_with fail
  refine NY.out.mono ?_
  rintro e w4 ⟨rfl, g4, hb4, hs4⟩
  have hLw : W1.heap.size ≤ w3.heap.size := HB3.out.size
  have hB4 := HB3.out.trans (hb4.mono hLw)
  have P4 : Pr W1.heap.size 0 w3.heap.size w4 (freshD 500) (freshM 500) (none, 0, 0) (none, 0, 0) (none, 0, 0) (none, 0, 0) :=
    ⟨⟨_, g4, fun b hb => by
      by_cases e : b = w3.heap.size
      · omega
      · simp [e] at hb⟩, fresh_ref 500 w4, Ties.fresh 500, fresh_fine 500 (by omega) (by decide), Tidy.fresh 500, ⟨Int.le_refl _, by show (0 : Int) ≤ _; decide⟩⟩
  have hbA := (Below.refl w4.heap.size w4).alloc (Nat.le_refl _) (.cells (curM (freshM 500) (none, 0, 0) (none, 0, 0) (none, 0, 0) (none, 0, 0)) 37)
  have P5 := P4.below hbA
  have C5 : Cells (w4.alloc (.cells (curM (freshM 500) (none, 0, 0) (none, 0, 0) (none, 0, 0) (none, 0, 0)) 37)) w4.heap.size 37 (curM (freshM 500) (none, 0, 0) (none, 0, 0) (none, 0, 0) (none, 0, 0)) := Cells.new _ _ _
  have B5 := hB4.trans (hbA.mono hB4.size)
  obtain ⟨w5, hw5⟩ : ∃ z, w4.alloc (.cells (curM (freshM 500) (none, 0, 0) (none, 0, 0) (none, 0, 0) (none, 0, 0)) 37) = z := ⟨_, rfl⟩
  rw [hw5] at P5 C5 B5
  unfold curM freshM at hw5
  dsimp only at hw5
  have HW5 := Lib.hid hw5
  clear hw5
  have P5 := Lib.hid P5
  have C5 := Lib.hid C5
  have B5 := Lib.hid B5
  have hL4 : W1.heap.size ≤ w4.heap.size := hB4.size
  clear g4 hb4 hs4 P4 hbA hB4 NY HB3
  go_wp2_with fail
  rw [HW5.out]
  clear HW5
  go_loopw [45] (fun i wr => ∃ (k : Nat) (D : ADisk) (M : RefM) (f s m a' : Tri), k ≤ ops1.length ∧ i = .int .i64 k ∧ Pr W1.heap.size (402 * k) w3.heap.size wr D M f s m a' ∧ Cells wr w4.heap.size 37 (curM M f s m a') ∧ Below W1.heap.size W1 wr) (fun i _ => ops1.length - (intOf i).toNat)
  case atStart => exact ⟨0, _, _, _, _, _, _, Nat.zero_le _, rfl, P5.out, C5.out, B5.out⟩
  case round =>
    obtain ⟨k, D, M, f, s, m, a', hk, rfl, hP, hc, hb⟩ := hrel
    have hl61 := SH1.out.1
    by_cases hlt : k < ops1.length
    · obtain rfl := HZ1.out (by omega)
      obtain ⟨r0, r1, r2, r3, r4⟩ := HS1.out.cells wr hb k hlt
      have hok := HS1.out.ok ops1[k] (List.getElem_mem hlt)
      obtain ⟨ao2, cap2, hkv2, hao2⟩ := hok.ints.val
      have hlta : a1.block < wr.heap.size := Nat.lt_of_lt_of_le (HS1.out.lt (by omega)) hb.size
      have hsho := SH1.out.2 k hlt
      rw [hkv2] at r4
      generalize ops1[k] = o1 at *
      have hbx := (Below.refl wr.heap.size wr).alloc (Nat.le_refl _) (.cells #[.int .i64 o1.kind, .int .i64 o1.n, .string o1.name, .string o1.text, .slice ao2 o1.ks.length cap2] 40)
      have hbL := hb.trans (hbx.mono hb.size)
      have DO := do2_at (hP.below hbx) (by omega) (Nat.le_refl _) hbL.size hbL o1 hok hsho ao2 cap2 hkv2 hao2
      have C4 := hc.below hbx hc.lt
      have X4 : Cells (wr.alloc (.cells #[.int .i64 o1.kind, .int .i64 o1.n, .string o1.name, .string o1.text, .slice ao2 o1.ks.length cap2] 40)) wr.heap.size 40 _ := Cells.new _ _ _
      obtain ⟨w6, hw6⟩ : ∃ z, wr.alloc (.cells #[.int .i64 o1.kind, .int .i64 o1.n, .string o1.name, .string o1.text, .slice ao2 o1.ks.length cap2] 40) = z := ⟨_, rfl⟩
      rw [hw6] at DO C4 X4 hbL
      obtain ⟨f1, f2, f3⟩ := f
      obtain ⟨s1, s2, s3⟩ := s
      obtain ⟨m1, m2, m3⟩ := m
      obtain ⟨e1, e2, e3⟩ := a'
      unfold slices refA opV at DO
      unfold curM at C4
      dsimp only at DO C4
      obtain ⟨t0, t1, t2, t3, t4, t5, t6, t7, t8⟩ := cells9 C4
      have tl := C4.lt
      obtain ⟨x0, x1, x2, x3, x4⟩ : w6.cell? ⟨wr.heap.size, 0, none⟩ = some (.int .i64 o1.kind) ∧ w6.cell? ⟨wr.heap.size, 1, none⟩ = some (.int .i64 o1.n) ∧ w6.cell? ⟨wr.heap.size, 2, none⟩ = some (.string o1.name) ∧ w6.cell? ⟨wr.heap.size, 3, none⟩ = some (.string o1.text) ∧ w6.cell? ⟨wr.heap.size, 4, none⟩ = some (.slice ao2 o1.ks.length cap2) := ⟨X4.cell 0, X4.cell 1, X4.cell 2, X4.cell 3, X4.cell 4⟩
      have xl := X4.lt
      have DO := Lib.hid DO
      have C4 := Lib.hid C4
      have BL := Lib.hid hbL
      clear hP hc hb hbx X4 hok hsho hkv2 hao2 hbL
      go_wp2_with fail
      refine DO.out.mono ?_
      clear DO t0 t1 t2 t3 t4 t5 t6 t7 t8 tl x0 x1 x2 x3 x4 xl hw6 r0 r1 r2 r3 r4
      rintro e w7 ⟨D', M', ⟨f1', f2', f3'⟩, ⟨s1', s2', s3'⟩, ⟨m1', m2', m3'⟩, ⟨e1', e2', e3'⟩, rfl, hP5, hK5⟩
      unfold slices refA
      dsimp only
      have C6 := hK5.cells C4.out (by decide)
      have B6 := BL.out.trans hK5.bel
      have E7 := setBox_to C6 (.int .i64 M'.room) (.slice f1' f2' f3') (.slice s1' s2' s3') (.slice m1' m2' m3') (.int .i64 M'.units) (.int .i64 M'.left) (.bool M'.armed) (.bool M'.gone) (.slice e1' e2' e3')
      have D7 := hP5.disk.box C6 (by decide) (.int .i64 M'.room) (.slice f1' f2' f3') (.slice s1' s2' s3') (.slice m1' m2' m3') (.int .i64 M'.units) (.int .i64 M'.left) (.bool M'.armed) (.bool M'.gone) (.slice e1' e2' e3')
      have R7 := hP5.ref.box C6 (.int .i64 M'.room) (.slice f1' f2' f3') (.slice s1' s2' s3') (.slice m1' m2' m3') (.int .i64 M'.units) (.int .i64 M'.left) (.bool M'.armed) (.bool M'.gone) (.slice e1' e2' e3')
      have B7 := setBox_below B6 (b := w4.heap.size) hL4 (.int .i64 M'.room) (.slice f1' f2' f3') (.slice s1' s2' s3') (.slice m1' m2' m3') (.int .i64 M'.units) (.int .i64 M'.left) (.bool M'.armed) (.bool M'.gone) (.slice e1' e2' e3')
      have HN : Hid (Pr W1.heap.size (402 * (k + 1)) w3.heap.size _ D' M' (f1', f2', f3') (s1', s2', s3') (m1', m2', m3') (e1', e2', e3') ∧ Cells _ w4.heap.size 37 (curM M' (f1', f2', f3') (s1', s2', s3') (m1', m2', m3') (e1', e2', e3')) ∧ Below W1.heap.size W1 _) :=
        ⟨⟨D7, R7, hP5.ties, hP5.fine, hP5.tidy, hP5.left⟩, E7, B7⟩
      obtain ⟨y0, y1, y2, y3, y4, y5, y6, y7, y8⟩ := cells9 C6
      have yl := C6.lt
      have g0 := C6.frozen 0; have g1 := C6.frozen 1; have g2 := C6.frozen 2; have g3 := C6.frozen 3; have g4 := C6.frozen 4; have g5 := C6.frozen 5; have g6 := C6.frozen 6; have g7 := C6.frozen 7; have g8 := C6.frozen 8
      clear hP5 hK5 C6 B6 E7 D7 R7 B7 C4 BL
      go_wp2_with fail
      go_roundw
      case rel => exact ⟨k + 1, D', M', _, _, _, _, hlt, by go_num, HN.out.1, HN.out.2.1, HN.out.2.2⟩
      case measure => simp [intOf]; omega
    · obtain rfl : k = ops1.length := by omega
      obtain ⟨wc, hwc⟩ : ∃ z, z = wr := ⟨_, rfl⟩
      subst hwc
      obtain ⟨f1, f2, f3⟩ := f
      obtain ⟨s1, s2, s3⟩ := s
      obtain ⟨m1, m2, m3⟩ := m
      obtain ⟨e1, e2, e3⟩ := a'
      have P1 := Lib.hid (hP.mono (n' := 24522) (by omega))
      have B1 := Lib.hid hb
      unfold curM at hc
      dsimp only at hc
      have C1 := Lib.hid hc
      clear hP hc hb P5 C5 B5
      go_upto_region 14 with fail
      refine wp_region_any (by kernel_rfl) ?_
      refine Vm.region_cop14 _ wc.drew w3.heap.size w4.heap.size wc.heap.size (.agg #[.int .i64 M.room, .slice f1 f2 f3, .slice s1 s2 s3, .slice m1 m2 m3, .int .i64 M.units, .int .i64 M.left, .bool M.armed, .bool M.gone, .slice e1 e2 e3])
        (fun v W' => ∃ q T2, v = .pointer (some ⟨q, 0, none⟩) ∧ DiskAt W' T2 q D ∧ ∀ b, T2 b ≠ 0 → wc.heap.size ≤ b) _ rfl rfl rfl ?hLD (Nat.le_refl _) ?hPM ?hC1 ?hQ
      case hLD =>
        intro W' hb'
        obtain ⟨c0, c1, c2, c3, c4, c5, c6, c7, c8⟩ := cells9 (C1.out.below ((Below.refl wc.heap.size wc).drew.trans hb') C1.out.lt)
        simp [go_sem, c0, c1, c2, c3, c4, c5, c6, c7, c8]
      case hPM =>
        rintro v x y hb ⟨q, T2, e, h, g⟩
        exact ⟨q, T2, e, h.below hb, g⟩
      case hC1 =>
        intro W' hb'
        obtain ⟨T, ⟨V, hV⟩, _⟩ := P1.out.disk
        have hF := P1.out.fine
        refine (copy_any (hV.below ((Below.refl wc.heap.size wc).drew.trans hb')) (by have := hF.dirs; omega) (by have := hF.nfiles; omega) (fun g hg => by have := (hF.files g hg).many; omega) (by have := hF.nacts; omega)).mono ?_
        rintro e w' ⟨q, T2, rfl, h1, h2, h3⟩
        exact ⟨_, rfl, ⟨q, T2, rfl, h1, fun b hb2 => Nat.le_trans hb'.size (h2 b hb2)⟩, h3⟩
      case hQ =>
        intro y0 y1 y2 y3 y4 W4 hb4 hy2 hy3 hy4
        try dsimp only at hy2 hy3 hy4
        subst hy2
        obtain ⟨r2b, rfl, hr2, hc2⟩ := hy3
        obtain ⟨q, T2, rfl, hD2, hT2⟩ := hy4
        have hb4' : Below wc.heap.size wc W4 := (Below.refl wc.heap.size wc).drew.trans hb4
        have E2 := setBox_to hc2 (.int .i64 M.room) (.slice f1 f2 f3) (.slice s1 s2 s3) (.slice m1 m2 m3) (.int .i64 M.units) (.int .i64 M.left) (.bool M.armed) (.bool M.gone) (.slice e1 e2 e3)
        have O2 : DiskO wc.heap.size W4 q D := ⟨T2, hD2, hT2⟩
        have D2 := O2.box hc2 (by decide) (.int .i64 M.room) (.slice f1 f2 f3) (.slice s1 s2 s3) (.slice m1 m2 m3) (.int .i64 M.units) (.int .i64 M.left) (.bool M.armed) (.bool M.gone) (.slice e1 e2 e3)
        have R2 := (P1.out.ref.below hb4' (Nat.le_refl _)).box hc2 (.int .i64 M.room) (.slice f1 f2 f3) (.slice s1 s2 s3) (.slice m1 m2 m3) (.int .i64 M.units) (.int .i64 M.left) (.bool M.armed) (.bool M.gone) (.slice e1 e2 e3)
        have HN2 : Hid (Pr wc.heap.size 24522 q _ D M (f1, f2, f3) (s1, s2, s3) (m1, m2, m3) (e1, e2, e3) ∧ Cells _ r2b 37 (curM M (f1, f2, f3) (s1, s2, s3) (m1, m2, m3) (e1, e2, e3)) ∧ Below wc.heap.size wc _) :=
          ⟨⟨D2, R2, P1.out.ties, P1.out.fine, P1.out.tidy, P1.out.left⟩, E2, setBox_below hb4' hr2 (.int .i64 M.room) (.slice f1 f2 f3) (.slice s1 s2 s3) (.slice m1 m2 m3) (.int .i64 M.units) (.int .i64 M.left) (.bool M.armed) (.bool M.gone) (.slice e1 e2 e3)⟩
        obtain ⟨b0, b1, b2, b3, b4, b5, b6, b7, b8, bl, g0, g1, g2, g3, g4, g5, g6, g7, g8⟩ := Box9.of hc2
        clear hb4 hD2 hT2 hc2 E2 O2 D2 R2 hb4'
        simp only [List.foldl, List.setIfInBounds_toArray, List.set_cons_zero, List.set_cons_succ]
        go_wp2_with fail
        go_loopw [62] (fun i wr => ∃ (k : Nat) (D : ADisk) (M : RefM) (f s m a' : Tri), k ≤ ops2.length ∧ i = .int .i64 k ∧ Pr wc.heap.size (24522 + 402 * k) q wr D M f s m a' ∧ Cells wr r2b 37 (curM M f s m a') ∧ Below wc.heap.size wc wr) (fun i _ => ops2.length - (intOf i).toNat)
        case atStart => exact ⟨0, _, _, _, _, _, _, Nat.zero_le _, rfl, HN2.out.1, HN2.out.2.1, HN2.out.2.2⟩
        case round =>
          obtain ⟨k, D2, M2, f, s, m, a', hk, rfl, hP, hc, hb⟩ := hrel
          have hl61' := SH2.out.1
          have HBW1 := B1.out.trans (hb.mono B1.out.size)
          by_cases hlt : k < ops2.length
          · obtain rfl := HZ2.out (by omega)
            obtain ⟨r0, r1, r2, r3, r4⟩ := HS2.out.cells wr HBW1 k hlt
            have hok := HS2.out.ok ops2[k] (List.getElem_mem hlt)
            obtain ⟨ao2, cap2, hkv2, hao2⟩ := hok.ints.val
            have hlta : a2.block < wr.heap.size := Nat.lt_of_lt_of_le (HS2.out.lt (by omega)) HBW1.size
            have hsho := SH2.out.2 k hlt
            rw [hkv2] at r4
            generalize ops2[k] = o1 at *
            have hbx := (Below.refl wr.heap.size wr).alloc (Nat.le_refl _) (.cells #[.int .i64 o1.kind, .int .i64 o1.n, .string o1.name, .string o1.text, .slice ao2 o1.ks.length cap2] 40)
            have hbL := hb.trans (hbx.mono hb.size)
            have DO := do2_at (hP.below hbx) (by omega) B1.out.size hbL.size (HBW1.trans (hbx.mono HBW1.size)) o1 hok hsho ao2 cap2 hkv2 hao2
            have C4 := hc.below hbx hc.lt
            have X4 : Cells (wr.alloc (.cells #[.int .i64 o1.kind, .int .i64 o1.n, .string o1.name, .string o1.text, .slice ao2 o1.ks.length cap2] 40)) wr.heap.size 40 _ := Cells.new _ _ _
            obtain ⟨w6, hw6⟩ : ∃ z, wr.alloc (.cells #[.int .i64 o1.kind, .int .i64 o1.n, .string o1.name, .string o1.text, .slice ao2 o1.ks.length cap2] 40) = z := ⟨_, rfl⟩
            rw [hw6] at DO C4 X4 hbL
            obtain ⟨f1, f2, f3⟩ := f
            obtain ⟨s1, s2, s3⟩ := s
            obtain ⟨m1, m2, m3⟩ := m
            obtain ⟨e1, e2, e3⟩ := a'
            unfold slices refA opV at DO
            unfold curM at C4
            dsimp only at DO C4
            obtain ⟨t0, t1, t2, t3, t4, t5, t6, t7, t8⟩ := cells9 C4
            have tl := C4.lt
            obtain ⟨x0, x1, x2, x3, x4⟩ : w6.cell? ⟨wr.heap.size, 0, none⟩ = some (.int .i64 o1.kind) ∧ w6.cell? ⟨wr.heap.size, 1, none⟩ = some (.int .i64 o1.n) ∧ w6.cell? ⟨wr.heap.size, 2, none⟩ = some (.string o1.name) ∧ w6.cell? ⟨wr.heap.size, 3, none⟩ = some (.string o1.text) ∧ w6.cell? ⟨wr.heap.size, 4, none⟩ = some (.slice ao2 o1.ks.length cap2) := ⟨X4.cell 0, X4.cell 1, X4.cell 2, X4.cell 3, X4.cell 4⟩
            have xl := X4.lt
            have DO := Lib.hid DO
            have C4 := Lib.hid C4
            have BL := Lib.hid hbL
            clear hP hc hb hbx HBW1 X4 hok hsho hkv2 hao2 hbL
            go_wp2_with fail
            refine DO.out.mono ?_
            clear DO t0 t1 t2 t3 t4 t5 t6 t7 t8 tl x0 x1 x2 x3 x4 xl hw6 r0 r1 r2 r3 r4
            rintro e w7 ⟨D', M', ⟨f1', f2', f3'⟩, ⟨s1', s2', s3'⟩, ⟨m1', m2', m3'⟩, ⟨e1', e2', e3'⟩, rfl, hP5, hK5⟩
            unfold slices refA
            dsimp only
            have C6 := hK5.cells C4.out (by decide)
            have B6 := BL.out.trans hK5.bel
            have E7 := setBox_to C6 (.int .i64 M'.room) (.slice f1' f2' f3') (.slice s1' s2' s3') (.slice m1' m2' m3') (.int .i64 M'.units) (.int .i64 M'.left) (.bool M'.armed) (.bool M'.gone) (.slice e1' e2' e3')
            have D7 := hP5.disk.box C6 (by decide) (.int .i64 M'.room) (.slice f1' f2' f3') (.slice s1' s2' s3') (.slice m1' m2' m3') (.int .i64 M'.units) (.int .i64 M'.left) (.bool M'.armed) (.bool M'.gone) (.slice e1' e2' e3')
            have R7 := hP5.ref.box C6 (.int .i64 M'.room) (.slice f1' f2' f3') (.slice s1' s2' s3') (.slice m1' m2' m3') (.int .i64 M'.units) (.int .i64 M'.left) (.bool M'.armed) (.bool M'.gone) (.slice e1' e2' e3')
            have B7 := setBox_below B6 (b := r2b) hr2 (.int .i64 M'.room) (.slice f1' f2' f3') (.slice s1' s2' s3') (.slice m1' m2' m3') (.int .i64 M'.units) (.int .i64 M'.left) (.bool M'.armed) (.bool M'.gone) (.slice e1' e2' e3')
            have HN : Hid (Pr wc.heap.size (24522 + 402 * (k + 1)) q _ D' M' (f1', f2', f3') (s1', s2', s3') (m1', m2', m3') (e1', e2', e3') ∧ Cells _ r2b 37 (curM M' (f1', f2', f3') (s1', s2', s3') (m1', m2', m3') (e1', e2', e3')) ∧ Below wc.heap.size wc _) :=
              ⟨⟨D7, R7, hP5.ties, hP5.fine, hP5.tidy, hP5.left⟩, E7, B7⟩
            obtain ⟨y0, y1, y2, y3, y4, y5, y6, y7, y8⟩ := cells9 C6
            have yl := C6.lt
            have g0 := C6.frozen 0; have g1 := C6.frozen 1; have g2 := C6.frozen 2; have g3 := C6.frozen 3; have g4 := C6.frozen 4; have g5 := C6.frozen 5; have g6 := C6.frozen 6; have g7 := C6.frozen 7; have g8 := C6.frozen 8
            clear hP5 hK5 C6 B6 E7 D7 R7 B7 C4 BL
            go_wp2_with fail
            go_roundw
            case rel => exact ⟨k + 1, D', M', _, _, _, _, hlt, by go_num, HN.out.1, HN.out.2.1, HN.out.2.2⟩
            case measure => simp [intOf]; omega
          · obtain rfl : k = ops2.length := by omega
            obtain ⟨we, hwe⟩ : ∃ z, z = wr := ⟨_, rfl⟩
            subst hwe
            have P2 := Lib.hid (hP.mono (n' := 49044) (by omega))
            obtain ⟨f4, f5, f6⟩ := f
            obtain ⟨s4, s5, s6⟩ := s
            obtain ⟨m4, m5, m6⟩ := m
            obtain ⟨e4, e5, e6⟩ := a'
            unfold curM at hc
            dsimp only at hc
            have C2 := Lib.hid hc
            have BE := Lib.hid hb
            have XE := Lib.hid (fun W' (hb' : Below we.heap.size we W') => X5.out W' (B1.out.trans ((BE.out.trans (hb'.mono BE.out.size)).mono B1.out.size)))
            clear hP hc hb HN2 b0 b1 b2 b3 b4 b5 b6 b7 b8 bl g0 g1 g2 g3 g4 g5 g6 g7 g8
            obtain ⟨x0, x1, x2, x3, x4⟩ := XE.out we (Below.refl _ _)
            go_wp2_with fail
            refine (nil_crash o.n ao o.ks.length cap we).mono ?_
            rintro e w5 ⟨rfl, hb5⟩
            have K5 := Lib.hid hb5
            clear hb5 x0 x1 x2 x3 x4
            obtain ⟨x0, x1, x2, x3, x4⟩ := XE.out w5 K5.out
            go_wp2_with fail
            refine (nil_read o.name w5).mono ?_
            rintro e w6 ⟨rfl, hb6⟩
            have K6 := Lib.hid (K5.out.trans (hb6.mono K5.out.size))
            clear hb6 x0 x1 x2 x3 x4
            obtain ⟨x0, x1, x2, x3, x4⟩ := XE.out w6 K6.out
            go_wp2_with fail
            refine (nil_sure o.name w6).mono ?_
            rintro e w7 ⟨rfl, hb7⟩
            have K7 := Lib.hid (K6.out.trans (hb7.mono K6.out.size))
            clear hb7 x0 x1 x2 x3 x4 K5 K6
            go_upto_region 24 with fail
            refine wp_region_any (by kernel_rfl) ?_
            refine Vm.region_ans24 _ w7.drew W.heap.size o.n o.name o.text _ rfl rfl rfl rfl ?hE ?hC4 ?hC10 ?hC16 ?hC20 ?hC26 ?hC30 ?hC32 ?hC36 ?hQ
            case hE =>
              intro W' hb'
              obtain ⟨x0, x1, x2, x3, x4⟩ := XE.out W' (K7.out.drew.trans (hb'.mono K7.out.size))
              exact ⟨x1, x2, x3⟩
            case hC4 =>
              intro W' _
              exact (nil_create o.name W').mono fun e w' h => ⟨_, h.1, rfl, h.2⟩
            case hC10 =>
              intro W' _
              exact (nil_write o.name o.text W').mono fun e w' h => ⟨_, h.1, rfl, h.2⟩
            case hC16 =>
              intro W' _
              exact (nil_cut o.name o.n W').mono fun e w' h => ⟨_, h.1, rfl, h.2⟩
            case hC20 =>
              intro W' _
              exact (nil_sync o.name W').mono fun e w' h => ⟨_, h.1, rfl, h.2⟩
            case hC26 =>
              intro W' _
              exact (nil_rename o.name o.text W').mono fun e w' h => ⟨_, h.1, rfl, h.2⟩
            case hC30 =>
              intro W' _
              exact (nil_remove o.name W').mono fun e w' h => ⟨_, h.1, rfl, h.2⟩
            case hC32 =>
              intro W' _
              exact (nil_syncdir W').mono fun e w' h => ⟨_, h.1, rfl, h.2⟩
            case hC36 =>
              intro W' _
              exact (nil_arm o.n W').mono fun e w' h => ⟨_, h.1, rfl, h.2⟩
            case hQ =>
              intro y0 y1 y2 y3 y4 y5 y6 y7 y8 y9 y10 y11 y12 y13 y14 y15 y16 y17 y18 y19 y20 y21 y22 y23 y24 y25 y26 y27 y28 y29 y30 y31 y32 y33 y34 y35 y36 y37 y38 y39 W8 hb8 hy37 hy38 hy39
              try dsimp only at hy37 hy38 hy39
              obtain ⟨nb, rfl, hn9⟩ := hy37
              subst hy38 hy39
              have K8 := Lib.hid (K7.out.drew.trans (hb8.mono K7.out.size))
              have N9 := Lib.hid hn9
              clear hb8 hn9
              simp only [List.foldl, List.setIfInBounds_toArray, List.set_cons_zero, List.set_cons_succ]
              go_wp2_with fail
              go_loopw [133] (fun i x => ∃ k : Nat, k ≤ 9 ∧ i = .int .i64 k ∧ Below we.heap.size we x ∧ Cells x nb 27 Vm.nine) (fun i _ => 9 - (intOf i).toNat)
              case atStart => exact ⟨0, Nat.zero_le _, rfl, K8.out, N9.out⟩
              case round =>
                obtain ⟨k, hk9, rfl, hbx, hnx⟩ := hrel
                by_cases hlt9 : k < 9
                · have hc9 := hnx.cell k
                  have hl9 := hnx.lt
                  rw [show Vm.nine[k]? = some (errV 3) by rcases (by omega : k = 0 ∨ k = 1 ∨ k = 2 ∨ k = 3 ∨ k = 4 ∨ k = 5 ∨ k = 6 ∨ k = 7 ∨ k = 8) with rfl | rfl | rfl | rfl | rfl | rfl | rfl | rfl | rfl <;> rfl] at hc9
                  have HX := Lib.hid (And.intro hbx hnx)
                  clear hbx hnx
                  go_wp2_with fail
                  refine (isThree _).mono ?_
                  rintro e x' ⟨rfl, rfl⟩
                  go_wp2_with fail
                  go_roundw
                  case rel => exact ⟨k + 1, hlt9, by go_num, HX.out.1, HX.out.2⟩
                  case measure => simp [intOf]; omega
                · obtain rfl : k = 9 := by omega
                  obtain ⟨w8, hw8⟩ : ∃ z, z = wr := ⟨_, rfl⟩
                  subst hw8
                  have K9 := Lib.hid hbx
                  have KC := Lib.hid (BE.out.trans (hbx.mono BE.out.size))
                  clear hbx hnx K8 N9 K7
                  have ST1 := stands_any (P1.out.below KC.out) (by decide)
                  have Q1 := C1.out.below KC.out C1.out.lt
                  unfold slices refA at ST1
                  dsimp only at ST1
                  obtain ⟨t0, t1, t2, t3, t4, t5, t6, t7, t8⟩ := cells9 Q1
                  have tl := Q1.lt
                  have ST1 := Lib.hid ST1
                  clear Q1
                  go_wp2_with fail
                  refine ST1.out.mono ?_
                  rintro e w9 ⟨rfl, hb9⟩
                  have K10 := Lib.hid (K9.out.trans (hb9.mono K9.out.size))
                  clear hb9 ST1 t0 t1 t2 t3 t4 t5 t6 t7 t8 tl
                  have ST2 := stands_any (P2.out.below K10.out) (by decide)
                  have Q2 := C2.out.below K10.out C2.out.lt
                  unfold slices refA at ST2
                  dsimp only at ST2
                  obtain ⟨t0, t1, t2, t3, t4, t5, t6, t7, t8⟩ := cells9 Q2
                  have tl := Q2.lt
                  have ST2 := Lib.hid ST2
                  clear Q2
                  go_wp2_with fail
                  refine ST2.out.mono ?_
                  rintro e w10 ⟨rfl, hb10⟩
                  have K11 := Lib.hid (K10.out.trans (hb10.mono K10.out.size))
                  clear hb10 ST2 t0 t1 t2 t3 t4 t5 t6 t7 t8 tl
                  go_wp2_with fail
                  refine (nil_names w10).mono ?_
                  rintro e w11 ⟨rfl, hb11⟩
                  have K12 := Lib.hid (K11.out.trans (hb11.mono K11.out.size))
                  clear hb11
                  go_wp2_with fail
                  refine (nil_free w11).mono ?_
                  rintro e w12 ⟨rfl, hb12⟩
                  have K13 := Lib.hid (K12.out.trans (hb12.mono K12.out.size))
                  clear hb12
                  go_wp2_with fail
                  refine (nil_units w12).mono ?_
                  rintro e w13 ⟨rfl, hb13⟩
                  have K14 := Lib.hid (K13.out.trans (hb13.mono K13.out.size))
                  clear hb13
                  go_wp2_with fail
                  refine (nil_down w13).mono ?_
                  rintro e w14 ⟨rfl, hb14⟩
                  have K15 := Lib.hid (K14.out.trans (hb14.mono K14.out.size))
                  clear hb14
                  go_wp2_with fail
                  refine (nil_acts w14).mono ?_
                  rintro e w15 ⟨rfl, hb15⟩
                  have K16 := Lib.hid (K15.out.trans (hb15.mono K15.out.size))
                  clear hb15
                  go_wp2_with fail
                  refine (nil_copy w15).mono ?_
                  rintro e w16 ⟨rfl, hb16⟩
                  have K17 := Lib.hid (K16.out.trans (hb16.mono K16.out.size))
                  clear hb16
                  go_wp2_with fail
                  go_ret
                  exact ⟨rfl, HBW.out.trans ((B1.out.trans ((BE.out.trans (K17.out.mono BE.out.size)).mono B1.out.size)).mono HBW.out.size)⟩
set_option maxRecDepth 100000 in
/-- An operation that came in. -/
theorem op_of {H : Type} {enc : TypeId × Value → H} {v : Value} {d : DataW H} {p : List MemPlace} {W : World} {b0 : Nat} (hval : Value.okWide Try.prog W .any b0 40 v) {base : Nat} {sp : Nat → Bool} {held : Bool} (h : DataW.Trod enc Try.prog W base sp held 40 v d p) :
    ∃ o : OpV, v = .agg #[.int .i64 o.kind, .int .i64 o.n, .string o.name, .string o.text, o.keep] ∧ OpOk W o := by
  obtain ⟨n, hn⟩ := h
  obtain ⟨cs, rfl, _⟩ := Go.WideShapes.okWide_struct Try.underlying40 hval
  obtain ⟨o, e, ho⟩ := op_in hn
  refine ⟨o, ?_, ho⟩
  rw [show cs = cs.toList.toArray by simp]
  rw [show cs.toList = [.int .i64 o.kind, .int .i64 o.n, .string o.name, .string o.text, o.keep] from e]
set_option maxRecDepth 100000 in
theorem copiesCall {H : Type} {enc : TypeId × Value → H} (v0 : Value) (d0 : DataW H) (p0 : List MemPlace) (v1 : Value) (d1 : DataW H) (p1 : List MemPlace) (v2 : Value) (d2 : DataW H) (p2 : List MemPlace) (W : World) {b0 b1 b2 : Nat} {bs0 bs1 bs2 : Nat} {sp0 sp1 sp2 : Nat → Bool} {held0 held1 held2 : Bool}
    (hval0 : Value.okWide Try.prog W .any b0 22 v0) (h0 : DataW.Trod enc Try.prog W bs0 sp0 held0 22 v0 d0 p0)
    (hval1 : Value.okWide Try.prog W .any b1 22 v1) (h1 : DataW.Trod enc Try.prog W bs1 sp1 held1 22 v1 d1 p1)
    (hval2 : Value.okWide Try.prog W .any b2 40 v2) (h2 : DataW.Trod enc Try.prog W bs2 sp2 held2 40 v2 d2 p2) :
    Calls Try.prog 4 #[v0, v1, v2] W fun e w' => e = .returned (.bool true) ∧ Below W.heap.size W w' := by
  obtain ⟨ops1, a1, hs1⟩ := script_of hval0 h0
  obtain ⟨ops2, a2, hs2⟩ := script_of hval1 h1
  obtain ⟨o, rfl, ho⟩ := op_of hval2 h2
  exact copiesLaw v0 v1 ops1 ops2 a1 a2 o W hs1 hs2 ho
end Go.Proofs.Ytembondddgfpcaa

