/- Texts put together: YZ. -/
import Derived.Test.YtembondddgfpcaaBvp18
set_option linter.unusedVariables false
namespace Go.Proofs.Ytembondddgfpcaa
open Go.RowKit Go.Maps
attribute [local go_sem] World.cell?_alloc_some

theorem do2_any {W w : World} {n p : Nat} {D : ADisk} {M : RefM} {f s m a : Tri} (hP : Pr W.heap.size n p w D M f s m a) (hn : n ≤ 80000) (hb : Below W.heap.size W w) (o : OpV) (ho : OpOk W o) (hsh : shortOp o) (ao : Option Addr) (cap : Nat) (hkv : o.keep = .slice ao o.ks.length cap) (hao : 0 < o.ks.length → ao = some o.ad) :
    Calls Try.prog 9 #[.pointer (some ⟨p, 0, none⟩), slices f s m a M.room M.units M.left M.armed M.gone, opV o.kind o.n o.name o.text ao o.ks.length cap] w fun e w' => ∃ D' M', DoG W.heap.size (n + 402) p w D' M' e w' := by
  obtain ⟨hi, hkl, hnl, htl, hwk, hwn⟩ := ho
  obtain ⟨htx, hnm, hks⟩ := hsh
  obtain ⟨hk1, hk2⟩ := wf_range hwn
  have hL := hb.size
  obtain ⟨kind, k, name, text, keep, ks, ad⟩ := o
  dsimp only at *
  by_cases h1 : kind = 1
  · subst h1; exact (do2_create hP hn hL k name text ao ks.length cap hnm htx hk1 hk2).mono fun e w' h => ⟨_, _, h⟩
  by_cases h2 : kind = 2
  · subst h2; exact (do2_write hP hn hL k name text ao ks.length cap hnm htx hk1 hk2).mono fun e w' h => ⟨_, _, h⟩
  by_cases h3 : kind = 3
  · subst h3; exact (do2_cut hP hn hL k name text ao ks.length cap hnm htx hk1 hk2).mono fun e w' h => ⟨_, _, h⟩
  by_cases h4 : kind = 4
  · subst h4; exact (do2_sync hP hn hL k name text ao ks.length cap hnm htx hk1 hk2).mono fun e w' h => ⟨_, _, h⟩
  by_cases h5 : kind = 5
  · subst h5; exact (do2_rename hP hn hL k name text ao ks.length cap hnm htx hk1 hk2).mono fun e w' h => ⟨_, _, h⟩
  by_cases h6 : kind = 6
  · subst h6; exact (do2_remove hP hn hL k name text ao ks.length cap hnm htx hk1 hk2).mono fun e w' h => ⟨_, _, h⟩
  by_cases h7 : kind = 7
  · subst h7; exact (do2_syncdir hP hn hL k name text ao ks.length cap hnm htx hk1 hk2).mono fun e w' h => ⟨_, _, h⟩
  by_cases h8 : kind = 8
  · subst h8; exact (do2_arm hP hn hL k name text ao ks.length cap hnm htx hk1 hk2).mono fun e w' h => ⟨_, _, h⟩
  by_cases h9 : kind = 9
  · subst h9; exact (do2_crash hP hn hL k name text ao cap hnm htx hk1 hk2 ks ad hao hi.wf (by omega) hwn (fun W' hB j h => hi.cells W' (hb.trans hB) j h)).mono fun e w' h => ⟨_, _, h⟩
  exact (do2_read hP hn hL kind k name text ao ks.length cap hnm htx hk1 hk2 ⟨by simpa using h1, by simpa using h2, by simpa using h3, by simpa using h4, by simpa using h5, by simpa using h6, by simpa using h7, by simpa using h8, by simpa using h9⟩).mono fun e w' h => ⟨_, _, h⟩
/-- The document's fresh disk. -/
def freshM (room : Int) : RefM := ⟨room, [], [], [], 0, 0, false, false, []⟩
theorem fresh_ref (room : Int) (w : World) : RefAt w (freshM room) (none, 0, 0) (none, 0, 0) (none, 0, 0) (none, 0, 0) :=
  ⟨⟨[], rfl, ⟨⟨rfl, .inl ⟨rfl, rfl⟩⟩, fun p h => by cases h⟩⟩, ⟨rfl, .inl ⟨rfl, rfl⟩⟩, ⟨rfl, .inl ⟨rfl, rfl⟩⟩, ⟨rfl, .inl ⟨rfl, rfl⟩⟩⟩
theorem Pr.mono {L n n' p : Nat} {w : World} {D : ADisk} {M : RefM} {f s m a : Tri} (h : Pr L n p w D M f s m a) (hn : n ≤ n') : Pr L n' p w D M f s m a := ⟨h.disk, h.ref, h.ties, h.fine.mono hn, h.tidy, h.left⟩
theorem isOne (w : World) : Calls Try.prog 8 #[errV 1, .int .i64 1] w fun e w' => e = .returned (.bool true) ∧ w' = w := by
  have N1 := Lib.hid (num_still 1 (by omega) w)
  go_enter Try.func8, Try.ntmps8
  go_wp2_with fail
  refine N1.out.mono ?_
  rintro e w1 ⟨rfl, rfl⟩
  go_wp2_with fail
  go_ret
  exact ⟨rfl, rfl⟩
set_option maxRecDepth 100000 in
set_option maxHeartbeats 8000000 in
theorem playsLaw3 (room : Int) (v : Value) (ops : List OpV) (a : Addr) (W : World) (hs : Script W v ops a) (hw : (Lit.int .i64 room).wf = true) :
    Calls Try.prog 3 #[.int .i64 room, v] W fun e w' => e = .returned (.bool true) ∧ Below W.heap.size W w' := by
  obtain ⟨hr1, hr2⟩ := wf_range hw
  have HS := Lib.hid hs
  have AL := Lib.hid (alive_any W)
  have LO := Lib.hid (fun W' (hb : Below W.heap.size W W') => long_any v ops a W' (hs.below hb))
  obtain ⟨ao, cap, rfl, hao⟩ := hs.val
  have HA := Lib.hid hao
  have hlm := hs.len
  unfold maxLen at hlm
  clear hs hw hao
  go_enter Try.func3, Try.ntmps3
  go_wp2_with fail
  refine AL.out.mono ?_
  rintro e w0 ⟨rfl, hb0⟩
  go_wp2_with fail
  refine (LO.out w0 hb0).mono ?_
  rintro e w1 ⟨⟨b, rfl, hshort⟩, hb1⟩
  have hb01 : Below W.heap.size W w1 := hb0.trans (hb1.mono hb0.size)
  have HB1 := Lib.hid hb01
  clear hb0 hb1 hb01 AL LO
  cases b
  rotate_left
  · clear hshort
    go_wp2_with fail
    go_ret
    exact ⟨rfl, HB1.out⟩
  have SH := Lib.hid (hshort rfl)
  clear hshort
  by_cases hneg : room < 0
  · have NN := Lib.hid (new_no room w1 hneg)
    go_wp2_with fail
    refine NN.out.mono ?_
    rintro e w2 ⟨rfl, rfl⟩
    go_wp2_with fail
    refine (isOne _).mono ?_
    rintro e w2 ⟨rfl, rfl⟩
    go_wp2_with fail
    go_ret
    exact ⟨rfl, HB1.out⟩
  · have NY := Lib.hid (new_yes room w1 (by omega))
    go_wp2_with fail
    refine NY.out.mono ?_
    rintro e w2 ⟨rfl, g2, hb2, hs2⟩
    have hLw : W.heap.size ≤ w1.heap.size := HB1.out.size
    have hB2 := HB1.out.trans (hb2.mono hLw)
    have P2 : Pr W.heap.size 0 w1.heap.size w2 (freshD room) (freshM room) (none, 0, 0) (none, 0, 0) (none, 0, 0) (none, 0, 0) :=
      ⟨⟨_, g2, fun b hb => by
        by_cases e : b = w1.heap.size
        · omega
        · simp [e] at hb⟩, fresh_ref room w2, Ties.fresh room, fresh_fine room (by omega) hr2, Tidy.fresh room, ⟨Int.le_refl _, by show (0 : Int) ≤ _; decide⟩⟩
    have hbA := (Below.refl w2.heap.size w2).alloc (Nat.le_refl _) (.cells (curM (freshM room) (none, 0, 0) (none, 0, 0) (none, 0, 0) (none, 0, 0)) 37)
    have P3 := P2.below hbA
    have C3 : Cells (w2.alloc (.cells (curM (freshM room) (none, 0, 0) (none, 0, 0) (none, 0, 0) (none, 0, 0)) 37)) w2.heap.size 37 (curM (freshM room) (none, 0, 0) (none, 0, 0) (none, 0, 0) (none, 0, 0)) := Cells.new _ _ _
    have B3 := hB2.trans (hbA.mono hB2.size)
    obtain ⟨w3, hw3⟩ : ∃ z, w2.alloc (.cells (curM (freshM room) (none, 0, 0) (none, 0, 0) (none, 0, 0) (none, 0, 0)) 37) = z := ⟨_, rfl⟩
    rw [hw3] at P3 C3 B3
    unfold curM freshM at hw3
    dsimp only at hw3
    have HW3 := Lib.hid hw3
    clear hw3
    have P3 := Lib.hid P3
    have C3 := Lib.hid C3
    have B3 := Lib.hid B3
    have hL2 : W.heap.size ≤ w2.heap.size := hB2.size
    clear g2 hb2 hs2 P2 hbA hB2
    go_wp2_with fail
    rw [HW3.out]
    clear HW3
    go_loopw [35] (fun i wr => ∃ (k : Nat) (D : ADisk) (M : RefM) (f s m a' : Tri), k ≤ ops.length ∧ i = .int .i64 k ∧ Pr W.heap.size (402 * k) w1.heap.size wr D M f s m a' ∧ Cells wr w2.heap.size 37 (curM M f s m a') ∧ Below W.heap.size W wr) (fun i _ => ops.length - (intOf i).toNat)
    case atStart => exact ⟨0, _, _, _, _, _, _, Nat.zero_le _, rfl, P3.out, C3.out, B3.out⟩
    case round =>
      obtain ⟨k, D, M, f, s, m, a', hk, rfl, hP, hc, hb⟩ := hrel
      have hl61 := SH.out.1
      by_cases hlt : k < ops.length
      · obtain rfl := HA.out (by omega)
        obtain ⟨q0, q1, q2, q3, q4⟩ := HS.out.cells wr hb k hlt
        have hok := HS.out.ok ops[k] (List.getElem_mem hlt)
        obtain ⟨ao2, cap2, hkv, hao2⟩ := hok.ints.val
        have hlta : a.block < wr.heap.size := Nat.lt_of_lt_of_le (HS.out.lt (by omega)) hb.size
        have hsho := SH.out.2 k hlt
        rw [hkv] at q4
        generalize ops[k] = o at *
        have hbx := (Below.refl wr.heap.size wr).alloc (Nat.le_refl _) (.cells #[.int .i64 o.kind, .int .i64 o.n, .string o.name, .string o.text, .slice ao2 o.ks.length cap2] 40)
        have hbL := hb.trans (hbx.mono hb.size)
        have DO := do2_any (hP.below hbx) (by omega) hbL o hok hsho ao2 cap2 hkv hao2
        have C4 := hc.below hbx hc.lt
        have X4 : Cells (wr.alloc (.cells #[.int .i64 o.kind, .int .i64 o.n, .string o.name, .string o.text, .slice ao2 o.ks.length cap2] 40)) wr.heap.size 40 _ := Cells.new _ _ _
        obtain ⟨w4, hw4⟩ : ∃ z, wr.alloc (.cells #[.int .i64 o.kind, .int .i64 o.n, .string o.name, .string o.text, .slice ao2 o.ks.length cap2] 40) = z := ⟨_, rfl⟩
        rw [hw4] at DO C4 X4 hbL
        obtain ⟨f1, f2, f3⟩ := f
        obtain ⟨s1, s2, s3⟩ := s
        obtain ⟨m1, m2, m3⟩ := m
        obtain ⟨a1, a2, a3⟩ := a'
        unfold slices refA opV at DO
        unfold curM at C4
        dsimp only at DO C4
        obtain ⟨t0, t1, t2, t3, t4, t5, t6, t7, t8⟩ := cells9 C4
        have tl := C4.lt
        obtain ⟨x0, x1, x2, x3, x4⟩ : w4.cell? ⟨wr.heap.size, 0, none⟩ = some (.int .i64 o.kind) ∧ w4.cell? ⟨wr.heap.size, 1, none⟩ = some (.int .i64 o.n) ∧ w4.cell? ⟨wr.heap.size, 2, none⟩ = some (.string o.name) ∧ w4.cell? ⟨wr.heap.size, 3, none⟩ = some (.string o.text) ∧ w4.cell? ⟨wr.heap.size, 4, none⟩ = some (.slice ao2 o.ks.length cap2) := ⟨X4.cell 0, X4.cell 1, X4.cell 2, X4.cell 3, X4.cell 4⟩
        have xl := X4.lt
        have DO := Lib.hid DO
        have C4 := Lib.hid C4
        have BL := Lib.hid hbL
        clear hP hc hb hbx X4 hok hsho hkv hao2 hbL
        go_wp2_with fail
        refine DO.out.mono ?_
        clear DO t0 t1 t2 t3 t4 t5 t6 t7 t8 tl x0 x1 x2 x3 x4 xl hw4 q0 q1 q2 q3 q4
        rintro e w5 ⟨D', M', ⟨f1', f2', f3'⟩, ⟨s1', s2', s3'⟩, ⟨m1', m2', m3'⟩, ⟨a1', a2', a3'⟩, rfl, hP5, hK5⟩
        unfold slices refA
        dsimp only
        have C5 := hK5.cells C4.out (by decide)
        have B5 := BL.out.trans hK5.bel
        have hbN := (Below.refl w5.heap.size w5).alloc (Nat.le_refl _) (.cells (curM M' (f1', f2', f3') (s1', s2', s3') (m1', m2', m3') (a1', a2', a3')) 37)
        have P6 := hP5.below hbN
        have C6 := C5.below hbN C5.lt
        have N6 : Cells (w5.alloc (.cells (curM M' (f1', f2', f3') (s1', s2', s3') (m1', m2', m3') (a1', a2', a3')) 37)) w5.heap.size 37 (curM M' (f1', f2', f3') (s1', s2', s3') (m1', m2', m3') (a1', a2', a3')) := Cells.new _ _ _
        have B6 := B5.trans (hbN.mono B5.size)
        have hne := C5.lt
        obtain ⟨w6, hw6⟩ : ∃ z, w5.alloc (.cells (curM M' (f1', f2', f3') (s1', s2', s3') (m1', m2', m3') (a1', a2', a3')) 37) = z := ⟨_, rfl⟩
        rw [hw6] at P6 C6 N6 B6
        unfold curM at hw6 N6
        dsimp only at hw6 N6
        have E7 := setBox_to C6 (.int .i64 M'.room) (.slice f1' f2' f3') (.slice s1' s2' s3') (.slice m1' m2' m3') (.int .i64 M'.units) (.int .i64 M'.left) (.bool M'.armed) (.bool M'.gone) (.slice a1' a2' a3')
        have D7 := P6.disk.box C6 (by decide) (.int .i64 M'.room) (.slice f1' f2' f3') (.slice s1' s2' s3') (.slice m1' m2' m3') (.int .i64 M'.units) (.int .i64 M'.left) (.bool M'.armed) (.bool M'.gone) (.slice a1' a2' a3')
        have R7 := P6.ref.box C6 (.int .i64 M'.room) (.slice f1' f2' f3') (.slice s1' s2' s3') (.slice m1' m2' m3') (.int .i64 M'.units) (.int .i64 M'.left) (.bool M'.armed) (.bool M'.gone) (.slice a1' a2' a3')
        have B7 := setBox_below B6 (b := w2.heap.size) hL2 (.int .i64 M'.room) (.slice f1' f2' f3') (.slice s1' s2' s3') (.slice m1' m2' m3') (.int .i64 M'.units) (.int .i64 M'.left) (.bool M'.armed) (.bool M'.gone) (.slice a1' a2' a3')
        have P7 : Pr W.heap.size (402 * k + 402) w1.heap.size _ D' M' (f1', f2', f3') (s1', s2', s3') (m1', m2', m3') (a1', a2', a3') := ⟨D7, R7, P6.ties, P6.fine, P6.tidy, P6.left⟩
        obtain ⟨w7, hw7⟩ : ∃ z, setBox w6 w2.heap.size (.int .i64 M'.room) (.slice f1' f2' f3') (.slice s1' s2' s3') (.slice m1' m2' m3') (.int .i64 M'.units) (.int .i64 M'.left) (.bool M'.armed) (.bool M'.gone) (.slice a1' a2' a3') = z := ⟨_, rfl⟩
        rw [hw7] at E7 B7 P7
        unfold setBox at hw7
        obtain ⟨y0, y1, y2, y3, y4, y5, y6, y7, y8⟩ := cells9 C6
        have yl := C6.lt
        have g0 := C6.frozen 0; have g1 := C6.frozen 1; have g2 := C6.frozen 2; have g3 := C6.frozen 3; have g4 := C6.frozen 4; have g5 := C6.frozen 5; have g6 := C6.frozen 6; have g7 := C6.frozen 7; have g8 := C6.frozen 8
        obtain ⟨z0, z1, z2, z3, z4, z5, z6, z7, z8⟩ := cells9 N6
        have zl := N6.lt
        obtain ⟨u0, u1, u2, u3, u4, u5, u6, u7, u8⟩ := cells9 E7
        have ul := E7.lt
        have ST := stands_any P7 (by omega)
        unfold slices refA at ST
        dsimp only at ST
        have ST := Lib.hid ST
        have E7 := Lib.hid E7
        have B7 := Lib.hid B7
        have P7 := Lib.hid P7
        clear hP5 hK5 C5 B5 hbN P6 C6 N6 B6 D7 R7
        go_wp2_with fail
        refine ST.out.mono ?_
        rintro e w8 ⟨rfl, hb8⟩
        have HN : Hid (Pr W.heap.size (402 * (k + 1)) w1.heap.size w8 D' M' (f1', f2', f3') (s1', s2', s3') (m1', m2', m3') (a1', a2', a3') ∧ Cells w8 w2.heap.size 37 (curM M' (f1', f2', f3') (s1', s2', s3') (m1', m2', m3') (a1', a2', a3')) ∧ Below W.heap.size W w8) :=
          ⟨(P7.out.below hb8).mono (by omega), E7.out.below hb8 E7.out.lt, B7.out.trans (hb8.mono B7.out.size)⟩
        clear hb8
        go_wp2_with fail
        go_roundw
        case rel => exact ⟨k + 1, D', M', _, _, _, _, hlt, by go_num, HN.out.1, HN.out.2.1, HN.out.2.2⟩
        case measure => simp [intOf]; omega
      · obtain rfl : k = ops.length := by omega
        have ST := stands_any hP (by omega)
        obtain ⟨f1, f2, f3⟩ := f
        obtain ⟨s1, s2, s3⟩ := s
        obtain ⟨m1, m2, m3⟩ := m
        obtain ⟨a1, a2, a3⟩ := a'
        unfold slices refA at ST
        unfold curM at hc
        dsimp only at ST hc
        obtain ⟨t0, t1, t2, t3, t4, t5, t6, t7, t8⟩ := cells9 hc
        have tl := hc.lt
        have ST := Lib.hid ST
        have HB := Lib.hid hb
        clear hP hc hb
        go_wp2_with fail
        refine ST.out.mono ?_
        rintro e w8 ⟨rfl, hb8⟩
        have HF := Lib.hid (HB.out.trans (hb8.mono HB.out.size))
        clear hb8
        go_wp2_with fail
        go_ret
        exact ⟨rfl, HF.out⟩
set_option maxRecDepth 100000 in
theorem playsCall3 {H : Type} {enc : TypeId × Value → H} (t : Int) (v : Value) (d : DataW H) (p : List MemPlace) (W : World) {b0 : Nat} (hw : (Lit.int .i64 t).wf = true) (hval : Value.okWide Try.prog W .any b0 22 v) {base : Nat} {sp : Nat → Bool} {held : Bool} (h : DataW.Trod enc Try.prog W base sp held 22 v d p) :
    Calls Try.prog 3 #[.int .i64 t, v] W fun e w' => e = .returned (.bool true) ∧ Below W.heap.size W w' := by
  obtain ⟨ops, a, hs⟩ := script_of hval h
  exact playsLaw3 t v ops a W hs hw
end Go.Proofs.Ytembondddgfpcaa

