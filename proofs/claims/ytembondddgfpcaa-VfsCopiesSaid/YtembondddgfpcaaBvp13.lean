/- Texts put together: YV, YW, YX. -/
import Derived.Test.YtembondddgfpcaaBvp12
set_option linter.unusedVariables false
namespace Go.Proofs.Ytembondddgfpcaa
open Go.RowKit Go.Maps
attribute [local go_sem] World.cell?_alloc_some

set_option maxRecDepth 100000 in
set_option maxHeartbeats 8000000 in
theorem refcut_any {M : RefM} {f s m a : Tri} (hF : Fit' M) (hmw : ∀ x ∈ M.files, x.waits.length ≤ 100000) (z : ByteArray) (n : Int) (hz : z.size ≤ 1000) (w : World) (h : RefAt w M f s m a) (hn : -9223372036854775808 ≤ n ∧ n ≤ 9223372036854775807) :
    Calls Try.prog 31 #[slices f s m a M.room M.units M.left M.armed M.gone, .string z, .int .i64 n] w (ResR w (cutM M z n).1 (cutM M z n).2) := by
  have O := Lib.hid (OpW.start h)
  have A := Lib.hid (fun (W : World) (hb : Below w.heap.size w W) => asked_call hF.fit z hz W (h.below hb (Nat.le_refl _)))
  have FH := Lib.hid hF
  have hcode := asked_codes M [z] z
  have hlt := fun hq => hF.fit.asked_lt (zs := [z]) (z := z) hq
  obtain ⟨f1, f2, f3⟩ := f
  obtain ⟨s1, s2, s3⟩ := s
  obtain ⟨m1, m2, m3⟩ := m
  obtain ⟨a1, a2, a3⟩ := a
  unfold cutM
  unfold askedI at A
  generalize hq : askedM M [z] z = q at *
  obtain ⟨q1, q2⟩ := q
  dsimp only at A hcode hlt ⊢
  by_cases h0 : q2 = 0
  · subst h0
    have hq1 := hlt rfl
    simp only [if_true, ne_eq, not_true_eq_false, if_false] at A ⊢
    clear hcode hlt hq
    obtain ⟨l, hl, hfr⟩ := h.files
    have hql : q1 < l.length := by rw [← hl] at hq1; simpa using hq1
    unfold sliceV at hfr
    dsimp only at hfr
    obtain ⟨gb, cap, ⟨⟩, _⟩ := Joins.ownsRow_form hfr.1 (by omega)
    have SM := Lib.hid (FH.out.fit.files l[q1].1 (by rw [← hl]; exact List.mem_map.2 ⟨l[q1], List.getElem_mem hql, rfl⟩))
    obtain ⟨⟨t1, t2, t3⟩, ht, htn⟩ := row_tri (hfr.2 _ (List.getElem_mem hql))
    have htn : t2 = l[q1].1.waits.length := htn
    subst htn
    have HFR := Lib.hid hfr
    have HT := Lib.hid ht
    have HL := Lib.hid hl
    have hln : l.length ≤ 100000 := by have := FH.out.files; rw [← hl] at this; simpa using this
    have hmany : l[q1].1.waits.length ≤ 100000 := hmw _ (by rw [← hl]; exact List.mem_map.2 ⟨l[q1], List.getElem_mem hql, rfl⟩)
    clear h hF hfr ht hl hq1
    have hsz : sizeM M q1 = (bs l[q1].1.seen).size := by
      unfold sizeM bs
      rw [← HL.out, List.getElem?_map, List.getElem?_eq_getElem hql]
      simp [ByteArray.size]
    rw [hsz]
    clear hsz
    by_cases hn0 : n < 0
    · have hd0 : decide (n < 0) = true := decide_eq_true hn0
      simp only [hn0, true_or, if_true]
      unfold slices refA at A ⊢
      go_enter Try.func31, Try.ntmps31
      go_wp2_with fail
      refine (A.out _ O.out.bel).mono ?_
      rintro e w1 ⟨rfl, hb1⟩
      have O1 := Lib.hid (O.out.below hb1)
      clear hb1 O  A
      obtain ⟨b0, b1, b2, b3, b4, b5, b6, b7, b8⟩ := cells9 O1.out.cells
      have bl := O1.out.c0.lt
      obtain ⟨x0, x1, x2, x3, x4, x5, x6, x7, x8, xl, y0, y1, y2, y3, y4, y5, y6, y7, y8⟩ := Box9.of O1.out.c1
      go_wp2
      refine bodyPost_ret (ret_box rfl _ _ (w.heap.size + 1) _ rfl (setBox_to O1.out.c1 _ _ _ _ _ _ _ _ _) rfl) rfl ?_
      exact O1.out.res _
    · have hd0 : decide (n < 0) = false := decide_eq_false hn0
      have hge : 0 ≤ n := by omega
      by_cases hbig : ((bs l[q1].1.seen).size : Int) < n
      · have hd1 : decide (((bs l[q1].1.seen).size : Int) < n) = true := decide_eq_true hbig
        simp only [hbig, or_true, if_true]
        unfold slices refA at A ⊢
        go_enter Try.func31, Try.ntmps31
        go_wp2_with fail
        refine (A.out _ O.out.bel).mono ?_
        rintro e w1 ⟨rfl, hb1⟩
        have O1 := Lib.hid (O.out.below hb1)
        clear hb1 O  A
        obtain ⟨b0, b1, b2, b3, b4, b5, b6, b7, b8⟩ := cells9 O1.out.cells
        have bl := O1.out.c0.lt
        have HFW := HFR.out.below O1.out.bel (Nat.le_refl _)
        obtain ⟨c0, c1⟩ := filesM_at l q1 hql
        rw [HT.out] at c1
        unfold sliceV at c1
        have r0 := row_at HFW.1 c0
        have r1 := row_at HFW.1 c1
        have rl := (HFW.1.lt gb rfl).2
        have hii : (q1 : Int) < (l.length : Int) := by omega
        have SE := refseen_any l[q1].1 l[q1].2 _ (HFW.2 _ (List.getElem_mem hql)) SM.out
        rw [HT.out] at SE
        unfold sliceV at SE
        have SE := Lib.hid SE
        clear c0 c1 HFW
        go_wp2_with fail
        refine (SE.out).mono ?_
        rintro e w2 ⟨rfl, hb2⟩
        have O2 := Lib.hid (O1.out.below hb2)
        clear hb2 O1 b0 b1 b2 b3 b4 b5 b6 b7 b8 bl SE r0 r1 rl hii
        obtain ⟨b0, b1, b2, b3, b4, b5, b6, b7, b8⟩ := cells9 O2.out.cells
        have bl := O2.out.c0.lt
        obtain ⟨x0, x1, x2, x3, x4, x5, x6, x7, x8, xl, y0, y1, y2, y3, y4, y5, y6, y7, y8⟩ := Box9.of O2.out.c1
        go_wp2
        refine bodyPost_ret (ret_box rfl _ _ (w.heap.size + 1) _ rfl (setBox_to O2.out.c1 _ _ _ _ _ _ _ _ _) rfl) rfl ?_
        exact O2.out.res _
      · have hd1 : decide (((bs l[q1].1.seen).size : Int) < n) = false := decide_eq_false hbig
        simp only [hn0, hbig, or_self, if_false]
        cases hc : canM M with
        | true =>
          simp only [if_true]
          have U := Lib.hid (refunit_yes hc (some ⟨gb, 0, none⟩, l.length, f3) (s1, s2, s3) (m1, m2, m3) (a1, a2, a3) FH.out.fit.units FH.out.fit.left)
          clear hc
          have hnn : ((n.toNat : Nat) : Int) = n := Int.toNat_of_nonneg hge
          have WI := fun (c k : Nat) (W : World) (h1 : FilesRow W (.slice (some ⟨gb, 0, none⟩) l.length f3) l) (h2 : WaitsRow W (.slice (some ⟨c, 0, none⟩) (l[q1].1.waits.length + 1) k) (l[q1].1.waits ++ [(⟨0, n.toNat, true⟩ : WaitM)])) => refwith_any (doneM M).room (doneM M).units (doneM M).left (doneM M).armed (doneM M).gone (some ⟨gb, 0, none⟩, l.length, f3) (s1, s2, s3) (m1, m2, m3) (a1, a2, a3) l q1 (l[q1].1.more [⟨0, n.toNat, true⟩]) (some ⟨c, 0, none⟩, l[q1].1.waits.length + 1, k) W h1 h2 hql hln
          have DI := Lib.hid (fun (ff : Tri) (W : World) => refdid_any (doneM M).room (doneM M).units (doneM M).left (doneM M).armed (doneM M).gone ff (s1, s2, s3) (m1, m2, m3) (a1, a2, a3) M.acts ⟨3, z, ⟨#[]⟩, ⟨#[]⟩, n.toNat⟩ W)
          unfold slices refA at A U ⊢
          unfold slices refA at DI
          unfold slices refA sliceV at WI
          dsimp only at WI DI
          rw [hnn] at DI
          have WI := Lib.hid WI
          have SMC := Lib.hid (show l[q1].1.waits.length ≤ 100000 from hmany)
          go_enter Try.func31, Try.ntmps31
          go_wp2_with fail
          refine (A.out _ O.out.bel).mono ?_
          rintro e w1 ⟨rfl, hb1⟩
          have O1 := Lib.hid (O.out.below hb1)
          clear hb1 O  A
          obtain ⟨b0, b1, b2, b3, b4, b5, b6, b7, b8⟩ := cells9 O1.out.cells
          have bl := O1.out.c0.lt
          have HFW := HFR.out.below O1.out.bel (Nat.le_refl _)
          obtain ⟨c0, c1⟩ := filesM_at l q1 hql
          rw [HT.out] at c1
          unfold sliceV at c1
          have r0 := row_at HFW.1 c0
          have r1 := row_at HFW.1 c1
          have rl := (HFW.1.lt gb rfl).2
          have hii : (q1 : Int) < (l.length : Int) := by omega
          have SE := refseen_any l[q1].1 l[q1].2 _ (HFW.2 _ (List.getElem_mem hql)) SM.out
          rw [HT.out] at SE
          unfold sliceV at SE
          have SE := Lib.hid SE
          clear c0 c1 HFW
          go_wp2_with fail
          refine (SE.out).mono ?_
          rintro e w2 ⟨rfl, hb2⟩
          have O2 := Lib.hid (O1.out.below hb2)
          clear hb2 O1 b0 b1 b2 b3 b4 b5 b6 b7 b8 bl SE r0 r1 rl hii
          obtain ⟨b0, b1, b2, b3, b4, b5, b6, b7, b8⟩ := cells9 O2.out.cells
          have bl := O2.out.c0.lt
          go_wp2_with fail
          refine (U.out _).mono ?_
          rintro e w3 ⟨rfl, hb3⟩
          have O3 := Lib.hid (O2.out.below hb3)
          clear hb3 O2 b0 b1 b2 b3 b4 b5 b6 b7 b8 bl U
          obtain ⟨b0, b1, b2, b3, b4, b5, b6, b7, b8⟩ := cells9 O3.out.cells
          have bl := O3.out.c0.lt
          have g0 := O3.out.c0.frozen 0
          have g1 := O3.out.c0.frozen 1
          have g2 := O3.out.c0.frozen 2
          have g3 := O3.out.c0.frozen 3
          have g4 := O3.out.c0.frozen 4
          have g5 := O3.out.c0.frozen 5
          have g6 := O3.out.c0.frozen 6
          have g7 := O3.out.c0.frozen 7
          have g8 := O3.out.c0.frozen 8
          have O3s := Lib.hid (O3.out.set O3.out.at_.done)
          clear O3
          go_upto_region 9 with fail
          obtain ⟨W3, hW3⟩ : ∃ W, setBox w3 w.heap.size (.int .i64 (doneM M).room) (.slice (some ⟨gb, 0, none⟩) l.length f3) (.slice s1 s2 s3) (.slice m1 m2 m3) (.int .i64 (doneM M).units) (.int .i64 (doneM M).left) (.bool (doneM M).armed) (.bool (doneM M).gone) (.slice a1 a2 a3) = W := ⟨_, rfl⟩
          have P := O3s.out
          try dsimp only at P
          rw [hW3] at P
          unfold setBox at hW3
          rw [hW3]
          have P := Lib.hid P.drew
          clear hW3 O3s b0 b1 b2 b3 b4 b5 b6 b7 b8 bl g0 g1 g2 g3 g4 g5 g6 g7 g8
          refine wp_region_any (by kernel_rfl) ?_
          have HFW := HFR.out.below P.out.bel (Nat.le_refl _)
          have HFW := Lib.hid HFW
          obtain ⟨c0, c1⟩ := filesM_at l q1 hql
          rw [HT.out] at c1
          unfold sliceV at c1
          have c0 := Lib.hid c0
          have c1 := Lib.hid c1
          refine Vm.region_cut9 _ W3.drew w.heap.size gb q1 (doneM M).room (doneM M).units (doneM M).left (doneM M).armed (doneM M).gone l.length f3 s2 s3 m2 m3 a2 a3 s1 m1 a1 l[q1].1.sure t1 l[q1].1.waits.length t3 n (waitsCells (l[q1].1.waits ++ [⟨0, n.toNat, true⟩])) _ rfl rfl rfl rfl ?hD ?hE hql ?hC9 ?hQ
          case hD => exact fun W hb => cells9 (P.out.below hb).cells
          case hE => exact fun W hb => ⟨row_at (HFW.out.below hb (Nat.le_refl _)).1 c0.out, row_at (HFW.out.below hb (Nat.le_refl _)).1 c1.out⟩
          case hC9 =>
            intro W hb
            have R := (HFW.out.below hb (Nat.le_refl _)).2 _ (List.getElem_mem hql)
            rw [HT.out] at R
            have S := refwait_any l[q1].1.sure (t1, l[q1].1.waits.length, t3) l[q1].1.waits ⟨0, n.toNat, true⟩ W R SMC.out
            unfold sliceV slT at S
            dsimp only at S
            rw [hnn] at S
            refine S.mono ?_
            rintro e w' ⟨⟨c, k, rfl, ho⟩, hb'⟩
            exact ⟨_, rfl, ⟨c, k, rfl, row0 ho⟩, hb'⟩
          case hQ =>
            intro y0 y1 y2 y3 y4 y5 y6 y7 y8 y9 W4 hb4 hy0 hy1 hy9
            try dsimp only at hy0 hy1 hy9
            obtain ⟨cc, kk, hy9, hwr⟩ := hy9
            subst hy0 hy1 hy9
            have Q4 := Lib.hid (P.out.below hb4)
            have HF4 := Lib.hid (HFW.out.below hb4 (Nat.le_refl _))
            have HW4 : WaitsRow W4 (.slice (some ⟨cc, 0, none⟩) (l[q1].1.waits.length + 1) kk) (l[q1].1.waits ++ [⟨0, n.toNat, true⟩]) := by unfold WaitsRow; rw [snoc_len]; exact hwr
            have HW4 := Lib.hid HW4
            clear P HFW c0 c1 hb4 hwr
            simp only [List.foldl, List.setIfInBounds_toArray, List.set_cons_zero, List.set_cons_succ]
            obtain ⟨b0, b1, b2, b3, b4, b5, b6, b7, b8⟩ := cells9 Q4.out.cells
            have bl := Q4.out.c0.lt
            have g0 := Q4.out.c0.frozen 0
            have g1 := Q4.out.c0.frozen 1
            have g2 := Q4.out.c0.frozen 2
            have g3 := Q4.out.c0.frozen 3
            have g4 := Q4.out.c0.frozen 4
            have g5 := Q4.out.c0.frozen 5
            have g6 := Q4.out.c0.frozen 6
            have g7 := Q4.out.c0.frozen 7
            have g8 := Q4.out.c0.frozen 8
            go_wp2_with fail
            refine (WI.out cc kk _ HF4.out HW4.out).mono ?_
            rintro e w5 ⟨⟨⟨p1, p2, p3⟩, rfl, hfr5⟩, hb5⟩
            have O5 := Lib.hid (Q4.out.below hb5)
            have RA := Lib.hid (O5.out.at_.filed (f' := (p1, p2, p3)) (fs := modM M.files q1 fun f => f.more [⟨0, n.toNat, true⟩]) (files_mod HL.out hql (fun f => f.more [⟨0, n.toNat, true⟩]) _) hfr5)
            clear hb5 Q4 b0 b1 b2 b3 b4 b5 b6 b7 b8 bl g0 g1 g2 g3 g4 g5 g6 g7 g8 WI hfr5 HF4 HW4
            obtain ⟨b0, b1, b2, b3, b4, b5, b6, b7, b8⟩ := cells9 O5.out.cells
            have bl := O5.out.c0.lt
            have g0 := O5.out.c0.frozen 0
            have g1 := O5.out.c0.frozen 1
            have g2 := O5.out.c0.frozen 2
            have g3 := O5.out.c0.frozen 3
            have g4 := O5.out.c0.frozen 4
            have g5 := O5.out.c0.frozen 5
            have g6 := O5.out.c0.frozen 6
            have g7 := O5.out.c0.frozen 7
            have g8 := O5.out.c0.frozen 8
            try dsimp only
            have O5s := Lib.hid (O5.out.set RA.out)
            clear O5
            clear RA
            go_wp2_with fail
            refine (DI.out (p1, p2, p3) _ O5s.out.at_.acts FH.out.acts).mono ?_
            rintro e w6 ⟨⟨db, dc, rfl, down⟩, hb6⟩
            have O6 := Lib.hid (O5s.out.below hb6)
            have R2 := Lib.hid ((O6.out.at_).did (x := ⟨3, z, ⟨#[]⟩, ⟨#[]⟩, n.toNat⟩) (a' := slT db (M.acts.length + 1) dc) (by rw [snoc_len]; exact down))
            clear hb6 O5s b0 b1 b2 b3 b4 b5 b6 b7 b8 bl g0 g1 g2 g3 g4 g5 g6 g7 g8 down DI
            obtain ⟨b0, b1, b2, b3, b4, b5, b6, b7, b8⟩ := cells9 O6.out.cells
            have bl := O6.out.c0.lt
            obtain ⟨x0, x1, x2, x3, x4, x5, x6, x7, x8, xl, y0, y1, y2, y3, y4, y5, y6, y7, y8⟩ := Box9.of O6.out.c1
            go_wp2
            refine bodyPost_ret (ret_box rfl _ _ (w.heap.size + 1) _ rfl (setBox_to O6.out.c1 _ _ _ _ _ _ _ _ _) rfl) rfl ?_
            exact O6.out.res' R2.out _
        | false =>
          simp only [Bool.false_eq_true, if_false]
          have U := Lib.hid (refunit_no hc (some ⟨gb, 0, none⟩, l.length, f3) (s1, s2, s3) (m1, m2, m3) (a1, a2, a3) FH.out.fit.units FH.out.fit.left)
          clear hc
          unfold slices refA at A U ⊢
          go_enter Try.func31, Try.ntmps31
          go_wp2_with fail
          refine (A.out _ O.out.bel).mono ?_
          rintro e w1 ⟨rfl, hb1⟩
          have O1 := Lib.hid (O.out.below hb1)
          clear hb1 O  A
          obtain ⟨b0, b1, b2, b3, b4, b5, b6, b7, b8⟩ := cells9 O1.out.cells
          have bl := O1.out.c0.lt
          have HFW := HFR.out.below O1.out.bel (Nat.le_refl _)
          obtain ⟨c0, c1⟩ := filesM_at l q1 hql
          rw [HT.out] at c1
          unfold sliceV at c1
          have r0 := row_at HFW.1 c0
          have r1 := row_at HFW.1 c1
          have rl := (HFW.1.lt gb rfl).2
          have hii : (q1 : Int) < (l.length : Int) := by omega
          have SE := refseen_any l[q1].1 l[q1].2 _ (HFW.2 _ (List.getElem_mem hql)) SM.out
          rw [HT.out] at SE
          unfold sliceV at SE
          have SE := Lib.hid SE
          clear c0 c1 HFW
          go_wp2_with fail
          refine (SE.out).mono ?_
          rintro e w2 ⟨rfl, hb2⟩
          have O2 := Lib.hid (O1.out.below hb2)
          clear hb2 O1 b0 b1 b2 b3 b4 b5 b6 b7 b8 bl SE r0 r1 rl hii
          obtain ⟨b0, b1, b2, b3, b4, b5, b6, b7, b8⟩ := cells9 O2.out.cells
          have bl := O2.out.c0.lt
          go_wp2_with fail
          refine (U.out _).mono ?_
          rintro e w3 ⟨rfl, hb3⟩
          have O3 := Lib.hid (O2.out.below hb3)
          clear hb3 O2 b0 b1 b2 b3 b4 b5 b6 b7 b8 bl U
          obtain ⟨b0, b1, b2, b3, b4, b5, b6, b7, b8⟩ := cells9 O3.out.cells
          have bl := O3.out.c0.lt
          have g0 := O3.out.c0.frozen 0
          have g1 := O3.out.c0.frozen 1
          have g2 := O3.out.c0.frozen 2
          have g3 := O3.out.c0.frozen 3
          have g4 := O3.out.c0.frozen 4
          have g5 := O3.out.c0.frozen 5
          have g6 := O3.out.c0.frozen 6
          have g7 := O3.out.c0.frozen 7
          have g8 := O3.out.c0.frozen 8
          obtain ⟨x0, x1, x2, x3, x4, x5, x6, x7, x8, xl, y0, y1, y2, y3, y4, y5, y6, y7, y8⟩ := Box9.of O3.out.c1
          have O3s := Lib.hid (O3.out.set O3.out.at_.gone)
          clear O3
          go_wp2
          refine bodyPost_ret (ret_box rfl _ _ (w.heap.size + 1) _ rfl (setBox_to O3s.out.c1 _ _ _ _ _ _ _ _ _) rfl) rfl ?_
          exact O3s.out.res _
  · simp only [ne_eq, h0, not_false_eq_true, if_true, if_false] at A ⊢
    have hne : ((q2 : Int) == 0) = false := by rw [beq_eq_false_iff_ne]; omega
    clear h hF hlt hq
    unfold slices refA at A ⊢
    go_enter Try.func31, Try.ntmps31
    go_wp2_with fail
    refine (A.out _ O.out.bel).mono ?_
    rintro e w1 ⟨rfl, hb1⟩
    have O1 := Lib.hid (O.out.below hb1)
    clear hb1 O  A
    obtain ⟨b0, b1, b2, b3, b4, b5, b6, b7, b8⟩ := cells9 O1.out.cells
    have bl := O1.out.c0.lt
    obtain ⟨x0, x1, x2, x3, x4, x5, x6, x7, x8, xl, y0, y1, y2, y3, y4, y5, y6, y7, y8⟩ := Box9.of O1.out.c1
    go_wp2
    refine bodyPost_ret (ret_box rfl _ _ (w.heap.size + 1) _ rfl (setBox_to O1.out.c1 _ _ _ _ _ _ _ _ _) rfl) rfl ?_
    exact O1.out.res _
end Go.Proofs.Ytembondddgfpcaa

namespace Go.Proofs.Ytembondddgfpcaa
open Go.RowKit Go.Maps
attribute [local go_sem] World.cell?_alloc_some

theorem FilesRow.snoc {w w' : World} {f f' : Tri} {lo : Nat} {l : List (FileM × Value)} (h : FilesRow w (sliceV f) l) (hb : Below w.heap.size w w') (g : w'.ownsRow lo 87 2 (sliceV f') (l.length + 1) (filesCellsM l ++ [.string ⟨#[]⟩, .slice none 0 0])) : FilesRow w' (sliceV f') (l ++ [(⟨⟨#[]⟩, []⟩, .slice none 0 0)]) := by
  refine ⟨?_, fun p hp => ?_⟩
  · rw [snoc_len]
    have e : filesCellsM (l ++ [(⟨⟨#[]⟩, []⟩, .slice none 0 0)]) = filesCellsM l ++ [.string ⟨#[]⟩, .slice none 0 0] := by unfold filesCellsM; simp
    rw [e]; exact row0 g
  · rcases List.mem_append.1 hp with hp | hp
    · exact row_below (h.2 p hp) hb (Nat.le_refl _)
    · rw [List.mem_singleton] at hp; subst hp; exact ⟨rfl, .inl ⟨rfl, rfl⟩⟩
set_option maxRecDepth 100000 in
set_option maxHeartbeats 8000000 in
theorem refcreate_any {M : RefM} {f s m a : Tri} (hF : Fit' M) (z : ByteArray) (hz : z.size ≤ 1000) (w : World) (h : RefAt w M f s m a) :
    Calls Try.prog 29 #[slices f s m a M.room M.units M.left M.armed M.gone, .string z] w (ResR w (createM M z).1 (createM M z).2) := by
  have O := Lib.hid (OpW.start h)
  have A := Lib.hid (fun (W : World) (hb : Below w.heap.size w W) => asked_call hF.fit z hz W (h.below hb (Nat.le_refl _)))
  have FH := Lib.hid hF
  have HA := Lib.hid h
  have hcode := asked_codes M [z] z
  obtain ⟨f1, f2, f3⟩ := f
  obtain ⟨s1, s2, s3⟩ := s
  obtain ⟨m1, m2, m3⟩ := m
  obtain ⟨a1, a2, a3⟩ := a
  unfold createM
  unfold askedI at A
  generalize hq : askedM M [z] z = q at *
  obtain ⟨q1, q2⟩ := q
  dsimp only at A hcode ⊢
  clear h hF hq
  by_cases h0 : q2 = 0
  · subst h0
    have hne : (((0 : Nat) : Int) == 0) = true := rfl
    simp only [if_true] at A ⊢
    unfold slices refA at A ⊢
    go_enter Try.func29, Try.ntmps29
    go_wp2_with fail
    refine (A.out _ O.out.bel).mono ?_
    rintro e w1 ⟨rfl, hb1⟩
    have O1 := Lib.hid (O.out.below hb1)
    clear hb1 O  A
    obtain ⟨b0, b1, b2, b3, b4, b5, b6, b7, b8⟩ := cells9 O1.out.cells
    have bl := O1.out.c0.lt
    obtain ⟨x0, x1, x2, x3, x4, x5, x6, x7, x8, xl, y0, y1, y2, y3, y4, y5, y6, y7, y8⟩ := Box9.of O1.out.c1
    go_wp2
    refine bodyPost_ret (ret_box rfl _ _ (w.heap.size + 1) _ rfl (setBox_to O1.out.c1 _ _ _ _ _ _ _ _ _) rfl) rfl ?_
    exact O1.out.res _
  by_cases h7 : q2 ≠ 7
  · have hne : ((q2 : Int) == 0) = false := by rw [beq_eq_false_iff_ne]; omega
    have hne7 : ((q2 : Int) != 7) = true := by rw [bne_iff_ne]; omega
    have hne7' : ((q2 : Int) == 7) = false := by rw [beq_eq_false_iff_ne]; omega
    simp only [h0, h7, ne_eq, not_false_eq_true, if_true, if_false] at A ⊢
    unfold slices refA at A ⊢
    go_enter Try.func29, Try.ntmps29
    go_wp2_with fail
    refine (A.out _ O.out.bel).mono ?_
    rintro e w1 ⟨rfl, hb1⟩
    have O1 := Lib.hid (O.out.below hb1)
    clear hb1 O  A
    obtain ⟨b0, b1, b2, b3, b4, b5, b6, b7, b8⟩ := cells9 O1.out.cells
    have bl := O1.out.c0.lt
    obtain ⟨x0, x1, x2, x3, x4, x5, x6, x7, x8, xl, y0, y1, y2, y3, y4, y5, y6, y7, y8⟩ := Box9.of O1.out.c1
    go_wp2
    refine bodyPost_ret (ret_box rfl _ _ (w.heap.size + 1) _ rfl (setBox_to O1.out.c1 _ _ _ _ _ _ _ _ _) rfl) rfl ?_
    exact O1.out.res _
  have h7 : q2 = 7 := Decidable.not_not.1 h7
  subst h7
  simp only [show ¬ (7 : Nat) = 0 by decide, ne_eq, not_true_eq_false, if_false] at A ⊢
  clear hcode h0
  obtain ⟨i0, hi0, hz0, hz1, hz2⟩ := info_parts infoRefFile
  obtain ⟨l, hl, hfr⟩ := HA.out.files
  unfold sliceV at hfr
  dsimp only at hfr
  have hln : l.length ≤ 100000 := by have := FH.out.files; rw [← hl] at this; simpa using this
  have hfl0 : M.files.length = l.length := by rw [← hl]; simp
  have HFR := Lib.hid hfr
  have HL := Lib.hid hl
  rcases hfr.1.2 with ⟨q, hn0⟩ | ⟨gq, cap, cur, q, _⟩
  · cases q
    have hl0 : l = [] := List.eq_nil_of_length_eq_zero (by first | exact hn0 | exact hn0.symm | omega)
    have hfl : M.files.length = 0 := by rw [hfl0, hl0]; rfl
    clear hfr hl HA hn0 hfl0
    cases hc : canM M with
    | true =>
      simp only [if_true]
      have U := Lib.hid (refunit_yes hc (none, 0, 0) (s1, s2, s3) (m1, m2, m3) (a1, a2, a3) FH.out.fit.units FH.out.fit.left)
      clear hc
      have MO := Lib.hid (fun (W : World) => refmoved_any (doneM M).room (doneM M).units (doneM M).left (doneM M).armed (doneM M).gone (none, 0, 0) (s1, s2, s3) (m1, m2, m3) (a1, a2, a3) M.waits ⟨⟨#[]⟩, z, 0⟩ W)
      have DI := Lib.hid (fun (ff mm : Tri) (W : World) => refdid_any (doneM M).room (doneM M).units (doneM M).left (doneM M).armed (doneM M).gone ff (s1, s2, s3) mm (a1, a2, a3) M.acts ⟨1, z, ⟨#[]⟩, ⟨#[]⟩, 0⟩ W)
      unfold slices refA at A U ⊢
      unfold slices refA at DI MO
      go_enter Try.func29, Try.ntmps29
      go_wp2_with fail
      refine (A.out _ O.out.bel).mono ?_
      rintro e w1 ⟨rfl, hb1⟩
      have O1 := Lib.hid (O.out.below hb1)
      clear hb1 O  A
      obtain ⟨b0, b1, b2, b3, b4, b5, b6, b7, b8⟩ := cells9 O1.out.cells
      have bl := O1.out.c0.lt
      go_wp2_with fail
      refine (U.out _).mono ?_
      rintro e w2 ⟨rfl, hb2⟩
      have O2 := Lib.hid (O1.out.below hb2)
      clear hb2 O1 b0 b1 b2 b3 b4 b5 b6 b7 b8 bl U
      obtain ⟨b0, b1, b2, b3, b4, b5, b6, b7, b8⟩ := cells9 O2.out.cells
      have bl := O2.out.c0.lt
      have g0 := O2.out.c0.frozen 0
      have g1 := O2.out.c0.frozen 1
      have g2 := O2.out.c0.frozen 2
      have g3 := O2.out.c0.frozen 3
      have g4 := O2.out.c0.frozen 4
      have g5 := O2.out.c0.frozen 5
      have g6 := O2.out.c0.frozen 6
      have g7 := O2.out.c0.frozen 7
      have g8 := O2.out.c0.frozen 8
      have O2s := Lib.hid (O2.out.set O2.out.at_.done)
      clear O2
      go_wp2_with fail
      refine (MO.out _ O2s.out.at_.moves FH.out.waits).mono ?_
      rintro e w3 ⟨⟨mb, mc, rfl, mown⟩, hb3⟩
      have O3 := Lib.hid (O2s.out.below hb3)
      have R1 := Lib.hid (O3.out.at_.moved (l := M.waits ++ [⟨⟨#[]⟩, z, M.files.length⟩]) (m' := slT mb (M.waits.length + 1) mc) (by rw [hfl, snoc_len]; exact mown))
      clear hb3 O2s b0 b1 b2 b3 b4 b5 b6 b7 b8 bl g0 g1 g2 g3 g4 g5 g6 g7 g8 mown MO
      obtain ⟨b0, b1, b2, b3, b4, b5, b6, b7, b8⟩ := cells9 O3.out.cells
      have bl := O3.out.c0.lt
      have g0 := O3.out.c0.frozen 0
      have g1 := O3.out.c0.frozen 1
      have g2 := O3.out.c0.frozen 2
      have g3 := O3.out.c0.frozen 3
      have g4 := O3.out.c0.frozen 4
      have g5 := O3.out.c0.frozen 5
      have g6 := O3.out.c0.frozen 6
      have g7 := O3.out.c0.frozen 7
      have g8 := O3.out.c0.frozen 8
      have O3s := Lib.hid (O3.out.set R1.out)
      clear O3
      clear R1
      go_upto_region 10 with fail
      obtain ⟨W3, hW3⟩ : ∃ W, setBox w3 w.heap.size (.int .i64 (doneM M).room) (.slice none 0 0) (.slice s1 s2 s3) (.slice (some ⟨mb, 0, none⟩) (M.waits.length + 1) mc) (.int .i64 (doneM M).units) (.int .i64 (doneM M).left) (.bool (doneM M).armed) (.bool (doneM M).gone) (.slice a1 a2 a3) = W := ⟨_, rfl⟩
      have P := O3s.out
      unfold slT at P
      try dsimp only at P
      rw [hW3] at P
      unfold setBox at hW3
      try unfold slT
      try dsimp only
      rw [hW3]
      have P := Lib.hid P
      clear hW3 O3s b0 b1 b2 b3 b4 b5 b6 b7 b8 bl g0 g1 g2 g3 g4 g5 g6 g7 g8
      have b1 := P.out.c0.cell 1
      have bl := P.out.c0.lt
      unfold curM at b1
      dsimp at b1
      have hoN : (W3.alloc (.cells #[] 87)).ownsRow W3.heap.size 87 2 (.slice (some ⟨W3.heap.size, 0, none⟩) 0 0) 0 [] := World.ownsRow_lit W3 #[] 0 (Nat.le_refl _) (by decide) rfl
      have hb4 := Lib.hid ((Below.refl W3.heap.size W3).alloc (Nat.le_refl _) (.cells #[] 87))
      have HC2 := Lib.hid (new_at (W3.alloc (.cells #[] 87)) (n := W3.heap.size + 1) (by simp) 87 [.string ⟨#[]⟩, .slice none 0 0])
      go_wp2_with (first | (at_builtin; refine wpList_append_own_none rfl _ _ 32 rfl W3.heap.size 87 i0 2 Try.underlying32 hi0 _ 0 [] rfl hoN rfl ?_) | (at_builtin; refine wpList_append_own _ rfl _ _ 32 rfl W3.heap.size 87 i0 _ 2 40 Try.underlying32 hi0 hz0 hz1 hz2 rfl (by decide) _ 0 [] rfl (hoN.alloc _) ⟨W3.heap.size + 1, 0, none⟩ 1 1 _ rfl rfl HC2.out ?c2 ?c3 ?c4 ?c5 ?_))
      case c2 => first | (intro u hu; simp at hu; rcases hu with rfl | rfl <;> rfl) | exact ⟨rfl, rfl⟩
      case c3 => unfold maxLen; omega
      case c4 => omega
      case c5 => simp <;> omega
      intro v' w6 hown' hgrow _
      try simp only [List.nil_append, Nat.zero_add] at hown'
      have hb6 : Below W3.heap.size W3 w6 := (hb4.out.alloc (by simp) _).grown hgrow (by simp <;> omega) (fun j ej => (World.ownsRow.lt hoN j ej).1)
      subst hl0
      change w6.ownsRow _ _ _ v' (([] : List (FileM × Value)).length + 1) (filesCellsM [] ++ [.string ⟨#[]⟩, .slice none 0 0]) at hown'
      obtain ⟨⟨r1, r2, r3⟩, hv6, hr2⟩ := row_tri hown'
      clear hr2
      subst hv6
      have hown6 := hown'
      unfold sliceV
      dsimp only
      have P6 := P.out.below hb6
      have HFN := FilesRow.snoc (f := (none, 0, 0)) (HFR.out.below P.out.bel (Nat.le_refl _)) hb6 hown6
      have RB := P6.at_.filed (f' := (r1, r2, r3)) (fs := M.files ++ [⟨⟨#[]⟩, []⟩]) (by rw [List.map_append, HL.out]; rfl) HFN
      have Q6 := Lib.hid (P6.cellTo 1 (.slice r1 r2 r3) RB (by simp [curM]))
      have d1 := P6.c0.cell 1
      have dl := P6.c0.lt
      have df := P6.c0.frozen 1
      unfold curM at d1
      dsimp at d1
      have P6 := Lib.hid P6
      clear RB HFN hown' hown6 hgrow hb6
      go_upto_region 11 with fail
      clear d1 dl df P6 P
      generalize w6.setCell _ _ = W6 at *
      obtain ⟨b0, b1, b2, b3, b4, b5, b6, b7, b8⟩ := cells9 Q6.out.cells
      have bl := Q6.out.c0.lt
      go_wp2_with fail
      refine (DI.out (r1, r2, r3) (slT mb (M.waits.length + 1) mc) _ Q6.out.at_.acts FH.out.acts).mono ?_
      rintro e w7 ⟨⟨db, dc, rfl, down⟩, hb7⟩
      have O7 := Lib.hid (Q6.out.below hb7)
      have R2 := Lib.hid ((O7.out.at_).did (x := ⟨1, z, ⟨#[]⟩, ⟨#[]⟩, 0⟩) (a' := slT db (M.acts.length + 1) dc) (by rw [snoc_len]; exact down))
      clear hb7 Q6 b0 b1 b2 b3 b4 b5 b6 b7 b8 bl down DI
      obtain ⟨b0, b1, b2, b3, b4, b5, b6, b7, b8⟩ := cells9 O7.out.cells
      have bl := O7.out.c0.lt
      obtain ⟨x0, x1, x2, x3, x4, x5, x6, x7, x8, xl, y0, y1, y2, y3, y4, y5, y6, y7, y8⟩ := Box9.of O7.out.c1
      go_wp2
      refine bodyPost_ret (ret_box rfl _ _ (w.heap.size + 1) _ rfl (setBox_to O7.out.c1 _ _ _ _ _ _ _ _ _) rfl) rfl ?_
      exact O7.out.res' R2.out _
    | false =>
      simp only [Bool.false_eq_true, if_false]
      have U := Lib.hid (refunit_no hc (none, 0, 0) (s1, s2, s3) (m1, m2, m3) (a1, a2, a3) FH.out.fit.units FH.out.fit.left)
      clear hc
      unfold slices refA at A U ⊢
      go_enter Try.func29, Try.ntmps29
      go_wp2_with fail
      refine (A.out _ O.out.bel).mono ?_
      rintro e w1 ⟨rfl, hb1⟩
      have O1 := Lib.hid (O.out.below hb1)
      clear hb1 O  A
      obtain ⟨b0, b1, b2, b3, b4, b5, b6, b7, b8⟩ := cells9 O1.out.cells
      have bl := O1.out.c0.lt
      go_wp2_with fail
      refine (U.out _).mono ?_
      rintro e w2 ⟨rfl, hb2⟩
      have O2 := Lib.hid (O1.out.below hb2)
      clear hb2 O1 b0 b1 b2 b3 b4 b5 b6 b7 b8 bl U
      obtain ⟨b0, b1, b2, b3, b4, b5, b6, b7, b8⟩ := cells9 O2.out.cells
      have bl := O2.out.c0.lt
      have g0 := O2.out.c0.frozen 0
      have g1 := O2.out.c0.frozen 1
      have g2 := O2.out.c0.frozen 2
      have g3 := O2.out.c0.frozen 3
      have g4 := O2.out.c0.frozen 4
      have g5 := O2.out.c0.frozen 5
      have g6 := O2.out.c0.frozen 6
      have g7 := O2.out.c0.frozen 7
      have g8 := O2.out.c0.frozen 8
      obtain ⟨x0, x1, x2, x3, x4, x5, x6, x7, x8, xl, y0, y1, y2, y3, y4, y5, y6, y7, y8⟩ := Box9.of O2.out.c1
      have O2s := Lib.hid (O2.out.set O2.out.at_.gone)
      clear O2
      go_wp2
      refine bodyPost_ret (ret_box rfl _ _ (w.heap.size + 1) _ rfl (setBox_to O2s.out.c1 _ _ _ _ _ _ _ _ _) rfl) rfl ?_
      exact O2s.out.res _
  · cases q
    have hfl : M.files.length = l.length := hfl0
    clear hfr hl HA hfl0
    cases hc : canM M with
    | true =>
      simp only [if_true]
      have U := Lib.hid (refunit_yes hc (some ⟨gq, 0, none⟩, l.length, f3) (s1, s2, s3) (m1, m2, m3) (a1, a2, a3) FH.out.fit.units FH.out.fit.left)
      clear hc
      have MO := Lib.hid (fun (W : World) => refmoved_any (doneM M).room (doneM M).units (doneM M).left (doneM M).armed (doneM M).gone (some ⟨gq, 0, none⟩, l.length, f3) (s1, s2, s3) (m1, m2, m3) (a1, a2, a3) M.waits ⟨⟨#[]⟩, z, l.length⟩ W)
      have DI := Lib.hid (fun (ff mm : Tri) (W : World) => refdid_any (doneM M).room (doneM M).units (doneM M).left (doneM M).armed (doneM M).gone ff (s1, s2, s3) mm (a1, a2, a3) M.acts ⟨1, z, ⟨#[]⟩, ⟨#[]⟩, 0⟩ W)
      unfold slices refA at A U ⊢
      unfold slices refA at DI MO
      go_enter Try.func29, Try.ntmps29
      go_wp2_with fail
      refine (A.out _ O.out.bel).mono ?_
      rintro e w1 ⟨rfl, hb1⟩
      have O1 := Lib.hid (O.out.below hb1)
      clear hb1 O  A
      obtain ⟨b0, b1, b2, b3, b4, b5, b6, b7, b8⟩ := cells9 O1.out.cells
      have bl := O1.out.c0.lt
      go_wp2_with fail
      refine (U.out _).mono ?_
      rintro e w2 ⟨rfl, hb2⟩
      have O2 := Lib.hid (O1.out.below hb2)
      clear hb2 O1 b0 b1 b2 b3 b4 b5 b6 b7 b8 bl U
      obtain ⟨b0, b1, b2, b3, b4, b5, b6, b7, b8⟩ := cells9 O2.out.cells
      have bl := O2.out.c0.lt
      have g0 := O2.out.c0.frozen 0
      have g1 := O2.out.c0.frozen 1
      have g2 := O2.out.c0.frozen 2
      have g3 := O2.out.c0.frozen 3
      have g4 := O2.out.c0.frozen 4
      have g5 := O2.out.c0.frozen 5
      have g6 := O2.out.c0.frozen 6
      have g7 := O2.out.c0.frozen 7
      have g8 := O2.out.c0.frozen 8
      have O2s := Lib.hid (O2.out.set O2.out.at_.done)
      clear O2
      go_wp2_with fail
      refine (MO.out _ O2s.out.at_.moves FH.out.waits).mono ?_
      rintro e w3 ⟨⟨mb, mc, rfl, mown⟩, hb3⟩
      have O3 := Lib.hid (O2s.out.below hb3)
      have R1 := Lib.hid (O3.out.at_.moved (l := M.waits ++ [⟨⟨#[]⟩, z, M.files.length⟩]) (m' := slT mb (M.waits.length + 1) mc) (by rw [hfl, snoc_len]; exact mown))
      clear hb3 O2s b0 b1 b2 b3 b4 b5 b6 b7 b8 bl g0 g1 g2 g3 g4 g5 g6 g7 g8 mown MO
      obtain ⟨b0, b1, b2, b3, b4, b5, b6, b7, b8⟩ := cells9 O3.out.cells
      have bl := O3.out.c0.lt
      have g0 := O3.out.c0.frozen 0
      have g1 := O3.out.c0.frozen 1
      have g2 := O3.out.c0.frozen 2
      have g3 := O3.out.c0.frozen 3
      have g4 := O3.out.c0.frozen 4
      have g5 := O3.out.c0.frozen 5
      have g6 := O3.out.c0.frozen 6
      have g7 := O3.out.c0.frozen 7
      have g8 := O3.out.c0.frozen 8
      have O3s := Lib.hid (O3.out.set R1.out)
      clear O3
      clear R1
      go_upto_region 10 with fail
      obtain ⟨W3, hW3⟩ : ∃ W, setBox w3 w.heap.size (.int .i64 (doneM M).room) (.slice (some ⟨gq, 0, none⟩) l.length f3) (.slice s1 s2 s3) (.slice (some ⟨mb, 0, none⟩) (M.waits.length + 1) mc) (.int .i64 (doneM M).units) (.int .i64 (doneM M).left) (.bool (doneM M).armed) (.bool (doneM M).gone) (.slice a1 a2 a3) = W := ⟨_, rfl⟩
      have P := O3s.out
      unfold slT at P
      try dsimp only at P
      rw [hW3] at P
      unfold setBox at hW3
      try unfold slT
      try dsimp only
      rw [hW3]
      have P := Lib.hid P
      clear hW3 O3s b0 b1 b2 b3 b4 b5 b6 b7 b8 bl g0 g1 g2 g3 g4 g5 g6 g7 g8
      have b1 := P.out.c0.cell 1
      have bl := P.out.c0.lt
      unfold curM at b1
      dsimp at b1
      have hoN : (W3.alloc (.cells #[] 87)).ownsRow W3.heap.size 87 2 (.slice (some ⟨W3.heap.size, 0, none⟩) 0 0) 0 [] := World.ownsRow_lit W3 #[] 0 (Nat.le_refl _) (by decide) rfl
      have hb4 := Lib.hid ((Below.refl W3.heap.size W3).alloc (Nat.le_refl _) (.cells #[] 87))
      have HR := HFR.out.below (P.out.bel.trans (hb4.out.mono P.out.bel.size)) (Nat.le_refl _)
      have HC := Lib.hid (fun j u hj => HR.1.cells (g := gq) rfl j u hj)
      have HLN := Lib.hid HFR.out.1.1
      have ONE := Lib.hid HFR.out.one
      clear HR
      go_wp2_with (at_builtin; refine wpList_append_own _ rfl _ _ 32 rfl W3.heap.size 87 i0 _ 2 40 Try.underlying32 hi0 hz0 hz1 hz2 rfl (by decide) _ 0 [] rfl hoN ⟨gq, 0, none⟩ l.length f3 (filesCellsM l) rfl HLN.out HC.out ONE.out ?c3 ?c4 ?c5 ?_)
      case c3 => unfold maxLen; omega
      case c4 => omega
      case c5 => simp
      intro v5 w5 hown5 hgrow5 _
      try simp only [List.nil_append, Nat.zero_add] at hown5
      change w5.ownsRow _ _ _ v5 l.length (filesCellsM l) at hown5
      obtain ⟨⟨p1, p2, p3⟩, hv5, hp2⟩ := row_tri hown5
      have hp2 : p2 = l.length := hp2
      subst hp2
      subst hv5
      unfold sliceV at hown5 ⊢
      dsimp only at hown5 ⊢
      have hb5 : Below W3.heap.size W3 w5 := hb4.out.grown hgrow5 (by simp) (fun j ej => (World.ownsRow.lt hoN j ej).1)
      have P5 := Lib.hid (P.out.below hb5)
      have c51 := P5.out.c0.cell 1
      have bl5 := P5.out.c0.lt
      unfold curM at c51
      dsimp at c51
      have HC2 := Lib.hid (new_at w5 (n := w5.heap.size) rfl 87 [.string ⟨#[]⟩, .slice none 0 0])
      have WS := Lib.hid hb5.size
      have HB5 := Lib.hid hb5
      clear hoN hgrow5 hb5 hb4 HC HLN ONE b1 bl
      go_wp2_with (at_builtin; refine wpList_append_own _ rfl _ _ 32 rfl W3.heap.size 87 i0 _ 2 40 Try.underlying32 hi0 hz0 hz1 hz2 rfl (by decide) _ l.length (filesCellsM l) rfl (hown5.alloc _) ⟨w5.heap.size, 0, none⟩ 1 1 [.string ⟨#[]⟩, .slice none 0 0] rfl rfl HC2.out ?c2 ?c3 ?c4 ?c5 ?_)
      case c2 => first | (intro u hu; simp at hu; rcases hu with rfl | rfl <;> rfl) | exact ⟨rfl, rfl⟩
      case c3 => unfold maxLen; omega
      case c4 => omega
      case c5 => have := WS.out; simp; omega
      intro v' w6 hown' hgrow _
      have hb6 : Below W3.heap.size W3 w6 := (HB5.out.alloc WS.out _).grown hgrow (by have := WS.out; simp <;> omega) (fun j ej => (World.ownsRow.lt hown5 j ej).1)
      clear hown5 P5 c51 bl5 HC2 WS HB5
      obtain ⟨⟨r1, r2, r3⟩, hv6, hr2⟩ := row_tri hown'
      clear hr2
      subst hv6
      have hown6 := hown'
      unfold sliceV
      dsimp only
      have P6 := P.out.below hb6
      have HFN := FilesRow.snoc (f := (some ⟨gq, 0, none⟩, l.length, f3)) (f' := (r1, r2, r3)) (HFR.out.below P.out.bel (Nat.le_refl _)) hb6 hown6
      have RB := P6.at_.filed (f' := (r1, r2, r3)) (fs := M.files ++ [⟨⟨#[]⟩, []⟩]) (by rw [List.map_append, HL.out]; rfl) HFN
      have Q6 := Lib.hid (P6.cellTo 1 (.slice r1 r2 r3) RB (by simp [curM]))
      have d1 := P6.c0.cell 1
      have dl := P6.c0.lt
      have df := P6.c0.frozen 1
      unfold curM at d1
      dsimp at d1
      have P6 := Lib.hid P6
      clear RB HFN hown' hown6 hgrow hb6
      go_upto_region 11 with fail
      clear d1 dl df P6 P
      generalize w6.setCell _ _ = W6 at *
      obtain ⟨b0, b1, b2, b3, b4, b5, b6, b7, b8⟩ := cells9 Q6.out.cells
      have bl := Q6.out.c0.lt
      go_wp2_with fail
      refine (DI.out (r1, r2, r3) (slT mb (M.waits.length + 1) mc) _ Q6.out.at_.acts FH.out.acts).mono ?_
      rintro e w7 ⟨⟨db, dc, rfl, down⟩, hb7⟩
      have O7 := Lib.hid (Q6.out.below hb7)
      have R2 := Lib.hid ((O7.out.at_).did (x := ⟨1, z, ⟨#[]⟩, ⟨#[]⟩, 0⟩) (a' := slT db (M.acts.length + 1) dc) (by rw [snoc_len]; exact down))
      clear hb7 Q6 b0 b1 b2 b3 b4 b5 b6 b7 b8 bl down DI
      obtain ⟨b0, b1, b2, b3, b4, b5, b6, b7, b8⟩ := cells9 O7.out.cells
      have bl := O7.out.c0.lt
      obtain ⟨x0, x1, x2, x3, x4, x5, x6, x7, x8, xl, y0, y1, y2, y3, y4, y5, y6, y7, y8⟩ := Box9.of O7.out.c1
      go_wp2
      refine bodyPost_ret (ret_box rfl _ _ (w.heap.size + 1) _ rfl (setBox_to O7.out.c1 _ _ _ _ _ _ _ _ _) rfl) rfl ?_
      exact O7.out.res' R2.out _
    | false =>
      simp only [Bool.false_eq_true, if_false]
      have U := Lib.hid (refunit_no hc (some ⟨gq, 0, none⟩, l.length, f3) (s1, s2, s3) (m1, m2, m3) (a1, a2, a3) FH.out.fit.units FH.out.fit.left)
      clear hc
      unfold slices refA at A U ⊢
      go_enter Try.func29, Try.ntmps29
      go_wp2_with fail
      refine (A.out _ O.out.bel).mono ?_
      rintro e w1 ⟨rfl, hb1⟩
      have O1 := Lib.hid (O.out.below hb1)
      clear hb1 O  A
      obtain ⟨b0, b1, b2, b3, b4, b5, b6, b7, b8⟩ := cells9 O1.out.cells
      have bl := O1.out.c0.lt
      go_wp2_with fail
      refine (U.out _).mono ?_
      rintro e w2 ⟨rfl, hb2⟩
      have O2 := Lib.hid (O1.out.below hb2)
      clear hb2 O1 b0 b1 b2 b3 b4 b5 b6 b7 b8 bl U
      obtain ⟨b0, b1, b2, b3, b4, b5, b6, b7, b8⟩ := cells9 O2.out.cells
      have bl := O2.out.c0.lt
      have g0 := O2.out.c0.frozen 0
      have g1 := O2.out.c0.frozen 1
      have g2 := O2.out.c0.frozen 2
      have g3 := O2.out.c0.frozen 3
      have g4 := O2.out.c0.frozen 4
      have g5 := O2.out.c0.frozen 5
      have g6 := O2.out.c0.frozen 6
      have g7 := O2.out.c0.frozen 7
      have g8 := O2.out.c0.frozen 8
      obtain ⟨x0, x1, x2, x3, x4, x5, x6, x7, x8, xl, y0, y1, y2, y3, y4, y5, y6, y7, y8⟩ := Box9.of O2.out.c1
      have O2s := Lib.hid (O2.out.set O2.out.at_.gone)
      clear O2
      go_wp2
      refine bodyPost_ret (ret_box rfl _ _ (w.heap.size + 1) _ rfl (setBox_to O2s.out.c1 _ _ _ _ _ _ _ _ _) rfl) rfl ?_
      exact O2s.out.res _
end Go.Proofs.Ytembondddgfpcaa

namespace Go.Proofs.Ytembondddgfpcaa
namespace Vm
open Go.RowKit Go.Shelf Go.Maps
attribute [local go_sem] Oper.semAt_some
section
variable {o : Oper} {a : Act} {w : World} {K : Act → World → Prop} {Q : Exit → Act → World → Prop}
theorem mo_sliceTo {x y : Operand} {s : ByteArray} {j : Nat} (hj : j ≤ s.size) (ho : o.op = Op.slice 9 x none (some y) none) (hx : a.eval x = .string s) (hy : a.eval y = .int .i64 (j : Nat)) (hK : K (a.put o.dst (.string (s.extract 0 j))) w) : Oper.wp Try.prog o a w K Q := by
  have h1 : (j : Int) ≤ (s.size : Int) := by omega
  refine mo_run ?_ hK
  generalize a.eval = ρ at hx hy ⊢
  simp only [execOp, ho]
  simp [go_sem, hx, hy, Result.andThen, h1]
theorem mo_act {x y : Operand} {s t : ByteArray} (ho : o.op = Op.build 90 #[(0, Operand.const (Value.int IntKind.i64 2)), (1, x), (3, y)]) (hx : a.eval x = .string s) (hy : a.eval y = .string t) (hK : K (a.put o.dst (.agg #[.int .i64 2, .string s, .string ⟨#[]⟩, .string t, .int .i64 0])) w) : Oper.wp Try.prog o a w K Q := by
  refine mo_run ?_ hK
  simp only [execOp, ho]
  rw [show (Array.map (fun (p : Nat × Operand) => match p with | (i, x) => (i, a.eval x)) #[((0 : Nat), Operand.const (Value.int IntKind.i64 2)), (1, x), (3, y)]) = #[((0 : Nat), Value.int .i64 2), (1, Value.string s), (3, Value.string t)] from by rw [← hx, ← hy]; simp; rfl]
  kernel_rfl
end
def ops_wr17 : List Oper := [
  { dst := some 69, op := Op.load 37 (Operand.tmp 3), type := 37, pos := "ref.go:225", after := #[], guard := none },
  { dst := some 70, op := Op.move (Operand.tmp 1), type := 9, pos := "ref.go:225", after := #[], guard := none },
  { dst := some 71, op := Op.move (Operand.tmp 2), type := 9, pos := "ref.go:225", after := #[], guard := none },
  { dst := some 72, op := Op.move (Operand.tmp 10), type := 3, pos := "ref.go:225", after := #[], guard := none },
  { dst := some 73, op := Op.slice 9 (Operand.tmp 71) none (some (Operand.tmp 72)) none, type := 9, pos := "ref.go:225", after := #[{ on := 2, ground := Ground.data }, { on := 3, ground := Ground.data }], guard := none },
  { dst := some 74, op := Op.build 90 #[(0, Operand.const (Value.int IntKind.i64 2)), (1, Operand.tmp 70), (3, Operand.tmp 73)], type := 90, pos := "ref.go:225", after := #[{ on := 1, ground := Ground.data }, { on := 4, ground := Ground.data }], guard := none },
  { dst := some 75, op := Op.call { callee := Callee.value (Operand.func 59), args := #[Operand.tmp 69, Operand.tmp 74], argTypes := #[37, 90] }, type := 37, pos := "ref.go:225", after := #[{ on := 0, ground := Ground.data }, { on := 5, ground := Ground.data }], guard := none },
  { dst := none, op := Op.store 37 (Operand.tmp 3) (Operand.tmp 75), type := 0, pos := "ref.go:225", after := #[{ on := 6, ground := Ground.data }, { on := 6, ground := Ground.chain }, { on := 0, ground := Ground.phase }, { on := 1, ground := Ground.phase }, { on := 2, ground := Ground.phase }, { on := 3, ground := Ground.phase }, { on := 4, ground := Ground.phase }, { on := 5, ground := Ground.phase }, { on := 6, ground := Ground.phase }], guard := none }]
def dst_wr17 (i : Nat) : Option Nat := (ops_wr17[i]?).bind (·.dst)
theorem inj_wr17 : ∀ i, i < 6 → ∀ k, k < 6 → dst_wr17 i ≠ none → dst_wr17 i = dst_wr17 k → i = k := by decide +kernel
theorem lt_wr17 : ∀ i, i < 6 → (dst_wr17 i).getD 0 < 80 := by decide +kernel
theorem low_wr17 : ∀ i : Fin 8, ∀ e ∈ (ops_wr17[i.1]'(by exact i.2)).after, Region.binds .any e = true → e.on < i.1 := by decide +kernel
def pv_wr17 (b n : Nat) (r u l : Int) (q g : Bool) (fn fc sn sc mn mc an ac : Nat) (fa sa ma aa : Option Addr) (z tx : ByteArray) : List (Value → World → Prop) := [
  fun v w => v = .agg #[.int .i64 r, .slice fa fn fc, .slice sa sn sc, .slice ma mn mc, .int .i64 u, .int .i64 l, .bool q, .bool g, .slice aa an ac],
  fun v w => v = .string z,
  fun v w => v = .string tx,
  fun v w => v = .int .i64 (n : Nat),
  fun v w => v = .string (tx.extract 0 n),
  fun v w => v = .agg #[.int .i64 2, .string z, .string ⟨#[]⟩, .string (tx.extract 0 n), .int .i64 0]]
set_option maxRecDepth 100000 in
set_option maxHeartbeats 4000000 in
theorem region_wr17 (a0 : Act) (w0 : World) (b n : Nat) (r u l : Int) (q g : Bool) (fn fc sn sc mn mc an ac : Nat) (fa sa ma aa : Option Addr) (z tx : ByteArray) (Q : Exit → Act → World → Prop)
    (hsz : a0.tmps.size = 80) (h3 : a0.tmps[3]? = some (.pointer (some ⟨b, 0, none⟩))) (h1 : a0.tmps[1]? = some (.string z)) (h2 : a0.tmps[2]? = some (.string tx)) (h10 : a0.tmps[10]? = some (.int .i64 (n : Nat)))
    (hD : ∀ W, Below w0.heap.size w0 W → W.cell? ⟨b, 0, none⟩ = some (.int .i64 r) ∧ W.cell? ⟨b, 1, none⟩ = some (.slice fa fn fc) ∧ W.cell? ⟨b, 2, none⟩ = some (.slice sa sn sc) ∧ W.cell? ⟨b, 3, none⟩ = some (.slice ma mn mc) ∧ W.cell? ⟨b, 4, none⟩ = some (.int .i64 u) ∧ W.cell? ⟨b, 5, none⟩ = some (.int .i64 l) ∧ W.cell? ⟨b, 6, none⟩ = some (.bool q) ∧ W.cell? ⟨b, 7, none⟩ = some (.bool g) ∧ W.cell? ⟨b, 8, none⟩ = some (.slice aa an ac))
    (hn : n ≤ tx.size)
    (hQ : ∀ (y0 y1 y2 y3 y4 y5 : Value) (w : World), Below w0.heap.size w0 w → ((fun (v : Value) (w : World) => v = .agg #[.int .i64 r, .slice fa fn fc, .slice sa sn sc, .slice ma mn mc, .int .i64 u, .int .i64 l, .bool q, .bool g, .slice aa an ac]) y0 w) → ((fun (v : Value) (w : World) => v = .agg #[.int .i64 2, .string z, .string ⟨#[]⟩, .string (tx.extract 0 n), .int .i64 0]) y5 w) → wpList Try.prog ops_wr17.toArray Q [{ dst := some 75, op := Op.call { callee := Callee.value (Operand.func 59), args := #[Operand.tmp 69, Operand.tmp 74], argTypes := #[37, 90] }, type := 37, pos := "ref.go:225", after := #[{ on := 0, ground := Ground.data }, { on := 5, ground := Ground.data }], guard := none }, { dst := none, op := Op.store 37 (Operand.tmp 3) (Operand.tmp 75), type := 0, pos := "ref.go:225", after := #[{ on := 6, ground := Ground.data }, { on := 6, ground := Ground.chain }, { on := 0, ground := Ground.phase }, { on := 1, ground := Ground.phase }, { on := 2, ground := Ground.phase }, { on := 3, ground := Ground.phase }, { on := 4, ground := Ground.phase }, { on := 5, ground := Ground.phase }, { on := 6, ground := Ground.phase }], guard := none }] { a0 with tmps := [(69, y0), (70, y1), (71, y2), (72, y3), (73, y4), (74, y5)].foldl (fun u p => u.setIfInBounds p.1 p.2) a0.tmps } w) :
    wpAny Try.prog .any ops_wr17.toArray Q ops_wr17.toArray.size (Array.replicate ops_wr17.toArray.size false) a0 w0 := by
  have M : AllM (pv_wr17 b n r u l q g fn fc sn sc mn mc an ac fa sa ma aa z tx) := ⟨fun v x y hb h => h, fun v x y hb h => h, fun v x y hb h => h, fun v x y hb h => h, fun v x y hb h => h, fun v x y hb h => h, trivial⟩
  refine wpAny_mono_tail 6 2 (by kernel_rfl) (by decide) a0 w0 dst_wr17 (pv_wr17 b n r u l q g fn fc sn sc mn mc an ac fa sa ma aa z tx) M (by kernel_rfl) (by kernel_rfl) (by kernel_rfl)
    (fun i o _ ho => by unfold dst_wr17; rw [ho]; rfl)
    (fun i k d hi hk h1 h2 => inj_wr17 i hi k hk (by rw [h1]; intro q; cases q) (by rw [h1, h2]))
    (fun i d hi h => by have := lt_wr17 i hi; rw [h] at this; rw [hsz]; exact this)
    (fun i o e ho he hb => by
      obtain ⟨hi, rfl⟩ := List.getElem?_eq_some_iff.1 ho
      exact low_wr17 ⟨i, hi⟩ e he hb)
    ?step ?fin
  case fin =>
    intro a w hd hs hf hv hR
    obtain ⟨y0, hy0, pv0⟩ := hv 0 69 (by decide) rfl
    obtain ⟨y1, hy1, pv1⟩ := hv 1 70 (by decide) rfl
    obtain ⟨y2, hy2, pv2⟩ := hv 2 71 (by decide) rfl
    obtain ⟨y3, hy3, pv3⟩ := hv 3 72 (by decide) rfl
    obtain ⟨y4, hy4, pv4⟩ := hv 4 73 (by decide) rfl
    obtain ⟨y5, hy5, pv5⟩ := hv 5 74 (by decide) rfl
    rw [act_set' (a := a) (a0 := a0) [(69, y0), (70, y1), (71, y2), (72, y3), (73, y4), (74, y5)] hd hs (by
      intro p hp
      simp only [List.mem_cons, List.not_mem_nil, or_false] at hp
      rcases hp with rfl | rfl | rfl | rfl | rfl | rfl
      · exact hy0
      · exact hy1
      · exact hy2
      · exact hy3
      · exact hy4
      · exact hy5
      ) (fun j hj => hf j (fun k hk q => hj (by
        have : ∀ k, k < 6 → (dst_wr17 k).all (fun d => [69, 70, 71, 72, 73, 74].contains d) = true := by decide +kernel
        have h1 := this k hk
        rw [q] at h1
        simpa using h1)))]
    exact hQ y0 y1 y2 y3 y4 y5 w hR pv0 pv5
  case step =>
    intro i o a w hi ho hs hf dep hR
    have e3 := evT ((hf 3 (by decide +kernel)).trans h3)
    have e1 := evT ((hf 1 (by decide +kernel)).trans h1)
    have e2 := evT ((hf 2 (by decide +kernel)).trans h2)
    have e10 := evT ((hf 10 (by decide +kernel)).trans h10)
    rcases (by omega : i = 0 ∨ i = 1 ∨ i = 2 ∨ i = 3 ∨ i = 4 ∨ i = 5) with rfl | rfl | rfl | rfl | rfl | rfl
    · have ho2 : some _ = some o := ho
      obtain rfl := Option.some.inj ho2
      exact .inl ⟨wantN rfl, fun K hK => mo_load (by obtain ⟨c0, c1, c2, c3, c4, c5, c6, c7, c8⟩ := hD w hR; simp [go_sem, c0, c1, c2, c3, c4, c5, c6, c7, c8]) rfl e3 (hK _ _ (Below.refl _ _) rfl)⟩
    · have ho2 : some _ = some o := ho
      obtain rfl := Option.some.inj ho2
      exact .inl ⟨wantN rfl, fun K hK => mo_move rfl e1 (hK _ _ (Below.refl _ _) rfl)⟩
    · have ho2 : some _ = some o := ho
      obtain rfl := Option.some.inj ho2
      exact .inl ⟨wantN rfl, fun K hK => mo_move rfl e2 (hK _ _ (Below.refl _ _) rfl)⟩
    · have ho2 : some _ = some o := ho
      obtain rfl := Option.some.inj ho2
      exact .inl ⟨wantN rfl, fun K hK => mo_move rfl e10 (hK _ _ (Below.refl _ _) rfl)⟩
    · have ho2 : some _ = some o := ho
      obtain rfl := Option.some.inj ho2
      obtain ⟨_, hv2, rfl⟩ : ∃ v, a.tmps[71]? = some v ∧ (fun (v : Value) (w : World) => v = .string tx) v w := dep ⟨2, Ground.data⟩ (by first | simp | simp [ops_wr17]) rfl 71 rfl
      obtain ⟨_, hv3, rfl⟩ : ∃ v, a.tmps[72]? = some v ∧ (fun (v : Value) (w : World) => v = .int .i64 (n : Nat)) v w := dep ⟨3, Ground.data⟩ (by first | simp | simp [ops_wr17]) rfl 72 rfl
      exact .inl ⟨wantN rfl, fun K hK => mo_sliceTo hn rfl (evT hv2) (evT hv3) (hK _ _ (Below.refl _ _) rfl)⟩
    · have ho2 : some _ = some o := ho
      obtain rfl := Option.some.inj ho2
      obtain ⟨_, hv1, rfl⟩ : ∃ v, a.tmps[70]? = some v ∧ (fun (v : Value) (w : World) => v = .string z) v w := dep ⟨1, Ground.data⟩ (by first | simp | simp [ops_wr17]) rfl 70 rfl
      obtain ⟨_, hv4, rfl⟩ : ∃ v, a.tmps[73]? = some v ∧ (fun (v : Value) (w : World) => v = .string (tx.extract 0 n)) v w := dep ⟨4, Ground.data⟩ (by first | simp | simp [ops_wr17]) rfl 73 rfl
      exact .inl ⟨wantN rfl, fun K hK => mo_act rfl (evT hv1) (evT hv4) (hK _ _ (Below.refl _ _) rfl)⟩
end Vm
end Go.Proofs.Ytembondddgfpcaa

