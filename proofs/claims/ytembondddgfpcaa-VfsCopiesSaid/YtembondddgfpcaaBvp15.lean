/- Texts put together: XS, XM, XN, XO, ZK, ZL, ZP, SYM. -/
import Derived.Deep.DeepCutAuto
import Derived.Deep.Cut
import Derived.Deep.RegionHeld3
import Derived.Test.YtembondddgfpcaaBvp4
import Derived.Test.YtembondddgfpcaaBvp5
import Derived.Test.YtembondddgfpcaaBvp6
import Derived.Test.YtembondddgfpcaaBvp7
import Derived.Test.YtembondddgfpcaaBvp11
import Derived.Test.YtembondddgfpcaaBvp14
set_option linter.unusedVariables false
namespace Go.Proofs.Ytembondddgfpcaa
open Go.RowKit Go.Maps
attribute [local go_sem] World.cell?_alloc_some

def emptied (fs : List FileM) : List (FileM × Value) := fs.map fun f => (f, .slice none 0 0)
theorem emptied_fst (fs : List FileM) : (emptied fs).map (·.1) = fs := by unfold emptied; rw [List.map_map]; exact List.map_id fs
theorem emptied_len (fs : List FileM) : (emptied fs).length = fs.length := by unfold emptied; simp
theorem keptM_length : ∀ (fs : List FileM) (ks : List Int) (i : Nat), (keptM fs ks i).length = fs.length
  | [], _, _ => rfl
  | f :: r, ks, i => by unfold keptM; simp [keptM_length r ks (i + 1)]
theorem keptM_waits (fs : List FileM) (ks : List Int) (i : Nat) : ∀ f ∈ keptM fs ks i, f.waits = [] := by
  induction fs generalizing i with
  | nil => intro f h; cases h
  | cons x r ih =>
    intro f h
    unfold keptM at h
    rcases List.mem_cons.1 h with rfl | h
    · rfl
    · exact ih (i + 1) f h
theorem kept_cells {fs : List FileM} {ks : List Int} {k : Nat} (h : k < fs.length) : filesCellsM (emptied ((keptM fs ks 0).take (k + 1))) = filesCellsM (emptied ((keptM fs ks 0).take k)) ++ [.string (bs (behindM fs[k].sure.data.toList fs[k].waits (ks.getD k 0))), .slice none 0 0] := by
  have hk : k < (keptM fs ks 0).length := by rw [keptM_length]; exact h
  rw [List.take_succ_eq_append_getElem hk]
  have e : (keptM fs ks 0)[k] = fs[k].kept (ks.getD k 0) := by
    have := keptM_get fs ks 0 k
    rw [List.getElem?_eq_getElem hk, List.getElem?_eq_getElem h, Nat.zero_add] at this
    exact Option.some.inj this
  rw [e]
  unfold filesCellsM emptied
  simp [FileM.kept, bs]
theorem emptied_row {w : World} {v : Value} {fs : List FileM} (hw : ∀ f ∈ fs, f.waits = []) (h : w.ownsRow 0 87 2 v fs.length (filesCellsM (emptied fs))) : FilesRow w v (emptied fs) := by
  refine ⟨by rw [emptied_len]; exact h, fun p hp => ?_⟩
  unfold emptied at hp
  obtain ⟨f, hf, rfl⟩ := List.mem_map.1 hp
  unfold WaitsRow
  rw [hw f hf]
  exact ⟨rfl, .inl ⟨rfl, rfl⟩⟩
theorem dplay_kept {cs : List ChangeA} {l : Dir} {n : Int} {k : Nat} (h1 : k ≤ cs.length) (h2 : (k : Int) ≤ max n 0) (h3 : ¬ (k < cs.length ∧ (k : Int) < n)) : dplay (cs.take k) l = dplay (cs.take (keptN n cs.length)) l := by
  unfold keptN
  have : k = min n.toNat cs.length := by omega
  rw [← this]
theorem rows_ne {w : World} {lo lo' n n' size size' : Nat} {e e' : TypeId} {v v' : Value} {xs xs' : List Value} (h : w.ownsRow lo e size v n xs) (h' : w.ownsRow lo' e' size' v' n' xs') (ht : e ≠ e') : ∀ b, v.ownBlock = some b → v'.ownBlock ≠ some b := by
  intro b hb hb'
  rcases h.2 with ⟨q, _⟩ | ⟨g, cap, c, q, _, hg, _⟩
  · rw [q] at hb; cases hb
  · rw [q] at hb
    rcases h'.2 with ⟨q', _⟩ | ⟨g', cap', c', q', _, hg', _⟩
    · rw [q'] at hb'; cases hb'
    · rw [q'] at hb'
      have e1 : g = b := by injection hb
      have e2 : g' = b := by injection hb'
      subst e1 e2
      rw [hg] at hg'
      injection hg' with hg'
      injection hg' with _ hg' _
      exact ht hg'
theorem row_grown {w w' : World} {lo n size : Nat} {e : TypeId} {v : Value} {xs : List Value} {o : Option Nat} (h : w.ownsRow lo e size v n xs) (hg : w.grownBy w' o) (hne : ∀ b, v.ownBlock = some b → o ≠ some b) : w'.ownsRow lo e size v n xs :=
  row_same h fun b hb => hg.block b (World.ownsRow.lt h b hb).2 (fun e => hne b hb (by first | exact e | exact e.symm))
set_option maxRecDepth 100000 in
set_option maxHeartbeats 8000000 in
theorem refcrash_any {M : RefM} {f s m a : Tri} (hF : Fit' M) (n : Int) (hn : -9223372036854775808 ≤ n ∧ n ≤ 9223372036854775807) (ks : List Int) (ao : Option Addr) (ad : Addr) (cap : Nat) (hao : 0 < ks.length → ao = some ad) (hks : ∀ k ∈ ks, -9223372036854775808 ≤ k ∧ k ≤ 9223372036854775807) (hkl : ks.length ≤ 1000000) (w : World) (h : RefAt w M f s m a)
    (hd : ∀ W, Below w.heap.size w W → ∀ j (h : j < ks.length), W.cell? (ad.add j) = some (.int .i64 ks[j])) :
    Calls Try.prog 36 #[slices f s m a M.room M.units M.left M.armed M.gone, .int .i64 n, .slice ao ks.length cap] w
      fun e w' => ∃ f' s' : Tri, e = .returned (slices f' s' (none, 0, 0) a M.room M.units M.left false false) ∧ RefAt w' (crashM M n ks) f' s' (none, 0, 0) a ∧ Below w.heap.size w w' := by
  have FH := Lib.hid hF
  have HA := Lib.hid h
  have HD := Lib.hid hd
  have HKS := Lib.hid hks
  have HAO := Lib.hid hao
  obtain ⟨f1, f2, f3⟩ := f
  obtain ⟨s1, s2, s3⟩ := s
  obtain ⟨m1, m2, m3⟩ := m
  obtain ⟨a1, a2, a3⟩ := a
  obtain ⟨mo, mcap, em, hmo⟩ := row_shape h.moves
  unfold sliceV at em
  cases em
  obtain ⟨l, hl, hfr⟩ := h.files
  obtain ⟨fo, fcap, ef, hfo⟩ := row_shape hfr.1
  unfold sliceV at ef
  cases ef
  have hml : M.waits.length ≤ 100000 := hF.waits
  have hll : l.length ≤ 100000 := by have := hF.files; rw [← hl] at this; simpa using this
  have HMO := Lib.hid hmo
  have HFO := Lib.hid hfo
  have HL := Lib.hid hl
  have HFR := Lib.hid hfr
  have b0 := ((Below.refl w.heap.size w).alloc (Nat.le_refl _) (.cells (curM M (f1, l.length, f3) (s1, s2, s3) (m1, M.waits.length, m3) (a1, a2, a3)) 37)).alloc (by simp) (.cells rows9 37)
  have b1 := b0.alloc (by simp <;> omega) (.cells #[.int .i64 M.room, .slice none 0 0, .slice s1 s2 s3, .slice none 0 0, .int .i64 M.units, .int .i64 M.left, .bool false, .bool false, .slice a1 a2 a3] 37)
  have cA := ((Cells.new w 37 (curM M (f1, l.length, f3) (s1, s2, s3) (m1, M.waits.length, m3) (a1, a2, a3))).alloc (.cells rows9 37)).alloc (.cells #[.int .i64 M.room, .slice none 0 0, .slice s1 s2 s3, .slice none 0 0, .int .i64 M.units, .int .i64 M.left, .bool false, .bool false, .slice a1 a2 a3] 37)
  have cB := (cells_new2 w (.cells (curM M (f1, l.length, f3) (s1, s2, s3) (m1, M.waits.length, m3) (a1, a2, a3)) 37) 37 rows9).alloc (.cells #[.int .i64 M.room, .slice none 0 0, .slice s1 s2 s3, .slice none 0 0, .int .i64 M.units, .int .i64 M.left, .bool false, .bool false, .slice a1 a2 a3] 37)
  have cC := cells_new2 (w.alloc (.cells (curM M (f1, l.length, f3) (s1, s2, s3) (m1, M.waits.length, m3) (a1, a2, a3)) 37)) (.cells rows9 37) 37 #[.int .i64 M.room, .slice none 0 0, .slice s1 s2 s3, .slice none 0 0, .int .i64 M.units, .int .i64 M.left, .bool false, .bool false, .slice a1 a2 a3]
  rw [World.size_alloc] at cC
  have hs1 := row_below h.sure b1 (Nat.le_refl _)
  obtain ⟨W0, hW0⟩ : ∃ W, ((w.alloc (.cells (curM M (f1, l.length, f3) (s1, s2, s3) (m1, M.waits.length, m3) (a1, a2, a3)) 37)).alloc (.cells rows9 37)).alloc (.cells #[.int .i64 M.room, .slice none 0 0, .slice s1 s2 s3, .slice none 0 0, .int .i64 M.units, .int .i64 M.left, .bool false, .bool false, .slice a1 a2 a3] 37) = W := ⟨_, rfl⟩
  rw [hW0] at b1 cA cB cC hs1
  unfold curM rows9 at hW0
  dsimp only at hW0
  have CA := Lib.hid cA
  have CB := Lib.hid cB
  have CC := Lib.hid cC
  have B1 := Lib.hid b1
  have S1 := Lib.hid hs1
  unfold slices refA
  dsimp only
  clear h hF hd hks hao hmo hfo hl hfr b0 b1 cA cB cC hs1
  go_enter Try.func36, Try.ntmps36
  go_wp2_with fail
  clear hW0
  go_loopw [8] (fun i wr => ∃ (k : Nat) (q : Tri), k ≤ M.waits.length ∧ (k : Int) ≤ max n 0 ∧ i = .int .i64 k ∧ Cells wr w.heap.size 37 (curM M (f1, l.length, f3) (s1, s2, s3) (m1, M.waits.length, m3) (a1, a2, a3)) ∧ Cells wr (w.heap.size + 1) 37 rows9 ∧ Cells wr (w.heap.size + 1 + 1) 37 #[.int .i64 M.room, .slice none 0 0, .slice q.1 q.2.1 q.2.2, .slice none 0 0, .int .i64 M.units, .int .i64 M.left, .bool false, .bool false, .slice a1 a2 a3] ∧ EntryRow wr (.slice q.1 q.2.1 q.2.2) (dplay (M.waits.take k) M.sure) ∧ Below w.heap.size w wr) (fun i _ => M.waits.length - (intOf i).toNat)
  case atStart => exact ⟨0, (s1, s2, s3), Nat.zero_le _, by omega, rfl, CA.out, CB.out, CC.out, S1.out, B1.out⟩
  case round =>
    obtain ⟨k, ⟨q1, q2, q3⟩, hk, hkn, rfl, cA, cB, cC, hrow, hb⟩ := hrel
    rename_i wr
    dsimp only at cC hrow
    unfold curM at cA
    dsimp only at cA
    have z3 := cA.cell 3
    have zl := cA.lt
    simp at z3
    by_cases hlt : k < M.waits.length
    · by_cases hkn2 : (k : Int) < n
      · obtain ⟨g, rfl, hg⟩ := HMO.out (by omega)
        obtain ⟨p0, p1, p2⟩ := moves_at M.waits k hlt
        have hmr := row_below HA.out.moves hb (Nat.le_refl _)
        have r0 := row_at hmr p0
        have r1 := row_at hmr p1
        have r2 := row_at hmr p2
        have hg2 : g < wr.heap.size := Nat.lt_of_lt_of_le hg hb.size
        have hx := FH.out.fit.moves _ (List.getElem_mem hlt)
        have htk : M.waits.take (k + 1) = M.waits.take k ++ [M.waits[k]] := List.take_succ_eq_append_getElem hlt
        have hdp : dplay (M.waits.take (k + 1)) M.sure = capply M.waits[k].off.data.toList M.waits[k].on.data.toList M.waits[k].file (dplay (M.waits.take k) M.sure) := by rw [htk, dplay_snoc]
        have hlen := dplay_length (M.waits.take k) M.sure
        have hsm := dplay_small (M.waits.take k) (fun c hc => FH.out.fit.moves c (List.mem_of_mem_take hc)) FH.out.fit.names
        have hri := dplay_rising (M.waits.take k) FH.out.fit.rising
        have hdirs := FH.out.fit.dirs
        rw [List.length_take] at hlen
        have C : ∀ W, Below wr.heap.size wr W → Calls Try.prog 64 #[.slice q1 q2 q3, .agg #[.string M.waits[k].on, .string M.waits[k].off, .int .i64 M.waits[k].file]] W fun e w' => ∃ v', e = .returned v' ∧ EntryRow w' v' (dplay (M.waits.take (k + 1)) M.sure) ∧ Below W.heap.size W w' := fun W hB => by
          have := refmove_any M.waits[k].on.data.toList M.waits[k].off.data.toList M.waits[k].file (dplay (M.waits.take k) M.sure) (.slice q1 q2 q3) W (row_below hrow hB (Nat.le_refl _)) (by omega) (by rw [← Lib.size_eq]; exact hx.2.1) (by rw [← Lib.size_eq]; exact hx.1) hx.2.2 (fun x hx => (hsm x hx).1) (fun x hx => (hsm x hx).2)
          rw [move_capply hri, ← hdp, bs_of, bs_of] at this
          exact this
        have C := Lib.hid C
        have KA := Lib.hid cA
        have KB := Lib.hid cB
        have KC := Lib.hid cC
        have KR := Lib.hid hrow
        have HB := Lib.hid hb
        have e2 := cC.cell 2
        have el := cC.lt
        simp at e2
        generalize hcv : M.waits[k] = c at *
        clear hdp htk hrow hsm hri hlen hdirs p0 p1 p2 cA cB cC hb hcv hx hmr
        go_wp2_with fail
        go_region_law ((go_simp; go_at_call 64; refine (C.out _ ?_).mono ?_; (focus (repeat (first | exact Below.refl _ _ | assumption | (refine Below.drew ?_)))); rintro e w5 ⟨v', rfl, hrow5, hb5⟩; obtain ⟨p1, p3, rfl, _⟩ := row_shape hrow5; have hb6 := (Below.refl wr.heap.size wr).drew.trans hb5; have cc5 := KC.out.below hb6 KC.out.lt; have d2 := cc5.cell 2; have df := cc5.frozen 2; have dl := cc5.lt; have HX := Lib.hid (And.intro hrow5 (And.intro hb6 cc5)); clear hrow5 hb5 hb6 cc5))
        all_goals go_wp2_with fail
        all_goals
          obtain ⟨hrow5, hb6, cc5⟩ := HX.out
          have CF := cc5.set 2 (.slice p1 (dplay (M.waits.take (k + 1)) M.sure).length p3)
          simp only [List.setIfInBounds_toArray, List.set_cons_zero, List.set_cons_succ] at CF
          refine ⟨⟨k + 1, (p1, _, p3), hlt, by omega, by go_num, (KA.out.below hb6 KA.out.lt).other (p := ⟨w.heap.size + 1 + 1, 2, none⟩) (by dsimp only; omega) _, (KB.out.below hb6 KB.out.lt).other (p := ⟨w.heap.size + 1 + 1, 2, none⟩) (by dsimp only; omega) _, CF, row_cell hrow5 (p := ⟨w.heap.size + 1 + 1, 2, none⟩) (box_ne hrow5 cc5 (by decide)) _, (HB.out.trans (hb6.mono HB.out.size)).setCell (p := ⟨w.heap.size + 1 + 1, 2, none⟩) (by dsimp only; omega) _⟩, by simp [intOf]; omega⟩
      · rw [dplay_kept hk hkn (fun h => hkn2 h.2)] at hrow
        have KA := Lib.hid cA
        have KB := Lib.hid cB
        have KC := Lib.hid cC
        have KR := Lib.hid hrow
        have HB := Lib.hid hb
        clear cA cB cC hrow hb
        go_wp2_with fail
        go_loopw [9, 10] (fun i nn wr => ∃ (k2 : Nat) (r1 : Option Addr) (r3 : Nat), k2 ≤ l.length ∧ i = .int .i64 k2 ∧ Cells wr w.heap.size 37 (curM M (f1, l.length, f3) (s1, s2, s3) (m1, M.waits.length, m3) (a1, a2, a3)) ∧ Cells wr (w.heap.size + 1) 37 rows9 ∧ Cells wr (w.heap.size + 1 + 1) 37 #[.int .i64 M.room, .slice r1 k2 r3, .slice q1 q2 q3, .slice none 0 0, .int .i64 M.units, .int .i64 M.left, .bool false, .bool false, .slice a1 a2 a3] ∧ wr.ownsRow w.heap.size 87 2 (.slice r1 k2 r3) k2 (filesCellsM (emptied ((keptM M.files ks 0).take k2))) ∧ EntryRow wr (.slice q1 q2 q3) (dplay (M.waits.take (keptN n M.waits.length)) M.sure) ∧ Below w.heap.size w wr) (fun i _ _ => l.length - (intOf i).toNat)
        case atStart => exact ⟨0, none, 0, Nat.zero_le _, rfl, KA.out, KB.out, KC.out, ⟨rfl, .inl ⟨rfl, rfl⟩⟩, KR.out, HB.out⟩
        case round =>
          obtain ⟨k2, r1, r3, hk2, rfl, cA, cB, cC, own, hrow, hb⟩ := hrel
          rename_i wr
          unfold curM at cA
          dsimp only at cA
          have z1 := cA.cell 1
          have zl := cA.lt
          simp at z1
          by_cases hlt2 : k2 < l.length
          · obtain ⟨gf, rfl, hgf⟩ := HFO.out (by omega)
            have hfw := HFR.out.below hb (Nat.le_refl _)
            obtain ⟨p0, p1⟩ := filesM_at l k2 hlt2
            have r0 := row_at hfw.1 p0
            have rr1 := row_at hfw.1 p1
            have hgl : gf < wr.heap.size := Nat.lt_of_lt_of_le hgf hb.size
            have hwf := hfw.2 _ (List.getElem_mem hlt2)
            have hsm := FH.out.fit.files l[k2].1 (by rw [← HL.out]; exact List.mem_map.2 ⟨_, List.getElem_mem hlt2, rfl⟩)
            have hkf : k2 < M.files.length := by rw [← HL.out]; simpa using hlt2
            have hkc := kept_cells (ks := ks) hkf
            have efk : M.files[k2] = l[k2].1 := by
              have : M.files[k2]? = some l[k2].1 := by rw [← HL.out, List.getElem?_map, List.getElem?_eq_getElem hlt2]; rfl
              rw [List.getElem?_eq_getElem hkf] at this
              exact Option.some.inj this
            rw [efk] at hkc
            obtain ⟨wo, wcap, ew, _⟩ := row_shape hwf
            generalize l[k2] = p at *
            obtain ⟨pf, pv⟩ := p
            dsimp only at ew hwf r0 rr1 hsm hkc
            subst ew
            obtain ⟨i0, hi0, hz0, hz1, hz2⟩ := info_parts infoRefFile
            have n1 := World.new_ne wr _ (cC.cell 1)
            have e1 := cC.cell 1
            have el := cC.lt
            simp at e1
            have KA := Lib.hid cA
            have KB := Lib.hid cB
            have KC := Lib.hid cC
            have KR := Lib.hid hrow
            have KO := Lib.hid own
            have HB := Lib.hid hb
            have HKC := Lib.hid hkc
            by_cases hkd : k2 < ks.length
            · have hu : ks.getD k2 0 = ks[k2] := by simp [List.getD, hkd]
              have hur := HKS.out ks[k2] (List.getElem_mem hkd)
              rw [hu] at hkc
              have HKC := Lib.hid hkc
              have BE := Lib.hid (fun (W : World) (hB : Below wr.heap.size wr W) => refbehind_any pf.sure pf.waits (.slice wo pf.waits.length wcap) ks[k2] W (row_below hwf hB (Nat.le_refl _)) hsm.many hsm.sure hur hsm.cuts)
              obtain rfl := HAO.out (by omega)
              have hdk := HD.out wr hb k2 hkd
              have hkdi : (k2 : Int) < (ks.length : Int) := by omega
              generalize ks[k2] = u at *
              clear hfw p0 p1 hwf hsm hkf hkc efk cA cB cC hrow own hb hu hur
              go_wp2_with fail
              go_region_law (first
                | (go_simp; go_at_call 65; refine (BE.out _ ?_).mono ?_; (focus (repeat (first | exact Below.refl _ _ | assumption | (refine Below.drew ?_)))); rintro e w5 ⟨rfl, hb5⟩; have hb6 := (Below.refl wr.heap.size wr).drew.trans hb5; have cc5 := KC.out.below hb6 KC.out.lt; have e15 := cc5.cell 1; simp at e15; have n15 := World.new_ne w5 _ e15; have own5 := row_below KO.out hb6 (Nat.le_refl _); have el5 := cc5.lt; have H5 := Lib.hid (And.intro own5 (And.intro hb6 cc5)); clear hb5 hb6 cc5 own5)
                | (refine step_append_own rfl (.tmp 59) (.tmp 68) 32 rfl 87 i0 _ 2 40 Try.underlying32 hi0 hz0 hz1 hz2 rfl (by decide) (.slice r1 k2 r3) k2 _ rfl (by exact (row0 H5.out.1).alloc _) ⟨w5.heap.size, 0, none⟩ 1 1 [.string (bs (behindM pf.sure.data.toList pf.waits u)), .slice none 0 0] rfl rfl (by exact cells_new_add w5 _ _) (by intro u hu; simp at hu; rcases hu with rfl | rfl <;> rfl) (by unfold maxLen; omega) (by omega) ?_; intro v' w' ho hgr hbk; obtain ⟨g', cap', rfl⟩ := slice_of_own ho; have E5 := Cells.grown (H5.out.2.2.alloc (.cells #[.string (bs (behindM pf.sure.data.toList pf.waits u)), .slice none 0 0] 87)) hgr (fun e => box_ne H5.out.1 H5.out.2.2 (by decide) e.symm); have d1 := E5.cell 1; have df := E5.frozen 1; have dl := E5.lt; have HX := Lib.hid (And.intro ho (And.intro hgr (And.intro hbk E5))); clear ho hgr hbk E5))
              all_goals (try go_wp2_with fail)
              all_goals
                obtain ⟨ho, hgr, hbk, E5⟩ := HX.out
                obtain ⟨own5, hb6, cc5⟩ := H5.out
                have hbA : Below wr.heap.size wr (w5.alloc (.cells #[.string (bs (behindM pf.sure.data.toList pf.waits u)), .slice none 0 0] 87)) := hb6.alloc hb6.size _
                have hr : ∀ j, (Value.slice r1 k2 r3).ownBlock = some j → w.heap.size ≤ j := fun j ej => (World.ownsRow.lt KO.out j ej).1
                have hbW := HB.out.trans (hbA.mono HB.out.size)
                have hsW := HB.out.size
                have hsA := hbA.size
                have BN := hbW.grown hgr (by omega) hr
                have G0 := Cells.grown (KA.out.below hbA KA.out.lt) hgr (fun e => box_ne KO.out KA.out (by decide) e.symm)
                have G1 := Cells.grown (KB.out.below hbA KB.out.lt) hgr (fun e => box_ne KO.out KB.out (by decide) e.symm)
                have GR := row_grown (row_below KR.out hbA (Nat.le_refl _)) hgr (rows_ne KR.out KO.out (by decide))
                have hgl2 : w.heap.size ≤ g' := by
                  rcases hbk with q | q
                  · exact hr g' q.symm
                  · have h1 := Option.some.inj q
                    have h2 := hb6.size
                    first | omega | (simp at h1; omega)
                have GO := own_rebase (base := w.heap.size) ho hgl2
                rw [← HKC.out] at GO
                have CF := E5.set 1 (.slice (some ⟨g', 0, none⟩) (k2 + 1) cap')
                simp only [List.setIfInBounds_toArray, List.set_cons_zero, List.set_cons_succ] at CF
                refine ⟨⟨k2 + 1, some ⟨g', 0, none⟩, cap', hlt2, by go_num, G0.other (p := ⟨w.heap.size + 1 + 1, 1, none⟩) (by dsimp only; omega) _, G1.other (p := ⟨w.heap.size + 1 + 1, 1, none⟩) (by dsimp only; omega) _, CF, row_cell GO (p := ⟨w.heap.size + 1 + 1, 1, none⟩) (box_ne GO E5 (by decide)) _, row_cell GR (p := ⟨w.heap.size + 1 + 1, 1, none⟩) (box_ne GR E5 (by decide)) _, BN.setCell (p := ⟨w.heap.size + 1 + 1, 1, none⟩) (by dsimp only; omega) _⟩, by simp [intOf]; omega⟩
            · have hu : ks.getD k2 0 = 0 := by simp [List.getD, hkd]
              rw [hu] at hkc
              have HKC := Lib.hid hkc
              have BE := Lib.hid (fun (W : World) (hB : Below wr.heap.size wr W) => refbehind_any pf.sure pf.waits (.slice wo pf.waits.length wcap) 0 W (row_below hwf hB (Nat.le_refl _)) hsm.many hsm.sure (by omega) hsm.cuts)
              have hkdi : ¬ (k2 : Int) < (ks.length : Int) := by omega
              obtain ⟨u, hU⟩ : ∃ u : Int, u = 0 := ⟨0, rfl⟩
              clear hfw p0 p1 hwf hsm hkf hkc efk cA cB cC hrow own hb hu
              go_wp2_with fail
              go_region_law (first
                | (go_simp; go_at_call 65; refine (BE.out _ ?_).mono ?_; (focus (repeat (first | exact Below.refl _ _ | assumption | (refine Below.drew ?_)))); rintro e w5 ⟨rfl, hb5⟩; have hb6 := (Below.refl wr.heap.size wr).drew.trans hb5; have cc5 := KC.out.below hb6 KC.out.lt; have e15 := cc5.cell 1; simp at e15; have n15 := World.new_ne w5 _ e15; have own5 := row_below KO.out hb6 (Nat.le_refl _); have el5 := cc5.lt; have H5 := Lib.hid (And.intro own5 (And.intro hb6 cc5)); clear hb5 hb6 cc5 own5)
                | (refine step_append_own rfl (.tmp 59) (.tmp 68) 32 rfl 87 i0 _ 2 40 Try.underlying32 hi0 hz0 hz1 hz2 rfl (by decide) (.slice r1 k2 r3) k2 _ rfl (by exact (row0 H5.out.1).alloc _) ⟨w5.heap.size, 0, none⟩ 1 1 [.string (bs (behindM pf.sure.data.toList pf.waits 0)), .slice none 0 0] rfl rfl (by exact cells_new_add w5 _ _) (by intro u hu; simp at hu; rcases hu with rfl | rfl <;> rfl) (by unfold maxLen; omega) (by omega) ?_; intro v' w' ho hgr hbk; obtain ⟨g', cap', rfl⟩ := slice_of_own ho; have E5 := Cells.grown (H5.out.2.2.alloc (.cells #[.string (bs (behindM pf.sure.data.toList pf.waits 0)), .slice none 0 0] 87)) hgr (fun e => box_ne H5.out.1 H5.out.2.2 (by decide) e.symm); have d1 := E5.cell 1; have df := E5.frozen 1; have dl := E5.lt; have HX := Lib.hid (And.intro ho (And.intro hgr (And.intro hbk E5))); clear ho hgr hbk E5))
              all_goals (try go_wp2_with fail)
              all_goals
                obtain ⟨ho, hgr, hbk, E5⟩ := HX.out
                obtain ⟨own5, hb6, cc5⟩ := H5.out
                have hbA : Below wr.heap.size wr (w5.alloc (.cells #[.string (bs (behindM pf.sure.data.toList pf.waits 0)), .slice none 0 0] 87)) := hb6.alloc hb6.size _
                have hr : ∀ j, (Value.slice r1 k2 r3).ownBlock = some j → w.heap.size ≤ j := fun j ej => (World.ownsRow.lt KO.out j ej).1
                have hbW := HB.out.trans (hbA.mono HB.out.size)
                have hsW := HB.out.size
                have hsA := hbA.size
                have BN := hbW.grown hgr (by omega) hr
                have G0 := Cells.grown (KA.out.below hbA KA.out.lt) hgr (fun e => box_ne KO.out KA.out (by decide) e.symm)
                have G1 := Cells.grown (KB.out.below hbA KB.out.lt) hgr (fun e => box_ne KO.out KB.out (by decide) e.symm)
                have GR := row_grown (row_below KR.out hbA (Nat.le_refl _)) hgr (rows_ne KR.out KO.out (by decide))
                have hgl2 : w.heap.size ≤ g' := by
                  rcases hbk with q | q
                  · exact hr g' q.symm
                  · have h1 := Option.some.inj q
                    have h2 := hb6.size
                    first | omega | (simp at h1; omega)
                have GO := own_rebase (base := w.heap.size) ho hgl2
                rw [← HKC.out] at GO
                have CF := E5.set 1 (.slice (some ⟨g', 0, none⟩) (k2 + 1) cap')
                simp only [List.setIfInBounds_toArray, List.set_cons_zero, List.set_cons_succ] at CF
                refine ⟨⟨k2 + 1, some ⟨g', 0, none⟩, cap', hlt2, by go_num, G0.other (p := ⟨w.heap.size + 1 + 1, 1, none⟩) (by dsimp only; omega) _, G1.other (p := ⟨w.heap.size + 1 + 1, 1, none⟩) (by dsimp only; omega) _, CF, row_cell GO (p := ⟨w.heap.size + 1 + 1, 1, none⟩) (box_ne GO E5 (by decide)) _, row_cell GR (p := ⟨w.heap.size + 1 + 1, 1, none⟩) (box_ne GR E5 (by decide)) _, BN.setCell (p := ⟨w.heap.size + 1 + 1, 1, none⟩) (by dsimp only; omega) _⟩, by simp [intOf]; omega⟩
          · obtain rfl : k2 = l.length := by omega
            have hlf : (keptM M.files ks 0).length = l.length := by rw [keptM_length, ← HL.out]; simp
            rw [List.take_of_length_le (by rw [hlf]; exact Nat.le_refl _)] at own
            have FR : FilesRow wr (.slice r1 l.length r3) (emptied (keptM M.files ks 0)) := emptied_row (keptM_waits _ _ _) (by rw [hlf]; exact row0 own)
            have RA : RefAt wr (crashM M n ks) (r1, l.length, r3) (q1, q2, q3) (none, 0, 0) (a1, a2, a3) :=
              ⟨⟨_, emptied_fst _, FR⟩, hrow, ⟨rfl, .inl ⟨rfl, rfl⟩⟩, row_below HA.out.acts hb (Nat.le_refl _)⟩
            obtain ⟨t0, t1, t2, t3, t4, t5, t6, t7, t8⟩ := cells9 cC
            have tl := cC.lt
            obtain ⟨x0, x1, x2, x3, x4, x5, x6, x7, x8, xl, y0, y1, y2, y3, y4, y5, y6, y7, y8⟩ := Box9.of cB
            have KB := Lib.hid cB
            have HB := Lib.hid hb
            have RA := Lib.hid RA
            clear cA cB cC own hrow hb FR hlf
            go_wp2
            refine bodyPost_ret (ret_box1 rfl _ _ (w.heap.size + 1) _ rfl (setBox_to KB.out _ _ _ _ _ _ _ _ _) rfl) rfl ?_
            exact ⟨(r1, l.length, r3), (q1, q2, q3), rfl, RA.out.box KB.out _ _ _ _ _ _ _ _ _, setBox_below HB.out (by omega) _ _ _ _ _ _ _ _ _⟩
    · rw [dplay_kept hk hkn (fun h => hlt h.1)] at hrow
      have KA := Lib.hid cA
      have KB := Lib.hid cB
      have KC := Lib.hid cC
      have KR := Lib.hid hrow
      have HB := Lib.hid hb
      clear cA cB cC hrow hb
      go_wp2_with fail
      go_loopw [9, 10] (fun i nn wr => ∃ (k2 : Nat) (r1 : Option Addr) (r3 : Nat), k2 ≤ l.length ∧ i = .int .i64 k2 ∧ Cells wr w.heap.size 37 (curM M (f1, l.length, f3) (s1, s2, s3) (m1, M.waits.length, m3) (a1, a2, a3)) ∧ Cells wr (w.heap.size + 1) 37 rows9 ∧ Cells wr (w.heap.size + 1 + 1) 37 #[.int .i64 M.room, .slice r1 k2 r3, .slice q1 q2 q3, .slice none 0 0, .int .i64 M.units, .int .i64 M.left, .bool false, .bool false, .slice a1 a2 a3] ∧ wr.ownsRow w.heap.size 87 2 (.slice r1 k2 r3) k2 (filesCellsM (emptied ((keptM M.files ks 0).take k2))) ∧ EntryRow wr (.slice q1 q2 q3) (dplay (M.waits.take (keptN n M.waits.length)) M.sure) ∧ Below w.heap.size w wr) (fun i _ _ => l.length - (intOf i).toNat)
      case atStart => exact ⟨0, none, 0, Nat.zero_le _, rfl, KA.out, KB.out, KC.out, ⟨rfl, .inl ⟨rfl, rfl⟩⟩, KR.out, HB.out⟩
      case round =>
        obtain ⟨k2, r1, r3, hk2, rfl, cA, cB, cC, own, hrow, hb⟩ := hrel
        rename_i wr
        unfold curM at cA
        dsimp only at cA
        have z1 := cA.cell 1
        have zl := cA.lt
        simp at z1
        by_cases hlt2 : k2 < l.length
        · obtain ⟨gf, rfl, hgf⟩ := HFO.out (by omega)
          have hfw := HFR.out.below hb (Nat.le_refl _)
          obtain ⟨p0, p1⟩ := filesM_at l k2 hlt2
          have r0 := row_at hfw.1 p0
          have rr1 := row_at hfw.1 p1
          have hgl : gf < wr.heap.size := Nat.lt_of_lt_of_le hgf hb.size
          have hwf := hfw.2 _ (List.getElem_mem hlt2)
          have hsm := FH.out.fit.files l[k2].1 (by rw [← HL.out]; exact List.mem_map.2 ⟨_, List.getElem_mem hlt2, rfl⟩)
          have hkf : k2 < M.files.length := by rw [← HL.out]; simpa using hlt2
          have hkc := kept_cells (ks := ks) hkf
          have efk : M.files[k2] = l[k2].1 := by
            have : M.files[k2]? = some l[k2].1 := by rw [← HL.out, List.getElem?_map, List.getElem?_eq_getElem hlt2]; rfl
            rw [List.getElem?_eq_getElem hkf] at this
            exact Option.some.inj this
          rw [efk] at hkc
          obtain ⟨wo, wcap, ew, _⟩ := row_shape hwf
          generalize l[k2] = p at *
          obtain ⟨pf, pv⟩ := p
          dsimp only at ew hwf r0 rr1 hsm hkc
          subst ew
          obtain ⟨i0, hi0, hz0, hz1, hz2⟩ := info_parts infoRefFile
          have n1 := World.new_ne wr _ (cC.cell 1)
          have e1 := cC.cell 1
          have el := cC.lt
          simp at e1
          have KA := Lib.hid cA
          have KB := Lib.hid cB
          have KC := Lib.hid cC
          have KR := Lib.hid hrow
          have KO := Lib.hid own
          have HB := Lib.hid hb
          have HKC := Lib.hid hkc
          by_cases hkd : k2 < ks.length
          · have hu : ks.getD k2 0 = ks[k2] := by simp [List.getD, hkd]
            have hur := HKS.out ks[k2] (List.getElem_mem hkd)
            rw [hu] at hkc
            have HKC := Lib.hid hkc
            have BE := Lib.hid (fun (W : World) (hB : Below wr.heap.size wr W) => refbehind_any pf.sure pf.waits (.slice wo pf.waits.length wcap) ks[k2] W (row_below hwf hB (Nat.le_refl _)) hsm.many hsm.sure hur hsm.cuts)
            obtain rfl := HAO.out (by omega)
            have hdk := HD.out wr hb k2 hkd
            have hkdi : (k2 : Int) < (ks.length : Int) := by omega
            generalize ks[k2] = u at *
            clear hfw p0 p1 hwf hsm hkf hkc efk cA cB cC hrow own hb hu hur
            go_wp2_with fail
            go_region_law (first
              | (go_simp; go_at_call 65; refine (BE.out _ ?_).mono ?_; (focus (repeat (first | exact Below.refl _ _ | assumption | (refine Below.drew ?_)))); rintro e w5 ⟨rfl, hb5⟩; have hb6 := (Below.refl wr.heap.size wr).drew.trans hb5; have cc5 := KC.out.below hb6 KC.out.lt; have e15 := cc5.cell 1; simp at e15; have n15 := World.new_ne w5 _ e15; have own5 := row_below KO.out hb6 (Nat.le_refl _); have el5 := cc5.lt; have H5 := Lib.hid (And.intro own5 (And.intro hb6 cc5)); clear hb5 hb6 cc5 own5)
              | (refine step_append_own rfl (.tmp 59) (.tmp 68) 32 rfl 87 i0 _ 2 40 Try.underlying32 hi0 hz0 hz1 hz2 rfl (by decide) (.slice r1 k2 r3) k2 _ rfl (by exact (row0 H5.out.1).alloc _) ⟨w5.heap.size, 0, none⟩ 1 1 [.string (bs (behindM pf.sure.data.toList pf.waits u)), .slice none 0 0] rfl rfl (by exact cells_new_add w5 _ _) (by intro u hu; simp at hu; rcases hu with rfl | rfl <;> rfl) (by unfold maxLen; omega) (by omega) ?_; intro v' w' ho hgr hbk; obtain ⟨g', cap', rfl⟩ := slice_of_own ho; have E5 := Cells.grown (H5.out.2.2.alloc (.cells #[.string (bs (behindM pf.sure.data.toList pf.waits u)), .slice none 0 0] 87)) hgr (fun e => box_ne H5.out.1 H5.out.2.2 (by decide) e.symm); have d1 := E5.cell 1; have df := E5.frozen 1; have dl := E5.lt; have HX := Lib.hid (And.intro ho (And.intro hgr (And.intro hbk E5))); clear ho hgr hbk E5))
            all_goals (try go_wp2_with fail)
            all_goals
              obtain ⟨ho, hgr, hbk, E5⟩ := HX.out
              obtain ⟨own5, hb6, cc5⟩ := H5.out
              have hbA : Below wr.heap.size wr (w5.alloc (.cells #[.string (bs (behindM pf.sure.data.toList pf.waits u)), .slice none 0 0] 87)) := hb6.alloc hb6.size _
              have hr : ∀ j, (Value.slice r1 k2 r3).ownBlock = some j → w.heap.size ≤ j := fun j ej => (World.ownsRow.lt KO.out j ej).1
              have hbW := HB.out.trans (hbA.mono HB.out.size)
              have hsW := HB.out.size
              have hsA := hbA.size
              have BN := hbW.grown hgr (by omega) hr
              have G0 := Cells.grown (KA.out.below hbA KA.out.lt) hgr (fun e => box_ne KO.out KA.out (by decide) e.symm)
              have G1 := Cells.grown (KB.out.below hbA KB.out.lt) hgr (fun e => box_ne KO.out KB.out (by decide) e.symm)
              have GR := row_grown (row_below KR.out hbA (Nat.le_refl _)) hgr (rows_ne KR.out KO.out (by decide))
              have hgl2 : w.heap.size ≤ g' := by
                rcases hbk with q | q
                · exact hr g' q.symm
                · have h1 := Option.some.inj q
                  have h2 := hb6.size
                  first | omega | (simp at h1; omega)
              have GO := own_rebase (base := w.heap.size) ho hgl2
              rw [← HKC.out] at GO
              have CF := E5.set 1 (.slice (some ⟨g', 0, none⟩) (k2 + 1) cap')
              simp only [List.setIfInBounds_toArray, List.set_cons_zero, List.set_cons_succ] at CF
              refine ⟨⟨k2 + 1, some ⟨g', 0, none⟩, cap', hlt2, by go_num, G0.other (p := ⟨w.heap.size + 1 + 1, 1, none⟩) (by dsimp only; omega) _, G1.other (p := ⟨w.heap.size + 1 + 1, 1, none⟩) (by dsimp only; omega) _, CF, row_cell GO (p := ⟨w.heap.size + 1 + 1, 1, none⟩) (box_ne GO E5 (by decide)) _, row_cell GR (p := ⟨w.heap.size + 1 + 1, 1, none⟩) (box_ne GR E5 (by decide)) _, BN.setCell (p := ⟨w.heap.size + 1 + 1, 1, none⟩) (by dsimp only; omega) _⟩, by simp [intOf]; omega⟩
          · have hu : ks.getD k2 0 = 0 := by simp [List.getD, hkd]
            rw [hu] at hkc
            have HKC := Lib.hid hkc
            have BE := Lib.hid (fun (W : World) (hB : Below wr.heap.size wr W) => refbehind_any pf.sure pf.waits (.slice wo pf.waits.length wcap) 0 W (row_below hwf hB (Nat.le_refl _)) hsm.many hsm.sure (by omega) hsm.cuts)
            have hkdi : ¬ (k2 : Int) < (ks.length : Int) := by omega
            obtain ⟨u, hU⟩ : ∃ u : Int, u = 0 := ⟨0, rfl⟩
            clear hfw p0 p1 hwf hsm hkf hkc efk cA cB cC hrow own hb hu
            go_wp2_with fail
            go_region_law (first
              | (go_simp; go_at_call 65; refine (BE.out _ ?_).mono ?_; (focus (repeat (first | exact Below.refl _ _ | assumption | (refine Below.drew ?_)))); rintro e w5 ⟨rfl, hb5⟩; have hb6 := (Below.refl wr.heap.size wr).drew.trans hb5; have cc5 := KC.out.below hb6 KC.out.lt; have e15 := cc5.cell 1; simp at e15; have n15 := World.new_ne w5 _ e15; have own5 := row_below KO.out hb6 (Nat.le_refl _); have el5 := cc5.lt; have H5 := Lib.hid (And.intro own5 (And.intro hb6 cc5)); clear hb5 hb6 cc5 own5)
              | (refine step_append_own rfl (.tmp 59) (.tmp 68) 32 rfl 87 i0 _ 2 40 Try.underlying32 hi0 hz0 hz1 hz2 rfl (by decide) (.slice r1 k2 r3) k2 _ rfl (by exact (row0 H5.out.1).alloc _) ⟨w5.heap.size, 0, none⟩ 1 1 [.string (bs (behindM pf.sure.data.toList pf.waits 0)), .slice none 0 0] rfl rfl (by exact cells_new_add w5 _ _) (by intro u hu; simp at hu; rcases hu with rfl | rfl <;> rfl) (by unfold maxLen; omega) (by omega) ?_; intro v' w' ho hgr hbk; obtain ⟨g', cap', rfl⟩ := slice_of_own ho; have E5 := Cells.grown (H5.out.2.2.alloc (.cells #[.string (bs (behindM pf.sure.data.toList pf.waits 0)), .slice none 0 0] 87)) hgr (fun e => box_ne H5.out.1 H5.out.2.2 (by decide) e.symm); have d1 := E5.cell 1; have df := E5.frozen 1; have dl := E5.lt; have HX := Lib.hid (And.intro ho (And.intro hgr (And.intro hbk E5))); clear ho hgr hbk E5))
            all_goals (try go_wp2_with fail)
            all_goals
              obtain ⟨ho, hgr, hbk, E5⟩ := HX.out
              obtain ⟨own5, hb6, cc5⟩ := H5.out
              have hbA : Below wr.heap.size wr (w5.alloc (.cells #[.string (bs (behindM pf.sure.data.toList pf.waits 0)), .slice none 0 0] 87)) := hb6.alloc hb6.size _
              have hr : ∀ j, (Value.slice r1 k2 r3).ownBlock = some j → w.heap.size ≤ j := fun j ej => (World.ownsRow.lt KO.out j ej).1
              have hbW := HB.out.trans (hbA.mono HB.out.size)
              have hsW := HB.out.size
              have hsA := hbA.size
              have BN := hbW.grown hgr (by omega) hr
              have G0 := Cells.grown (KA.out.below hbA KA.out.lt) hgr (fun e => box_ne KO.out KA.out (by decide) e.symm)
              have G1 := Cells.grown (KB.out.below hbA KB.out.lt) hgr (fun e => box_ne KO.out KB.out (by decide) e.symm)
              have GR := row_grown (row_below KR.out hbA (Nat.le_refl _)) hgr (rows_ne KR.out KO.out (by decide))
              have hgl2 : w.heap.size ≤ g' := by
                rcases hbk with q | q
                · exact hr g' q.symm
                · have h1 := Option.some.inj q
                  have h2 := hb6.size
                  first | omega | (simp at h1; omega)
              have GO := own_rebase (base := w.heap.size) ho hgl2
              rw [← HKC.out] at GO
              have CF := E5.set 1 (.slice (some ⟨g', 0, none⟩) (k2 + 1) cap')
              simp only [List.setIfInBounds_toArray, List.set_cons_zero, List.set_cons_succ] at CF
              refine ⟨⟨k2 + 1, some ⟨g', 0, none⟩, cap', hlt2, by go_num, G0.other (p := ⟨w.heap.size + 1 + 1, 1, none⟩) (by dsimp only; omega) _, G1.other (p := ⟨w.heap.size + 1 + 1, 1, none⟩) (by dsimp only; omega) _, CF, row_cell GO (p := ⟨w.heap.size + 1 + 1, 1, none⟩) (box_ne GO E5 (by decide)) _, row_cell GR (p := ⟨w.heap.size + 1 + 1, 1, none⟩) (box_ne GR E5 (by decide)) _, BN.setCell (p := ⟨w.heap.size + 1 + 1, 1, none⟩) (by dsimp only; omega) _⟩, by simp [intOf]; omega⟩
        · obtain rfl : k2 = l.length := by omega
          have hlf : (keptM M.files ks 0).length = l.length := by rw [keptM_length, ← HL.out]; simp
          rw [List.take_of_length_le (by rw [hlf]; exact Nat.le_refl _)] at own
          have FR : FilesRow wr (.slice r1 l.length r3) (emptied (keptM M.files ks 0)) := emptied_row (keptM_waits _ _ _) (by rw [hlf]; exact row0 own)
          have RA : RefAt wr (crashM M n ks) (r1, l.length, r3) (q1, q2, q3) (none, 0, 0) (a1, a2, a3) :=
            ⟨⟨_, emptied_fst _, FR⟩, hrow, ⟨rfl, .inl ⟨rfl, rfl⟩⟩, row_below HA.out.acts hb (Nat.le_refl _)⟩
          obtain ⟨t0, t1, t2, t3, t4, t5, t6, t7, t8⟩ := cells9 cC
          have tl := cC.lt
          obtain ⟨x0, x1, x2, x3, x4, x5, x6, x7, x8, xl, y0, y1, y2, y3, y4, y5, y6, y7, y8⟩ := Box9.of cB
          have KB := Lib.hid cB
          have HB := Lib.hid hb
          have RA := Lib.hid RA
          clear cA cB cC own hrow hb FR hlf
          go_wp2
          refine bodyPost_ret (ret_box1 rfl _ _ (w.heap.size + 1) _ rfl (setBox_to KB.out _ _ _ _ _ _ _ _ _) rfl) rfl ?_
          exact ⟨(r1, l.length, r3), (q1, q2, q3), rfl, RA.out.box KB.out _ _ _ _ _ _ _ _ _, setBox_below HB.out (by omega) _ _ _ _ _ _ _ _ _⟩
end Go.Proofs.Ytembondddgfpcaa

namespace Go.Proofs.Ytembondddgfpcaa

theorem fits_cuts : ∀ (l : List ActA) (n : Nat), fitsW l n → ∀ a ∈ l, a.kind = 3 → a.at_ ≤ n + lenW l
  | [], _, _, a, ha, _ => by cases ha
  | b :: r, n, h, a, ha, hk => by
    have e : lenW (b :: r) = b.bytes.size + lenW r := rfl
    unfold fitsW at h
    by_cases hb : b.kind = 3
    · rw [if_pos hb] at h
      rcases List.mem_cons.1 ha with rfl | ha
      · omega
      · have := fits_cuts r _ h.2 a ha hk; omega
    · rw [if_neg hb] at h
      rcases List.mem_cons.1 ha with rfl | ha
      · exact absurd hk hb
      · have := fits_cuts r _ h a ha hk; omega
theorem FileOk.small {n : Nat} {f : FileA} (h : FileOk n f) (hn : n ≤ 1000000) : SmallF (fileM f) := by
  have hl := h.len
  refine ⟨by show f.sure.size ≤ _; omega, ?_, fun x hx => ?_⟩
  · show (f.waits.flatMap waitsOf).length ≤ _
    rw [waits_length]; have := h.units; omega
  · obtain ⟨a, ha, hx⟩ := List.mem_flatMap.1 (show x ∈ f.waits.flatMap waitsOf from hx)
    unfold waitsOf at hx
    split at hx
    · rename_i hk
      obtain rfl := List.mem_singleton.1 hx
      have := fits_cuts _ _ h.fits a ha hk
      rw [← Lib.size_eq] at this
      show a.at_ ≤ _; omega
    · obtain ⟨b, _, rfl⟩ := List.mem_map.1 hx
      exact Nat.zero_le _
/-- The sure directory of a disk is in order, its names short. -/
structure Tidy (D : ADisk) : Prop where
  rising : Rising D.sure
  short : ∀ x ∈ D.sure, x.1.length ≤ 1000000
theorem Tidy.fresh (room : Int) : Tidy (freshD room) := ⟨Rising.nil, fun x hx => by cases hx⟩
theorem Tidy.play {n : Nat} {D : ADisk} (h : Tidy D) (hf : Fine n D) (hn : n ≤ 1000000) (k : Nat) : Rising (dplay (D.waits.take k) D.sure) ∧ ∀ x ∈ dplay (D.waits.take k) D.sure, x.1.length ≤ 1000000 := by
  have hd := hf.dirs
  have hs : SmallD D.sure := fun x hx => ⟨h.short x hx, by have := hf.names x hx; have := hf.nfiles; omega⟩
  have hc : SmallC (D.waits.take k) := fun c hc => by
    obtain ⟨h1, h2, h3⟩ := hf.changes c (List.mem_of_mem_take hc)
    exact ⟨h1, h2, by have := hf.nfiles; omega⟩
  exact ⟨dplay_rising _ h.rising, fun x hx => (dplay_small _ hc hs x hx).1⟩
theorem Ties.fit {n : Nat} {D : ADisk} {M : RefM} (h : Ties D M) (hf : Fine n D) (hn : n ≤ 1000000) (ht : Tidy D) (hl : 0 ≤ M.left ∧ M.left ≤ 9223372036854775807) : Fit M := by
  have hnf := hf.nfiles
  have hlen : M.files.length = D.files.length := by rw [h.files, List.length_map]
  refine ⟨?_, hl, by rw [h.sure]; exact ht.rising, ?_, ?_, ?_, by omega, ?_, ?_, ?_, ?_⟩
  · rw [h.units]; exact ⟨hf.u0, by have := hf.u1; omega⟩
  · rw [h.sure]; exact fun x hx => ⟨ht.short x hx, by have := hf.names x hx; omega⟩
  · rw [h.waits]; exact fun c hc => by
      obtain ⟨h1, h2, h3⟩ := hf.changes c hc
      exact ⟨h1, h2, by omega⟩
  · rw [h.sure, h.waits]; have := hf.dirs; omega
  · rw [h.files]; intro f hm
    obtain ⟨g, hg, rfl⟩ := List.mem_map.1 hm
    exact (hf.files g hg).small hn
  · rw [h.acts]; have := hf.nacts; omega
  · rw [h.sure, hlen]; exact hf.names
  · rw [h.waits, hlen]; exact fun c hc => (hf.changes c hc).2.2
end Go.Proofs.Ytembondddgfpcaa

namespace Go.Proofs.Ytembondddgfpcaa

theorem Tidy.of {D D' : ADisk} (h : Tidy D) (e : D'.sure = D.sure) : Tidy D' := ⟨by rw [e]; exact h.rising, by rw [e]; exact h.short⟩
theorem createD_sure (D : ADisk) (z : ByteArray) : (createD D z).1.sure = D.sure := by unfold createD; repeat' split
                                                                                       all_goals rfl
theorem writeD_sure (D : ADisk) (z t : ByteArray) : (writeD D z t).1.sure = D.sure := by
  unfold writeD; repeat' split
  all_goals rfl
theorem cutD_sure (D : ADisk) (z : ByteArray) (k : Int) : (cutD D z k).1.sure = D.sure := by
  unfold cutD; repeat' split
  all_goals rfl
theorem syncD_sure (D : ADisk) (z : ByteArray) : (syncD D z).1.sure = D.sure := by
  unfold syncD; repeat' split
  all_goals rfl
theorem renameD_sure (D : ADisk) (a b : ByteArray) : (renameD D a b).1.sure = D.sure := by
  unfold renameD; repeat' split
  all_goals rfl
theorem removeD_sure (D : ADisk) (z : ByteArray) : (removeD D z).1.sure = D.sure := by
  unfold removeD; repeat' split
  all_goals rfl
theorem armD_sure (D : ADisk) (k : Int) : (armD D k).1.sure = D.sure := by
  unfold armD; repeat' split
  all_goals rfl
theorem Tidy.syncdir {n : Nat} {D : ADisk} (h : Tidy D) (hf : Fine n D) (hn : n ≤ 1000000) : Tidy (syncdirD D).1 := by
  have hp := h.play hf hn D.waits.length
  rw [List.take_length] at hp
  unfold syncdirD
  repeat' split
  · exact h
  · exact ⟨hp.1, hp.2⟩
  · exact h.of rfl
theorem Tidy.crash {n : Nat} {D : ADisk} (h : Tidy D) (hf : Fine n D) (hn : n ≤ 1000000) (m : Int) (ks : List Int) : Tidy (crashD D m ks) := by
  have hp := h.play hf hn (keptN m D.waits.length)
  exact ⟨hp.1, hp.2⟩

def InL (x : Int) : Prop := 0 ≤ x ∧ x ≤ 9223372036854775807
theorem doneM_left {M : RefM} (h : InL M.left) (hc : canM M = true) : InL (doneM M).left := by
  unfold canM at hc
  show InL (if M.armed then M.left - 1 else M.left)
  split
  · rename_i ha
    have h0 : ¬ M.left = 0 := fun e => by rw [ha, e] at hc; simp at hc
    unfold InL at h ⊢; omega
  · exact h
theorem createM_left {M : RefM} (h : InL M.left) (z : ByteArray) : InL (createM M z).1.left := by
  unfold createM; repeat' split
  all_goals first | exact h | exact doneM_left h ‹_›
theorem cutM_left {M : RefM} (h : InL M.left) (z : ByteArray) (k : Int) : InL (cutM M z k).1.left := by
  unfold cutM; repeat' split
  all_goals first | exact h | exact doneM_left h ‹_›
theorem syncM_left {M : RefM} (h : InL M.left) (z : ByteArray) : InL (syncM M z).1.left := by
  unfold syncM; repeat' split
  all_goals first | exact h | exact doneM_left h ‹_›
theorem renameM_left {M : RefM} (h : InL M.left) (a b : ByteArray) : InL (renameM M a b).1.left := by
  unfold renameM; repeat' split
  all_goals first | exact h | exact doneM_left h ‹_›
theorem removeM_left {M : RefM} (h : InL M.left) (z : ByteArray) : InL (removeM M z).1.left := by
  unfold removeM; repeat' split
  all_goals first | exact h | exact doneM_left h ‹_›
theorem syncdirM_left {M : RefM} (h : InL M.left) : InL (syncdirM M).1.left := by
  unfold syncdirM; repeat' split
  all_goals first | exact h | exact doneM_left h ‹_›
theorem writeM_left {M : RefM} (h : InL M.left) (z t : ByteArray) : InL (writeM M z t).1.left := by
  have hs := spent_cases M.armed M.left t.size h.1
  unfold writeM
  split
  · exact h
  · split
    · exact h
    · show InL (if M.armed then M.left - ((spent M.armed M.left t.size).toNat : Nat) else M.left)
      split
      · rename_i ha
        have : spent M.armed M.left t.size ≤ M.left := by
          unfold spent; rw [ha]; split
          · exact Int.le_refl _
          · rename_i hh; simp at hh; omega
        unfold InL at h ⊢; omega
      · exact h
theorem armM_left {M : RefM} (h : InL M.left) (k : Int) (hk : k ≤ 9223372036854775807) : InL (armM M k).1.left := by
  unfold armM; split
  · exact h
  · show InL k; unfold InL; omega
theorem crashM_left {M : RefM} (h : InL M.left) (n : Int) (ks : List Int) : InL (crashM M n ks).left := h
end Go.Proofs.Ytembondddgfpcaa

namespace Go.Proofs.Ytembondddgfpcaa
open Go.RowKit Go.Maps

def sureD (D : ADisk) (z : ByteArray) : ByteArray × Bool := match dget D.sure z.data.toList with
  | some i => (match D.files[i]? with | some f => f.sure | none => ⟨#[]⟩, true)
  | none => (⟨#[]⟩, false)
theorem Ties.sureOf {D : ADisk} {m : RefM} (h : Ties D m) (z : ByteArray) : sureM m z = sureD D z := by
  unfold sureM sureD
  rw [h.sure, h.files]
  cases dget D.sure z.data.toList with
  | none => rfl
  | some i =>
    dsimp only
    rw [List.getElem?_map]
    cases D.files[i]? with
    | none => rfl
    | some f => rfl
set_option maxRecDepth 100000 in
set_option maxHeartbeats 4000000 in
theorem sure_any {w : World} {T : Nat → Nat} {p n : Nat} {D : ADisk} (hA : DiskAt w T p D) (hf : Fine n D) (hn : n ≤ 1000000) (z : ByteArray) (hz : z.size ≤ 1000000) :
    Calls Try.prog 14 #[.pointer (some ⟨p, 0, none⟩), .string z] w fun e w' => e = .returned (.tuple #[.string (sureD D z).1, .bool (sureD D z).2]) ∧ w = w' := by
  obtain ⟨V, hV⟩ := hA
  have hp := hV.cells.lt
  have d5 : w.cell? ⟨p, 5, none⟩ = some V.v5 := hV.cells.cell 5
  have LK := hV.m5.look z (by unfold maxLen; omega)
  have hnf := hf.nfiles
  unfold sureD
  cases hq : dget D.sure z.data.toList with
  | none =>
    rw [hq] at LK
    simp only [Option.getD_none, Option.isSome_none] at LK
    generalize V.v5 = v5 at *
    clear hV
    go_enter Try.func14, Try.ntmps14
    go_wp2
    go_ret2
    exact ⟨rfl, rfl⟩
  | some i =>
    rw [hq] at LK
    simp only [Option.getD_some, Option.isSome_some] at LK
    have hi := dget_lt hf.names hq
    dsimp only
    rw [List.getElem?_eq_getElem hi]
    obtain ⟨g, cap, cur, e8, hc, _, _, _, _, _, hfa⟩ := hV.file hi
    have d8 : w.cell? ⟨p, 8, none⟩ = some (.slice (some ⟨g, 0, none⟩) D.files.length cap) := by have := hV.cells.cell 8; rw [← e8]; exact this
    have hs := hfa.c0
    have hg := hc.lt
    generalize D.files[i] = x at *
    generalize V.v5 = v5 at *
    clear hV hfa hc e8
    go_enter Try.func14, Try.ntmps14
    go_wp2
    go_ret2
    exact ⟨rfl, rfl⟩
end Go.Proofs.Ytembondddgfpcaa

namespace Go.Proofs.Ytembondddgfpcaa
open Go.RowKit Go.Maps

/-- An armed disk that does t units in all. -/
structure Arm (t : Int) (D : ADisk) : Prop where
  armed : D.armed = true
  sum : D.left + D.units = t
  low : 0 ≤ D.left
  down : D.gone = true → D.left = 0
/-- What an operation leaves: the same sum; nothing more where the power is off. -/
structure Arms (t : Int) (D D' : ADisk) : Prop where
  arm : Arm t D'
  still : D.gone = true → D'.units = D.units
theorem Arms.refl {t : Int} {D : ADisk} (h : Arm t D) : Arms t D D := ⟨h, fun _ => rfl⟩
theorem Arms.same {t : Int} {D D' D'' : ADisk} (h : Arms t D D') (h1 : D''.armed = D'.armed) (h2 : D''.left = D'.left) (h3 : D''.units = D'.units) (h4 : D''.gone = D'.gone) : Arms t D D'' :=
  ⟨⟨h1.trans h.arm.armed, by rw [h2, h3]; exact h.arm.sum, by rw [h2]; exact h.arm.low, fun hg => by rw [h2]; exact h.arm.down (h4.symm.trans hg)⟩, fun hg => h3.trans (h.still hg)⟩
theorem cut_fine {n : Nat} {D : ADisk} (h : Fine n D) (z : ByteArray) (k : Int) : Fine (n + 2) (cutD D z k).1 := by
  unfold cutD
  split
  · exact h.mono (by omega)
  · rename_i ha
    split
    · exact h.mono (by omega)
    · rename_i hk
      split
      · rename_i hc
        rcases asked_cases h z [] with ⟨f, ea, hfl, _, _⟩ | ea
        · rw [ea] at hk ⊢
          dsimp only at hk ⊢
          have hsz : seenSize D f = D.files[f].seen.length := by unfold seenSize sizeAt; rw [List.getElem?_eq_getElem hfl]
          rw [hsz] at hk
          have := more_fine (k := 1) (did_fine h hc (cutA z k.toNat)) (f := f) hfl (cutA z k.toNat) (.inr rfl) (fun _ => by show k.toNat ≤ D.files[f].seen.length; omega) (Nat.zero_le _) (Nat.le_refl _)
          unfold modF
          rw [dif_pos hfl]
          exact this
        · rcases ea with ea | ea | ea <;> rw [ea] at ha <;> simp at ha
      · exact (down_fine h).mono (by omega)
theorem le12 {α : Type} {a : α} {n : Nat} (h : n ≤ 12) : ((a, n) : α × Nat).2 ≤ 12 := h
theorem asked_le {n : Nat} {D : ADisk} (hf : Fine n D) (z : ByteArray) (zr : List ByteArray) : (asked D z zr).2 ≤ 12 := by
  rcases asked_cases hf z zr with ⟨f, e, _⟩ | e | e | e <;> rw [e] <;> exact le12 (by decide)
theorem ready_le (g : Bool) (zs : List ByteArray) : readyE g zs ≤ 12 := by
  rcases readyE_cases g zs with e | e | e <;> rw [e] <;> decide
section
variable {w : World} {T : Nat → Nat} {p n : Nat} {D : ADisk} {t : Int}
end
/-- What lay untagged lies as it lay. -/
theorem Step.cells {w w' : World} {T T' : Nat → Nat} (h : Step w T w' T') {b : Nat} {t : TypeId} {cur : Array Value} (hc : Cells w b t cur) (hb : T b = 0) : Cells w' b t cur := (h.only.same b hc.lt (fun hn => hn hb)).trans hc
end Go.Proofs.Ytembondddgfpcaa

namespace Go.Proofs.Ytembondddgfpcaa
open Go.RowKit Go.Maps

theorem num_still (n : Nat) (hn : n ≤ 1000) (w : World) : Calls Try.prog 28 #[errV n] w fun e w' => e = .returned (.int .i64 n) ∧ w' = w :=
  (num_any n hn w).mono fun e w' ⟨a, b⟩ => ⟨a, b.symm⟩
theorem DiskAt.setCell {w : World} {T : Nat → Nat} {p : Nat} {D : ADisk} (h : DiskAt w T p D) {a : Addr} (ha : T a.block = 0) (u : Value) : DiskAt (w.setCell a u) T p D := by
  obtain ⟨V, hV⟩ := h
  exact ⟨V, hV.same (fun b hb => Below.heap_setCell _ _ _ _ (fun e => hb (by rw [e]; exact ha))) (by simp)⟩
theorem DiskAt.drew {w : World} {T : Nat → Nat} {p : Nat} {D : ADisk} (h : DiskAt w T p D) : DiskAt w.drew T p D := by
  obtain ⟨V, hV⟩ := h
  exact ⟨V, hV.same (fun b hb => rfl) (Nat.le_refl _)⟩
theorem Step.setNew {w w' : World} {T T' : Nat → Nat} (h : Step w T w' T') {a : Addr} (ha : w.heap.size ≤ a.block) (u : Value) : Step w T (w'.setCell a u) T' :=
  ⟨⟨h.only.os, h.only.tape, h.only.output, by simpa using h.only.size, fun r hr hn => (Below.heap_setCell _ _ _ _ (by omega)).trans (h.only.same r hr hn)⟩, h.old⟩
theorem Step.drew {w w' : World} {T T' : Nat → Nat} (h : Step w T w' T') : Step w T w'.drew T' :=
  ⟨⟨h.only.os, h.only.tape, h.only.output, h.only.size, h.only.same⟩, h.old⟩
theorem setBox_disk {w : World} {T : Nat → Nat} {p : Nat} {D : ADisk} (h : DiskAt w T p D) {b : Nat} (hb : T b = 0) (v0 v1 v2 v3 v4 v5 v6 v7 v8 : Value) : DiskAt (setBox w b v0 v1 v2 v3 v4 v5 v6 v7 v8) T p D :=
  ((((((((h.setCell (a := ⟨b, 0, none⟩) hb v0).setCell (a := ⟨b, 1, none⟩) hb v1).setCell (a := ⟨b, 2, none⟩) hb v2).setCell (a := ⟨b, 3, none⟩) hb v3).setCell (a := ⟨b, 4, none⟩) hb v4).setCell (a := ⟨b, 5, none⟩) hb v5).setCell (a := ⟨b, 6, none⟩) hb v6).setCell (a := ⟨b, 7, none⟩) hb v7).setCell (a := ⟨b, 8, none⟩) hb v8
theorem setBox_step {w w' : World} {T T' : Nat → Nat} (h : Step w T w' T') {b : Nat} (hb : w.heap.size ≤ b) (v0 v1 v2 v3 v4 v5 v6 v7 v8 : Value) : Step w T (setBox w' b v0 v1 v2 v3 v4 v5 v6 v7 v8) T' :=
  ((((((((h.setNew (a := ⟨b, 0, none⟩) hb v0).setNew (a := ⟨b, 1, none⟩) hb v1).setNew (a := ⟨b, 2, none⟩) hb v2).setNew (a := ⟨b, 3, none⟩) hb v3).setNew (a := ⟨b, 4, none⟩) hb v4).setNew (a := ⟨b, 5, none⟩) hb v5).setNew (a := ⟨b, 6, none⟩) hb v6).setNew (a := ⟨b, 7, none⟩) hb v7).setNew (a := ⟨b, 8, none⟩) hb v8
def Kept (w : World) (T T1 : Nat → Nat) (p : Nat) (D1 : ADisk) (c0 c1 c2 c3 c4 c5 c6 c7 c8 : Value) (w' : World) : Prop :=
  Cells w' w.heap.size 37 #[c0, c1, c2, c3, c4, c5, c6, c7, c8] ∧ (∃ cur, cur.size = 9 ∧ Cells w' (w.heap.size + 1 + 1) 37 cur) ∧ DiskAt w' T1 p D1 ∧ Step w T w' T1
theorem Kept.drew {w : World} {T T1 : Nat → Nat} {p : Nat} {D1 : ADisk} {c0 c1 c2 c3 c4 c5 c6 c7 c8 : Value} {w' : World} (h : Kept w T T1 p D1 c0 c1 c2 c3 c4 c5 c6 c7 c8 w') : Kept w T T1 p D1 c0 c1 c2 c3 c4 c5 c6 c7 c8 w'.drew := by
  obtain ⟨h1, ⟨cur, hz, h2⟩, h3, h4⟩ := h
  exact ⟨h1.drew, ⟨cur, hz, h2.drew⟩, h3.drew, h4.drew⟩
theorem Kept.store {w : World} {T T1 : Nat → Nat} {p : Nat} {D1 : ADisk} {c0 c1 c2 c3 c4 c5 c6 c7 c8 : Value} {w' : World} (h : Kept w T T1 p D1 c0 c1 c2 c3 c4 c5 c6 c7 c8 w') (hT : T1 (w.heap.size + 1 + 1) = 0) : Kept w T T1 p D1 c0 c1 c2 c3 c4 c5 c6 c7 c8 (setBox w' (w.heap.size + 1 + 1) c0 c1 c2 c3 c4 c5 c6 c7 c8) := by
  obtain ⟨h1, ⟨cur, hz, h2⟩, h3, h4⟩ := h
  obtain ⟨cur', hz', h2'⟩ := setBox_cells h2 hz c0 c1 c2 c3 c4 c5 c6 c7 c8
  exact ⟨setBox_other h1 (by omega) _ _ _ _ _ _ _ _ _, ⟨cur', hz', h2'⟩, setBox_disk h3 hT _ _ _ _ _ _ _ _ _, setBox_step h4 (by omega) _ _ _ _ _ _ _ _ _⟩
def opV (kind k : Int) (name text : ByteArray) (ao : Option Addr) (l c : Nat) : Value := .agg #[.int .i64 kind, .int .i64 k, .string name, .string text, .slice ao l c]
end Go.Proofs.Ytembondddgfpcaa

namespace Go.Proofs.Ytembondddgfpcaa
open Go.RowKit Go.Maps

end Go.Proofs.Ytembondddgfpcaa

namespace Go.Proofs.Ytembondddgfpcaa

def nmF : ByteArray := ⟨#[102]⟩
def dirF : Dir := [([102], 0)]
def catW (l : List ActA) : List UInt8 := l.flatMap fun a => a.bytes.data.toList
/-- A file of which the first s bytes of all are synced, and the others wait. -/
structure Sy (all : List UInt8) (s : Nat) (x : FileA) : Prop where
  sure : x.sure.data.toList = all.take s
  le : s ≤ all.length
  kinds : ∀ a ∈ x.waits, a.kind = 2
  cat : catW x.waits = all.drop s
theorem catW_snoc (l : List ActA) (a : ActA) : catW (l ++ [a]) = catW l ++ a.bytes.data.toList := by unfold catW; simp
theorem afterF_writes : ∀ (l : List ActA) (u : Int) (s : List UInt8), (∀ a ∈ l, a.kind = 2) → afterF l u s = s ++ (catW l).take u.toNat
  | [], u, s, _ => by simp [afterF, catW]
  | a :: r, u, s, h => by
    have hk : ¬ a.kind = 3 := by rw [h a (by simp)]; decide
    have e : catW (a :: r) = a.bytes.data.toList ++ catW r := rfl
    by_cases hu : u ≤ 0
    · rw [afterF_stop hu, show u.toNat = 0 by omega]; simp
    · rw [afterF_write hu hk, afterF_writes r _ _ (fun b hb => h b (by simp [hb])), e, List.append_assoc]
      congr 1
      have hs := Lib.size_eq a.bytes
      rw [List.take_append, ← hs]
      have e2 : (u - ((min u.toNat a.bytes.size : Nat) : Int)).toNat = u.toNat - a.bytes.size := by omega
      rw [e2]
      congr 1
      rcases Nat.le_total u.toNat a.bytes.size with hc | hc
      · rw [Nat.min_eq_left hc]
      · rw [Nat.min_eq_right hc, List.take_of_length_le (by omega), List.take_of_length_le (by omega)]
theorem seenL_writes : ∀ (l : List ActA) (s : List UInt8), (∀ a ∈ l, a.kind = 2) → seenL l s = s ++ catW l
  | [], s, _ => by simp [seenL, catW]
  | a :: r, s, h => by
    have hk : ¬ a.kind = 3 := by rw [h a (by simp)]; decide
    show seenL r (stepF s a) = s ++ (a.bytes.data.toList ++ catW r)
    rw [seenL_writes r _ (fun b hb => h b (by simp [hb]))]
    unfold stepF; rw [if_neg hk, List.append_assoc]
theorem Sy.seen {all : List UInt8} {s : Nat} {x : FileA} (h : Sy all s x) : x.seen = all := by
  unfold FileA.seen
  rw [seenL_writes _ _ h.kinds, h.sure, h.cat, List.take_append_drop]
theorem Sy.new : Sy [] 0 newF := ⟨rfl, Nat.le_refl _, (fun a ha => by cases ha), rfl⟩
theorem Sy.more {all : List UInt8} {s : Nat} {x : FileA} (h : Sy all s x) (z t : ByteArray) : Sy (all ++ t.data.toList) s (if 0 < t.size then x.more (wroteA z t t.size) else x) := by
  have hl : all.drop s ++ t.data.toList = (all ++ t.data.toList).drop s := by rw [List.drop_append_of_le_length h.le]
  have ht : (all ++ t.data.toList).take s = all.take s := by rw [List.take_append_of_le_length h.le]
  by_cases h0 : 0 < t.size
  · rw [if_pos h0]
    refine ⟨by rw [ht]; exact h.sure, by rw [List.length_append]; have := h.le; omega, fun a ha => ?_, ?_⟩
    · rcases List.mem_append.1 ha with ha | ha
      · exact h.kinds a ha
      · obtain rfl : a = wroteA z t t.size := by simpa using ha
        rfl
    · show catW (x.waits ++ [wroteA z t t.size]) = _
      rw [catW_snoc, h.cat, ← hl]
      unfold wroteA; rw [extract_all]
  · rw [if_neg h0, empty_of t h0]
    show Sy (all ++ []) s x
    rw [List.append_nil]; exact h
theorem Sy.kept {n : Nat} {all : List UInt8} {s : Nat} {x : FileA} (h : Sy all s x) (hf : FileOk n x) (hn : n ≤ 1000000) : Sy all all.length (x.kept allU) := by
  rw [kept_all hf hn, h.seen]
  refine ⟨by show all = _; rw [List.take_length], Nat.le_refl _, (fun a ha => by cases ha), ?_⟩
  rw [List.drop_length]; rfl
theorem Sy.crashed {all : List UInt8} {s : Nat} {x : FileA} (h : Sy all s x) (keep : Int) : (x.kept keep).seen = all.take (s + (max 0 (min keep ((all.length : Int) - (s : Int)))).toNat) := by
  have hle := h.le
  show afterF x.waits keep x.sure.data.toList = _
  rw [afterF_writes _ _ _ h.kinds, h.sure, h.cat]
  have e : s + (max 0 (min keep ((all.length : Int) - (s : Int)))).toNat = s + min keep.toNat (all.length - s) := by omega
  rw [e, List.take_add]
  congr 1
  rcases Nat.le_total keep.toNat (all.length - s) with hc | hc
  · rw [Nat.min_eq_left hc]
  · rw [Nat.min_eq_right hc, List.take_of_length_le (by rw [List.length_drop]; omega), List.take_of_length_le (by rw [List.length_drop]; omega)]
theorem total_one (x : FileA) : totalL (sizeAt [x]) (dplay [] dirF) = x.seen.length := by
  show x.seen.length + 0 = _
  omega
theorem hF1 : readyE false [nmF] = 0 := by kernel_rfl
theorem hF2 : dget (dplay [] dirF) nmF.data.toList = some 0 := by kernel_rfl
theorem sy_write {all : List UInt8} {s : Nat} {x : FileA} (h : Sy all s x) (u room : Int) (acts : List ActA) (t : ByteArray) (hr : (all.length : Int) + t.size ≤ room) :
    ∃ acts', writeD (ua u room dirF [] [x] acts) nmF t = (ua (u + t.size) room dirF [] [if 0 < t.size then x.more (wroteA nmF t t.size) else x] acts', 0) := by
  have hfr := free_ua u room dirF [] [x] acts x.seen.length (total_one x)
  rw [h.seen] at hfr
  obtain ⟨a', E⟩ := write_ua u room dirF [] [x] acts nmF t 0 hF1 hF2 (by rw [hfr]; omega)
  refine ⟨a', ?_⟩
  rw [E]
  by_cases h0 : 0 < t.size
  · rw [if_pos h0, if_pos h0]; rfl
  · rw [if_neg h0, if_neg h0]
theorem sy_sync (u room : Int) (acts : List ActA) (x : FileA) : syncD (ua u room dirF [] [x] acts) nmF = (ua (u + 1) room dirF [] [x.kept allU] (acts ++ [⟨4, nmF, ⟨#[]⟩, ⟨#[]⟩, 0⟩]), 0) :=
  sync_ua u room dirF [] [x] acts nmF 0 hF1 hF2
theorem sy_crash (u room : Int) (acts : List ActA) (x : FileA) (keep : Int) : crashD (ua u room dirF [] [x] acts) 0 [keep] = ua u room dirF [] [x.kept keep] acts := rfl
theorem sy_read (u room : Int) (acts : List ActA) (x : FileA) : readR (ua u room dirF [] [x] acts) nmF = (⟨x.seen.toArray⟩, 0) :=
  read_ua u room dirF [x] acts nmF 0 x [] hF1 hF2 rfl
theorem sy_free (u room : Int) (acts : List ActA) (x : FileA) : freeD (ua u room dirF [] [x] acts) = max (room - (x.seen.length : Nat)) 0 := free_ua u room dirF [] [x] acts _ (total_one x)
end Go.Proofs.Ytembondddgfpcaa

