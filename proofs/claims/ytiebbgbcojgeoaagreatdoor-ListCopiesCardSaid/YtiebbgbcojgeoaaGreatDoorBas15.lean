/- Texts put together: ND, NE, NF, NI, NJ, NM, NP, NW, NX. -/
import Derived.Test.YtiebbgbcojgeoaaGreatDoorBas6
import Derived.Test.YtiebbgbcojgeoaaGreatDoorBas12
import Derived.Test.YtiebbgbcojgeoaaGreatDoorBas13
import Derived.Test.YtiebbgbcojgeoaaGreatDoorBas14
set_option linter.unusedVariables false
namespace Go.Proofs.YtiebbgbcojgeoaaGreatDoor
open Go.RowKit Go.Shelf
attribute [local go_sem] Oper.semAt_some

set_option maxRecDepth 100000 in
set_option maxHeartbeats 4000000 in
theorem do_any (lb : Nat) (ev v x : Value) (ps qs : List Pr) (nx mx kind id : Int) (fs : List Fld) (w : World) (h : StR w lb ev ps nx v qs) (hwf : WF (ps.map Prod.fst)) (h4 : lenR (ps.map Prod.fst) ≤ 400)
    (hps : ps.length ≤ 10000) (hqs : qs.length ≤ 10000) (hnx : -1000000 ≤ nx ∧ nx ≤ 1000000) (hmx : -1000000 ≤ mx ∧ mx ≤ 1000000) (hx : FldR w x fs) (hfs : Fine7 fs) (hxb : fs ≠ [] → ∀ b, x.ownBlock = some b → b ≠ lb ∧ ev.ownBlock ≠ some b) :
    Calls Tryz.prog 16 #[ptr lb, .agg #[v, .int .i64 mx], .agg #[.int .i64 kind, .int .i64 id, x]] w fun e w' => ∃ ev' ps' v' qs',
      e = .returned (.tuple #[.agg #[v', .int .i64 (editR ⟨qs.map Prod.fst, mx⟩ kind id fs).ls.next], .bool (sameD (editR ⟨ps.map Prod.fst, nx⟩ kind id fs) (editR ⟨qs.map Prod.fst, mx⟩ kind id fs))]) ∧
      StR w' lb ev' ps' (editR ⟨ps.map Prod.fst, nx⟩ kind id fs).ls.next v' qs' ∧ ps'.map Prod.fst = (editR ⟨ps.map Prod.fst, nx⟩ kind id fs).ls.es ∧ qs'.map Prod.fst = (editR ⟨qs.map Prod.fst, mx⟩ kind id fs).ls.es ∧
      Only (fun r => r = lb ∨ ev.ownBlock = some r) w w' ∧ (∀ r, BlkR lb ev' ps' v' qs' r → BlkR lb ev ps v qs r ∨ (fs ≠ [] ∧ x.ownBlock = some r) ∨ w.heap.size ≤ r) ∧ (∀ b, ev'.ownBlock = some b → ev.ownBlock = some b ∨ w.heap.size ≤ b) := by
  obtain ⟨xa, xc, rfl, _, _⟩ := _root_.id hx.1
  obtain ⟨A, cap, rfl, hle⟩ := h.q.empty
  have hnil := hx.2
  obtain ⟨W0, hW0⟩ : ∃ W0, W0 = ((w.alloc (.cells #[.slice A qs.length cap, .int .i64 mx] 32)).alloc (.cells #[.int .i64 kind, .int .i64 id, .slice xa fs.length xc] 38)).alloc (.cells #[.slice none 0 0, .int .i64 0] 32) := ⟨_, rfl⟩
  have hbW : Below w.heap.size w W0 := by rw [hW0]; exact (((Below.refl _ w).alloc (Nat.le_refl _) _).alloc (by simp) _).alloc (by simp; omega) _
  have hzW : W0.heap.size = w.heap.size + 3 := by rw [hW0]; simp
  have C0 : Cells W0 w.heap.size 32 #[.slice A qs.length cap, .int .i64 mx] := by rw [hW0]; exact ((Cells.new _ _ _).alloc _).alloc _
  have C1 : Cells W0 (w.heap.size + 1) 38 #[.int .i64 kind, .int .i64 id, .slice xa fs.length xc] := by
    rw [hW0]
    have := (Cells.new (w.alloc (.cells #[.slice A qs.length cap, .int .i64 mx] 32)) 38 #[.int .i64 kind, .int .i64 id, .slice xa fs.length xc]).alloc (.cells #[.slice none 0 0, .int .i64 0] 32)
    rw [World.size_alloc] at this; exact this
  have C2 : Cells W0 (w.heap.size + 2) 32 #[.slice none 0 0, .int .i64 0] := by
    rw [hW0]
    have := Cells.new ((w.alloc (.cells #[.slice A qs.length cap, .int .i64 mx] 32)).alloc (.cells #[.int .i64 kind, .int .i64 id, .slice xa fs.length xc] 38)) 32 #[.slice none 0 0, .int .i64 0]
    rw [World.size_alloc, World.size_alloc] at this; exact this
  have CP := copies_own fs (.slice xa fs.length xc) W0 (hx.1.below hbW (Nat.le_refl _)) hnil (by have := hfs.len; omega)
  rw [hzW] at CP
  have HH := Lib.hid h
  have HX := Lib.hid hx
  have HXB := Lib.hid hxb
  have HFS := Lib.hid hfs
  have HWF := Lib.hid hwf
  have HBW := Lib.hid hbW
  have HC0 := Lib.hid C0
  have HC1 := Lib.hid C1
  have HC2 := Lib.hid C2
  have HCP := Lib.hid CP
  have HZ := Lib.hid hzW
  obtain ⟨d1, hd1⟩ : ∃ d, d = editR ⟨ps.map Prod.fst, nx⟩ kind id fs := ⟨_, rfl⟩
  obtain ⟨d2, hd2⟩ : ∃ d, d = editR ⟨qs.map Prod.fst, mx⟩ kind id fs := ⟨_, rfl⟩
  rw [← hd1, ← hd2]
  have HD1 := Lib.hid hd1
  have HD2 := Lib.hid hd2
  have HXLT : Hid (fs ≠ [] → ∀ b, (Value.slice xa fs.length xc).ownBlock = some b → b < w.heap.size ∧ b ≠ lb ∧ ev.ownBlock ≠ some b) := fun hne b e => ⟨HX.out.1.lt hne b e, HXB.out hne b e⟩
  -- what holds in front of the document's call
  have PRE : Hid (∀ w1 w2 N u ev' ps' (d : Did), Below w.heap.size w w1 → WrR w1 lb ev ps d u w2 ev' ps' → N = 0 → EntsQ w2 (.slice A qs.length cap) qs ∧ Flds w2 (.slice xa fs.length xc) fs) := fun w1 w2 N u ev' ps' d hb R _ => by
    refine ⟨(HH.out.q.below hb (Nat.le_refl _)).only R.only (fun b hb2 e => ?_) (fun p hp hne b hb2 e => ?_), (HX.out.1.below hb (Nat.le_refl _)).only R.only (fun hne b hb2 e => ?_)⟩
    · obtain ⟨a1, a2⟩ := HH.out.va b hb2
      rcases e with e | e
      · exact a1 e
      · exact a2 e
    · obtain ⟨a1, a2⟩ := HH.out.qa p hp hne b hb2
      rcases e with e | e
      · exact a1 e
      · exact a2 e
    · obtain ⟨a1, a2⟩ := HXB.out hne b hb2
      rcases e with e | e
      · exact a1 e
      · exact a2 e
  clear h hx hxb hfs hwf hbW C0 C1 C2 CP hzW hd1 hd2 hnil
  unfold ptr
  subst hW0
  go_enter Tryz.func16, Tryz.ntmps16
  have c1 := HC1.out.cell 2
  go_wp2_with fail
  refine HCP.out.mono ?_
  rintro e w1 ⟨f, rfl, hf, hb01⟩
  have hb01' := hb01
  have hb : Below w.heap.size w w1 := HBW.out.trans (hb01.mono (by omega))
  have h3 : w.heap.size + 3 ≤ w1.heap.size := by have := hb01.size; rw [HZ.out] at this; exact this
  have D0 := Lib.hid (cells_kept HC0.out hb01' (by omega))
  have D1 := Lib.hid (cells_kept HC1.out hb01' (by omega))
  have D2 := Lib.hid (cells_kept HC2.out hb01' (by omega))
  obtain ⟨fa, fc, rfl, _⟩ := own_slice hf
  have HF := Lib.hid hf
  have HB1 := Lib.hid hb
  have LA1 := Lib.hid (HH.out.la.below hb (Nat.le_refl _))
  have FR1 := Lib.hid (FldR.own hf)
  clear hb01 hb01' hf hb c1 HCP HC0 HC1 HC2 HBW HZ
  have c1 : w1.cell? ⟨w.heap.size + 1, 0, none⟩ = some (.int .i64 kind) := D1.out.cell 0
  have c2 : w1.cell? ⟨w.heap.size + 1, 1, none⟩ = some (.int .i64 id) := D1.out.cell 1
  go_upto_block 0 with fail
  go_cut [9, 10, 11, 12, 13] (fun ce c10 c11 c12 c13 wx => ∃ ev' ps' v' qs', c10 = .int .i64 d2.at_ ∧ c11 = .int .i64 d2.bad ∧ c12 = .int .i64 d1.id ∧ c13 = .int .i64 d2.id ∧ MidR w w1 wx lb ev ps (.slice A qs.length cap) qs (.slice xa fs.length xc) fs (.slice fa fs.length fc) kind id d1 d2 ce ev' ps' v' qs')
  case first =>
    have hlbw : lb < w.heap.size := HH.out.lt (.inl rfl)
    have HEVW := Lib.hid (show ∀ b, ev.ownBlock = some b → b < w.heap.size from fun b e => HH.out.lt (.inr (.inl e)))
    -- the boxes behind the list's call, and behind the document's
    have BX : Hid (∀ w2 w3 N, Only (fun r => r = lb ∨ ev.ownBlock = some r) w1 w2 → Below N w2 w3 → w2.heap.size ≤ N → Cells w3 w.heap.size 32 #[.slice A qs.length cap, .int .i64 mx] ∧ Cells w3 (w.heap.size + 1) 38 #[.int .i64 kind, .int .i64 id, .slice xa fs.length xc]) := fun w2 w3 N o b hN => by
      have o3 := o.below b (Nat.le_trans o.size hN)
      have nb : ∀ r, w.heap.size ≤ r → ¬ (r = lb ∨ ev.ownBlock = some r) := fun r hr e => by
        rcases e with e | e
        · omega
        · have := HEVW.out r e; omega
      exact ⟨D0.out.only o3 (nb _ (Nat.le_refl _)), D1.out.only o3 (nb _ (Nat.le_succ _))⟩
    by_cases k1 : kind = 1
    · subst k1
      have RL := replace_list lb ev ps nx id fs (.slice fa fs.length fc) w1 LA1.out (by omega) FR1.out HFS.out
      rw [findP_R HWF.out, show replaceW (findR (ps.map Prod.fst) id) ⟨ps.map Prod.fst, nx⟩ fs = d1 by rw [HD1.out, editR_1, replaceR_W]] at RL
      have HRL := Lib.hid RL
      have E1 : Hid (d1.id = 0) := by show _ = _; rw [HD1.out, editR_1, replaceR_id]
      have E2 : Hid (d2.id = 0) := by show _ = _; rw [HD2.out, editR_1, replaceR_id]
      clear RL
      unfold ptr at HRL
      go_wp2_with fail
      refine HRL.out.mono ?_
      rintro e w2 ⟨u, ev', ps', rfl, hR⟩
      obtain ⟨hq2, hx2⟩ := PRE.out w1 w2 0 u ev' ps' d1 HB1.out hR rfl
      obtain ⟨B0, B1⟩ := BX.out w2 w2 _ hR.only (Below.refl w2.heap.size w2) (Nat.le_refl _)
      have RR := refReplace_any qs (.slice A qs.length cap) (.slice xa fs.length xc) mx id fs w2 hq2 (by omega) hx2 HFS.out
      rw [show replaceR ⟨qs.map Prod.fst, mx⟩ id fs = d2 by rw [HD2.out, editR_1]] at RR
      have HRR := Lib.hid RR
      have HR := Lib.hid hR
      have e0 : w2.cell? ⟨w.heap.size, 0, none⟩ = some (.slice A qs.length cap) := B0.cell 0
      have e1 : w2.cell? ⟨w.heap.size, 1, none⟩ = some (.int .i64 mx) := B0.cell 1
      have e2 : w2.cell? ⟨w.heap.size + 1, 1, none⟩ = some (.int .i64 id) := B1.cell 1
      have e3 : w2.cell? ⟨w.heap.size + 1, 2, none⟩ = some (.slice xa fs.length xc) := B1.cell 2
      clear RR hR HRL B0 B1 hq2 hx2 c1 c2
      go_wp2_with fail
      refine HRR.out.mono ?_
      rintro e w3 ⟨v', qs', rfl, hQ⟩
      obtain ⟨B0, _⟩ := BX.out w2 w3 _ HR.out.only hQ.below (Nat.le_refl _)
      have f0 := B0.frozen 0
      have f1 := B0.frozen 1
      have g0 := B0.cell 0
      have g1 := B0.cell 1
      simp only [List.getElem?_toArray, List.getElem?_cons_zero, List.getElem?_cons_succ] at g0 g1
      have MID := Lib.hid (mid_of HH.out HB1.out h3 D0.out D1.out D2.out HF.out HR.out hQ ⟨xa, xc, rfl⟩ (.inl ⟨rfl, rfl⟩) HXLT.out)
      obtain ⟨va, vn, vc, rfl⟩ : ∃ a n c, v' = .slice a n c := by obtain ⟨A', c', e, _⟩ := hQ.ents.empty; exact ⟨A', _, c', e⟩
      clear hQ HRR B0 e0 e1 e2 e3
      go_wp2_with fail
      go_meet
      exact ⟨ev', ps', _, qs', rfl, rfl, by rw [E1.out], by rw [E2.out], MID.out⟩
    by_cases k2 : kind = 2
    · subst k2
      have RL := delete_list lb ev ps nx id w1 LA1.out (by omega)
      rw [findP_R HWF.out, show deleteW (findR (ps.map Prod.fst) id) ⟨ps.map Prod.fst, nx⟩ = d1 by rw [HD1.out, editR_2, deleteR_W]] at RL
      have HRL := Lib.hid RL
      have E1 : Hid (d1.id = 0) := by show _ = _; rw [HD1.out, editR_2, (deleteR_id _ _).1]
      have E2 : Hid (d2.id = 0) := by show _ = _; rw [HD2.out, editR_2, (deleteR_id _ _).1]
      have E3 : Hid (d2.at_ = -9) := by show _ = _; rw [HD2.out, editR_2, (deleteR_id _ _).2]
      clear RL
      unfold ptr at HRL
      go_wp2_with fail
      refine HRL.out.mono ?_
      rintro e w2 ⟨u, ev', ps', rfl, hR⟩
      obtain ⟨hq2, hx2⟩ := PRE.out w1 w2 0 u ev' ps' d1 HB1.out hR rfl
      obtain ⟨B0, B1⟩ := BX.out w2 w2 _ hR.only (Below.refl w2.heap.size w2) (Nat.le_refl _)
      have RR := refDelete_any qs (.slice A qs.length cap) mx id w2 hq2 (by omega)
      rw [show deleteR ⟨qs.map Prod.fst, mx⟩ id = d2 by rw [HD2.out, editR_2]] at RR
      have HRR := Lib.hid RR
      have HR := Lib.hid hR
      have e0 : w2.cell? ⟨w.heap.size, 0, none⟩ = some (.slice A qs.length cap) := B0.cell 0
      have e1 : w2.cell? ⟨w.heap.size, 1, none⟩ = some (.int .i64 mx) := B0.cell 1
      have e2 : w2.cell? ⟨w.heap.size + 1, 1, none⟩ = some (.int .i64 id) := B1.cell 1
      have e3 : w2.cell? ⟨w.heap.size + 1, 2, none⟩ = some (.slice xa fs.length xc) := B1.cell 2
      clear RR hR HRL B0 B1 hq2 hx2 c1 c2
      go_wp2_with fail
      refine HRR.out.mono ?_
      rintro e w3 ⟨v', qs', rfl, hQ⟩
      obtain ⟨B0, _⟩ := BX.out w2 w3 _ HR.out.only hQ.below (Nat.le_refl _)
      have f0 := B0.frozen 0
      have f1 := B0.frozen 1
      have g0 := B0.cell 0
      have g1 := B0.cell 1
      simp only [List.getElem?_toArray, List.getElem?_cons_zero, List.getElem?_cons_succ] at g0 g1
      have MID := Lib.hid (mid_of HH.out HB1.out h3 D0.out D1.out D2.out HF.out HR.out hQ (fs2 := []) ⟨none, 0, rfl⟩ (.inr rfl) HXLT.out)
      obtain ⟨va, vn, vc, rfl⟩ : ∃ a n c, v' = .slice a n c := by obtain ⟨A', c', e, _⟩ := hQ.ents.empty; exact ⟨A', _, c', e⟩
      clear hQ HRR B0 e0 e1 e2 e3
      go_wp2_with fail
      go_meet
      exact ⟨ev', ps', _, qs', by rw [E3.out], rfl, by rw [E1.out], by rw [E2.out], MID.out⟩
    · have k1' : (kind == 1) = false := beq_eq_false_iff_ne.2 k1
      have k2' : (kind == 2) = false := beq_eq_false_iff_ne.2 k2
      have K1 := Lib.hid k1
      have K2 := Lib.hid k2
      clear k1 k2
      have RL := insert_list lb ev ps nx id fs (.slice fa fs.length fc) w1 LA1.out hps hnx FR1.out HFS.out
      rw [gapP_R HWF.out, full_R HWF.out h4, show insertW (gapR (ps.map Prod.fst) id) (decide (400 ≤ lenR (ps.map Prod.fst))) ⟨ps.map Prod.fst, nx⟩ fs = d1 by rw [HD1.out, editR_3 _ K1.out K2.out, insertR_W]] at RL
      have HRL := Lib.hid RL
      clear RL
      unfold ptr at HRL
      go_wp2_with fail
      refine HRL.out.mono ?_
      rintro e w2 ⟨u, ev', ps', rfl, hR⟩
      obtain ⟨hq2, hx2⟩ := PRE.out w1 w2 0 u ev' ps' d1 HB1.out hR rfl
      obtain ⟨B0, B1⟩ := BX.out w2 w2 _ hR.only (Below.refl w2.heap.size w2) (Nat.le_refl _)
      have RR := refInsert_any qs (.slice A qs.length cap) (.slice xa fs.length xc) mx id fs w2 hq2 (by omega) hmx hx2 HFS.out
      rw [show insertR ⟨qs.map Prod.fst, mx⟩ id fs = d2 by rw [HD2.out, editR_3 _ K1.out K2.out]] at RR
      have HRR := Lib.hid RR
      have HR := Lib.hid hR
      have e0 : w2.cell? ⟨w.heap.size, 0, none⟩ = some (.slice A qs.length cap) := B0.cell 0
      have e1 : w2.cell? ⟨w.heap.size, 1, none⟩ = some (.int .i64 mx) := B0.cell 1
      have e2 : w2.cell? ⟨w.heap.size + 1, 1, none⟩ = some (.int .i64 id) := B1.cell 1
      have e3 : w2.cell? ⟨w.heap.size + 1, 2, none⟩ = some (.slice xa fs.length xc) := B1.cell 2
      clear RR hR HRL B0 B1 hq2 hx2 c1 c2
      go_wp2_with fail
      refine HRR.out.mono ?_
      rintro e w3 ⟨v', qs', rfl, hQ⟩
      obtain ⟨B0, _⟩ := BX.out w2 w3 _ HR.out.only hQ.below (Nat.le_refl _)
      have f0 := B0.frozen 0
      have f1 := B0.frozen 1
      have g0 := B0.cell 0
      have g1 := B0.cell 1
      simp only [List.getElem?_toArray, List.getElem?_cons_zero, List.getElem?_cons_succ] at g0 g1
      have MID := Lib.hid (mid_of HH.out HB1.out h3 D0.out D1.out D2.out HF.out HR.out hQ ⟨xa, xc, rfl⟩ (.inl ⟨rfl, rfl⟩) HXLT.out)
      obtain ⟨va, vn, vc, rfl⟩ : ∃ a n c, v' = .slice a n c := by obtain ⟨A', c', e, _⟩ := hQ.ents.empty; exact ⟨A', _, c', e⟩
      clear hQ HRR B0 e0 e1 e2 e3
      go_wp2_with fail
      go_meet
      exact ⟨ev', ps', _, qs', rfl, rfl, rfl, rfl, MID.out⟩
  case rest =>
    obtain ⟨ev', ps', v', qs', rfl, rfl, rfl, rfl, hM⟩ := hcut
    have hxx : Flds wc (.slice xa fs.length xc) fs := HX.out.1.only hM.only (fun hne b hb2 e => by
      obtain ⟨a1, a2⟩ := HXB.out hne b hb2
      rcases e with e | e
      · exact a1 e
      · exact a2 e)
    have FE := Lib.hid (fields_same fs (.slice fa fs.length fc) (.slice xa fs.length xc) wc (flds_of_own hM.frow) hxx (by have := HFS.out.len; omega))
    have c12 : wc.cell? ⟨w.heap.size + 1, 2, none⟩ = some (.slice xa fs.length xc) := hM.c1.cell 2
    have HM := Lib.hid hM
    clear hM hxx c1 c2
    go_wp2_with fail
    refine FE.out.mono ?_
    rintro e w4 ⟨rfl, b4⟩
    have SP := Lib.hid (spoilP_any fs.length (fun r => (Value.slice fa fs.length fc).ownBlock = some r) (.slice fa fs.length fc) w4 (mine_block (row_below HM.out.frow b4 (Nat.le_refl _))) (by have := HFS.out.len; omega))
    have B4 := Lib.hid b4
    have FLO : Hid (∀ r, (Value.slice fa fs.length fc).ownBlock = some r → w.heap.size + 3 ≤ r ∧ r < w1.heap.size) := fun r e => ⟨(HM.out.frow.lt r e).1, HM.out.flt r e⟩
    clear FE b4 c12
    go_wp2_with fail
    refine SP.out.mono ?_
    rintro e w5 ⟨rfl, hsp⟩
    have o45 := spoils_only hsp
    have hlbw : lb < w.heap.size := HH.out.lt (.inl rfl)
    have hbk : ∀ r, BlkR lb ev' ps' v' qs' r → r < w.heap.size ∨ w1.heap.size ≤ r := fun r hr => by
      rcases HM.out.bk r hr with q | ⟨q1, q2⟩ | q
      · exact .inl (HH.out.lt q)
      · exact .inl (HXLT.out q1 r q2).1
      · exact .inr q
    have ST5 := Lib.hid ((HM.out.st.below B4.out (Nat.le_refl _)).only o45 (fun r hr e => by have := FLO.out r e; have := hbk r hr; omega))
    have b0 : Cells w5 w.heap.size 32 #[v', .int .i64 d2.ls.next] := (cells_kept HM.out.c0 B4.out HM.out.c0.lt).only o45 (fun e => by have := FLO.out _ e; omega)
    have b2 : Cells w5 (w.heap.size + 2) 32 #[.slice none 0 0, .int .i64 0] := (cells_kept HM.out.c2 B4.out HM.out.c2.lt).only o45 (fun e => by have := FLO.out _ e; omega)
    have er : ErrZ w1.heap.size w5 u9 d1.at_ d1.bad := (HM.out.err.below B4.out (Nat.le_refl _)).only o45 (fun r hr e => by have := FLO.out r e; omega)
    have er' : ErrZ w1.heap.size w5.drew u9 d1.at_ d1.bad := er.below ((Below.refl _ _).drew) (Nat.le_refl _)
    have oW5 : Only (fun r => r = lb ∨ ev.ownBlock = some r) w w5 := (HM.out.only.below B4.out (HM.out.only.size)).trans (o45.mono (S' := fun r => w.heap.size ≤ r) (fun r _ e => by have := FLO.out r e; omega)) (fun r hr e => absurd e (by omega))
    have OW5 := Lib.hid oW5
    have BK := Lib.hid hbk
    obtain ⟨va, vc, rfl, _⟩ := HM.out.st.q.empty
    have hER : Hid (∀ W, W = w5.drew ∨ W = (w5.drew.setCell ⟨w.heap.size + 2, 0, none⟩ (.slice va qs'.length vc)).setCell ⟨w.heap.size + 2, 1, none⟩ (.int .i64 d2.ls.next) → ErrZ w1.heap.size W u9 d1.at_ d1.bad) := fun W hW => by
      rcases hW with rfl | rfl
      · exact er'
      · exact er'.only ((only_one (b := w.heap.size + 2) _ 0 _).trans (only_one (b := w.heap.size + 2) _ 1 _) (fun r _ e => e)) (fun r hr e => by omega)
    have RE := (b2.drew.set 0 (.slice va qs'.length vc)).set 1 (.int .i64 d2.ls.next)
    rw [set2] at RE
    have HRE := Lib.hid RE
    have HB0 := Lib.hid b0.drew
    have HB2 := Lib.hid b2.drew
    have SD : Hid (sameD d1 d2 = ((((d1.bad : Int) == (d2.bad : Int)) && (d1.at_ == d2.at_)) && (d1.id == d2.id))) := rfl
    clear SP hsp o45 b0 b2 er er' oW5 hbk RE
    go_wp2_with fail
    refine wp_region_any (by kernel_rfl) ?_
    refine region_do _ w5.drew w.heap.size (w.heap.size + 2) u9 va qs'.length vc d2.ls.next d1.bad d2.bad d1.at_ d2.at_ d1.id d2.id _ _ _ _ rfl rfl rfl rfl rfl rfl rfl rfl rfl rfl rfl rfl (by omega) HB0.out ⟨_, HB2.out, rfl⟩ (fun W hW => num_z (hER.out W hW)) (fun W hW => at_z (hER.out W hW)) ?_
    intro a hd h6 h7
    go_wp2_with fail
    refine bodyPost_ret (ret_q2 rfl _ _ (w.heap.size + 2) _ h6 HRE.out rfl) hd ?_
    have hnb : ¬ BlkR lb ev' ps' (.slice va qs'.length vc) qs' (w.heap.size + 2) := fun hr => by
      rcases BK.out _ hr with q | q
      · omega
      · omega
    refine ⟨ev', ps', _, by rw [h7, SD.out], qs', (ST5.out.drew.set 0 _ hnb).set 1 _ hnb, HM.out.es1, HM.out.es2, (OW5.out.drew.setCell (p := ⟨w.heap.size + 2, 0, none⟩) (.inr (by show w.heap.size ≤ w.heap.size + 2; omega)) _).setCell (p := ⟨w.heap.size + 2, 1, none⟩) (.inr (by show w.heap.size ≤ w.heap.size + 2; omega)) _, fun r hr => ?_, fun b e => (HM.out.blk b e).imp _root_.id fun q => by have := HB1.out.size; omega⟩
    rcases HM.out.bk r hr with q | q | q
    · exact .inl q
    · exact .inr (.inl q)
    · exact .inr (.inr (by have := HB1.out.size; omega))
end Go.Proofs.YtiebbgbcojgeoaaGreatDoor

namespace Go.Proofs.YtiebbgbcojgeoaaGreatDoor
open Go.RowKit Go.Shelf Go.Maps Go.ChangeShapes Go.Joins Go.WideShapes
attribute [local go_sem] Oper.semAt_some

structure Ed where
  kind : Int
  id : Int
  fields : List Fld
structure EdIn (W : World) (cs : List Value) (ed : Ed) (fv : Value) : Prop where
  cs : cs = [.int .i64 ed.kind, .int .i64 ed.id, fv]
  flds : FldsIn W fv ed.fields
set_option maxRecDepth 100000 in
theorem edit_in {H : Type} {enc : TypeId × Value → H} {W : World} {base : Nat} {sp : Nat → Bool} {held : Bool} {fuel : Nat} {cs : List Value} {x : DataW H × List MemPlace} (h : DataW.trod enc Tryz.prog W base sp held fuel 38 cs = some x) :
    ∃ ed fv, EdIn W cs ed fv := by
  obtain ⟨xs, m, _, _, hl, hxl, hf⟩ := DataW.trod_struct Tryz.underlying38 h
  have hl2 : cs.length = 3 := hl.trans (by kernel_rfl)
  obtain ⟨c0, c1, c2, rfl⟩ := cells3 hl2
  have k3 : Tryz.prog.cellsOf 3 = 1 := by kernel_rfl
  have k40 : Tryz.prog.cellsOf 36 = 1 := by kernel_rfl
  have hx : ∀ i, i < 3 → ∃ y, xs[i]? = some y := fun i hi => ⟨_, List.getElem?_eq_getElem (by rw [hxl]; exact hi)⟩
  obtain ⟨y0, e0⟩ := hx 0 (by decide)
  obtain ⟨y1, e1⟩ := hx 1 (by decide)
  obtain ⟨y2, e2⟩ := hx 2 (by decide)
  have q0 : DataW.trod enc Tryz.prog W base sp held m 3 (List.take (Tryz.prog.cellsOf 3) [c0, c1, c2]) = _ := hf 0 _ rfl
  have q1 : DataW.trod enc Tryz.prog W base sp held m 3 (List.take (Tryz.prog.cellsOf 3) [c1, c2]) = _ := hf 1 _ rfl
  have q2 : DataW.trod enc Tryz.prog W base sp held m 36 (List.take (Tryz.prog.cellsOf 36) [c2]) = _ := hf 2 _ rfl
  rw [k3, e0] at q0
  rw [k3, e1] at q1
  rw [k40, e2] at q2
  obtain ⟨kind, f0, _, _⟩ := DataW.trod_int Tryz.underlying3 q0
  obtain ⟨id, f1, _, _⟩ := DataW.trod_int Tryz.underlying3 q1
  obtain ⟨fs, hfs⟩ := flds_in (v := c2) q2
  simp at f0 f1
  subst f0 f1
  exact ⟨⟨kind, id, fs⟩, c2, rfl, hfs⟩
/-- A script that came in. -/
structure EdsIn (w : World) (v : Value) (eds : List Ed) : Prop where
  len : eds.length ≤ maxLen
  at_ : ∃ A cap, v = .slice A eds.length cap ∧ eds.length ≤ cap ∧ ∀ (i : Nat) (ed : Ed), eds[i]? = some ed → ∃ b off fv, A = some ⟨b, off, none⟩ ∧ b < w.heap.size ∧ w.cell? ⟨b, off + i * 3, none⟩ = some (.int .i64 ed.kind) ∧ w.cell? ⟨b, off + i * 3 + 1, none⟩ = some (.int .i64 ed.id) ∧ w.cell? ⟨b, off + i * 3 + 1 + 1, none⟩ = some fv ∧ FldsIn w fv ed.fields
set_option maxRecDepth 100000 in
theorem edits_in {H : Type} {enc : TypeId × Value → H} {W : World} {base : Nat} {sp : Nat → Bool} {held : Bool} {fuel : Nat} {v : Value} {x : DataW H × List MemPlace} (h : DataW.trod enc Tryz.prog W base sp held fuel 22 [v] = some x) :
    ∃ eds, EdsIn W v eds := by
  rcases DataW.trod_slice Tryz.underlying22 h with ⟨e, _⟩ | ⟨a, len, cap, elems, rest, n, _, e, _, _, hl, hm, hlen, hel, _, _⟩
  · obtain rfl : v = .slice none 0 0 := by simpa using e
    exact ⟨[], ⟨Nat.zero_le _, none, 0, rfl, Nat.le_refl _, fun i f h => by simp at h⟩⟩
  · obtain rfl : v = .slice (some a) len cap := by simpa using e
    have k3 : Tryz.prog.cellsOf 38 = 3 := by kernel_rfl
    have each : ∀ i, i < len → ∃ ed : Ed, ∃ b off fv, a = ⟨b, off, none⟩ ∧ b < W.heap.size ∧ W.cell? ⟨b, off + i * 3, none⟩ = some (.int .i64 ed.kind) ∧ W.cell? ⟨b, off + i * 3 + 1, none⟩ = some (.int .i64 ed.id) ∧ W.cell? ⟨b, off + i * 3 + 1 + 1, none⟩ = some fv ∧ FldsIn W fv ed.fields := by
      intro i hi
      have h1 := hel i hi
      rw [k3, List.getElem?_eq_getElem (by omega)] at h1
      obtain ⟨cs, hc, ht⟩ := Option.bind_eq_some_iff.1 h1
      obtain ⟨ed, fv, rfl, hf⟩ := edit_in ht
      obtain ⟨_, _, hat⟩ := World.cells?_some hc
      have c0 := hat 0 (by decide)
      have c1 := hat 1 (by decide)
      have c2 := hat 2 (by decide)
      obtain ⟨b, off, spot⟩ := a
      have hspot : spot = none := by
        have h2 := hel 0 (by omega)
        rw [k3, List.getElem?_eq_getElem (by omega)] at h2
        obtain ⟨cs', hc', ht'⟩ := Option.bind_eq_some_iff.1 h2
        obtain ⟨ed', fv', rfl, _⟩ := edit_in ht'
        obtain ⟨_, hlen', hat'⟩ := World.cells?_some hc'
        have := World.cell?_spot (hat' 0 (by decide))
        simpa [Addr.add] using this
      subst hspot
      rw [WideShapes.add_plain] at c0 c1 c2
      exact ⟨ed, b, off, fv, rfl, World.block_lt_of_cell? W _ c0, c0, c1, c2, hf⟩
    have : ∃ g : Nat → Ed, ∀ i, i < len → ∃ b off fv, a = ⟨b, off, none⟩ ∧ b < W.heap.size ∧ W.cell? ⟨b, off + i * 3, none⟩ = some (.int .i64 (g i).kind) ∧ W.cell? ⟨b, off + i * 3 + 1, none⟩ = some (.int .i64 (g i).id) ∧ W.cell? ⟨b, off + i * 3 + 1 + 1, none⟩ = some fv ∧ FldsIn W fv (g i).fields := by
      refine ⟨fun i => if h : i < len then (each i h).choose else ⟨0, 0, []⟩, fun i hi => ?_⟩
      simp only [dif_pos hi]
      exact (each i hi).choose_spec
    obtain ⟨g, hg⟩ := this
    have hll : ((List.range len).map g).length = len := by simp
    refine ⟨(List.range len).map g, ⟨by rw [hll]; omega, some a, cap, by rw [hll], by rw [hll]; exact hl, fun i ed hi => ?_⟩⟩
    have hlt : i < len := by
      rcases Nat.lt_or_ge i len with q | q
      · exact q
      · rw [List.getElem?_eq_none (by rw [hll]; exact q)] at hi; cases hi
    rw [List.getElem?_map, List.getElem?_range hlt] at hi
    obtain rfl := (Option.some.inj hi).symm
    obtain ⟨b, off, fv, ea, hb, c0, c1, c2, hf⟩ := hg i hlt
    exact ⟨b, off, fv, by rw [ea], hb, c0, c1, c2, hf⟩
theorem FldsIn.kept {w w' : World} {v : Value} {fs : List Fld} {N : Nat} (h : FldsIn w v fs) (hb : Below N w w') (hN : w.heap.size ≤ N) : FldsIn w' v fs := ⟨h.flds.below hb hN, h.nil, h.len, h.each⟩
theorem EdsIn.below {w w' : World} {v : Value} {eds : List Ed} {N : Nat} (h : EdsIn w v eds) (hb : Below N w w') (hN : w.heap.size ≤ N) : EdsIn w' v eds := by
  obtain ⟨hl, A, cap, e, hle, hc⟩ := h
  refine ⟨hl, A, cap, e, hle, fun i ed hi => ?_⟩
  obtain ⟨b, off, fv, e1, hbb, c0, c1, c2, hf⟩ := hc i ed hi
  have hbN : b < N := by omega
  exact ⟨b, off, fv, e1, Nat.lt_of_lt_of_le hbb hb.size, (hb.cell (p := ⟨b, off + i * 3, none⟩) hbN).trans c0, (hb.cell (p := ⟨b, off + i * 3 + 1, none⟩) hbN).trans c1, (hb.cell (p := ⟨b, off + i * 3 + 1 + 1, none⟩) hbN).trans c2, hf.kept hb hN⟩
/-- What isn't heavy. -/
def Light (eds : List Ed) : Prop := eds.length ≤ 51 ∧ ∀ ed ∈ eds, ed.fields.length ≤ 61 ∧ (∀ f ∈ ed.fields, f.1.length ≤ 6000 ∧ f.2.length ≤ 6000) ∧ minF ed.fields ≤ 6000
def HeavyR (eds : List Ed) (e : Ending) : Prop := ∃ b : Bool, e = .returned (.bool b) ∧ (b = false → Light eds)
theorem Light.fine {eds : List Ed} (h : Light eds) {ed : Ed} (he : ed ∈ eds) : Fine7 ed.fields :=
  ⟨by have := (h.2 ed he).1; omega, fun f hf => by have := (h.2 ed he).2.1 f hf; omega⟩
set_option maxRecDepth 100000 in
set_option maxHeartbeats 4000000 in
theorem heavy_any (eds : List Ed) (v : Value) (w : World) (h : EdsIn w v eds) :
    Calls Tryz.prog 11 #[v] w fun e w' => HeavyR eds e ∧ Below w.heap.size w w' := by
  have HH := Lib.hid h
  obtain ⟨hm, A, cap, rfl, hle, hc⟩ := h
  have PC := Lib.hid hc
  clear hc
  unfold maxLen at hm
  go_enter Tryz.func11, Tryz.ntmps11
  go_wp2_with fail
  go_loopw [7] (fun i wr => ∃ k : Nat, k ≤ eds.length ∧ k ≤ 51 ∧ i = .int .i64 k ∧ (∀ ed ∈ eds.take k, ed.fields.length ≤ 61 ∧ (∀ f ∈ ed.fields, f.1.length ≤ 6000 ∧ f.2.length ≤ 6000) ∧ minF ed.fields ≤ 6000) ∧ Below w.heap.size w wr) (fun i _ => eds.length - (intOf i).toNat)
  case atStart => exact ⟨0, Nat.zero_le _, by decide, rfl, (fun ed h => by simp at h), Below.refl _ _⟩
  case round =>
    obtain ⟨k, hk, hk51, rfl, hsm, hb⟩ := hrel
    by_cases hlt : k < eds.length
    · obtain ⟨ed, hed⟩ : ∃ ed, eds[k]? = some ed := ⟨_, List.getElem?_eq_getElem hlt⟩
      obtain ⟨b, off, fv, rfl, hbb, c0, c1, c2, hf⟩ := PC.out k ed hed
      obtain ⟨fa, fc, rfl, _, _⟩ := _root_.id hf.flds
      replace c0 := (hb.cell (p := ⟨b, off + k * 3, none⟩) hbb).trans c0
      replace c1 := (hb.cell (p := ⟨b, off + k * 3 + 1, none⟩) hbb).trans c1
      replace c2 := (hb.cell (p := ⟨b, off + k * 3 + 1 + 1, none⟩) hbb).trans c2
      have TK := Lib.hid (show eds.take (k + 1) = eds.take k ++ [ed] by rw [List.take_add_one, hed]; rfl)
      have HSM := Lib.hid hsm
      obtain ⟨wa, hwa⟩ : ∃ wa, wa = wr.alloc (.cells #[.int .i64 ed.kind, .int .i64 ed.id, .slice fa ed.fields.length fc] 38) := ⟨_, rfl⟩
      have hba : Below w.heap.size w wa := by rw [hwa]; exact hb.alloc hb.size _
      have MU := Lib.hid (much_any ed.fields (.slice fa ed.fields.length fc) wa (hf.kept hba (Nat.le_refl _)).flds hf.len hf.each)
      have HBA := Lib.hid hba
      clear hed hsm hf hba
      by_cases h50 : 50 < k
      · subst hwa
        go_wp2_with fail
        go_ret
        exact ⟨⟨true, rfl, fun h => by cases h⟩, HBA.out⟩
      · subst hwa
        go_wp2_with fail
        refine MU.out.mono ?_
        rintro e w2 ⟨⟨q, rfl, hq⟩, b2⟩
        have HB2 := Lib.hid (HBA.out.trans (b2.mono HBA.out.size))
        have HQ := Lib.hid hq
        clear b2 hq MU
        cases q with
        | true =>
          go_wp2_with fail
          go_ret
          exact ⟨⟨true, rfl, fun h => by cases h⟩, HB2.out⟩
        | false =>
          go_wp2_with fail
          go_roundw
          case rel =>
            refine ⟨k + 1, hlt, by omega, by go_num, fun x hx => ?_, HB2.out⟩
            rw [TK.out] at hx
            rcases List.mem_append.1 hx with hx | hx
            · exact HSM.out x hx
            · rw [List.mem_singleton.1 hx]
              obtain ⟨a1, a2, a3⟩ := HQ.out (by first | exact rfl | trivial)
              exact ⟨a1, a2, a3⟩
          case measure => simp [intOf]; omega
    · obtain rfl : k = eds.length := by omega
      rw [List.take_length] at hsm
      have HSM := Lib.hid hsm
      clear PC hsm
      go_wp2_with fail
      go_ret
      exact ⟨⟨false, rfl, fun _ => ⟨hk51, HSM.out⟩⟩, hb⟩
end Go.Proofs.YtiebbgbcojgeoaaGreatDoor

namespace Go.Proofs.YtiebbgbcojgeoaaGreatDoor
open Go.RowKit Go.Shelf
attribute [local go_sem] Oper.semAt_some

theorem parseA7 : parseL [65, 58, 32, 49, 10] = .ok [⟨3, [65, 58, 32, 49, 10], [([65], [49])]⟩] := by kernel_rfl
theorem fromA7 : fromL [⟨3, [65, 58, 32, 49, 10], [([65], [49])]⟩] = ⟨[(⟨3, [65, 58, 32, 49, 10], [([65], [49])]⟩, 1)], 2⟩ := by kernel_rfl
theorem wfA7 : WF [((⟨3, [65, 58, 32, 49, 10], [([65], [49])]⟩ : It), (1 : Int))] := by
  intro e he
  rw [List.mem_singleton.1 he]
  exact .inl ⟨rfl, by decide⟩
theorem insA7 : insertR ⟨[(⟨3, [65, 58, 32, 49, 10], [([65], [49])]⟩, 1)], 2⟩ 0 [([66], [50])] = ⟨⟨[(⟨3, [66, 58, 32, 50, 10], [([66], [50])]⟩, 2), (⟨3, [65, 58, 32, 49, 10], [([65], [49])]⟩, 1)], 3⟩, -9, 0, 2⟩ := by kernel_rfl
theorem txtA7 : (apartL [⟨3, [66, 58, 32, 50, 10], [([66], [50])]⟩, ⟨3, [65, 58, 32, 49, 10], [([65], [49])]⟩]).flatMap It.raw = [66, 58, 32, 50, 10, 10, 65, 58, 32, 49, 10] := by kernel_rfl
/-- Insert by a list whose stanzas are well numbered. -/
theorem insert_R (lb : Nat) (ev : Value) (ps : List Pr) (nx id : Int) (fs : List Fld) (v : Value) (w : World) (h : LA w lb ev ps nx) (hwf : WF (ps.map Prod.fst)) (h4 : lenR (ps.map Prod.fst) ≤ 400) (hps : ps.length ≤ 10000) (hnx : -1000000 ≤ nx ∧ nx ≤ 1000000) (hs : FldR w v fs) (hfs : Fine7 fs) :
    Calls Tryz.prog 32 #[ptr lb, .int .i64 id, v] w fun e w' => ∃ u ev' ps', e = .returned (.tuple #[.int .i64 (insertR ⟨ps.map Prod.fst, nx⟩ id fs).id, u]) ∧ WrR w lb ev ps (insertR ⟨ps.map Prod.fst, nx⟩ id fs) u w' ev' ps' := by
  have := insert_list lb ev ps nx id fs v w h hps hnx hs hfs
  rw [gapP_R hwf, full_R hwf h4, show insertW (gapR (ps.map Prod.fst) id) (decide (400 ≤ lenR (ps.map Prod.fst))) ⟨ps.map Prod.fst, nx⟩ fs = insertR ⟨ps.map Prod.fst, nx⟩ id fs by rw [insertR_W]] at this
  exact this
theorem len_R (lb : Nat) (ev : Value) (ps : List Pr) (nx : Int) (w : World) (h : LR w lb ev ps nx) (hwf : WF (ps.map Prod.fst)) (hps : ps.length ≤ 1000000) :
    Calls Tryz.prog 31 #[ptr lb] w fun e w' => e = .returned (.int .i64 (lenR (ps.map Prod.fst) : Nat)) ∧ Below w.heap.size w w' := by
  have := len_any lb ev ps nx w h hps
  rw [stzP_len hwf] at this
  exact this
set_option maxRecDepth 100000 in
set_option maxHeartbeats 4000000 in
theorem alive7_any (w : World) : Calls Tryz.prog 10 #[] w fun e w' => e = .returned (.bool true) ∧ Below w.heap.size w w' := by
  have OF := Lib.hid (of_any ⟨#[65, 58, 32, 49, 10]⟩ (by decide) w)
  go_enter Tryz.func10, Tryz.ntmps10
  go_wp2_with fail
  refine OF.out.mono ?_
  rintro e w1 hof
  obtain ⟨b1, lb, ev, ps, rfl, hlb, hev, hla, hps⟩ := hof.yes parseA7
  rw [fromA7] at hla hps
  dsimp only at hla hps
  obtain ⟨wa, hwa⟩ : ∃ wa, wa = w1.alloc (.cells #[.string ⟨#[66]⟩, .string ⟨#[50]⟩] 73) := ⟨_, rfl⟩
  have hba : Below w1.heap.size w1 wa := by rw [hwa]; exact (Below.refl _ _).alloc (Nat.le_refl _) _
  have hB : Below w.heap.size w wa := b1.trans (hba.mono b1.size)
  have hfs : wa.ownsRow w1.heap.size 73 2 (sl w1.heap.size 1 1) 1 (cellsF [([66], [50])]) := by
    refine ⟨rfl, .inr ⟨w1.heap.size, 1, _, rfl, Nat.le_refl _, by rw [hwa]; exact heap_alloc_new w1 _, Nat.le_refl _, by decide, rfl, rfl⟩⟩
  have hpl : ps.length = 1 := by have := congrArg List.length hps; simpa using this
  have IN := insert_R lb ev ps 2 0 [([66], [50])] (sl w1.heap.size 1 1) wa (hla.below hba (Nat.le_refl _)) (by rw [hps]; exact wfA7) (by rw [hps]; decide) (by omega) (by decide) (FldR.own hfs) ⟨by decide, fun f hf => by rw [List.mem_singleton.1 hf]; decide⟩
  rw [hps, insA7] at IN
  dsimp only at IN
  have HIN := Lib.hid IN
  have HB := Lib.hid hB
  clear IN hB hfs hba hpl hps hla hof b1 OF
  unfold sl ptr at HIN
  unfold ptr
  subst hwa
  go_wp2_with fail
  refine HIN.out.mono ?_
  rintro e w2 ⟨u, ev', ps', rfl, hR⟩
  have hu : u = .nilIface := by
    obtain ⟨_, ⟨h, _⟩ | ⟨k, _, _, h0⟩⟩ := hR.err
    · exact h
    · exact absurd rfl h0
  subst hu
  have hes := hR.es
  dsimp only at hes
  have hl2 : ps'.length = 2 := by have := congrArg List.length hes; simpa using this
  have hmem : ∀ p ∈ ps', p.1 = (⟨3, [66, 58, 32, 50, 10], [([66], [50])]⟩, 2) ∨ p.1 = (⟨3, [65, 58, 32, 49, 10], [([65], [49])]⟩, 1) := fun p hp => by
    have : p.1 ∈ ps'.map Prod.fst := List.mem_map_of_mem hp
    rw [hes] at this
    simpa using this
  have ok : EntsOk ps' := by
    refine ⟨by omega, fun p hp => ?_, fun p hp => ?_, fun p hp => ?_⟩
    all_goals
      rcases hmem p hp with e | e
      all_goals
        rw [e]; decide
  have hits : itsP ps' = [⟨3, [66, 58, 32, 50, 10], [([66], [50])]⟩, ⟨3, [65, 58, 32, 49, 10], [([65], [49])]⟩] := by
    have : itsP ps' = (ps'.map Prod.fst).map Prod.fst := by unfold itsP; rw [List.map_map]; rfl
    rw [this, hes]; rfl
  have hB2 : Below w.heap.size w w2 := by
    have h1 := hR.only.below (Below.refl w2.heap.size w2) hR.only.size
    exact HB.out.trans (h1.to_below HB.out.size (fun r hr e => by
      rcases e with e | e
      · omega
      · have := hev r e; omega))
  have TX := text_gen ps' ev' (some ⟨lb, 0, none⟩) w2 (AllR.of hR.la.lr) ok
  rw [hits, txtA7] at TX
  have HTX := Lib.hid TX
  have wf2 : WF (ps'.map Prod.fst) := by
    rw [hes]
    intro e he
    rcases List.mem_cons.1 he with rfl | he
    · exact .inl ⟨rfl, by decide⟩
    · rw [List.mem_singleton.1 he]; exact .inl ⟨rfl, by decide⟩
  have LN := fun W (hW : Below w2.heap.size w2 W) => len_R lb ev' ps' 3 W (hR.la.lr.below hW (Nat.le_refl _)) wf2 (by omega)
  have l2 : lenR (ps'.map Prod.fst) = 2 := by rw [hes]; decide
  rw [l2] at LN
  have LN := Lib.hid LN
  have HB2 := Lib.hid hB2
  clear TX hB2 wf2 l2 hits ok hmem hl2 hes hR HIN
  unfold ptr at LN
  go_wp2_with fail
  refine HTX.out.mono ?_
  rintro e w3 ⟨rfl, b3⟩
  have LN3 := Lib.hid (LN.out w3 b3)
  have hq : ((B [66, 58, 32, 50, 10, 10, 65, 58, 32, 49, 10]).toList == [66, 58, 32, 50, 10, 10, 65, 58, 32, 49, 10]) = true := by kernel_rfl
  have HB3 := Lib.hid (HB2.out.trans (b3.mono HB2.out.size))
  clear LN b3
  go_wp2_with fail
  refine LN3.out.mono ?_
  rintro e w4 ⟨rfl, b4⟩
  have HB4 := Lib.hid (HB3.out.trans (b4.mono HB3.out.size))
  clear LN3 b4
  go_wp2_with fail
  go_ret
  exact ⟨rfl, HB4.out⟩
end Go.Proofs.YtiebbgbcojgeoaaGreatDoor

namespace Go.Proofs.YtiebbgbcojgeoaaGreatDoor

theorem stz_nums {ps : List Pr} (h : WF (ps.map Prod.fst)) : (stzP 0 ps).map (fun x => x.2.1.2) = nums (ps.map Prod.fst) := by
  have h1 := stz_filter 0 (ps.map Prod.fst) h
  have h2 : (stzOn 0 (ps.map Prod.fst)) = (stzP 0 ps).map fun x => (x.1, x.2.1) := by
    unfold stzOn stzP
    rw [← stzG_map (κ := fun e : En => e.1.kind) Prod.fst]
  rw [h2, List.map_map] at h1
  unfold nums
  rw [List.filter_map]
  have h3 : (List.filter ((fun n => decide (0 < n)) ∘ Prod.snd) (ps.map Prod.fst)) = (ps.map Prod.fst).filter fun e : En => decide (0 < e.2) := rfl
  rw [h3, ← h1, List.map_map]
  rfl
theorem findIdx_nodup : ∀ (l : List Int) (i : Nat) (n : Int), l.Nodup → l[i]? = some n → (l.findIdx? fun m => m == n) = some i
  | [], i, n, _, h => by simp at h
  | a :: l, 0, n, _, h => by
    have : a = n := by simpa using h
    rw [List.findIdx?_cons, if_pos (by simpa using this)]
  | a :: l, i + 1, n, hd, h => by
    obtain ⟨h1, h2⟩ := List.nodup_cons.1 hd
    have h' : l[i]? = some n := by simpa using h
    have hne : a ≠ n := fun e => h1 (by rw [e]; exact List.mem_of_getElem? h')
    rw [List.findIdx?_cons, if_neg (by simpa using hne), findIdx_nodup l i n h2 h']
    rfl
theorem place_nums {ps : List Pr} (h : WF (ps.map Prod.fst)) (nd : (nums (ps.map Prod.fst)).Nodup) {i : Nat} {n : Int} (hi : (nums (ps.map Prod.fst))[i]? = some n) : placeP ps n = (i : Nat) := by
  have hf := findIdx_nodup _ i n nd hi
  rw [← stz_nums h, List.findIdx?_map] at hf
  unfold placeP
  have : ((stzP 0 ps).findIdx? fun x => x.2.1.2 == n) = some i := hf
  rw [this]
end Go.Proofs.YtiebbgbcojgeoaaGreatDoor

namespace Go.Proofs.YtiebbgbcojgeoaaGreatDoor
open Go.RowKit Go.Shelf

theorem next_cnt : ∀ (n : Int) (its : List It), fromNext n its = n + cnt3 its
  | n, [] => by simp [fromNext, cnt3]
  | n, it :: r => by
    unfold cnt3
    by_cases hk : it.kind = 3
    · rw [fromNext, if_pos hk, next_cnt (n + 1) r, List.filter_cons, if_pos (by simpa using hk), List.length_cons]
      unfold cnt3; omega
    · rw [fromNext, if_neg hk, next_cnt n r, List.filter_cons, if_neg (by simpa using hk)]
      unfold cnt3; rfl
theorem from_lenR (its : List It) : (lenR (fromL its).es : Int) = (fromL its).next - 1 := by
  obtain ⟨_, _, c, _⟩ := nums_from 1 its (by decide)
  have h1 : lenR (fromL its).es = cnt3 its := by rw [← nums_len]; exact c
  have h2 : (fromL its).next = 1 + cnt3 its := next_cnt 1 its
  omega
/-- Entries of a modest size. -/
def SzL (es : List En) : Prop := ∀ e ∈ es, e.1.raw.length ≤ 100000 ∧ e.1.fields.length ≤ 1000000
theorem edit_mem (l : LS) (kind id : Int) (fs : List Fld) : ∀ e ∈ (editR l kind id fs).ls.es, e ∈ l.es ∨ (e.1 = itemOf fs ∧ chkN fs = 0) := by
  intro e he
  unfold editR at he
  split at he
  · unfold replaceR at he
    split at he
    · exact .inl he
    · rename_i k hk
      split at he
      · rename_i hc
        have he' : e ∈ setE l.es k (itemOf fs) := he
        unfold setE at he'
        obtain ⟨j, hj⟩ := List.getElem?_of_mem he'
        rw [List.getElem?_modify] at hj
        cases hx : l.es[j]? with
        | none => rw [hx] at hj; cases hj
        | some y =>
          rw [hx] at hj
          have hj' : (if k = j then (itemOf fs, y.2) else y) = e := Option.some.inj hj
          by_cases q : k = j
          · rw [if_pos q] at hj'
            rw [← hj']; exact .inr ⟨rfl, hc⟩
          · rw [if_neg q] at hj'
            rw [← hj']; exact .inl (List.mem_of_getElem? hx)
      · exact .inl he
  · split at he
    · unfold deleteR at he
      split at he
      · exact .inl he
      · have he' : e ∈ cutE l.es _ := he
        unfold cutE at he'
        rcases List.mem_append.1 he' with q | q
        · exact .inl (List.mem_of_mem_take q)
        · exact .inl (List.mem_of_mem_drop q)
    · unfold insertR at he
      split at he
      · exact .inl he
      · split at he
        · rename_i hc
          split at he
          · exact .inl he
          · have he' : e ∈ putE l.es _ (itemOf fs, l.next) := he
            unfold putE at he'
            rcases List.mem_append.1 he' with q | q
            · exact .inl (List.mem_of_mem_take q)
            · rcases List.mem_cons.1 q with q | q
              · rw [q]; exact .inr ⟨rfl, hc⟩
              · exact .inl (List.mem_of_mem_drop q)
        · exact .inl he
/-- The list that a law carries: its blocks lie at or above S0. -/
structure Carry (S0 : Nat) (w : World) (lb : Nat) (ev : Value) (ps : List Pr) (l : LS) (m : Nat) : Prop where
  la : LA w lb ev ps l.next
  es : ps.map Prod.fst = l.es
  ok : OkL l
  sz : SzL l.es
  lb0 : S0 ≤ lb
  ev0 : ∀ b, ev.ownBlock = some b → S0 ≤ b
  len : l.es.length ≤ m
  nx : l.next ≤ m + 1
theorem Carry.wf {S0 : Nat} {w : World} {lb : Nat} {ev : Value} {ps : List Pr} {l : LS} {m : Nat} (h : Carry S0 w lb ev ps l m) : WF (ps.map Prod.fst) := by rw [h.es]; exact h.ok.wf
theorem Carry.below {S0 : Nat} {w w' : World} {lb : Nat} {ev : Value} {ps : List Pr} {l : LS} {m N : Nat} (h : Carry S0 w lb ev ps l m) (hb : Below N w w') (hN : w.heap.size ≤ N) : Carry S0 w' lb ev ps l m :=
  ⟨h.la.below hb hN, h.es, h.ok, h.sz, h.lb0, h.ev0, h.len, h.nx⟩
theorem Carry.ents {S0 : Nat} {w : World} {lb : Nat} {ev : Value} {ps : List Pr} {l : LS} {m : Nat} (h : Carry S0 w lb ev ps l m) (hm : m ≤ 10000) : EntsOk ps := by
  have hmem : ∀ p ∈ ps, p.1 ∈ l.es := fun p hp => by rw [← h.es]; exact List.mem_map_of_mem hp
  have hl : ps.length = l.es.length := by rw [← h.es, List.length_map]
  refine ⟨by have := h.len; omega, fun p hp => (h.sz _ (hmem p hp)).1, fun p hp => (h.sz _ (hmem p hp)).2, fun p hp => ?_⟩
  rcases h.ok.wf _ (hmem p hp) with ⟨_, q⟩ | ⟨_, q⟩
  · have hn : p.1.2 ∈ nums l.es := by
      unfold nums
      exact List.mem_filter.2 ⟨List.mem_map_of_mem (hmem p hp), by simpa using q⟩
    have := h.ok.lt _ hn
    have := h.nx
    omega
  · omega
theorem Carry.str {S0 : Nat} {w : World} {lb : Nat} {ev : Value} {ps : List Pr} {l : LS} {m : Nat} (h : Carry S0 w lb ev ps l m) : StR w lb ev ps l.next (.slice none 0 0) [] :=
  ⟨h.la, entsQ_none w, (fun b e => by cases e), (fun p hp => by cases hp)⟩
theorem SzL.edit {l : LS} (h : SzL l.es) (kind id : Int) {fs : List Fld} (h1 : (foldG fs).length ≤ 100000) (h2 : fs.length ≤ 1000000) : SzL (editR l kind id fs).ls.es := fun e he => by
  rcases edit_mem l kind id fs e he with q | ⟨q, _⟩
  · exact h e q
  · rw [q]; exact ⟨h1, h2⟩
/-- Behind an edit (of whatever kind, by whatever call) the list is carried on. -/
theorem Carry.edit {S0 : Nat} {w w' : World} {lb : Nat} {ev ev' : Value} {ps ps' : List Pr} {l : LS} {m : Nat} (h : Carry S0 w lb ev ps l m) (kind id : Int) {fs : List Fld} (h1 : (foldG fs).length ≤ 100000) (h2 : fs.length ≤ 1000000)
    (la : LA w' lb ev' ps' (editR l kind id fs).ls.next) (es : ps'.map Prod.fst = (editR l kind id fs).ls.es) (hS : S0 ≤ w.heap.size) (hev : ∀ b, ev'.ownBlock = some b → ev.ownBlock = some b ∨ w.heap.size ≤ b) : Carry S0 w' lb ev' ps' (editR l kind id fs).ls (m + 1) := by
  obtain ⟨a, _, c⟩ := edit_len l kind id fs
  have hl := h.len
  have hn := h.nx
  refine ⟨la, es, h.ok.edit kind id fs, h.sz.edit kind id h1 h2, h.lb0, fun b e => ?_, by omega, by omega⟩
  rcases hev b e with q | q
  · exact h.ev0 b q
  · omega
end Go.Proofs.YtiebbgbcojgeoaaGreatDoor

namespace Go.Proofs.YtiebbgbcojgeoaaGreatDoor
open Go.RowKit Go.Shelf

/-- Entries whose items stand alone. -/
def ItmL (es : List En) : Prop := ∀ e ∈ es, Itm e.1
theorem ItmL.edit {l : LS} (h : ItmL l.es) (kind id : Int) (fs : List Fld) : ItmL (editR l kind id fs).ls.es := fun e he => by
  rcases edit_mem l kind id fs e he with q | ⟨q, hc⟩
  · exact h e q
  · rw [q]; exact .inl (blk_item hc)
end Go.Proofs.YtiebbgbcojgeoaaGreatDoor

namespace Go.Proofs.YtiebbgbcojgeoaaGreatDoor
open Go.RowKit Go.Shelf

theorem pairs_nums {es : List En} (h : (nums es).Nodup) : es.Pairwise fun x y => 0 < x.2 → 0 < y.2 → x.2 ≠ y.2 := by
  unfold nums at h
  have h1 : ((es.map Prod.snd).filter fun n => decide (0 < n)).Pairwise (· ≠ ·) := h
  rw [List.pairwise_filter, List.pairwise_map] at h1
  exact h1.imp fun {a b} q ha hb => q (by simpa using ha) (by simpa using hb)
theorem same_num {es : List En} (h : (nums es).Nodup) {i j : Nat} {x y : En} (hi : es[i]? = some x) (hj : es[j]? = some y) (hp : 0 < x.2) (he : x.2 = y.2) : i = j := by
  have hp' := List.pairwise_iff_getElem.1 (pairs_nums h)
  obtain ⟨li, ei⟩ := List.getElem?_eq_some_iff.1 hi
  obtain ⟨lj, ej⟩ := List.getElem?_eq_some_iff.1 hj
  rcases Nat.lt_trichotomy i j with q | q | q
  · have := hp' i j li lj q
    rw [ei, ej] at this
    exact absurd he (this hp (by omega))
  · exact q
  · have := hp' j i lj li q
    rw [ei, ej] at this
    exact absurd he.symm (this (by omega) hp)
end Go.Proofs.YtiebbgbcojgeoaaGreatDoor

namespace Go.Proofs.YtiebbgbcojgeoaaGreatDoor
open Go.RowKit Go.Shelf
attribute [local go_sem] Oper.semAt_some

theorem Mine.below {lo n : Nat} {w w' : World} {v : Value} (h : Mine w lo v n) (hb : Below w.heap.size w w') : Mine w' lo v n := by
  rcases h with h | ⟨g, cap, cur, e, h0, h1, h2, h3⟩
  · exact .inl h
  · have hg : g < w.heap.size := (Array.getElem?_eq_some_iff.1 h2).1
    exact .inr ⟨g, cap, cur, e, h0, h1, (hb.block g hg).trans h2, h3⟩
theorem row_spoilt {lo lo' n sz : Nat} {w w' : World} {v : Value} {t : TypeId} {xs : List Value} (h : w.ownsRow lo' t sz v n xs) (hs : Spoilt lo w w') (ht : t ≠ 73) : w'.ownsRow lo' t sz v n xs := by
  refine ⟨h.1, ?_⟩
  rcases h.2 with q | ⟨g, cap, cur, q, a, hg, r⟩
  · exact .inl q
  · rcases hs.same g _ hg with k | ⟨_, c1, c2, k1, _, _⟩
    · exact .inr ⟨g, cap, cur, q, a, k, r⟩
    · injection k1 with _ k2 _
      exact absurd k2 ht
/-- The stanzas, by what the document's list and the program's have in common. -/
def stzE (es : List En) : List Stz := (es.filter fun e => decide (0 < e.2)).map fun e => (e.2, e.1.fields)
theorem stzN_E (ps : List Pr) : stzN ps = stzE (ps.map Prod.fst) := by
  unfold stzN stzE
  rw [List.filter_map, List.map_map]; rfl
theorem itsP_E (ps : List Pr) : itsP ps = (ps.map Prod.fst).map Prod.fst := by unfold itsP; rw [List.map_map]; rfl
theorem stz_len {ps : List Pr} (h : WF (ps.map Prod.fst)) : (stzL (stzP 0 ps)).length = lenR (ps.map Prod.fst) := by
  rw [← stzN_eq h]
  unfold stzN lenR
  rw [List.length_map, List.filter_map, List.length_map]; rfl
/-- The i-th stanza among entries: where it stands. -/
theorem stz_at {ps : List Pr} {i : Nat} {s : Stz} (h : (stzL (stzP 0 ps))[i]? = some s) : ∃ (j : Nat) (p : Pr), ps[j]? = some p ∧ p.1.1.kind = 3 ∧ s = (p.1.2, p.1.1.fields) := by
  unfold stzL at h
  rw [List.getElem?_map] at h
  obtain ⟨x, hx, rfl⟩ := Option.map_eq_some_iff.1 h
  obtain ⟨_, h2, h3⟩ := stzG_mem 0 ps x (List.mem_of_getElem? hx)
  exact ⟨x.1, x.2, by simpa using h2, h3, rfl⟩
theorem found_at {ps : List Pr} (wf : WF (ps.map Prod.fst)) (nd : (nums (ps.map Prod.fst)).Nodup) {j : Nat} {p : Pr} (hp : ps[j]? = some p) (h3 : p.1.1.kind = 3) : 0 < p.1.2 ∧ findR (ps.map Prod.fst) p.1.2 = some j := by
  have he : (ps.map Prod.fst)[j]? = some p.1 := by rw [List.getElem?_map, hp]; rfl
  have hpos : 0 < p.1.2 := by
    rcases wf p.1 (List.mem_of_getElem? he) with ⟨_, q⟩ | ⟨q, _⟩
    · exact q
    · exact absurd h3 q
  refine ⟨hpos, ?_⟩
  have hex : (findR (ps.map Prod.fst) p.1.2).isSome = true := by
    unfold findR
    rw [if_pos hpos, List.findIdx?_isSome, List.any_eq_true]
    exact ⟨p.1, List.mem_of_getElem? he, by simp⟩
  obtain ⟨k, hk⟩ := Option.isSome_iff_exists.1 hex
  obtain ⟨_, e', he', hn, _⟩ := findR_lt hk
  rw [hk, same_num nd he' he (by omega) hn]
structure StandIn (w : World) (lb : Nat) (ev v : Value) (ps qs : List Pr) (nx : Int) : Prop where
  st : StR w lb ev ps nx v qs
  es : qs.map Prod.fst = ps.map Prod.fst
  wf : WF (ps.map Prod.fst)
  nd : (nums (ps.map Prod.fst)).Nodup
  ok : EntsOk ps
  nx : -1000000 ≤ nx ∧ nx ≤ 1000000
theorem StandIn.below {w w' : World} {lb : Nat} {ev v : Value} {ps qs : List Pr} {nx : Int} {N : Nat} (h : StandIn w lb ev v ps qs nx) (hb : Below N w w') (hN : w.heap.size ≤ N) : StandIn w' lb ev v ps qs nx :=
  ⟨h.st.below hb hN, h.es, h.wf, h.nd, h.ok, h.nx⟩
theorem StandIn.qlen {w : World} {lb : Nat} {ev v : Value} {ps qs : List Pr} {nx : Int} (h : StandIn w lb ev v ps qs nx) : qs.length ≤ 10000 := by
  have := congrArg List.length h.es
  rw [List.length_map, List.length_map] at this
  have := h.ok.len
  omega
theorem StandIn.qraw {w : World} {lb : Nat} {ev v : Value} {ps qs : List Pr} {nx : Int} (h : StandIn w lb ev v ps qs nx) : ∀ q ∈ qs, q.1.1.raw.length ≤ 100000 := fun q hq => by
  have h1 : q.1 ∈ ps.map Prod.fst := by rw [← h.es]; exact List.mem_map_of_mem hq
  obtain ⟨p, hp, hpq⟩ := List.mem_map.1 h1
  rw [← hpq]; exact h.ok.raw p hp
theorem StandIn.stz {w : World} {lb : Nat} {ev v : Value} {ps qs : List Pr} {nx : Int} (h : StandIn w lb ev v ps qs nx) : stzN qs = stzL (stzP 0 ps) := by
  rw [stzN_E, h.es, ← stzN_E, stzN_eq h.wf]
theorem StandIn.its {w : World} {lb : Nat} {ev v : Value} {ps qs : List Pr} {nx : Int} (h : StandIn w lb ev v ps qs nx) : itsP qs = itsP ps := by
  rw [itsP_E, itsP_E, h.es]
-- the calls, in whatever world behind
section
variable {w : World} {lb : Nat} {ev v : Value} {ps qs : List Pr} {nx : Int}
theorem StandIn.cStanzas (h : StandIn w lb ev v ps qs nx) : Calls Tryz.prog 27 #[ptr lb] w fun e w' => ∃ u, e = .returned u ∧ Szs w' u (stzL (stzP 0 ps)) ∧ Below w.heap.size w w' :=
  (stanzas_gen ps ev (some ⟨lb, 0, none⟩) w (fun W hW => AllR.of (h.st.la.lr.below hW (Nat.le_refl _))) h.ok).mono fun e w' ⟨u, fvs, he, acc⟩ => ⟨u, he, acc.szs, acc.below⟩
theorem StandIn.cRefStanzas (h : StandIn w lb ev v ps qs nx) : Calls Tryz.prog 59 #[.agg #[v, .int .i64 nx]] w fun e w' => ∃ u, e = .returned u ∧ Szs w' u (stzL (stzP 0 ps)) ∧ Below w.heap.size w w' :=
  (refStanzas7_any qs v nx w h.st.q h.qlen).mono fun e w' ⟨u, fvs, he, acc⟩ => ⟨u, he, by rw [← h.stz]; exact acc.szs, acc.below⟩
theorem StandIn.cItems (h : StandIn w lb ev v ps qs nx) : Calls Tryz.prog 30 #[ptr lb] w fun e w' => ∃ u, e = .returned u ∧ Its w' u (itsP ps) ∧ Below w.heap.size w w' :=
  (items_gen ps ev (some ⟨lb, 0, none⟩) w (AllR.of h.st.la.lr) h.ok).mono fun e w' ⟨u, fvs, he, acc⟩ => ⟨u, he, acc.its, acc.below⟩
theorem StandIn.cRefItems (h : StandIn w lb ev v ps qs nx) : Calls Tryz.prog 61 #[.agg #[v, .int .i64 nx]] w fun e w' => ∃ u, e = .returned u ∧ Its w' u (itsP ps) ∧ Below w.heap.size w w' :=
  (refItems7_any qs v nx w h.st.q h.qlen).mono fun e w' ⟨u, fvs, he, acc⟩ => ⟨u, he, by rw [← h.its]; exact acc.its, acc.below⟩
theorem StandIn.cText (h : StandIn w lb ev v ps qs nx) : Calls Tryz.prog 24 #[ptr lb] w fun e w' => ∃ u, e = .returned u ∧ u = .string (B ((apartL (itsP ps)).flatMap It.raw)) ∧ Below w.heap.size w w' :=
  (text_gen ps ev (some ⟨lb, 0, none⟩) w (AllR.of h.st.la.lr) h.ok).mono fun e w' ⟨he, b⟩ => ⟨_, he, rfl, b⟩
theorem StandIn.cRefText (h : StandIn w lb ev v ps qs nx) : Calls Tryz.prog 62 #[.agg #[v, .int .i64 nx]] w fun e w' => ∃ u, e = .returned u ∧ u = .string (B ((apartL (itsP ps)).flatMap It.raw)) ∧ Below w.heap.size w w' :=
  (refText7_any qs v nx w h.st.q h.qlen h.qraw).mono fun e w' ⟨he, b⟩ => ⟨_, he, by rw [h.its], b⟩
theorem StandIn.cLen (h : StandIn w lb ev v ps qs nx) : Calls Tryz.prog 31 #[ptr lb] w fun e w' => ∃ u, e = .returned u ∧ u = .int .i64 ((stzL (stzP 0 ps)).length : Nat) ∧ Below w.heap.size w w' :=
  (len_R lb ev ps nx w h.st.la.lr h.wf (by have := h.ok.len; omega)).mono fun e w' ⟨he, b⟩ => ⟨_, he, by rw [stz_len h.wf], b⟩
theorem StandIn.cNext (h : StandIn w lb ev v ps qs nx) : Calls Tryz.prog 29 #[ptr lb] w fun e w' => ∃ u, e = .returned u ∧ u = .int .i64 nx ∧ Below w.heap.size w w' :=
  (next_any lb ev ps nx w h.st.la.lr h.nx).mono fun e w' ⟨he, b⟩ => ⟨_, he, rfl, by rw [← b]; exact Below.refl _ _⟩
theorem StandIn.cPlace (h : StandIn w lb ev v ps qs nx) (id : Int) : Calls Tryz.prog 22 #[ptr lb, .int .i64 id] w fun e w' => ∃ u, e = .returned u ∧ u = .int .i64 (placeP ps id) ∧ Below w.heap.size w w' :=
  (place_gen ps ev (some ⟨lb, 0, none⟩) id w (fun W hW => AllR.of (h.st.la.lr.below hW (Nat.le_refl _))) (by have := h.ok.len; omega)).mono fun e w' ⟨he, b⟩ => ⟨_, he, rfl, b⟩
theorem StandIn.cRefPlace (h : StandIn w lb ev v ps qs nx) (id : Int) : Calls Tryz.prog 23 #[.agg #[v, .int .i64 nx], .int .i64 id] w fun e w' => ∃ u, e = .returned u ∧ u = .int .i64 (placeP ps id) ∧ Below w.heap.size w w' :=
  (refPlace7_any qs v nx id w h.st.q h.qlen).mono fun e w' ⟨he, b⟩ => ⟨_, he, by rw [h.stz, placeS_P], b⟩
end
theorem cSame {rs : List Stz} {x y : Value} {w : World} (hx : Szs w x rs) (hy : Szs w y rs) (hn : rs.length ≤ 1000000) (hf : ∀ s ∈ rs, s.2.length ≤ 1000000) : Calls Tryz.prog 58 #[x, y] w fun e w' => ∃ u, e = .returned u ∧ u = .bool true ∧ Below w.heap.size w w' :=
  (stanzas_quiet rs x y w hx hy hn hf).mono fun e w' ⟨he, m, hw⟩ => ⟨_, he, rfl, by rw [hw]; exact drewN_below (Below.refl _ _) m⟩
theorem cSameI {its : List It} {x y : Value} {w : World} (hx : Its w x its) (hy : Its w y its) (hn : its.length ≤ 1000000) (hf : ∀ it ∈ its, it.fields.length ≤ 1000000) : Calls Tryz.prog 60 #[x, y] w fun e w' => ∃ u, e = .returned u ∧ u = .bool true ∧ Below w.heap.size w w' :=
  (items_quiet its x y w hx hy hn hf).mono fun e w' ⟨he, m, hw⟩ => ⟨_, he, rfl, by rw [hw]; exact drewN_below (Below.refl _ _) m⟩
theorem cSameF {fs : List Fld} {x y : Value} {w : World} (hx : Flds w x fs) (hy : Flds w y fs) (hn : fs.length ≤ 1000000) : Calls Tryz.prog 21 #[x, y] w fun e w' => ∃ u, e = .returned u ∧ u = .bool true ∧ Below w.heap.size w w' :=
  (fields_quiet fs x y w hx hy hn).mono fun e w' ⟨he, m, hw⟩ => ⟨_, he, rfl, by rw [hw]; exact drewN_below (Below.refl _ _) m⟩
theorem stz_small {ps : List Pr} (ok : EntsOk ps) : (stzL (stzP 0 ps)).length ≤ 10000 ∧ ∀ s ∈ stzL (stzP 0 ps), s.2.length ≤ 1000000 := by
  refine ⟨?_, fun s hs => ?_⟩
  · unfold stzL
    rw [List.length_map]
    exact Nat.le_trans (stzG_len 0 ps) ok.len
  · obtain ⟨i, hi⟩ := List.getElem?_of_mem hs
    obtain ⟨j, p, hp, _, rfl⟩ := stz_at hi
    exact ok.fields p (List.mem_of_getElem? hp)
end Go.Proofs.YtiebbgbcojgeoaaGreatDoor

namespace Go.Proofs.YtiebbgbcojgeoaaGreatDoor
open Go.RowKit Go.Shelf
attribute [local go_sem] Oper.semAt_some

theorem cells_spoilt {lo b : Nat} {w w' : World} {t : TypeId} {cur : Array Value} (h : Cells w b t cur) (hs : Spoilt lo w w') (ht : t ≠ 73) : Cells w' b t cur := by
  rcases hs.same b _ h with k | ⟨_, c1, c2, k1, _, _⟩
  · exact k
  · injection k1 with _ k2 _
    exact absurd k2 ht
theorem Mine.form {lo n : Nat} {w : World} {v : Value} (h : Mine w lo v n) : ∃ A c, v = .slice A n c := by
  rcases h with ⟨rfl, A, c, e⟩ | ⟨g, cap, cur, e, _⟩
  · exact ⟨A, c, e⟩
  · exact ⟨_, cap, e⟩
set_option maxRecDepth 100000 in
set_option maxHeartbeats 8000000 in
theorem stands_any {w : World} {lb : Nat} {ev v : Value} {ps qs : List Pr} {nx : Int} (h : StandIn w lb ev v ps qs nx) :
    Calls Tryz.prog 17 #[ptr lb, .agg #[v, .int .i64 nx]] w fun e w' => e = .returned (.bool true) ∧ Below w.heap.size w w' := by
  obtain ⟨A, cap, rfl, _⟩ := h.st.q.empty
  obtain ⟨W0, hW0⟩ : ∃ W0, W0 = w.alloc (.cells #[.slice A qs.length cap, .int .i64 nx] 32) := ⟨_, rfl⟩
  have hb0 : Below w.heap.size w W0 := by rw [hW0]; exact (Below.refl _ w).alloc (Nat.le_refl _) _
  have hz0 : W0.heap.size = w.heap.size + 1 := by rw [hW0]; simp
  have BX0 : Cells W0 w.heap.size 32 #[.slice A qs.length cap, .int .i64 nx] := by rw [hW0]; exact Cells.new _ _ _
  have IN0 := h.below hb0 (Nat.le_refl _)
  have ST := Lib.hid (stanzas_gen ps ev (some ⟨lb, 0, none⟩) W0 (fun W hW => AllR.of (IN0.st.la.lr.below hW (Nat.le_refl _))) h.ok)
  have HIN := Lib.hid (show ∀ W, Below W0.heap.size W0 W → StandIn W lb ev (.slice A qs.length cap) ps qs nx ∧ Cells W w.heap.size 32 #[.slice A qs.length cap, .int .i64 nx] from fun W hW => ⟨IN0.below hW (Nat.le_refl _), BX0.below hW BX0.lt⟩)
  have HB0 := Lib.hid hb0
  obtain ⟨hn1, hf1⟩ := stz_small h.ok
  have hil : (itsP ps).length ≤ 1000000 := by rw [itsP_len]; have := h.ok.len; omega
  have hif := itsP_fields h.ok
  have HWF := Lib.hid h.wf
  have HND := Lib.hid h.nd
  have HOK := Lib.hid h.ok
  have HF1 := Lib.hid hf1
  have HIF := Lib.hid hif
  have HES := Lib.hid h.es
  clear h hb0 BX0 IN0 hf1 hif
  unfold ptr
  go_enter Tryz.func17, Tryz.ntmps17
  go_wp2_with fail
  rw [← hW0]
  clear hW0
  refine ST.out.mono ?_
  rintro e w2 ⟨u, fvs, rfl, acc⟩
  obtain ⟨rs, hrs⟩ : ∃ rs, rs = stzL (stzP 0 ps) := ⟨_, rfl⟩
  have HRS := Lib.hid hrs
  rw [← hrs] at acc hn1
  obtain ⟨ua, uc, rfl, _⟩ := own_slice acc.row
  have b2 := acc.below
  have hz2 := b2.size
  have HACC := Lib.hid acc
  have HSZ := Lib.hid (show ∀ W, Below w2.heap.size w2 W → Szs W (.slice ua rs.length uc) rs from fun W hW => acc.szs.below hW (Nat.le_refl _))
  have HB2 := Lib.hid b2
  clear ST acc b2 hrs
  go_wp2_with fail
  have toIN : ∀ W, Below w2.drew.heap.size w2.drew W → Below W0.heap.size W0 W := fun W hW => HB2.out.trans ((((Below.refl w2.heap.size w2).drew).trans hW).mono hz2)
  have toSZ : ∀ W, Below w2.drew.heap.size w2.drew W → Szs W (.slice ua rs.length uc) rs := fun W hW => HSZ.out W (((Below.refl w2.heap.size w2).drew).trans hW)
  refine wp_region_any (by kernel_rfl) ?_
  refine region_stA _ w2.drew (.slice A qs.length cap) lb w.heap.size rs.length uc ua nx rs (itsP ps) (B ((apartL (itsP ps)).flatMap It.raw)) _ rfl rfl rfl rfl
    (fun W hW => by
      have c := (HIN.out W (toIN W hW)).2
      exact ⟨c.cell 0, c.cell 1⟩)
    (fun W hW => by rw [HRS.out]; exact (HIN.out W (toIN W hW)).1.cRefStanzas)
    (fun W hW z hz => cSame (toSZ W hW) hz (by omega) (by rw [HRS.out]; exact HF1.out))
    (fun W hW => (HIN.out W (toIN W hW)).1.cItems)
    (fun W hW => (HIN.out W (toIN W hW)).1.cRefItems)
    (fun W hW x hx y hy => cSameI hx hy hil HIF.out)
    (fun W hW => (HIN.out W (toIN W hW)).1.cText)
    (fun W hW => (HIN.out W (toIN W hW)).1.cRefText)
    (fun W hW => by rw [HRS.out]; exact (HIN.out W (toIN W hW)).1.cLen)
    (fun W hW => (HIN.out W (toIN W hW)).1.cNext)
    ?_
  intro y0 y1 y2 y3 y4 y5 y6 y7 y8 y9 y10 y11 y12 y13 y14 y15 y16 y17 y18 y19 y20 y21 y22 y23 y24 y25 y26 y27 y28 y29 y30 y31 y32 y33 w3 hb3 h33
  obtain rfl : y33 = .bool false := h33
  have b3 : Below w2.heap.size w2 w3 := ((Below.refl w2.heap.size w2).drew).trans hb3
  have B3 := Lib.hid (HB2.out.trans (b3.mono hz2))
  have hz3 := b3.size
  have ROW3 := Lib.hid (show w3.ownsRow W0.heap.size 63 2 (.slice ua rs.length uc) rs.length (stzCells rs fvs) from own_kept HACC.out.row b3 (Nat.le_refl _))
  have MIN3 : Hid (∀ (j : Nat) s x, rs[j]? = some s → fvs[j]? = some x → Mine w3 W0.heap.size x s.2.length) := fun j s x h1 h2 => (mine_of_own (HACC.out.each j s x h1 h2)).below b3
  have FLN := Lib.hid HACC.out.len
  simp only [List.foldl_cons, List.foldl_nil, List.setIfInBounds_toArray, List.set_cons_zero, List.set_cons_succ]
  clear hb3 b3 toIN toSZ HACC HSZ HB2
  go_wp2_with fail
  go_loopw [52] (fun i W => ∃ k : Nat, k ≤ rs.length ∧ i = .int .i64 k ∧ W.ownsRow W0.heap.size 63 2 (.slice ua rs.length uc) rs.length (stzCells rs fvs) ∧ (∀ (j : Nat) s x, rs[j]? = some s → fvs[j]? = some x → Mine W W0.heap.size x s.2.length) ∧ Below W0.heap.size W0 W) (fun i _ => rs.length - (intOf i).toNat)
  case atStart => exact ⟨0, Nat.zero_le _, rfl, ROW3.out, MIN3.out, B3.out⟩
  case round =>
    clear B3 ROW3 MIN3
    obtain ⟨k, hk, rfl, hrow, hmine, hB⟩ := hrel
    have hzr := hB.size
    have HROW := Lib.hid hrow
    have HMIN := Lib.hid hmine
    have HB := Lib.hid hB
    clear hmine
    by_cases hlt : k < rs.length
    · obtain ⟨s, hs⟩ : ∃ s, rs[k]? = some s := ⟨_, List.getElem?_eq_getElem hlt⟩
      obtain ⟨x, hx⟩ : ∃ x, fvs[k]? = some x := ⟨_, List.getElem?_eq_getElem (by rw [FLN.out]; exact hlt)⟩
      have hm0 := HMIN.out k s x hs hx
      obtain ⟨j, p, hp, hp3, hsp⟩ := stz_at (ps := ps) (i := k) (s := s) (by rw [← HRS.out]; exact hs)
      obtain ⟨hpos, hfind⟩ := found_at HWF.out HND.out hp hp3
      subst hsp
      dsimp only at *
      obtain ⟨xa, xc, rfl⟩ := hm0.form
      obtain ⟨g, cg, hug⟩ := Joins.ownsRow_form hrow (by omega)
      obtain ⟨z0, z1⟩ := stzCells_at rs fvs k _ _ hs hx
      rw [hug] at hrow
      have c0 : wr.cell? ⟨g, k * 2, none⟩ = some (.int .i64 p.1.2) := by rw [World.ownsRow.cellAt hrow (k * 2) (by omega), z0]
      have c1 : wr.cell? ⟨g, k * 2 + 1, none⟩ = some (.slice xa p.1.1.fields.length xc) := by rw [World.ownsRow.cellAt hrow (k * 2 + 1) (by omega), z1]
      injection hug with q1 _ q3
      obtain ⟨wa, hwa⟩ : ∃ wa, wa = wr.alloc (.cells #[.int .i64 p.1.2, .slice xa p.1.1.fields.length xc] 63) := ⟨_, rfl⟩
      have hba : Below wr.heap.size wr wa := by rw [hwa]; exact (Below.refl _ _).alloc (Nat.le_refl _) _
      have hXa : Cells wa wr.heap.size 63 #[.int .i64 p.1.2, .slice xa p.1.1.fields.length xc] := by rw [hwa]; exact Cells.new _ _ _
      have hpf := HOK.out.fields p (List.mem_of_getElem? hp)
      have SP := Lib.hid (spoil_any p.1.1.fields.length W0.heap.size _ wa (hm0.below hba) hpf)
      have HXA := Lib.hid hXa
      have HBA := Lib.hid hba
      have HP := Lib.hid hp
      have HFD := Lib.hid hfind
      have hza := hba.size
      subst q1 q3
      clear hs hx hm0 hp hp3 hfind hrow z0 z1 hXa hba
      subst hwa
      go_wp2_with fail
      refine SP.out.mono ?_
      rintro e w4 ⟨rfl, hs4⟩
      have hs4z : w4.heap.size = _ := hs4.size
      have b4 : Below W0.heap.size W0 w4 := (HB.out.trans (HBA.out.mono hzr)).trans (hs4.below (by omega))
      have X4 := Lib.hid (cells_spoilt HXA.out hs4 (by decide))
      have S4 := Lib.hid hs4
      have HB4 := Lib.hid b4
      have IN4 := HIN.out w4 b4
      have GT := Lib.hid (get_some lb ev ps nx p.1.2 w4 IN4.1.st.la.lr (by have := HOK.out.len; omega) (by rw [findP_R HWF.out]; exact HFD.out) HP.out hpf)
      have x0 : w4.cell? ⟨wr.heap.size, 0, none⟩ = some (.int .i64 p.1.2) := X4.out.cell 0
      have hz4 := b4.size
      unfold ptr at GT
      clear SP hs4 b4 IN4 HXA
      go_wp2_with fail
      refine GT.out.mono ?_
      rintro e w5 ⟨f, rfl, hf, b5⟩
      obtain ⟨fa, fc, rfl, _⟩ := own_slice hf
      have HF := Lib.hid hf
      have HB5 := Lib.hid (HB4.out.trans (b5.mono hz4))
      have X5 := Lib.hid (cells_kept X4.out b5 X4.out.lt)
      have b5_ := Lib.hid b5
      have hz5 := HB5.out.size
      have hz45 := b5.size
      have IN5 := HIN.out w5 HB5.out
      have hRW := raw_any lb ev ps nx p.1.2 w5 IN5.1.st.la.lr (by have := HOK.out.len; omega)
      rw [findP_R HWF.out, HFD.out, show (some j).bind (ps[·]?) = some p from HP.out] at hRW
      dsimp only at hRW
      have RW_ := Lib.hid hRW
      have x1 : w5.cell? ⟨wr.heap.size, 0, none⟩ = some (.int .i64 p.1.2) := X5.out.cell 0
      unfold ptr at RW_
      clear GT hf b5 IN5 hRW x0
      go_wp2_with fail
      refine RW_.out.mono ?_
      rintro e w6 ⟨rfl, b6⟩
      have HB6 := Lib.hid (HB5.out.trans (b6.mono hz5))
      have X6 := Lib.hid (cells_kept X5.out b6 X5.out.lt)
      have b6_ := Lib.hid (b5_.out.trans (b6.mono hz45))
      have F6 := Lib.hid (own_kept HF.out b6 (Nat.le_refl _))
      have hz6 := HB6.out.size
      have IN6 := HIN.out w6 HB6.out
      obtain ⟨q, hq, hqe⟩ : ∃ q, qs[j]? = some q ∧ q.1 = p.1 := by
        have h1 : (qs.map Prod.fst)[j]? = some p.1 := by rw [HES.out, List.getElem?_map, HP.out]; rfl
        rw [List.getElem?_map] at h1
        exact Option.map_eq_some_iff.1 h1
      have hRG := refGet7_any qs (.slice A qs.length cap) nx p.1.2 w6 IN6.1.st.q IN6.1.qlen
      rw [HES.out, HFD.out, show (some j).bind (qs[·]?) = some q from hq] at hRG
      obtain ⟨ga, gc, hg2, hgl, _⟩ := IN6.1.st.q.each q (List.mem_of_getElem? hq)
      rw [hqe] at hg2 hgl
      unfold getV at hRG
      dsimp only at hRG
      rw [hqe, hg2] at hRG
      have RG := Lib.hid hRG
      have m0 : w6.cell? ⟨w.heap.size, 0, none⟩ = some (.slice A qs.length cap) := IN6.2.cell 0
      have m1 : w6.cell? ⟨w.heap.size, 1, none⟩ = some (.int .i64 nx) := IN6.2.cell 1
      have x2 : w6.cell? ⟨wr.heap.size, 0, none⟩ = some (.int .i64 p.1.2) := X6.out.cell 0
      have GF6 := Lib.hid (show Flds w6 (.slice ga p.1.1.fields.length gc) p.1.1.fields by
        have := IN6.1.st.q.each q (List.mem_of_getElem? hq)
        rw [hqe, hg2] at this; exact this)
      have hb6z := b6_.out.size
      clear RW_ IN6 hRG b6 x1 hq hqe hg2
      go_wp2_with fail
      refine RG.out.mono ?_
      rintro e w7 ⟨rfl, b7⟩
      have HB7 := Lib.hid (HB6.out.trans (b7.mono hz6))
      have X7 := Lib.hid (cells_kept X6.out b7 X6.out.lt)
      have F7 := Lib.hid (own_kept F6.out b7 (Nat.le_refl _))
      have G7 := Lib.hid (GF6.out.below b7 (Nat.le_refl _))
      have b7_ := Lib.hid (b6_.out.trans (b7.mono hb6z))
      clear RG b7 m0 m1 x2
      go_wp2_with fail
      obtain ⟨wx, hwx⟩ : ∃ wx, wx = w7.alloc (.cells #[.int .i64 p.1.1.kind, .string (B p.1.1.raw), .slice ga p.1.1.fields.length gc] 47) := ⟨_, rfl⟩
      have hbx : Below w7.heap.size w7 wx := by rw [hwx]; exact (Below.refl _ _).alloc (Nat.le_refl _) _
      have WX : Cells wx w7.heap.size 47 #[.int .i64 p.1.1.kind, .string (B p.1.1.raw), .slice ga p.1.1.fields.length gc] := by rw [hwx]; exact Cells.new _ _ _
      have hz7 := HB7.out.size
      have BXd : Below W0.heap.size W0 wx.drew := (HB7.out.trans (hbx.mono hz7)).drew
      have hb7z := b7_.out.size
      rw [← hwx]
      have toIN : ∀ W, Below wx.drew.heap.size wx.drew W → Below W0.heap.size W0 W := fun W hW => BXd.trans (hW.mono BXd.size)
      have toW7 : ∀ W, Below wx.drew.heap.size wx.drew W → Below w7.heap.size w7 W := fun W hW => (hbx.drew).trans (hW.mono (show w7.heap.size ≤ wx.heap.size from hbx.size))
      clear hwx
      refine wp_region_any (by kernel_rfl) ?_
      refine region_stB _ wx.drew (.slice A qs.length cap) lb w.heap.size wr.heap.size w7.heap.size p.1.1.fields.length fc gc fa ga nx p.1.2 (placeP ps p.1.2) (B p.1.1.raw) _ rfl rfl rfl rfl rfl rfl rfl rfl rfl rfl
        (fun W hW => by
          have c := (HIN.out W (toIN W hW)).2
          exact ⟨c.cell 0, c.cell 1⟩)
        (fun W hW => (cells_kept X7.out (toW7 W hW) X7.out.lt).cell 0)
        (fun W hW => by
          have c := WX.below (((Below.refl wx.heap.size wx).drew).trans hW) WX.lt
          exact ⟨c.cell 1, c.cell 2⟩)
        (fun W hW => cSameF ((flds_of_own F7.out).below (toW7 W hW) (Nat.le_refl _)) (G7.out.below (toW7 W hW) (Nat.le_refl _)) hpf)
        (fun W hW => (HIN.out W (toIN W hW)).1.cPlace p.1.2)
        (fun W hW => (HIN.out W (toIN W hW)).1.cRefPlace p.1.2)
        ?_
      intro y0 y1 y2 y3 y4 y5 y6 y7 y8 y9 y10 y11 y12 y13 y14 y15 y16 y17 y18 y19 y20 y21 y22 y23 y24 y25 y26 y27 y28 y29 y30 y31 y32 y33 w8 hb8 h33
      obtain rfl : y33 = .bool false := h33
      have b78 := toW7 w8 hb8
      have B8 := Lib.hid (toIN w8 hb8)
      have F8 := own_kept F7.out b78 (Nat.le_refl _)
      have SP8 := Lib.hid (spoil_any p.1.1.fields.length W0.heap.size _ w8 (mine_of_own (rowBase F8 hz4)) hpf)
      have b48 := Lib.hid (b7_.out.trans (b78.mono hb7z))
      simp only [List.foldl_cons, List.foldl_nil, List.setIfInBounds_toArray, List.set_cons_zero, List.set_cons_succ]
      clear hb8 b78 toIN toW7 BXd WX hbx F8 G7 F7 X7
      go_wp2_with fail
      refine SP8.out.mono ?_
      rintro e w9 ⟨rfl, hs9⟩
      have hz8 := B8.out.size
      have ROW9 := Lib.hid (row_spoilt (own_kept (row_spoilt (own_kept HROW.out HBA.out (Nat.le_refl _)) S4.out (by decide)) b48.out (Nat.le_refl _)) hs9 (by decide))
      have MIN9 : Hid (∀ (j : Nat) s x, rs[j]? = some s → fvs[j]? = some x → Mine w9 W0.heap.size x s.2.length) := fun j s x h1 h2 => (((((HMIN.out j s x h1 h2).below HBA.out).spoilt S4.out).below b48.out).spoilt hs9)
      have B9 := Lib.hid (B8.out.trans (hs9.below hz8))
      clear hs9 SP8
      go_wp2_with fail
      exact ⟨⟨k + 1, hlt, by go_num, ROW9.out, MIN9.out, B9.out⟩, by simp [intOf]; omega⟩
    · obtain rfl : k = rs.length := by omega
      have toIN : ∀ W, Below wr.drew.heap.size wr.drew W → Below W0.heap.size W0 W := fun W hW => HB.out.trans ((((Below.refl wr.heap.size wr).drew).trans hW).mono hzr)
      have hb00 := HB0.out
      clear hrow HROW HMIN
      go_wp2_with fail
      refine wp_region_any (by kernel_rfl) ?_
      refine region_stC _ wr.drew (.slice A qs.length cap) lb w.heap.size nx rs _ rfl rfl rfl
        (fun W hW => by
          have c := (HIN.out W (toIN W hW)).2
          exact ⟨c.cell 0, c.cell 1⟩)
        (fun W hW => by rw [HRS.out]; exact (HIN.out W (toIN W hW)).1.cStanzas)
        (fun W hW => by rw [HRS.out]; exact (HIN.out W (toIN W hW)).1.cRefStanzas)
        (fun W hW x hx y hy => cSame hx hy (by omega) (by rw [HRS.out]; exact HF1.out))
        ?_
      intro y0 y1 y2 y3 y4 y5 w8 hb8 h5
      obtain rfl : y5 = .bool true := h5
      have B8 := Lib.hid (hb00.trans ((toIN w8 hb8).mono (by omega)))
      simp only [List.foldl_cons, List.foldl_nil, List.setIfInBounds_toArray, List.set_cons_zero, List.set_cons_succ]
      clear hb8 toIN hb00
      go_wp2_with fail
      go_ret
      exact ⟨rfl, B8.out⟩
end Go.Proofs.YtiebbgbcojgeoaaGreatDoor

