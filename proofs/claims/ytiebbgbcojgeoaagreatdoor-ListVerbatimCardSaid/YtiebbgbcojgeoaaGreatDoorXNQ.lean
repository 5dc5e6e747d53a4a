/- ListVerbatim. -/
import Derived.Test.YtiebbgbcojgeoaaGreatDoorXNO
import Derived.Test.YtiebbgbcojgeoaaGreatDoorBase7
set_option linter.unusedVariables false
namespace Go.Proofs.YtiebbgbcojgeoaaGreatDoor
open Go.RowKit Go.Shelf
attribute [local go_sem] Oper.semAt_some

set_option maxRecDepth 100000 in
set_option maxHeartbeats 8000000 in
theorem verbatimLaw7 (s : ByteArray) (hs : s.size ≤ maxLen) (eds : List Ed) (v : Value) (w : World) (h : EdsIn w v eds) :
    Calls Tryz.prog 5 #[.string s, v] w fun e w' => e = .returned (.bool true) ∧ Below w.heap.size w w' := by
  have AL := Lib.hid (alive7_any w)
  have HE := Lib.hid h
  unfold maxLen at hs
  obtain ⟨va, vc, rfl, _⟩ : ∃ A c, v = .slice A eds.length c ∧ True := by obtain ⟨_, A, c, e, _⟩ := h; exact ⟨A, c, e, trivial⟩
  clear h
  go_enter Tryz.func5, Tryz.ntmps5
  go_wp2_with fail
  refine AL.out.mono ?_
  rintro e w1 ⟨rfl, b1⟩
  have B1 := Lib.hid b1
  clear AL b1
  by_cases hlong : 3000 < s.size
  · go_wp2_with fail
    go_ret
    exact ⟨rfl, B1.out⟩
  have HV := Lib.hid (heavy_any eds _ w1 (HE.out.below B1.out (Nat.le_refl _)))
  go_wp2_with fail
  refine HV.out.mono ?_
  rintro e w2 ⟨⟨q, rfl, hq⟩, b2⟩
  have B2 := Lib.hid (B1.out.trans (b2.mono B1.out.size))
  have HQ := Lib.hid hq
  clear HV b2 hq
  cases q with
  | true =>
    go_wp2_with fail
    go_ret
    exact ⟨rfl, B2.out⟩
  | false =>
    have LI : Hid (Light eds) := HQ.out (by first | exact rfl | trivial)
    have OF := Lib.hid (of_any s (by omega) w2)
    clear HQ
    go_wp2_with fail
    refine OF.out.mono ?_
    rintro e w3 hof
    clear OF
    cases hp : parseL s.data.toList with
    | error an =>
      obtain ⟨a, n⟩ := an
      obtain ⟨b3, u, rfl, hf⟩ := hof.no hp
      obtain ⟨q, _, rfl, _⟩ := hf
      have B3 := Lib.hid (B2.out.trans (b3.mono B2.out.size))
      clear hof b3 hp
      go_wp2_with fail
      go_ret
      exact ⟨rfl, B3.out⟩
    | ok its =>
      obtain ⟨b3, lb, ev, ps, rfl, hlb, hev, hla, hps⟩ := hof.yes hp
      have hlen : (fromL its).es.length ≤ 3000 ∧ (fromL its).next ≤ 3001 := by
        have h1 := (parse_join hp).2.1
        rw [← Lib.size_eq] at h1
        have h2 : (fromL its).es.length = its.length := from_len 1 its
        have h3 := (from_next 1 its).2
        have h4 : (fromL its).next = fromNext 1 its := rfl
        omega
      have CA : Carry w2.heap.size w3 lb ev ps (fromL its) 3000 := by
        refine ⟨hla, hps, from_ok hp, fun e he => ?_, hlb, hev, hlen.1, hlen.2⟩
        have h1 := (parse_join hp).2.2
        have h2 : e.1 ∈ its := by rw [← from_items 1 its]; exact List.mem_map_of_mem he
        obtain ⟨q1, q2⟩ := h1 _ h2
        rw [← Lib.size_eq] at q2
        exact ⟨by omega, by omega⟩
      have B3 := Lib.hid (B2.out.trans (b3.mono B2.out.size))
      have hB3 : Below w2.heap.size w2 w3 := b3
      have HC := Lib.hid CA
      have hjoin := (parse_join hp).1
      have hap : apartL its = its := (parse_blks hp).2.apart
      have hitp : itsP ps = its := by rw [itsP_es hps]; exact from_items 1 its
      have HTXT : Hid ((apartL (itsP ps)).flatMap It.raw = s.data.toList) := by show _ = _; rw [hitp, hap]; exact hjoin
      obtain ⟨ord0, all0⟩ := from_all 1 its (by decide)
      have HORD := Lib.hid (show (fromL its).es.Pairwise (fun x y => 0 < x.2 → 0 < y.2 → x.2 < y.2) from ord0)
      have HALL := Lib.hid (show ∀ m, 1 ≤ m → m < (fromL its).next → ∃ e ∈ (fromL its).es, e.2 = m from all0)
      have hlb3 : lb < w3.heap.size := hla.lr.head.lt
      have hev3 : ∀ b, ev.ownBlock = some b → b < w3.heap.size := fun b e => (hla.lr.ents.row.lt b e).2
      have HPS := Lib.hid hps
      have OK0 := Lib.hid CA.ok
      have HC0 : Hid ((fromL its).es.length ≤ 3000) := hlen.1
      generalize fromL its = l0 at *
      clear hof b3 hp hla hps CA hlen hjoin hap hitp ord0 all0
      have HE2 := Lib.hid (HE.out.below B2.out (Nat.le_refl _))
      have hS2 : w.heap.size ≤ w2.heap.size := B2.out.size
      have hpos := HC.out.ok.pos
      have hnx := HC.out.nx
      obtain ⟨N, hN⟩ : ∃ N : Nat, l0.next = (N : Int) := ⟨l0.next.toNat, by omega⟩
      have hN2 : 0 < N ∧ N ≤ 3001 := by omega
      have hpl : ps.length ≤ 3000 := by have := HC.out.len; rw [← HC.out.es, List.length_map] at this; exact this
      have CP := Lib.hid (copy_list lb ev ps l0.next w3 HC.out.la (HC.out.ents (by omega)))
      unfold ptr at *
      have hnw : IntKind.i64.wrap (l0.next - 1 + 1) = (N : Int) := by rw [show l0.next - 1 + 1 = (N : Int) by omega]; exact IntWalk.i64_in _ (by omega)
      clear hpos hnx
      go_wp2_with fail
      refine CP.out.mono ?_
      rintro e w4 ⟨lc, ec, pcs, rfl, cla, ces, cb, clb, cev, cfl⟩
      have C4 := Lib.hid (HC.out.below cb (Nat.le_refl _))
      have B4 := Lib.hid (hB3.trans (cb.mono hB3.size))
      have NX := Lib.hid (next_any lb ev ps l0.next w4 C4.out.la.lr (by omega))
      have CLA := Lib.hid cla
      have CES := Lib.hid ces
      have CEV := Lib.hid cev
      have CFL := Lib.hid cfl
      have hz4 := cb.size
      rw [hN] at NX
      unfold ptr at *
      clear CP cla ces cb cev cfl
      go_wp2_with fail
      refine NX.out.mono ?_
      rintro e w5 ⟨rfl, rfl⟩
      obtain ⟨ib, hib, hzb, hz1, hz2⟩ := info_parts infoBool
      obtain ⟨wm, hrun, hown, hgr⟩ := run_make_full w4 w4.heap.size 67 4 ib _ 1 Tryz.underlying67 hib hzb hz1 .i64 .i64 N (by rw [hz2]; omega) (by unfold maxLen; omega) (Nat.le_refl _)
      have hgB : Below w4.heap.size w4 wm := (Below.refl w4.heap.size w4).grown hgr (Nat.le_refl _) (fun k e => by cases e)
      have hzm : w4.heap.size < wm.heap.size := (hown.lt _ rfl).2
      have SEEN : Hid (∃ cur : Array Value, (Cells wm w4.heap.size 4 cur ∧ ∀ (m : Nat) x, cur[m]? = some x → ∃ b : Bool, x = Value.bool b) ∧ ∀ m, 0 < m → m < N → cur[m]? = some (.bool (decide ((m : Int) ∈ touchL (eds.take 0))))) := by
        rcases hown.2 with ⟨q, _⟩ | ⟨g, c, cur, q, _, hg, _, _, hcs, htk⟩
        · cases q
        · cases q
          refine ⟨cur, ⟨hg, fun m x hx => ?_⟩, fun m hm0 hm => ?_⟩
          · have hm : m < N * 1 := by rw [← hcs]; exact (Array.getElem?_eq_some_iff.1 hx).1
            have h1 : (cur.toList.take (N * 1))[m]? = cur[m]? := by rw [List.getElem?_take, if_pos hm]; simp
            rw [← h1, htk, show (Value.bool false).cells = #[Value.bool false] from rfl, toList_madeCells_one, List.getElem?_replicate, if_pos hm] at hx
            cases hx; exact ⟨_, rfl⟩
          have h1 : (cur.toList.take (N * 1))[m]? = cur[m]? := by rw [List.getElem?_take, if_pos (by omega)]; simp
          rw [← h1, htk, show (Value.bool false).cells = #[Value.bool false] from rfl, toList_madeCells_one, List.getElem?_replicate, if_pos (by omega)]
          simp [touchL]
      have CM := Lib.hid (C4.out.below hgB (Nat.le_refl _))
      have BM := Lib.hid (B4.out.trans (hgB.mono B4.out.size))
      have ST4 : Hid (StR w4 lc ec pcs l0.next (.slice none 0 0) []) := ⟨CLA.out, entsQ_none w4, (fun b e => by cases e), (fun p hp => by cases hp)⟩
      have WAS : Hid (StR wm lc ec pcs l0.next (.slice none 0 0) []) := ST4.out.below hgB (Nat.le_refl _)
      have WBLK : Hid (∀ r, BlkR lc ec pcs (.slice none 0 0) [] r → w3.heap.size ≤ r ∧ r < w4.heap.size) := by
        show ∀ r, _
        intro r hr
        refine ⟨?_, ST4.out.lt hr⟩
        rcases hr with rfl | hr | hr | ⟨p, hp, _, hb⟩ | ⟨p, hp, _⟩
        · exact clb
        · exact CEV.out r hr
        · cases hr
        · exact CFL.out p hp r hb
        · cases hp
      have HN := Lib.hid hN
      have CES2 : Hid (pcs.map Prod.fst = l0.es) := by show _ = _; rw [CES.out]; exact HPS.out
      clear NX hown hgr hgB CLA CES CEV CFL
      go_wp2_with fail
      go_loopw [46] (fun i wr => ∃ (k : Nat) (ev : Value) (ps : List Pr) (l : LS) (cur : Array Value), k ≤ eds.length ∧ i = .int .i64 k ∧ Carry w2.heap.size wr lb ev ps l (3000 + k) ∧ (∀ b, ev.ownBlock = some b → b < w3.heap.size ∨ wm.heap.size ≤ b) ∧ StR wr lc ec pcs l0.next (.slice none 0 0) [] ∧ (Cells wr w4.heap.size 4 cur ∧ ∀ (m : Nat) x, cur[m]? = some x → ∃ b : Bool, x = Value.bool b) ∧ (∀ m, 0 < m → m < N → cur[m]? = some (.bool (decide ((m : Int) ∈ touchL (eds.take k))))) ∧ l.es.filter (Kept l0.next (touchL (eds.take k))) = l0.es.filter (Kept l0.next (touchL (eds.take k))) ∧ l0.next ≤ l.next ∧ (k = 0 → (apartL (itsP ps)).flatMap It.raw = s.data.toList) ∧ wm.heap.size ≤ wr.heap.size ∧ Below w2.heap.size w2 wr) (fun i _ => eds.length - (intOf i).toNat)
      case atStart =>
        obtain ⟨cur, h1, h2⟩ := SEEN.out
        exact ⟨0, ev, ps, l0, cur, Nat.zero_le _, rfl, CM.out, fun b e => .inl (hev3 b e), WAS.out, h1, h2, rfl, Int.le_refl _, fun _ => HTXT.out, Nat.le_refl _, BM.out⟩
      case round =>
        clear hlb hev B3 hB3 HC C4 B4 SEEN CM BM WAS HTXT HPS hev3 hnw hrun hpl
        obtain ⟨k, ev, ps, l, cur, hk, rfl, hC, hev3, hWAS, hcur, hat, hkp, hnl, htx, hwm, hBR⟩ := hrel
        have hpos := hC.ok.pos
        have hnx := hC.nx
        have hlen := hC.len
        have hpl : ps.length ≤ 4000 := by
          have h1 : ps.length = l.es.length := by rw [← hC.es, List.length_map]
          have := LI.out.1
          omega
        have hlk := LI.out.1
        have HB2w := B2
        have CR := Lib.hid hC
        have BR := Lib.hid hBR
        have WR := Lib.hid hWAS
        have hsr := hBR.size
        have KP := Lib.hid hkp
        have NL := Lib.hid hnl
        have EV3 := Lib.hid hev3
        have AT := Lib.hid hat
        have CUR := Lib.hid hcur
        have TXH := Lib.hid htx
        clear hC hBR hWAS hkp hnl hev3 hat hcur htx
        by_cases hlt : k < eds.length
        · obtain ⟨ed, hed⟩ : ∃ ed, eds[k]? = some ed := ⟨_, List.getElem?_eq_getElem hlt⟩
          have hmem := List.mem_of_getElem? hed
          obtain ⟨kd, eid, fs⟩ := ed
          have TS := Lib.hid (touch_snoc hed)
          obtain ⟨_, A', cap', e1, _, hc⟩ := HE2.out
          cases e1
          obtain ⟨b, off, fv, rfl, hbb, c0, c1, c2, hf⟩ := hc k _ hed
          dsimp only at c0 c1 c2 hf TS
          obtain ⟨fa, fc, rfl, _, _⟩ := _root_.id hf.flds
          replace c0 := (BR.out.cell (p := ⟨b, off + k * 3, none⟩) hbb).trans c0
          replace c1 := (BR.out.cell (p := ⟨b, off + k * 3 + 1, none⟩) hbb).trans c1
          replace c2 := (BR.out.cell (p := ⟨b, off + k * 3 + 1 + 1, none⟩) hbb).trans c2
          obtain ⟨wa, hwa⟩ : ∃ wa, wa = wr.alloc (.cells #[.int .i64 kd, .int .i64 eid, .slice fa fs.length fc] 38) := ⟨_, rfl⟩
          have hra : Below wr.heap.size wr wa := by rw [hwa]; exact (Below.refl _ _).alloc (Nat.le_refl _) _
          have hBA : Below w2.heap.size w2 wa := BR.out.trans (hra.mono hsr)
          have CW := Lib.hid (CR.out.below hra (Nat.le_refl _))
          have WA := Lib.hid (WR.out.below hra (Nat.le_refl _))
          have hfa := hf.kept hBA (Nat.le_refl _)
          have hfr : FldR wa (.slice fa fs.length fc) fs := ⟨hfa.flds, hfa.nil⟩
          have hxlt : fs ≠ [] → ∀ r, (Value.slice fa fs.length fc).ownBlock = some r → r < w2.heap.size := fun hne r e => hf.flds.lt hne r e
          have hlb0 := CR.out.lb0
          have hev0 := CR.out.ev0
          have FI := LI.out.fine hmem
          have hsm := light_small LI.out hmem
          have hza : wa.heap.size = wr.heap.size + 1 := by rw [hwa]; simp
          have hz23 : w2.heap.size ≤ w3.heap.size := by
            have := CR.out.lb0; omega
          have hw34 : w3.heap.size ≤ w4.heap.size ∧ w4.heap.size < wm.heap.size := ⟨hz4, hzm⟩
          have tbne : ∀ r, BlkR lb ev ps (.slice none 0 0) [] r → r ≠ w4.heap.size := fun r hr e => by
            subst e
            rcases hr with hr | hr | hr | ⟨p, hp, hne, hb⟩ | ⟨p, hp, _⟩
            · omega
            · have := EV3.out _ hr; omega
            · cases hr
            · have hfp := CR.out.la.lr.ents.each p hp
              obtain ⟨A0, cp0, ep, _, hc0⟩ := hfp.1
              cases hff : p.1.1.fields with
              | nil => exact hne hff
              | cons f0 fr =>
                obtain ⟨b1, o1, eA, _, q0, _⟩ := hc0 0 f0 (by rw [hff]; rfl)
                rw [ep, eA] at hb
                have hbb : b1 = w4.heap.size := Option.some.inj hb
                subst hbb
                rw [CUR.out.1.cell] at q0
                obtain ⟨bb, hbb⟩ := CUR.out.2 _ _ q0
                cases hbb
            · cases hp
          have wasne : ∀ r, BlkR lc ec pcs (.slice none 0 0) [] r → r ≠ w4.heap.size ∧ r ≠ lb ∧ ev.ownBlock ≠ some r := fun r hr => by
            obtain ⟨h1, h2⟩ := WBLK.out r hr
            refine ⟨by omega, by omega, fun e => ?_⟩
            have := EV3.out r e
            omega
          have hlb3' := hlb3
          -- an edit, whether or not its number has been marked
          have HDO : Hid (∀ W, Only (fun r => r = w4.heap.size) wa W → Calls Tryz.prog 16 #[.pointer (some ⟨lb, 0, none⟩), .agg #[.slice none 0 0, .int .i64 0], .agg #[.int .i64 kd, .int .i64 eid, .slice fa fs.length fc]] W fun e w5 => ∃ x y ev' ps', e = .returned (.tuple #[x, .bool y]) ∧
              Carry w2.heap.size w5 lb ev' ps' (editR l kd eid fs).ls (3000 + (k + 1)) ∧ (∀ b, ev'.ownBlock = some b → b < w3.heap.size ∨ wm.heap.size ≤ b) ∧ StR w5 lc ec pcs l0.next (.slice none 0 0) [] ∧ (∀ cur', Cells W w4.heap.size 4 cur' → Cells w5 w4.heap.size 4 cur') ∧ wm.heap.size ≤ w5.heap.size ∧ Below w2.heap.size w2 w5) := fun W hW => by
            have hzW := hW.size
            have hfrW : FldR W (.slice fa fs.length fc) fs := hfr.only hW (fun hne r e q => by have := hxlt hne r e; omega)
            have hst : StR W lb ev ps l.next (.slice none 0 0) [] := CW.out.str.only hW (fun r hr q => tbne r hr q)
            have hwas : StR W lc ec pcs l0.next (.slice none 0 0) [] := WA.out.only hW (fun r hr q => (wasne r hr).1 q)
            have hBW : Below w2.heap.size w2 W := hBA.trans (hW.to_below hBA.size (fun r hr q => by omega))
            refine (do_any lb ev (.slice none 0 0) (.slice fa fs.length fc) ps [] l.next 0 kd eid fs W hst CW.out.wf (by rw [CW.out.es]; exact CW.out.ok.len) (by omega) (by decide) (by omega) (by decide) hfrW FI (fun hne r e => ⟨by have := hxlt hne r e; omega, fun e2 => by have := hxlt hne r e; have := hev0 r e2; omega⟩)).mono ?_
            rintro e w5 ⟨ev', ps', v', qs', rfl, hst5, hes, _, ho, _, hblk⟩
            rw [CW.out.es] at hst5 hes
            have hz5 := ho.size
            refine ⟨_, _, ev', ps', rfl, CW.out.edit kd eid hsm.1 hsm.2 hst5.la hes hBA.size (fun b e => (hblk b e).imp _root_.id (fun q => by omega)), fun b e => ?_, hwas.only ho (fun r hr q => by
              have := wasne r hr
              rcases q with q | q
              · exact this.2.1 q
              · exact this.2.2 q), fun cur' hc' => hc'.only ho (fun q => by
              rcases q with q | q
              · omega
              · have := EV3.out _ q; omega), by omega, hBW.trans (ho.to_below hBW.size (fun r hr e => by
              rcases e with e | e
              · omega
              · have := hev0 r e; omega))⟩
            rcases hblk b e with q | q
            · exact EV3.out b q
            · right; omega
          have KE : Hid ((editR l kd eid fs).ls.es.filter (Kept l0.next (touchL (eds.take k) ++ touchE kd eid)) = l0.es.filter (Kept l0.next (touchL (eds.take k) ++ touchE kd eid)) ∧ l0.next ≤ (editR l kd eid fs).ls.next) := kept_edit KP.out NL.out kd eid fs
          have CWA := Lib.hid (show Cells wa w4.heap.size 4 cur by rw [hwa]; exact CUR.out.1.alloc _)
          have CBOOL := Lib.hid CUR.out.2
          clear hed hf hra hBA hfa hfr hxlt hev0 FI hsm hc tbne wasne hmem
          obtain ⟨wx, hwx⟩ : ∃ wx, wx = wa := ⟨wa, rfl⟩
          have HWA := Lib.hid hwa
          have HBX := Lib.hid (show Cells wa wr.heap.size 38 #[.int .i64 kd, .int .i64 eid, .slice fa fs.length fc] by rw [hwa]; exact Cells.new _ _ _)
          subst hwa
          clear hwx
          by_cases htch : (kd = 1 ∨ kd = 2) ∧ 0 < eid ∧ eid < N
          · have hte : touchE kd eid = [eid] := by unfold touchE; rw [if_pos htch.1]
            obtain ⟨hkd, hp0, hpN⟩ := htch
            obtain ⟨n, rfl⟩ : ∃ n : Nat, eid = (n : Int) := ⟨eid.toNat, by omega⟩
            have hn0 : 0 < n := by omega
            have hnN : n < N := by omega
            have s0 : (wr.alloc (.cells #[.int .i64 kd, .int .i64 n, .slice fa fs.length fc] 38)).cell? ⟨w4.heap.size, n, none⟩ = some (.bool (decide ((n : Int) ∈ touchL (eds.take k)))) := by rw [CWA.out.cell]; exact AT.out n hn0 hnN
            have s1 := CWA.out.frozen n
            have HTE := Lib.hid hte
            have hg0 : (0 : Int) < (n : Int) := by omega
            have hgN : (n : Int) < (N : Int) := by omega
            have HD := Lib.hid (HDO.out _ ((Only.refl (· = w4.heap.size) (wr.alloc (.cells #[.int .i64 kd, .int .i64 n, .slice fa fs.length fc] 38))).cellS n (.bool true)))
            have HK : Hid (kd = 1 ∨ (kd ≠ 1 ∧ kd = 2)) := by
              rcases hkd with q | q
              · exact .inl q
              · exact .inr ⟨by omega, q⟩
            have bx0 : (wr.alloc (.cells #[.int .i64 kd, .int .i64 n, .slice fa fs.length fc] 38)).cell? ⟨wr.heap.size, 1, none⟩ = some (.int .i64 n) := HBX.out.cell 1
            have hne4 : w4.heap.size ≠ wr.heap.size := by omega
            have HB2 := Lib.hid (HBX.out.other (p := ⟨w4.heap.size, n, none⟩) (by show wr.heap.size ≠ w4.heap.size; omega) (.bool true))
            clear hte HDO hkd hp0 hpN
            have DONE : Hid (∀ w5 ev' ps', Carry w2.heap.size w5 lb ev' ps' (editR l kd n fs).ls (3000 + (k + 1)) → (∀ b, ev'.ownBlock = some b → b < w3.heap.size ∨ wm.heap.size ≤ b) → StR w5 lc ec pcs l0.next (.slice none 0 0) [] → (∀ cur', Cells ((wr.alloc (.cells #[.int .i64 kd, .int .i64 n, .slice fa fs.length fc] 38)).setCell ⟨w4.heap.size, n, none⟩ (.bool true)) w4.heap.size 4 cur' → Cells w5 w4.heap.size 4 cur') → wm.heap.size ≤ w5.heap.size → Below w2.heap.size w2 w5 →
                ∃ (ev : Value) (ps : List Pr) (l : LS) (cur : Array Value), Carry w2.heap.size w5 lb ev ps l (3000 + (k + 1)) ∧ (∀ b, ev.ownBlock = some b → b < w3.heap.size ∨ wm.heap.size ≤ b) ∧ StR w5 lc ec pcs l0.next (.slice none 0 0) [] ∧ (Cells w5 w4.heap.size 4 cur ∧ ∀ (m : Nat) x, cur[m]? = some x → ∃ b : Bool, x = Value.bool b) ∧ (∀ m, 0 < m → m < N → cur[m]? = some (.bool (decide ((m : Int) ∈ touchL (eds.take (k + 1)))))) ∧ l.es.filter (Kept l0.next (touchL (eds.take (k + 1)))) = l0.es.filter (Kept l0.next (touchL (eds.take (k + 1)))) ∧ l0.next ≤ l.next ∧ (k + 1 = 0 → (apartL (itsP ps)).flatMap It.raw = s.data.toList) ∧ wm.heap.size ≤ w5.heap.size ∧ Below w2.heap.size w2 w5) := fun w5 ev' ps' h1 h2 h3 h4 h5 h6 => by
              refine ⟨ev', ps', (editR l kd n fs).ls, cur.setIfInBounds n (.bool true), h1, h2, h3, ⟨h4 _ (CWA.out.set n _), fun m x hx => ?_⟩, fun m hm0 hm => ?_, ?_, KE.out.2, fun q => by omega, h5, h6⟩
              · rw [Array.getElem?_setIfInBounds] at hx
                split at hx
                · split at hx
                  · cases hx; exact ⟨_, rfl⟩
                  · cases hx
                · exact CBOOL.out m x hx
              · rw [Array.getElem?_setIfInBounds, TS.out]
                show _ = some (Value.bool (decide ((m : Int) ∈ touchL (eds.take k) ++ touchE kd n)))
                rw [HTE.out]
                by_cases q : n = m
                · have hsz : n < cur.size := by
                    have := AT.out n hn0 hnN
                    exact (Array.getElem?_eq_some_iff.1 this).1
                  rw [if_pos q, if_pos hsz]
                  congr 2
                  symm
                  exact decide_eq_true (List.mem_append.2 (.inr (List.mem_singleton.2 (by rw [q]))))
                · rw [if_neg q, AT.out m hm0 hm]
                  congr 2
                  exact decide_eq_decide.2 ⟨fun z => List.mem_append.2 (.inl z), fun z => (List.mem_append.1 z).elim _root_.id (fun y => absurd (List.mem_singleton.1 y) (by omega))⟩
              · rw [TS.out]; exact KE.out.1
            clear CWA CBOOL AT CUR KE HTE TS HBX TXH WA CW WR CR
            have kc := kd
            rcases HK.out with q | ⟨q1, q2⟩
            · have hk1 : (kd == 1) = true := by rw [q]; decide
              clear q kc
              go_wp2_with fail
              refine HD.out.mono ?_
              rintro e w5 ⟨x, y, ev', ps', rfl, z1, z2, z3, z4, z5, z6⟩
              have D5 := Lib.hid (DONE.out w5 ev' ps' z1 z2 z3 z4 z5 z6)
              clear z1 z2 z3 z4 z5 z6 HD DONE
              go_wp2_with fail
              obtain ⟨a1, a2, a3, a4, a5⟩ := D5.out
              exact ⟨⟨k + 1, a1, a2, a3, a4, hlt, by go_num, a5⟩, by simp [intOf]; omega⟩
            · have hk1 : (kd == 1) = false := beq_eq_false_iff_ne.2 q1
              have hk2 : (kd == 2) = true := by rw [q2]; decide
              clear q1 q2 kc
              go_wp2_with fail
              refine HD.out.mono ?_
              rintro e w5 ⟨x, y, ev', ps', rfl, z1, z2, z3, z4, z5, z6⟩
              have D5 := Lib.hid (DONE.out w5 ev' ps' z1 z2 z3 z4 z5 z6)
              clear z1 z2 z3 z4 z5 z6 HD DONE
              go_wp2_with fail
              obtain ⟨a1, a2, a3, a4, a5⟩ := D5.out
              exact ⟨⟨k + 1, a1, a2, a3, a4, hlt, by go_num, a5⟩, by simp [intOf]; omega⟩
          · have HD := Lib.hid (HDO.out _ (Only.refl (· = w4.heap.size) (wr.alloc (.cells #[.int .i64 kd, .int .i64 eid, .slice fa fs.length fc] 38))))
            have NT := Lib.hid htch
            have DONE : Hid (∀ w5 ev' ps', Carry w2.heap.size w5 lb ev' ps' (editR l kd eid fs).ls (3000 + (k + 1)) → (∀ b, ev'.ownBlock = some b → b < w3.heap.size ∨ wm.heap.size ≤ b) → StR w5 lc ec pcs l0.next (.slice none 0 0) [] → (∀ cur', Cells (wr.alloc (.cells #[.int .i64 kd, .int .i64 eid, .slice fa fs.length fc] 38)) w4.heap.size 4 cur' → Cells w5 w4.heap.size 4 cur') → wm.heap.size ≤ w5.heap.size → Below w2.heap.size w2 w5 →
                ∃ (ev : Value) (ps : List Pr) (l : LS) (cur : Array Value), Carry w2.heap.size w5 lb ev ps l (3000 + (k + 1)) ∧ (∀ b, ev.ownBlock = some b → b < w3.heap.size ∨ wm.heap.size ≤ b) ∧ StR w5 lc ec pcs l0.next (.slice none 0 0) [] ∧ (Cells w5 w4.heap.size 4 cur ∧ ∀ (m : Nat) x, cur[m]? = some x → ∃ b : Bool, x = Value.bool b) ∧ (∀ m, 0 < m → m < N → cur[m]? = some (.bool (decide ((m : Int) ∈ touchL (eds.take (k + 1)))))) ∧ l.es.filter (Kept l0.next (touchL (eds.take (k + 1)))) = l0.es.filter (Kept l0.next (touchL (eds.take (k + 1)))) ∧ l0.next ≤ l.next ∧ (k + 1 = 0 → (apartL (itsP ps)).flatMap It.raw = s.data.toList) ∧ wm.heap.size ≤ w5.heap.size ∧ Below w2.heap.size w2 w5) := fun w5 ev' ps' h1 h2 h3 h4 h5 h6 => by
              refine ⟨ev', ps', (editR l kd eid fs).ls, cur, h1, h2, h3, ⟨h4 _ CWA.out, CBOOL.out⟩, fun m hm0 hm => ?_, ?_, KE.out.2, fun q => by omega, h5, h6⟩
              · rw [TS.out, AT.out m hm0 hm]
                congr 2
                refine decide_eq_decide.2 ⟨fun z => List.mem_append.2 (.inl z), fun z => (List.mem_append.1 z).elim _root_.id (fun y => ?_)⟩
                have y' : (m : Int) ∈ touchE kd eid := y
                unfold touchE at y'
                split at y'
                · rename_i q
                  have := List.mem_singleton.1 y'
                  exact absurd ⟨q, by omega, by omega⟩ NT.out
                · cases y'
              · rw [TS.out]; exact KE.out.1
            have bx0 : (wr.alloc (.cells #[.int .i64 kd, .int .i64 eid, .slice fa fs.length fc] 38)).cell? ⟨wr.heap.size, 1, none⟩ = some (.int .i64 eid) := HBX.out.cell 1
            have CS : Hid ((kd ≠ 1 ∧ kd ≠ 2) ∨ (kd = 1 ∧ ¬ 0 < eid) ∨ (kd = 1 ∧ 0 < eid ∧ ¬ eid < N) ∨ (kd ≠ 1 ∧ kd = 2 ∧ ¬ 0 < eid) ∨ (kd ≠ 1 ∧ kd = 2 ∧ 0 < eid ∧ ¬ eid < N)) := by
              show _ ∨ _
              omega
            clear CWA CBOOL AT CUR KE TS HBX TXH WA CW WR CR HDO htch NT
            have kc := kd
            rcases CS.out with ⟨q1, q2⟩ | ⟨q1, q3⟩ | ⟨q1, q3, q4⟩ | ⟨q1, q2, q3⟩ | ⟨q1, q2, q3, q4⟩
            · have hk1 : (kd == 1) = false := beq_eq_false_iff_ne.2 q1
              have hk2 : (kd == 2) = false := beq_eq_false_iff_ne.2 q2
              clear q1 q2 kc
              go_wp2_with fail
              refine HD.out.mono ?_
              rintro e w5 ⟨x, y, ev', ps', rfl, z1, z2, z3, z4, z5, z6⟩
              have D5 := Lib.hid (DONE.out w5 ev' ps' z1 z2 z3 z4 z5 z6)
              clear z1 z2 z3 z4 z5 z6 HD DONE
              go_wp2_with fail
              obtain ⟨a1, a2, a3, a4, a5⟩ := D5.out
              exact ⟨⟨k + 1, a1, a2, a3, a4, hlt, by go_num, a5⟩, by simp [intOf]; omega⟩
            · have hk1 : (kd == 1) = true := by rw [q1]; decide
              have hg0 : decide (0 < eid) = false := decide_eq_false q3
              clear q1 kc
              go_wp2_with fail
              refine HD.out.mono ?_
              rintro e w5 ⟨x, y, ev', ps', rfl, z1, z2, z3, z4, z5, z6⟩
              have D5 := Lib.hid (DONE.out w5 ev' ps' z1 z2 z3 z4 z5 z6)
              clear z1 z2 z3 z4 z5 z6 HD DONE
              go_wp2_with fail
              obtain ⟨a1, a2, a3, a4, a5⟩ := D5.out
              exact ⟨⟨k + 1, a1, a2, a3, a4, hlt, by go_num, a5⟩, by simp [intOf]; omega⟩
            · have hk1 : (kd == 1) = true := by rw [q1]; decide
              have hg1 : decide (eid < (N : Int)) = false := decide_eq_false q4
              clear q1 kc
              go_wp2_with fail
              refine HD.out.mono ?_
              rintro e w5 ⟨x, y, ev', ps', rfl, z1, z2, z3, z4, z5, z6⟩
              have D5 := Lib.hid (DONE.out w5 ev' ps' z1 z2 z3 z4 z5 z6)
              clear z1 z2 z3 z4 z5 z6 HD DONE
              go_wp2_with fail
              obtain ⟨a1, a2, a3, a4, a5⟩ := D5.out
              exact ⟨⟨k + 1, a1, a2, a3, a4, hlt, by go_num, a5⟩, by simp [intOf]; omega⟩
            · have hk1 : (kd == 1) = false := beq_eq_false_iff_ne.2 q1
              have hk2 : (kd == 2) = true := by rw [q2]; decide
              have hg0 : decide (0 < eid) = false := decide_eq_false q3
              clear q1 q2 kc
              go_wp2_with fail
              refine HD.out.mono ?_
              rintro e w5 ⟨x, y, ev', ps', rfl, z1, z2, z3, z4, z5, z6⟩
              have D5 := Lib.hid (DONE.out w5 ev' ps' z1 z2 z3 z4 z5 z6)
              clear z1 z2 z3 z4 z5 z6 HD DONE
              go_wp2_with fail
              obtain ⟨a1, a2, a3, a4, a5⟩ := D5.out
              exact ⟨⟨k + 1, a1, a2, a3, a4, hlt, by go_num, a5⟩, by simp [intOf]; omega⟩
            · have hk1 : (kd == 1) = false := beq_eq_false_iff_ne.2 q1
              have hk2 : (kd == 2) = true := by rw [q2]; decide
              have hg1 : decide (eid < (N : Int)) = false := decide_eq_false q4
              clear q1 q2 kc
              go_wp2_with fail
              refine HD.out.mono ?_
              rintro e w5 ⟨x, y, ev', ps', rfl, z1, z2, z3, z4, z5, z6⟩
              have D5 := Lib.hid (DONE.out w5 ev' ps' z1 z2 z3 z4 z5 z6)
              clear z1 z2 z3 z4 z5 z6 HD DONE
              go_wp2_with fail
              obtain ⟨a1, a2, a3, a4, a5⟩ := D5.out
              exact ⟨⟨k + 1, a1, a2, a3, a4, hlt, by go_num, a5⟩, by simp [intOf]; omega⟩
        · obtain rfl : k = eds.length := by omega
          rw [List.take_length] at KP AT
          have hokE := CR.out.ents (by omega)
          have HEO := Lib.hid hokE
          have hitl : (itsP ps).length ≤ 4000 := by rw [itsP_len]; exact hpl
          have HLB := Lib.hid (HB2w.out.trans (BR.out.mono hS2))
          go_upto_region 17 with fail
          go_cut [93] (fun c wx => c = .bool false ∧ Below wr.heap.size wr wx)
          case first =>
            by_cases h1 : N = 1
            · have hb1 : ((N : Int) == 1) = true := by rw [h1]; rfl
              by_cases h2 : eds.length = 0
              · have hb2 : ((eds.length : Int) == 0) = true := by rw [h2]; rfl
                have TX := text_gen ps ev (some ⟨lb, 0, none⟩) wr (AllR.of CR.out.la.lr) hokE
                rw [TXH.out h2, B_of] at TX
                have HTX := Lib.hid TX
                have hss : (s.toList != s.toList) = false := by simp
                clear h1 h2 TX hokE
                go_wp2_with fail
                refine HTX.out.mono ?_
                rintro e w6 ⟨rfl, b6⟩
                have HB6 := Lib.hid b6
                clear b6 HTX
                go_wp2_with fail
                go_meet
                exact ⟨rfl, HB6.out⟩
              · have hb2 : ((eds.length : Int) == 0) = false := beq_eq_false_iff_ne.2 (by omega)
                clear h1 h2 hokE
                go_wp2_with fail
                go_meet
                exact ⟨rfl, Below.refl _ _⟩
            · have hb1 : ((N : Int) == 1) = false := beq_eq_false_iff_ne.2 (by omega)
              clear h1 hokE
              go_wp2_with fail
              go_meet
              exact ⟨rfl, Below.refl _ _⟩
          case rest =>
            obtain ⟨rfl, hbc⟩ := hcut
            have CC := Lib.hid (CR.out.below hbc (Nat.le_refl _))
            have WC := Lib.hid (WR.out.below hbc (Nat.le_refl _))
            have CUC := Lib.hid (CUR.out.1.below hbc CUR.out.1.lt)
            have BC := Lib.hid (HLB.out.trans (hbc.mono HLB.out.size))
            have ITG := Lib.hid (items_gen ps ev (some ⟨lb, 0, none⟩) wc (AllR.of CC.out.la.lr) HEO.out)
            obtain ⟨i0, hi, hz0, hz1, hz2⟩ := info_parts infoStr
            clear hbc hokE CR WR TXH HLB
            go_wp2_with fail
            refine ITG.out.mono ?_
            rintro e w7 ⟨u, fvs, rfl, acc⟩
            obtain ⟨ua, uc, hue, _⟩ := own_slice acc.row
            subst hue
            have hits := acc.its
            have B7 := Lib.hid (BC.out.trans (acc.below.mono BC.out.size))
            have C7 := Lib.hid (CC.out.below acc.below (Nat.le_refl _))
            have W7 := Lib.hid (WC.out.below acc.below (Nat.le_refl _))
            have CU7 := Lib.hid (CUC.out.below acc.below CUC.out.lt)
            have HIT := Lib.hid hits
            have HPM : Hid (itsP ps = l.es.map Prod.fst) := itsP_es C7.out.es
            generalize hits' : itsP ps = its at *
            clear acc hits ITG CC WC CUC BC hits'
            go_wp2_with fail
            go_loopw [13, 99] (fun u i W => ∃ k : Nat, k ≤ its.length ∧ i = .int .i64 k ∧ OwnS W w7.heap.size u ((its.take k).map fun it => B it.raw) ∧ Below w7.heap.size w7 W) (fun _ i _ => its.length - (intOf i).toNat)
            case atStart => exact ⟨0, Nat.zero_le _, rfl, World.ownsRow_lit w7 #[] 0 (Nat.le_refl _) (by decide) rfl, (Below.refl _ _).alloc (Nat.le_refl _) _⟩
            case round =>
              obtain ⟨j, hj, rfl, hown, hb⟩ := hrel
              have hzb := hb.size
              by_cases hlt : j < its.length
              · obtain ⟨it, hit⟩ : ∃ it, its[j]? = some it := ⟨_, List.getElem?_eq_getElem hlt⟩
                obtain ⟨_, capx, e1, _, hcx⟩ := HIT.out
                cases e1
                obtain ⟨b, off, fv, rfl, hbb, c0, c1, c2, hf⟩ := hcx j it hit
                obtain ⟨fa, fc, rfl, _, _⟩ := hf
                replace c0 := (hb.cell (p := ⟨b, off + j * 3, none⟩) hbb).trans c0
                replace c1 := (hb.cell (p := ⟨b, off + j * 3 + 1, none⟩) hbb).trans c1
                replace c2 := (hb.cell (p := ⟨b, off + j * 3 + 1 + 1, none⟩) hbb).trans c2
                have TK := Lib.hid (show (its.take (j + 1)).map (fun it => B it.raw) = (its.take j).map (fun it => B it.raw) ++ [B it.raw] by rw [List.take_add_one, hit]; simp)
                have hll : ((its.take j).map fun it => B it.raw).length = j := by rw [List.length_map, List.length_take]; omega
                have HLL := Lib.hid hll
                have HB := Lib.hid hb
                have hown4 : wr.ownsRow w7.heap.size 9 1 u13 j (((its.take j).map fun it => B it.raw).map Value.string) := by
                  have := hown
                  unfold OwnS at this
                  rw [hll] at this; exact this
                have hown5 := hown4.alloc (.cells #[.int .i64 it.kind, .string (B it.raw), .slice fa it.fields.length fc] 47)
                have hcs := strCell (wr.alloc (.cells #[.int .i64 it.kind, .string (B it.raw), .slice fa it.fields.length fc] 47)) (B it.raw) 9
                rw [World.size_alloc] at hcs
                have HC := Lib.hid hcs
                generalize (its.take j).map (fun it => B it.raw) = ls at *
                clear hit hcx hll hown hown4 hb hcs
                go_wp2_with (at_builtin; refine wpList_append_own _ rfl _ _ 69 rfl w7.heap.size 9 i0 _ 1 16 Tryz.underlying69 hi hz0 hz1 hz2 rfl (by decide) _ _ _ rfl (hown5.alloc _) ⟨wr.heap.size + 1, 0, none⟩ 1 1 _ rfl rfl HC.out ?c2 ?c3 ?c4 ?c5 ?_)
                case c2 => intro u hu; simp at hu; subst hu; rfl
                case c3 => unfold maxLen; omega
                case c4 => omega
                case c5 => simp; omega
                intro v' w5 hown' hgrow _
                obtain ⟨g', cap', rfl⟩ := ownsRow_succ hown'
                have hb5 : Below w7.heap.size w7 w5 := ((HB.out.alloc (by omega) _).alloc (by simp; omega) _).grown hgrow (by simp; omega) (fun j ej => (hown5.lt j ej).1)
                go_wp2_with fail
                go_roundw
                case rel =>
                  refine ⟨j + 1, hlt, by go_num, ?_, hb5⟩
                  rw [TK.out]
                  unfold OwnS
                  rw [List.length_append, List.map_append, HLL.out]; exact hown'
                case measure => simp [intOf]; omega
              · obtain rfl : j = its.length := by omega
                rw [List.take_length] at hown
                have hstr := hown.strs
                obtain ⟨ra, rc, rfl, hrle, hrc⟩ := _root_.id hstr
                have hml : (its.map fun it => B it.raw).length = its.length := by rw [List.length_map]
                have HSTR := Lib.hid hstr
                have W8 := Lib.hid (W7.out.below hb (Nat.le_refl _))
                have C8 := Lib.hid (C7.out.below hb (Nat.le_refl _))
                have CU8 := Lib.hid (CU7.out.below hb CU7.out.lt)
                have B8 := Lib.hid (B7.out.trans (hb.mono B7.out.size))
                have HML := Lib.hid hml
                rw [hml]
                clear hown hstr hrle hrc hb hml HIT
                go_wp2_with fail
                obtain ⟨wq, rfl⟩ : ∃ q, q = wr := ⟨wr, rfl⟩
                go_loopw [16, 17] (fun a i W => ∃ (n at_ : Nat), 1 ≤ n ∧ n ≤ N ∧ i = .int .i64 n ∧ a = .int .i64 at_ ∧ at_ ≤ its.length ∧ (∀ (j : Nat) (e : En), l.es[j]? = some e → Kept l0.next (touchL eds) e = true → (n : Int) ≤ e.2 → at_ ≤ j) ∧ Below wq.heap.size wq W) (fun _ i _ => N - (intOf i).toNat)
                case atStart => exact ⟨1, 0, Nat.le_refl _, hN2.1, rfl, rfl, Nat.zero_le _, fun j e _ _ _ => Nat.zero_le _, Below.refl _ _⟩
                case round =>
                  obtain ⟨n, at_, hn1, hnN, rfl, rfl, hatl, hord, hb⟩ := hrel
                  have hzb := hb.size
                  have HO := Lib.hid hord
                  have BB := Lib.hid hb
                  clear hord
                  by_cases hlt : n < N
                  · have s0 : wr.cell? ⟨w4.heap.size, n, none⟩ = some (.bool (decide ((n : Int) ∈ touchL eds))) := by rw [(CU8.out.below hb CU8.out.lt).cell]; exact AT.out n (by omega) hlt
                    clear hb
                    by_cases ht : (n : Int) ∈ touchL eds
                    · rw [decide_eq_true ht] at s0
                      clear ht
                      go_wp2_with fail
                      exact ⟨⟨n + 1, at_, by omega, hlt, by go_num, rfl, hatl, fun j e h1 h2 h3 => HO.out j e h1 h2 (by omega), BB.out⟩, by simp [intOf]; omega⟩
                    · rw [decide_eq_false ht] at s0
                      obtain ⟨e, ⟨i1, he1⟩, ⟨j1, hj1⟩, hen, hke⟩ := kept_there KP.out (HALL.out n (by omega) (by rw [HN.out]; omega)) (by omega) (by rw [HN.out]; omega) ht
                      have WW := W8.out.below BB.out (Nat.le_refl _)
                      have CW := C8.out.below BB.out (Nat.le_refl _)
                      obtain ⟨p1, hp1, hp1e⟩ := found_of CES2.out OK0.out.wf OK0.out.nd he1 (by omega)
                      obtain ⟨p2, hp2, hp2e⟩ := found_of CW.es CW.ok.wf CW.ok.nd hj1 (by omega)
                      rw [hen] at hp1 hp2
                      have hpcl : pcs.length ≤ 1000000 := by
                        have h1 := congrArg List.length CES2.out
                        rw [List.length_map] at h1
                        have := HC0.out
                        omega
                      have RA := raw_any lc ec pcs l0.next n wr WW.la.lr hpcl
                      rw [hp1] at RA
                      dsimp only at RA
                      rw [hp1e] at RA
                      have RB : ∀ W, Below wr.heap.size wr W → Calls Tryz.prog 19 #[ptr lb, .int .i64 n] W fun e' w' => e' = .returned (.tuple #[.string (B e.1.raw), .bool true]) ∧ Below W.heap.size W w' := fun W hW => by
                        have h := raw_any lb ev ps l.next n W (CW.la.lr.below hW (Nat.le_refl _)) (by omega)
                        rw [hp2] at h
                        dsimp only at h
                        rw [hp2e] at h
                        exact h
                      have hjl : j1 < its.length := by
                        have h1 := (List.getElem?_eq_some_iff.1 hj1).1
                        have h2 := congrArg List.length HPM.out
                        rw [List.length_map] at h2
                        omega
                      have hij : its[j1]? = some e.1 := by rw [HPM.out, List.getElem?_map, hj1]; rfl
                      have hat1 := HO.out j1 e hj1 hke (by omega)
                      have HRA := Lib.hid RA
                      have HRB := Lib.hid RB
                      have HIJ := Lib.hid hij
                      have HJ1 := Lib.hid hj1
                      have HKE := Lib.hid hke
                      have HEN := Lib.hid hen
                      generalize hraw : e.1.raw = raw at *
                      have HRAW := Lib.hid hraw
                      unfold ptr at HRA HRB
                      have hrr : ((B raw).toList != (B raw).toList) = false := by simp
                      clear he1 hj1 hen hke WW CW hp1 hp1e hp2 hp2e RA RB hij hraw ht hpcl
                      go_wp2_with fail
                      refine HRA.out.mono ?_
                      rintro e' w9 ⟨rfl, b9⟩
                      have BR9 := Lib.hid (BB.out.trans (b9.mono hzb))
                      have HRB9 := Lib.hid (HRB.out w9 b9)
                      clear HRA HRB b9
                      go_wp2_with fail
                      refine HRB9.out.mono ?_
                      rintro e' w10 ⟨rfl, b10⟩
                      have BR10 := Lib.hid (BR9.out.trans (b10.mono BR9.out.size))
                      clear HRB9 b10
                      have HST := Lib.hid (HSTR.out.below BR10.out (Nat.le_refl _))
                      go_wp2_with fail
                      go_loopw [16] (fun a W => ∃ j : Nat, a = .int .i64 j ∧ at_ ≤ j ∧ j ≤ j1 ∧ W = w10) (fun a _ => its.length - (intOf a).toNat)
                      case atStart => exact ⟨at_, rfl, Nat.le_refl _, hat1, rfl⟩
                      case round =>
                        obtain ⟨j, rfl, hj0, hj2, rfl⟩ := hrel
                        obtain ⟨xt, hxt⟩ : ∃ xt, its[j]? = some xt := ⟨_, List.getElem?_eq_getElem (by omega)⟩
                        obtain ⟨_, _, e1, _, hcx⟩ := HST.out
                        cases e1
                        obtain ⟨b, off, rfl, hbb, x0⟩ := hcx j (B xt.raw) (by rw [List.getElem?_map, hxt]; rfl)
                        have hjl2 : j < its.length := by omega
                        have hdj : decide ((j : Int) < (its.length : Int)) = true := decide_eq_true (by omega)
                        have hne : ((j : Int) == (its.length : Int)) = false := beq_eq_false_iff_ne.2 (by omega)
                        by_cases hq : xt.raw = raw
                        · rw [hq] at x0
                          clear hxt hcx hq
                          go_wp2_with fail
                          have hfin : ∀ (j' : Nat) (e' : En), l.es[j']? = some e' → Kept l0.next (touchL eds) e' = true → ((n + 1 : Nat) : Int) ≤ e'.2 → j + 1 ≤ j' := fun j' e' h1 h2 h3 => by
                            have hlt2 : e.2 < e'.2 := by have := HEN.out; omega
                            have := kept_order KP.out HORD.out HJ1.out h1 HKE.out h2 hlt2
                            omega
                          exact ⟨⟨n + 1, j + 1, by omega, hlt, by go_num, by go_num, by omega, hfin, BR10.out⟩, by simp [intOf]; omega⟩
                        · have hqq : ((B xt.raw).toList != (B raw).toList) = true := by
                            have h1 := beq_B xt.raw raw
                            rw [bne, h1, beq_eq_false_iff_ne.2 hq]; rfl
                          have hq3 : ((B xt.raw).toList == (B raw).toList) = false := (beq_B xt.raw raw).trans (beq_eq_false_iff_ne.2 hq)
                          have hq4 : ¬ (B xt.raw).toList = (B raw).toList := beq_eq_false_iff_ne.1 hq3
                          have hjj : j < j1 := by
                            rcases Nat.lt_or_ge j j1 with q | q
                            · exact q
                            · exfalso
                              obtain rfl : j = j1 := by omega
                              have h1 := hxt.symm.trans HIJ.out
                              exact hq (by rw [Option.some.inj h1]; exact HRAW.out)
                          generalize xt.raw = xraw at *
                          clear hxt hcx hq
                          go_wp2_with fail
                          exact ⟨⟨j + 1, by go_num, by omega, by omega, trivial⟩, by simp [intOf]; omega⟩
                  · obtain rfl : n = N := by omega
                    have HBF := Lib.hid (B8.out.trans (BB.out.mono B8.out.size))
                    clear hb
                    go_wp2_with fail
                    go_ret
                    exact ⟨rfl, HBF.out⟩
open Go.Maps Go.ChangeShapes Go.Joins Go.WideShapes in
set_option maxRecDepth 100000 in
theorem verbatimCall7 {H : Type} {enc : TypeId × Value → H} (s : ByteArray) (v : Value) (d : DataW H) (p : List MemPlace) (W : World) (hs : s.size ≤ maxLen) {b0 : Nat} (hval : Value.okWide Tryz.prog W .any b0 22 v) {base : Nat} {sp : Nat → Bool} {held : Bool} (h : DataW.Trod enc Tryz.prog W base sp held 22 v d p) :
    Calls Tryz.prog 5 #[.string s, v] W fun e w' => e = .returned (.bool true) ∧ Below W.heap.size W w' := by
  obtain ⟨n, hn⟩ := h
  obtain ⟨ao, len, cap, rfl⟩ := okWide_slice Tryz.underlying22 hval
  obtain ⟨eds, hr⟩ := edits_in (v := .slice ao len cap) hn
  exact verbatimLaw7 s hs eds _ W hr
end Go.Proofs.YtiebbgbcojgeoaaGreatDoor
