/- ListParses. -/
import Derived.Test.YtiebbgbcojgeoaaGreatDoorXNK
import Derived.Test.YtiebbgbcojgeoaaGreatDoorBase7
set_option linter.unusedVariables false
namespace Go.Proofs.YtiebbgbcojgeoaaGreatDoor
open Go.RowKit Go.Shelf
attribute [local go_sem] Oper.semAt_some

set_option maxRecDepth 100000 in
set_option maxHeartbeats 8000000 in
theorem parsesLaw (s : ByteArray) (hs : s.size ≤ maxLen) (eds : List Ed) (v : Value) (w : World) (h : EdsIn w v eds) :
    Calls Tryz.prog 4 #[.string s, v] w fun e w' => e = .returned (.bool true) ∧ Below w.heap.size w w' := by
  have AL := Lib.hid (alive7_any w)
  have HE := Lib.hid h
  unfold maxLen at hs
  obtain ⟨va, vc, rfl, _⟩ : ∃ A c, v = .slice A eds.length c ∧ True := by obtain ⟨_, A, c, e, _⟩ := h; exact ⟨A, c, e, trivial⟩
  clear h
  go_enter Tryz.func4, Tryz.ntmps4
  go_wp2_with fail
  refine AL.out.mono ?_
  rintro e w1 ⟨rfl, b1⟩
  have B1 := Lib.hid b1
  clear AL b1
  by_cases hlong : 3000 < s.size
  · go_wp2_with fail
    go_ret
    exact ⟨rfl, B1.out⟩
  have HV := Lib.hid (heavy_any eds _ w1 (HE.out.below B1.out (Nat.le_refl _)))
  go_wp2_with fail
  refine HV.out.mono ?_
  rintro e w2 ⟨⟨q, rfl, hq⟩, b2⟩
  have B2 := Lib.hid (B1.out.trans (b2.mono B1.out.size))
  have HQ := Lib.hid hq
  clear HV b2 hq
  cases q with
  | true =>
    go_wp2_with fail
    go_ret
    exact ⟨rfl, B2.out⟩
  | false =>
    have LI : Hid (Light eds) := HQ.out (by first | exact rfl | trivial)
    have OF := Lib.hid (of_any s (by omega) w2)
    clear HQ
    go_wp2_with fail
    refine OF.out.mono ?_
    rintro e w3 hof
    clear OF
    cases hp : parseL s.data.toList with
    | error an =>
      obtain ⟨a, n⟩ := an
      obtain ⟨b3, u, rfl, hf⟩ := hof.no hp
      obtain ⟨q, _, rfl, _⟩ := hf
      have B3 := Lib.hid (B2.out.trans (b3.mono B2.out.size))
      clear hof b3 hp
      go_wp2_with fail
      go_ret
      exact ⟨rfl, B3.out⟩
    | ok its =>
      obtain ⟨b3, lb, ev, ps, rfl, hlb, hev, hla, hps⟩ := hof.yes hp
      have hlen : (fromL its).es.length ≤ 3000 ∧ (fromL its).next ≤ 3001 := by
        have h1 := (parse_join hp).2.1
        rw [← Lib.size_eq] at h1
        have h2 : (fromL its).es.length = its.length := from_len 1 its
        have h3 := (from_next 1 its).2
        have h4 : (fromL its).next = fromNext 1 its := rfl
        omega
      have CA : Carry w2.heap.size w3 lb ev ps (fromL its) 3000 := by
        refine ⟨hla, hps, from_ok hp, fun e he => ?_, hlb, hev, hlen.1, hlen.2⟩
        have h1 := (parse_join hp).2.2
        have h2 : e.1 ∈ its := by rw [← from_items 1 its]; exact List.mem_map_of_mem he
        obtain ⟨q1, q2⟩ := h1 _ h2
        rw [← Lib.size_eq] at q2
        exact ⟨by omega, by omega⟩
      have B3 := Lib.hid (B2.out.trans (b3.mono B2.out.size))
      have hB3 : Below w2.heap.size w2 w3 := b3
      have HC := Lib.hid CA
      have HI := Lib.hid (itm_from hp)
      generalize fromL its = l0 at *
      clear hof b3 hp hla hps CA hlen
      have hlb0 := hlb
      unfold ptr at *
      have HE2 := Lib.hid (HE.out.below B2.out (Nat.le_refl _))
      have hS2 : w.heap.size ≤ w2.heap.size := B2.out.size
      go_wp2_with fail
      go_loopw [33] (fun i wr => ∃ (k : Nat) (ev : Value) (ps : List Pr) (l : LS), k ≤ eds.length ∧ i = .int .i64 k ∧ Carry w2.heap.size wr lb ev ps l (3000 + k) ∧ ItmL l.es ∧ Below w2.heap.size w2 wr) (fun i _ => eds.length - (intOf i).toNat)
      case atStart => exact ⟨0, ev, ps, l0, Nat.zero_le _, rfl, HC.out, HI.out, hB3⟩
      case round =>
        clear hlb hev B3 hB3 HC HI
        obtain ⟨k, ev, ps, l, hk, rfl, hC, hI, hBR⟩ := hrel
        have hpos := hC.ok.pos
        have hnx := hC.nx
        have hlen := hC.len
        have hpl : ps.length ≤ 4000 := by
          have h1 : ps.length = l.es.length := by rw [← hC.es, List.length_map]
          have := LI.out.1
          omega
        have hlk := LI.out.1
        have CR := Lib.hid hC
        have IR := Lib.hid hI
        have BR := Lib.hid hBR
        have hsr := hBR.size
        clear hC hBR hI
        by_cases hlt : k < eds.length
        · obtain ⟨ed, hed⟩ : ∃ ed, eds[k]? = some ed := ⟨_, List.getElem?_eq_getElem hlt⟩
          have hmem := List.mem_of_getElem? hed
          obtain ⟨_, A', cap', e1, _, hc⟩ := HE2.out
          cases e1
          obtain ⟨b, off, fv, rfl, hbb, c0, c1, c2, hf⟩ := hc k ed hed
          obtain ⟨fa, fc, rfl, _, _⟩ := _root_.id hf.flds
          replace c0 := (BR.out.cell (p := ⟨b, off + k * 3, none⟩) hbb).trans c0
          replace c1 := (BR.out.cell (p := ⟨b, off + k * 3 + 1, none⟩) hbb).trans c1
          replace c2 := (BR.out.cell (p := ⟨b, off + k * 3 + 1 + 1, none⟩) hbb).trans c2
          obtain ⟨wa, hwa⟩ : ∃ wa, wa = wr.alloc (.cells #[.int .i64 ed.kind, .int .i64 ed.id, .slice fa ed.fields.length fc] 38) := ⟨_, rfl⟩
          have hra : Below wr.heap.size wr wa := by rw [hwa]; exact (Below.refl _ _).alloc (Nat.le_refl _) _
          have hBA : Below w2.heap.size w2 wa := BR.out.trans (hra.mono hsr)
          have CW := Lib.hid (CR.out.below hra (Nat.le_refl _))
          have hfa := hf.kept hBA (Nat.le_refl _)
          have hfr : FldR wa (.slice fa ed.fields.length fc) ed.fields := ⟨hfa.flds, hfa.nil⟩
          have hxlt : ed.fields ≠ [] → ∀ r, (Value.slice fa ed.fields.length fc).ownBlock = some r → r < w2.heap.size := fun hne r e => hf.flds.lt hne r e
          have hlb0 := CR.out.lb0
          have hev0 := CR.out.ev0
          have FI := LI.out.fine hmem
          have hsm := light_small LI.out hmem
          have DO := do_any lb ev (.slice none 0 0) (.slice fa ed.fields.length fc) ps [] l.next 0 ed.kind ed.id ed.fields wa CW.out.str CW.out.wf (by rw [CW.out.es]; exact CW.out.ok.len) (by omega) (by decide) (by omega) (by decide) hfr FI (fun hne r e => ⟨by have := hxlt hne r e; omega, fun e2 => by have := hxlt hne r e; have := hev0 r e2; omega⟩)
          rw [CW.out.es] at DO
          -- the world behind an edit
          have WB : Hid (∀ w5, Only (fun r => r = lb ∨ ev.ownBlock = some r) wa w5 → Below w2.heap.size w2 w5) := fun w5 o =>
            hBA.trans (o.to_below hBA.size (fun r hr e => by
              rcases e with e | e
              · omega
              · have := hev0 r e; omega))
          have HDO := Lib.hid DO
          have HSM := Lib.hid hsm
          have hwas : Hid (w2.heap.size ≤ wa.heap.size) := hBA.size
          unfold ptr at HDO
          clear hed hf hra hBA hfa hfr hxlt hev0 FI DO hsm hc
          subst hwa
          have FIN : Hid (∀ w5 ev' ps' v' qs', StR w5 lb ev' ps' (editR l ed.kind ed.id ed.fields).ls.next v' qs' → ps'.map Prod.fst = (editR l ed.kind ed.id ed.fields).ls.es → (∀ b, ev'.ownBlock = some b → ev.ownBlock = some b ∨ (wr.alloc (.cells #[.int .i64 ed.kind, .int .i64 ed.id, .slice fa ed.fields.length fc] 38)).heap.size ≤ b) → Carry w2.heap.size w5 lb ev' ps' (editR l ed.kind ed.id ed.fields).ls (3000 + (k + 1))) := fun w5 ev' ps' v' qs' hst hes hblk =>
            CW.out.edit ed.kind ed.id HSM.out.1 HSM.out.2 hst.la hes hwas.out hblk
          go_wp2_with fail
          refine HDO.out.mono ?_
          rintro e w5 ⟨ev', ps', v', qs', rfl, hst, hes, _, ho, _, hblk⟩
          have C5 := Lib.hid (FIN.out w5 ev' ps' v' qs' hst hes hblk)
          have hB5 := Lib.hid (WB.out w5 ho)
          clear hst hes ho hblk HDO
          go_wp2_with fail
          exact ⟨⟨k + 1, ev', ps', (editR l ed.kind ed.id ed.fields).ls, hlt, by go_num, C5.out, IR.out.edit _ _ _, hB5.out⟩, by simp [intOf]; omega⟩
        · obtain rfl : k = eds.length := by omega
          have hitp := itsP_es CR.out.es
          have TX := text_gen ps ev (some ⟨lb, 0, none⟩) wr (AllR.of CR.out.la.lr) (CR.out.ents (by omega))
          have PL := parse_list IR.out CR.out.ok
          rw [hitp] at TX
          have HEO := Lib.hid (CR.out.ents (by omega))
          obtain ⟨T, hT⟩ : ∃ T, T = (apartL (l.es.map Prod.fst)).flatMap It.raw := ⟨_, rfl⟩
          obtain ⟨L, hL⟩ : ∃ L, L = apartL (l.es.map Prod.fst) := ⟨_, rfl⟩
          have hLn : T = L.flatMap It.raw := by rw [hT, hL]
          rw [← hT] at TX PL
          rw [← hL] at PL
          have HTX := Lib.hid TX
          have HPL := Lib.hid PL
          have HL := Lib.hid hL
          have HLN := Lib.hid hLn
          have HLL : Hid (L.length ≤ 7000) := by
            show L.length ≤ 7000
            have h1 := apart_len (l.es.map Prod.fst)
            rw [← hL, List.length_map] at h1
            omega
          clear TX PL hT hL hLn hitp hpl hlen hnx hpos
          go_wp2_with fail
          refine HTX.out.mono ?_
          rintro e w6 ⟨rfl, b6⟩
          have B6 := Lib.hid (BR.out.trans (b6.mono hsr))
          have C6 := Lib.hid (CR.out.below b6 (Nat.le_refl _))
          have HB6 := Lib.hid (B2.out.trans (B6.out.mono hS2))
          clear HTX b6
          by_cases hT6 : 60000 < (B T).size
          · go_wp2_with fail
            go_ret
            exact ⟨rfl, HB6.out⟩
          have PA := parse_any (B T) (by omega) w6
          have OF6 := fun W => of_any (B T) (by omega) W
          rw [B_data] at PA OF6
          have HPA := Lib.hid PA
          have HOF := Lib.hid OF6
          clear PA OF6
          go_wp2_with fail
          refine HPA.out.mono ?_
          rintro e w7 hP
          obtain ⟨p1, v, rfl, p2, p3⟩ := parseYes hP HPL.out
          have B7 := Lib.hid (B6.out.trans (p1.mono B6.out.size))
          have C7 := Lib.hid (C6.out.below p1 (Nat.le_refl _))
          clear hP p1 HPA
          have hjn := parse_join HPL.out
          have hLl : L.length ≤ 60000 := by
            have h1 := hjn.2.1
            have h2 : (B T).size = T.length := by rw [Lib.size_eq, B_data]
            omega
          have hfl : ∀ it ∈ L, it.fields.length ≤ 1000000 := fun it hi => by have := (hjn.2.2 it hi).1; omega
          have HSA := Lib.hid (stanzas_any L v w7 p2 p3 (by omega) hfl)
          obtain ⟨A, cap, rfl, hle, _⟩ := _root_.id p2
          clear hjn hfl p2 p3
          go_wp2_with fail
          refine HSA.out.mono ?_
          rintro e w8 ⟨u, vs, rfl, acc⟩
          obtain ⟨ua, uc, hue, _⟩ := own_slice acc.row
          subst hue
          have B8 := Lib.hid (B7.out.trans (acc.below.mono B7.out.size))
          have C8 := Lib.hid (C7.out.below acc.below (Nat.le_refl _))
          have HACC := Lib.hid acc
          have HSG := Lib.hid (stanzas_gen ps ev (some ⟨lb, 0, none⟩) w8 (fun W hW => AllR.of (C8.out.la.lr.below hW (Nat.le_refl _))) HEO.out)
          clear HSA acc
          go_wp2_with fail
          refine HSG.out.mono ?_
          rintro e wz ⟨u, fvs, rfl, hz⟩
          clear HSG
          obtain ⟨za, zc, rfl, _⟩ := own_slice hz.row
          have BZ := Lib.hid (B8.out.trans (hz.below.mono B8.out.size))
          have AZ := Lib.hid (HACC.out.kept hz.below)
          obtain ⟨rs, hrs⟩ : ∃ rs, rs = stzL (stzP 0 ps) := ⟨_, rfl⟩
          have hsame : rs.map Prod.snd = recs L := by
            rw [hrs, HL.out, recs_put, stz_recs, itsP_es CR.out.es]
          rw [← hrs] at hz ⊢
          have HZ := Lib.hid hz
          have hvl : vs.length = rs.length := by rw [HACC.out.len, ← hsame, List.length_map]
          have hrl : rs.length ≤ 60000 := by
            have h1 := congrArg List.length hsame
            rw [List.length_map] at h1
            have := recs_len L
            omega
          have HS := Lib.hid hsame
          rw [hvl]
          have HVL := Lib.hid hvl
          clear hz hrs hsame HACC hvl
          go_wp2_with fail
          obtain ⟨wq, rfl⟩ : ∃ q, q = wr := ⟨wr, rfl⟩
          go_loopw [70] (fun i W => ∃ (j : Nat), j ≤ rs.length ∧ i = .int .i64 j ∧ ∃ m, W = wz.drewN m) (fun i _ => rs.length - (intOf i).toNat)
          case atStart => exact ⟨0, Nat.zero_le _, rfl, 0, rfl⟩
          case round =>
            obtain ⟨j, hj, rfl, nd, hwr⟩ := hrel
            by_cases hlt : j < rs.length
            · obtain ⟨st, hst⟩ : ∃ st, rs[j]? = some st := ⟨_, List.getElem?_eq_getElem hlt⟩
              obtain ⟨fx, hfx⟩ : ∃ x, fvs[j]? = some x := ⟨_, List.getElem?_eq_getElem (by rw [HZ.out.len]; exact hlt)⟩
              obtain ⟨vx, hvx⟩ : ∃ x, vs[j]? = some x := ⟨_, List.getElem?_eq_getElem (by rw [HVL.out]; exact hlt)⟩
              have hr : (recs L)[j]? = some st.2 := by rw [← HS.out, List.getElem?_map, hst]; rfl
              have hx1 := HZ.out.each j st fx hst hfx
              have hx2 := AZ.out.each j vx st.2 hvx hr
              obtain ⟨xa, xc, rfl, _⟩ := own_slice hx1
              obtain ⟨ya, yc, rfl, _⟩ := own_slice hx2
              have hrow := HZ.out.row
              obtain ⟨g, cg, hug⟩ := Joins.ownsRow_form hrow (by omega)
              obtain ⟨z0, z1⟩ := stzCells_at rs fvs j st _ hst hfx
              rw [hug] at hrow
              have c1 : wr.cell? ⟨g, j * 2 + 1, none⟩ = some (.slice xa st.2.length xc) := by rw [hwr]; show wz.cell? _ = _; rw [World.ownsRow.cellAt hrow (j * 2 + 1) (by omega), z1]
              have hrow2 := AZ.out.row
              obtain ⟨g2, cg2, hug2⟩ := Joins.ownsRow_form hrow2 (by rw [HVL.out]; omega)
              rw [hug2] at hrow2
              have d1 : wr.cell? ⟨g2, j, none⟩ = some (.slice ya st.2.length yc) := by rw [hwr]; show wz.cell? _ = _; rw [World.ownsRow.cellAt hrow2 j (by rw [HVL.out]; omega), hvx]
              have hfl1 := flds_of_own hx1
              have hfl2 := flds_of_own hx2
              have hm : st.2.length ≤ 1000000 := by
                have h1 := List.mem_of_getElem? hr
                unfold recs at h1
                obtain ⟨it, h2, h3⟩ := List.mem_map.1 h1
                have := ((parse_join HPL.out).2.2 it (List.mem_filter.1 h2).1).1
                rw [← h3]; omega
              have FQ0 : ∀ n, Calls Tryz.prog 21 #[.slice ya st.2.length yc, .slice xa st.2.length xc] (wr.drewN n) fun e w' => e = .returned (.bool true) ∧ ∃ m, w' = (wr.drewN n).drewN m := by
                intro n
                rw [hwr]
                exact fields_quiet st.2 _ _ ((wz.drewN nd).drewN n) ((hfl2.drewN nd).drewN n) ((hfl1.drewN nd).drewN n) hm
              have FQ := Lib.hid FQ0
              have HW := Lib.hid hwr
              injection hug with q1 _ q3
              injection hug2 with q4 _ q5
              subst q1 q3 q4 q5
              clear hst hfx hvx hr hx1 hx2 hrow hrow2 z0 z1 hfl1 hfl2 hwr FQ0
              go_wp2_with (go_quiet ((go_at_call 21; exact Calls.quiet_of (FQ.out _))))
              go_roundw
              case rel => exact ⟨j + 1, hlt, by go_num, _, by rw [HW.out]; exact World.drewN_drewN _ _ _⟩
              case measure => simp [intOf]; omega
            · obtain rfl : j = rs.length := by omega
              have OFW := Lib.hid (HOF.out wr)
              have BW : Hid (Below w.heap.size w wr) := by rw [hwr]; exact drewN_below (B2.out.trans (BZ.out.mono hS2)) nd
              clear HOF hwr
              go_wp2_with fail
              refine OFW.out.mono ?_
              rintro e w9 hof
              obtain ⟨b9, lb9, ev9, ps9, rfl, hlb9, hev9, hla9, hps9⟩ := hof.yes HPL.out
              have B9 := Lib.hid (BW.out.trans (b9.mono BW.out.size))
              have hi9 : itsP ps9 = L := by rw [itsP_es hps9]; exact from_items 1 L
              have hTl : (B T).size = T.length := by rw [Lib.size_eq, B_data]
              have ok9 : EntsOk ps9 := by
                have hj9 := parse_join HPL.out
                have CA : Carry wr.heap.size w9 lb9 ev9 ps9 (fromL L) 7000 := by
                  refine ⟨hla9, hps9, from_ok HPL.out, fun e he => ?_, hlb9, hev9, ?_, ?_⟩
                  · have h2 : e.1 ∈ L := by rw [← from_items 1 L]; exact List.mem_map_of_mem he
                    obtain ⟨q1, q2⟩ := hj9.2.2 _ h2
                    exact ⟨by omega, by omega⟩
                  · rw [show (fromL L).es.length = L.length from from_len 1 L]; exact HLL.out
                  · have h3 := (from_next 1 L).2
                    have h4 : (fromL L).next = fromNext 1 L := rfl
                    have h5 := HLL.out
                    omega
                exact CA.ents (by decide)
              have TX9 := text_gen ps9 ev9 (some ⟨lb9, 0, none⟩) w9 (AllR.of hla9.lr) ok9
              have e9 : (apartL L).flatMap It.raw = T := by rw [HLN.out, HL.out, apart_twice]
              rw [hi9, e9] at TX9
              have HT9 := Lib.hid TX9
              have hTT : ((B T).toList == (B T).toList) = true := by simp
              clear hof b9 hla9 hps9 hi9 ok9 e9 TX9 OFW hTl
              unfold ptr
              go_wp2_with fail
              refine HT9.out.mono ?_
              rintro e w10 ⟨rfl, b10⟩
              have B10 := Lib.hid (B9.out.trans (b10.mono B9.out.size))
              clear b10 HT9
              go_wp2_with fail
              go_ret
              exact ⟨rfl, B10.out⟩
open Go.Maps Go.ChangeShapes Go.Joins Go.WideShapes in
set_option maxRecDepth 100000 in
theorem parsesCall {H : Type} {enc : TypeId × Value → H} (s : ByteArray) (v : Value) (d : DataW H) (p : List MemPlace) (W : World) (hs : s.size ≤ maxLen) {b0 : Nat} (hval : Value.okWide Tryz.prog W .any b0 22 v) {base : Nat} {sp : Nat → Bool} {held : Bool} (h : DataW.Trod enc Tryz.prog W base sp held 22 v d p) :
    Calls Tryz.prog 4 #[.string s, v] W fun e w' => e = .returned (.bool true) ∧ Below W.heap.size W w' := by
  obtain ⟨n, hn⟩ := h
  obtain ⟨ao, len, cap, rfl⟩ := okWide_slice Tryz.underlying22 hval
  obtain ⟨eds, hr⟩ := edits_in (v := .slice ao len cap) hn
  exact parsesLaw s hs eds _ W hr
end Go.Proofs.YtiebbgbcojgeoaaGreatDoor
