/- ListNumbers. -/
import Derived.Test.YtiebbgbcojgeoaaGreatDoorBase7
set_option linter.unusedVariables false
namespace Go.Proofs.YtiebbgbcojgeoaaGreatDoor
open Go.RowKit Go.Shelf
attribute [local go_sem] Oper.semAt_some

theorem edit_next12 (l : LS) {kind : Int} (hk : kind = 1 ∨ kind = 2) (id : Int) (fs : List Fld) : (editR l kind id fs).ls.next = l.next := by
  rcases hk with rfl | rfl
  · show (replaceR l id fs).ls.next = l.next
    unfold replaceR
    split
    · rfl
    · split <;> rfl
  · show (deleteR l id).ls.next = l.next
    unfold deleteR
    split <;> rfl
theorem light_small {eds : List Ed} (h : Light eds) {ed : Ed} (he : ed ∈ eds) : (foldG ed.fields).length ≤ 100000 ∧ ed.fields.length ≤ 1000000 := by
  obtain ⟨a, _, b⟩ := h.2 ed he
  rw [foldG_lines]
  have := foldT_len6 ed.fields b
  exact ⟨by omega, by omega⟩
theorem infoBool : (Tryz.prog.info? 4).map (fun i => (i.zero, i.size, i.bytes)) = some (some (.bool false), 1, 1) := by kernel_rfl
set_option maxRecDepth 100000 in
set_option maxHeartbeats 8000000 in
theorem numbersLaw (s : ByteArray) (hs : s.size ≤ maxLen) (eds : List Ed) (v : Value) (w : World) (h : EdsIn w v eds) :
    Calls Tryz.prog 6 #[.string s, v] w fun e w' => e = .returned (.bool true) ∧ Below w.heap.size w w' := by
  have AL := Lib.hid (alive7_any w)
  have HE := Lib.hid h
  unfold maxLen at hs
  obtain ⟨va, vc, rfl, _⟩ : ∃ A c, v = .slice A eds.length c ∧ True := by obtain ⟨_, A, c, e, _⟩ := h; exact ⟨A, c, e, trivial⟩
  clear h
  go_enter Tryz.func6, Tryz.ntmps6
  go_wp2_with fail
  refine AL.out.mono ?_
  rintro e w1 ⟨rfl, b1⟩
  have B1 := Lib.hid b1
  clear AL b1
  by_cases hlong : 3000 < s.size
  · go_wp2_with fail
    go_ret
    exact ⟨rfl, B1.out⟩
  have HV := Lib.hid (heavy_any eds _ w1 (HE.out.below B1.out (Nat.le_refl _)))
  go_wp2_with fail
  refine HV.out.mono ?_
  rintro e w2 ⟨⟨q, rfl, hq⟩, b2⟩
  have B2 := Lib.hid (B1.out.trans (b2.mono B1.out.size))
  have HQ := Lib.hid hq
  clear HV b2 hq
  cases q with
  | true =>
    go_wp2_with fail
    go_ret
    exact ⟨rfl, B2.out⟩
  | false =>
    have LI : Hid (Light eds) := HQ.out (by first | exact rfl | trivial)
    have OF := Lib.hid (of_any s (by omega) w2)
    clear HQ
    go_wp2_with fail
    refine OF.out.mono ?_
    rintro e w3 hof
    clear OF
    cases hp : parseL s.data.toList with
    | error an =>
      obtain ⟨a, n⟩ := an
      obtain ⟨b3, u, rfl, hf⟩ := hof.no hp
      obtain ⟨q, _, rfl, _⟩ := hf
      have B3 := Lib.hid (B2.out.trans (b3.mono B2.out.size))
      clear hof b3 hp
      go_wp2_with fail
      go_ret
      exact ⟨rfl, B3.out⟩
    | ok its =>
      obtain ⟨b3, lb, ev, ps, rfl, hlb, hev, hla, hps⟩ := hof.yes hp
      have hlen : (fromL its).es.length ≤ 3000 ∧ (fromL its).next ≤ 3001 := by
        have h1 := (parse_join hp).2.1
        rw [← Lib.size_eq] at h1
        have h2 : (fromL its).es.length = its.length := from_len 1 its
        have h3 := (from_next 1 its).2
        have h4 : (fromL its).next = fromNext 1 its := rfl
        omega
      have CA : Carry w2.heap.size w3 lb ev ps (fromL its) 3000 := by
        refine ⟨hla, hps, from_ok hp, fun e he => ?_, hlb, hev, hlen.1, hlen.2⟩
        have h1 := (parse_join hp).2.2
        have h2 : e.1 ∈ its := by rw [← from_items 1 its]; exact List.mem_map_of_mem he
        obtain ⟨q1, q2⟩ := h1 _ h2
        rw [← Lib.size_eq] at q2
        exact ⟨by omega, by omega⟩
      have HLR := Lib.hid (from_lenR its)
      have B3 := Lib.hid (B2.out.trans (b3.mono B2.out.size))
      have S3 := b3.size
      have b3_ := Lib.hid b3
      have HC := Lib.hid CA
      have hpos := CA.ok.pos
      have hpl : ps.length ≤ 3000 := by have := CA.len; rw [← CA.es, List.length_map] at this; exact this
      have hnx := CA.nx
      have NX := Lib.hid (next_any lb ev ps (fromL its).next w3 hla.lr (by omega))
      have LN := len_R lb ev ps (fromL its).next w3 hla.lr CA.wf (by omega)
      rw [hps] at LN
      have LN := Lib.hid LN
      have HLE := HLR.out
      generalize hfl : fromL its = l0 at *
      clear hof b3 hp hla hps CA HLR hlen hfl
      have HLE2 := Lib.hid HLE
      generalize hlr : lenR l0.es = len0 at *
      have hl0 : (len0 : Int) = l0.next - 1 := HLE
      unfold ptr at *
      have hwr : IntKind.i64.wrap (l0.next - 1) = l0.next - 1 := IntWalk.i64_in _ (by omega)
      have hne : ((l0.next - 1) != (len0 : Int)) = false := by rw [hl0]; simp
      clear HLE HLE2 hlr hl0
      go_wp2_with fail
      refine NX.out.mono ?_
      rintro e w4 ⟨rfl, rfl⟩
      go_wp2_with fail
      refine LN.out.mono ?_
      rintro e w4 ⟨rfl, b4⟩
      have B4 := Lib.hid (B3.out.trans (b4.mono B3.out.size))
      have C4 := Lib.hid (HC.out.below b4 (Nat.le_refl _))
      have S4 := b4.size
      have b4_ := Lib.hid b4
      clear NX LN b4
      go_wp2_with fail
      have hBW : Below w2.heap.size w2 w4 := by
        have h1 := b3_.out
        exact h1.trans (b4_.out.mono (by omega))
      have HE2 := Lib.hid (HE.out.below B2.out (Nat.le_refl _))
      have hS2 : w.heap.size ≤ w2.heap.size := B2.out.size
      go_loopw [7, 40] (fun g i wr => ∃ (k : Nat) (ev : Value) (ps : List Pr) (l : LS), k ≤ eds.length ∧ i = .int .i64 k ∧ g = .int .i64 (l.next - 1) ∧ Carry w2.heap.size wr lb ev ps l (3000 + k) ∧ Below w2.heap.size w2 wr) (fun _ i _ => eds.length - (intOf i).toNat)
      case atStart => exact ⟨0, ev, ps, l0, Nat.zero_le _, rfl, rfl, C4.out, hBW⟩
      case round =>
        clear C4 hne hwr hpos hpl hnx hlb hev S3 S4 b3_ b4_ B3 B4 hBW HC
        obtain ⟨k, ev, ps, l, hk, rfl, rfl, hC, hBR⟩ := hrel
        have hpos := hC.ok.pos
        have hnx := hC.nx
        have hlen := hC.len
        have hpl : ps.length ≤ 4000 := by
          have h1 : ps.length = l.es.length := by rw [← hC.es, List.length_map]
          have := LI.out.1
          omega
        have hlk := LI.out.1
        have CR := Lib.hid hC
        have BR := Lib.hid hBR
        have hsr := hBR.size
        clear hC hBR
        by_cases hlt : k < eds.length
        · obtain ⟨ed, hed⟩ : ∃ ed, eds[k]? = some ed := ⟨_, List.getElem?_eq_getElem hlt⟩
          have hmem := List.mem_of_getElem? hed
          obtain ⟨_, A', cap', e1, _, hc⟩ := HE2.out
          cases e1
          obtain ⟨b, off, fv, rfl, hbb, c0, c1, c2, hf⟩ := hc k ed hed
          obtain ⟨fa, fc, rfl, _, _⟩ := _root_.id hf.flds
          replace c0 := (BR.out.cell (p := ⟨b, off + k * 3, none⟩) hbb).trans c0
          replace c1 := (BR.out.cell (p := ⟨b, off + k * 3 + 1, none⟩) hbb).trans c1
          replace c2 := (BR.out.cell (p := ⟨b, off + k * 3 + 1 + 1, none⟩) hbb).trans c2
          obtain ⟨wa, hwa⟩ : ∃ wa, wa = wr.alloc (.cells #[.int .i64 ed.kind, .int .i64 ed.id, .slice fa ed.fields.length fc] 38) := ⟨_, rfl⟩
          have hra : Below wr.heap.size wr wa := by rw [hwa]; exact (Below.refl _ _).alloc (Nat.le_refl _) _
          have hBA : Below w2.heap.size w2 wa := BR.out.trans (hra.mono hsr)
          have CW := Lib.hid (CR.out.below hra (Nat.le_refl _))
          have BXA : Cells wa wr.heap.size 38 #[.int .i64 ed.kind, .int .i64 ed.id, .slice fa ed.fields.length fc] := by rw [hwa]; exact Cells.new _ _ _
          have hfa := hf.kept hBA (Nat.le_refl _)
          have hfr : FldR wa (.slice fa ed.fields.length fc) ed.fields := ⟨hfa.flds, hfa.nil⟩
          have hxlt : ed.fields ≠ [] → ∀ r, (Value.slice fa ed.fields.length fc).ownBlock = some r → r < w2.heap.size := fun hne r e => hf.flds.lt hne r e
          have hlb0 := CR.out.lb0
          have hev0 := CR.out.ev0
          have FI := LI.out.fine hmem
          have hsm := light_small LI.out hmem
          have IN := insert_R lb ev ps l.next ed.id ed.fields (.slice fa ed.fields.length fc) wa CW.out.la CW.out.wf (by rw [CW.out.es]; exact CW.out.ok.len) (by omega) (by omega) hfr FI
          have DO := do_any lb ev (.slice none 0 0) (.slice fa ed.fields.length fc) ps [] l.next 0 ed.kind ed.id ed.fields wa CW.out.str CW.out.wf (by rw [CW.out.es]; exact CW.out.ok.len) (by omega) (by decide) (by omega) (by decide) hfr FI (fun hne r e => ⟨by have := hxlt hne r e; omega, fun e2 => by have := hxlt hne r e; have := hev0 r e2; omega⟩)
          rw [CW.out.es] at IN DO
          -- the world behind an edit
          have WB : Hid (∀ w5, Only (fun r => r = lb ∨ ev.ownBlock = some r) wa w5 → Below w2.heap.size w2 w5) := fun w5 o =>
            hBA.trans (o.to_below hBA.size (fun r hr e => by
              rcases e with e | e
              · omega
              · have := hev0 r e; omega))
          have HIN := Lib.hid IN
          have HDO := Lib.hid DO
          have HSM := Lib.hid hsm
          have hwas : Hid (w2.heap.size ≤ wa.heap.size) := hBA.size
          unfold ptr at HIN HDO
          clear hed hf hra hBA hfa hfr hxlt hev0 FI IN DO hsm hc BXA
          subst hwa
          by_cases hk12 : ed.kind = 1 ∨ ed.kind = 2
          · have NE_ : Hid ((editR l ed.kind ed.id ed.fields).ls.next = l.next) := edit_next12 l hk12 ed.id ed.fields
            have HK : Hid (ed.kind = 1 ∨ (ed.kind ≠ 1 ∧ ed.kind = 2)) := by
              rcases hk12 with q | q
              · exact .inl q
              · exact .inr ⟨by omega, q⟩
            have FIN : Hid (∀ w5 ev' ps' v' qs', StR w5 lb ev' ps' (editR l ed.kind ed.id ed.fields).ls.next v' qs' → ps'.map Prod.fst = (editR l ed.kind ed.id ed.fields).ls.es → (∀ b, ev'.ownBlock = some b → ev.ownBlock = some b ∨ (wr.alloc (.cells #[.int .i64 ed.kind, .int .i64 ed.id, .slice fa ed.fields.length fc] 38)).heap.size ≤ b) → Carry w2.heap.size w5 lb ev' ps' (editR l ed.kind ed.id ed.fields).ls (3000 + (k + 1))) := fun w5 ev' ps' v' qs' hst hes hblk =>
              CW.out.edit ed.kind ed.id HSM.out.1 HSM.out.2 hst.la hes hwas.out hblk
            have kc := ed.kind
            clear hk12 HIN
            rcases HK.out with q | ⟨q1, q2⟩
            · have hk1 : (ed.kind != 1) = false := by rw [q]; decide
              clear q kc
              go_wp2_with fail
              refine HDO.out.mono ?_
              rintro e w5 ⟨ev', ps', v', qs', rfl, hst, hes, _, ho, _, hblk⟩
              have C5 := Lib.hid (FIN.out w5 ev' ps' v' qs' hst hes hblk)
              have hB5 := Lib.hid (WB.out w5 ho)
              clear hst hes ho hblk HDO
              go_wp2_with fail
              exact ⟨⟨k + 1, ev', ps', (editR l ed.kind ed.id ed.fields).ls, hlt, by go_num, by rw [NE_.out], C5.out, hB5.out⟩, by simp [intOf]; omega⟩
            · have hk1 : (ed.kind != 1) = true := bne_iff_ne.2 q1
              have hk2 : (ed.kind != 2) = false := by rw [q2]; decide
              clear q1 q2 kc
              go_wp2_with fail
              refine HDO.out.mono ?_
              rintro e w5 ⟨ev', ps', v', qs', rfl, hst, hes, _, ho, _, hblk⟩
              have C5 := Lib.hid (FIN.out w5 ev' ps' v' qs' hst hes hblk)
              have hB5 := Lib.hid (WB.out w5 ho)
              clear hst hes ho hblk HDO
              go_wp2_with fail
              exact ⟨⟨k + 1, ev', ps', (editR l ed.kind ed.id ed.fields).ls, hlt, by go_num, by rw [NE_.out], C5.out, hB5.out⟩, by simp [intOf]; omega⟩
          · have hk1 : (ed.kind != 1) = true := bne_iff_ne.2 (fun e => hk12 (.inl e))
            have hk2 : (ed.kind != 2) = true := bne_iff_ne.2 (fun e => hk12 (.inr e))
            have ED : Hid (insertR l ed.id ed.fields = editR l ed.kind ed.id ed.fields) := (editR_3 l (fun e => hk12 (.inl e)) (fun e => hk12 (.inr e)) ed.id ed.fields).symm
            clear hk12 HDO
            go_wp2_with fail
            refine HIN.out.mono ?_
            rintro e w5 ⟨u, ev', ps', rfl, hR⟩
            have hB5 := Lib.hid (WB.out w5 hR.only)
            have C5 := Lib.hid (CW.out.edit ed.kind ed.id HSM.out.1 HSM.out.2 (w' := w5) (ev' := ev') (ps' := ps') (by rw [← ED.out]; exact hR.la) (by rw [← ED.out]; exact hR.es) hwas.out (fun r e => by
              rcases hR.blk with q | ⟨b', q, hq⟩
              · exact .inl (by rw [← q]; exact e)
              · right; rw [q] at e; cases e; exact hq))
            have HERR := Lib.hid hR.err
            clear hR HIN
            rcases insert_id l ed.id ed.fields with ⟨z1, z2, z3⟩ | ⟨z1, z2, z3⟩
            · have hu : u = .nilIface := by
                have := HERR.out
                rw [z1] at this
                obtain ⟨_, ⟨h, _⟩ | ⟨_, _, _, h0⟩⟩ := this
                · exact h
                · exact absurd rfl h0
              subst hu
              rw [z2]
              have hwr : IntKind.i64.wrap (l.next - 1 + 1) = l.next := by rw [show l.next - 1 + 1 = l.next by omega]; exact IntWalk.i64_in _ (by omega)
              have hqq : (l.next != l.next) = false := by simp
              have Z3 := Lib.hid z3
              clear z1 z2 z3 HERR
              go_wp2_with fail
              exact ⟨⟨k + 1, ev', ps', (editR l ed.kind ed.id ed.fields).ls, hlt, by go_num, by rw [← ED.out, Z3.out, show l.next + 1 - 1 = l.next by omega], C5.out, hB5.out⟩, by simp [intOf]; omega⟩
            · have hu : ∃ t x, u = .iface t x ∨ ∃ n : Nat, 0 < n ∧ u = errV n := by
                obtain ⟨_, ⟨h, _⟩ | ⟨_, ⟨q, _, h, _⟩, _, _⟩⟩ := HERR.out
                · exact ⟨0, .nilIface, .inr ⟨_, Nat.pos_of_ne_zero z1, h⟩⟩
                · exact ⟨_, _, .inl h⟩
              have hu2 : ∃ t x, u = .iface t x := by
                obtain ⟨t, x, h | ⟨n, hn, h⟩⟩ := hu
                · exact ⟨t, x, h⟩
                · exact ⟨_, _, h.trans (errV_pos n hn)⟩
              obtain ⟨ut, ux, rfl⟩ := hu2
              rw [z2]
              have Z3 := Lib.hid z3
              clear z1 z2 z3 HERR hu
              go_wp2_with fail
              exact ⟨⟨k + 1, ev', ps', (editR l ed.kind ed.id ed.fields).ls, hlt, by go_num, by rw [← ED.out, Z3.out], C5.out, hB5.out⟩, by simp [intOf]; omega⟩
        · obtain rfl : k = eds.length := by omega
          have hwr2 : IntKind.i64.wrap (l.next - 1 + 1) = l.next := by rw [show l.next - 1 + 1 = l.next by omega]; exact IntWalk.i64_in _ (by omega)
          obtain ⟨N, hN⟩ : ∃ N : Nat, l.next = (N : Int) := ⟨l.next.toNat, by omega⟩
          rw [hN] at hwr2
          have HN := Lib.hid hN
          have hN2 : 0 < N ∧ N ≤ 4000 := by omega
          obtain ⟨ib, hib, hzb, hz1, hz2⟩ := info_parts infoBool
          obtain ⟨wm, hrun, hown, hgr⟩ := run_make_full wr wr.heap.size 67 4 ib _ 1 Tryz.underlying67 hib hzb hz1 .i64 .i64 N (by rw [hz2]; omega) (by unfold maxLen; omega) (Nat.le_refl _)
          have hgB : Below wr.heap.size wr wm := (Below.refl wr.heap.size wr).grown hgr (Nat.le_refl _) (fun k e => by cases e)
          have HOWN := Lib.hid hown
          have CM := Lib.hid (CR.out.below hgB (Nat.le_refl _))
          have BM := Lib.hid (BR.out.trans (hgB.mono hsr))
          have ST := stanzas_gen ps ev (some ⟨lb, 0, none⟩) wm (fun W hW => AllR.of (CM.out.la.lr.below hW (Nat.le_refl _))) (CM.out.ents (by omega))
          have HST := Lib.hid ST
          rw [hN]
          clear hN ST hown hgr hgB
          go_wp2_with fail
          refine HST.out.mono ?_
          rintro e wz ⟨u, fvs, rfl, hz⟩
          have HZ := Lib.hid hz
          clear HST
          obtain ⟨ua, uc, rfl, _⟩ := own_slice hz.row
          obtain ⟨rs, hrs⟩ : ∃ rs, rs = stzL (stzP 0 ps) := ⟨_, rfl⟩
          have hids : rs.map Prod.fst = nums l.es := by
            rw [hrs, ← CR.out.es, ← stz_nums CR.out.wf]; unfold stzL; rw [List.map_map]; rfl
          rw [← hrs] at hz HZ ⊢
          have hrl : rs.length ≤ 4000 := by
            have h1 := congrArg List.length hids
            rw [List.length_map, nums_len] at h1
            have := CR.out.ok.len
            omega
          have hzb := hz.below.size
          have hwmz : wr.heap.size < wm.heap.size := (HOWN.out.lt _ rfl).2
          have SEEN : Hid (∃ cur, Cells wz wr.heap.size 4 cur ∧ ∀ m, m < N → cur[m]? = some (.bool (decide ((m : Int) ∈ (nums l.es).take 0)))) := by
            rcases HOWN.out.2 with ⟨q, _⟩ | ⟨g, c, cur, q, _, hg, _, _, hcs, htk⟩
            · cases q
            · cases q
              refine ⟨cur, cells_kept hg hz.below hwmz, fun m hm => ?_⟩
              have h1 : (cur.toList.take (N * 1))[m]? = cur[m]? := by rw [List.getElem?_take, if_pos (by omega)]; simp
              rw [← h1, htk, show (Value.bool false).cells = #[Value.bool false] from rfl, toList_madeCells_one, List.getElem?_replicate, if_pos (by omega)]
              simp
          have CZ := Lib.hid (CM.out.below hz.below (Nat.le_refl _))
          clear hz hrs
          go_wp2_with fail
          obtain ⟨wq, rfl⟩ : ∃ q, q = wr := ⟨wr, rfl⟩
          go_loopw [95] (fun i W => ∃ (j : Nat) (cur : Array Value), j ≤ rs.length ∧ i = .int .i64 j ∧ Cells W wq.heap.size 4 cur ∧ (∀ m, m < N → cur[m]? = some (.bool (decide ((m : Int) ∈ (nums l.es).take j)))) ∧ Only (· = wq.heap.size) wz W) (fun i _ => rs.length - (intOf i).toNat)
          case atStart =>
            obtain ⟨cur, h1, h2⟩ := SEEN.out
            exact ⟨0, cur, Nat.zero_le _, rfl, h1, h2, Only.refl _ _⟩
          case round =>
            obtain ⟨j, cur, hj, rfl, hcur, hat, ho⟩ := hrel
            have hoz := ho.size
            have BW : Hid (∀ W', Only (· = wq.heap.size) wz W' → StR W' lb ev ps l.next (.slice none 0 0) []) := fun W' o => CZ.out.str.only o (fun r hr e => by
              rcases hr with rfl | hr | hr | ⟨p, hp, hne, hb⟩ | ⟨p, hp, _⟩
              · have := CR.out.la.lr.head.lt; omega
              · have := (CR.out.la.lr.ents.row.lt r hr).2; omega
              · cases hr
              · have := (CR.out.la.lr.ents.each p hp).1.lt hne r hb; omega
              · cases hp)
            have BLW : Hid (∀ W', Only (· = wq.heap.size) wz W' → Below w.heap.size w W') := fun W' o => by
              have h0 : Below wq.heap.size wm wz := HZ.out.below.mono (by omega)
              have h1 := o.to_below (B := wq.heap.size) (by omega) (fun r hr e => by omega)
              have h2 : Below w2.heap.size wz W' := h1.mono hsr
              exact B2.out.trans (((BM.out.trans (h0.mono hsr)).trans h2).mono hS2)
            by_cases hlt : j < rs.length
            · obtain ⟨st, hst⟩ : ∃ st, rs[j]? = some st := ⟨_, List.getElem?_eq_getElem hlt⟩
              obtain ⟨fx, hfx⟩ : ∃ x, fvs[j]? = some x := ⟨_, List.getElem?_eq_getElem (by rw [HZ.out.len]; exact hlt)⟩
              have hid : (nums l.es)[j]? = some st.1 := by rw [← hids, List.getElem?_map, hst]; rfl
              obtain ⟨e0, he0, hn1, hn2⟩ := nums_mem (List.mem_of_getElem? hid)
              have hn3 := CR.out.ok.lt _ (List.mem_of_getElem? hid)
              rw [HN.out] at hn3
              obtain ⟨n, hn⟩ : ∃ n : Nat, st.1 = (n : Int) := ⟨st.1.toNat, by omega⟩
              have hnN : n < N := by omega
              have hnp : 0 < n := by omega
              obtain ⟨xa, xc, rfl, _⟩ := own_slice (HZ.out.each j st fx hst hfx)
              have hrow := row_only HZ.out.row ho (fun r e q => by have := (HZ.out.row.lt r e).1; omega)
              obtain ⟨g, cg, hug⟩ := Joins.ownsRow_form hrow (by omega)
              obtain ⟨z0, z1⟩ := stzCells_at rs fvs j st _ hst hfx
              rw [hug] at hrow
              have c0 : wr.cell? ⟨g, j * 2, none⟩ = some (.int .i64 n) := by rw [World.ownsRow.cellAt hrow (j * 2) (by omega), z0, hn]
              have c1 : wr.cell? ⟨g, j * 2 + 1, none⟩ = some (.slice xa st.2.length xc) := by rw [World.ownsRow.cellAt hrow (j * 2 + 1) (by omega), z1]
              have hnot : (n : Int) ∉ (nums l.es).take j := fun hm => by
                obtain ⟨i, hi⟩ := List.getElem?_of_mem hm
                have hil : i < j := by
                  have := (List.getElem?_eq_some_iff.1 hi).1
                  rw [List.length_take] at this; omega
                rw [List.getElem?_take, if_pos hil] at hi
                have p1 := place_nums CR.out.wf (by rw [CR.out.es]; exact CR.out.ok.nd) (by rw [CR.out.es]; exact hi)
                have p2 := place_nums CR.out.wf (by rw [CR.out.es]; exact CR.out.ok.nd) (by rw [CR.out.es]; exact hid)
                rw [hn, p1] at p2
                omega
              have s0 : wr.cell? ⟨wq.heap.size, n, none⟩ = some (.bool false) := by rw [hcur.cell, hat n hnN, decide_eq_false hnot]
              have hpl2 : placeP ps n = (j : Nat) := by rw [← hn]; exact place_nums CR.out.wf (by rw [CR.out.es]; exact CR.out.ok.nd) (by rw [CR.out.es]; exact hid)
              obtain ⟨wb, hwb⟩ : ∃ wb, wb = wr.alloc (.cells #[.int .i64 n, .slice xa st.2.length xc] 63) := ⟨_, rfl⟩
              have ob : Only (· = wq.heap.size) wz wb := by rw [hwb]; exact ho.alloc _
              have hsb := BW.out wb ob
              have PL := place_gen ps ev (some ⟨lb, 0, none⟩) n wb (fun W hW => AllR.of (hsb.la.lr.below hW (Nat.le_refl _))) (by omega)
              rw [hpl2] at PL
              have HPL := Lib.hid PL
              have BXb : Cells wb wr.heap.size 63 #[.int .i64 n, .slice xa st.2.length xc] := by rw [hwb]; exact Cells.new _ _ _
              have HBX := Lib.hid BXb
              have HCB := Lib.hid (show Cells wb wq.heap.size 4 cur by rw [hwb]; exact hcur.alloc _)
              have HOB := Lib.hid ob
              have HAT := Lib.hid hat
              have HID := Lib.hid hid
              have HNE := Lib.hid hn
              have hblt := hcur.lt
              have hjj : ((j : Int) != (j : Int)) = false := by simp
              injection hug with q1 _ q3
              subst q1 q3
              clear hst hfx hid he0 hn1 hn2 hn3 hrow z0 z1 hnot hpl2 ob hsb PL BXb hcur hat BW BLW ho hn
              subst hwb
              go_wp2_with fail
              refine HPL.out.mono ?_
              rintro e w6 ⟨rfl, b6⟩
              have BX6 := cells_kept HBX.out b6 (by simp)
              have C6 := cells_kept HCB.out b6 (by simp; omega)
              have t0 : w6.cell? ⟨wr.heap.size, 0, none⟩ = some (.int .i64 n) := BX6.cell 0
              have u0 : w6.cell? ⟨wq.heap.size, n, none⟩ = some (.bool (decide ((n : Int) ∈ (nums l.es).take j))) := by rw [C6.cell, HAT.out n hnN]
              have u1 := C6.frozen n
              have O6 := Lib.hid (HOB.out.below b6 HOB.out.size)
              have HC6 := Lib.hid C6
              clear BX6 C6 b6 HPL
              go_wp2_with fail
              refine ⟨⟨j + 1, cur.setIfInBounds n (.bool true), hlt, by go_num, HC6.out.set n _, fun m hm => ?_, O6.out.cellS n _⟩, by simp [intOf]; omega⟩
              have htk : (nums l.es).take (j + 1) = (nums l.es).take j ++ [(n : Int)] := by rw [List.take_add_one, HID.out, HNE.out]; rfl
              rw [Array.getElem?_setIfInBounds, htk]
              by_cases q : n = m
              · have hsz : n < cur.size := by
                  have := HAT.out n hnN
                  exact (Array.getElem?_eq_some_iff.1 this).1
                rw [if_pos q, if_pos hsz]
                congr 2
                symm
                exact decide_eq_true (List.mem_append.2 (.inr (List.mem_singleton.2 (by rw [q]))))
              · rw [if_neg q, HAT.out m hm]
                congr 2
                exact decide_eq_decide.2 ⟨fun z => List.mem_append.2 (.inl z), fun z => (List.mem_append.1 z).elim _root_.id (fun y => absurd (List.mem_singleton.1 y) (by omega))⟩
            · have hst := BW.out wr ho
              have NX := Lib.hid (next_any lb ev ps l.next wr hst.la.lr (by omega))
              have HB := Lib.hid (BLW.out wr ho)
              rw [HN.out] at NX
              have hnn : ((N : Int) == (N : Int)) = true := by simp
              unfold ptr at NX
              clear hst BW BLW hat hcur ho
              go_wp2_with fail
              refine NX.out.mono ?_
              rintro e w6 ⟨rfl, rfl⟩
              go_wp2_with fail
              go_ret
              exact ⟨rfl, HB.out⟩
open Go.Maps Go.ChangeShapes Go.Joins Go.WideShapes in
set_option maxRecDepth 100000 in
theorem numbersCall {H : Type} {enc : TypeId × Value → H} (s : ByteArray) (v : Value) (d : DataW H) (p : List MemPlace) (W : World) (hs : s.size ≤ maxLen) {b0 : Nat} (hval : Value.okWide Tryz.prog W .any b0 22 v) {base : Nat} {sp : Nat → Bool} {held : Bool} (h : DataW.Trod enc Tryz.prog W base sp held 22 v d p) :
    Calls Tryz.prog 6 #[.string s, v] W fun e w' => e = .returned (.bool true) ∧ Below W.heap.size W w' := by
  obtain ⟨n, hn⟩ := h
  obtain ⟨ao, len, cap, rfl⟩ := okWide_slice Tryz.underlying22 hval
  obtain ⟨eds, hr⟩ := edits_in (v := .slice ao len cap) hn
  exact numbersLaw s hs eds _ W hr
end Go.Proofs.YtiebbgbcojgeoaaGreatDoor
