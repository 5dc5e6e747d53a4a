/- ListCopies. -/
import Derived.Test.YtiebbgbcojgeoaaGreatDoorBas0
set_option linter.unusedVariables false
namespace Go.Proofs.YtiebbgbcojgeoaaGreatDoor
open Go.RowKit Go.Shelf
attribute [local go_sem] Oper.semAt_some

structure CopyR (w wx : World) (lc : Nat) (ec : Value) (pcs ps : List Pr) (nx : Int) (ob : Nat) (v : Value) : Prop where
  la : LA wx lc ec pcs nx
  es : pcs.map Prod.fst = ps.map Prod.fst
  lo : w.heap.size ≤ lc
  ev : ∀ b, ec.ownBlock = some b → w.heap.size ≤ b
  flds : ∀ p ∈ pcs, ∀ b, p.2.ownBlock = some b → w.heap.size ≤ b
  box : Cells wx ob 32 #[v, .int .i64 nx]
  obl : w.heap.size ≤ ob
  ne : ∀ r, BlkR lc ec pcs (.slice none 0 0) [] r → r ≠ ob
  below : Below w.heap.size w wx
theorem copyA {wr w5 : World} {lc : Nat} {ec v : Value} {pcs ps : List Pr} {nx : Int} (cla : LA w5 lc ec pcs nx) (ces : pcs.map Prod.fst = ps.map Prod.fst) (cb : Below wr.drew.heap.size wr.drew w5) (clb : wr.drew.heap.size ≤ lc) (cev : ∀ b, ec.ownBlock = some b → wr.drew.heap.size ≤ b) (cfl : ∀ p ∈ pcs, ∀ b, p.2.ownBlock = some b → wr.drew.heap.size ≤ b) :
    CopyR wr (w5.alloc (.cells #[v, .int .i64 nx] 32)) lc ec pcs ps nx w5.heap.size v := by
  have hst : StR w5 lc ec pcs nx (.slice none 0 0) [] := ⟨cla, entsQ_none w5, (fun b e => by cases e), (fun p hp => by cases hp)⟩
  have hb : Below w5.heap.size w5 (w5.alloc (.cells #[v, .int .i64 nx] 32)) := (Below.refl _ _).alloc (Nat.le_refl _) _
  have hB : Below wr.heap.size wr w5 := ((Below.refl wr.heap.size wr).drew).trans cb
  exact ⟨(hst.below hb (Nat.le_refl _)).la, ces, clb, cev, cfl, Cells.new _ _ _, hB.size, fun r hr e => by have := hst.lt hr; omega, hB.trans (hb.mono hB.size)⟩
theorem copyB {wr w5 : World} {lc : Nat} {ec v : Value} {pcs ps : List Pr} {nx : Int} {z : Array Value} (hz : z = #[.slice none 0 0, .int .i64 0]) (cla : LA w5 lc ec pcs nx) (ces : pcs.map Prod.fst = ps.map Prod.fst) (cb : Below (wr.alloc (.cells z 32)).drew.heap.size (wr.alloc (.cells z 32)).drew w5) (clb : (wr.alloc (.cells z 32)).drew.heap.size ≤ lc) (cev : ∀ b, ec.ownBlock = some b → (wr.alloc (.cells z 32)).drew.heap.size ≤ b) (cfl : ∀ p ∈ pcs, ∀ b, p.2.ownBlock = some b → (wr.alloc (.cells z 32)).drew.heap.size ≤ b) (hsz : (wr.alloc (.cells z 32)).drew.heap.size = wr.heap.size + 1) :
    CopyR wr ((w5.setCell ⟨wr.heap.size, 0, none⟩ v).setCell ⟨wr.heap.size, 1, none⟩ (.int .i64 nx)) lc ec pcs ps nx wr.heap.size v := by
  subst hz
  rw [hsz] at clb cev cfl
  have hst : StR w5 lc ec pcs nx (.slice none 0 0) [] := ⟨cla, entsQ_none w5, (fun b e => by cases e), (fun p hp => by cases hp)⟩
  have hne : ∀ r, BlkR lc ec pcs (.slice none 0 0) [] r → r ≠ wr.heap.size := fun r hr e => by
    rcases hr with q | q | q | ⟨p, hp, _, hb⟩ | ⟨p, hp, _⟩
    · omega
    · have := cev r q; omega
    · cases q
    · have := cfl p hp r hb; omega
    · cases hp
  have hnb : ¬ BlkR lc ec pcs (.slice none 0 0) [] wr.heap.size := fun hr => hne _ hr rfl
  have hB : Below wr.heap.size wr w5 := (((Below.refl wr.heap.size wr).alloc (Nat.le_refl _) _).drew).trans (cb.mono (by rw [hsz]; omega))
  have hbox : Cells w5 wr.heap.size 32 #[.slice none 0 0, .int .i64 0] := cells_kept (show Cells (wr.alloc (.cells #[.slice none 0 0, .int .i64 0] 32)).drew wr.heap.size 32 _ from (Cells.new _ _ _).drew) cb (by rw [hsz]; omega)
  have hb2 := (hbox.set 0 v).set 1 (.int .i64 nx)
  rw [set2] at hb2
  exact ⟨((hst.set 0 v hnb).set 1 _ hnb).la, ces, by omega, fun b e => by have := cev b e; omega, fun p hp b e => by have := cfl p hp b e; omega, hb2, Nat.le_refl _, hne, (hB.setCell (p := ⟨wr.heap.size, 0, none⟩) (Nat.le_refl _) _).setCell (p := ⟨wr.heap.size, 1, none⟩) (Nat.le_refl _) _⟩
set_option maxRecDepth 100000 in
set_option maxHeartbeats 8000000 in
theorem copiesLaw (s : ByteArray) (hs : s.size ≤ maxLen) (as_ bs : List Ed) (v1 v2 : Value) (w : World) (ha : EdsIn w v1 as_) (hb : EdsIn w v2 bs) :
    Calls Tryz.prog 7 #[.string s, v1, v2] w fun e w' => e = .returned (.bool true) ∧ Below w.heap.size w w' := by
  have AL := Lib.hid (alive7_any w)
  have HEA := Lib.hid ha
  have HEB := Lib.hid hb
  unfold maxLen at hs
  obtain ⟨va0, vac, rfl, _⟩ : ∃ A c, v1 = .slice A as_.length c ∧ True := by obtain ⟨_, A, c, e, _⟩ := ha; exact ⟨A, c, e, trivial⟩
  obtain ⟨vb0, vbc, rfl, _⟩ : ∃ A c, v2 = .slice A bs.length c ∧ True := by obtain ⟨_, A, c, e, _⟩ := hb; exact ⟨A, c, e, trivial⟩
  clear ha hb
  go_enter Tryz.func7, Tryz.ntmps7
  go_wp2_with fail
  refine AL.out.mono ?_
  rintro e w1 ⟨rfl, b1⟩
  have B1 := Lib.hid b1
  clear AL b1
  by_cases hlong : 2000 < s.size
  · go_wp2_with fail
    go_ret
    exact ⟨rfl, B1.out⟩
  have HV := Lib.hid (heavy_any as_ _ w1 (HEA.out.below B1.out (Nat.le_refl _)))
  go_wp2_with fail
  refine HV.out.mono ?_
  rintro e w1b ⟨⟨q, rfl, hq⟩, b2⟩
  have B1b := Lib.hid (B1.out.trans (b2.mono B1.out.size))
  have HQ := Lib.hid hq
  clear HV b2 hq
  cases q with
  | true =>
    go_wp2_with fail
    go_ret
    exact ⟨rfl, B1b.out⟩
  | false =>
  have LIA : Hid (Light as_) := HQ.out (by first | exact rfl | trivial)
  have HV := Lib.hid (heavy_any bs _ w1b (HEB.out.below B1b.out (Nat.le_refl _)))
  clear HQ
  go_wp2_with fail
  refine HV.out.mono ?_
  rintro e w2 ⟨⟨q, rfl, hq⟩, b2⟩
  have B2 := Lib.hid (B1b.out.trans (b2.mono B1b.out.size))
  have HQ := Lib.hid hq
  clear HV b2 hq
  cases q with
  | true =>
    go_wp2_with fail
    go_ret
    exact ⟨rfl, B2.out⟩
  | false =>
    have LIB : Hid (Light bs) := HQ.out (by first | exact rfl | trivial)
    have OF := Lib.hid (of_any s (by omega) w2)
    have RO_ := Lib.hid (fun W => refOf7_any s (by omega) W)
    have hz2 := B2.out.size
    clear HQ
    go_wp2_with fail
    refine OF.out.mono ?_
    rintro e w3 hof
    clear OF
    cases hp : parseL s.data.toList with
    | error an =>
      obtain ⟨a, n⟩ := an
      obtain ⟨b3, u, rfl, hf⟩ := hof.no hp
      obtain ⟨hn0, hn11⟩ := parse_no hp
      obtain ⟨q, _, rfl, _⟩ := hf
      have B3 := Lib.hid (B2.out.trans (b3.mono B2.out.size))
      have RO3 := Lib.hid (RO_.out w3)
      have HP := Lib.hid hp
      clear hof b3 hp RO_
      go_wp2_with fail
      refine RO3.out.mono ?_
      rintro e w4 ⟨b4, h4⟩
      rw [HP.out] at h4
      subst h4
      have B4 := Lib.hid (B3.out.trans (b4.mono B3.out.size))
      have hnz : ((n : Int) != 0) = true := bne_iff_ne.2 (by omega)
      have HB5 := Lib.hid (B4.out.alloc B4.out.size (.cells #[.slice none 0 0, .int .i64 0] 32))
      clear RO3 b4 hn0
      go_wp2_with fail
      go_ret
      exact ⟨rfl, HB5.out⟩
    | ok its =>
      obtain ⟨b3, lb, ev, ps, rfl, hlb, hev, hla, hps⟩ := hof.yes hp
      have hlen : (fromL its).es.length ≤ 3000 ∧ (fromL its).next ≤ 3001 := by
        have h1 := (parse_join hp).2.1
        rw [← Lib.size_eq] at h1
        have h2 : (fromL its).es.length = its.length := from_len 1 its
        have h3 := (from_next 1 its).2
        have h4 : (fromL its).next = fromNext 1 its := rfl
        omega
      have CA : Carry w2.heap.size w3 lb ev ps (fromL its) 3000 := by
        refine ⟨hla, hps, from_ok hp, fun e he => ?_, hlb, hev, hlen.1, hlen.2⟩
        have h1 := (parse_join hp).2.2
        have h2 : e.1 ∈ its := by rw [← from_items 1 its]; exact List.mem_map_of_mem he
        obtain ⟨q1, q2⟩ := h1 _ h2
        rw [← Lib.size_eq] at q2
        exact ⟨by omega, by omega⟩
      have hB3 := Lib.hid (show Below w2.heap.size w2 w3 from b3)
      have HC := Lib.hid CA
      have HP := Lib.hid hp
      have RO3 := Lib.hid (RO_.out w3)
      have hlb3 : lb < w3.heap.size := hla.lr.head.lt
      have hev3 : ∀ b, ev.ownBlock = some b → b < w3.heap.size := fun b e => (hla.lr.ents.row.lt b e).2
      have HEV3 := Lib.hid hev3
      clear hof b3 hp hla hps CA hlen RO_ hev hev3
      have hz3 := hB3.out.size
      unfold ptr at *
      go_wp2_with fail
      refine RO3.out.mono ?_
      rintro e w4 ⟨b4, h4⟩
      rw [HP.out] at h4
      dsimp only at h4
      obtain ⟨v0, qs, rfl, hq, hqs, hvb, hqb⟩ := h4
      generalize fromL its = l0 at *
      obtain ⟨A, cap, rfl, _⟩ := hq.empty
      have hz4 := b4.size
      have B4 := Lib.hid (hB3.out.trans (b4.mono hz3))
      have C4 := Lib.hid (HC.out.below b4 (Nat.le_refl _))
      have ST4 : StR w4 lb ev ps l0.next (.slice A qs.length cap) qs := ⟨C4.out.la, hq, fun b e => ⟨by have := hvb b e; omega, fun e2 => by have := hvb b e; have := HEV3.out b e2; omega⟩, fun q hq' _ b e => ⟨by have := hqb q hq' b e; omega, fun e2 => by have := hqb q hq' b e; have := HEV3.out b e2; omega⟩⟩
      obtain ⟨w5, hw5⟩ : ∃ w5, w5 = w4.alloc (.cells #[.slice A qs.length cap, .int .i64 l0.next] 32) := ⟨_, rfl⟩
      have b5 : Below w4.heap.size w4 w5 := by rw [hw5]; exact (Below.refl _ _).alloc (Nat.le_refl _) _
      have MB5 := Lib.hid (show Cells w5 w4.heap.size 32 #[.slice A qs.length cap, .int .i64 l0.next] by rw [hw5]; exact Cells.new _ _ _)
      have S5 := Lib.hid (ST4.below b5 (Nat.le_refl _))
      have BL5 : Hid (∀ r, BlkR lb ev ps (.slice A qs.length cap) qs r → r ≠ w4.heap.size) := fun r hr e => by have := ST4.lt hr; omega
      have B5 := Lib.hid (B4.out.trans (b5.mono B4.out.size))
      have C5 := Lib.hid (C4.out.below b5 (Nat.le_refl _))
      have HQS : Hid (qs.map Prod.fst = ps.map Prod.fst) := by show _ = _; rw [hqs, HC.out.es]
      have hmb0 : w2.heap.size ≤ w4.heap.size := B4.out.size
      have hz45 : w4.heap.size < w5.heap.size := MB5.out.lt
      have HEA2 := Lib.hid (HEA.out.below B2.out (Nat.le_refl _))
      have HEB2 := Lib.hid (HEB.out.below B2.out (Nat.le_refl _))
      have hS2 : w.heap.size ≤ w2.heap.size := B2.out.size
      have hn0 : ((0 : Int) != 0) = false := by decide
      have BX2 : Hid (∀ W, Below w2.heap.size w2 W → Below w2.heap.size w2 W) := fun W h => h
      clear RO3 b4 hq hqs hvb hqb ST4 b5 B4 C4 HC hB3 HEA HEB
      subst hw5
      go_wp2_with fail
      go_loopw [63] (fun i wr => ∃ (k : Nat) (ev v : Value) (ps qs : List Pr) (l : LS), k ≤ as_.length ∧ i = .int .i64 k ∧ Carry w2.heap.size wr lb ev ps l (3000 + k) ∧ StR wr lb ev ps l.next v qs ∧ qs.map Prod.fst = ps.map Prod.fst ∧ (∀ r, BlkR lb ev ps v qs r → r ≠ w4.heap.size) ∧ Cells wr w4.heap.size 32 #[v, .int .i64 l.next] ∧ w4.heap.size < wr.heap.size ∧ Below w2.heap.size w2 wr) (fun i _ => as_.length - (intOf i).toNat)
      case atStart => exact ⟨0, ev, _, ps, qs, l0, Nat.zero_le _, rfl, C5.out, S5.out, HQS.out, BL5.out, MB5.out, hz45, B5.out⟩
      case round =>
        clear B5 C5 S5 BL5 MB5 HQS HEV3 hlb
        obtain ⟨k, ev, v, ps, qs, l, hk, rfl, hC, hS, hqs, hbl, hmb, hwm, hBR⟩ := hrel
        have hnx := hC.nx
        have hlen := hC.len
        have hpos := hC.ok.pos
        have hlk := LIA.out.1
        have hpl : ps.length ≤ 4000 := by
          have h1 : ps.length = l.es.length := by rw [← hC.es, List.length_map]
          omega
        have hql : qs.length ≤ ps.length := by have := congrArg List.length hqs; rw [List.length_map, List.length_map] at this; omega
        obtain ⟨va, vc2, rfl, _⟩ := hS.q.empty
        have CR := Lib.hid hC
        have SR := Lib.hid hS
        have QS := Lib.hid hqs
        have BL := Lib.hid hbl
        have MB := Lib.hid hmb
        have BR := Lib.hid hBR
        have hsr := hBR.size
        have m0 : wr.cell? ⟨w4.heap.size, 0, none⟩ = some (.slice va qs.length vc2) := hmb.cell 0
        have m1 : wr.cell? ⟨w4.heap.size, 1, none⟩ = some (.int .i64 l.next) := hmb.cell 1
        have mf0 := hmb.frozen 0
        have mf1 := hmb.frozen 1
        clear hC hS hqs hbl hmb hBR
        by_cases hlt : k < as_.length
        · obtain ⟨ed, hed⟩ : ∃ ed, as_[k]? = some ed := ⟨_, List.getElem?_eq_getElem hlt⟩
          have hmem := List.mem_of_getElem? hed
          obtain ⟨_, A', cap', e1, _, hc⟩ := HEA2.out
          cases e1
          obtain ⟨b, off, fv, rfl, hbb, c0, c1, c2, hf⟩ := hc k ed hed
          obtain ⟨fa, fc, rfl, _, _⟩ := _root_.id hf.flds
          have HBX := BX2.out _ BR.out
          replace c0 := (HBX.cell (p := ⟨b, off + k * 3, none⟩) hbb).trans c0
          replace c1 := (HBX.cell (p := ⟨b, off + k * 3 + 1, none⟩) hbb).trans c1
          replace c2 := (HBX.cell (p := ⟨b, off + k * 3 + 1 + 1, none⟩) hbb).trans c2
          obtain ⟨wa, hwa⟩ : ∃ wa, wa = wr.alloc (.cells #[.int .i64 ed.kind, .int .i64 ed.id, .slice fa ed.fields.length fc] 38) := ⟨_, rfl⟩
          have hra : Below wr.heap.size wr wa := by rw [hwa]; exact (Below.refl _ _).alloc (Nat.le_refl _) _
          have hBA : Below w2.heap.size w2 wa := BR.out.trans (hra.mono hsr)
          have hBA2 : Below w2.heap.size w2 wa := BX2.out _ hBA
          have CW := Lib.hid (CR.out.below hra (Nat.le_refl _))
          have SW := Lib.hid (SR.out.below hra (Nat.le_refl _))
          have MW := Lib.hid (cells_kept MB.out hra MB.out.lt)
          have hfa := hf.kept hBA2 (Nat.le_refl _)
          have hfr : FldR wa (.slice fa ed.fields.length fc) ed.fields := ⟨hfa.flds, hfa.nil⟩
          have hxlt : ed.fields ≠ [] → ∀ r, (Value.slice fa ed.fields.length fc).ownBlock = some r → r < w2.heap.size := fun hne r e => hf.flds.lt hne r e
          have hlb0 := CR.out.lb0
          have hev0 := CR.out.ev0
          have FI := LIA.out.fine hmem
          have hsm := light_small LIA.out hmem
          have hzwa := hra.size
          have DO := do_any lb ev (.slice va qs.length vc2) (.slice fa ed.fields.length fc) ps qs l.next l.next ed.kind ed.id ed.fields wa SW.out CW.out.wf (by rw [CW.out.es]; exact CW.out.ok.len) (by omega) (by omega) (by omega) (by omega) hfr FI (fun hne r e => ⟨by have := hxlt hne r e; omega, fun e2 => by have := hxlt hne r e; have := hev0 r e2; omega⟩)
          rw [QS.out, CW.out.es, sameD_self] at DO
          have WB : Hid (∀ w5, Only (fun r => r = lb ∨ ev.ownBlock = some r) wa w5 → Below w2.heap.size w2 w5) := fun w5 o =>
            hBA.trans (o.to_below hBA.size (fun r hr e => by
              rcases e with e | e
              · omega
              · have := hev0 r e; omega))
          have MK : Hid (∀ w5, Only (fun r => r = lb ∨ ev.ownBlock = some r) wa w5 → Cells w5 w4.heap.size 32 #[.slice va qs.length vc2, .int .i64 l.next]) := fun w5 o => MW.out.only o (fun e => by
            rcases e with e | e
            · exact BL.out lb (.inl rfl) e.symm
            · exact BL.out w4.heap.size (.inr (.inl e)) rfl)
          have NBL : Hid (∀ ev' ps' v' qs', (∀ r, BlkR lb ev' ps' v' qs' r → BlkR lb ev ps (.slice va qs.length vc2) qs r ∨ (ed.fields ≠ [] ∧ (Value.slice fa ed.fields.length fc).ownBlock = some r) ∨ wa.heap.size ≤ r) → ∀ r, BlkR lb ev' ps' v' qs' r → r ≠ w4.heap.size) := fun ev' ps' v' qs' hbk r hr e => by
            rcases hbk r hr with q | ⟨q1, q2⟩ | q
            · exact BL.out r q e
            · have := hxlt q1 r q2; omega
            · omega
          have HDO := Lib.hid DO
          have HSM := Lib.hid hsm
          have hwas : Hid (w2.heap.size ≤ wa.heap.size) := hBA.size
          have FIN : Hid (∀ w5 ev' ps' v' qs', StR w5 lb ev' ps' (editR l ed.kind ed.id ed.fields).ls.next v' qs' → ps'.map Prod.fst = (editR l ed.kind ed.id ed.fields).ls.es → (∀ b, ev'.ownBlock = some b → ev.ownBlock = some b ∨ wa.heap.size ≤ b) → Carry w2.heap.size w5 lb ev' ps' (editR l ed.kind ed.id ed.fields).ls (3000 + (k + 1))) := fun w5 ev' ps' v' qs' hst hes hblk =>
            CW.out.edit ed.kind ed.id HSM.out.1 HSM.out.2 hst.la hes hwas.out hblk
          unfold ptr at HDO
          clear hed hf hra hBA hBA2 hfa hfr hxlt hev0 FI DO hsm hc hzwa HBX
          subst hwa
          go_wp2_with fail
          refine HDO.out.mono ?_
          rintro e w5 ⟨ev', ps', v', qs', rfl, hst, hes, hes2, ho, hbk, hblk⟩
          obtain ⟨va', vc', rfl, _⟩ := hst.q.empty
          have hz5 : w4.heap.size < w5.heap.size := by have := ho.size; simp at this; omega
          have C5 := FIN.out w5 ev' ps' _ qs' hst hes hblk
          have M5 := MK.out w5 ho
          have hB5 := WB.out w5 ho
          have BK5 := Lib.hid (NBL.out ev' ps' _ qs' hbk)
          have QS5 : Hid (qs'.map Prod.fst = ps'.map Prod.fst) := by show _ = _; rw [hes, hes2]
          have n0 := M5.cell 0
          have n1 := M5.cell 1
          have nf0 := M5.frozen 0
          have nf1 := M5.frozen 1
          simp only [List.getElem?_toArray, List.getElem?_cons_zero, List.getElem?_cons_succ] at n0 n1
          generalize (editR l ed.kind ed.id ed.fields).ls = l' at *
          have hnb : ¬ BlkR lb ev' ps' (.slice va' qs'.length vc') qs' w4.heap.size := fun hr => BK5.out _ hr rfl
          have S6 := Lib.hid (show StR ((w5.setCell ⟨w4.heap.size, 0, none⟩ (.slice va' qs'.length vc')).setCell ⟨w4.heap.size, 1, none⟩ (.int .i64 l'.next)) lb ev' ps' l'.next (.slice va' qs'.length vc') qs' from (hst.set 0 _ hnb).set 1 _ hnb)
          have M6 := Lib.hid (show Cells ((w5.setCell ⟨w4.heap.size, 0, none⟩ (.slice va' qs'.length vc')).setCell ⟨w4.heap.size, 1, none⟩ (.int .i64 l'.next)) w4.heap.size 32 #[.slice va' qs'.length vc', .int .i64 l'.next] by
            have h1 := (M5.set 0 (.slice va' qs'.length vc')).set 1 (.int .i64 l'.next)
            rw [set2] at h1
            exact h1)
          have B6 := Lib.hid (show Below w2.heap.size w2 ((w5.setCell ⟨w4.heap.size, 0, none⟩ (.slice va' qs'.length vc')).setCell ⟨w4.heap.size, 1, none⟩ (.int .i64 l'.next)) from (hB5.setCell (p := ⟨w4.heap.size, 0, none⟩) hmb0 _).setCell (p := ⟨w4.heap.size, 1, none⟩) hmb0 _)
          have C6 := Lib.hid (show Carry w2.heap.size ((w5.setCell ⟨w4.heap.size, 0, none⟩ (.slice va' qs'.length vc')).setCell ⟨w4.heap.size, 1, none⟩ (.int .i64 l'.next)) lb ev' ps' l' (3000 + (k + 1)) from ⟨S6.out.la, C5.es, C5.ok, C5.sz, C5.lb0, C5.ev0, C5.len, C5.nx⟩)
          clear hst hes hes2 ho hbk hblk HDO C5 M5 hB5 hnb FIN MK WB NBL hwas HSM CW SW MW SR CR BL MB QS
          go_wp2_with fail
          exact ⟨⟨k + 1, ev', _, ps', qs', l', hlt, by go_num, C6.out, S6.out, QS5.out, BK5.out, M6.out, M6.out.lt, B6.out⟩, by simp [intOf]; omega⟩
        · obtain rfl : k = as_.length := by omega
          have HSR := Lib.hid (show StandIn wr lb ev (.slice va qs.length vc2) ps qs l.next from ⟨SR.out, QS.out, CR.out.wf, by rw [CR.out.es]; exact CR.out.ok.nd, CR.out.ents (by omega), by omega⟩)
          have hsl := HSR.out.st
          have CP : Hid (∀ W, Below wr.heap.size wr W → Calls Tryz.prog 28 #[.pointer (some ⟨lb, 0, none⟩)] W fun e w' => ∃ lc ec pcs, e = .returned (.pointer (some ⟨lc, 0, none⟩)) ∧ LA w' lc ec pcs l.next ∧ pcs.map Prod.fst = ps.map Prod.fst ∧ Below W.heap.size W w' ∧ W.heap.size ≤ lc ∧ (∀ b, ec.ownBlock = some b → W.heap.size ≤ b) ∧ (∀ p ∈ pcs, ∀ b, p.2.ownBlock = some b → W.heap.size ≤ b)) := fun W hW => copy_list lb ev ps l.next W (hsl.la.below hW (Nat.le_refl _)) HSR.out.ok
          have HBW := Lib.hid (B2.out.trans (BR.out.mono hS2))
          have DR : Hid (Below wr.heap.size wr wr.drew) := (Below.refl _ _).drew
          have AR : Hid (Below wr.heap.size wr (wr.alloc (.cells #[.slice none 0 0, .int .i64 0] 32)).drew) := ((Below.refl _ _).alloc (Nat.le_refl _) _).drew
          have ARC := Lib.hid (show Cells (wr.alloc (.cells #[.slice none 0 0, .int .i64 0] 32)).drew wr.heap.size 32 #[.slice none 0 0, .int .i64 0] from (Cells.new _ _ _).drew)
          have hws : (wr.alloc (.cells #[.slice none 0 0, .int .i64 0] 32)).drew.heap.size = wr.heap.size + 1 := by show (wr.alloc _).heap.size = _; simp
          have HWS := Lib.hid hws
          clear SR BL QS hsl hws
          go_upto_region 14 with fail
          go_cut [14, 15] (fun c d wx => ∃ lc ec pcs ob, c = .pointer (some ⟨lc, 0, none⟩) ∧ d = .pointer (some ⟨ob, 0, none⟩) ∧ CopyR wr wx lc ec pcs ps l.next ob (.slice va qs.length vc2))
          case first =>
            have d0 : ∀ o, (wr.alloc o).cell? ⟨w4.heap.size, 0, none⟩ = some (.slice va qs.length vc2) := fun o => (MB.out.alloc o).cell 0
            have d1 : ∀ o, (wr.alloc o).cell? ⟨w4.heap.size, 1, none⟩ = some (.int .i64 l.next) := fun o => (MB.out.alloc o).cell 1
            go_region_law (go_simp; go_at_call 28; first
              | (refine (CP.out _ DR.out).mono ?_; rintro e w5 ⟨lc, ec, pcs, rfl, cla, ces, cb, clb, cev, cfl⟩; have CLA := Lib.hid cla; have CES := Lib.hid ces; have CB := Lib.hid cb; have CLB := Lib.hid clb; have CEV := Lib.hid cev; have CFL := Lib.hid cfl; have mm := cells_kept MB.out.drew cb MB.out.lt; have e0 : w5.cell? ⟨w4.heap.size, 0, none⟩ = some (.slice va qs.length vc2) := mm.cell 0; have e1 : w5.cell? ⟨w4.heap.size, 1, none⟩ = some (.int .i64 l.next) := mm.cell 1; have e0' : ∀ o, (w5.alloc o).cell? ⟨w4.heap.size, 0, none⟩ = some (.slice va qs.length vc2) := fun o => (mm.alloc o).cell 0; have e1' : ∀ o, (w5.alloc o).cell? ⟨w4.heap.size, 1, none⟩ = some (.int .i64 l.next) := fun o => (mm.alloc o).cell 1; clear cla ces cb clb cev cfl mm)
              | (refine (CP.out _ AR.out).mono ?_; rintro e w5 ⟨lc, ec, pcs, rfl, cla, ces, cb, clb, cev, cfl⟩; have CLA := Lib.hid cla; have CES := Lib.hid ces; have CB := Lib.hid cb; have CLB := Lib.hid clb; have CEV := Lib.hid cev; have CFL := Lib.hid cfl; have mm := cells_kept (MB.out.alloc (.cells #[.slice none 0 0, .int .i64 0] 32)).drew cb (by rw [HWS.out]; omega); have e0 : w5.cell? ⟨w4.heap.size, 0, none⟩ = some (.slice va qs.length vc2) := mm.cell 0; have e1 : w5.cell? ⟨w4.heap.size, 1, none⟩ = some (.int .i64 l.next) := mm.cell 1; have kk := cells_kept ARC.out cb ARC.out.lt; have KK := Lib.hid kk; have t0 := kk.cell 0; have t1 := kk.cell 1; have tf0 := kk.frozen 0; have tf1 := kk.frozen 1; simp only [List.getElem?_toArray, List.getElem?_cons_zero, List.getElem?_cons_succ] at t0 t1; clear cla ces cb clb cev cfl mm kk))
            all_goals (try go_wp2_with fail)
            all_goals go_meet
            all_goals first
              | exact ⟨lc, ec, pcs, _, rfl, rfl, copyA CLA.out CES.out CB.out CLB.out CEV.out CFL.out⟩
              | exact ⟨lc, ec, pcs, _, rfl, rfl, copyB rfl CLA.out CES.out CB.out CLB.out CEV.out CFL.out HWS.out⟩
          case rest =>
            obtain ⟨lc, ec, pcs, ob, rfl, rfl, hcp⟩ := hcut
            have hzq := hcp.below.size
            have WQ := Lib.hid (show Below wr.heap.size wr wc from hcp.below)
            have HSQ := Lib.hid (HSR.out.below hcp.below (Nat.le_refl _))
            have BX2 : Hid (∀ W, Below wr.heap.size wr W → Below w2.heap.size w2 W) := fun W h => BR.out.trans (h.mono hsr)
            have CC := Lib.hid (show Carry wr.heap.size wc lc ec pcs l 3051 from ⟨hcp.la, by rw [hcp.es]; exact CR.out.es, CR.out.ok, CR.out.sz, hcp.lo, hcp.ev, by omega, by omega⟩)
            have hst := HSR.out.st
            have hstq := HSQ.out.st
            have SC : StR wc lc ec pcs l.next (.slice va qs.length vc2) qs := ⟨hcp.la, hstq.q, fun b e => ⟨fun e2 => by have := (hst.q.row.lt b e).2; have := hcp.lo; omega, fun e2 => by have := (hst.q.row.lt b e).2; have := hcp.ev b e2; omega⟩, fun q hq hne b e => ⟨fun e2 => by have := (hst.q.each q hq).lt hne b e; have := hcp.lo; omega, fun e2 => by have := (hst.q.each q hq).lt hne b e; have := hcp.ev b e2; omega⟩⟩
            have BLC : Hid (∀ r, BlkR lc ec pcs (.slice va qs.length vc2) qs r → r ≠ ob) := fun r hr e => by
              have hob := hcp.obl
              rcases hr with q | q | q | q | ⟨p, hp, hne, hb⟩
              · exact hcp.ne r (.inl q) e
              · exact hcp.ne r (.inr (.inl q)) e
              · have := (hst.q.row.lt r q).2; omega
              · exact hcp.ne r (.inr (.inr (.inr (.inl q)))) e
              · have := (hst.q.each p hp).lt hne r hb; omega
            have HSC := Lib.hid SC
            have QSC : Hid (qs.map Prod.fst = pcs.map Prod.fst) := by show _ = _; rw [hcp.es]; exact HSR.out.es
            have MBC := Lib.hid hcp.box
            have hmbo : wr.heap.size ≤ ob := hcp.obl
            have hobl : ob < wc.heap.size := hcp.box.lt
            have hw2q : w2.heap.size ≤ wr.heap.size := hsr
            have HM9 := Lib.hid MB.out
            obtain ⟨wq, hwq⟩ : ∃ wq, wq = wr := ⟨wr, rfl⟩
            rw [← hwq] at HSR BX2 WQ CC hmbo hw2q HM9 BR HBW hsr
            clear hwq hcp hst hstq SC CP DR AR ARC HWS CR MB hzq m0 m1 mf0 mf1
            obtain ⟨ps0, hps0⟩ : ∃ x, x = ps := ⟨ps, rfl⟩
            obtain ⟨qs0, hqs0⟩ : ∃ x, x = qs := ⟨qs, rfl⟩
            go_wp2_with fail
            go_loopw [80] (fun i wr => ∃ (k : Nat) (ev v : Value) (ps qs : List Pr) (l : LS), k ≤ bs.length ∧ i = .int .i64 k ∧ Carry wq.heap.size wr lc ev ps l (3051 + k) ∧ StR wr lc ev ps l.next v qs ∧ qs.map Prod.fst = ps.map Prod.fst ∧ (∀ r, BlkR lc ev ps v qs r → r ≠ ob) ∧ Cells wr ob 32 #[v, .int .i64 l.next] ∧ ob < wr.heap.size ∧ Below wq.heap.size wq wr) (fun i _ => bs.length - (intOf i).toNat)
            case atStart => exact ⟨0, ec, _, pcs, qs, l, Nat.zero_le _, rfl, CC.out, HSC.out, QSC.out, BLC.out, MBC.out, hobl, WQ.out⟩
            case round =>
              clear CC HSC QSC BLC MBC hobl WQ HSQ hps0 hqs0
              obtain ⟨k, ev2, v2, ps2, qs2, l2, hk2, rfl, hC, hS, hqs, hbl, hmb, hwm2, hBR⟩ := hrel
              have hnx2 := hC.nx
              have hlen2 := hC.len
              have hpos2 := hC.ok.pos
              have hlk2 := LIB.out.1
              have hpl2 : ps2.length ≤ 4000 := by
                have h1 : ps2.length = l2.es.length := by rw [← hC.es, List.length_map]
                omega
              have hql2 : qs2.length ≤ ps2.length := by have := congrArg List.length hqs; rw [List.length_map, List.length_map] at this; omega
              obtain ⟨va2, vd2, rfl, _⟩ := hS.q.empty
              have CR2 := Lib.hid hC
              have SR2 := Lib.hid hS
              have QS2 := Lib.hid hqs
              have BL2 := Lib.hid hbl
              have MB2 := Lib.hid hmb
              have BR2 := Lib.hid hBR
              have hsr2 := hBR.size
              have m0 : wr.cell? ⟨ob, 0, none⟩ = some (.slice va2 qs2.length vd2) := hmb.cell 0
              have m1 : wr.cell? ⟨ob, 1, none⟩ = some (.int .i64 l2.next) := hmb.cell 1
              have mf0 := hmb.frozen 0
              have mf1 := hmb.frozen 1
              clear hC hS hqs hbl hmb hBR
              by_cases hlt2 : k < bs.length
              · obtain ⟨ed, hed⟩ : ∃ ed, bs[k]? = some ed := ⟨_, List.getElem?_eq_getElem hlt2⟩
                have hmem := List.mem_of_getElem? hed
                obtain ⟨_, A', cap', e1, _, hc⟩ := HEB2.out
                cases e1
                obtain ⟨b, off, fv, rfl, hbb, c0, c1, c2, hf⟩ := hc k ed hed
                obtain ⟨fa, fc, rfl, _, _⟩ := _root_.id hf.flds
                have HBX := BX2.out _ BR2.out
                replace c0 := (HBX.cell (p := ⟨b, off + k * 3, none⟩) hbb).trans c0
                replace c1 := (HBX.cell (p := ⟨b, off + k * 3 + 1, none⟩) hbb).trans c1
                replace c2 := (HBX.cell (p := ⟨b, off + k * 3 + 1 + 1, none⟩) hbb).trans c2
                obtain ⟨wa, hwa⟩ : ∃ wa, wa = wr.alloc (.cells #[.int .i64 ed.kind, .int .i64 ed.id, .slice fa ed.fields.length fc] 38) := ⟨_, rfl⟩
                have hra : Below wr.heap.size wr wa := by rw [hwa]; exact (Below.refl _ _).alloc (Nat.le_refl _) _
                have hBA : Below wq.heap.size wq wa := BR2.out.trans (hra.mono hsr2)
                have hBA2 : Below w2.heap.size w2 wa := BX2.out _ hBA
                have CW := Lib.hid (CR2.out.below hra (Nat.le_refl _))
                have SW := Lib.hid (SR2.out.below hra (Nat.le_refl _))
                have MW := Lib.hid (cells_kept MB2.out hra MB2.out.lt)
                have hfa := hf.kept hBA2 (Nat.le_refl _)
                have hfr : FldR wa (.slice fa ed.fields.length fc) ed.fields := ⟨hfa.flds, hfa.nil⟩
                have hxlt : ed.fields ≠ [] → ∀ r, (Value.slice fa ed.fields.length fc).ownBlock = some r → r < w2.heap.size := fun hne r e => hf.flds.lt hne r e
                have hlb0 := CR2.out.lb0
                have hev0 := CR2.out.ev0
                have FI := LIB.out.fine hmem
                have hsm := light_small LIB.out hmem
                have hzwa := hra.size
                have DO := do_any lc ev2 (.slice va2 qs2.length vd2) (.slice fa ed.fields.length fc) ps2 qs2 l2.next l2.next ed.kind ed.id ed.fields wa SW.out CW.out.wf (by rw [CW.out.es]; exact CW.out.ok.len) (by omega) (by omega) (by omega) (by omega) hfr FI (fun hne r e => ⟨by have := hxlt hne r e; omega, fun e2 => by have := hxlt hne r e; have := hev0 r e2; omega⟩)
                rw [QS2.out, CW.out.es, sameD_self] at DO
                have WB : Hid (∀ w5, Only (fun r => r = lc ∨ ev2.ownBlock = some r) wa w5 → Below wq.heap.size wq w5) := fun w5 o =>
                  hBA.trans (o.to_below hBA.size (fun r hr e => by
                    rcases e with e | e
                    · omega
                    · have := hev0 r e; omega))
                have MK : Hid (∀ w5, Only (fun r => r = lc ∨ ev2.ownBlock = some r) wa w5 → Cells w5 ob 32 #[.slice va2 qs2.length vd2, .int .i64 l2.next]) := fun w5 o => MW.out.only o (fun e => by
                  rcases e with e | e
                  · exact BL2.out lc (.inl rfl) e.symm
                  · exact BL2.out ob (.inr (.inl e)) rfl)
                have NBL : Hid (∀ ev' ps' v' qs', (∀ r, BlkR lc ev' ps' v' qs' r → BlkR lc ev2 ps2 (.slice va2 qs2.length vd2) qs2 r ∨ (ed.fields ≠ [] ∧ (Value.slice fa ed.fields.length fc).ownBlock = some r) ∨ wa.heap.size ≤ r) → ∀ r, BlkR lc ev' ps' v' qs' r → r ≠ ob) := fun ev' ps' v' qs' hbk r hr e => by
                  rcases hbk r hr with q | ⟨q1, q2⟩ | q
                  · exact BL2.out r q e
                  · have := hxlt q1 r q2; omega
                  · omega
                have HDO := Lib.hid DO
                have HSM := Lib.hid hsm
                have hwas : Hid (wq.heap.size ≤ wa.heap.size) := hBA.size
                have FIN : Hid (∀ w5 ev' ps' v' qs', StR w5 lc ev' ps' (editR l2 ed.kind ed.id ed.fields).ls.next v' qs' → ps'.map Prod.fst = (editR l2 ed.kind ed.id ed.fields).ls.es → (∀ b, ev'.ownBlock = some b → ev2.ownBlock = some b ∨ wa.heap.size ≤ b) → Carry wq.heap.size w5 lc ev' ps' (editR l2 ed.kind ed.id ed.fields).ls (3051 + (k + 1))) := fun w5 ev' ps' v' qs' hst hes hblk =>
                  CW.out.edit ed.kind ed.id HSM.out.1 HSM.out.2 hst.la hes hwas.out hblk
                unfold ptr at HDO
                clear hed hf hra hBA hBA2 hfa hfr hxlt hev0 FI DO hsm hc hzwa HBX
                subst hwa
                go_wp2_with fail
                refine HDO.out.mono ?_
                rintro e w5 ⟨ev', ps', v', qs', rfl, hst, hes, hes2, ho, hbk, hblk⟩
                obtain ⟨va', vc', rfl, _⟩ := hst.q.empty
                have hz5 : ob < w5.heap.size := by have := ho.size; simp at this; omega
                have C5 := FIN.out w5 ev' ps' _ qs' hst hes hblk
                have M5 := MK.out w5 ho
                have hB5 := WB.out w5 ho
                have BK5 := Lib.hid (NBL.out ev' ps' _ qs' hbk)
                have QS5 : Hid (qs'.map Prod.fst = ps'.map Prod.fst) := by show _ = _; rw [hes, hes2]
                have n0 := M5.cell 0
                have n1 := M5.cell 1
                have nf0 := M5.frozen 0
                have nf1 := M5.frozen 1
                simp only [List.getElem?_toArray, List.getElem?_cons_zero, List.getElem?_cons_succ] at n0 n1
                generalize (editR l2 ed.kind ed.id ed.fields).ls = l' at *
                have hnb : ¬ BlkR lc ev' ps' (.slice va' qs'.length vc') qs' ob := fun hr => BK5.out _ hr rfl
                have S6 := Lib.hid (show StR ((w5.setCell ⟨ob, 0, none⟩ (.slice va' qs'.length vc')).setCell ⟨ob, 1, none⟩ (.int .i64 l'.next)) lc ev' ps' l'.next (.slice va' qs'.length vc') qs' from (hst.set 0 _ hnb).set 1 _ hnb)
                have M6 := Lib.hid (show Cells ((w5.setCell ⟨ob, 0, none⟩ (.slice va' qs'.length vc')).setCell ⟨ob, 1, none⟩ (.int .i64 l'.next)) ob 32 #[.slice va' qs'.length vc', .int .i64 l'.next] by
                  have h1 := (M5.set 0 (.slice va' qs'.length vc')).set 1 (.int .i64 l'.next)
                  rw [set2] at h1
                  exact h1)
                have B6 := Lib.hid (show Below wq.heap.size wq ((w5.setCell ⟨ob, 0, none⟩ (.slice va' qs'.length vc')).setCell ⟨ob, 1, none⟩ (.int .i64 l'.next)) from (hB5.setCell (p := ⟨ob, 0, none⟩) hmbo _).setCell (p := ⟨ob, 1, none⟩) hmbo _)
                have C6 := Lib.hid (show Carry wq.heap.size ((w5.setCell ⟨ob, 0, none⟩ (.slice va' qs'.length vc')).setCell ⟨ob, 1, none⟩ (.int .i64 l'.next)) lc ev' ps' l' (3051 + (k + 1)) from ⟨S6.out.la, C5.es, C5.ok, C5.sz, C5.lb0, C5.ev0, C5.len, C5.nx⟩)
                clear hst hes hes2 ho hbk hblk HDO C5 M5 hB5 hnb FIN MK WB NBL hwas HSM CW SW MW SR2 CR2 BL2 MB2 QS2
                go_wp2_with fail
                exact ⟨⟨k + 1, ev', _, ps', qs', l', hlt2, by go_num, C6.out, S6.out, QS5.out, BK5.out, M6.out, M6.out.lt, B6.out⟩, by simp [intOf]; omega⟩
              · obtain rfl : k = bs.length := by omega
                have X0 : Hid (Below wr.heap.size wr wr) := Below.refl _ _
                have ST1 : Hid (∀ W, Below wr.heap.size wr W → Calls Tryz.prog 17 #[.pointer (some ⟨lb, 0, none⟩), .agg #[.slice va qs.length vc2, .int .i64 l.next]] W fun e w' => e = .returned (.bool true) ∧ Below W.heap.size W w') := fun W hW => stands_any (HSR.out.below (BR2.out.trans (hW.mono hsr2)) (Nat.le_refl _))
                have ST2 : Hid (∀ W, Below wr.heap.size wr W → Calls Tryz.prog 17 #[.pointer (some ⟨lc, 0, none⟩), .agg #[.slice va2 qs2.length vd2, .int .i64 l2.next]] W fun e w' => e = .returned (.bool true) ∧ Below W.heap.size W w') := fun W hW => stands_any (StandIn.below (w := wr) ⟨SR2.out, QS2.out, CR2.out.wf, by rw [CR2.out.es]; exact CR2.out.ok.nd, CR2.out.ents (by omega), by omega⟩ hW (Nat.le_refl _))
                have K9 : Hid (∀ W, Below wr.heap.size wr W → Cells W w4.heap.size 32 #[.slice va qs.length vc2, .int .i64 l.next]) := fun W hW => cells_kept HM9.out (BR2.out.trans (hW.mono hsr2)) HM9.out.lt
                have KO : Hid (∀ W, Below wr.heap.size wr W → Cells W ob 32 #[.slice va2 qs2.length vd2, .int .i64 l2.next]) := fun W hW => cells_kept MB2.out hW MB2.out.lt
                have HFIN := Lib.hid (show Below w.heap.size w wr from HBW.out.trans (BR2.out.mono HBW.out.size))
                clear SR2 BL2 CR2 QS2 HSR m0 m1 mf0 mf1
                go_wp2_with fail
                refine (nilInsert 0 _ 1 1 _).mono ?_
                rintro e x1 ⟨rfl, b_⟩
                have X1 := Lib.hid (((Below.refl wr.heap.size wr).alloc (Nat.le_refl _) (.cells #[.string ⟨#[65]⟩, .string ⟨#[]⟩] 73)).trans (b_.mono (by simp)))
                clear b_
                go_wp2_with fail
                refine (nilGet 1 _).mono ?_
                rintro e x2 ⟨rfl, b_⟩
                have X2 := Lib.hid (X1.out.trans (b_.mono X1.out.size))
                clear b_
                go_wp2_with fail
                refine (nilRaw 1 _).mono ?_
                rintro e x3 ⟨rfl, b_⟩
                have X3 := Lib.hid (X2.out.trans (b_.mono X2.out.size))
                clear b_
                have g0 := (K9.out x3 X3.out).cell 0
                have g1 := (K9.out x3 X3.out).cell 1
                simp only [List.getElem?_toArray, List.getElem?_cons_zero, List.getElem?_cons_succ] at g0 g1
                go_wp2_with fail
                refine (ST1.out _ X3.out).mono ?_
                rintro e x4 ⟨rfl, b_⟩
                have X4 := Lib.hid (X3.out.trans (b_.mono X3.out.size))
                clear b_
                have o0 := (KO.out x4 X4.out).cell 0
                have o1 := (KO.out x4 X4.out).cell 1
                simp only [List.getElem?_toArray, List.getElem?_cons_zero, List.getElem?_cons_succ] at o0 o1
                clear g0 g1
                go_wp2_with fail
                refine (ST2.out _ X4.out).mono ?_
                rintro e x5 ⟨rfl, b_⟩
                have X5 := Lib.hid (X4.out.trans (b_.mono X4.out.size))
                clear b_
                clear o0 o1
                go_wp2_with fail
                refine (is_err 7 (by decide) 7 _).mono ?_
                rintro e xa ⟨rfl, rfl⟩
                go_wp2_with fail
                refine (nilReplace 1 none 0 0 _).mono ?_
                rintro e x6 ⟨rfl, b_⟩
                have X6 := Lib.hid (X5.out.trans (b_.mono X5.out.size))
                clear b_
                go_wp2_with fail
                refine (is_err 7 (by decide) 7 _).mono ?_
                rintro e xb ⟨rfl, rfl⟩
                go_wp2_with fail
                refine (nilDelete 1 _).mono ?_
                rintro e x7 ⟨rfl, b_⟩
                have X7 := Lib.hid (X6.out.trans (b_.mono X6.out.size))
                clear b_
                go_wp2_with fail
                refine (is_err 7 (by decide) 7 _).mono ?_
                rintro e xc ⟨rfl, rfl⟩
                go_wp2_with fail
                refine (nilStanzas _).mono ?_
                rintro e x8 ⟨⟨A8, c8, rfl⟩, b_⟩
                have X8 := Lib.hid (X7.out.trans (b_.mono X7.out.size))
                clear b_
                go_wp2_with fail
                refine (nilItems _).mono ?_
                rintro e x9 ⟨⟨A9, c9, rfl⟩, b_⟩
                have X9 := Lib.hid (X8.out.trans (b_.mono X8.out.size))
                clear b_
                go_wp2_with fail
                refine (nilPlace 1 _).mono ?_
                rintro e x10 ⟨rfl, b_⟩
                have X10 := Lib.hid (X9.out.trans (b_.mono X9.out.size))
                clear b_
                go_wp2_with fail
                refine (nilLen _).mono ?_
                rintro e x11 ⟨rfl, b_⟩
                have X11 := Lib.hid (X10.out.trans (b_.mono X10.out.size))
                clear b_
                go_wp2_with fail
                refine (next_none _).mono ?_
                rintro e x12 ⟨rfl, rfl⟩
                go_wp2_with fail
                refine (nilText _).mono ?_
                rintro e x13 ⟨rfl, b_⟩
                have X13 := Lib.hid (X11.out.trans (b_.mono X11.out.size))
                clear b_
                go_wp2_with fail
                refine (nilCopy _).mono ?_
                rintro e x14 ⟨rfl, b_⟩
                have X14 := Lib.hid (X13.out.trans (b_.mono X13.out.size))
                clear b_
                go_wp2_with fail
                go_ret
                exact ⟨rfl, HFIN.out.trans (X14.out.mono HFIN.out.size)⟩
open Go.Maps Go.ChangeShapes Go.Joins Go.WideShapes in
set_option maxRecDepth 100000 in
theorem copiesCall {H : Type} {enc : TypeId × Value → H} (s : ByteArray) (v1 : Value) (d1 : DataW H) (p1 : List MemPlace) (v2 : Value) (d2 : DataW H) (p2 : List MemPlace) (W : World) (hs : s.size ≤ maxLen) {b0 : Nat} (hval1 : Value.okWide Tryz.prog W .any b0 22 v1) {base1 : Nat} {sp1 : Nat → Bool} {held1 : Bool} (h1 : DataW.Trod enc Tryz.prog W base1 sp1 held1 22 v1 d1 p1)
    {b2 : Nat} (hval2 : Value.okWide Tryz.prog W .any b2 22 v2) {base2 : Nat} {sp2 : Nat → Bool} {held2 : Bool} (h2 : DataW.Trod enc Tryz.prog W base2 sp2 held2 22 v2 d2 p2) :
    Calls Tryz.prog 7 #[.string s, v1, v2] W fun e w' => e = .returned (.bool true) ∧ Below W.heap.size W w' := by
  obtain ⟨n1, hn1⟩ := h1
  obtain ⟨ao, len, cap, rfl⟩ := okWide_slice Tryz.underlying22 hval1
  obtain ⟨as_, hr1⟩ := edits_in (v := .slice ao len cap) hn1
  obtain ⟨n2, hn2⟩ := h2
  obtain ⟨ao2, len2, cap2, rfl⟩ := okWide_slice Tryz.underlying22 hval2
  obtain ⟨bs, hr2⟩ := edits_in (v := .slice ao2 len2 cap2) hn2
  exact copiesLaw s hs as_ bs _ _ W hr1 hr2
end Go.Proofs.YtiebbgbcojgeoaaGreatDoor
