/- ListPlays. -/
import Derived.Test.YtiebbgbcojgeoaaGreatDoorBas0
set_option linter.unusedVariables false
namespace Go.Proofs.YtiebbgbcojgeoaaGreatDoor
open Go.RowKit Go.Shelf
attribute [local go_sem] Oper.semAt_some

set_option maxRecDepth 100000 in
set_option maxHeartbeats 8000000 in
theorem playsLaw7 (s : ByteArray) (hs : s.size ≤ maxLen) (eds : List Ed) (v : Value) (id : Int) (w : World) (h : EdsIn w v eds) :
    Calls Tryz.prog 3 #[.string s, v, .int .i64 id] w fun e w' => e = .returned (.bool true) ∧ Below w.heap.size w w' := by
  have AL := Lib.hid (alive7_any w)
  have HE := Lib.hid h
  unfold maxLen at hs
  obtain ⟨va, vc, rfl, _⟩ : ∃ A c, v = .slice A eds.length c ∧ True := by obtain ⟨_, A, c, e, _⟩ := h; exact ⟨A, c, e, trivial⟩
  clear h
  go_enter Tryz.func3, Tryz.ntmps3
  go_wp2_with fail
  refine AL.out.mono ?_
  rintro e w1 ⟨rfl, b1⟩
  have B1 := Lib.hid b1
  clear AL b1
  by_cases hlong : 3000 < s.size
  · go_wp2_with fail
    go_ret
    exact ⟨rfl, B1.out⟩
  have HV := Lib.hid (heavy_any eds _ w1 (HE.out.below B1.out (Nat.le_refl _)))
  go_wp2_with fail
  refine HV.out.mono ?_
  rintro e w2 ⟨⟨q, rfl, hq⟩, b2⟩
  have B2 := Lib.hid (B1.out.trans (b2.mono B1.out.size))
  have HQ := Lib.hid hq
  clear HV b2 hq
  cases q with
  | true =>
    go_wp2_with fail
    go_ret
    exact ⟨rfl, B2.out⟩
  | false =>
    have LI : Hid (Light eds) := HQ.out (by first | exact rfl | trivial)
    have OF := Lib.hid (of_any s (by omega) w2)
    clear HQ
    go_wp2_with fail
    refine OF.out.mono ?_
    rintro e w3 hof
    clear OF
    have RO_ := Lib.hid (fun W => refOf7_any s (by omega) W)
    have hz2 := B2.out.size
    cases hp : parseL s.data.toList with
    | error an =>
      obtain ⟨a, n⟩ := an
      obtain ⟨b3, u, rfl, hf⟩ := hof.no hp
      obtain ⟨hn0, hn11⟩ := parse_no hp
      have hf_ := Lib.hid hf
      obtain ⟨q, _, rfl, _⟩ := hf
      have B3 := Lib.hid (B2.out.trans (b3.mono B2.out.size))
      have RO3 := Lib.hid (RO_.out w3)
      have HP := Lib.hid hp
      clear hof b3 hp RO_
      go_wp2_with fail
      refine RO3.out.mono ?_
      rintro e w4 ⟨b4, h4⟩
      rw [HP.out] at h4
      subst h4
      have B4 := Lib.hid (B3.out.trans (b4.mono B3.out.size))
      obtain ⟨w5, hw5⟩ : ∃ w5, w5 = w4.alloc (.cells #[.slice none 0 0, .int .i64 0] 32) := ⟨_, rfl⟩
      have b5 : Below w4.heap.size w4 w5 := by rw [hw5]; exact (Below.refl _ _).alloc (Nat.le_refl _) _
      have hf5 := (hf_.out.below b4 (Nat.le_refl _)).below b5 (Nat.le_refl _)
      have NU_ := Lib.hid (num_fault hf5 hn0 (by omega))
      have AT_ := Lib.hid (at_fault hf5)
      have B5 := Lib.hid (B4.out.trans (b5.mono B4.out.size))
      have hnz : ((n : Int) != 0) = true := bne_iff_ne.2 (by omega)
      have hnn : ((n : Int) != (n : Int)) = false := by simp
      have haa : ((a : Int) != (a : Int)) = false := by simp
      clear RO3 b4 hf5 hf_ b5 hn0
      subst hw5
      go_wp2_with fail
      refine NU_.out.mono ?_
      rintro e w6 ⟨rfl, rfl⟩
      go_wp2_with fail
      refine AT_.out.mono ?_
      rintro e w6 ⟨rfl, rfl⟩
      go_wp2_with fail
      go_ret
      exact ⟨rfl, B5.out⟩
    | ok its =>
      obtain ⟨b3, lb, ev, ps, rfl, hlb, hev, hla, hps⟩ := hof.yes hp
      have hlen : (fromL its).es.length ≤ 3000 ∧ (fromL its).next ≤ 3001 := by
        have h1 := (parse_join hp).2.1
        rw [← Lib.size_eq] at h1
        have h2 : (fromL its).es.length = its.length := from_len 1 its
        have h3 := (from_next 1 its).2
        have h4 : (fromL its).next = fromNext 1 its := rfl
        omega
      have CA : Carry w2.heap.size w3 lb ev ps (fromL its) 3000 := by
        refine ⟨hla, hps, from_ok hp, fun e he => ?_, hlb, hev, hlen.1, hlen.2⟩
        have h1 := (parse_join hp).2.2
        have h2 : e.1 ∈ its := by rw [← from_items 1 its]; exact List.mem_map_of_mem he
        obtain ⟨q1, q2⟩ := h1 _ h2
        rw [← Lib.size_eq] at q2
        exact ⟨by omega, by omega⟩
      have B3 := Lib.hid (B2.out.trans (b3.mono B2.out.size))
      have hB3 := Lib.hid (show Below w2.heap.size w2 w3 from b3)
      have HC := Lib.hid CA
      have HP := Lib.hid hp
      have RO3 := Lib.hid (RO_.out w3)
      have hlb3 : lb < w3.heap.size := hla.lr.head.lt
      have hev3 : ∀ b, ev.ownBlock = some b → b < w3.heap.size := fun b e => (hla.lr.ents.row.lt b e).2
      have HEV3 := Lib.hid hev3
      have HLT : Hid (∀ r, BlkR lb ev ps (.slice none 0 0) [] r → r < w3.heap.size) := fun r hr => CA.str.lt hr
      clear hof b3 hp hla hps CA hlen RO_ hev hev3
      have hz3 := hB3.out.size
      unfold ptr at *
      go_wp2_with fail
      refine RO3.out.mono ?_
      rintro e w4 ⟨b4, h4⟩
      rw [HP.out] at h4
      dsimp only at h4
      obtain ⟨v0, qs, rfl, hq, hqs, hvb, hqb⟩ := h4
      generalize fromL its = l0 at *
      obtain ⟨A, cap, rfl, _⟩ := hq.empty
      have hz4 := b4.size
      have B4 := Lib.hid (hB3.out.trans (b4.mono hz3))
      have C4 := Lib.hid (HC.out.below b4 (Nat.le_refl _))
      have ST4 : StR w4 lb ev ps l0.next (.slice A qs.length cap) qs := ⟨C4.out.la, hq, fun b e => ⟨by have := hvb b e; omega, fun e2 => by have := hvb b e; have := HEV3.out b e2; omega⟩, fun q hq' _ b e => ⟨by have := hqb q hq' b e; omega, fun e2 => by have := hqb q hq' b e; have := HEV3.out b e2; omega⟩⟩
      obtain ⟨w5, hw5⟩ : ∃ w5, w5 = w4.alloc (.cells #[.slice A qs.length cap, .int .i64 l0.next] 32) := ⟨_, rfl⟩
      have b5 : Below w4.heap.size w4 w5 := by rw [hw5]; exact (Below.refl _ _).alloc (Nat.le_refl _) _
      have MB5 := Lib.hid (show Cells w5 w4.heap.size 32 #[.slice A qs.length cap, .int .i64 l0.next] by rw [hw5]; exact Cells.new _ _ _)
      have S5 := Lib.hid (ST4.below b5 (Nat.le_refl _))
      have BL5 : Hid (∀ r, BlkR lb ev ps (.slice A qs.length cap) qs r → r ≠ w4.heap.size) := fun r hr e => by have := ST4.lt hr; omega
      have B5 := Lib.hid (B4.out.trans (b5.mono B4.out.size))
      have C5 := Lib.hid (C4.out.below b5 (Nat.le_refl _))
      have HQS : Hid (qs.map Prod.fst = ps.map Prod.fst) := by show _ = _; rw [hqs, HC.out.es]
      have NU_ := Lib.hid (num_any 0 (by decide) w5)
      have AT_ := Lib.hid (at_nil w5)
      rw [errV_0] at NU_
      have hlbm : lb < w4.heap.size := by omega
      have hz25 : w2.heap.size ≤ w4.heap.size ∧ w4.heap.size < w5.heap.size := ⟨B4.out.size, MB5.out.lt⟩
      have HE2 := Lib.hid (HE.out.below B2.out (Nat.le_refl _))
      have hS2 : w.heap.size ≤ w2.heap.size := B2.out.size
      have hn0 : ((0 : Int) != 0) = false := by decide
      have hn9 : ((-9 : Int) != -9) = false := by decide
      clear RO3 b4 hq hqs hvb hqb ST4 b5 B4 C4 HC hB3
      subst hw5
      go_wp2_with fail
      refine NU_.out.mono ?_
      rintro e w6 ⟨rfl, rfl⟩
      go_wp2_with fail
      refine AT_.out.mono ?_
      rintro e w6 ⟨rfl, rfl⟩
      clear NU_ AT_
      go_wp2_with fail
      go_loopw [58] (fun i wr => ∃ (k : Nat) (ev v : Value) (ps qs : List Pr) (l : LS), k ≤ eds.length ∧ i = .int .i64 k ∧ Carry w2.heap.size wr lb ev ps l (3000 + k) ∧ StR wr lb ev ps l.next v qs ∧ qs.map Prod.fst = ps.map Prod.fst ∧ (∀ r, BlkR lb ev ps v qs r → r ≠ w4.heap.size) ∧ Cells wr w4.heap.size 32 #[v, .int .i64 l.next] ∧ w4.heap.size < wr.heap.size ∧ Below w2.heap.size w2 wr) (fun i _ => eds.length - (intOf i).toNat)
      case atStart => exact ⟨0, ev, _, ps, qs, l0, Nat.zero_le _, rfl, C5.out, S5.out, HQS.out, BL5.out, MB5.out, hz25.2, B5.out⟩
      case round =>
        clear B3 B5 C5 S5 BL5 MB5 HQS HEV3 HLT hlb
        obtain ⟨k, ev, v, ps, qs, l, hk, rfl, hC, hS, hqs, hbl, hmb, hwm, hBR⟩ := hrel
        have hnx := hC.nx
        have hlen := hC.len
        have hpos := hC.ok.pos
        have hpl : ps.length ≤ 4000 := by
          have h1 : ps.length = l.es.length := by rw [← hC.es, List.length_map]
          have := LI.out.1
          omega
        have hql : qs.length ≤ ps.length := by have := congrArg List.length hqs; rw [List.length_map, List.length_map] at this; omega
        have hlk := LI.out.1
        obtain ⟨va, vc2, rfl, _⟩ := hS.q.empty
        have CR := Lib.hid hC
        have SR := Lib.hid hS
        have QS := Lib.hid hqs
        have BL := Lib.hid hbl
        have MB := Lib.hid hmb
        have BR := Lib.hid hBR
        have hsr := hBR.size
        have m0 : wr.cell? ⟨w4.heap.size, 0, none⟩ = some (.slice va qs.length vc2) := hmb.cell 0
        have m1 : wr.cell? ⟨w4.heap.size, 1, none⟩ = some (.int .i64 l.next) := hmb.cell 1
        have mf0 := hmb.frozen 0
        have mf1 := hmb.frozen 1
        clear hC hS hqs hbl hmb hBR
        by_cases hlt : k < eds.length
        · obtain ⟨ed, hed⟩ : ∃ ed, eds[k]? = some ed := ⟨_, List.getElem?_eq_getElem hlt⟩
          have hmem := List.mem_of_getElem? hed
          obtain ⟨_, A', cap', e1, _, hc⟩ := HE2.out
          cases e1
          obtain ⟨b, off, fv, rfl, hbb, c0, c1, c2, hf⟩ := hc k ed hed
          obtain ⟨fa, fc, rfl, _, _⟩ := _root_.id hf.flds
          replace c0 := (BR.out.cell (p := ⟨b, off + k * 3, none⟩) hbb).trans c0
          replace c1 := (BR.out.cell (p := ⟨b, off + k * 3 + 1, none⟩) hbb).trans c1
          replace c2 := (BR.out.cell (p := ⟨b, off + k * 3 + 1 + 1, none⟩) hbb).trans c2
          obtain ⟨wa, hwa⟩ : ∃ wa, wa = wr.alloc (.cells #[.int .i64 ed.kind, .int .i64 ed.id, .slice fa ed.fields.length fc] 38) := ⟨_, rfl⟩
          have hra : Below wr.heap.size wr wa := by rw [hwa]; exact (Below.refl _ _).alloc (Nat.le_refl _) _
          have hBA : Below w2.heap.size w2 wa := BR.out.trans (hra.mono hsr)
          have CW := Lib.hid (CR.out.below hra (Nat.le_refl _))
          have SW := Lib.hid (SR.out.below hra (Nat.le_refl _))
          have MW := Lib.hid (cells_kept MB.out hra MB.out.lt)
          have hfa := hf.kept hBA (Nat.le_refl _)
          have hfr : FldR wa (.slice fa ed.fields.length fc) ed.fields := ⟨hfa.flds, hfa.nil⟩
          have hxlt : ed.fields ≠ [] → ∀ r, (Value.slice fa ed.fields.length fc).ownBlock = some r → r < w2.heap.size := fun hne r e => hf.flds.lt hne r e
          have hlb0 := CR.out.lb0
          have hev0 := CR.out.ev0
          have FI := LI.out.fine hmem
          have hsm := light_small LI.out hmem
          have hzwa := hra.size
          have DO := do_any lb ev (.slice va qs.length vc2) (.slice fa ed.fields.length fc) ps qs l.next l.next ed.kind ed.id ed.fields wa SW.out CW.out.wf (by rw [CW.out.es]; exact CW.out.ok.len) (by omega) (by omega) (by omega) (by omega) hfr FI (fun hne r e => ⟨by have := hxlt hne r e; omega, fun e2 => by have := hxlt hne r e; have := hev0 r e2; omega⟩)
          rw [QS.out, CW.out.es, sameD_self] at DO
          have WB : Hid (∀ w5, Only (fun r => r = lb ∨ ev.ownBlock = some r) wa w5 → Below w2.heap.size w2 w5) := fun w5 o =>
            hBA.trans (o.to_below hBA.size (fun r hr e => by
              rcases e with e | e
              · omega
              · have := hev0 r e; omega))
          have MK : Hid (∀ w5, Only (fun r => r = lb ∨ ev.ownBlock = some r) wa w5 → Cells w5 w4.heap.size 32 #[.slice va qs.length vc2, .int .i64 l.next]) := fun w5 o => MW.out.only o (fun e => by
            rcases e with e | e
            · omega
            · exact BL.out w4.heap.size (.inr (.inl e)) rfl)
          have NBL : Hid (∀ ev' ps' v' qs', (∀ r, BlkR lb ev' ps' v' qs' r → BlkR lb ev ps (.slice va qs.length vc2) qs r ∨ (ed.fields ≠ [] ∧ (Value.slice fa ed.fields.length fc).ownBlock = some r) ∨ wa.heap.size ≤ r) → ∀ r, BlkR lb ev' ps' v' qs' r → r ≠ w4.heap.size) := fun ev' ps' v' qs' hbk r hr e => by
            rcases hbk r hr with q | ⟨q1, q2⟩ | q
            · exact BL.out r q e
            · have := hxlt q1 r q2; omega
            · omega
          have HDO := Lib.hid DO
          have HSM := Lib.hid hsm
          have hwas : Hid (w2.heap.size ≤ wa.heap.size) := hBA.size
          have FIN : Hid (∀ w5 ev' ps' v' qs', StR w5 lb ev' ps' (editR l ed.kind ed.id ed.fields).ls.next v' qs' → ps'.map Prod.fst = (editR l ed.kind ed.id ed.fields).ls.es → (∀ b, ev'.ownBlock = some b → ev.ownBlock = some b ∨ wa.heap.size ≤ b) → Carry w2.heap.size w5 lb ev' ps' (editR l ed.kind ed.id ed.fields).ls (3000 + (k + 1))) := fun w5 ev' ps' v' qs' hst hes hblk =>
            CW.out.edit ed.kind ed.id HSM.out.1 HSM.out.2 hst.la hes hwas.out hblk
          unfold ptr at HDO
          clear hed hf hra hBA hfa hfr hxlt hev0 FI DO hsm hc hzwa
          subst hwa
          go_wp2_with fail
          refine HDO.out.mono ?_
          rintro e w5 ⟨ev', ps', v', qs', rfl, hst, hes, hes2, ho, hbk, hblk⟩
          obtain ⟨va', vc', rfl, _⟩ := hst.q.empty
          have hz5 : w4.heap.size < w5.heap.size := by have := ho.size; simp at this; omega
          have C5 := FIN.out w5 ev' ps' _ qs' hst hes hblk
          have M5 := MK.out w5 ho
          have hB5 := WB.out w5 ho
          have BK5 := Lib.hid (NBL.out ev' ps' _ qs' hbk)
          have QS5 : Hid (qs'.map Prod.fst = ps'.map Prod.fst) := by show _ = _; rw [hes, hes2]
          have n0 := M5.cell 0
          have n1 := M5.cell 1
          have nf0 := M5.frozen 0
          have nf1 := M5.frozen 1
          simp only [List.getElem?_toArray, List.getElem?_cons_zero, List.getElem?_cons_succ] at n0 n1
          generalize (editR l ed.kind ed.id ed.fields).ls = l' at *
          obtain ⟨w6, hw6⟩ : ∃ w6, w6 = (((w5.setCell ⟨w4.heap.size, 0, none⟩ (.slice va' qs'.length vc')).setCell ⟨w4.heap.size, 1, none⟩ (.int .i64 l'.next)).alloc (.cells #[.slice va' qs'.length vc', .int .i64 l'.next] 32)) := ⟨_, rfl⟩
          have hnb : ¬ BlkR lb ev' ps' (.slice va' qs'.length vc') qs' w4.heap.size := fun hr => BK5.out _ hr rfl
          have S6 := Lib.hid (show StR w6 lb ev' ps' l'.next (.slice va' qs'.length vc') qs' by rw [hw6]; exact ((hst.set 0 _ hnb).set 1 _ hnb).below ((Below.refl _ _).alloc (Nat.le_refl _) _) (Nat.le_refl _))
          have M6 := Lib.hid (show Cells w6 w4.heap.size 32 #[.slice va' qs'.length vc', .int .i64 l'.next] by
            have h1 := (M5.set 0 (.slice va' qs'.length vc')).set 1 (.int .i64 l'.next)
            rw [set2] at h1
            rw [hw6]; exact h1.alloc _)
          have hz56 : w6.heap.size = w5.heap.size + 1 := by rw [hw6]; simp [World.setCell]
          have hz24 := hz25.1
          have B6 := Lib.hid (show Below w2.heap.size w2 w6 by rw [hw6]; exact (((hB5.setCell (p := ⟨w4.heap.size, 0, none⟩) hz24 _).setCell (p := ⟨w4.heap.size, 1, none⟩) hz24 _).alloc ((hB5.setCell (p := ⟨w4.heap.size, 0, none⟩) hz24 _).setCell (p := ⟨w4.heap.size, 1, none⟩) hz24 _).size _))
          have C6 := Lib.hid (show Carry w2.heap.size w6 lb ev' ps' l' (3000 + (k + 1)) from ⟨S6.out.la, C5.es, C5.ok, C5.sz, C5.lb0, C5.ev0, C5.len, C5.nx⟩)
          have IN6 : StandIn w6 lb ev' (.slice va' qs'.length vc') ps' qs' l'.next := ⟨S6.out, QS5.out, C6.out.wf, by rw [C6.out.es]; exact C6.out.ok.nd, C6.out.ents (by omega), by have := C6.out.ok.pos; have := C6.out.nx; omega⟩
          have STN := Lib.hid (stands_any IN6)
          have hz6 : w4.heap.size < w6.heap.size := by omega
          have hzz6 := B6.out.size
          unfold ptr at STN
          clear hst hes hes2 ho hbk hblk HDO C5 M5 hB5 hnb IN6 FIN MK WB NBL hwas HSM CW SW MW SR CR BL MB QS hz56
          subst hw6
          go_wp2_with fail
          refine STN.out.mono ?_
          rintro e w7 ⟨rfl, b7⟩
          have C7 := Lib.hid (C6.out.below b7 (Nat.le_refl _))
          have S7 := Lib.hid (S6.out.below b7 (Nat.le_refl _))
          have M7 := Lib.hid (cells_kept M6.out b7 M6.out.lt)
          have B7 := Lib.hid (B6.out.trans (b7.mono hzz6))
          have hz7 : w4.heap.size < w7.heap.size := Nat.lt_of_lt_of_le hz6 b7.size
          clear STN b7
          go_wp2_with fail
          exact ⟨⟨k + 1, ev', _, ps', qs', l', hlt, by go_num, C7.out, S7.out, QS5.out, BK5.out, M7.out, hz7, B7.out⟩, by simp [intOf]; omega⟩
        · obtain rfl : k = eds.length := by omega
          have INR := Lib.hid (show StandIn wr lb ev (.slice va qs.length vc2) ps qs l.next from ⟨SR.out, QS.out, CR.out.wf, by rw [CR.out.es]; exact CR.out.ok.nd, CR.out.ents (by omega), by omega⟩)
          have HSB := Lib.hid (B2.out.trans (BR.out.mono hS2))
          have hfR := findP_R CR.out.wf id
          have hlr := CR.out.la.lr
          have hp6 : ps.length ≤ 1000000 := by omega
          clear CR SR BL BR
          cases hf : findR (ps.map Prod.fst) id with
          | none =>
            obtain ⟨fa, hfa⟩ : ∃ fa : Option Addr, fa = none := ⟨_, rfl⟩
            obtain ⟨fc, hfc⟩ : ∃ fc : Nat, fc = 0 := ⟨_, rfl⟩
            rw [hf] at hfR
            have GT := Lib.hid (get_none lb ev ps l.next id wr hlr hp6 hfR)
            have RW_ : Hid (∀ W, Below wr.heap.size wr W → Calls Tryz.prog 19 #[ptr lb, .int .i64 id] W fun e w' => e = .returned (.tuple #[.string ⟨#[]⟩, .bool false]) ∧ Below W.heap.size W w') := fun W hW => by
              have h := raw_any lb ev ps l.next id W (hlr.below hW (Nat.le_refl _)) hp6
              rw [hfR] at h
              exact h
            have RG : Hid (∀ W, Below wr.heap.size wr W → Calls Tryz.prog 20 #[.agg #[.slice va qs.length vc2, .int .i64 l.next], .int .i64 id] W fun e w' => e = .returned (.tuple #[.agg #[.int .i64 0, .string ⟨#[]⟩, .slice none 0 0], .bool false]) ∧ Below W.heap.size W w') := fun W hW => by
              have h := refGet7_any qs (.slice va qs.length vc2) l.next id W (INR.out.below hW (Nat.le_refl _)).st.q INR.out.qlen
              rw [QS.out, hf] at h
              exact h
            clear hlr
            unfold ptr at GT RW_
            go_wp2_with fail
            refine GT.out.mono ?_
            rintro e w5 ⟨rfl, b5⟩
            have BR5 := Lib.hid b5
            have RW5 := Lib.hid (RW_.out w5 b5)
            clear GT b5
            go_wp2_with fail
            refine RW5.out.mono ?_
            rintro e w6 ⟨rfl, b6⟩
            have BR6 := Lib.hid (BR5.out.trans (b6.mono BR5.out.size))
            have F56 := Lib.hid b6
            have RG6 := Lib.hid (RG.out w6 BR6.out)
            have m60 := (cells_kept MB.out BR6.out MB.out.lt).cell 0
            have m61 := (cells_kept MB.out BR6.out MB.out.lt).cell 1
            simp only [List.getElem?_toArray, List.getElem?_cons_zero, List.getElem?_cons_succ] at m60 m61
            clear RW5 b6
            go_wp2_with fail
            refine RG6.out.mono ?_
            rintro e w7 ⟨rfl, b7⟩
            have BR7 := Lib.hid (BR6.out.trans (b7.mono BR6.out.size))
            have F57 := Lib.hid (F56.out.trans (b7.mono F56.out.size))
            clear RG6 b7 m60 m61
            go_wp2_with fail
            obtain ⟨wx, hwx⟩ : ∃ wx, wx = w7.alloc (.cells #[.int .i64 0, .string ⟨#[]⟩, .slice none 0 0] 47) := ⟨_, rfl⟩
            have hbx : Below w7.heap.size w7 wx := by rw [hwx]; exact (Below.refl _ _).alloc (Nat.le_refl _) _
            have WX : Cells wx w7.heap.size 47 #[.int .i64 0, .string ⟨#[]⟩, .slice none 0 0] := by rw [hwx]; exact Cells.new _ _ _
            rw [← hwx]
            clear hwx
            have toW7 : ∀ W, Below wx.drew.heap.size wx.drew W → Below w7.heap.size w7 W := fun W hW => (hbx.drew).trans (hW.mono (show w7.heap.size ≤ wx.heap.size from hbx.size))
            have toW : ∀ W, Below wx.drew.heap.size wx.drew W → Below wr.heap.size wr W := fun W hW => BR7.out.trans ((toW7 W hW).mono BR7.out.size)
            have HWX := HSB.out
            refine wp_region_any (by kernel_rfl) ?_
            refine region_plD _ wx.drew (.slice va qs.length vc2) lb w4.heap.size w7.heap.size 0 0 0 none none l.next id (placeP ps id) ⟨#[]⟩ false _ rfl rfl rfl rfl rfl rfl rfl rfl rfl rfl
              (fun W hW => by
                have c := cells_kept MB.out (toW W hW) MB.out.lt
                exact ⟨c.cell 0, c.cell 1⟩)
              (fun W hW => by
                have c := WX.below (((Below.refl wx.heap.size wx).drew).trans hW) WX.lt
                exact ⟨c.cell 1, c.cell 2⟩)
              (fun W hW => (stands_any (INR.out.below (toW W hW) (Nat.le_refl _))).mono fun e w' ⟨he, b⟩ => ⟨_, he, rfl, b⟩)
              (fun W hW => cSameF (fs := []) ⟨none, 0, rfl, Nat.le_refl _, fun i f h => by simp at h⟩ ⟨none, 0, rfl, Nat.le_refl _, fun i f h => by simp at h⟩ (by decide))
              (fun W hW => (INR.out.below (toW W hW) (Nat.le_refl _)).cPlace id)
              (fun W hW => (INR.out.below (toW W hW) (Nat.le_refl _)).cRefPlace id)
              ?_
            intro y0 y1 y2 y3 y4 y5 y6 y7 y8 y9 y10 y11 y12 y13 y14 y15 y16 y17 y18 y19 y20 y21 y22 y23 y24 y25 y26 y27 y28 y29 y30 y31 y32 y33 y34 w8 hb8 h34
            obtain rfl : y34 = .bool true := h34
            have B8 := Lib.hid (HSB.out.trans ((toW w8 hb8).mono HSB.out.size))
            simp only [List.foldl_cons, List.foldl_nil, List.setIfInBounds_toArray, List.set_cons_zero, List.set_cons_succ]
            clear hb8 toW7 toW WX hbx HWX
            go_wp2_with fail
            go_ret
            exact ⟨rfl, B8.out⟩
          | some j =>
            rw [hf] at hfR
            have hjl : j < ps.length := by
              have := (findR_lt hf).1
              rw [List.length_map] at this; exact this
            obtain ⟨p, hp⟩ : ∃ p, ps[j]? = some p := ⟨_, List.getElem?_eq_getElem hjl⟩
            have hpf := INR.out.ok.fields p (List.mem_of_getElem? hp)
            obtain ⟨q, hq, hqe⟩ : ∃ q, qs[j]? = some q ∧ q.1 = p.1 := by
              have h1 : (qs.map Prod.fst)[j]? = some p.1 := by rw [QS.out, List.getElem?_map, hp]; rfl
              rw [List.getElem?_map] at h1
              exact Option.map_eq_some_iff.1 h1
            have hqf := INR.out.st.q.each q (List.mem_of_getElem? hq)
            obtain ⟨ga, gc, hg2, hgl, _⟩ := _root_.id hqf
            rw [hqe] at hg2 hgl
            rw [hqe, hg2] at hqf
            have HQF := Lib.hid hqf
            have GT := Lib.hid (get_some lb ev ps l.next id wr hlr hp6 hfR hp hpf)
            have RW_ : Hid (∀ W, Below wr.heap.size wr W → Calls Tryz.prog 19 #[ptr lb, .int .i64 id] W fun e w' => e = .returned (.tuple #[.string (B p.1.1.raw), .bool true]) ∧ Below W.heap.size W w') := fun W hW => by
              have h := raw_any lb ev ps l.next id W (hlr.below hW (Nat.le_refl _)) hp6
              rw [hfR, show (some j).bind (ps[·]?) = some p from hp] at h
              exact h
            have RG : Hid (∀ W, Below wr.heap.size wr W → Calls Tryz.prog 20 #[.agg #[.slice va qs.length vc2, .int .i64 l.next], .int .i64 id] W fun e w' => e = .returned (.tuple #[.agg #[.int .i64 p.1.1.kind, .string (B p.1.1.raw), .slice ga p.1.1.fields.length gc], .bool true]) ∧ Below W.heap.size W w') := fun W hW => by
              have h := refGet7_any qs (.slice va qs.length vc2) l.next id W (INR.out.below hW (Nat.le_refl _)).st.q INR.out.qlen
              rw [QS.out, hf, show (some j).bind (qs[·]?) = some q from hq] at h
              unfold getV at h
              dsimp only at h
              rw [hqe, hg2] at h
              exact h
            clear hlr hp hq hqe hqf hg2 hf hfR
            unfold ptr at GT RW_
            go_wp2_with fail
            refine GT.out.mono ?_
            rintro e w5 ⟨f, rfl, hfo, b5⟩
            obtain ⟨fa, fc, rfl, _⟩ := own_slice hfo
            have HFO := Lib.hid hfo
            have b5_ := Lib.hid b5
            clear hfo
            have BR5 := Lib.hid b5
            have RW5 := Lib.hid (RW_.out w5 b5)
            clear GT b5
            go_wp2_with fail
            refine RW5.out.mono ?_
            rintro e w6 ⟨rfl, b6⟩
            have BR6 := Lib.hid (BR5.out.trans (b6.mono BR5.out.size))
            have F56 := Lib.hid b6
            have RG6 := Lib.hid (RG.out w6 BR6.out)
            have m60 := (cells_kept MB.out BR6.out MB.out.lt).cell 0
            have m61 := (cells_kept MB.out BR6.out MB.out.lt).cell 1
            simp only [List.getElem?_toArray, List.getElem?_cons_zero, List.getElem?_cons_succ] at m60 m61
            clear RW5 b6
            go_wp2_with fail
            refine RG6.out.mono ?_
            rintro e w7 ⟨rfl, b7⟩
            have BR7 := Lib.hid (BR6.out.trans (b7.mono BR6.out.size))
            have F57 := Lib.hid (F56.out.trans (b7.mono F56.out.size))
            clear RG6 b7 m60 m61
            go_wp2_with fail
            obtain ⟨wx, hwx⟩ : ∃ wx, wx = w7.alloc (.cells #[.int .i64 p.1.1.kind, .string (B p.1.1.raw), .slice ga p.1.1.fields.length gc] 47) := ⟨_, rfl⟩
            have hbx : Below w7.heap.size w7 wx := by rw [hwx]; exact (Below.refl _ _).alloc (Nat.le_refl _) _
            have WX : Cells wx w7.heap.size 47 #[.int .i64 p.1.1.kind, .string (B p.1.1.raw), .slice ga p.1.1.fields.length gc] := by rw [hwx]; exact Cells.new _ _ _
            rw [← hwx]
            clear hwx
            have toW7 : ∀ W, Below wx.drew.heap.size wx.drew W → Below w7.heap.size w7 W := fun W hW => (hbx.drew).trans (hW.mono (show w7.heap.size ≤ wx.heap.size from hbx.size))
            have toW : ∀ W, Below wx.drew.heap.size wx.drew W → Below wr.heap.size wr W := fun W hW => BR7.out.trans ((toW7 W hW).mono BR7.out.size)
            have HWX := HSB.out
            refine wp_region_any (by kernel_rfl) ?_
            refine region_plD _ wx.drew (.slice va qs.length vc2) lb w4.heap.size w7.heap.size p.1.1.fields.length fc gc fa ga l.next id (placeP ps id) (B p.1.1.raw) true _ rfl rfl rfl rfl rfl rfl rfl rfl rfl rfl
              (fun W hW => by
                have c := cells_kept MB.out (toW W hW) MB.out.lt
                exact ⟨c.cell 0, c.cell 1⟩)
              (fun W hW => by
                have c := WX.below (((Below.refl wx.heap.size wx).drew).trans hW) WX.lt
                exact ⟨c.cell 1, c.cell 2⟩)
              (fun W hW => (stands_any (INR.out.below (toW W hW) (Nat.le_refl _))).mono fun e w' ⟨he, b⟩ => ⟨_, he, rfl, b⟩)
              (fun W hW => cSameF ((flds_of_own HFO.out).below (F57.out.trans ((toW7 W hW).mono F57.out.size)) (Nat.le_refl _)) (HQF.out.below (toW W hW) (Nat.le_refl _)) hpf)
              (fun W hW => (INR.out.below (toW W hW) (Nat.le_refl _)).cPlace id)
              (fun W hW => (INR.out.below (toW W hW) (Nat.le_refl _)).cRefPlace id)
              ?_
            intro y0 y1 y2 y3 y4 y5 y6 y7 y8 y9 y10 y11 y12 y13 y14 y15 y16 y17 y18 y19 y20 y21 y22 y23 y24 y25 y26 y27 y28 y29 y30 y31 y32 y33 y34 w8 hb8 h34
            obtain rfl : y34 = .bool true := h34
            have B8 := Lib.hid (HSB.out.trans ((toW w8 hb8).mono HSB.out.size))
            simp only [List.foldl_cons, List.foldl_nil, List.setIfInBounds_toArray, List.set_cons_zero, List.set_cons_succ]
            clear hb8 toW7 toW WX hbx HWX
            go_wp2_with fail
            go_ret
            exact ⟨rfl, B8.out⟩
open Go.Maps Go.ChangeShapes Go.Joins Go.WideShapes in
set_option maxRecDepth 100000 in
theorem playsCall7 {H : Type} {enc : TypeId × Value → H} (s : ByteArray) (v : Value) (d : DataW H) (p : List MemPlace) (id : Int) (W : World) (hs : s.size ≤ maxLen) {b0 : Nat} (hval : Value.okWide Tryz.prog W .any b0 22 v) {base : Nat} {sp : Nat → Bool} {held : Bool} (h : DataW.Trod enc Tryz.prog W base sp held 22 v d p) (_ : (Lit.int IntKind.i64 id).wf = true) :
    Calls Tryz.prog 3 #[.string s, v, .int .i64 id] W fun e w' => e = .returned (.bool true) ∧ Below W.heap.size W w' := by
  obtain ⟨n, hn⟩ := h
  obtain ⟨ao, len, cap, rfl⟩ := okWide_slice Tryz.underlying22 hval
  obtain ⟨eds, hr⟩ := edits_in (v := .slice ao len cap) hn
  exact playsLaw7 s hs eds _ id W hr
end Go.Proofs.YtiebbgbcojgeoaaGreatDoor
