/- Texts put together: EI, N0, EK, EV, NS, NT, NU, NV, NL, NM, NP, NW, EB. -/
import Derived.OwnWalk
import Derived.Test.YtfjklpgmnakcaaaGreatDoorBae2
import Derived.Test.YtfjklpgmnakcaaaGreatDoorBae8
import Derived.Test.YtfjklpgmnakcaaaGreatDoorBae9
import Derived.Test.YtfjklpgmnakcaaaGreatDoorBae11
import Derived.Test.YtfjklpgmnakcaaaGreatDoorBae13
import Derived.Test.YtfjklpgmnakcaaaGreatDoorBae14
import Derived.Test.YtfjklpgmnakcaaaGreatDoorBae15
import Derived.Test.YtfjklpgmnakcaaaGreatDoorBae18
import Derived.Test.YtfjklpgmnakcaaaGreatDoorBae19
import Derived.Test.YtfjklpgmnakcaaaGreatDoorBae20
set_option linter.unusedVariables false
set_option maxRecDepth 100000
set_option maxHeartbeats 16000000
namespace Go.Proofs.YtfjklpgmnakcaaaGreatDoor
open Go.RowKit Go.Shelf
attribute [local go_sem] Oper.semAt_some
theorem light_small9 {eds : List Ed} (h : Light eds) {ed : Ed} (he : ed ∈ eds) : (foldG ed.fields).length <= 100000 /\ ed.fields.length <= 1000000 := by
  obtain ⟨a, _, b⟩ := h.2 ed he
  rw [foldG_lines]
  have := foldT_len6 ed.fields b
  exact ⟨by omega, by omega⟩
def Smalls (eds : List Ed) : Prop := ∀ ed ∈ eds, (foldG ed.fields).length <= 100000 /\ ed.fields.length <= 1000000
theorem Light.smalls {eds : List Ed} (h : Light eds) : Smalls eds := fun _ he => light_small9 h he
def encI (z : Int) : Value := .int .i64 z
theorem infoInt9 : (Tryz.prog.info? 3).map (fun i => (i.zero, i.size, i.bytes)) = some (some (.int .i64 0), 1, 8) := by kernel_rfl
def PlayR (w0 w w' : World) (l : LS) (m : Nat) (eds : List Ed) (P : Nat -> World -> (Nat -> Prop) -> Prop) (e : Ending) : Prop :=
  Below w0.heap.size w0 w' /\ w.heap.size <= w'.heap.size /\
  (((doB l eds).2 ≠ 0 /\ ∃ u, e = .returned (.tuple #[.pointer none, .slice none 0 0, u]) /\ ErrZ w.heap.size w' u (doB l eds).1 (doB l eds).2) \/
  (doB l eds = (-9, 0) /\ chkB eds = (-9, 0) /\ okOn l eds /\ ∃ lb ev ps gv Z, e = .returned (.tuple #[ptr lb, gv, .nilIface]) /\ Carry w.heap.size w' lb ev ps (lsOn l eds) (m + eds.length) /\ P eds.length w' Z /\
    (∀ r, BlkR lb ev ps (.slice none 0 0) [] r -> ¬ Z r /\ w.heap.size <= r) /\ w'.ownsRow w.heap.size 3 1 gv (idsOn l eds).length ((idsOn l eds).map encI)))
theorem play_any {S00 : Nat} {w0 w : World} (hB0 : Below w0.heap.size w0 w) (eds : List Ed) (v : Value) (hv : EdV w0 v eds) (hl : eds.length <= 51) (hf : Fines eds) (hsm : Smalls eds) (hg : ErrT w0)
    {lb0 : Nat} {ev0 : Value} {ps0 : List Pr} {l : LS} {m : Nat} (C : Carry S00 w lb0 ev0 ps0 l m) (hm : m <= 5000) {g : Nat} {cb : Array Value} {P : Nat -> World -> (Nat -> Prop) -> Prop} (SH : Shows g cb w0 w.heap.size l eds P) {Z0 : Nat -> Prop} (hP : P 0 w Z0) :
    Calls Tryz.prog 21 #[ptr lb0, v, .func (.func g) #[] cb] w fun e w' => PlayR w0 w w' l m eds P e := by
  obtain ⟨i0, hi, hz0, hz1, hz2⟩ := info_parts infoInt9
  have HB0 := Lib.hid hB0
  have CK := Lib.hid (checkB_any eds v w (hv.below hB0 (Nat.le_refl _)) (by omega) hf (hg.below hB0 (Nat.le_refl _)))
  obtain ⟨A, cap, rfl, hle, hc⟩ := _root_.id hv
  have PC := Lib.hid hc
  have HF := Lib.hid hf
  have HS := Lib.hid hsm
  have HG := Lib.hid hg
  have HV := Lib.hid hv
  have HC := Lib.hid C
  have HSH := Lib.hid SH
  have HP := Lib.hid hP
  have heg := SH.eg
  have hZ0 := Lib.hid (SH.lt 0 w Z0 hP)
  clear hc hf hsm hg hv C hP SH hB0
  unfold ptr
  go_enter Tryz.func21, Tryz.ntmps21
  go_wp2_with fail
  refine CK.out.mono ?_
  rintro e w1 ⟨u, rfl, b1, hz⟩
  have B1 := Lib.hid b1
  by_cases hb0 : (chkB eds).2 = 0
  rotate_left
  . have hdo : doB l eds = chkB eds := by unfold doB; rw [if_neg hb0]
    have FIN : Hid (PlayR w0 w w1 l m eds P (.returned (.tuple #[.pointer none, .slice none 0 0, u]))) := by
      show PlayR _ _ _ _ _ _ _ _
      refine ⟨HB0.out.trans (b1.mono HB0.out.size), b1.size, .inl ⟨by rw [hdo]; exact hb0, u, rfl, by rw [hdo]; exact hz⟩⟩
    have hform : (∃ z, u = .iface 57 (.int .i64 z)) \/ ∃ q, u = .iface 73 (.pointer (some ⟨q, 0, none⟩)) := by
      obtain ⟨_, ⟨rfl, _⟩ | ⟨_, ⟨q, _, rfl, _⟩, _, _⟩⟩ := hz
      . rw [errV_pos _ (by omega)]; exact .inl ⟨_, rfl⟩
      exact .inr ⟨q, rfl⟩
    clear hz b1 CK
    rcases hform with ⟨z, rfl⟩ | ⟨q, rfl⟩
    all_goals
      go_wp2_with fail
      go_ret3
      exact FIN.out
  have hcz := chkB_zero hb0
  rw [hcz] at hz
  have hdo : doB l eds = doOn 0 l eds := by unfold doB; rw [hcz]; rfl
  obtain ⟨⟨c1, c40⟩, hgood⟩ := chkB_good hb0
  have GOOD := Lib.hid hgood
  have HCZ := Lib.hid hcz
  have HDO := Lib.hid hdo
  obtain ⟨_, ⟨rfl, _⟩ | ⟨_, _, _, hx⟩⟩ := hz
  rotate_left
  . exact absurd rfl hx
  have C1 := HC.out.below b1 (Nat.le_refl _)
  have CP := Lib.hid (copy_list lb0 ev0 ps0 l.next w1 C1.la (C1.ents (by omega)))
  have hes : Hid (ps0.map Prod.fst = l.es) := C1.es
  unfold ptr at CP
  clear C1 hgood hcz hdo hb0 CK b1
  rw [show errV 0 = .nilIface from rfl]
  go_wp2_with fail
  refine CP.out.mono ?_
  rintro e w2 ⟨lb, ev1, ps1, rfl, hla, hpe, b2, hlb, hev, hfb⟩
  have hz12 := B1.out.size
  have C2 : Carry w.heap.size w2 lb ev1 ps1 l m := by
    have c := HC.out
    exact ⟨hla, hpe.trans hes.out, c.ok, c.sz, by omega, (fun b e => by have := hev b e; omega), c.len, c.nx⟩
  have B2 : Below w.heap.size w w2 := B1.out.trans (b2.mono hz12)
  have P2 : P 0 w2 Z0 := HSH.out.keep 0 w w2 Z0 (fun _ => False) HP.out (Only.of_below B2 (Nat.le_refl _)) (fun _ _ e => e)
  have K2 : ∀ r, BlkR lb ev1 ps1 (.slice none 0 0) [] r -> ¬ Z0 r /\ w.heap.size <= r := by
    intro r hr
    have hge : w.heap.size <= r := by
      rcases hr with q | q | q | ⟨p, hp, _, q⟩ | ⟨p, hp, _⟩
      . omega
      . have := hev r q; omega
      . cases q
      . have := hfb p hp r q; omega
      cases hp
    exact ⟨fun hz => by have := (hZ0.out r hz).2; omega, hge⟩
  have B02 : Below w0.heap.size w0 w2 := HB0.out.trans (B2.mono HB0.out.size)
  have HC2 := Lib.hid C2
  have HP2 := Lib.hid P2
  have HK2 := Lib.hid K2
  have HB02 := Lib.hid B02
  have hw2 := B2.size
  have HLB := Lib.hid hlb
  clear C2 P2 K2 B02 B2 hla hpe hev hfb b2 CP hlb hes HC HP hZ0
  go_wp2_with fail
  go_loopw [11, 25] (fun gx i wr => ∃ (k : Nat) (ev : Value) (ps : List Pr) (Z : Nat -> Prop) (gv : Value), gv = gx /\ k <= eds.length /\ i = .int .i64 k /\ okOn l (eds.take k) /\ Carry w.heap.size wr lb ev ps (lsOn l (eds.take k)) (m + k) /\ P k wr Z /\
    (∀ r, BlkR lb ev ps (.slice none 0 0) [] r -> ¬ Z r /\ w.heap.size <= r) /\ wr.ownsRow w.heap.size 3 1 gv (idsOn l (eds.take k)).length ((idsOn l (eds.take k)).map encI) /\ (∀ r, gv.ownBlock = some r -> ¬ Z r /\ ¬ BlkR lb ev ps (.slice none 0 0) [] r) /\ Below w0.heap.size w0 wr /\ w.heap.size <= wr.heap.size) (fun _ i _ => eds.length - (intOf i).toNat)
  case atStart =>
    refine ⟨0, ev1, ps1, Z0, .slice none 0 0, rfl, Nat.zero_le _, rfl, trivial, ?_, HP2.out, HK2.out, ⟨rfl, .inl ⟨rfl, rfl⟩⟩, (fun r e => by cases e), HB02.out, hw2⟩
    exact HC2.out
  case round =>
  obtain ⟨k, ev, ps, Z, gv, rfl, hk, rfl, hok, hC, hPk, hK, hown, hgb, hB, hwr⟩ := hrel
  by_cases hlt : k < eds.length
  . obtain ⟨ed, hed⟩ : ∃ ed, eds[k]? = some ed := ⟨_, List.getElem?_eq_getElem hlt⟩
    obtain ⟨b, off, fv, rfl, hbb, c0, c1, c2, hfl⟩ := PC.out k ed hed
    obtain ⟨fa, fc, rfl⟩ := hfl.form
    have hmem := List.mem_of_getElem? hed
    replace c0 := (hB.cell (p := ⟨b, off + k * 3, none⟩) hbb).trans c0
    replace c1 := (hB.cell (p := ⟨b, off + k * 3 + 1, none⟩) hbb).trans c1
    replace c2 := (hB.cell (p := ⟨b, off + k * 3 + 1 + 1, none⟩) hbb).trans c2
    obtain ⟨wa, hwa⟩ : ∃ wa, wa = wr.alloc (.cells #[.int .i64 ed.kind, .int .i64 ed.id, .slice fa ed.fields.length fc] 53) := ⟨_, rfl⟩
    have hba : Below wr.heap.size wr wa := by rw [hwa]; exact (Below.refl _ wr).alloc (Nat.le_refl _) _
    have hza : wa.heap.size = wr.heap.size + 1 := by rw [hwa]; simp
    have hEd : Cells wa wr.heap.size 53 #[.int .i64 ed.kind, .int .i64 ed.id, .slice fa ed.fields.length fc] := by rw [hwa]; exact Cells.new _ _ _
    have hCa := hC.below hba (Nat.le_refl _)
    have hPa : P k wa Z := HSH.out.keep k wr wa Z (fun _ => False) hPk (Only.of_below hba (Nat.le_refl _)) (fun _ _ e => e)
    have hBa : Below w0.heap.size w0 wa := hB.trans (hba.mono hB.size)
    have hZlt := HSH.out.lt k wr Z hPk
    have hlt9 : ∀ r, BlkR lb ev ps (.slice none 0 0) [] r -> r < wr.heap.size := fun r hr => hC.str.lt hr
    have ASK := HSH.out.ask k ed (.slice fa ed.fields.length fc) wa Z lb ev ps (m + k) hed (GOOD.out ed hmem) hPa hBa hCa (by omega) (fun r hr => (hK r hr).1) (hfl.below hBa (Nat.le_refl _)) ⟨fa, fc, rfl⟩
    have owna : wa.ownsRow w.heap.size 3 1 gv (idsOn l (eds.take k)).length ((idsOn l (eds.take k)).map encI) := row_below hown hba (Nat.le_refl _)
    obtain ⟨ga, gc, rfl⟩ : ∃ A c, gv = .slice A (idsOn l (eds.take k)).length c := by
      rcases hown.2 with ⟨rfl, hn⟩ | ⟨g', cap', cur', rfl, _⟩
      . exact ⟨none, 0, by rw [hn]⟩
      exact ⟨_, _, rfl⟩
    have GK := Lib.hid (GOOD.out ed hmem)
    have DONE : Hid (∀ (W1 : World) (Z' : Nat -> Prop), P (k + 1) W1 Z' -> Only Z wa W1 -> (∀ r, Z' r -> Z r \/ wa.heap.size <= r) ->
        Carry w.heap.size W1 lb ev ps (lsOn l (eds.take k)) (m + k) /\ FldR W1 (.slice fa ed.fields.length fc) ed.fields /\ Cells W1 wr.heap.size 53 #[.int .i64 ed.kind, .int .i64 ed.id, .slice fa ed.fields.length fc] /\ Below w0.heap.size w0 W1 /\ W1.ownsRow w.heap.size 3 1 (.slice ga (idsOn l (eds.take k)).length gc) (idsOn l (eds.take k)).length ((idsOn l (eds.take k)).map encI) /\ (∀ r, Z' r -> ¬ (r = lb \/ ev.ownBlock = some r)) /\ wr.heap.size < W1.heap.size) := by
      intro W1 Z' hP1 ho hz'
      have hB1 : Below w0.heap.size w0 W1 := hBa.trans (ho.to_below hBa.size (fun r hr e => by have := (hZlt r e).1; omega))
      refine ⟨hCa.only ho (fun r hr => (hK r hr).1), hfl.below hB1 (Nat.le_refl _), hEd.only ho (fun e => by have := (hZlt _ e).2; omega), hB1, row_only owna ho (fun r e => (hgb r e).1), ?_, by have := ho.size; omega⟩
      intro r hr hs
      have hbl : BlkR lb ev ps (.slice none 0 0) [] r := by
        rcases hs with q | q
        . exact .inl q
        exact .inr (.inl q)
      rcases hz' r hr with q | q
      . exact (hK r hbl).1 q
      have := hlt9 r hbl; omega
    have EDIT : Hid (∀ (W1 W2 : World) (Z' : Nat -> Prop) (u ev' : Value) (ps' : List Pr), P (k + 1) W1 Z' -> Only Z wa W1 -> (∀ r, Z' r -> Z r \/ wa.heap.size <= r) -> WrR W1 lb ev ps (stepE (lsOn l (eds.take k)) ed) u W2 ev' ps' ->
        Carry w.heap.size W2 lb ev' ps' (lsOn l (eds.take (k + 1))) (m + (k + 1)) /\ P (k + 1) W2 Z' /\ (∀ r, BlkR lb ev' ps' (.slice none 0 0) [] r -> ¬ Z' r /\ w.heap.size <= r) /\ W2.ownsRow w.heap.size 3 1 (.slice ga (idsOn l (eds.take k)).length gc) (idsOn l (eds.take k)).length ((idsOn l (eds.take k)).map encI) /\
        (∀ r, (Value.slice ga (idsOn l (eds.take k)).length gc).ownBlock = some r -> ¬ Z' r /\ ¬ BlkR lb ev' ps' (.slice none 0 0) [] r) /\ Below w0.heap.size w0 W2 /\ Cells W2 wr.heap.size 53 #[.int .i64 ed.kind, .int .i64 ed.id, .slice fa ed.fields.length fc] /\ wr.heap.size < W2.heap.size) := by
      intro W1 W2 Z' u ev' ps' hP1 ho hz' hR
      obtain ⟨d1, _, d3, d4, d5, d6, d7⟩ := DONE.out W1 Z' hP1 ho hz'
      have hZ'lt := HSH.out.lt (k + 1) W1 Z' hP1
      have hgl : ∀ r, (Value.slice ga (idsOn l (eds.take k)).length gc).ownBlock = some r -> r < wr.heap.size := fun r e => (hown.lt r e).2
      refine ⟨?_, HSH.out.keep (k + 1) W1 W2 Z' _ hP1 hR.only d6, ?_, row_only d5 hR.only ?_, ?_, ?_, ?_, ?_⟩
      . have q := d1.blkEd (HS.out ed hmem).1 (HS.out ed hmem).2 (by omega) hR
        rw [lsOn_snoc hed]; exact q
      . intro r hr
        rcases hR.blks hr with q | q
        . refine ⟨fun e => ?_, (hK r q).2⟩
          rcases hz' r e with e | e
          . exact (hK r q).1 e
          have := hlt9 r q; omega
        refine ⟨fun e => by have := (hZ'lt r e).2; omega, by omega⟩
      . intro r e hs
        refine (hgb r e).2 ?_
        rcases hs with q | q
        . exact .inl q
        exact .inr (.inl q)
      . intro r e
        have h1 := hgl r e
        refine ⟨fun z => ?_, fun hr => ?_⟩
        . rcases hz' r z with q | q
          . exact (hgb r e).1 q
          omega
        rcases hR.blks hr with q | q
        . exact (hgb r e).2 q
        omega
      . refine d4.trans (hR.only.to_below d4.size (fun r hr e => ?_))
        have hbl : BlkR lb ev ps (.slice none 0 0) [] r := by
          rcases e with q | q
          . exact .inl q
          exact .inr (.inl q)
        have h1 := (hK r hbl).2
        have h2 := HB0.out.size
        omega
      . refine d3.only hR.only (fun e => ?_)
        have hbl : BlkR lb ev ps (.slice none 0 0) [] wr.heap.size := by
          rcases e with q | q
          . exact .inl q
          exact .inr (.inl q)
        have := hlt9 _ hbl
        omega
      have := hR.only.size; omega
    have OKS : Hid ((stepE (lsOn l (eds.take k)) ed).bad = 0 -> okOn l (eds.take (k + 1))) := fun h => okOn_snoc hed hok h
    have AT : Hid ((stepE (lsOn l (eds.take k)) ed).bad ≠ 0 -> doB l eds = (((k : Nat) : Int), (stepE (lsOn l (eds.take k)) ed).bad)) := fun h => by rw [HDO.out]; exact doOn_at hed hok h
    have IDS : Hid (idsOn l (eds.take (k + 1)) = idsOn l (eds.take k) ++ (if ed.kind = 3 then [(stepE (lsOn l (eds.take k)) ed).id] else [])) := idsOn_snoc hed
    have hidl : (idsOn l (eds.take k)).length <= 51 := by
      have h1 := idsOn_len l (eds.take k)
      rw [List.length_take] at h1
      omega
    have h11 := step_le (lsOn l (eds.take k)) ed
    have F7 := Lib.hid (HF.out ed hmem)
    have HASK := Lib.hid ASK
    clear hed hok hC hPk hK hown hgb hB hba hEd hCa hPa hBa hZlt hlt9 ASK owna hfl hmem
    generalize hst : stepE (lsOn l (eds.take k)) ed = st at *
    have HST := Lib.hid hst
    clear hst
    generalize hids : idsOn l (eds.take k) = ids at *
    clear hids
    unfold ptr at HASK
    subst hwa
    go_wp2_with fail
    refine HASK.out.mono ?_
    rintro e W1 ⟨rfl, Z', hP1, ho1, hz1'⟩
    obtain ⟨d1, d2, d3, d4, d5, d6, d7⟩ := DONE.out W1 Z' hP1 ho1 hz1'
    have DO := do9_any d1 (by omega) ed (.slice fa ed.fields.length fc) d2 F7.out
    rw [HST.out] at DO
    have DO := Lib.hid DO
    have e0 : W1.cell? ⟨wr.heap.size, 0, none⟩ = some (.int .i64 ed.kind) := by rw [d3.cell 0]; rfl
    have e1 : W1.cell? ⟨wr.heap.size, 1, none⟩ = some (.int .i64 ed.id) := by rw [d3.cell 1]; rfl
    have e2 : W1.cell? ⟨wr.heap.size, 2, none⟩ = some (.slice fa ed.fields.length fc) := by rw [d3.cell 2]; rfl
    have HP1 := Lib.hid hP1
    have HO1 := Lib.hid ho1
    have HZ1 := Lib.hid hz1'
    have HD4 := Lib.hid d4
    clear d1 d2 d3 d4 d5 d6 hP1 ho1 hz1' HASK DONE
    unfold ptr at DO
    go_wp2_with fail
    refine DO.out.mono ?_
    rintro e W2 ⟨u, ev', ps', rfl, hR⟩
    obtain ⟨f1, f2, f3, f4, f5, f6, f7, f8⟩ := EDIT.out W1 W2 Z' u ev' ps' HP1.out HO1.out HZ1.out hR
    have herr := hR.err
    clear hR EDIT DO e0 e1 e2
    by_cases hb0 : st.bad = 0
    . obtain ⟨_, ⟨rfl, _⟩ | ⟨_, _, _, hx⟩⟩ := herr
      rotate_left
      . exact absurd hb0 hx
      rw [show errV st.bad = .nilIface by rw [hb0]; rfl]
      have OK1 := Lib.hid (OKS.out hb0)
      have g0 : W2.cell? ⟨wr.heap.size, 0, none⟩ = some (.int .i64 ed.kind) := by rw [f7.cell 0]; rfl
      by_cases h3 : ed.kind = 3
      . have IDS1 := IDS.out
        rw [if_pos h3] at IDS1
        have IDS1 := Lib.hid IDS1
        have HV9 : Hid (∀ (j : Nat) (u : Value), [encI st.id][j]? = some u -> (W2.alloc (.cells #[.int .i64 st.id] 3)).cell? ((⟨W2.heap.size, 0, none⟩ : Addr).add j) = some u) := fun j u h => by
          have ea : (⟨W2.heap.size, 0, none⟩ : Addr).add j = ⟨W2.heap.size, j, none⟩ := by unfold Addr.add; split <;> simp_all
          rw [ea, (Cells.new W2 3 #[.int .i64 st.id]).cell j]
          simpa [encI] using h
        have HF1 := Lib.hid f1
        have HF2 := Lib.hid f2
        have HF3 := Lib.hid f3
        have HF4 := Lib.hid f4
        have HF5 := Lib.hid f5
        have HF6 := Lib.hid f6
        clear f1 f2 f3 f4 f5 f6 f7 IDS AT OKS
        rw [h3] at g0
        go_wp2_with (at_builtin; refine wpList_append_at rfl _ _ 35 rfl w.heap.size 3 i0 _ 1 8 Tryz.underlying35 hi hz0 hz1 hz2 rfl (by decide) _ _ _ rfl (HF4.out.alloc _) ⟨W2.heap.size, 0, none⟩ 1 1 _ rfl rfl HV9.out (by intro u hu; simp at hu; subst hu; rfl) (by unfold maxLen; omega) (by omega) (by simp only [World.size_alloc]; omega) ?_)
        intro gv' W4 own4 grow4 at4
        have at4' := at4.out
        have o4 : Only (fun r => (Value.slice ga ids.length gc).ownBlock = some r) W2 W4 :=
          (Only.of_below (S := fun r => (Value.slice ga ids.length gc).ownBlock = some r) ((Below.refl _ W2).alloc (Nat.le_refl _) (.cells #[.int .i64 st.id] 3)) (Nat.le_refl _)).grown grow4 (fun r e => .inl e)
        have hgl : ∀ r, (Value.slice ga ids.length gc).ownBlock = some r -> w.heap.size <= r /\ r < W2.heap.size := fun r e => HF4.out.lt r e
        have hblt : ∀ r, BlkR lb ev' ps' (.slice none 0 0) [] r -> r < W2.heap.size := fun r hr => HF1.out.str.lt hr
        have hZlt := HSH.out.lt (k + 1) W2 Z' HF2.out
        have R1 : Carry w.heap.size W4 lb ev' ps' (lsOn l (eds.take (k + 1))) (m + (k + 1)) := HF1.out.only o4 (fun r hr e => (HF5.out r e).2 hr)
        have R2 : P (k + 1) W4 Z' := HSH.out.keep (k + 1) W2 W4 Z' _ HF2.out o4 (fun r hr e => (HF5.out r e).1 hr)
        have R4 : W4.ownsRow w.heap.size 3 1 gv' (idsOn l (eds.take (k + 1))).length ((idsOn l (eds.take (k + 1))).map encI) := by
          rw [IDS1.out, List.length_append, List.map_append]; exact own4
        have R5 : ∀ r, gv'.ownBlock = some r -> ¬ Z' r /\ ¬ BlkR lb ev' ps' (.slice none 0 0) [] r := by
          intro r e
          rcases at4' with q | q
          . exact HF5.out r (by rw [<- q]; exact e)
          rw [q] at e
          have e' : W2.heap.size + 1 = r := by simpa using e
          exact ⟨fun z => by have := (hZlt r z).2; omega, fun z => by have := hblt r z; omega⟩
        have R6 : Below w0.heap.size w0 W4 := HF6.out.trans (o4.to_below HF6.out.size (fun r hr e => by have := (hgl r e).1; have := HB0.out.size; omega))
        have hsz := o4.size
        have H1 := Lib.hid R1
        have H2 := Lib.hid R2
        have H4 := Lib.hid R4
        have H5 := Lib.hid R5
        have H6 := Lib.hid R6
        clear R1 R2 R4 R5 R6 o4 hgl hblt hZlt own4 grow4 at4 at4' HV9 HF1 HF2 HF4 HF5 HF6
        go_wp2_with fail
        go_roundw
        case rel => exact ⟨k + 1, ev', ps', Z', _, rfl, hlt, by go_num, OK1.out, H1.out, H2.out, HF3.out, H4.out, H5.out, H6.out, by omega⟩
        case measure => simp [intOf]; omega
      have IDS1 := IDS.out
      rw [if_neg h3, List.append_nil] at IDS1
      have q3 : (ed.kind == 3) = false := by simpa using h3
      have R4 : W2.ownsRow w.heap.size 3 1 (.slice ga ids.length gc) (idsOn l (eds.take (k + 1))).length ((idsOn l (eds.take (k + 1))).map encI) := by rw [IDS1]; exact f4
      have H1 := Lib.hid f1
      have H2 := Lib.hid f2
      have H3 := Lib.hid f3
      have H4 := Lib.hid R4
      have H5 := Lib.hid f5
      have H6 := Lib.hid f6
      clear f1 f2 f3 f4 f5 f6 f7 IDS AT OKS R4 IDS1
      go_wp2_with fail
      go_roundw
      case rel => exact ⟨k + 1, ev', ps', Z', _, rfl, hlt, by go_num, OK1.out, H1.out, H2.out, H3.out, H4.out, H5.out, H6.out, by omega⟩
      case measure => simp [intOf]; omega
    have FA := Lib.hid (fault_any k st.bad st.at_ u W2 herr hb0 (HG.out.below f6 (Nat.le_refl _)))
    have AT1 := AT.out hb0
    have hform : (∃ z, u = .iface 57 (.int .i64 z)) \/ ∃ q, u = .iface 73 (.pointer (some ⟨q, 0, none⟩)) := by
      obtain ⟨_, ⟨rfl, _⟩ | ⟨_, ⟨q, _, rfl, _⟩, _, _⟩⟩ := herr
      . rw [errV_pos st.bad (by omega)]; exact .inl ⟨_, rfl⟩
      exact .inr ⟨q, rfl⟩
    have FIN : Hid (∀ W3 u', Below W2.heap.size W2 W3 -> FaultAt W2.heap.size W3 u' k st.bad -> PlayR w0 w W3 l m eds P (.returned (.tuple #[.pointer none, .slice none 0 0, u']))) := by
      intro W3 u' b3 hfa
      refine ⟨f6.trans (b3.mono f6.size), by have := b3.size; omega, .inl ⟨by rw [AT1]; exact hb0, u', rfl, ?_⟩⟩
      rw [AT1]
      exact ErrZ.fault (hfa.mono (by omega)) hb0 h11
    clear herr f1 f2 f3 f4 f5 f6 f7 IDS AT OKS
    rcases hform with ⟨z, rfl⟩ | ⟨q, rfl⟩
    all_goals
      go_wp2_with fail
      refine FA.out.mono ?_
      rintro e w3 ⟨u', rfl, b3, hfa⟩
      have FIN3 := Lib.hid (FIN.out w3 u' b3 hfa)
      clear hfa b3
      go_wp2_with fail
      go_ret3
      exact FIN3.out
  obtain rfl : k = eds.length := by omega
  rw [List.take_length] at hok hC hown
  have FIN : Hid (PlayR w0 w wr l m eds P (.returned (.tuple #[ptr lb, gv, .nilIface]))) := by
    show PlayR _ _ _ _ _ _ _ _
    exact ⟨hB, hwr, .inr ⟨by rw [HDO.out]; exact doOn_ok 0 l eds hok, HCZ.out, hok, lb, ev, ps, gv, Z, rfl, hC, hPk, hK, hown⟩⟩
  obtain ⟨ga, gc, rfl⟩ : ∃ A c, gv = .slice A (idsOn l eds).length c := by
    rcases hown.2 with ⟨rfl, hn⟩ | ⟨g', cap', cur', rfl, _⟩
    . exact ⟨none, 0, by rw [hn]⟩
    exact ⟨_, _, rfl⟩
  clear PC hok hC hown hK hgb hPk
  unfold ptr at FIN
  go_wp2_with fail
  go_ret3
  exact FIN.out
end Go.Proofs.YtfjklpgmnakcaaaGreatDoor
namespace Go.Proofs.YtfjklpgmnakcaaaGreatDoor
open Go.RowKit Go.Shelf
attribute [local go_sem] Oper.semAt_some
end Go.Proofs.YtfjklpgmnakcaaaGreatDoor
namespace Go.Proofs.YtfjklpgmnakcaaaGreatDoor
open Go.RowKit Go.Shelf
attribute [local go_sem] Oper.semAt_some
def NoShow (_ : Nat) (_ : World) (Z : Nat -> Prop) : Prop := ∀ r, ¬ Z r
theorem shows_none (w0 : World) (N1 : Nat) (l0 : LS) (eds : List Ed) : Shows 32 #[] w0 N1 l0 eds NoShow := by
  refine ⟨enters_of Tryz.func32 (by kernel_rfl) rfl, fun j W Z h r hr => absurd hr (h r), fun j W W' Z S h _ _ => h, ?_⟩
  intro j ed fv W Z lb ev ps m hed _ hP hB hC hm hZ hfl hform
  obtain ⟨fa, fc, rfl⟩ := hform
  have hb : Below W.heap.size W (W.alloc (.cells #[.int .i64 ed.kind, .int .i64 ed.id, .slice fa ed.fields.length fc] 53)) := (Below.refl _ W).alloc (Nat.le_refl _) _
  have H : Hid (∃ Z', NoShow (j + 1) (W.alloc (.cells #[.int .i64 ed.kind, .int .i64 ed.id, .slice fa ed.fields.length fc] 53)) Z' /\ Only Z W (W.alloc (.cells #[.int .i64 ed.kind, .int .i64 ed.id, .slice fa ed.fields.length fc] 53)) /\ ∀ r, Z' r -> Z r \/ W.heap.size <= r) :=
    ⟨Z, hP, Only.of_below hb (Nat.le_refl _), fun r hr => .inl hr⟩
  clear hed hP hB hC hZ hfl hb
  unfold ptr
  show Calls _ _ #[.pointer (some ⟨lb, 0, none⟩), .agg #[.int .i64 ed.kind, .int .i64 ed.id, .slice fa ed.fields.length fc]] _ _
  go_enter Tryz.func32, Tryz.ntmps32
  go_wp2_with fail
  go_end0
  exact ⟨rfl, H.out⟩
def DoR (w w' : World) (l : LS) (m : Nat) (eds : List Ed) (e : Ending) : Prop :=
  Below w.heap.size w w' /\
  (((doB l eds).2 ≠ 0 /\ ∃ u, e = .returned (.tuple #[.pointer none, .slice none 0 0, u]) /\ ErrZ w.heap.size w' u (doB l eds).1 (doB l eds).2) \/
  (doB l eds = (-9, 0) /\ chkB eds = (-9, 0) /\ okOn l eds /\ ∃ lb ev ps gv, e = .returned (.tuple #[ptr lb, gv, .nilIface]) /\ Carry w.heap.size w' lb ev ps (lsOn l eds) (m + eds.length) /\
    (∀ r, BlkR lb ev ps (.slice none 0 0) [] r -> w.heap.size <= r) /\ w'.ownsRow w.heap.size 3 1 gv (idsOn l eds).length ((idsOn l eds).map encI)))
theorem Do_any {S00 : Nat} {w : World} (eds : List Ed) (v : Value) (hv : EdV w v eds) (hl : eds.length <= 51) (hf : Fines eds) (hsm : Smalls eds) (hg : ErrT w)
    {lb0 : Nat} {ev0 : Value} {ps0 : List Pr} {l : LS} {m : Nat} (C : Carry S00 w lb0 ev0 ps0 l m) (hm : m <= 5000) :
    Calls Tryz.prog 13 #[ptr lb0, v] w fun e w' => DoR w w' l m eds e := by
  have PL := Lib.hid (play_any (Below.refl _ w) eds v hv hl hf hsm hg C hm (shows_none w w.heap.size l eds) (Z0 := fun _ => False) (fun _ h => h))
  obtain ⟨A, cap, rfl, _⟩ := hv
  unfold ptr at *
  clear hf hsm hg C
  go_enter Tryz.func13, Tryz.ntmps13
  go_wp2_with fail
  refine PL.out.mono ?_
  rintro e w1 ⟨b1, _, ⟨h0, u, rfl, hz⟩ | ⟨h1, h2, h3, lb, ev, ps, gv, Z, rfl, hC, _, hK, hown⟩⟩
  . have R : Hid (DoR w w1 l m eds (.returned (.tuple #[.pointer none, .slice none 0 0, u]))) := ⟨b1, .inl ⟨h0, u, rfl, hz⟩⟩
    clear hz b1 PL
    go_wp2_with fail
    go_ret3
    exact R.out
  have R : Hid (DoR w w1 l m eds (.returned (.tuple #[.pointer (some ⟨lb, 0, none⟩), gv, .nilIface]))) := ⟨b1, .inr ⟨h1, h2, h3, lb, ev, ps, gv, rfl, hC, (fun r hr => (hK r hr).2), hown⟩⟩
  clear hC hK hown b1 PL
  unfold ptr
  go_wp2_with fail
  go_ret3
  exact R.out
end Go.Proofs.YtfjklpgmnakcaaaGreatDoor
namespace Go.Proofs.YtfjklpgmnakcaaaGreatDoor
open Go.RowKit Go.Shelf
attribute [local go_sem] Oper.semAt_some
def edRow : List Ed -> List Value -> List Value
  | ed :: r, fv :: q => .int .i64 ed.kind :: .int .i64 ed.id :: fv :: edRow r q
  | _, _ => []
theorem edRow_snoc : ∀ (l : List Ed) (vs : List Value) (ed : Ed) (v : Value), vs.length = l.length -> edRow (l ++ [ed]) (vs ++ [v]) = edRow l vs ++ [.int .i64 ed.kind, .int .i64 ed.id, v]
  | [], [], ed, v, _ => rfl
  | a :: l, b :: vs, ed, v, h => by
    show _ :: _ :: _ :: edRow (l ++ [ed]) (vs ++ [v]) = _
    rw [edRow_snoc l vs ed v (by simpa using h)]; rfl
  | [], _ :: _, _, _, h => by simp at h
  | _ :: _, [], _, _, h => by simp at h
theorem edRow_at : ∀ (l : List Ed) (vs : List Value) (i : Nat) (ed : Ed) (v : Value), l[i]? = some ed -> vs[i]? = some v -> (edRow l vs)[i * 3]? = some (.int .i64 ed.kind) /\ (edRow l vs)[i * 3 + 1]? = some (.int .i64 ed.id) /\ (edRow l vs)[i * 3 + 1 + 1]? = some v
  | [], _, i, _, _, h, _ => by simp at h
  | _ :: _, [], i, _, _, _, h => by simp at h
  | a :: l, b :: vs, 0, ed, v, h1, h2 => by simp at h1 h2; subst h1 h2; exact ⟨rfl, rfl, rfl⟩
  | a :: l, b :: vs, i + 1, ed, v, h1, h2 => by
    obtain ⟨x, y, z⟩ := edRow_at l vs i ed v (by simpa using h1) (by simpa using h2)
    rw [show (i + 1) * 3 = i * 3 + 3 by omega]
    exact ⟨x, y, z⟩
end Go.Proofs.YtfjklpgmnakcaaaGreatDoor
namespace Go.Proofs.YtfjklpgmnakcaaaGreatDoor
open Go.RowKit Go.Shelf
attribute [local go_sem] Oper.semAt_some
def Szs (w : World) (v : Value) (rs : List Stz) : Prop :=
  ∃ A cap, v = .slice A rs.length cap /\ rs.length <= cap /\ ∀ (i : Nat) (s : Stz), rs[i]? = some s -> ∃ b off fv, A = some ⟨b, off, none⟩ /\ b < w.heap.size /\ w.cell? ⟨b, off + i * 2, none⟩ = some (.int .i64 s.1) /\ w.cell? ⟨b, off + i * 2 + 1, none⟩ = some fv /\ Flds w fv s.2
theorem Szs.below {w w' : World} {v : Value} {rs : List Stz} {n : Nat} (h : Szs w v rs) (hb : Below n w w') (hn : w.heap.size <= n) : Szs w' v rs := by
  obtain ⟨A, cap, hv, hle, hc⟩ := h
  refine ⟨A, cap, hv, hle, fun i s hi => ?_⟩
  obtain ⟨b, off, fv, hA, hlt, c0, c1, hf⟩ := hc i s hi
  have hlt' := Nat.lt_of_lt_of_le hlt hn
  exact ⟨b, off, fv, hA, Nat.lt_of_lt_of_le hlt hb.size, (hb.cell (p := ⟨b, off + i * 2, none⟩) hlt').trans c0, (hb.cell (p := ⟨b, off + i * 2 + 1, none⟩) hlt').trans c1, hf.below hb hn⟩
theorem szs_of_own {w : World} {base : Nat} {v : Value} {rs : List Stz} {fvs : List Value} (h : w.ownsRow base 48 2 v rs.length (stzCells rs fvs)) (hl : fvs.length = rs.length) (he : ∀ (j : Nat) s x, rs[j]? = some s -> fvs[j]? = some x -> Flds w x s.2) : Szs w v rs := by
  rcases Joins.ownsRow_forms h with ⟨rfl, hn⟩ | ⟨g, cap, rfl⟩
  . have : rs = [] := List.length_eq_zero_iff.1 hn
    subst this
    exact ⟨none, 0, rfl, Nat.le_refl _, fun i s h => by simp at h⟩
  refine ⟨_, cap, rfl, (by rcases h.2 with ⟨q, _⟩ | ⟨g', cap', cur, q, _, _, q2, _⟩; · cases q
                           cases q; exact q2), fun i s hi => ?_⟩
  have hlt : i < rs.length := (List.getElem?_eq_some_iff.1 hi).1
  obtain ⟨x, hx⟩ : ∃ x, fvs[i]? = some x := ⟨_, List.getElem?_eq_getElem (by omega)⟩
  obtain ⟨a0, a1⟩ := stzCells_at rs fvs i s x hi hx
  exact ⟨g, 0, x, rfl, (World.ownsRow.lt h g rfl).2, by rw [Nat.zero_add, World.ownsRow.cellAt h (i * 2) (by omega)]; exact a0, by rw [Nat.zero_add, World.ownsRow.cellAt h (i * 2 + 1) (by omega)]; exact a1, he i s x hi hx⟩
theorem AccZ.szs {lo : Nat} {w wr : World} {v : Value} {fvs : List Value} {rs : List Stz} (h : AccZ lo w wr v fvs rs) : Szs wr v rs :=
  szs_of_own h.row h.len fun j s x h1 h2 => flds_of_own (h.each j s x h1 h2)
end Go.Proofs.YtfjklpgmnakcaaaGreatDoor
namespace Go.Proofs.YtfjklpgmnakcaaaGreatDoor
open Go.RowKit Go.Shelf
attribute [local go_sem] Oper.semAt_some
structure AccY (w wr : World) (v : Value) (fvs : List Value) (rs : List Stz) : Prop where
  row : wr.ownsRow w.heap.size 48 2 v rs.length (stzCells rs fvs)
  len : fvs.length = rs.length
  each : ∀ (j : Nat) s x, rs[j]? = some s -> fvs[j]? = some x -> Flds w x s.2
  below : Below w.heap.size w wr
theorem AccY.szs {w wr : World} {v : Value} {fvs : List Value} {rs : List Stz} (h : AccY w wr v fvs rs) : Szs wr v rs :=
  szs_of_own h.row h.len fun j s x h1 h2 => (h.each j s x h1 h2).below h.below (Nat.le_refl _)
theorem AccY.kept {w wr w2 : World} {v : Value} {fvs : List Value} {rs : List Stz} (h : AccY w wr v fvs rs) (hb : Below wr.heap.size wr w2) : AccY w w2 v fvs rs :=
  ⟨own_kept h.row hb (Nat.le_refl _), h.len, h.each, h.below.trans (hb.mono h.below.size)⟩
theorem AccY.snoc {w W W1 w3 : World} {v v' x : Value} {fvs : List Value} {rs : List Stz} {s : Stz} (h : AccY w W v fvs rs) (hx : Flds w x s.2) (ho : w3.ownsRow w.heap.size 48 2 v' (rs.length + 1) (stzCells rs fvs ++ [.int .i64 s.1, x])) (h1 : Below W.heap.size W W1) (hg : W1.grownBy w3 v.ownBlock) : AccY w w3 v' (fvs ++ [x]) (rs ++ [s]) := by
  have h' := h.kept h1
  refine ⟨by rw [List.length_append, stzCells_snoc _ _ _ _ h.len]; exact ho, by simp [h.len], fun j y z hy hz => ?_, h'.below.grown hg h'.below.size (fun k e => (h.row.lt k e).1)⟩
  rcases snoc_at hy with ⟨q, hy⟩ | ⟨q, rfl⟩
  . rw [List.getElem?_append_left (by rw [h.len]; exact q)] at hz
    exact h.each j y z hy hz
  rw [q, <- h.len, List.getElem?_append_right (Nat.le_refl _)] at hz
  simp at hz
  subst hz; exact hx
theorem own_base {W W' : World} {lo K n m : Nat} {t : TypeId} {sz : Nat} {v v' : Value} {xs ys : List Value} (h : W.ownsRow lo t sz v n xs) (ho : W'.ownsRow 0 t sz v' m ys) (hk : v'.ownBlock = v.ownBlock \/ v'.ownBlock = some K) (hK : lo <= K) : W'.ownsRow lo t sz v' m ys := by
  rcases ho.2 with ⟨q, hn⟩ | ⟨g2, cap2, cur2, q, _, rest⟩
  . exact ⟨ho.1, .inl ⟨q, hn⟩⟩
  refine ⟨ho.1, .inr ⟨g2, cap2, cur2, q, ?_, rest⟩⟩
  rcases hk with hk | hk
  . exact (h.lt g2 (by rw [<- hk, q]; rfl)).1
  rw [q] at hk
  have : g2 = K := Option.some.inj hk
  omega
def stzN (ps : List Pr) : List Stz := (ps.filter fun p => decide (0 < p.1.2)).map fun p => (p.1.2, p.1.1.fields)
theorem stzN_snoc (ps : List Pr) (k : Nat) (p : Pr) (h : ps[k]? = some p) : stzN (ps.take (k + 1)) = stzN (ps.take k) ++ if 0 < p.1.2 then [(p.1.2, p.1.1.fields)] else [] := by
  unfold stzN
  rw [List.take_add_one, h, Option.toList_some, List.filter_append, List.map_append]
  congr 1
  by_cases hq : 0 < p.1.2
  . rw [if_pos hq, List.filter_cons, if_pos (by simpa using hq)]; rfl
  rw [if_neg hq, List.filter_cons, if_neg (by simpa using hq)]; rfl
theorem stzN_len (ps : List Pr) : (stzN ps).length <= ps.length := by unfold stzN; rw [List.length_map]; exact List.length_filter_le _ _
theorem refStanzas7_any (ps : List Pr) (v : Value) (nx : Int) (w : World) (h : EntsQ w v ps) (hps : ps.length <= 10000) :
    Calls Tryz.prog 31 #[.agg #[v, .int .i64 nx]] w fun e w' => ∃ u fvs, e = .returned u /\ AccY w w' u fvs (stzN ps) := by
  obtain ⟨i0, hi, hz0, hz1, hz2⟩ := info_parts infoStz
  have H := Lib.hid h
  obtain ⟨A, cap, rfl, hle⟩ := h.empty
  have HB := Lib.hid ((Below.refl w.heap.size w).alloc (Nat.le_refl _) (.cells #[.slice A ps.length cap, .int .i64 nx] 28))
  have BX := Lib.hid (Cells.new w 28 #[.slice A ps.length cap, .int .i64 nx])
  clear h
  go_enter Tryz.func31, Tryz.ntmps31
  go_wp2_with fail
  go_loopw [3, 4] (fun u i wr => ∃ (k : Nat) (fvs : List Value), k <= ps.length /\ i = .int .i64 k /\ AccY w wr u fvs (stzN (ps.take k)) /\ Cells wr w.heap.size 28 #[.slice A ps.length cap, .int .i64 nx]) (fun _ i _ => ps.length - (intOf i).toNat)
  case atStart => exact ⟨0, [], Nat.zero_le _, rfl, ⟨⟨rfl, .inl ⟨rfl, rfl⟩⟩, rfl, (fun j it x h => by simp [stzN] at h), HB.out⟩, BX.out⟩
  case round =>
  obtain ⟨k, fvs, hk, rfl, hacc, hbx⟩ := hrel
  have c0 : wr.cell? ⟨w.heap.size, 0, none⟩ = some (.slice A ps.length cap) := hbx.cell 0
  by_cases hlt : k < ps.length
  . obtain ⟨p, hp⟩ : ∃ p, ps[k]? = some p := ⟨_, List.getElem?_eq_getElem hlt⟩
    have hb := hacc.below
    have hE := H.out.below hb (Nat.le_refl _)
    obtain ⟨g, cap', pa, pc, e1, _, hg, e2, d0, d1, d2, d3⟩ := hE.here hp
    cases e1
    have hfr := H.out.each p (List.mem_of_getElem? hp)
    rw [e2] at d2 hfr
    have HFR := Lib.hid hfr
    have SN := Lib.hid (stzN_snoc ps k p hp)
    have hsl := stzN_len (ps.take k)
    rw [List.length_take] at hsl
    have hsz := hb.size
    by_cases hq : 0 < p.1.2
    . have ACC := Lib.hid hacc
      have hrow := hacc.row
      have HO := Lib.hid (rowBase hacc.row (Nat.zero_le _))
      obtain ⟨ua, uc, rfl, _⟩ := own_slice hacc.row
      have HBX := Lib.hid hbx
      have HNE := Lib.hid (own_cells_ne hacc.row hbx (by decide))
      clear hacc hE hfr hp hbx e2 d0 d1 hb
      generalize (stzN (ps.take k)) = rs at *
      go_wp2_with fail
      go_region_law (refine step_append_own rfl (.tmp 19) (.tmp 34) 43 rfl 48 i0 _ 2 32 Tryz.underlying43 hi hz0 hz1 hz2 rfl (by decide) (.slice ua rs.length uc) rs.length (stzCells rs fvs) (by simp [Act.eval]) (by exact (HO.out.alloc _).drew) ⟨wr.heap.size, 0, none⟩ 1 1 [.int .i64 p.1.2, .slice pa p.1.1.fields.length pc] (by simp [Act.eval]) rfl (cells_new_add wr 48 [.int .i64 p.1.2, .slice pa p.1.1.fields.length pc]) (by intro u hu; simp at hu; rcases hu with rfl | rfl <;> rfl) (by unfold maxLen; omega) (by omega) ?_; intro v' w3 ho hgrow hbk; have hown' := Lib.hid (own_base hrow ho hbk (by simp; omega)); have hgr := Lib.hid hgrow; obtain ⟨g', cap', rfl⟩ := ownsRow_succ ho; clear ho hgrow hbk)
      all_goals go_wp2_with fail
      all_goals
        have hacc3 := ACC.out.snoc (s := (p.1.2, p.1.1.fields)) HFR.out hown'.out (((Below.refl wr.heap.size wr).alloc (Nat.le_refl _) _).drew) hgr.out
        have hbx3 := ((HBX.out.alloc (.cells #[.int .i64 p.1.2, .slice pa p.1.1.fields.length pc] 48)).drew).grown hgr.out (fun e => HNE.out e.symm)
        go_roundw
        case rel => exact ⟨k + 1, _, hlt, by go_num, by rw [SN.out, if_pos hq]; exact hacc3, hbx3⟩
        case measure => simp [intOf]; omega
    have hq' : decide (0 < p.1.2) = false := decide_eq_false hq
    have ACC := Lib.hid hacc
    have HBX := Lib.hid hbx
    clear hacc hE hfr hp hbx e2 d0 d1 hb
    go_wp2_with fail
    go_roundw
    case rel => exact ⟨k + 1, _, hlt, by go_num, by rw [SN.out, if_neg hq, List.append_nil]; exact ACC.out, HBX.out⟩
    case measure => simp [intOf]; omega
  obtain rfl : k = ps.length := by omega
  rw [List.take_length] at hacc
  have HACC := Lib.hid hacc
  clear hacc hbx
  go_wp2_with fail
  go_ret
  exact ⟨_, fvs, rfl, HACC.out⟩
end Go.Proofs.YtfjklpgmnakcaaaGreatDoor
namespace Go.Proofs.YtfjklpgmnakcaaaGreatDoor
open Go.RowKit Go.Shelf
end Go.Proofs.YtfjklpgmnakcaaaGreatDoor
namespace Go.Proofs.YtfjklpgmnakcaaaGreatDoor
open Go.RowKit Go.Shelf
attribute [local go_sem] Oper.semAt_some
def getV (o : Option Pr) : Value := match o with
  | some p => .tuple #[.agg #[.int .i64 p.1.1.kind, .string (B p.1.1.raw), p.2], .bool true]
  | none => .tuple #[.agg #[.int .i64 0, .string ⟨#[]⟩, .slice none 0 0], .bool false]
theorem refGet7_any (ps : List Pr) (v : Value) (nx id : Int) (w : World) (h : EntsQ w v ps) (hps : ps.length <= 10000) :
    Calls Tryz.prog 28 #[.agg #[v, .int .i64 nx], .int .i64 id] w fun e w' => e = .returned (getV ((findR (ps.map Prod.fst) id).bind (ps[·]?))) /\ Below w.heap.size w w' := by
  obtain ⟨A, cap, rfl, hle⟩ := h.empty
  obtain ⟨W0, hW0⟩ : ∃ W0, W0 = (w.alloc (.cells #[.slice A ps.length cap, .int .i64 nx] 28)).alloc (.cells #[.int .i64 0, .string ⟨#[]⟩, .slice none 0 0] 80) := ⟨_, rfl⟩
  have hb0 : Below w.heap.size w W0 := by rw [hW0]; exact ((Below.refl _ w).alloc (Nat.le_refl _) _).alloc (by simp) _
  have C0 : Cells W0 w.heap.size 28 #[.slice A ps.length cap, .int .i64 nx] := by rw [hW0]; exact (Cells.new _ _ _).alloc _
  have C1 : Cells W0 (w.heap.size + 1) 80 #[.int .i64 0, .string ⟨#[]⟩, .slice none 0 0] := by
    rw [hW0]
    have := Cells.new (w.alloc (.cells #[.slice A ps.length cap, .int .i64 nx] 28)) 80 #[.int .i64 0, .string ⟨#[]⟩, .slice none 0 0]
    rw [World.size_alloc] at this; exact this
  have H0 := h.below hb0 (Nat.le_refl _)
  have FD := Lib.hid (refFind_any ps _ nx id W0 H0 (by omega))
  have HB := Lib.hid hb0
  have HC0 := Lib.hid C0
  have HC1 := Lib.hid C1
  have HH := Lib.hid H0
  clear h hb0 C0 C1 H0
  go_enter Tryz.func28, Tryz.ntmps28
  go_wp2_with fail
  rw [<- hW0]
  refine FD.out.mono ?_
  rintro e w1 ⟨rfl, b1⟩
  have D0 := Lib.hid (cells_kept HC0.out b1 HC0.out.lt)
  have D1 := Lib.hid (cells_kept HC1.out b1 HC1.out.lt)
  have HB1 := Lib.hid (HB.out.trans (b1.mono HB.out.size))
  have H1 := Lib.hid (HH.out.below b1 (Nat.le_refl _))
  have d0 : w1.cell? ⟨w.heap.size, 0, none⟩ = some (.slice A ps.length cap) := D0.out.cell 0
  have j0 := D1.out.cell 0
  have j1 := D1.out.cell 1
  have j2 := D1.out.cell 2
  have f0 := D1.out.frozen 0
  have f1 := D1.out.frozen 1
  have f2 := D1.out.frozen 2
  simp only [List.getElem?_toArray, List.getElem?_cons_zero, List.getElem?_cons_succ] at j0 j1 j2
  have hsz := b1.size
  have hz0 : W0.heap.size = w.heap.size + 2 := by rw [hW0]; simp
  clear FD b1 HB HC0 HC1 HH hW0
  cases hf : findR (ps.map Prod.fst) id with
  | none =>
    have hm : (-1 : Int) < 0 := by decide
    have HF := Lib.hid hf
    clear hf
    unfold findI
    dsimp only
    go_wp2_with fail
    have RE := ((D1.out.set 0 (.int .i64 0)).set 1 (.string ⟨#[]⟩)).set 2 (.slice none 0 0)
    rw [set3] at RE
    refine bodyPost_ret (ret_i2 rfl _ _ (w.heap.size + 1) _ rfl RE rfl) rfl ?_
    exact ⟨by rw [HF.out]; rfl, ((HB1.out.setCell (p := ⟨w.heap.size + 1, 0, none⟩) (by show w.heap.size <= w.heap.size + 1; omega) _).setCell (p := ⟨w.heap.size + 1, 1, none⟩) (by show w.heap.size <= w.heap.size + 1; omega) _).setCell (p := ⟨w.heap.size + 1, 2, none⟩) (by show w.heap.size <= w.heap.size + 1; omega) _⟩
  | some k =>
  obtain ⟨hk, -⟩ := findR_lt hf
  rw [List.length_map] at hk
  obtain ⟨p, hp⟩ : ∃ p, ps[k]? = some p := ⟨_, List.getElem?_eq_getElem hk⟩
  obtain ⟨g, cap', pa, pc, e1, _, hg, e2, d4, d5, d6, d7⟩ := H1.out.here hp
  cases e1
  rw [e2] at d6
  have hkn : ¬ ((k : Int) < 0) := by omega
  have HP := Lib.hid hp
  have E2 := Lib.hid e2
  have HF := Lib.hid hf
  clear hp hf e2
  unfold findI
  dsimp only
  go_wp2_with fail
  have RE := ((D1.out.set 0 (.int .i64 p.1.1.kind)).set 1 (.string (B p.1.1.raw))).set 2 (.slice pa p.1.1.fields.length pc)
  rw [set3] at RE
  refine bodyPost_ret (ret_i2 rfl _ _ (w.heap.size + 1) _ rfl RE rfl) rfl ?_
  refine ⟨?_, ((HB1.out.setCell (p := ⟨w.heap.size + 1, 0, none⟩) (by show w.heap.size <= w.heap.size + 1; omega) _).setCell (p := ⟨w.heap.size + 1, 1, none⟩) (by show w.heap.size <= w.heap.size + 1; omega) _).setCell (p := ⟨w.heap.size + 1, 2, none⟩) (by show w.heap.size <= w.heap.size + 1; omega) _⟩
  rw [HF.out]
  show _ = Ending.returned (getV (ps[k]?))
  rw [HP.out]
  show _ = Ending.returned (.tuple #[.agg #[.int .i64 p.1.1.kind, .string (B p.1.1.raw), p.2], .bool true])
  rw [E2.out]; rfl
def placeS (rs : List Stz) (id : Int) : Int := match rs.findIdx? fun s => s.1 == id with | none => -1 | some k => (k : Nat)
theorem refPlace7_any (ps : List Pr) (v : Value) (nx id : Int) (w : World) (h : EntsQ w v ps) (hps : ps.length <= 10000) :
    Calls Tryz.prog 30 #[.agg #[v, .int .i64 nx], .int .i64 id] w fun e w' => e = .returned (.int .i64 (placeS (stzN ps) id)) /\ Below w.heap.size w w' := by
  obtain ⟨A, cap, rfl, hle⟩ := h.empty
  have hb := (Below.refl w.heap.size w).alloc (Nat.le_refl _) (.cells #[.slice A ps.length cap, .int .i64 nx] 28)
  have ST := Lib.hid (refStanzas7_any ps _ nx _ (h.below hb (Nat.le_refl _)) hps)
  have HB := Lib.hid hb
  clear h hb
  go_enter Tryz.func30, Tryz.ntmps30
  go_wp2_with fail
  refine ST.out.mono ?_
  rintro e w1 ⟨u, fvs, rfl, acc⟩
  have hb1 := Lib.hid (HB.out.trans (acc.below.mono (by simp)))
  have hsl := stzN_len ps
  obtain ⟨ua, uc, rfl, _⟩ := own_slice acc.row
  have SZ := Lib.hid acc.szs
  generalize hrs : stzN ps = rs at *
  have HRS := Lib.hid hrs
  clear acc ST hrs
  go_wp2_with fail
  go_loopw [6] (fun i W => ∃ k : Nat, k <= rs.length /\ i = .int .i64 k /\ (∀ s ∈ rs.take k, s.1 ≠ id) /\ W = w1) (fun i _ => rs.length - (intOf i).toNat)
  case atStart => exact ⟨0, Nat.zero_le _, rfl, (fun s h => by simp at h), rfl⟩
  case round =>
  obtain ⟨k, hk, rfl, hn, rfl⟩ := hrel
  have HN := Lib.hid hn
  clear hn
  by_cases hlt : k < rs.length
  . obtain ⟨s, hs⟩ : ∃ s, rs[k]? = some s := ⟨_, List.getElem?_eq_getElem hlt⟩
    obtain ⟨_, _, e1, _, hc⟩ := SZ.out
    cases e1
    obtain ⟨b, off, fv, rfl, hbb, c0, c1, hf⟩ := hc k s hs
    obtain ⟨fa, fc, rfl, _, _⟩ := hf
    have HS := Lib.hid hs
    clear hs hc
    by_cases hq : s.1 = id
    . rw [hq] at c0
      have hid : Hid (s.1 = id) := hq
      clear hq
      go_wp2_with fail
      go_ret
      refine ⟨?_, hb1.out⟩
      have : (rs.findIdx? fun s => s.1 == id) = some k := by
        refine List.findIdx?_eq_some_iff_getElem.2 ⟨hlt, ?_, fun j hj => ?_⟩
        . have : rs[k] = s := (List.getElem?_eq_some_iff.1 HS.out).2
          rw [this]; simpa using hid.out
        have hm : rs[j] ∈ rs.take k := by
          refine List.mem_of_getElem? (i := j) ?_
          rw [List.getElem?_take, if_pos hj, List.getElem?_eq_getElem (by omega)]
        simpa using HN.out _ hm
      unfold placeS
      rw [HRS.out, this]; rfl
    have hq1 : ((s.1 : Int) == id) = false := beq_eq_false_iff_ne.2 hq
    have HQ := Lib.hid hq
    clear hq
    go_wp2_with fail
    go_roundw
    case rel =>
      refine ⟨k + 1, hlt, by go_num, fun x hx => ?_, by first | rfl | trivial⟩
      rw [List.take_add_one, HS.out] at hx
      rcases List.mem_append.1 hx with hx | hx
      . exact HN.out x hx
      simp at hx; rw [hx]; exact HQ.out
    case measure => simp [intOf]; omega
  obtain rfl : k = rs.length := by omega
  have hfin : Hid (placeS rs id = -1) := by
    show placeS rs id = -1
    have := HN.out
    rw [List.take_length] at this
    unfold placeS
    rw [List.findIdx?_eq_none_iff.2 (fun x hx => by simpa using this x hx)]
  go_wp2_with fail
  go_ret
  exact ⟨by rw [HRS.out, hfin.out]; rfl, hb1.out⟩
end Go.Proofs.YtfjklpgmnakcaaaGreatDoor
namespace Go.Proofs.YtfjklpgmnakcaaaGreatDoor
end Go.Proofs.YtfjklpgmnakcaaaGreatDoor
namespace Go.Proofs.YtfjklpgmnakcaaaGreatDoor
open Go.RowKit Go.Shelf
end Go.Proofs.YtfjklpgmnakcaaaGreatDoor
namespace Go.Proofs.YtfjklpgmnakcaaaGreatDoor
open Go.RowKit Go.Shelf
end Go.Proofs.YtfjklpgmnakcaaaGreatDoor
namespace Go.Proofs.YtfjklpgmnakcaaaGreatDoor
open Go.RowKit Go.Shelf
attribute [local go_sem] Oper.semAt_some
section
variable {w : World} {lb : Nat} {ev v : Value} {ps qs : List Pr} {nx : Int}
end
end Go.Proofs.YtfjklpgmnakcaaaGreatDoor
namespace Go.Proofs.YtfjklpgmnakcaaaGreatDoor
theorem foldN_of : ∀ (fs : List Fld), (∀ f ∈ fs, checkN f.1 f.2 = 0) -> foldN fs = 0
  | [], _ => rfl
  | f :: r, h => by
    unfold foldN
    rw [if_pos (h f List.mem_cons_self)]
    exact foldN_of r (fun x hx => h x (List.mem_cons_of_mem _ hx))
structure GkP (p : PS) : Prop where
  fl : ∀ f ∈ p.fields, checkN f.1 f.2 = 0
  each : ∀ it ∈ p.items, (∀ f ∈ it.fields, checkN f.1 f.2 = 0) /\ (it.kind = 3 -> it.fields.length ≠ 0)
theorem GkP.endField {p : PS} (h : GkP p) (h0 : endFieldN p = 0) : GkP (endFieldP p) := by
  unfold endFieldP
  split
  . exact h
  rename_i hs
  unfold endFieldN at h0
  rw [if_neg hs] at h0
  have hu : unfoldN p.said = 0 := by
    by_cases q : unfoldN p.said = 0
    . exact q
    rw [if_pos q] at h0; exact h0
  refine ⟨fun f hf => ?_, h.each⟩
  rcases List.mem_append.1 hf with hf | hf
  . exact h.fl f hf
  rw [List.mem_singleton.1 hf]; exact (unfold_zero hu).1
theorem GkP.endItem {t : List UInt8} {p : PS} (h : GkP p) (kind e : Nat) (hk : kind = 3 -> p.fields.length ≠ 0) : GkP (endItemP t p kind e) :=
  ⟨fun f hf => (by cases hf), fun it hi => by
    rcases List.mem_append.1 hi with hi | hi
    . exact h.each it hi
    rw [List.mem_singleton.1 hi]
    exact ⟨h.fl, fun q => hk (by have q' : ((kind : Nat) : Int) = 3 := q; omega)⟩⟩
theorem GkP.endBlock {t : List UInt8} {p : PS} (h : GkP p) (e : Nat) : GkP (endBlockP t p e) := by
  unfold endBlockP
  split
  . exact h
  split
  . exact h.endItem 2 e (fun q => absurd q (by decide))
  rename_i hl
  exact ⟨(h.endItem (t := t) 3 e (fun _ => hl)).fl, (h.endItem (t := t) 3 e (fun _ => hl)).each⟩
theorem GkP.went {p : PS} (h : GkP p) (x : Ln) : GkP (wentP p x) := by
  unfold wentP
  split
  . exact ⟨h.fl, h.each⟩
  exact h
theorem GkP.take {t : List UInt8} {p q : PS} {x : Ln} (h : GkP p) (he : takeP t p x = .ok q) : GkP q := by
  obtain ⟨h1, _, rfl⟩ := take_parts he
  have h2 : GkP (thenP p x) := by
    unfold thenP
    split
    . rename_i q; exact (h.went x).endField (h1 q)
    exact h.went x
  unfold putP
  split
  . exact ⟨h2.fl, h2.each⟩
  split
  . exact ⟨((h2.endBlock x.at_).endItem 1 _ (fun q => absurd q (by decide))).fl, ((h2.endBlock x.at_).endItem 1 _ (fun q => absurd q (by decide))).each⟩
  exact ⟨h2.fl, h2.each⟩
theorem GkP.run (t : List UInt8) : ∀ (xs : List Ln) (p q : PS), GkP p -> runP t p xs = .ok q -> GkP q
  | [], p, q, h, he => by cases he; exact h
  | x :: xs, p, q, h, he => by
    unfold runP at he
    cases ht : takeP t p x with
    | error e => rw [ht] at he; cases he
    | ok p1 =>
    rw [ht] at he
    exact GkP.run t xs p1 q (h.take ht) he
theorem parse_gk {t : List UInt8} {its : List It} (h : parseL t = .ok its) : ∀ it ∈ its, it.kind = 3 -> chkN it.fields = 0 := by
  obtain ⟨p, hr, h0, rfl, g, _⟩ := parse_good h
  have hs : GkP (endBlockP t (endFieldP p) t.length) := ((GkP.run t _ _ _ ⟨(fun f h => by cases h), (fun it h => by cases h)⟩ hr).endField h0).endBlock _
  intro it hi h3
  have h40 : it.fields.length <= 40 := g.each it hi
  obtain ⟨h1, h2⟩ := hs.each it hi
  unfold chkN
  rw [if_neg (h2 h3), if_neg (by omega)]
  exact foldN_of _ h1
def GkL (es : List En) : Prop := ∀ e ∈ es, e.1.kind = 3 -> chkN e.1.fields = 0
theorem GkL.edit {l : LS} (h : GkL l.es) (kind id : Int) (fs : List Fld) : GkL (editR l kind id fs).ls.es := fun e he h3 => by
  rcases edit_mem l kind id fs e he with h1 | ⟨h1, h2⟩
  . exact h e h1 h3
  rw [h1]; exact h2
theorem gk_from {t : List UInt8} {its : List It} (h : parseL t = .ok its) : GkL (fromL its).es := fun e he h3 => by
  have : e.1 ∈ its := by rw [<- from_items 1 its]; exact List.mem_map_of_mem he
  exact parse_gk h _ this h3
theorem GkL.on {l : LS} (h : GkL l.es) : ∀ (eds : List Ed), GkL (lsOn l eds).es := by
  intro eds
  induction eds generalizing l with
  | nil => exact h
  | cons ed r ih => exact ih (h.edit ed.kind ed.id ed.fields)
def szE (es : List En) : List (Int × List Fld) := (es.filter fun e => decide (0 < e.2)).map fun e => (e.2, e.1.fields)
theorem szE_append (a b : List En) : szE (a ++ b) = szE a ++ szE b := by unfold szE; rw [List.filter_append, List.map_append]
theorem szE_cons {e : En} (h : 0 < e.2) (r : List En) : szE (e :: r) = (e.2, e.1.fields) :: szE r := by unfold szE; rw [List.filter_cons, if_pos (by simpa using h)]; rfl
theorem szE_nums (es : List En) : (szE es).map Prod.fst = nums es := by
  unfold szE nums
  rw [List.map_map, List.filter_map]
  rfl
theorem szE_len (es : List En) : (szE es).length = lenR es := by unfold szE lenR; rw [List.length_map]
theorem es_split {es : List En} {k : Nat} {e : En} (h : es[k]? = some e) : es = es.take k ++ e :: es.drop (k + 1) := by
  obtain ⟨hk, q⟩ := List.getElem?_eq_some_iff.1 h
  conv => lhs; rw [<- List.take_append_drop k es]
  rw [<- q]
  congr 1
  exact List.drop_eq_getElem_cons hk
theorem sz_at {es : List En} {k : Nat} {e : En} (h : es[k]? = some e) (h0 : 0 < e.2) : szE es = szE (es.take k) ++ (e.2, e.1.fields) :: szE (es.drop (k + 1)) := by
  conv => lhs; rw [es_split h]
  rw [szE_append, szE_cons h0]
theorem sz_set {es : List En} {k : Nat} {e : En} (h : es[k]? = some e) (h0 : 0 < e.2) (it : It) : szE (setE es k it) = szE (es.take k) ++ (e.2, it.fields) :: szE (es.drop (k + 1)) := by
  have : setE es k it = es.take k ++ (it, e.2) :: es.drop (k + 1) := by
    obtain ⟨hk, q⟩ := List.getElem?_eq_some_iff.1 h
    unfold setE
    rw [List.modify_eq_take_cons_drop hk, q]
  rw [this, szE_append, szE_cons (e := (it, e.2)) h0]
theorem sz_cut (es : List En) (k : Nat) : szE (cutE es k) = szE (es.take k) ++ szE (es.drop (k + 1)) := by unfold cutE; rw [szE_append]
theorem sz_put (es : List En) (k : Nat) {it : It} {n : Int} (h0 : 0 < n) : szE (putE es k (it, n)) = szE (es.take k) ++ (n, it.fields) :: szE (es.drop k) := by unfold putE; rw [szE_append, szE_cons (e := (it, n)) h0]
theorem sz_pos {es : List En} {s : Int × List Fld} (h : s ∈ szE es) : 0 < s.1 := by
  unfold szE at h
  obtain ⟨e, he, rfl⟩ := List.mem_map.1 h
  simpa using (List.mem_filter.1 he).2
theorem sz_find {l : LS} (ok : OkL l) {a b : List (Int × List Fld)} {s : Int × List Fld} (h : szE l.es = a ++ s :: b) : ∃ k e, findR l.es s.1 = some k /\ l.es[k]? = some e /\ e.1.kind = 3 /\ e.2 = s.1 /\ e.1.fields = s.2 /\ szE (l.es.take k) = a /\ szE (l.es.drop (k + 1)) = b := by
  have hp : 0 < s.1 := sz_pos (es := l.es) (by rw [h]; exact List.mem_append_right _ List.mem_cons_self)
  have hs : s ∈ szE l.es := by rw [h]; exact List.mem_append_right _ List.mem_cons_self
  have hfind : ∃ k, findR l.es s.1 = some k := by
    unfold findR
    rw [if_pos hp]
    unfold szE at hs
    obtain ⟨e, he, rfl⟩ := List.mem_map.1 hs
    have he' := (List.mem_filter.1 he).1
    cases hq : l.es.findIdx? fun x => x.2 == e.2 with
    | some k => exact ⟨k, rfl⟩
    | none =>
    have := List.findIdx?_eq_none_iff.1 hq e he'
    simp at this
  obtain ⟨k, hk⟩ := hfind
  obtain ⟨e, he, h3, h2⟩ := findR_stz ok.wf hk
  have hat := sz_at he (by omega : 0 < e.2)
  have hnd : ((szE l.es).map Prod.fst).Nodup := by rw [szE_nums]; exact ok.nd
  rw [hat] at h
  have key : ∀ (a1 b1 a2 b2 : List (Int × List Fld)) (s1 s2 : Int × List Fld), s1.1 = s2.1 -> a1 ++ s1 :: b1 = a2 ++ s2 :: b2 -> ((a1 ++ s1 :: b1).map Prod.fst).Nodup -> a1 = a2 /\ s1 = s2 /\ b1 = b2 := by
    intro a1
    induction a1 with
    | nil =>
      intro b1 a2 b2 s1 s2 e1 e2 nd
      cases a2 with
      | nil => simp at e2; exact ⟨rfl, e2.1, e2.2⟩
      | cons x r =>
      simp at e2
      rw [e2.1, e2.2] at nd
      simp at nd
      exact absurd (by rw [<- e2.1]; exact e1) nd.1.2.1
    | cons y r ih =>
    intro b1 a2 b2 s1 s2 e1 e2 nd
    cases a2 with
    | nil =>
      simp at e2
      rw [List.cons_append, List.map_cons, List.nodup_cons] at nd
      exact absurd (by
        have : y.1 = s1.1 := by rw [e2.1]; exact e1.symm
        rw [this]
        exact List.mem_map_of_mem (List.mem_append_right _ List.mem_cons_self)) nd.1
    | cons x q =>
    rw [List.cons_append, List.cons_append] at e2
    obtain ⟨e3, e4⟩ := List.cons.inj e2
    rw [List.cons_append, List.map_cons, List.nodup_cons] at nd
    obtain ⟨g1, g2, g3⟩ := ih b1 q b2 s1 s2 e1 e4 nd.2
    exact ⟨by rw [e3, g1], g2, g3⟩
  rw [hat] at hnd
  obtain ⟨g1, g2, g3⟩ := key _ _ _ _ _ _ (show (e.2, e.1.fields).1 = s.1 from h2) h hnd
  exact ⟨k, e, hk, he, h3, h2, by rw [<- g2], g1, g3⟩
end Go.Proofs.YtfjklpgmnakcaaaGreatDoor
