/- Texts put together: EI, N0, EK, EB, EC, EO. -/
import Derived.OwnWalk
import Derived.Test.YtflnlenkgbphpaaGreatDoorBaf13
import Derived.Test.YtflnlenkgbphpaaGreatDoorBaf15
import Derived.Test.YtflnlenkgbphpaaGreatDoorBaf16
import Derived.Test.YtflnlenkgbphpaaGreatDoorBaf18
import Derived.Test.YtflnlenkgbphpaaGreatDoorBaf19
import Derived.Test.YtflnlenkgbphpaaGreatDoorBaf20
set_option linter.unusedVariables false
namespace Go.Proofs.YtflnlenkgbphpaaGreatDoor
open Go.RowKit Go.Shelf
attribute [local go_sem] Oper.semAt_some

theorem light_small9 {eds : List Ed} (h : Light eds) {ed : Ed} (he : ed ∈ eds) : (foldG ed.fields).length ≤ 100000 ∧ ed.fields.length ≤ 1000000 := by
  obtain ⟨a, _, b⟩ := h.2 ed he
  rw [foldG_lines]
  have := foldT_len6 ed.fields b
  exact ⟨by omega, by omega⟩
def Smalls (eds : List Ed) : Prop := ∀ ed ∈ eds, (foldG ed.fields).length ≤ 100000 ∧ ed.fields.length ≤ 1000000
theorem Light.smalls {eds : List Ed} (h : Light eds) : Smalls eds := fun _ he => light_small9 h he
def encI (z : Int) : Value := .int .i64 z
theorem infoInt9 : (Tryz.prog.info? 3).map (fun i => (i.zero, i.size, i.bytes)) = some (some (.int .i64 0), 1, 8) := by kernel_rfl
/-- What play comes to. -/
def PlayR (w0 w w' : World) (l : LS) (m : Nat) (eds : List Ed) (P : Nat → World → (Nat → Prop) → Prop) (e : Ending) : Prop :=
  Below w0.heap.size w0 w' ∧ w.heap.size ≤ w'.heap.size ∧
  (((doB l eds).2 ≠ 0 ∧ ∃ u, e = .returned (.tuple #[.pointer none, .slice none 0 0, u]) ∧ ErrZ w.heap.size w' u (doB l eds).1 (doB l eds).2) ∨
  (doB l eds = (-9, 0) ∧ chkB eds = (-9, 0) ∧ okOn l eds ∧ ∃ lb ev ps gv Z, e = .returned (.tuple #[ptr lb, gv, .nilIface]) ∧ Carry w.heap.size w' lb ev ps (lsOn l eds) (m + eds.length) ∧ P eds.length w' Z ∧
    (∀ r, BlkR lb ev ps (.slice none 0 0) [] r → ¬ Z r ∧ w.heap.size ≤ r) ∧ w'.ownsRow w.heap.size 3 1 gv (idsOn l eds).length ((idsOn l eds).map encI)))
set_option maxRecDepth 100000 in
set_option maxHeartbeats 8000000 in
theorem play_any {S00 : Nat} {w0 w : World} (hB0 : Below w0.heap.size w0 w) (eds : List Ed) (v : Value) (hv : EdV w0 v eds) (hl : eds.length ≤ 51) (hf : Fines eds) (hsm : Smalls eds) (hg : ErrT w0)
    {lb0 : Nat} {ev0 : Value} {ps0 : List Pr} {l : LS} {m : Nat} (C : Carry S00 w lb0 ev0 ps0 l m) (hm : m ≤ 5000) {g : Nat} {cb : Array Value} {P : Nat → World → (Nat → Prop) → Prop} (SH : Shows g cb w0 w.heap.size l eds P) {Z0 : Nat → Prop} (hP : P 0 w Z0) :
    Calls Tryz.prog 47 #[ptr lb0, v, .func (.func g) #[] cb] w fun e w' => PlayR w0 w w' l m eds P e := by
  obtain ⟨i0, hi, hz0, hz1, hz2⟩ := info_parts infoInt9
  have HB0 := Lib.hid hB0
  have CK := Lib.hid (checkB_any eds v w (hv.below hB0 (Nat.le_refl _)) (by omega) hf (hg.below hB0 (Nat.le_refl _)))
  obtain ⟨A, cap, rfl, hle, hc⟩ := _root_.id hv
  have PC := Lib.hid hc
  have HF := Lib.hid hf
  have HS := Lib.hid hsm
  have HG := Lib.hid hg
  have HV := Lib.hid hv
  have HC := Lib.hid C
  have HSH := Lib.hid SH
  have HP := Lib.hid hP
  have heg := SH.eg
  have hZ0 := Lib.hid (SH.lt 0 w Z0 hP)
  clear hc hf hsm hg hv C hP SH hB0
  unfold ptr
  go_enter Tryz.func47, Tryz.ntmps47
  go_wp2_with fail
  refine CK.out.mono ?_
  rintro e w1 ⟨u, rfl, b1, hz⟩
  have B1 := Lib.hid b1
  by_cases hb0 : (chkB eds).2 = 0
  rotate_left
  · have hdo : doB l eds = chkB eds := by unfold doB; rw [if_neg hb0]
    have FIN : Hid (PlayR w0 w w1 l m eds P (.returned (.tuple #[.pointer none, .slice none 0 0, u]))) := by
      show PlayR _ _ _ _ _ _ _ _
      refine ⟨HB0.out.trans (b1.mono HB0.out.size), b1.size, .inl ⟨by rw [hdo]; exact hb0, u, rfl, by rw [hdo]; exact hz⟩⟩
    have hform : (∃ z, u = .iface 70 (.int .i64 z)) ∨ ∃ q, u = .iface 77 (.pointer (some ⟨q, 0, none⟩)) := by
      obtain ⟨_, ⟨rfl, _⟩ | ⟨_, ⟨q, _, rfl, _⟩, _, _⟩⟩ := hz
      · rw [errV_pos _ (by omega)]; exact .inl ⟨_, rfl⟩
      · exact .inr ⟨q, rfl⟩
    clear hz b1 CK
    rcases hform with ⟨z, rfl⟩ | ⟨q, rfl⟩
    all_goals
      go_wp2_with fail
      go_ret3
      exact FIN.out
  have hcz := chkB_zero hb0
  rw [hcz] at hz
  have hdo : doB l eds = doOn 0 l eds := by unfold doB; rw [hcz]; rfl
  obtain ⟨⟨c1, c40⟩, hgood⟩ := chkB_good hb0
  have GOOD := Lib.hid hgood
  have HCZ := Lib.hid hcz
  have HDO := Lib.hid hdo
  obtain ⟨_, ⟨rfl, _⟩ | ⟨_, _, _, hx⟩⟩ := hz
  rotate_left
  · exact absurd rfl hx
  have C1 := HC.out.below b1 (Nat.le_refl _)
  have CP := Lib.hid (copy_list lb0 ev0 ps0 l.next w1 C1.la (C1.ents (by omega)))
  have hes : Hid (ps0.map Prod.fst = l.es) := C1.es
  unfold ptr at CP
  clear C1 hgood hcz hdo hb0 CK b1
  rw [show errV 0 = .nilIface from rfl]
  go_wp2_with fail
  refine CP.out.mono ?_
  rintro e w2 ⟨lb, ev1, ps1, rfl, hla, hpe, b2, hlb, hev, hfb⟩
  have hz12 := B1.out.size
  have C2 : Carry w.heap.size w2 lb ev1 ps1 l m := by
    have c := HC.out
    exact ⟨hla, hpe.trans hes.out, c.ok, c.sz, by omega, (fun b e => by have := hev b e; omega), c.len, c.nx⟩
  have B2 : Below w.heap.size w w2 := B1.out.trans (b2.mono hz12)
  have P2 : P 0 w2 Z0 := HSH.out.keep 0 w w2 Z0 (fun _ => False) HP.out (Only.of_below B2 (Nat.le_refl _)) (fun _ _ e => e)
  have K2 : ∀ r, BlkR lb ev1 ps1 (.slice none 0 0) [] r → ¬ Z0 r ∧ w.heap.size ≤ r := by
    intro r hr
    have hge : w.heap.size ≤ r := by
      rcases hr with q | q | q | ⟨p, hp, _, q⟩ | ⟨p, hp, _⟩
      · omega
      · have := hev r q; omega
      · cases q
      · have := hfb p hp r q; omega
      · cases hp
    exact ⟨fun hz => by have := (hZ0.out r hz).2; omega, hge⟩
  have B02 : Below w0.heap.size w0 w2 := HB0.out.trans (B2.mono HB0.out.size)
  have HC2 := Lib.hid C2
  have HP2 := Lib.hid P2
  have HK2 := Lib.hid K2
  have HB02 := Lib.hid B02
  have hw2 := B2.size
  have HLB := Lib.hid hlb
  clear C2 P2 K2 B02 B2 hla hpe hev hfb b2 CP hlb hes HC HP hZ0
  go_wp2_with fail
  go_loopw [11, 25] (fun gx i wr => ∃ (k : Nat) (ev : Value) (ps : List Pr) (Z : Nat → Prop) (gv : Value), gv = gx ∧ k ≤ eds.length ∧ i = .int .i64 k ∧ okOn l (eds.take k) ∧ Carry w.heap.size wr lb ev ps (lsOn l (eds.take k)) (m + k) ∧ P k wr Z ∧
    (∀ r, BlkR lb ev ps (.slice none 0 0) [] r → ¬ Z r ∧ w.heap.size ≤ r) ∧ wr.ownsRow w.heap.size 3 1 gv (idsOn l (eds.take k)).length ((idsOn l (eds.take k)).map encI) ∧ (∀ r, gv.ownBlock = some r → ¬ Z r ∧ ¬ BlkR lb ev ps (.slice none 0 0) [] r) ∧ Below w0.heap.size w0 wr ∧ w.heap.size ≤ wr.heap.size) (fun _ i _ => eds.length - (intOf i).toNat)
  case atStart =>
    refine ⟨0, ev1, ps1, Z0, .slice none 0 0, rfl, Nat.zero_le _, rfl, trivial, ?_, HP2.out, HK2.out, ⟨rfl, .inl ⟨rfl, rfl⟩⟩, (fun r e => by cases e), HB02.out, hw2⟩
    exact HC2.out
  case round =>
    obtain ⟨k, ev, ps, Z, gv, rfl, hk, rfl, hok, hC, hPk, hK, hown, hgb, hB, hwr⟩ := hrel
    by_cases hlt : k < eds.length
    · obtain ⟨ed, hed⟩ : ∃ ed, eds[k]? = some ed := ⟨_, List.getElem?_eq_getElem hlt⟩
      obtain ⟨b, off, fv, rfl, hbb, c0, c1, c2, hfl⟩ := PC.out k ed hed
      obtain ⟨fa, fc, rfl⟩ := hfl.form
      have hmem := List.mem_of_getElem? hed
      replace c0 := (hB.cell (p := ⟨b, off + k * 3, none⟩) hbb).trans c0
      replace c1 := (hB.cell (p := ⟨b, off + k * 3 + 1, none⟩) hbb).trans c1
      replace c2 := (hB.cell (p := ⟨b, off + k * 3 + 1 + 1, none⟩) hbb).trans c2
      obtain ⟨wa, hwa⟩ : ∃ wa, wa = wr.alloc (.cells #[.int .i64 ed.kind, .int .i64 ed.id, .slice fa ed.fields.length fc] 33) := ⟨_, rfl⟩
      have hba : Below wr.heap.size wr wa := by rw [hwa]; exact (Below.refl _ wr).alloc (Nat.le_refl _) _
      have hza : wa.heap.size = wr.heap.size + 1 := by rw [hwa]; simp
      have hEd : Cells wa wr.heap.size 33 #[.int .i64 ed.kind, .int .i64 ed.id, .slice fa ed.fields.length fc] := by rw [hwa]; exact Cells.new _ _ _
      have hCa := hC.below hba (Nat.le_refl _)
      have hPa : P k wa Z := HSH.out.keep k wr wa Z (fun _ => False) hPk (Only.of_below hba (Nat.le_refl _)) (fun _ _ e => e)
      have hBa : Below w0.heap.size w0 wa := hB.trans (hba.mono hB.size)
      have hZlt := HSH.out.lt k wr Z hPk
      have hlt9 : ∀ r, BlkR lb ev ps (.slice none 0 0) [] r → r < wr.heap.size := fun r hr => hC.str.lt hr
      have ASK := HSH.out.ask k ed (.slice fa ed.fields.length fc) wa Z lb ev ps (m + k) hed (GOOD.out ed hmem) hPa hBa hCa (by omega) (fun r hr => (hK r hr).1) (hfl.below hBa (Nat.le_refl _)) ⟨fa, fc, rfl⟩
      have owna : wa.ownsRow w.heap.size 3 1 gv (idsOn l (eds.take k)).length ((idsOn l (eds.take k)).map encI) := row_below hown hba (Nat.le_refl _)
      obtain ⟨ga, gc, rfl⟩ : ∃ A c, gv = .slice A (idsOn l (eds.take k)).length c := by
        rcases hown.2 with ⟨rfl, hn⟩ | ⟨g', cap', cur', rfl, _⟩
        · exact ⟨none, 0, by rw [hn]⟩
        · exact ⟨_, _, rfl⟩
      have GK := Lib.hid (GOOD.out ed hmem)
      have DONE : Hid (∀ (W1 : World) (Z' : Nat → Prop), P (k + 1) W1 Z' → Only Z wa W1 → (∀ r, Z' r → Z r ∨ wa.heap.size ≤ r) →
          Carry w.heap.size W1 lb ev ps (lsOn l (eds.take k)) (m + k) ∧ FldR W1 (.slice fa ed.fields.length fc) ed.fields ∧ Cells W1 wr.heap.size 33 #[.int .i64 ed.kind, .int .i64 ed.id, .slice fa ed.fields.length fc] ∧ Below w0.heap.size w0 W1 ∧ W1.ownsRow w.heap.size 3 1 (.slice ga (idsOn l (eds.take k)).length gc) (idsOn l (eds.take k)).length ((idsOn l (eds.take k)).map encI) ∧ (∀ r, Z' r → ¬ (r = lb ∨ ev.ownBlock = some r)) ∧ wr.heap.size < W1.heap.size) := by
        intro W1 Z' hP1 ho hz'
        have hB1 : Below w0.heap.size w0 W1 := hBa.trans (ho.to_below hBa.size (fun r hr e => by have := (hZlt r e).1; omega))
        refine ⟨hCa.only ho (fun r hr => (hK r hr).1), hfl.below hB1 (Nat.le_refl _), hEd.only ho (fun e => by have := (hZlt _ e).2; omega), hB1, row_only owna ho (fun r e => (hgb r e).1), ?_, by have := ho.size; omega⟩
        intro r hr hs
        have hbl : BlkR lb ev ps (.slice none 0 0) [] r := by
          rcases hs with q | q
          · exact .inl q
          · exact .inr (.inl q)
        rcases hz' r hr with q | q
        · exact (hK r hbl).1 q
        · have := hlt9 r hbl; omega
      have EDIT : Hid (∀ (W1 W2 : World) (Z' : Nat → Prop) (u ev' : Value) (ps' : List Pr), P (k + 1) W1 Z' → Only Z wa W1 → (∀ r, Z' r → Z r ∨ wa.heap.size ≤ r) → WrR W1 lb ev ps (stepE (lsOn l (eds.take k)) ed) u W2 ev' ps' →
          Carry w.heap.size W2 lb ev' ps' (lsOn l (eds.take (k + 1))) (m + (k + 1)) ∧ P (k + 1) W2 Z' ∧ (∀ r, BlkR lb ev' ps' (.slice none 0 0) [] r → ¬ Z' r ∧ w.heap.size ≤ r) ∧ W2.ownsRow w.heap.size 3 1 (.slice ga (idsOn l (eds.take k)).length gc) (idsOn l (eds.take k)).length ((idsOn l (eds.take k)).map encI) ∧
          (∀ r, (Value.slice ga (idsOn l (eds.take k)).length gc).ownBlock = some r → ¬ Z' r ∧ ¬ BlkR lb ev' ps' (.slice none 0 0) [] r) ∧ Below w0.heap.size w0 W2 ∧ Cells W2 wr.heap.size 33 #[.int .i64 ed.kind, .int .i64 ed.id, .slice fa ed.fields.length fc] ∧ wr.heap.size < W2.heap.size) := by
        intro W1 W2 Z' u ev' ps' hP1 ho hz' hR
        obtain ⟨d1, _, d3, d4, d5, d6, d7⟩ := DONE.out W1 Z' hP1 ho hz'
        have hZ'lt := HSH.out.lt (k + 1) W1 Z' hP1
        have hgl : ∀ r, (Value.slice ga (idsOn l (eds.take k)).length gc).ownBlock = some r → r < wr.heap.size := fun r e => (hown.lt r e).2
        refine ⟨?_, HSH.out.keep (k + 1) W1 W2 Z' _ hP1 hR.only d6, ?_, row_only d5 hR.only ?_, ?_, ?_, ?_, ?_⟩
        · have q := d1.blkEd (HS.out ed hmem).1 (HS.out ed hmem).2 (by omega) hR
          rw [lsOn_snoc hed]; exact q
        · intro r hr
          rcases hR.blks hr with q | q
          · refine ⟨fun e => ?_, (hK r q).2⟩
            rcases hz' r e with e | e
            · exact (hK r q).1 e
            · have := hlt9 r q; omega
          · refine ⟨fun e => by have := (hZ'lt r e).2; omega, by omega⟩
        · intro r e hs
          refine (hgb r e).2 ?_
          rcases hs with q | q
          · exact .inl q
          · exact .inr (.inl q)
        · intro r e
          have h1 := hgl r e
          refine ⟨fun z => ?_, fun hr => ?_⟩
          · rcases hz' r z with q | q
            · exact (hgb r e).1 q
            · omega
          · rcases hR.blks hr with q | q
            · exact (hgb r e).2 q
            · omega
        · refine d4.trans (hR.only.to_below d4.size (fun r hr e => ?_))
          have hbl : BlkR lb ev ps (.slice none 0 0) [] r := by
            rcases e with q | q
            · exact .inl q
            · exact .inr (.inl q)
          have h1 := (hK r hbl).2
          have h2 := HB0.out.size
          omega
        · refine d3.only hR.only (fun e => ?_)
          have hbl : BlkR lb ev ps (.slice none 0 0) [] wr.heap.size := by
            rcases e with q | q
            · exact .inl q
            · exact .inr (.inl q)
          have := hlt9 _ hbl
          omega
        · have := hR.only.size; omega
      have OKS : Hid ((stepE (lsOn l (eds.take k)) ed).bad = 0 → okOn l (eds.take (k + 1))) := fun h => okOn_snoc hed hok h
      have AT : Hid ((stepE (lsOn l (eds.take k)) ed).bad ≠ 0 → doB l eds = (((k : Nat) : Int), (stepE (lsOn l (eds.take k)) ed).bad)) := fun h => by rw [HDO.out]; exact doOn_at hed hok h
      have IDS : Hid (idsOn l (eds.take (k + 1)) = idsOn l (eds.take k) ++ (if ed.kind = 3 then [(stepE (lsOn l (eds.take k)) ed).id] else [])) := idsOn_snoc hed
      have hidl : (idsOn l (eds.take k)).length ≤ 51 := by
        have h1 := idsOn_len l (eds.take k)
        rw [List.length_take] at h1
        omega
      have h11 := step_le (lsOn l (eds.take k)) ed
      have F7 := Lib.hid (HF.out ed hmem)
      have HASK := Lib.hid ASK
      clear hed hok hC hPk hK hown hgb hB hba hEd hCa hPa hBa hZlt hlt9 ASK owna hfl hmem
      generalize hst : stepE (lsOn l (eds.take k)) ed = st at *
      have HST := Lib.hid hst
      clear hst
      generalize hids : idsOn l (eds.take k) = ids at *
      clear hids
      unfold ptr at HASK
      subst hwa
      go_wp2_with fail
      refine HASK.out.mono ?_
      rintro e W1 ⟨rfl, Z', hP1, ho1, hz1'⟩
      obtain ⟨d1, d2, d3, d4, d5, d6, d7⟩ := DONE.out W1 Z' hP1 ho1 hz1'
      have DO := do9_any d1 (by omega) ed (.slice fa ed.fields.length fc) d2 F7.out
      rw [HST.out] at DO
      have DO := Lib.hid DO
      have e0 : W1.cell? ⟨wr.heap.size, 0, none⟩ = some (.int .i64 ed.kind) := by rw [d3.cell 0]; rfl
      have e1 : W1.cell? ⟨wr.heap.size, 1, none⟩ = some (.int .i64 ed.id) := by rw [d3.cell 1]; rfl
      have e2 : W1.cell? ⟨wr.heap.size, 2, none⟩ = some (.slice fa ed.fields.length fc) := by rw [d3.cell 2]; rfl
      have HP1 := Lib.hid hP1
      have HO1 := Lib.hid ho1
      have HZ1 := Lib.hid hz1'
      have HD4 := Lib.hid d4
      clear d1 d2 d3 d4 d5 d6 hP1 ho1 hz1' HASK DONE
      unfold ptr at DO
      go_wp2_with fail
      refine DO.out.mono ?_
      rintro e W2 ⟨u, ev', ps', rfl, hR⟩
      obtain ⟨f1, f2, f3, f4, f5, f6, f7, f8⟩ := EDIT.out W1 W2 Z' u ev' ps' HP1.out HO1.out HZ1.out hR
      have herr := hR.err
      clear hR EDIT DO e0 e1 e2
      by_cases hb0 : st.bad = 0
      · obtain ⟨_, ⟨rfl, _⟩ | ⟨_, _, _, hx⟩⟩ := herr
        rotate_left
        · exact absurd hb0 hx
        rw [show errV st.bad = .nilIface by rw [hb0]; rfl]
        have OK1 := Lib.hid (OKS.out hb0)
        have g0 : W2.cell? ⟨wr.heap.size, 0, none⟩ = some (.int .i64 ed.kind) := by rw [f7.cell 0]; rfl
        by_cases h3 : ed.kind = 3
        · have IDS1 := IDS.out
          rw [if_pos h3] at IDS1
          have IDS1 := Lib.hid IDS1
          have HV9 : Hid (∀ (j : Nat) (u : Value), [encI st.id][j]? = some u → (W2.alloc (.cells #[.int .i64 st.id] 3)).cell? ((⟨W2.heap.size, 0, none⟩ : Addr).add j) = some u) := fun j u h => by
            have ea : (⟨W2.heap.size, 0, none⟩ : Addr).add j = ⟨W2.heap.size, j, none⟩ := by unfold Addr.add; split <;> simp_all
            rw [ea, (Cells.new W2 3 #[.int .i64 st.id]).cell j]
            simpa [encI] using h
          have HF1 := Lib.hid f1
          have HF2 := Lib.hid f2
          have HF3 := Lib.hid f3
          have HF4 := Lib.hid f4
          have HF5 := Lib.hid f5
          have HF6 := Lib.hid f6
          clear f1 f2 f3 f4 f5 f6 f7 IDS AT OKS
          rw [h3] at g0
          go_wp2_with (at_builtin; refine wpList_append_at rfl _ _ 46 rfl w.heap.size 3 i0 _ 1 8 Tryz.underlying46 hi hz0 hz1 hz2 rfl (by decide) _ _ _ rfl (HF4.out.alloc _) ⟨W2.heap.size, 0, none⟩ 1 1 _ rfl rfl HV9.out (by intro u hu; simp at hu; subst hu; rfl) (by unfold maxLen; omega) (by omega) (by simp only [World.size_alloc]; omega) ?_)
          intro gv' W4 own4 grow4 at4
          have at4' := at4.out
          have o4 : Only (fun r => (Value.slice ga ids.length gc).ownBlock = some r) W2 W4 :=
            (Only.of_below (S := fun r => (Value.slice ga ids.length gc).ownBlock = some r) ((Below.refl _ W2).alloc (Nat.le_refl _) (.cells #[.int .i64 st.id] 3)) (Nat.le_refl _)).grown grow4 (fun r e => .inl e)
          have hgl : ∀ r, (Value.slice ga ids.length gc).ownBlock = some r → w.heap.size ≤ r ∧ r < W2.heap.size := fun r e => HF4.out.lt r e
          have hblt : ∀ r, BlkR lb ev' ps' (.slice none 0 0) [] r → r < W2.heap.size := fun r hr => HF1.out.str.lt hr
          have hZlt := HSH.out.lt (k + 1) W2 Z' HF2.out
          have R1 : Carry w.heap.size W4 lb ev' ps' (lsOn l (eds.take (k + 1))) (m + (k + 1)) := HF1.out.only o4 (fun r hr e => (HF5.out r e).2 hr)
          have R2 : P (k + 1) W4 Z' := HSH.out.keep (k + 1) W2 W4 Z' _ HF2.out o4 (fun r hr e => (HF5.out r e).1 hr)
          have R4 : W4.ownsRow w.heap.size 3 1 gv' (idsOn l (eds.take (k + 1))).length ((idsOn l (eds.take (k + 1))).map encI) := by
            rw [IDS1.out, List.length_append, List.map_append]; exact own4
          have R5 : ∀ r, gv'.ownBlock = some r → ¬ Z' r ∧ ¬ BlkR lb ev' ps' (.slice none 0 0) [] r := by
            intro r e
            rcases at4' with q | q
            · exact HF5.out r (by rw [← q]; exact e)
            · rw [q] at e
              have e' : W2.heap.size + 1 = r := by simpa using e
              exact ⟨fun z => by have := (hZlt r z).2; omega, fun z => by have := hblt r z; omega⟩
          have R6 : Below w0.heap.size w0 W4 := HF6.out.trans (o4.to_below HF6.out.size (fun r hr e => by have := (hgl r e).1; have := HB0.out.size; omega))
          have hsz := o4.size
          have H1 := Lib.hid R1
          have H2 := Lib.hid R2
          have H4 := Lib.hid R4
          have H5 := Lib.hid R5
          have H6 := Lib.hid R6
          clear R1 R2 R4 R5 R6 o4 hgl hblt hZlt own4 grow4 at4 at4' HV9 HF1 HF2 HF4 HF5 HF6
          go_wp2_with fail
          go_roundw
          case rel => exact ⟨k + 1, ev', ps', Z', _, rfl, hlt, by go_num, OK1.out, H1.out, H2.out, HF3.out, H4.out, H5.out, H6.out, by omega⟩
          case measure => simp [intOf]; omega
        · have IDS1 := IDS.out
          rw [if_neg h3, List.append_nil] at IDS1
          have q3 : (ed.kind == 3) = false := by simpa using h3
          have R4 : W2.ownsRow w.heap.size 3 1 (.slice ga ids.length gc) (idsOn l (eds.take (k + 1))).length ((idsOn l (eds.take (k + 1))).map encI) := by rw [IDS1]; exact f4
          have H1 := Lib.hid f1
          have H2 := Lib.hid f2
          have H3 := Lib.hid f3
          have H4 := Lib.hid R4
          have H5 := Lib.hid f5
          have H6 := Lib.hid f6
          clear f1 f2 f3 f4 f5 f6 f7 IDS AT OKS R4 IDS1
          go_wp2_with fail
          go_roundw
          case rel => exact ⟨k + 1, ev', ps', Z', _, rfl, hlt, by go_num, OK1.out, H1.out, H2.out, H3.out, H4.out, H5.out, H6.out, by omega⟩
          case measure => simp [intOf]; omega
      · have FA := Lib.hid (fault_any k st.bad st.at_ u W2 herr hb0 (HG.out.below f6 (Nat.le_refl _)))
        have AT1 := AT.out hb0
        have hform : (∃ z, u = .iface 70 (.int .i64 z)) ∨ ∃ q, u = .iface 77 (.pointer (some ⟨q, 0, none⟩)) := by
          obtain ⟨_, ⟨rfl, _⟩ | ⟨_, ⟨q, _, rfl, _⟩, _, _⟩⟩ := herr
          · rw [errV_pos st.bad (by omega)]; exact .inl ⟨_, rfl⟩
          · exact .inr ⟨q, rfl⟩
        have FIN : Hid (∀ W3 u', Below W2.heap.size W2 W3 → FaultAt W2.heap.size W3 u' k st.bad → PlayR w0 w W3 l m eds P (.returned (.tuple #[.pointer none, .slice none 0 0, u']))) := by
          intro W3 u' b3 hfa
          refine ⟨f6.trans (b3.mono f6.size), by have := b3.size; omega, .inl ⟨by rw [AT1]; exact hb0, u', rfl, ?_⟩⟩
          rw [AT1]
          exact ErrZ.fault (hfa.mono (by omega)) hb0 h11
        clear herr f1 f2 f3 f4 f5 f6 f7 IDS AT OKS
        rcases hform with ⟨z, rfl⟩ | ⟨q, rfl⟩
        all_goals
          go_wp2_with fail
          refine FA.out.mono ?_
          rintro e w3 ⟨u', rfl, b3, hfa⟩
          have FIN3 := Lib.hid (FIN.out w3 u' b3 hfa)
          clear hfa b3
          go_wp2_with fail
          go_ret3
          exact FIN3.out
    · obtain rfl : k = eds.length := by omega
      rw [List.take_length] at hok hC hown
      have FIN : Hid (PlayR w0 w wr l m eds P (.returned (.tuple #[ptr lb, gv, .nilIface]))) := by
        show PlayR _ _ _ _ _ _ _ _
        exact ⟨hB, hwr, .inr ⟨by rw [HDO.out]; exact doOn_ok 0 l eds hok, HCZ.out, hok, lb, ev, ps, gv, Z, rfl, hC, hPk, hK, hown⟩⟩
      obtain ⟨ga, gc, rfl⟩ : ∃ A c, gv = .slice A (idsOn l eds).length c := by
        rcases hown.2 with ⟨rfl, hn⟩ | ⟨g', cap', cur', rfl, _⟩
        · exact ⟨none, 0, by rw [hn]⟩
        · exact ⟨_, _, rfl⟩
      clear PC hok hC hown hK hgb hPk
      unfold ptr at FIN
      go_wp2_with fail
      go_ret3
      exact FIN.out
end Go.Proofs.YtflnlenkgbphpaaGreatDoor

namespace Go.Proofs.YtflnlenkgbphpaaGreatDoor
open Go.RowKit Go.Shelf
attribute [local go_sem] Oper.semAt_some

set_option maxHeartbeats 1000000 in
theorem nilGet (id : Int) (w : World) : Calls Tryz.prog 81 #[.pointer none, .int .i64 id] w fun e w' => e = .returned (.tuple #[.slice none 0 0, .bool false]) ∧ Below w.heap.size w w' := by
  have FD := Lib.hid (find_nil id w)
  go_enter Tryz.func81, Tryz.ntmps81
  go_wp2_with fail
  refine FD.out.mono ?_
  rintro e w1 ⟨rfl, b1⟩
  go_wp2_with fail
  go_ret2
  exact ⟨rfl, b1⟩
set_option maxHeartbeats 1000000 in
theorem nilReplace (id : Int) (A : Option Addr) (n c : Nat) (w : World) : Calls Tryz.prog 102 #[.pointer none, .int .i64 id, .slice A n c] w fun e w' => e = .returned (.iface 70 (.int .i64 7)) ∧ Below w.heap.size w w' := by
  have FD := Lib.hid (find_nil id w)
  go_enter Tryz.func102, Tryz.ntmps102
  go_wp2_with fail
  refine FD.out.mono ?_
  rintro e w1 ⟨rfl, b1⟩
  go_wp2_with fail
  go_ret
  exact ⟨rfl, b1⟩
set_option maxHeartbeats 1000000 in
theorem nilDelete (id : Int) (w : World) : Calls Tryz.prog 103 #[.pointer none, .int .i64 id] w fun e w' => e = .returned (.iface 70 (.int .i64 7)) ∧ Below w.heap.size w w' := by
  have FD := Lib.hid (find_nil id w)
  go_enter Tryz.func103, Tryz.ntmps103
  go_wp2_with fail
  refine FD.out.mono ?_
  rintro e w1 ⟨rfl, b1⟩
  go_wp2_with fail
  go_ret
  exact ⟨rfl, b1⟩
set_option maxHeartbeats 1000000 in
theorem nilInsert (id : Int) (A : Option Addr) (n c : Nat) (w : World) : Calls Tryz.prog 104 #[.pointer none, .int .i64 id, .slice A n c] w fun e w' => e = .returned (.tuple #[.int .i64 0, .iface 70 (.int .i64 7)]) ∧ Below w.heap.size w w' := by
  have FD := Lib.hid (gap_nil id w)
  go_enter Tryz.func104, Tryz.ntmps104
  go_wp2_with fail
  refine FD.out.mono ?_
  rintro e w1 ⟨⟨k, rfl⟩, b1⟩
  go_wp2_with fail
  go_ret2
  exact ⟨rfl, b1⟩
theorem nilCopy (w : World) : Calls Tryz.prog 69 #[.pointer none] w fun e w' => e = .returned (.pointer none) ∧ Below w.heap.size w w' := by
  go_enter Tryz.func69, Tryz.ntmps69
  go_wp2_with fail
  go_ret
  exact ⟨rfl, Below.refl _ _⟩
theorem nilPlace (id : Int) (w : World) : Calls Tryz.prog 112 #[.pointer none, .int .i64 id] w fun e w' => e = .returned (.int .i64 (-1)) ∧ Below w.heap.size w w' :=
  place_gen [] (.slice none 0 0) none id w (fun W _ => AllR.none W) (by decide)
end Go.Proofs.YtflnlenkgbphpaaGreatDoor

namespace Go.Proofs.YtflnlenkgbphpaaGreatDoor
open Go.RowKit Go.Shelf
attribute [local go_sem] Oper.semAt_some

/-- What owns nothing, shows nothing. -/
def NoShow (_ : Nat) (_ : World) (Z : Nat → Prop) : Prop := ∀ r, ¬ Z r
set_option maxRecDepth 100000 in
theorem shows_none (w0 : World) (N1 : Nat) (l0 : LS) (eds : List Ed) : Shows 48 #[] w0 N1 l0 eds NoShow := by
  refine ⟨enters_of Tryz.func48 (by kernel_rfl) rfl, fun j W Z h r hr => absurd hr (h r), fun j W W' Z S h _ _ => h, ?_⟩
  intro j ed fv W Z lb ev ps m hed _ hP hB hC hm hZ hfl hform
  obtain ⟨fa, fc, rfl⟩ := hform
  have hb : Below W.heap.size W (W.alloc (.cells #[.int .i64 ed.kind, .int .i64 ed.id, .slice fa ed.fields.length fc] 33)) := (Below.refl _ W).alloc (Nat.le_refl _) _
  have H : Hid (∃ Z', NoShow (j + 1) (W.alloc (.cells #[.int .i64 ed.kind, .int .i64 ed.id, .slice fa ed.fields.length fc] 33)) Z' ∧ Only Z W (W.alloc (.cells #[.int .i64 ed.kind, .int .i64 ed.id, .slice fa ed.fields.length fc] 33)) ∧ ∀ r, Z' r → Z r ∨ W.heap.size ≤ r) :=
    ⟨Z, hP, Only.of_below hb (Nat.le_refl _), fun r hr => .inl hr⟩
  clear hed hP hB hC hZ hfl hb
  unfold ptr
  show Calls _ _ #[.pointer (some ⟨lb, 0, none⟩), .agg #[.int .i64 ed.kind, .int .i64 ed.id, .slice fa ed.fields.length fc]] _ _
  go_enter Tryz.func48, Tryz.ntmps48
  go_wp2_with fail
  go_end0
  exact ⟨rfl, H.out⟩
/-- What Do comes to. -/
def DoR (w w' : World) (l : LS) (m : Nat) (eds : List Ed) (e : Ending) : Prop :=
  Below w.heap.size w w' ∧
  (((doB l eds).2 ≠ 0 ∧ ∃ u, e = .returned (.tuple #[.pointer none, .slice none 0 0, u]) ∧ ErrZ w.heap.size w' u (doB l eds).1 (doB l eds).2) ∨
  (doB l eds = (-9, 0) ∧ chkB eds = (-9, 0) ∧ okOn l eds ∧ ∃ lb ev ps gv, e = .returned (.tuple #[ptr lb, gv, .nilIface]) ∧ Carry w.heap.size w' lb ev ps (lsOn l eds) (m + eds.length) ∧
    (∀ r, BlkR lb ev ps (.slice none 0 0) [] r → w.heap.size ≤ r) ∧ w'.ownsRow w.heap.size 3 1 gv (idsOn l eds).length ((idsOn l eds).map encI)))
set_option maxRecDepth 100000 in
set_option maxHeartbeats 4000000 in
theorem Do_any {S00 : Nat} {w : World} (eds : List Ed) (v : Value) (hv : EdV w v eds) (hl : eds.length ≤ 51) (hf : Fines eds) (hsm : Smalls eds) (hg : ErrT w)
    {lb0 : Nat} {ev0 : Value} {ps0 : List Pr} {l : LS} {m : Nat} (C : Carry S00 w lb0 ev0 ps0 l m) (hm : m ≤ 5000) :
    Calls Tryz.prog 21 #[ptr lb0, v] w fun e w' => DoR w w' l m eds e := by
  have PL := Lib.hid (play_any (Below.refl _ w) eds v hv hl hf hsm hg C hm (shows_none w w.heap.size l eds) (Z0 := fun _ => False) (fun _ h => h))
  obtain ⟨A, cap, rfl, _⟩ := hv
  unfold ptr at *
  clear hf hsm hg C
  go_enter Tryz.func21, Tryz.ntmps21
  go_wp2_with fail
  refine PL.out.mono ?_
  rintro e w1 ⟨b1, _, ⟨h0, u, rfl, hz⟩ | ⟨h1, h2, h3, lb, ev, ps, gv, Z, rfl, hC, _, hK, hown⟩⟩
  · have R : Hid (DoR w w1 l m eds (.returned (.tuple #[.pointer none, .slice none 0 0, u]))) := ⟨b1, .inl ⟨h0, u, rfl, hz⟩⟩
    clear hz b1 PL
    go_wp2_with fail
    go_ret3
    exact R.out
  · have R : Hid (DoR w w1 l m eds (.returned (.tuple #[.pointer (some ⟨lb, 0, none⟩), gv, .nilIface]))) := ⟨b1, .inr ⟨h1, h2, h3, lb, ev, ps, gv, rfl, hC, (fun r hr => (hK r hr).2), hown⟩⟩
    clear hC hK hown b1 PL
    unfold ptr
    go_wp2_with fail
    go_ret3
    exact R.out
set_option maxRecDepth 100000 in
set_option maxHeartbeats 4000000 in
theorem do9_none (w : World) (ed : Ed) (fa : Option Addr) (fc : Nat) :
    Calls Tryz.prog 70 #[.pointer none, .agg #[.int .i64 ed.kind, .int .i64 ed.id, .slice fa ed.fields.length fc]] w fun e w' => ∃ z : Int, e = .returned (.tuple #[.int .i64 z, .iface 70 (.int .i64 7)]) ∧ Below w.heap.size w w' := by
  obtain ⟨wa, hwa⟩ : ∃ wa, wa = w.alloc (.cells #[.int .i64 ed.kind, .int .i64 ed.id, .slice fa ed.fields.length fc] 33) := ⟨_, rfl⟩
  have hba := Lib.hid (show Below w.heap.size w wa by rw [hwa]; exact (Below.refl _ w).alloc (Nat.le_refl _) _)
  have R1 := Lib.hid (nilReplace ed.id fa ed.fields.length fc wa)
  have R2 := Lib.hid (nilDelete ed.id wa)
  have R3 := Lib.hid (nilInsert ed.id fa ed.fields.length fc wa)
  by_cases h1 : ed.kind = 1
  · rw [h1] at hwa ⊢
    subst hwa
    go_enter Tryz.func70, Tryz.ntmps70
    go_wp2_with fail
    refine R1.out.mono ?_
    rintro e w2 ⟨rfl, b2⟩
    have B2 := Lib.hid (hba.out.trans (b2.mono hba.out.size))
    clear b2
    go_wp2_with fail
    go_ret2
    exact ⟨_, rfl, B2.out⟩
  · by_cases h2 : ed.kind = 2
    · rw [h2] at hwa ⊢
      subst hwa
      go_enter Tryz.func70, Tryz.ntmps70
      go_wp2_with fail
      refine R2.out.mono ?_
      rintro e w2 ⟨rfl, b2⟩
      have B2 := Lib.hid (hba.out.trans (b2.mono hba.out.size))
      clear b2
      go_wp2_with fail
      go_ret2
      exact ⟨_, rfl, B2.out⟩
    · have q1 : (ed.kind == 1) = false := by simpa using h1
      have q2 : (ed.kind == 2) = false := by simpa using h2
      subst hwa
      go_enter Tryz.func70, Tryz.ntmps70
      go_wp2_with fail
      refine R3.out.mono ?_
      rintro e w2 ⟨rfl, b2⟩
      have B2 := Lib.hid (hba.out.trans (b2.mono hba.out.size))
      clear b2
      go_wp2_with fail
      go_ret2
      exact ⟨_, rfl, B2.out⟩
/-- Where a batch on no list is refused, why. -/
def noB (eds : List Ed) : Int × Nat := if (chkB eds).2 = 0 then (0, 7) else chkB eds
set_option maxRecDepth 100000 in
set_option maxHeartbeats 4000000 in
theorem play_none {w0 w : World} (hB0 : Below w0.heap.size w0 w) (eds : List Ed) (v : Value) (hv : EdV w0 v eds) (hl : eds.length ≤ 51) (hf : Fines eds) (hg : ErrT w0)
    (g : Nat) (cb : Array Value) (heg : ∀ args w, (callFunc g args).run Tryz.prog w = .ok (.enter g args) w)
    (ask : ∀ (W : World) (ed : Ed) (fa : Option Addr) (fc : Nat), goodE ed = 0 → Below w.heap.size w W → Calls Tryz.prog g (#[.pointer none, .agg #[.int .i64 ed.kind, .int .i64 ed.id, .slice fa ed.fields.length fc]] ++ cb) W fun e W' => e = .returned (.tuple #[]) ∧ Only (fun r => w0.heap.size ≤ r ∧ r < w.heap.size) W W') :
    Calls Tryz.prog 47 #[.pointer none, v, .func (.func g) #[] cb] w fun e w' => Below w0.heap.size w0 w' ∧ ∃ u, e = .returned (.tuple #[.pointer none, .slice none 0 0, u]) ∧ ErrZ w0.heap.size w' u (noB eds).1 (noB eds).2 ∧ (noB eds).2 ≠ 0 := by
  have HB0 := Lib.hid hB0
  have CK := Lib.hid (checkB_any eds v w (hv.below hB0 (Nat.le_refl _)) (by omega) hf (hg.below hB0 (Nat.le_refl _)))
  obtain ⟨A, cap, rfl, hle, hc⟩ := _root_.id hv
  have PC := Lib.hid hc
  have HG := Lib.hid hg
  have ASK := Lib.hid ask
  clear hc hf hg hB0 ask hv
  go_enter Tryz.func47, Tryz.ntmps47
  go_wp2_with fail
  refine CK.out.mono ?_
  rintro e w1 ⟨u, rfl, b1, hz⟩
  have B1 := Lib.hid (HB0.out.trans (b1.mono HB0.out.size))
  by_cases hb0 : (chkB eds).2 = 0
  rotate_left
  · have hno : noB eds = chkB eds := by unfold noB; rw [if_neg hb0]
    have FIN : Hid (∃ u', Ending.returned (.tuple #[.pointer none, .slice none 0 0, u]) = .returned (.tuple #[.pointer none, .slice none 0 0, u']) ∧ ErrZ w0.heap.size w1 u' (noB eds).1 (noB eds).2 ∧ (noB eds).2 ≠ 0) := by
      show ∃ _, _
      rw [hno]
      exact ⟨u, rfl, hz.mono HB0.out.size, hb0⟩
    have hform : (∃ z, u = .iface 70 (.int .i64 z)) ∨ ∃ q, u = .iface 77 (.pointer (some ⟨q, 0, none⟩)) := by
      obtain ⟨_, ⟨rfl, _⟩ | ⟨_, ⟨q, _, rfl, _⟩, _, _⟩⟩ := hz
      · rw [errV_pos _ (by omega)]; exact .inl ⟨_, rfl⟩
      · exact .inr ⟨q, rfl⟩
    clear hz b1 CK
    rcases hform with ⟨z, rfl⟩ | ⟨q, rfl⟩
    all_goals
      go_wp2_with fail
      go_ret3
      exact ⟨B1.out, FIN.out⟩
  have hcz := chkB_zero hb0
  rw [hcz] at hz
  obtain ⟨⟨c1, c40⟩, hgood⟩ := chkB_good hb0
  have NO := Lib.hid (show noB eds = (0, 7) by unfold noB; rw [if_pos hb0])
  obtain ⟨_, ⟨rfl, _⟩ | ⟨_, _, _, hx⟩⟩ := hz
  rotate_left
  · exact absurd rfl hx
  have CP := Lib.hid (nilCopy w1)
  have HB1 := Lib.hid b1
  have GOOD := Lib.hid hgood
  clear hgood hcz hb0 CK b1
  rw [show errV 0 = .nilIface from rfl]
  go_wp2_with fail
  refine CP.out.mono ?_
  rintro e w2 ⟨rfl, b2⟩
  have B2 := Lib.hid (HB1.out.trans (b2.mono HB1.out.size))
  have B02 := Lib.hid (B1.out.trans (b2.mono B1.out.size))
  clear b2 CP B1 HB1
  obtain ⟨ed, hed⟩ : ∃ ed, eds[0]? = some ed := ⟨_, List.getElem?_eq_getElem (by omega)⟩
  obtain ⟨b, off, fv, rfl, hbb, d0, d1, d2, hfl⟩ := PC.out 0 ed hed
  obtain ⟨fa, fc, rfl⟩ := hfl.form
  replace d0 := (B02.out.cell (p := ⟨b, off + 0 * 3, none⟩) hbb).trans d0
  replace d1 := (B02.out.cell (p := ⟨b, off + 0 * 3 + 1, none⟩) hbb).trans d1
  replace d2 := (B02.out.cell (p := ⟨b, off + 0 * 3 + 1 + 1, none⟩) hbb).trans d2
  simp only [Nat.zero_mul, Nat.add_zero] at d0 d1 d2
  obtain ⟨wa, hwa⟩ : ∃ wa, wa = w2.alloc (.cells #[.int .i64 ed.kind, .int .i64 ed.id, .slice fa ed.fields.length fc] 33) := ⟨_, rfl⟩
  have hba : Below w2.heap.size w2 wa := by rw [hwa]; exact (Below.refl _ w2).alloc (Nat.le_refl _) _
  have SH := Lib.hid (ASK.out wa ed fa fc (GOOD.out ed (List.mem_of_getElem? hed)) (B2.out.trans (hba.mono B2.out.size)))
  have hln : (0 : Int) < (eds.length : Int) := by omega
  have hEd : Cells wa w2.heap.size 33 #[.int .i64 ed.kind, .int .i64 ed.id, .slice fa ed.fields.length fc] := by rw [hwa]; exact Cells.new _ _ _
  have Ba := Lib.hid (B02.out.trans (hba.mono B02.out.size))
  have AFT : Hid (∀ W1, Only (fun r => w0.heap.size ≤ r ∧ r < w.heap.size) wa W1 → Below w0.heap.size w0 W1 ∧ W1.cell? ⟨w2.heap.size, 0, none⟩ = some (.int .i64 ed.kind) ∧ W1.cell? ⟨w2.heap.size, 1, none⟩ = some (.int .i64 ed.id) ∧ W1.cell? ⟨w2.heap.size, 2, none⟩ = some (.slice fa ed.fields.length fc)) := by
    intro W1 ho
    have h1 : Cells W1 w2.heap.size 33 #[.int .i64 ed.kind, .int .i64 ed.id, .slice fa ed.fields.length fc] := hEd.only ho (fun e => by have := B2.out.size; omega)
    exact ⟨Ba.out.trans (ho.to_below Ba.out.size (fun r hr e => by omega)), by rw [h1.cell 0]; rfl, by rw [h1.cell 1]; rfl, by rw [h1.cell 2]; rfl⟩
  clear hba hed hfl PC ASK hEd
  subst hwa
  go_wp2_with fail
  refine wp_loop_rounds 1 ?_
  rw [rounds_succ]
  go_wp2_with fail
  refine SH.out.mono ?_
  rintro e W1 ⟨rfl, ho⟩
  obtain ⟨f0, f1, f2, f3⟩ := AFT.out W1 ho
  have DO := Lib.hid (do9_none W1 ed fa fc)
  have HF0 := Lib.hid f0
  clear AFT ho SH f0
  go_wp2_with fail
  refine DO.out.mono ?_
  rintro e W2 ⟨z, rfl, b4⟩
  have B4 := Lib.hid (HF0.out.trans (b4.mono HF0.out.size))
  have FA := Lib.hid (fault_any 0 7 (-9) (.iface 70 (.int .i64 7)) W2 (ErrZ.err w0.heap.size W2 7 (by decide)) (by decide) (HG.out.below B4.out (Nat.le_refl _)))
  have hsz := B4.out.size
  clear b4 f1 f2 f3 DO
  go_wp2_with fail
  refine FA.out.mono ?_
  rintro e W3 ⟨u', rfl, b5, hfa⟩
  have B5 := Lib.hid (B4.out.trans (b5.mono B4.out.size))
  have FIN : Hid (∃ u, Ending.returned (.tuple #[.pointer none, .slice none 0 0, u']) = .returned (.tuple #[.pointer none, .slice none 0 0, u]) ∧ ErrZ w0.heap.size W3 u (noB eds).1 (noB eds).2 ∧ (noB eds).2 ≠ 0) := by
    show ∃ _, _
    rw [NO.out]
    exact ⟨u', rfl, ErrZ.fault (hfa.mono hsz) (by decide) (by decide), by decide⟩
  clear b5 hfa FA
  go_wp2_with fail
  go_ret3
  exact ⟨B5.out, FIN.out⟩
end Go.Proofs.YtflnlenkgbphpaaGreatDoor

namespace Go.Proofs.YtflnlenkgbphpaaGreatDoor

structure GkP (p : PS) : Prop where
  fl : ∀ f ∈ p.fields, checkN f.1 f.2 = 0
  each : ∀ it ∈ p.items, (∀ f ∈ it.fields, checkN f.1 f.2 = 0) ∧ (it.kind = 3 → it.fields.length ≠ 0)
theorem GkP.endField {p : PS} (h : GkP p) (h0 : endFieldN p = 0) : GkP (endFieldP p) := by
  unfold endFieldP
  split
  · exact h
  · rename_i hs
    unfold endFieldN at h0
    rw [if_neg hs] at h0
    have hu : unfoldN p.said = 0 := by
      by_cases q : unfoldN p.said = 0
      · exact q
      · rw [if_pos q] at h0; exact h0
    refine ⟨fun f hf => ?_, h.each⟩
    rcases List.mem_append.1 hf with hf | hf
    · exact h.fl f hf
    · rw [List.mem_singleton.1 hf]; exact (unfold_zero hu).1
theorem GkP.endItem {t : List UInt8} {p : PS} (h : GkP p) (kind e : Nat) (hk : kind = 3 → p.fields.length ≠ 0) : GkP (endItemP t p kind e) :=
  ⟨fun f hf => (by cases hf), fun it hi => by
    rcases List.mem_append.1 hi with hi | hi
    · exact h.each it hi
    · rw [List.mem_singleton.1 hi]
      exact ⟨h.fl, fun q => hk (by have q' : ((kind : Nat) : Int) = 3 := q; omega)⟩⟩
theorem GkP.endBlock {t : List UInt8} {p : PS} (h : GkP p) (e : Nat) : GkP (endBlockP t p e) := by
  unfold endBlockP
  split
  · exact h
  · split
    · exact h.endItem 2 e (fun q => absurd q (by decide))
    · rename_i hl
      exact ⟨(h.endItem (t := t) 3 e (fun _ => hl)).fl, (h.endItem (t := t) 3 e (fun _ => hl)).each⟩
theorem GkP.went {p : PS} (h : GkP p) (x : Ln) : GkP (wentP p x) := by
  unfold wentP
  split
  · exact ⟨h.fl, h.each⟩
  · exact h
theorem GkP.take {t : List UInt8} {p q : PS} {x : Ln} (h : GkP p) (he : takeP t p x = .ok q) : GkP q := by
  obtain ⟨h1, _, rfl⟩ := take_parts he
  have h2 : GkP (thenP p x) := by
    unfold thenP
    split
    · rename_i q; exact (h.went x).endField (h1 q)
    · exact h.went x
  unfold putP
  split
  · exact ⟨h2.fl, h2.each⟩
  · split
    · exact ⟨((h2.endBlock x.at_).endItem 1 _ (fun q => absurd q (by decide))).fl, ((h2.endBlock x.at_).endItem 1 _ (fun q => absurd q (by decide))).each⟩
    · exact ⟨h2.fl, h2.each⟩
theorem GkP.run (t : List UInt8) : ∀ (xs : List Ln) (p q : PS), GkP p → runP t p xs = .ok q → GkP q
  | [], p, q, h, he => by cases he; exact h
  | x :: xs, p, q, h, he => by
    unfold runP at he
    cases ht : takeP t p x with
    | error e => rw [ht] at he; cases he
    | ok p1 =>
      rw [ht] at he
      exact GkP.run t xs p1 q (h.take ht) he
/-- All stanzas' fields are a stanza's. -/
def GkL (es : List En) : Prop := ∀ e ∈ es, e.1.kind = 3 → chkN e.1.fields = 0
theorem GkL.edit {l : LS} (h : GkL l.es) (kind id : Int) (fs : List Fld) : GkL (editR l kind id fs).ls.es := fun e he h3 => by
  rcases edit_mem l kind id fs e he with h1 | ⟨h1, h2⟩
  · exact h e h1 h3
  · rw [h1]; exact h2
theorem GkL.on {l : LS} (h : GkL l.es) : ∀ (eds : List Ed), GkL (lsOn l eds).es := by
  intro eds
  induction eds generalizing l with
  | nil => exact h
  | cons ed r ih => exact ih (h.edit ed.kind ed.id ed.fields)

def szE (es : List En) : List (Int × List Fld) := (es.filter fun e => decide (0 < e.2)).map fun e => (e.2, e.1.fields)
theorem szE_len (es : List En) : (szE es).length = lenR es := by unfold szE lenR; rw [List.length_map]
end Go.Proofs.YtflnlenkgbphpaaGreatDoor

namespace Go.Proofs.YtflnlenkgbphpaaGreatDoor

/-- The fields of a stanza. -/
def wasE (es : List En) (id : Int) : List Fld := match (findR es id).bind (es[·]?) with | some e => e.1.fields | none => []
/-- The stanza ahead of another one; 0: none. -/
def aheadZ (rs : List (Int × List Fld)) (id : Int) : Int := match rs.findIdx? fun s => s.1 == id with
  | some (k + 1) => ((rs[k]?).map Prod.fst).getD 0
  | _ => 0
end Go.Proofs.YtflnlenkgbphpaaGreatDoor

namespace Go.Proofs.YtflnlenkgbphpaaGreatDoor
open Go.RowKit Go.Shelf
attribute [local go_sem] Oper.semAt_some

theorem stzL_sz {ps : List Pr} (h : WF (ps.map Prod.fst)) : stzL (stzP 0 ps) = szE (ps.map Prod.fst) := by
  have e1 := stzG_map (κ := fun e : En => e.1.kind) (Prod.fst : Pr → En) 0 ps
  have e2 := stz_filter 0 (ps.map Prod.fst) h
  unfold szE
  rw [← e2]
  show List.map _ (stzP 0 ps) = List.map _ (List.map Prod.snd (stzG (fun e : En => e.1.kind) 0 (ps.map Prod.fst)))
  rw [← e1, List.map_map, List.map_map]
  rfl
set_option maxRecDepth 100000 in
theorem ret_step {fn : Func} {p : Tmp} (h : fn.results = #[.cell p 109]) (tmps : Array Value) (w : World) (b : Nat) (cur : Array Value) (hp : tmps.getD p undef = .pointer (some ⟨b, 0, none⟩))
    (hc : Cells w b 109 cur) (hz : cur.size = 6) : (results fn tmps).run Tryz.prog w = .ok (.agg cur) w := by
  have L := run_loadVar_row (P := Tryz.prog) w b 109 109 cur (0, 0) _ hc Tryz.underlying109 rfl (by rw [hz]; kernel_rfl)
  rw [results_cell1 h, hp]
  show (loadVar _ _).run _ _ = _
  exact L
end Go.Proofs.YtflnlenkgbphpaaGreatDoor

