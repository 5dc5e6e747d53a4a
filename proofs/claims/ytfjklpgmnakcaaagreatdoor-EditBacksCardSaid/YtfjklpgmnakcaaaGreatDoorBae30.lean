/- Texts put together: AO, KZ. -/
import Derived.WideShapes
import Derived.Test.YtfjklpgmnakcaaaGreatDoorBae17
import Derived.Test.YtfjklpgmnakcaaaGreatDoorBae22
import Derived.Test.YtfjklpgmnakcaaaGreatDoorBae24
import Derived.Test.YtfjklpgmnakcaaaGreatDoorBae29
set_option linter.unusedVariables false
set_option maxRecDepth 100000
set_option maxHeartbeats 16000000
namespace Go.Proofs.YtfjklpgmnakcaaaGreatDoor
open Go.RowKit Go.Shelf Go.Maps Go.ChangeShapes Go.Joins Go.WideShapes
theorem wf_I64 {n : Int} (h : (Lit.int IntKind.i64 n).wf = true) : I64 n := by
  unfold Lit.wf at h
  rw [Bool.and_eq_true] at h
  exact ⟨by have := of_decide_eq_true h.1; exact this, by have := of_decide_eq_true h.2; exact this⟩
theorem edit_inB {H : Type} {enc : TypeId × Value -> H} {W : World} {base : Nat} {sp : Nat -> Bool} {held : Bool} {fuel : Nat} {cs : List Value} {x : DataW H × List MemPlace} (h : DataW.trod enc Tryz.prog W base sp held fuel 53 cs = some x) :
    ∃ k i fv, cs = [.int .i64 k, .int .i64 i, fv] /\ I64 i := by
  obtain ⟨xs, m, _, _, hl, hxl, hf⟩ := DataW.trod_struct Tryz.underlying53 h
  have hl2 : cs.length = 3 := hl.trans (by kernel_rfl)
  obtain ⟨c0, c1, c2, rfl⟩ := cells3 hl2
  have k3 : Tryz.prog.cellsOf 3 = 1 := by kernel_rfl
  have hx : ∀ i, i < 3 -> ∃ y, xs[i]? = some y := fun i hi => ⟨_, List.getElem?_eq_getElem (by rw [hxl]; exact hi)⟩
  obtain ⟨y0, e0⟩ := hx 0 (by decide)
  obtain ⟨y1, e1⟩ := hx 1 (by decide)
  have q0 : DataW.trod enc Tryz.prog W base sp held m 3 (List.take (Tryz.prog.cellsOf 3) [c0, c1, c2]) = _ := hf 0 _ rfl
  have q1 : DataW.trod enc Tryz.prog W base sp held m 3 (List.take (Tryz.prog.cellsOf 3) [c1, c2]) = _ := hf 1 _ rfl
  rw [k3, e0] at q0
  rw [k3, e1] at q1
  obtain ⟨kind, f0, _, _⟩ := DataW.trod_int Tryz.underlying3 q0
  obtain ⟨id, f1, _, hw⟩ := DataW.trod_int Tryz.underlying3 q1
  simp at f0 f1
  subst f0 f1
  exact ⟨kind, id, c2, rfl, wf_I64 hw⟩
theorem edits_inB {H : Type} {enc : TypeId × Value -> H} {W : World} {base : Nat} {sp : Nat -> Bool} {held : Bool} {fuel : Nat} {v : Value} {x : DataW H × List MemPlace} (h : DataW.trod enc Tryz.prog W base sp held fuel 22 [v] = some x) :
    ∃ eds, EdsIn W v eds /\ ∀ ed ∈ eds, I64 ed.id := by
  obtain ⟨eds, hE⟩ := edits_in h
  refine ⟨eds, hE, fun ed hm => ?_⟩
  obtain ⟨i, hi, e⟩ := List.mem_iff_getElem.1 hm
  have he : eds[i]? = some ed := by rw [List.getElem?_eq_getElem hi, e]
  obtain ⟨_, A, cap, rfl, hle, hc⟩ := hE
  obtain ⟨b, off, fv, rfl, hb, c0, c1, c2, _⟩ := hc i ed he
  rcases DataW.trod_slice Tryz.underlying22 h with ⟨q, _⟩ | ⟨a, len, cap', elems, rest, n, _, q, _, _, hl, hm', hlen, hel, _, _⟩
  . simp at q
  obtain ⟨rfl, rfl, rfl⟩ : a = ⟨b, off, none⟩ /\ len = eds.length /\ cap' = cap := by
    simp at q
    obtain ⟨q1, q2, q3⟩ := q
    exact ⟨q1.symm, q2.symm, q3.symm⟩
  have k3 : Tryz.prog.cellsOf 53 = 3 := by kernel_rfl
  have h1 := hel i hi
  rw [k3, List.getElem?_eq_getElem (by omega)] at h1
  obtain ⟨cs, hcs, ht⟩ := Option.bind_eq_some_iff.1 h1
  obtain ⟨k, z, fv', rfl, hz⟩ := edit_inB ht
  obtain ⟨_, _, hat⟩ := World.cells?_some hcs
  have d1 := hat 1 (by decide)
  rw [WideShapes.add_plain] at d1
  have e2 : some (Value.int .i64 ed.id) = some (.int .i64 z) := by rw [<- c1]; simpa [WideShapes.add_plain] using d1
  have : ed.id = z := by injection e2 with e2; injection e2
  rw [this]; exact hz
end Go.Proofs.YtfjklpgmnakcaaaGreatDoor
namespace Go.Proofs.YtfjklpgmnakcaaaGreatDoor
open Go.RowKit Go.Shelf
attribute [local go_sem] Oper.semAt_some
theorem I64.wf9 {n : Int} (h : I64 n) : (Lit.int .i64 n).wf = true := by
  obtain ⟨h1, h2⟩ := h
  simp [Lit.wf, IntKind.min, IntKind.max, IntKind.signed, IntKind.bits]
  omega
theorem backsLaw (s : ByteArray) (hs : s.size <= maxLen) (eds : List Ed) (v1 : Value) (w : World) (ha : EdsIn w v1 eds) (hids : ∀ ed ∈ eds, I64 ed.id) (hg : ErrT w) :
    Calls Tryz.prog 3 #[.string s, v1] w fun e w' => e = .returned (.bool true) /\ Below w.heap.size w w' := by
  have AL := Lib.hid (alive9_any w hg)
  have HEA := Lib.hid ha
  have HG := Lib.hid hg
  have IDS := Lib.hid hids
  unfold maxLen at hs
  obtain ⟨va, vac, rfl, _⟩ : ∃ A c, v1 = .slice A eds.length c /\ True := by obtain ⟨_, A, c, e, _⟩ := ha; exact ⟨A, c, e, trivial⟩
  clear ha hg hids
  go_enter Tryz.func3, Tryz.ntmps3
  go_wp2_with fail
  refine AL.out.mono ?_
  rintro e w1 ⟨rfl, b1⟩
  have B1 := Lib.hid b1
  clear AL b1
  by_cases hlong : 3000 < s.size
  . go_wp2_with fail
    go_ret
    exact ⟨rfl, B1.out⟩
  have HV := Lib.hid (heavy_any eds _ w1 (HEA.out.below B1.out (Nat.le_refl _)))
  go_wp2_with fail
  refine HV.out.mono ?_
  rintro e w2 ⟨⟨q, rfl, hq⟩, b2⟩
  have B2 := Lib.hid (B1.out.trans (b2.mono B1.out.size))
  have HQ := Lib.hid hq
  clear HV b2 hq
  cases q with
  | true =>
    go_wp2_with fail
    go_ret
    exact ⟨rfl, B2.out⟩
  | false =>
  have LA : Hid (Light eds) := HQ.out (by first | exact rfl | trivial)
  have LI := Lib.hid (lists_any s (by omega) w2)
  clear HQ
  go_wp2_with fail
  refine LI.out.mono ?_
  rintro e w4 ⟨b4, h4⟩
  have B4 := Lib.hid (B2.out.trans (b4.mono B2.out.size))
  cases hp : parseL s.data.toList with
  | error an =>
    rw [hp] at h4
    subst h4
    have B5 := Lib.hid (B4.out.alloc B4.out.size (.cells #[.slice none 0 0, .int .i64 0] 28))
    clear LI b4 hp
    go_wp2_with fail
    go_ret
    exact ⟨rfl, B5.out⟩
  | ok its =>
  rw [hp] at h4
  have GK := Lib.hid (gk_from hp)
  have LIT := Lib.hid (lit_from (by rw [<- Lib.size_eq]; omega) hp)
  obtain ⟨lb, ev, ps, v, qs, rfl, hC, hq, hqe⟩ := h4
  obtain ⟨qa, qc, rfl, _⟩ := hq.empty
  generalize fromL its = l at *
  obtain ⟨w5, hw5⟩ : ∃ w5, w5 = w4.alloc (.cells #[.slice qa qs.length qc, .int .i64 l.next] 28) := ⟨_, rfl⟩
  have b45 : Below w4.heap.size w4 w5 := by rw [hw5]; exact (Below.refl _ w4).alloc (Nat.le_refl _) _
  have hz5 : w5.heap.size = w4.heap.size + 1 := by rw [hw5]; simp
  have c5 : Cells w5 w4.heap.size 28 #[.slice qa qs.length qc, .int .i64 l.next] := by rw [hw5]; exact Cells.new _ _ _
  have B5 := Lib.hid (B4.out.trans (b45.mono B4.out.size))
  have HC := Lib.hid (hC.below b45 (Nat.le_refl _))
  have HQM := Lib.hid (hq.below b45 (Nat.le_refl _))
  have HQE := Lib.hid hqe
  have EA : Hid (∀ W, Below w.heap.size w W -> EdV W (.slice va eds.length vac) eds /\ ErrT W) := fun W hW => ⟨HEA.out.edv.below hW (Nat.le_refl _), HG.out.below hW (Nat.le_refl _)⟩
  have HM : Hid (∀ W, Below w5.heap.size w5 W -> W.cell? ⟨w4.heap.size, 0, none⟩ = some (.slice qa qs.length qc) /\ W.cell? ⟨w4.heap.size, 1, none⟩ = some (.int .i64 l.next)) := fun W hW => by
    have k := cells_kept c5 hW (by omega)
    exact ⟨by rw [k.cell]; rfl, by rw [k.cell]; rfl⟩
  have la51 : eds.length <= 51 := LA.out.1
  have BK := Lib.hid (Back_any (S00 := w2.heap.size) eds _ (EA.out w5 B5.out).1 la51 LA.out.fines LA.out.smalls (EA.out w5 B5.out).2 (fun ed hm => (IDS.out ed hm).wf9) HC.out (by omega))
  unfold ptr at BK
  have HW5 := Lib.hid hw5
  clear LI b4 hp hC hq b45 c5 hqe hz5 hw5
  unfold ptr
  go_wp2_with fail
  rw [<- HW5.out]
  refine BK.out.mono ?_
  rintro e w6 ⟨b6, R6⟩
  have HB6 := Lib.hid b6
  have B6 := Lib.hid (B5.out.trans (b6.mono B5.out.size))
  have HC6 := Lib.hid (HC.out.below b6 (Nat.le_refl _))
  have RD := Lib.hid (refDo_any qs _ _ l eds w5 w6 b6 HQM.out HQE.out HC.out.ok (by have := HC.out.len; omega) (by have := HC.out.nx; omega) (EA.out w5 B5.out).1 la51 LA.out.fines)
  obtain ⟨m0, m1⟩ := HM.out w6 b6
  clear b6 BK
  rcases R6 with ⟨h6, u6, rfl, z6⟩ | ⟨h6, k6, o6, u6, rfl, E6⟩
  . -- refused
    have Z6 := Lib.hid z6
    have hform := err_form z6 h6
    clear z6
    rcases hform with ⟨zz, rfl⟩ | ⟨zz, rfl⟩
    all_goals
      go_wp2_with fail
      refine RD.out.mono ?_
      rintro e w8 ⟨b8, R8⟩
      rcases R8 with ⟨h8, v8, qs8, rfl, hq8⟩ | ⟨h8, _⟩
      rotate_left
      . rw [h8] at h6; exact absurd rfl h6
      obtain ⟨xa, xc, rfl, _⟩ := hq8.empty
      obtain ⟨w9, hw9⟩ : ∃ z, w8.alloc (.cells #[.slice xa qs8.length xc, .int .i64 l.next] 28) = z := ⟨_, rfl⟩
      have b89 : Below w8.heap.size w8 w9 := by rw [<- hw9]; exact (Below.refl _ _).alloc (Nat.le_refl _) _
      have b69 := b8.trans (b89.mono b8.size)
      have B9 := Lib.hid (B6.out.trans (b69.mono B6.out.size))
      have N9 := Lib.hid (num_z (Z6.out.below b69 (Nat.le_refl _)))
      have A9 := Lib.hid (at_z (Z6.out.below b69 (Nat.le_refl _)))
      have HW9 := Lib.hid hw9
      have qn : ((((doB l eds).2 : Nat) : Int) == 0) = false := by simpa using h6
      have hne : (((doB l eds).2 : Nat) : Int) ≠ 0 := by omega
      clear b8 hq8 RD hw9 b89 b69 Z6
      generalize (doB l eds).1 = at8 at *
      generalize (doB l eds).2 = bad8 at *
      go_wp2_with fail
      rw [HW9.out]
      refine N9.out.mono ?_
      rintro e w' ⟨rfl, rfl⟩
      go_wp2_with fail
      refine A9.out.mono ?_
      rintro e w' ⟨rfl, rfl⟩
      go_wp2_with fail
      go_ret
      exact ⟨rfl, B9.out⟩
  have HE6 := Lib.hid E6
  obtain ⟨ua, uc, rfl, hule, _⟩ := _root_.id E6
  have OK6 := Lib.hid o6
  have H6 := Lib.hid h6
  have GOOD := Lib.hid (chkB_good (eds := eds) (by rw [k6])).2
  have LB := Lib.hid (lit_back LIT.out LA.out.lit eds.length)
  have hbl : (backB l eds).length <= 51 := by have := backAt_len l eds eds.length (Nat.le_refl _); unfold backB; omega
  obtain ⟨bi1, bi2, bi3⟩ := back_is HC.out.ok GK.out h6 k6
  have BI1 := Lib.hid bi1
  have BI2 := Lib.hid bi2
  have BI3 := Lib.hid bi3
  clear E6 h6 k6 o6 bi1 bi2 bi3
  go_wp2_with fail
  refine RD.out.mono ?_
  rintro e w8 ⟨b8, R8⟩
  rcases R8 with ⟨h8, _⟩ | ⟨h8, o8, v8, qs8, g8, rfl, hq8, hqe8, hqf8, hqb8, own8⟩
  . rw [H6.out] at h8; exact absurd rfl h8
  obtain ⟨xa, xc, rfl, _⟩ := hq8.empty
  obtain ⟨ha, hc, rfl, _⟩ := own_slice own8
  obtain ⟨w9, hw9⟩ : ∃ z, w8.alloc (.cells #[.slice xa qs8.length xc, .int .i64 (lsOn l eds).next] 28) = z := ⟨_, rfl⟩
  have b89 : Below w8.heap.size w8 w9 := by rw [<- hw9]; exact (Below.refl _ _).alloc (Nat.le_refl _) _
  have b69 := b8.trans (b89.mono b8.size)
  have B59 := Lib.hid (HB6.out.trans (b69.mono HB6.out.size))
  have B69 := Lib.hid b69
  have B9 := Lib.hid (B6.out.trans (b69.mono B6.out.size))
  have HW9 := Lib.hid hw9
  obtain ⟨n0, n1⟩ := HM.out w9 B59.out
  have RB := Lib.hid (refBack_any qs _ _ l eds w5 w9 B59.out HQM.out HQE.out HC.out.ok (by have := HC.out.len; omega) (by have := HC.out.nx; omega) (EA.out w5 B5.out).1 la51 LA.out.fines GOOD.out OK6.out)
  rw [<- hw9] at n0 n1
  clear b8 hq8 hqe8 hqf8 hqb8 own8 RD hw9 b89 b69 h8 o8
  go_wp2_with fail
  rw [HW9.out]
  refine RB.out.mono ?_
  rintro e w10 ⟨b10, u10, rfl, E10⟩
  have B610 := Lib.hid (B69.out.trans (b10.mono B69.out.size))
  have B10 := Lib.hid (B9.out.trans (b10.mono B9.out.size))
  have EQ := Lib.hid (edits_quietQ (backB l eds) _ _ w10 ((HE6.out.below B610.out (Nat.le_refl _)).q) E10 (by omega) (fun x hx => by have := (LB.out x hx).1; omega))
  obtain ⟨ta, tc, rfl, _, _⟩ := E10
  clear b10 RB n0 n1
  go_wp2_with fail
  refine EQ.out.mono ?_
  rintro e w11 ⟨rfl, nd, hw11⟩
  have b11 : Below w10.heap.size w10 w11 := by rw [hw11]; exact drewN_below (Below.refl _ _) nd
  have B11 := Lib.hid (B10.out.trans (b11.mono B10.out.size))
  have B611 := Lib.hid (B610.out.trans (b11.mono B610.out.size))
  have HC11 := Lib.hid (HC6.out.below B611.out (Nat.le_refl _))
  have DO1 := Lib.hid (Do_any eds _ (EA.out w11 B11.out).1 la51 LA.out.fines LA.out.smalls (EA.out w11 B11.out).2 HC11.out (by omega))
  unfold ptr at DO1
  clear b11 EQ hw11 HC6
  go_wp2_with fail
  refine DO1.out.mono ?_
  rintro e w12 ⟨b12, R12⟩
  have B12 := Lib.hid (B11.out.trans (b12.mono B11.out.size))
  have B612 := Lib.hid (B611.out.trans (b12.mono B611.out.size))
  have HC12 := Lib.hid (HC11.out.below b12 (Nat.le_refl _))
  rcases R12 with ⟨h12, _⟩ | ⟨h12, k12, o12, lb1, ev1, ps1, g1, rfl, C1, K1, own1⟩
  . rw [H6.out] at h12; exact absurd rfl h12
  obtain ⟨ga, gc, rfl, _⟩ := own_slice own1
  have DO2 := Lib.hid (Do_any (backB l eds) (.slice ua (backB l eds).length uc) (HE6.out.below B612.out (Nat.le_refl _)) hbl (fun x hx => (LB.out x hx).fine) (fun x hx => (LB.out x hx).small) (EA.out w12 B12.out).2 C1 (by omega))
  unfold ptr at DO2
  clear b12 h12 k12 o12 C1 K1 own1 DO1 HC11
  unfold ptr
  go_wp2_with fail
  refine DO2.out.mono ?_
  rintro e w13 ⟨b13, R13⟩
  have B13 := Lib.hid (B12.out.trans (b13.mono B12.out.size))
  have HC13 := Lib.hid (HC12.out.below b13 (Nat.le_refl _))
  have hdd : doB (lsOn l eds) (backB l eds) = (-9, 0) := by
    unfold doB
    rw [BI1.out]
    exact doOn_ok _ _ _ BI2.out
  rcases R13 with ⟨h13, _⟩ | ⟨h13, k13, o13, lb2, ev2, ps2, g2, rfl, C2, K2, own2⟩
  . rw [hdd] at h13; exact absurd rfl h13
  obtain ⟨ga2, gc2, rfl, _⟩ := own_slice own2
  have S1 := Lib.hid (carry_stanzas HC13.out (by omega))
  have SM1 := Lib.hid (carry_small HC13.out)
  have HC2 := Lib.hid C2
  unfold ptr at S1
  clear b13 h13 k13 o13 C2 K2 own2 DO2 HC12 hdd
  unfold ptr
  go_wp2_with fail
  refine S1.out.mono ?_
  rintro e w14 ⟨y1, rfl, z1, b14⟩
  have B14 := Lib.hid (B13.out.trans (b14.mono B13.out.size))
  have S2 := Lib.hid (carry_stanzas (HC2.out.below b14 (Nat.le_refl _)) (by omega))
  unfold ptr at S2
  have HZ1 := Lib.hid z1
  obtain ⟨pa, pc, rfl, hple, _⟩ := _root_.id z1
  clear b14 S1 z1
  go_wp2_with fail
  refine S2.out.mono ?_
  rintro e w15 ⟨y2, rfl, z2, b15⟩
  have B15 := Lib.hid (B14.out.trans (b15.mono B14.out.size))
  have Z1 := Lib.hid (HZ1.out.below b15 (Nat.le_refl _))
  have Z2 := Lib.hid z2
  obtain ⟨ra, rc, rfl, hrle, _⟩ := _root_.id z2
  have hleq : (szE (lsOn (lsOn l eds) (backB l eds)).es).length = (szE l.es).length := by
    have := congrArg List.length BI3.out
    rwa [List.length_map, List.length_map] at this
  rw [hleq]
  have hsl := SM1.out.1
  have HLEQ := Lib.hid hleq
  clear b15 S2 z2 hleq HZ1
  generalize hn : (szE l.es).length = n at *
  go_wp2_with fail
  go_loopw [111] (fun i wr => ∃ k : Nat, k <= n /\ i = .int .i64 k /\ ∃ m, wr = w15.drewN m) (fun i _ => n - (intOf i).toNat)
  case atStart => exact ⟨0, Nat.zero_le _, rfl, 0, rfl⟩
  case round =>
  obtain ⟨k, hk, rfl, nd, hwr⟩ := hrel
  by_cases hlt : k < n
  . obtain ⟨x1, hx1⟩ : ∃ x, (szE l.es)[k]? = some x := ⟨_, List.getElem?_eq_getElem (by omega)⟩
    obtain ⟨x2, hx2⟩ : ∃ x, (szE (lsOn (lsOn l eds) (backB l eds)).es)[k]? = some x := ⟨_, List.getElem?_eq_getElem (by rw [HLEQ.out]; omega)⟩
    have hf : x2.2 = x1.2 := by
      have h := congrArg (·[k]?) BI3.out
      simp only [List.getElem?_map, hx1, hx2, Option.map_some] at h
      exact Option.some.inj h
    obtain ⟨A1, cap1, e1, _, hc1⟩ := _root_.id Z1.out
    obtain ⟨b1, o1, f1, hA1, hb1, c0, c1, hF1⟩ := hc1 k x1 hx1
    obtain ⟨A2, cap2, e2, _, hc2⟩ := _root_.id Z2.out
    obtain ⟨b2, o2, f2, hA2, hb2, d0, d1, hF2⟩ := hc2 k x2 hx2
    subst hA1 hA2
    cases e1
    cases e2
    rw [hf] at hF2
    have hm := SM1.out.2 x1 (List.mem_of_getElem? hx1)
    have FQ : Hid (∀ n, Calls Tryz.prog 15 #[f1, f2] (wr.drewN n) fun e w' => e = .returned (.bool true) /\ ∃ m, w' = (wr.drewN n).drewN m) := by
      show ∀ n, _
      intro n
      rw [hwr]
      exact fields_quiet x1.2 f1 f2 ((w15.drewN nd).drewN n) hF1 hF2 (by omega)
    replace c1 : wr.cell? ⟨b1, o1 + k * 2 + 1, none⟩ = some f1 := by rw [hwr]; exact c1
    replace d1 : wr.cell? ⟨b2, o2 + k * 2 + 1, none⟩ = some f2 := by rw [hwr]; exact d1
    have HW := Lib.hid hwr
    clear hx1 hx2 hf hc1 hc2 hF1 hF2 hwr c0 d0
    go_wp2_with (go_quiet ((go_at_call 15; exact Calls.quiet_of (FQ.out _))))
    go_roundw
    case rel => exact ⟨k + 1, hlt, by go_num, _, by rw [HW.out]; exact World.drewN_drewN _ _ _⟩
    case measure => simp [intOf]; omega
  obtain rfl : k = n := by omega
  have B16 : Hid (Below w.heap.size w wr) := by
    show Below _ _ _
    rw [hwr]
    exact B15.out.trans ((drewN_below (Below.refl _ _) nd).mono B15.out.size)
  clear hwr
  go_wp2_with fail
  go_ret
  exact ⟨rfl, B16.out⟩
open Go.Maps Go.ChangeShapes Go.Joins Go.WideShapes in
theorem backsCall {H : Type} {enc : TypeId × Value -> H} (s : ByteArray) (v1 : Value) (d1 : DataW H) (p1 : List MemPlace) (W : World) (hs : s.size <= maxLen) {b0 : Nat} (hval1 : Value.okWide Tryz.prog W .any b0 22 v1) {base1 : Nat} {sp1 : Nat -> Bool} {held1 : Bool} (h1 : DataW.Trod enc Tryz.prog W base1 sp1 held1 22 v1 d1 p1) (hg : ErrT W) :
    Calls Tryz.prog 3 #[.string s, v1] W fun e w' => e = .returned (.bool true) /\ Below W.heap.size W w' := by
  obtain ⟨n1, hn1⟩ := h1
  obtain ⟨ao, len, cap, rfl⟩ := okWide_slice Tryz.underlying22 hval1
  obtain ⟨as_, hr1, hi1⟩ := edits_inB (v := .slice ao len cap) hn1
  exact backsLaw s hs as_ _ W hr1 hi1 hg
end Go.Proofs.YtfjklpgmnakcaaaGreatDoor
