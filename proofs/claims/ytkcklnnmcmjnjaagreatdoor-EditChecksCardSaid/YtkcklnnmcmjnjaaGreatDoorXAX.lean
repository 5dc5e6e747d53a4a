/- EditChecks. -/
import Derived.Test.YtkcklnnmcmjnjaaGreatDoorXAW
import Derived.Test.YtkcklnnmcmjnjaaGreatDoorBam0
import Derived.WideShapes
set_option linter.unusedVariables false
namespace Go.Proofs.YtkcklnnmcmjnjaaGreatDoor
open Go.RowKit Go.Shelf
attribute [local go_sem] Oper.semAt_some

set_option maxRecDepth 100000 in
set_option maxHeartbeats 32000000 in
theorem checksLaw (as_ bs : List Ed) (v1 v2 : Value) (w : World) (ha : EdsIn w v1 as_) (hb : EdsIn w v2 bs) (hg : ErrT w) :
    Calls Tryz.prog 3 #[v1, v2] w fun e w' => e = .returned (.bool true) ∧ Below w.heap.size w w' := by
  have AL := Lib.hid (alive9_any w hg)
  have HEA := Lib.hid ha
  have HEB := Lib.hid hb
  have HG := Lib.hid hg
  obtain ⟨va, vac, rfl, _⟩ : ∃ A c, v1 = .slice A as_.length c ∧ True := by obtain ⟨_, A, c, e, _⟩ := ha; exact ⟨A, c, e, trivial⟩
  obtain ⟨vb, vbc, rfl, _⟩ : ∃ A c, v2 = .slice A bs.length c ∧ True := by obtain ⟨_, A, c, e, _⟩ := hb; exact ⟨A, c, e, trivial⟩
  clear ha hb hg
  go_enter Tryz.func3, Tryz.ntmps3
  go_wp2_with fail
  refine AL.out.mono ?_
  rintro e w1 ⟨rfl, b1⟩
  have B1 := Lib.hid b1
  have HV := Lib.hid (heavy_any as_ _ w1 (HEA.out.below b1 (Nat.le_refl _)))
  clear AL b1
  go_wp2_with fail
  refine HV.out.mono ?_
  rintro e w2 ⟨⟨q, rfl, hq⟩, b2⟩
  have B2 := Lib.hid (B1.out.trans (b2.mono B1.out.size))
  have HQ := Lib.hid hq
  have HV2 := Lib.hid (heavy_any bs _ w2 (HEB.out.below B2.out (Nat.le_refl _)))
  clear HV b2 hq
  cases q with
  | true =>
    go_wp2_with fail
    go_ret
    exact ⟨rfl, B2.out⟩
  | false =>
  have LA : Hid (Light as_) := HQ.out (by first | exact rfl | trivial)
  clear HQ
  go_wp2_with fail
  refine HV2.out.mono ?_
  rintro e w2' ⟨⟨q, rfl, hq⟩, b2⟩
  have B2' := Lib.hid (B2.out.trans (b2.mono B2.out.size))
  have HQ := Lib.hid hq
  clear HV2 b2 hq B2
  cases q with
  | true =>
    go_wp2_with fail
    go_ret
    exact ⟨rfl, B2'.out⟩
  | false =>
  have LB : Hid (Light bs) := HQ.out (by first | exact rfl | trivial)
  clear HQ
  have la51 : as_.length ≤ 51 := LA.out.1
  have lb51 : bs.length ≤ 51 := LB.out.1
  have EA : Hid (∀ W, Below w.heap.size w W → EdV W (.slice va as_.length vac) as_) := fun W hW => HEA.out.edv.below hW (Nat.le_refl _)
  have EB : Hid (∀ W, Below w.heap.size w W → EdV W (.slice vb bs.length vbc) bs) := fun W hW => HEB.out.edv.below hW (Nat.le_refl _)
  have OW := Lib.hid (own_any as_ _ w2' (EA.out w2' B2'.out) la51 LA.out.fines)
  go_wp2_with fail
  refine OW.out.mono ?_
  rintro e w3 ⟨v3, fvs, rfl, hO, b3⟩
  have B3 := Lib.hid (B2'.out.trans (b3.mono B2'.out.size))
  obtain ⟨oa, oc, rfl, _⟩ := own_slice hO.row
  have HO := Lib.hid hO
  have CK := Lib.hid (checkB_any8 as_ _ w3 hO.edv (by omega) LA.out.fines.eight (HG.out.below B3.out (Nat.le_refl _)))
  clear OW hO b3
  go_wp2_with fail
  refine CK.out.mono ?_
  rintro e w4 ⟨u4, rfl, b4, z4⟩
  have B4 := Lib.hid (B3.out.trans (b4.mono B3.out.size))
  have HB4 := Lib.hid b4
  have Z4 := Lib.hid z4
  have RC := Lib.hid (refCheckB_any as_ _ w4 (EA.out w4 B4.out) (by omega) LA.out.fines)
  have ED1 : Hid (∀ W, Below w3.heap.size w3 W → Below w.heap.size w W → Calls Tryz.prog 19 #[.slice oa as_.length oc, .slice va as_.length vac] W fun e w' => e = .returned (.bool true) ∧ Below W.heap.size W w') := fun W h1 h2 =>
    (edits_quiet as_ _ _ W (HO.out.edv.below h1 (Nat.le_refl _)) (EA.out W h2) (by omega) LA.out.fines).mono fun e w' ⟨he, m, hm⟩ => ⟨he, by rw [hm]; exact drewN_below (Below.refl _ _) m⟩
  obtain ⟨D, hD⟩ : ∃ D : Bool, (D = true ↔ as_ = bs) := ⟨@decide _ (Classical.propDecidable _), @decide_eq_true_iff _ (Classical.propDecidable _)⟩
  have ED2 : Hid (∀ W, Below w.heap.size w W → Calls Tryz.prog 19 #[.slice va as_.length vac, .slice vb bs.length vbc] W fun e w' => e = .returned (.bool D) ∧ Below W.heap.size W w') := fun W h2 =>
    (editsG_quiet as_ bs _ _ W (EA.out W h2) (EB.out W h2) (by omega) (by omega) LA.out.fines LB.out.fines).mono fun e w' ⟨⟨t, he, ht⟩, hb⟩ => ⟨by rw [he, show t = D from by cases t <;> cases D <;> simp_all], hb⟩
  have SA : Hid (∀ W, Below w.heap.size w W → Calls Tryz.prog 18 #[.slice va as_.length vac, .slice vb bs.length vbc] W fun e w' => e = .returned (.bool D) ∧ Below W.heap.size W w') := fun W h2 =>
    (sameB_any as_ bs _ _ W (EA.out W h2) (EB.out W h2) (by omega) (by omega) LA.out.fines LB.out.fines).mono fun e w' ⟨⟨t, he, ht⟩, hb⟩ => ⟨by rw [he, show t = D from by cases t <;> cases D <;> simp_all], hb⟩
  have SI : Hid (∀ W, Below w3.heap.size w3 W → Calls Tryz.prog 17 #[.slice oa as_.length oc] W fun e w' => e = .returned (.int .i64 (szB as_ : Nat)) ∧ Below W.heap.size W w') := fun W h1 =>
    size_any as_ _ W (HO.out.edv.below h1 (Nat.le_refl _)) (by omega) LA.out.fines
  have CO : Hid (∀ W, Below w3.heap.size w3 W → Calls Tryz.prog 14 #[.slice oa as_.length oc] W fun e w' => ∃ v' fvs', e = .returned v' ∧ OwnE W.heap.size w' v' as_ fvs' ∧ Below W.heap.size W w') := fun W h1 =>
    copyB_any as_ fvs _ W (HO.out.below h1 (Nat.le_refl _)) (by omega) LA.out.fines
  clear hD
  have qD : (D != D) = false := by cases D <;> rfl
  clear CK b4 z4
  generalize (chkB as_).1 = at4 at *
  generalize (chkB as_).2 = bad4 at *
  go_wp2_with fail
  refine RC.out.mono ?_
  rintro e w5 ⟨rfl, b5⟩
  have B5 := Lib.hid (B4.out.trans (b5.mono B4.out.size))
  have HB5 := Lib.hid (HB4.out.trans (b5.mono HB4.out.size))
  have Z5 := Lib.hid (Z4.out.below b5 (Nat.le_refl _))
  have hz35 := HB5.out.size
  obtain ⟨_, _, eA, _, hca⟩ := EA.out w5 B5.out
  cases eA
  have HC := Lib.hid hca
  have HZS : Hid (szB as_ ≤ 200000000 * 51) := by have h1 := szB_le LA.out.fines; have h2 := LA.out.1; show _ ≤ _; omega
  have HFN := Lib.hid LA.out.fines
  clear RC b5 Z4 hca
  go_wp2_with fail
  go_loopw [9, 36] (fun o i wr => ∃ k : Nat, k ≤ as_.length ∧ i = .int .i64 k ∧ o = .int .i64 (szB (as_.take k) : Nat) ∧ Below w5.heap.size w5 wr) (fun _ i _ => as_.length - (intOf i).toNat)
  case atStart => exact ⟨0, Nat.zero_le _, rfl, rfl, Below.refl _ _⟩
  case round =>
    obtain ⟨k, hk, rfl, rfl, hacc⟩ := hrel
    by_cases hlt : k < as_.length
    · obtain ⟨ed, hed⟩ : ∃ ed, as_[k]? = some ed := ⟨_, List.getElem?_eq_getElem hlt⟩
      have TK := Lib.hid (szB_snoc hed)
      have hFE := HFN.out ed (List.mem_of_getElem? hed)
      have hn1 := hFE.len
      have hn2 := hFE.each
      have hs1 := szB_le (es := as_.take k) fun x hx => HFN.out x (List.mem_of_mem_take hx)
      rw [List.length_take] at hs1
      have hs2 : szB (as_.take k) ≤ 200000000 * k := by omega
      obtain ⟨b, off, fv, rfl, hbb, c0, c1, c2, hfl⟩ := HC.out k ed hed
      obtain ⟨fa, fc, rfl⟩ := hfl.form
      replace c0 := (hacc.cell (p := ⟨b, off + k * 3, none⟩) hbb).trans c0
      replace c1 := (hacc.cell (p := ⟨b, off + k * 3 + 1, none⟩) hbb).trans c1
      replace c2 := (hacc.cell (p := ⟨b, off + k * 3 + 1 + 1, none⟩) hbb).trans c2
      obtain ⟨_, _, eF, _, hfld⟩ := hfl.1
      cases eF
      have CF : Hid (∀ (W : World), Below w5.heap.size w5 W → ∀ (j : Nat) f, ed.fields[j]? = some f → ∃ b2 o2, fa = some ⟨b2, o2, none⟩ ∧ W.cell? ⟨b2, o2 + j * 2, none⟩ = some (.string (B f.1)) ∧ W.cell? ⟨b2, o2 + j * 2 + 1, none⟩ = some (.string (B f.2))) := fun W hB j f hj => by
        obtain ⟨b2, o2, e2, hb2, d0, d1⟩ := hfld j f hj
        exact ⟨b2, o2, e2, (hB.cell (p := ⟨b2, o2 + j * 2, none⟩) hb2).trans d0, (hB.cell (p := ⟨b2, o2 + j * 2 + 1, none⟩) hb2).trans d1⟩
      have NB := Lib.hid hn2
      clear hfld hed hfl hn2 hs1 hFE HC HO LA LB EA EB ED1 ED2 SA SI CO Z5 qD
      generalize szB (as_.take k) = o1 at *
      generalize ed.kind = K at *
      generalize ed.id = X at *
      have ACC : Hid (Below w5.heap.size w5 (wr.alloc (.cells #[.int .i64 K, .int .i64 X, .slice fa ed.fields.length fc] 33))) := hacc.alloc hacc.size _
      clear hacc
      generalize hfs : ed.fields = fs at *
      go_wp2_with fail
      go_loopw [9, 43] (fun q i wi => ∃ j : Nat, j ≤ fs.length ∧ i = .int .i64 j ∧ q = .int .i64 ((o1 + szF (fs.take j) : Nat) : Int) ∧ Below w5.heap.size w5 wi) (fun _ i _ => fs.length - (intOf i).toNat)
      case atStart => exact ⟨0, Nat.zero_le _, rfl, rfl, ACC.out⟩
      case round =>
        obtain ⟨j, hj, rfl, rfl, hacc⟩ := hrel
        have ACI := Lib.hid hacc
        by_cases hjl : j < fs.length
        · obtain ⟨f, hf⟩ : ∃ f, fs[j]? = some f := ⟨_, List.getElem?_eq_getElem hjl⟩
          obtain ⟨b2, o2, rfl, d0, d1⟩ := CF.out _ hacc j f hf
          have SN := Lib.hid (szF_snoc hf)
          have hcl := szF_le (fs := fs.take j) fun x hx => NB.out x (List.mem_of_mem_take hx)
          rw [List.length_take] at hcl
          have hfm := NB.out f (List.mem_of_getElem? hf)
          have s1 := B_size f.1
          have s2 := B_size f.2
          have AB : Hid (Below w5.heap.size w5 (wr.alloc (.cells #[.string (B f.1), .string (B f.2)] 35))) := hacc.alloc hacc.size _
          generalize szF (fs.take j) = c9 at *
          clear hacc hf CF c0 c1 c2
          generalize B f.1 = X1 at *
          generalize B f.2 = X2 at *
          go_wp2_with fail
          go_roundw
          case rel => exact ⟨j + 1, hjl, by go_num, by rw [SN.out]; congr 1 <;> first | omega | go_num | (push_cast; omega), AB.out⟩
          case measure => simp [intOf]; omega
        · obtain rfl : j = fs.length := by omega
          rw [List.take_length]
          clear CF hacc c0 c1 c2
          go_wp2_with fail
          go_roundw
          case rel => exact ⟨k + 1, hlt, by go_num, by rw [TK.out], ACI.out⟩
          case measure => simp [intOf]; omega
    · obtain rfl : k = as_.length := by omega
      rw [List.take_length]
      obtain ⟨wq, hwq⟩ : ∃ wq, wq = wr := ⟨_, rfl⟩
      rw [← hwq] at hacc ⊢
      clear hwq
      have B6 := Lib.hid (B5.out.trans (hacc.mono B5.out.size))
      have HB6 := Lib.hid (HB5.out.trans (hacc.mono hz35))
      have Z6 := Lib.hid (Z5.out.below hacc (Nat.le_refl _))
      have C6 := Lib.hid (CO.out wq HB6.out)
      clear hacc HC CO Z5
      generalize szB as_ = SZ at *
      go_wp2_with fail
      refine C6.out.mono ?_
      rintro e w8 ⟨v8, fvs8, rfl, ho8, b8⟩
      obtain ⟨ua, uc, rfl, _⟩ := own_slice ho8.row
      have B8 := Lib.hid (B6.out.trans (b8.mono B6.out.size))
      have HB8 := Lib.hid (HB6.out.trans (b8.mono HB6.out.size))
      have Z8 := Lib.hid (Z6.out.below b8 (Nat.le_refl _))
      have N8 := Lib.hid (num_z Z8.out)
      have A8 := Lib.hid (at_z Z8.out)
      have S8 := Lib.hid (SI.out w8 HB8.out)
      have HO8 := Lib.hid ho8
      have hz78 := b8.size
      have hz37 := HB6.out.size
      have BQ := B6
      clear C6 b8 ho8 SI Z6
      go_wp2_with fail
      refine N8.out.mono ?_
      rintro e V ⟨rfl, rfl⟩
      clear N8
      go_wp2_with fail
      refine A8.out.mono ?_
      rintro e V ⟨rfl, rfl⟩
      clear A8 Z8
      go_wp2_with fail
      refine S8.out.mono ?_
      rintro e w9 ⟨rfl, b9⟩
      have B9 := Lib.hid (B8.out.trans (b9.mono B8.out.size))
      have HB89 := Lib.hid b9
      have S9 := Lib.hid (SA.out w9 B9.out)
      clear S8 b9 SA
      go_wp2_with fail
      refine S9.out.mono ?_
      rintro e w10 ⟨rfl, b10⟩
      have B10 := Lib.hid (B9.out.trans (b10.mono B9.out.size))
      have HB810 := Lib.hid (HB89.out.trans (b10.mono HB89.out.size))
      have E10 := Lib.hid (ED2.out w10 B10.out)
      clear S9 b10 ED2 HB89
      go_wp2_with fail
      refine E10.out.mono ?_
      rintro e w11 ⟨rfl, b11⟩
      have B11 := Lib.hid (B10.out.trans (b11.mono B10.out.size))
      have HB811 := Lib.hid (HB810.out.trans (b11.mono HB810.out.size))
      have HO11 := Lib.hid (HO8.out.below HB811.out (Nat.le_refl _))
      have E11 := Lib.hid (edits_quiet as_ _ _ w11 HO11.out.edv (EA.out w11 B11.out) (by omega) HFN.out)
      have hz811 := HB811.out.size
      clear E10 b11 HB810
      go_wp2_with fail
      refine E11.out.mono ?_
      rintro e w12 ⟨rfl, m12, rfl⟩
      obtain ⟨w12, hw12⟩ : ∃ w12, w12 = w11.drewN m12 := ⟨_, rfl⟩
      have hb12 : Below w11.heap.size w11 w12 := by rw [hw12]; exact drewN_below (Below.refl _ _) m12
      have B12 := Lib.hid (B11.out.trans (hb12.mono B11.out.size))
      have HB812 := Lib.hid (HB811.out.trans (hb12.mono HB811.out.size))
      have HB12 := Lib.hid (HB8.out.trans (HB812.out.mono HB8.out.size))
      have HO12 := Lib.hid (HO11.out.below hb12 (Nat.le_refl _))
      have hz1112 := hb12.size
      rw [← hw12]
      clear E11 HO11 hb12 hw12
      clear EB
      go_wp2_with fail
      go_loopw [93] (fun i wr => ∃ k : Nat, k ≤ as_.length ∧ i = .int .i64 k ∧ Spoils (fun r => wq.heap.size ≤ r ∧ r < w8.heap.size) w12 wr) (fun i _ => as_.length - (intOf i).toNat)
      case atStart => exact ⟨0, Nat.zero_le _, rfl, Spoils.refl _ _⟩
      case round =>
        obtain ⟨k, hk, rfl, hs⟩ := hrel
        by_cases hlt : k < as_.length
        · obtain ⟨ed, hed⟩ : ∃ ed, as_[k]? = some ed := ⟨_, List.getElem?_eq_getElem hlt⟩
          obtain ⟨fv, hfv⟩ : ∃ fv, fvs8[k]? = some fv := ⟨_, List.getElem?_eq_getElem (by rw [HO12.out.len]; exact hlt)⟩
          obtain ⟨og, ocap, hog⟩ := Joins.ownsRow_form HO12.out.row (by omega)
          obtain ⟨rfl, rfl⟩ : ua = some ⟨og, 0, none⟩ ∧ uc = ocap := by injection hog with q1 _ q2; exact ⟨q1, q2⟩
          have hrow := row_spoilsA HO12.out.row hs (by decide)
          obtain ⟨a0, a1, a2⟩ := edRow_at as_ fvs8 k ed fv hed hfv
          have c0 : wr.cell? ⟨og, k * 3, none⟩ = some (.int .i64 ed.kind) := by rw [World.ownsRow.cellAt hrow (k * 3) (by omega)]; exact a0
          have c1 : wr.cell? ⟨og, k * 3 + 1, none⟩ = some (.int .i64 ed.id) := by rw [World.ownsRow.cellAt hrow (k * 3 + 1) (by omega)]; exact a1
          have c2 : wr.cell? ⟨og, k * 3 + 1 + 1, none⟩ = some fv := by rw [World.ownsRow.cellAt hrow (k * 3 + 1 + 1) (by omega)]; exact a2
          have hfr := HO8.out.each k ed fv hed hfv
          obtain ⟨fa, fc, rfl, _⟩ : ∃ A c, fv = .slice A ed.fields.length c ∧ ed.fields.length ≤ c := own_slice hfr
          have hm := (HFN.out ed (List.mem_of_getElem? hed)).len
          have MP := ((mineP_ownA hfr (Nat.le_refl _)).below HB812.out (Nat.le_refl _)).spoils hs
          have SP : Hid (∀ o, Calls Tryz.prog 20 #[.slice fa ed.fields.length fc] (wr.alloc o) fun e w' => e = .returned (.tuple #[]) ∧ Spoils (fun r => wq.heap.size ≤ r ∧ r < w8.heap.size) (wr.alloc o) w') := fun o =>
            spoilP_any ed.fields.length _ _ _ (MP.below ((Below.refl wr.heap.size wr).alloc (Nat.le_refl _) o) (Nat.le_refl _)) (by omega)
          have HS := Lib.hid hs
          clear hrow a0 a1 a2 hfr MP hs hed hfv
          go_wp2_with fail
          refine (SP.out _).mono ?_
          rintro e w13 ⟨rfl, hs2⟩
          have HS2 := Lib.hid ((HS.out.alloc _).trans hs2)
          clear hs2 SP
          go_wp2_with fail
          go_roundw
          case rel => exact ⟨k + 1, hlt, by go_num, HS2.out⟩
          case measure => simp [intOf]; omega
        · have bs := hs.belowA (n := wq.heap.size) (fun r q => q.1) (by omega)
          have BF : Hid (Below w.heap.size w wr) := B12.out.trans (bs.mono (by have := BQ.out.size; omega))
          have BF3 : Hid (Below w3.heap.size w3 wr) := HB12.out.trans (bs.mono hz37)
          have EF := Lib.hid (ED1.out wr BF3.out BF.out)
          clear hs bs
          go_wp2_with fail
          refine EF.out.mono ?_
          rintro e w14 ⟨rfl, b14⟩
          have B14 := Lib.hid (BF.out.trans (b14.mono BF.out.size))
          clear b14 EF
          go_wp2_with fail
          go_ret
          exact ⟨rfl, B14.out⟩
open Go.Maps Go.ChangeShapes Go.Joins Go.WideShapes in
set_option maxRecDepth 100000 in
/-- .. at batches that came in. -/
theorem checksCall {H : Type} {enc : TypeId × Value → H} (v1 : Value) (d1 : DataW H) (p1 : List MemPlace) (v2 : Value) (d2 : DataW H) (p2 : List MemPlace) (W : World) {b0 : Nat} (hval1 : Value.okWide Tryz.prog W .any b0 22 v1) {base1 : Nat} {sp1 : Nat → Bool} {held1 : Bool} (h1 : DataW.Trod enc Tryz.prog W base1 sp1 held1 22 v1 d1 p1)
    {b2 : Nat} (hval2 : Value.okWide Tryz.prog W .any b2 22 v2) {base2 : Nat} {sp2 : Nat → Bool} {held2 : Bool} (h2 : DataW.Trod enc Tryz.prog W base2 sp2 held2 22 v2 d2 p2) (hg : ErrT W) :
    Calls Tryz.prog 3 #[v1, v2] W fun e w' => e = .returned (.bool true) ∧ Below W.heap.size W w' := by
  obtain ⟨n1, hn1⟩ := h1
  obtain ⟨ao, len, cap, rfl⟩ := okWide_slice Tryz.underlying22 hval1
  obtain ⟨as_, hr1, _⟩ := edits_inB (v := .slice ao len cap) hn1
  obtain ⟨n2, hn2⟩ := h2
  obtain ⟨ao2, len2, cap2, rfl⟩ := okWide_slice Tryz.underlying22 hval2
  obtain ⟨bs, hr2, _⟩ := edits_inB (v := .slice ao2 len2 cap2) hn2
  exact checksLaw as_ bs _ _ W hr1 hr2 hg
end Go.Proofs.YtkcklnnmcmjnjaaGreatDoor
