/- Texts put together. -/
import Derived.Test.YtiebbgbcojgeoaaBap25
set_option linter.unusedVariables false
namespace Go.Proofs.Ytiebbgbcojgeoaa
open Go.RowKit Go.Maps Go.Sort Go.Shelf
attribute [local go_sem] Oper.semAt_some

set_option maxRecDepth 100000 in
set_option maxHeartbeats 16000000 in
theorem playsLaw (eds : List Ed) (hwf : ∀ ed ∈ eds, (Lit.int .i64 ed.id).wf = true) (v : Value) (k lo top : List UInt8) (hk : (B k).size ≤ maxLen) (hlo : (B lo).size ≤ maxLen) (w : World) (h : EdsIn w v eds) :
    Calls Try.prog 3 #[v, .agg #[.string (B k), .string (B lo), .string (B top)]] w fun e w' => e = .returned (.bool true) ∧ Below w.heap.size w w' := by
  obtain ⟨wa, hwa⟩ : ∃ wa, wa = w.alloc (.cells #[.string (B k), .string (B lo), .string (B top)] 24) := ⟨_, rfl⟩
  have hba : Below w.heap.size w wa := by rw [hwa]; exact (Below.refl _ _).alloc (Nat.le_refl _) _
  have HC : Hid (Cells wa w.heap.size 24 #[.string (B k), .string (B lo), .string (B top)]) := by show Cells _ _ _ _; rw [hwa]; exact Cells.new w _ _
  have HBA := Lib.hid hba
  have HWA := Lib.hid hwa
  have AL := Lib.hid (idxAlive wa)
  have HE := Lib.hid h
  have HWF := Lib.hid hwf
  have HK := Lib.hid (And.intro hk hlo)
  obtain ⟨va, vc, rfl, _⟩ : ∃ A c, v = .slice A eds.length c ∧ True := by obtain ⟨_, A, c, e, _⟩ := h; exact ⟨A, c, e, trivial⟩
  clear h hwa hba hwf hk hlo
  go_enter Try.func3, Try.ntmps3
  go_wp2_with fail
  rw [← HWA.out]
  refine AL.out.mono ?_
  rintro e w1 ⟨rfl, b1⟩
  have B1 := Lib.hid b1
  have BW1 := Lib.hid (HBA.out.trans (b1.mono HBA.out.size))
  clear AL b1
  have HV := Lib.hid (heavy_any eds _ w1 (HE.out.below BW1.out (Nat.le_refl _)))
  go_wp2_with fail
  refine HV.out.mono ?_
  rintro e w2 ⟨⟨q, rfl, hq⟩, b2⟩
  have B2 := Lib.hid (B1.out.trans (b2.mono B1.out.size))
  have BW2 := Lib.hid (BW1.out.trans (b2.mono BW1.out.size))
  have HQ := Lib.hid hq
  clear HV b2 hq
  cases q with
  | true =>
    go_wp2_with fail
    go_ret
    exact ⟨rfl, BW2.out⟩
  | false =>
    have LI : Hid (Light eds) := HQ.out (by first | exact rfl | trivial)
    have NX := Lib.hid (new_L w2)
    clear HQ
    go_wp2_with fail
    refine NX.out.mono ?_
    rintro e w3 ⟨rfl, T0, hi0, hb3⟩
    have HI0 := Lib.hid hi0
    have B3 := Lib.hid hb3
    have HZ := Lib.hid (show w.heap.size ≤ w2.heap.size from BW2.out.size)
    have HA2 : Hid (∀ W, Below w2.heap.size w2 W → W.cell? ⟨w.heap.size, 0, none⟩ = some (.string (B k)) ∧ W.cell? ⟨w.heap.size, 1, none⟩ = some (.string (B lo)) ∧ W.cell? ⟨w.heap.size, 2, none⟩ = some (.string (B top)) ∧ Below w.heap.size w W) := fun W hW => by
      have hwl : w.heap.size < wa.heap.size := HC.out.lt
      have c2 : Cells w2 w.heap.size 24 #[.string (B k), .string (B lo), .string (B top)] := (B2.out.block _ hwl).trans HC.out
      have cW : Cells W w.heap.size 24 #[.string (B k), .string (B lo), .string (B top)] := (hW.block _ c2.lt).trans c2
      exact ⟨cW.cell 0, cW.cell 1, cW.cell 2, BW2.out.trans (hW.mono HZ.out)⟩
    have HE2 := Lib.hid (HE.out.below BW2.out (Nat.le_refl _))
    clear NX hi0 hb3 HC HBA HWA B1 B2 BW1
    generalize w2.heap.size + 2 = x at *
    generalize w2.heap.size + 1 = yb at *
    obtain ⟨kb, hkb⟩ : ∃ kb, kb = w2.heap.size := ⟨_, rfl⟩
    have HI0 : Hid (IdxL w2.heap.size w3 T0 x kb yb 0 []) := by rw [hkb]; exact HI0.out
    clear hkb
    have HP0 : Hid (∀ W, Below w3.heap.size w3 W → ∀ a, PlayR w2 W (.slice a 0 0) T0 x kb yb 0 []) := fun W hW a => ⟨HI0.out.below hW (Nat.le_refl _), ⟨a, 0, rfl, Nat.le_refl _, fun i s h => by simp at h⟩, fun b off n c e hne => absurd rfl hne, List.Pairwise.nil⟩
    go_wp2_with fail
    go_loopw [6, 24] (fun mv i wr => ∃ (j : Nat) (T : Nat → Tag) (n : Nat) (ms : List Sz), j ≤ eds.length ∧ i = .int .i64 j ∧ PlayR w2 wr mv T x kb yb n ms ∧ ms.length ≤ j ∧ numF ms ≤ 61 * j ∧ n ≤ 130 * j ∧ Below w2.heap.size w2 wr) (fun _ i _ => eds.length - (intOf i).toNat)
    case atStart =>
      have hb4 : Below w3.heap.size w3 (w3.alloc (.cells #[] 69)) := (Below.refl _ _).alloc (Nat.le_refl _) _
      refine ⟨0, T0, 0, [], Nat.zero_le _, rfl, HP0.out _ ?_ _, Nat.le_refl _, Nat.le_refl _, Nat.le_refl _, ?_⟩
      · repeat (first | exact Below.refl _ _ | (refine Below.drew ?_) | (refine hldA ?_))
      · refine B3.out.trans (Below.mono ?_ B3.out.size)
        repeat (first | exact Below.refl _ _ | (refine Below.drew ?_) | (refine hldA ?_))
    case round =>
      obtain ⟨j, T, n, ms, hj, rfl, hP, hml, hmn, hn, hB⟩ := hrel
      have hlk := LI.out.1
      obtain ⟨ma, mc, rfl, _⟩ := _root_.id hP.sz
      have HP := Lib.hid hP
      have HBR := Lib.hid hB
      by_cases hlt : j < eds.length
      · obtain ⟨ed, hed⟩ : ∃ ed, eds[j]? = some ed := ⟨_, List.getElem?_eq_getElem hlt⟩
        have hmem := List.mem_of_getElem? hed
        have hlen5 := (LI.out.2 ed hmem).1
        have HSZ := Lib.hid ((LI.out.2 ed hmem).2.1)
        obtain ⟨_, A', cap', e1, _, hc⟩ := HE2.out
        cases e1
        obtain ⟨b, off, fv, rfl, hbb, c0, c1, c2, hf⟩ := hc j ed hed
        obtain ⟨fa, fc, rfl, _, hfld⟩ := _root_.id hf.flds
        replace c0 := (hB.cell (p := ⟨b, off + j * 3, none⟩) hbb).trans c0
        replace c1 := (hB.cell (p := ⟨b, off + j * 3 + 1, none⟩) hbb).trans c1
        replace c2 := (hB.cell (p := ⟨b, off + j * 3 + 1 + 1, none⟩) hbb).trans c2
        have HF := Lib.hid hf
        have HWE := Lib.hid (HWF.out ed hmem)
        have CF : Hid (∀ (W : World), Below w2.heap.size w2 W → ∀ (q : Nat) f, ed.fields[q]? = some f → ∃ b2 o2, fa = some ⟨b2, o2, none⟩ ∧ W.cell? ⟨b2, o2 + q * 2, none⟩ = some (.string (B f.1)) ∧ W.cell? ⟨b2, o2 + q * 2 + 1, none⟩ = some (.string (B f.2))) := fun W hW q f hq => by
          obtain ⟨b2, o2, e2, hb2, d0, d1⟩ := hfld q f hq
          exact ⟨b2, o2, e2, (hW.cell (p := ⟨b2, o2 + q * 2, none⟩) hb2).trans d0, (hW.cell (p := ⟨b2, o2 + q * 2 + 1, none⟩) hb2).trans d1⟩
        have hbt : bareT T wr.heap.size wr.heap.size = (0, [], []) := bareT_ge (Nat.le_refl _)
        have hP2 := hP.bare
        generalize bareT T wr.heap.size = T2 at *
        obtain ⟨wx, hwx⟩ : ∃ wx, wx = wr.alloc (.cells #[.int .i64 ed.kind, .int .i64 ed.id, .slice fa ed.fields.length fc] 32) := ⟨_, rfl⟩
        have hx : Below wr.heap.size wr wx := by rw [hwx]; exact (Below.refl _ _).alloc (Nat.le_refl _) _
        have HX := Lib.hid hx
        have HCX : Hid (Cells wx wr.heap.size 32 #[.int .i64 ed.kind, .int .i64 ed.id, .slice fa ed.fields.length fc]) := by show Cells _ _ _ _; rw [hwx]; exact Cells.new wr _ _
        have HPX := Lib.hid (hP2.below hx)
        have BX := Lib.hid (hB.trans (hx.mono hB.size))
        have HT2 := Lib.hid hbt
        have HWX := Lib.hid hwx
        clear hx hwx hbt hP2 hP hB hed hf hc hfld HP
        by_cases hk2 : ed.kind = 2
        · have DR := Lib.hid (play_drop HPX.out ed.id HWE.out (by omega))
          have LS := drop_less ms ed.id
          have hdl := dropZ_len ms ed.id
          have hdn := dropZ_num ms ed.id
          rw [hk2] at c0
          go_wp2_with fail
          rw [← hk2, ← HWX.out]
          refine DR.out.mono ?_
          rintro e w5 ⟨da, dc, rfl, b5, DP⟩
          have C5 : Hid (Cells w5 wr.heap.size 32 #[.int .i64 ed.kind, .int .i64 ed.id, .slice fa ed.fields.length fc]) := (b5.block _ HCX.out.lt).trans HCX.out
          have d1 : w5.cell? ⟨wr.heap.size, 1, none⟩ = some (.int .i64 ed.id) := C5.out.cell 1
          have DP := Lib.hid DP
          have B5 := Lib.hid (BX.out.trans (b5.mono BX.out.size))
          have hwlt : wr.heap.size < w5.heap.size := C5.out.lt
          clear b5 DR
          go_wp2_with fail
          refine DP.out.mono ?_
          rintro e w6 ⟨rfl, ⟨T6, hp6⟩, b6, hk6⟩
          have HP6 := Lib.hid hp6
          have BY := Lib.hid (B5.out.trans (b6.mono (Nat.le_refl _)))
          have C6 : Cells w6 wr.heap.size 32 #[.int .i64 ed.kind, .int .i64 ed.id, .slice fa ed.fields.length fc] := (hk6 _ HCX.out.lt HT2.out).trans C5.out
          have k2 : w6.cell? ⟨wr.heap.size, 2, none⟩ = some (.slice fa ed.fields.length fc) := C6.cell 2
          have hz6 := b6.size
          clear DP hp6 b6 hk6 C6 C5
          have BND : Hid ((dropZ ms ed.id).length ≤ j + 1 ∧ numF (dropZ ms ed.id) ≤ 61 * (j + 1) ∧ n ≤ 130 * (j + 1)) := ⟨by omega, by omega, by omega⟩
          have W2LT : Hid (w2.heap.size < w6.heap.size) := by
            have h1 := HBR.out.size
            show _ < _
            omega
          generalize idsOf ms ed.id = qq at *
          cases qq with
          | true =>
            have LSp : (dropZ ms ed.id).length < ms.length := of_decide_eq_true LS
            go_wp2_with fail
            go_loopw [80] (fun i wi => ∃ q : Nat, q ≤ ed.fields.length ∧ i = .int .i64 q ∧ Below w6.heap.size w6 wi) (fun i _ => ed.fields.length - (intOf i).toNat)
            case atStart => exact ⟨0, Nat.zero_le _, rfl, Below.refl _ _⟩
            case round =>
              obtain ⟨q, hq, rfl, hbi⟩ := hrel
              have HBI := Lib.hid hbi
              have BI := Lib.hid (BY.out.trans (hbi.mono BY.out.size))
              obtain ⟨a0, a1, a2, hbw⟩ := HA2.out _ BI.out
              have hw8 : w.heap.size < wr.heap.size := Nat.lt_of_le_of_lt HZ.out (Nat.lt_of_lt_of_le W2LT.out hbi.size)
              clear hbi hbw
              by_cases hql : q < ed.fields.length
              · obtain ⟨f, hf⟩ : ∃ f, ed.fields[q]? = some f := ⟨_, List.getElem?_eq_getElem hql⟩
                obtain ⟨b2, o2, rfl, d0, d1⟩ := CF.out _ BI.out q f hf
                obtain ⟨wy, hwy⟩ : ∃ wy, wy = wr.alloc (.cells #[.string (B f.1), .string (B f.2)] 45) := ⟨_, rfl⟩
                have hy : Below wr.heap.size wr wy := by rw [hwy]; exact (Below.refl _ _).alloc (Nat.le_refl _) _
                have hs6 := HSZ.out f (List.mem_of_getElem? hf)
                have HPY := Lib.hid (HP6.out.below (up8 HBI.out hy))
                have BWY := Lib.hid (BI.out.trans (hy.mono BI.out.size))
                have AK := Lib.hid (asks_any HPY.out.idx HPY.out.sorted _ (HPY.out.szd BWY.out) (by have := BND.out.1; omega) (by have := BND.out.2.1; omega) f.1 f.2 top (by rw [B_size]; unfold maxLen; omega) (by rw [B_size]; unfold maxLen; omega))
                have HY := Lib.hid (up8 HBI.out hy)
                have HWY := Lib.hid hwy
                clear hy hwy hf hs6 CF HPY BWY
                go_wp2_with fail
                rw [← HWY.out]
                refine AK.out.mono ?_
                rintro e wz ⟨rfl, bz⟩
                have BZ := Lib.hid (up8 HY.out bz)
                clear bz AK
                go_wp2_with fail
                go_roundw
                case rel => exact ⟨q + 1, hql, by go_num, BZ.out⟩
                case measure => simp [intOf]; omega
              · obtain rfl : q = ed.fields.length := by omega
                have FIN : Hid (∃ (j' : Nat) (T' : Nat → Tag) (n' : Nat) (ms' : List Sz), j' ≤ eds.length ∧ Value.int .i64 ((j : Int) + 1) = .int .i64 j' ∧ PlayR w2 wr (.slice da (dropZ ms ed.id).length dc) T' x kb yb n' ms' ∧ ms'.length ≤ j' ∧ numF ms' ≤ 61 * j' ∧ n' ≤ 130 * j' ∧ Below w2.heap.size w2 wr) := ⟨j + 1, T6, n, dropZ ms ed.id, hlt, by simp, HP6.out.below HBI.out, BND.out.1, BND.out.2.1, BND.out.2.2, BI.out⟩
                clear CF HPX
                go_wp2_with fail
                exact ⟨FIN.out, by simp [intOf]; omega⟩
          | false =>
            have LSp : ¬ (dropZ ms ed.id).length < ms.length := of_decide_eq_false LS
            go_wp2_with fail
            go_loopw [80] (fun i wi => ∃ q : Nat, q ≤ ed.fields.length ∧ i = .int .i64 q ∧ Below w6.heap.size w6 wi) (fun i _ => ed.fields.length - (intOf i).toNat)
            case atStart => exact ⟨0, Nat.zero_le _, rfl, Below.refl _ _⟩
            case round =>
              obtain ⟨q, hq, rfl, hbi⟩ := hrel
              have HBI := Lib.hid hbi
              have BI := Lib.hid (BY.out.trans (hbi.mono BY.out.size))
              obtain ⟨a0, a1, a2, hbw⟩ := HA2.out _ BI.out
              have hw8 : w.heap.size < wr.heap.size := Nat.lt_of_le_of_lt HZ.out (Nat.lt_of_lt_of_le W2LT.out hbi.size)
              clear hbi hbw
              by_cases hql : q < ed.fields.length
              · obtain ⟨f, hf⟩ : ∃ f, ed.fields[q]? = some f := ⟨_, List.getElem?_eq_getElem hql⟩
                obtain ⟨b2, o2, rfl, d0, d1⟩ := CF.out _ BI.out q f hf
                obtain ⟨wy, hwy⟩ : ∃ wy, wy = wr.alloc (.cells #[.string (B f.1), .string (B f.2)] 45) := ⟨_, rfl⟩
                have hy : Below wr.heap.size wr wy := by rw [hwy]; exact (Below.refl _ _).alloc (Nat.le_refl _) _
                have hs6 := HSZ.out f (List.mem_of_getElem? hf)
                have HPY := Lib.hid (HP6.out.below (up8 HBI.out hy))
                have BWY := Lib.hid (BI.out.trans (hy.mono BI.out.size))
                have AK := Lib.hid (asks_any HPY.out.idx HPY.out.sorted _ (HPY.out.szd BWY.out) (by have := BND.out.1; omega) (by have := BND.out.2.1; omega) f.1 f.2 top (by rw [B_size]; unfold maxLen; omega) (by rw [B_size]; unfold maxLen; omega))
                have HY := Lib.hid (up8 HBI.out hy)
                have HWY := Lib.hid hwy
                clear hy hwy hf hs6 CF HPY BWY
                go_wp2_with fail
                rw [← HWY.out]
                refine AK.out.mono ?_
                rintro e wz ⟨rfl, bz⟩
                have BZ := Lib.hid (up8 HY.out bz)
                clear bz AK
                go_wp2_with fail
                go_roundw
                case rel => exact ⟨q + 1, hql, by go_num, BZ.out⟩
                case measure => simp [intOf]; omega
              · obtain rfl : q = ed.fields.length := by omega
                have FIN : Hid (∃ (j' : Nat) (T' : Nat → Tag) (n' : Nat) (ms' : List Sz), j' ≤ eds.length ∧ Value.int .i64 ((j : Int) + 1) = .int .i64 j' ∧ PlayR w2 wr (.slice da (dropZ ms ed.id).length dc) T' x kb yb n' ms' ∧ ms'.length ≤ j' ∧ numF ms' ≤ 61 * j' ∧ n' ≤ 130 * j' ∧ Below w2.heap.size w2 wr) := ⟨j + 1, T6, n, dropZ ms ed.id, hlt, by simp, HP6.out.below HBI.out, BND.out.1, BND.out.2.1, BND.out.2.2, BI.out⟩
                clear CF HPX
                go_wp2_with fail
                exact ⟨FIN.out, by simp [intOf]; omega⟩
        · have hk2' : (ed.kind == 2) = false := by simpa using hk2
          have HFX := Lib.hid (HF.out.kept BX.out (Nat.le_refl _))
          have CO := Lib.hid (copies_own ed.fields (.slice fa ed.fields.length fc) wx HFX.out.flds HFX.out.nil (by omega))
          have hdl := dropZ_len ms ed.id
          have hdn := dropZ_num ms ed.id
          have hil := insZ_len (dropZ ms ed.id) (ed.id, ed.fields)
          have hin : numF (insZ (dropZ ms ed.id) (ed.id, ed.fields)) = numF (dropZ ms ed.id) + ed.fields.length := insZ_num _ _
          go_wp2_with fail
          rw [← HWX.out]
          refine CO.out.mono ?_
          rintro e W1 ⟨f9, rfl, hrow, hb1⟩
          obtain ⟨ga, gc, rfl, _⟩ := row_sliceZ hrow
          have HROW := Lib.hid hrow
          have HB1 := Lib.hid hb1
          have C1 : Hid (Cells W1 wr.heap.size 32 #[.int .i64 ed.kind, .int .i64 ed.id, .slice fa ed.fields.length fc]) := (hb1.block _ HCX.out.lt).trans HCX.out
          have d1 : W1.cell? ⟨wr.heap.size, 1, none⟩ = some (.int .i64 ed.id) := C1.out.cell 1
          have d2 : W1.cell? ⟨wr.heap.size, 2, none⟩ = some (.slice fa ed.fields.length fc) := C1.out.cell 2
          have BW1 := Lib.hid (BX.out.trans (hb1.mono BX.out.size))
          clear CO HFX hrow hb1
          by_cases h1 : 1 ≤ ed.id
          · have PP := Lib.hid (play_put HPX.out ed.id HWE.out h1 (by omega) HF.out.flds HROW.out HB1.out (by omega) HF.out.each)
            have BND : Hid ((insZ (dropZ ms ed.id) (ed.id, ed.fields)).length ≤ j + 1 ∧ numF (insZ (dropZ ms ed.id) (ed.id, ed.fields)) ≤ 61 * (j + 1) ∧ n + 1 + 2 * ed.fields.length ≤ 130 * (j + 1)) := ⟨by omega, by omega, by omega⟩
            clear hil hin hdl hdn
            go_wp2_with fail
            refine PP.out.mono ?_
            rintro e W2 ⟨rfl, bb2, hkw, RP⟩
            have RP := Lib.hid RP
            have C2 : Hid (Cells W2 wr.heap.size 32 #[.int .i64 ed.kind, .int .i64 ed.id, .slice fa ed.fields.length fc]) := (hkw _ HCX.out.lt HT2.out).trans C1.out
            replace d1 : W2.cell? ⟨wr.heap.size, 1, none⟩ = some (.int .i64 ed.id) := C2.out.cell 1
            replace d2 : W2.cell? ⟨wr.heap.size, 2, none⟩ = some (.slice fa ed.fields.length fc) := C2.out.cell 2
            have BW2' := Lib.hid (BW1.out.trans (bb2.mono (Nat.le_refl _)))
            clear PP bb2 hkw
            go_wp2_with fail
            refine RP.out.mono ?_
            rintro e W3 ⟨y, rfl, bb3, T6, hput⟩
            have C3 : Hid (Cells W3 wr.heap.size 32 #[.int .i64 ed.kind, .int .i64 ed.id, .slice fa ed.fields.length fc]) := (bb3.block _ C2.out.lt).trans C2.out
            have BW3 := Lib.hid (BW2'.out.trans (bb3.mono BW2'.out.size))
            obtain ⟨ya, yc, rfl, _⟩ := _root_.id hput.play.sz
            clear RP bb3 d1 d2
            have NU := Lib.hid (num_any 0 (by omega) W3)
            have HPT := Lib.hid hput
            have k2 : W3.cell? ⟨wr.heap.size, 2, none⟩ = some (.slice fa ed.fields.length fc) := C3.out.cell 2
            clear hput
            go_wp2_with fail
            refine NU.out.mono ?_
            rintro e W3' ⟨rfl, rfl⟩
            have FQ := Lib.hid (fields_same ed.fields _ (.slice fa ed.fields.length fc) W3 (flds_of_own HPT.out.row) (HF.out.flds.below BW3.out (Nat.le_refl _)) (by omega))
            clear NU
            go_wp2_with fail
            refine FQ.out.mono ?_
            rintro e W4 ⟨rfl, b4⟩
            have HPT4 := Lib.hid (HPT.out.below b4)
            have C4 : Hid (Cells W4 wr.heap.size 32 #[.int .i64 ed.kind, .int .i64 ed.id, .slice fa ed.fields.length fc]) := (b4.block _ C3.out.lt).trans C3.out
            have BW4 := Lib.hid (BW3.out.trans (b4.mono BW3.out.size))
            have SP := Lib.hid (spoilP_any ed.fields.length _ _ W4 (mine_block8 HPT4.out.row) (by omega))
            clear FQ b4 HPT k2
            go_wp2_with fail
            refine SP.out.mono ?_
            rintro e W5 ⟨rfl, hs⟩
            have HP6 := Lib.hid (HPT4.out.spoil hs)
            have C5 : Hid (Cells W5 wr.heap.size 32 #[.int .i64 ed.kind, .int .i64 ed.id, .slice fa ed.fields.length fc]) := (hs.block C4.out.lt (fun e => by have h1 := (HPT4.out.row.lt _ e).1; have h2 := HCX.out.lt; omega)).trans C4.out
            have BY : Hid (Below w2.heap.size w2 W5) := BW4.out.trans (hs.below (fun r e => by have h1 := (HPT4.out.row.lt _ e).1; have h2 := BX.out.size; omega) BW4.out.size)
            have k2 : W5.cell? ⟨wr.heap.size, 2, none⟩ = some (.slice fa ed.fields.length fc) := C5.out.cell 2
            have W2LT : Hid (w2.heap.size < W5.heap.size) := by
              have h1 := HBR.out.size
              have h2 := C5.out.lt
              show _ < _
              omega
            clear SP hs C4 HPT4
            go_wp2_with fail
            go_loopw [80] (fun i wi => ∃ q : Nat, q ≤ ed.fields.length ∧ i = .int .i64 q ∧ Below W5.heap.size W5 wi) (fun i _ => ed.fields.length - (intOf i).toNat)
            case atStart => exact ⟨0, Nat.zero_le _, rfl, Below.refl _ _⟩
            case round =>
              obtain ⟨q, hq, rfl, hbi⟩ := hrel
              have HBI := Lib.hid hbi
              have BI := Lib.hid (BY.out.trans (hbi.mono BY.out.size))
              obtain ⟨a0, a1, a2, hbw⟩ := HA2.out _ BI.out
              have hw8 : w.heap.size < wr.heap.size := Nat.lt_of_le_of_lt HZ.out (Nat.lt_of_lt_of_le W2LT.out hbi.size)
              clear hbi hbw
              by_cases hql : q < ed.fields.length
              · obtain ⟨f, hf⟩ : ∃ f, ed.fields[q]? = some f := ⟨_, List.getElem?_eq_getElem hql⟩
                obtain ⟨b2, o2, rfl, d0, d1⟩ := CF.out _ BI.out q f hf
                obtain ⟨wy, hwy⟩ : ∃ wy, wy = wr.alloc (.cells #[.string (B f.1), .string (B f.2)] 45) := ⟨_, rfl⟩
                have hy : Below wr.heap.size wr wy := by rw [hwy]; exact (Below.refl _ _).alloc (Nat.le_refl _) _
                have hs6 := HSZ.out f (List.mem_of_getElem? hf)
                have HPY := Lib.hid (HP6.out.below (up8 HBI.out hy))
                have BWY := Lib.hid (BI.out.trans (hy.mono BI.out.size))
                have AK := Lib.hid (asks_any HPY.out.idx HPY.out.sorted _ (HPY.out.szd BWY.out) (by have := BND.out.1; omega) (by have := BND.out.2.1; omega) f.1 f.2 top (by rw [B_size]; unfold maxLen; omega) (by rw [B_size]; unfold maxLen; omega))
                have HY := Lib.hid (up8 HBI.out hy)
                have HWY := Lib.hid hwy
                clear hy hwy hf hs6 CF HPY BWY
                go_wp2_with fail
                rw [← HWY.out]
                refine AK.out.mono ?_
                rintro e wz ⟨rfl, bz⟩
                have BZ := Lib.hid (up8 HY.out bz)
                clear bz AK
                go_wp2_with fail
                go_roundw
                case rel => exact ⟨q + 1, hql, by go_num, BZ.out⟩
                case measure => simp [intOf]; omega
              · obtain rfl : q = ed.fields.length := by omega
                have FIN : Hid (∃ (j' : Nat) (T' : Nat → Tag) (n' : Nat) (ms' : List Sz), j' ≤ eds.length ∧ Value.int .i64 ((j : Int) + 1) = .int .i64 j' ∧ PlayR w2 wr (.slice ya (insZ (dropZ ms ed.id) (ed.id, ed.fields)).length yc) T' x kb yb n' ms' ∧ ms'.length ≤ j' ∧ numF ms' ≤ 61 * j' ∧ n' ≤ 130 * j' ∧ Below w2.heap.size w2 wr) := ⟨j + 1, T6, (n + 1 + 2 * ed.fields.length), insZ (dropZ ms ed.id) (ed.id, ed.fields), hlt, by simp, HP6.out.below HBI.out, BND.out.1, BND.out.2.1, BND.out.2.2, BI.out⟩
                clear CF HPX
                go_wp2_with fail
                exact ⟨FIN.out, by simp [intOf]; omega⟩
          · have h1' : ed.id < 1 := by omega
            have PL := Lib.hid (put_low x ed.id h1' ga ed.fields.length gc W1)
            have RL := Lib.hid (refPut_low ed.id (.slice ma ms.length mc) (.slice fa ed.fields.length fc) W1 h1')
            have BND : Hid (ms.length ≤ j + 1 ∧ numF ms ≤ 61 * (j + 1) ∧ n ≤ 130 * (j + 1)) := ⟨by omega, by omega, by omega⟩
            clear hil hin hdl hdn
            go_wp2_with fail
            refine PL.out.mono ?_
            rintro e W2 ⟨rfl, rfl⟩
            go_wp2_with fail
            refine RL.out.mono ?_
            rintro e W3 ⟨rfl, bb3⟩
            have hput := (play_low HPX.out HROW.out HB1.out).below bb3
            have C3 : Hid (Cells W3 wr.heap.size 32 #[.int .i64 ed.kind, .int .i64 ed.id, .slice fa ed.fields.length fc]) := (bb3.block _ C1.out.lt).trans C1.out
            have BW3 := Lib.hid (BW1.out.trans (bb3.mono BW1.out.size))
            clear PL RL bb3 d1 d2
            have NU := Lib.hid (num_any 1 (by omega) W3)
            have HPT := Lib.hid hput
            have k2 : W3.cell? ⟨wr.heap.size, 2, none⟩ = some (.slice fa ed.fields.length fc) := C3.out.cell 2
            clear hput
            go_wp2_with fail
            refine NU.out.mono ?_
            rintro e W3' ⟨rfl, rfl⟩
            have FQ := Lib.hid (fields_same ed.fields _ (.slice fa ed.fields.length fc) W3 (flds_of_own HPT.out.row) (HF.out.flds.below BW3.out (Nat.le_refl _)) (by omega))
            clear NU
            go_wp2_with fail
            refine FQ.out.mono ?_
            rintro e W4 ⟨rfl, b4⟩
            have HPT4 := Lib.hid (HPT.out.below b4)
            have C4 : Hid (Cells W4 wr.heap.size 32 #[.int .i64 ed.kind, .int .i64 ed.id, .slice fa ed.fields.length fc]) := (b4.block _ C3.out.lt).trans C3.out
            have BW4 := Lib.hid (BW3.out.trans (b4.mono BW3.out.size))
            have SP := Lib.hid (spoilP_any ed.fields.length _ _ W4 (mine_block8 HPT4.out.row) (by omega))
            clear FQ b4 HPT k2
            go_wp2_with fail
            refine SP.out.mono ?_
            rintro e W5 ⟨rfl, hs⟩
            have HP6 := Lib.hid (HPT4.out.spoil hs)
            have C5 : Hid (Cells W5 wr.heap.size 32 #[.int .i64 ed.kind, .int .i64 ed.id, .slice fa ed.fields.length fc]) := (hs.block C4.out.lt (fun e => by have h1 := (HPT4.out.row.lt _ e).1; have h2 := HCX.out.lt; omega)).trans C4.out
            have BY : Hid (Below w2.heap.size w2 W5) := BW4.out.trans (hs.below (fun r e => by have h1 := (HPT4.out.row.lt _ e).1; have h2 := BX.out.size; omega) BW4.out.size)
            have k2 : W5.cell? ⟨wr.heap.size, 2, none⟩ = some (.slice fa ed.fields.length fc) := C5.out.cell 2
            have W2LT : Hid (w2.heap.size < W5.heap.size) := by
              have h1 := HBR.out.size
              have h2 := C5.out.lt
              show _ < _
              omega
            clear SP hs C4 HPT4
            go_wp2_with fail
            go_loopw [80] (fun i wi => ∃ q : Nat, q ≤ ed.fields.length ∧ i = .int .i64 q ∧ Below W5.heap.size W5 wi) (fun i _ => ed.fields.length - (intOf i).toNat)
            case atStart => exact ⟨0, Nat.zero_le _, rfl, Below.refl _ _⟩
            case round =>
              obtain ⟨q, hq, rfl, hbi⟩ := hrel
              have HBI := Lib.hid hbi
              have BI := Lib.hid (BY.out.trans (hbi.mono BY.out.size))
              obtain ⟨a0, a1, a2, hbw⟩ := HA2.out _ BI.out
              have hw8 : w.heap.size < wr.heap.size := Nat.lt_of_le_of_lt HZ.out (Nat.lt_of_lt_of_le W2LT.out hbi.size)
              clear hbi hbw
              by_cases hql : q < ed.fields.length
              · obtain ⟨f, hf⟩ : ∃ f, ed.fields[q]? = some f := ⟨_, List.getElem?_eq_getElem hql⟩
                obtain ⟨b2, o2, rfl, d0, d1⟩ := CF.out _ BI.out q f hf
                obtain ⟨wy, hwy⟩ : ∃ wy, wy = wr.alloc (.cells #[.string (B f.1), .string (B f.2)] 45) := ⟨_, rfl⟩
                have hy : Below wr.heap.size wr wy := by rw [hwy]; exact (Below.refl _ _).alloc (Nat.le_refl _) _
                have hs6 := HSZ.out f (List.mem_of_getElem? hf)
                have HPY := Lib.hid (HP6.out.below (up8 HBI.out hy))
                have BWY := Lib.hid (BI.out.trans (hy.mono BI.out.size))
                have AK := Lib.hid (asks_any HPY.out.idx HPY.out.sorted _ (HPY.out.szd BWY.out) (by have := BND.out.1; omega) (by have := BND.out.2.1; omega) f.1 f.2 top (by rw [B_size]; unfold maxLen; omega) (by rw [B_size]; unfold maxLen; omega))
                have HY := Lib.hid (up8 HBI.out hy)
                have HWY := Lib.hid hwy
                clear hy hwy hf hs6 CF HPY BWY
                go_wp2_with fail
                rw [← HWY.out]
                refine AK.out.mono ?_
                rintro e wz ⟨rfl, bz⟩
                have BZ := Lib.hid (up8 HY.out bz)
                clear bz AK
                go_wp2_with fail
                go_roundw
                case rel => exact ⟨q + 1, hql, by go_num, BZ.out⟩
                case measure => simp [intOf]; omega
              · obtain rfl : q = ed.fields.length := by omega
                have FIN : Hid (∃ (j' : Nat) (T' : Nat → Tag) (n' : Nat) (ms' : List Sz), j' ≤ eds.length ∧ Value.int .i64 ((j : Int) + 1) = .int .i64 j' ∧ PlayR w2 wr (.slice ma ms.length mc) T' x kb yb n' ms' ∧ ms'.length ≤ j' ∧ numF ms' ≤ 61 * j' ∧ n' ≤ 130 * j' ∧ Below w2.heap.size w2 wr) := ⟨j + 1, _, n, ms, hlt, by simp, HP6.out.below HBI.out, BND.out.1, BND.out.2.1, BND.out.2.2, BI.out⟩
                clear CF HPX
                go_wp2_with fail
                exact ⟨FIN.out, by simp [intOf]; omega⟩
      · obtain rfl : j = eds.length := by omega
        obtain ⟨a0, a1, a2, hbw⟩ := HA2.out wr hB
        have HBW := Lib.hid hbw
        have AK := Lib.hid (asks_any hP.idx hP.sorted _ (hP.szd hB) (by omega) (by omega) k lo top HK.out.1 HK.out.2)
        clear hP hB hbw
        go_wp2_with fail
        refine AK.out.mono ?_
        rintro e w9 ⟨rfl, b9⟩
        have B9 := Lib.hid (HBW.out.trans (b9.mono HBW.out.size))
        clear b9
        go_wp2_with fail
        go_ret
        exact ⟨rfl, B9.out⟩
open Go.Maps Go.ChangeShapes Go.Joins Go.WideShapes in
set_option maxRecDepth 100000 in
theorem playsCall {H : Type} {enc : TypeId × Value → H} (v : Value) (d : DataW H) (p : List MemPlace) (a : Value) (da : DataW H) (pa : List MemPlace) (W : World) {b0 : Nat} (hval : Value.okWide Try.prog W .any b0 22 v) {base : Nat} {sp : Nat → Bool} {held : Bool} (h : DataW.Trod enc Try.prog W base sp held 22 v d p)
    {b1 : Nat} (hval2 : Value.okWide Try.prog W .any b1 24 a) {base2 : Nat} {sp2 : Nat → Bool} {held2 : Bool} (h2 : DataW.Trod enc Try.prog W base2 sp2 held2 24 a da pa) :
    Calls Try.prog 3 #[v, a] W fun e w' => e = .returned (.bool true) ∧ Below W.heap.size W w' := by
  obtain ⟨n, hn⟩ := h
  obtain ⟨ao, len, cap, rfl⟩ := okWide_slice Try.underlying22 hval
  obtain ⟨eds, hr, hwf⟩ := edits_wf (v := .slice ao len cap) hn
  obtain ⟨c0, c1, c2, y0, y1, y2, n2, rfl, _, _, h0, h1, h3⟩ := open_agg3 Try.underlying24 (by kernel_rfl) (by kernel_rfl) hval2 h2
  obtain ⟨s0, e0, _, w0⟩ := DataW.trod_string Try.underlying9 h0
  obtain ⟨s1, e1, _, w1⟩ := DataW.trod_string Try.underlying9 h1
  obtain ⟨s2, e2, _, w2⟩ := DataW.trod_string Try.underlying9 h3
  simp at e0 e1 e2
  subst e0 e1 e2
  have q := playsLaw eds hwf _ s0.data.toList s1.data.toList s2.data.toList (by rw [B_of]; exact w0) (by rw [B_of]; exact w1) W hr
  rw [B_of, B_of, B_of] at q
  exact q
end Go.Proofs.Ytiebbgbcojgeoaa

