/- AmendCuts. -/
import Derived.Test.YtkcklnnmcmjnjaaGreatDoorXBA
import Derived.Test.YtkcklnnmcmjnjaaGreatDoorBam0
import Derived.WideShapes
set_option linter.unusedVariables false
namespace Go.Proofs.YtkcklnnmcmjnjaaGreatDoor
open Go.RowKit Go.Shelf
attribute [local go_sem] Oper.semAt_some

/-- The first edits of a batch, in place. -/
theorem EdV.take {w : World} {A : Option Addr} {n k cap : Nat} {eds : List Ed} (h : EdV w (.slice A n cap) eds) (hk : k ≤ eds.length) : EdV w (.slice A k cap) (eds.take k) := by
  obtain ⟨A', cap', e, hle, hc⟩ := h
  cases e
  have hl : (eds.take k).length = k := by rw [List.length_take]; omega
  refine ⟨A, cap, by rw [hl], by omega, fun i ed hi => hc i ed ?_⟩
  have := (List.getElem?_eq_some_iff.1 hi).1
  rw [List.getElem?_take_of_lt (by omega)] at hi
  exact hi
theorem mem_fines {es : List Ed} (hf : Fines es) (k : Nat) : Fines (es.take k) := fun ed hm => hf ed (List.mem_of_mem_take hm)
set_option maxRecDepth 100000 in
set_option maxHeartbeats 32000000 in
theorem cutsLaw (eds : List Ed) (v1 : Value) (at_ : Int) (w : World) (ha : EdsIn w v1 eds) (hi : ∀ ed ∈ eds, I64 ed.id) (hat : I64 at_) (hT : Tabs w) :
    Calls Tryz.prog 8 #[v1, .int .i64 at_] w fun e w' => e = .returned (.bool true) ∧ Below w.heap.size w w' := by
  have AL := Lib.hid (aliveA_any w hT)
  have HEA := Lib.hid ha
  have HT := Lib.hid hT
  have HI := Lib.hid hi
  obtain ⟨va, vac, rfl, _⟩ : ∃ A c, v1 = .slice A eds.length c ∧ True := by obtain ⟨_, A, c, e, _⟩ := ha; exact ⟨A, c, e, trivial⟩
  clear ha hT hi
  go_enter Tryz.func8, Tryz.ntmps8
  go_wp2_with fail
  refine AL.out.mono ?_
  rintro e w1 ⟨rfl, b1⟩
  have B1 := Lib.hid b1
  have HV := Lib.hid (heavy_any eds _ w1 (HEA.out.below b1 (Nat.le_refl _)))
  clear AL b1
  go_wp2_with fail
  refine HV.out.mono ?_
  rintro e w2 ⟨⟨q, rfl, hq⟩, b2⟩
  have B2 := Lib.hid (B1.out.trans (b2.mono B1.out.size))
  have HQ := Lib.hid hq
  clear HV b2 hq
  cases q with
  | true =>
    go_wp2_with fail
    go_ret
    exact ⟨rfl, B2.out⟩
  | false =>
  have LA : Hid (Light eds) := HQ.out (by first | exact rfl | trivial)
  clear HQ
  have la51 : eds.length ≤ 51 := LA.out.1
  have EA : Hid (∀ W, Below w.heap.size w W → EdV W (.slice va eds.length vac) eds) := fun W hW => HEA.out.edv.below hW (Nat.le_refl _)
  have EN := Lib.hid (encode_any eds _ w2 (EA.out w2 B2.out) (by omega) LA.out.fines.eight HI.out (HT.out.below B2.out (Nat.le_refl _)))
  go_wp2_with fail
  refine EN.out.mono ?_
  rintro e w4 ⟨b4, R4⟩
  have B4 := Lib.hid (B2.out.trans (b4.mono B2.out.size))
  clear EN b4
  rcases R4 with ⟨h0, rfl⟩ | ⟨h0, u, rfl, hz⟩
  rotate_left
  · have hu : ∃ T p, u = .iface T p := by
      obtain ⟨_, ⟨rfl, _⟩ | ⟨kk, ⟨q, _, rfl, _⟩, _, _⟩⟩ := hz
      · exact ⟨_, _, errV_pos _ (Nat.pos_of_ne_zero h0)⟩
      · exact ⟨_, _, rfl⟩
    obtain ⟨T, p, rfl⟩ := hu
    clear hz
    go_wp2_with fail
    go_ret
    exact ⟨rfl, B4.out⟩
  have H0 := Lib.hid h0
  have bsz := B_size (batchT eds)
  have hne : 0 < (batchT eds).length := by
    obtain ⟨⟨n1, _⟩, g1⟩ := chkB_good h0
    cases eds with
    | nil => simp at n1
    | cons x r =>
      rw [batchT_cons]
      unfold edT edLs
      rw [textL_cons]
      simp; omega
  by_cases hq : ¬ (batchT eds).length ≤ 50000
  · clear h0
    generalize (batchT eds).length = L at *
    generalize B (batchT eds) = X at *
    have q0 : ((L : Int) == 0) = false := by simp; omega
    have q1 : decide (50000 < (L : Int)) = true := by simp; omega
    go_wp2_with fail
    go_ret
    exact ⟨rfl, B4.out⟩
  replace hq := Classical.not_not.1 hq
  have CD := Lib.hid (fun (c : Nat) (l : List Ed) (hd : decL ((batchT eds).take c) = some l) => cut_decode h0 HI.out hd)
  have DC := Lib.hid (fun (c : Nat) W (h2 : Below w.heap.size w W) => decode_any ((batchT eds).take c) (by unfold maxLen; rw [List.length_take]; omega) W (HT.out.below h2 (Nat.le_refl _)))
  have EX : Hid (∀ c : Nat, (B (batchT eds)).extract 0 c = B ((batchT eds).take c)) := fun c => by
    apply ByteArray.ext
    apply Array.toList_inj.1
    rw [Lib.extract_data, List.drop_zero, Nat.sub_zero, B_data, B_data]
  clear h0
  generalize hBL : (batchT eds).length = L at *
  have WH := Lib.hid (fun n hn W => wholeA_any (B (batchT eds)) n W (by omega) hn)
  rw [show (B (batchT eds)).size = L from bsz] at WH
  generalize hX : B (batchT eds) = X at *
  have w1 : ∀ z : Int, IntKind.u64.wrap z = z % 18446744073709551616 := fun z => by rw [IntKind.wrap_u64]
  have q0 : ((L : Int) == 0) = false := by simp; omega
  have q1 : decide (50000 < (L : Int)) = false := by simp; omega
  have eL : (L : Int) % 18446744073709551616 = L := Int.emod_eq_of_lt (by omega) (by omega)
  obtain ⟨n, hn⟩ : ∃ n, n = at_ % 18446744073709551616 % (L : Int) := ⟨_, rfl⟩
  have hn0 : 0 ≤ n := by rw [hn]; exact Int.emod_nonneg _ (by omega)
  have hn1 : n < L := by rw [hn]; exact Int.emod_lt_of_pos _ (by omega)
  have HW : Hid (wrap64 (at_ % 18446744073709551616 % ((L : Int) % 18446744073709551616)) = n) := by
    show _ = _
    rw [eL, ← hn, IntWalk.wrap64_in _ (by omega)]
  clear hn eL hBL
  go_wp2_with fail
  rw [HW.out]
  refine (WH.out n ⟨hn0, hn1⟩ _).mono ?_
  rintro e w5 ⟨c, rfl, hcn, rfl⟩
  have hcL : c < L := by omega
  have qc0 : decide ((c : Int) < 0) = false := by simp
  have qc1 : decide ((L : Int) ≤ (c : Int)) = false := by simp; omega
  have DC5 := Lib.hid (DC.out c w4 B4.out)
  have CD5 := Lib.hid (CD.out c)
  have EX5 := Lib.hid (EX.out c)
  clear DC CD EX WH HW
  go_wp2_with fail
  rw [EX5.out]
  refine DC5.out.mono ?_
  rintro e w6 ⟨b6, ⟨_, rfl⟩ | ⟨l, u, fvs, hd, rfl, hO⟩⟩
  · have B6 := Lib.hid (B4.out.trans (b6.mono B4.out.size))
    clear b6 DC5 CD5 EX5
    go_wp2_with fail
    go_ret
    exact ⟨rfl, B6.out⟩
  have B6 := Lib.hid (B4.out.trans (b6.mono B4.out.size))
  obtain ⟨a, e, g, r, hl, he, hk, hid_, hcut⟩ := CD5.out l hd
  obtain ⟨ua, uc, hu, huc⟩ := own_slice hO.row
  have hln : l.length = a.length + 1 := by rw [hl]; simp
  have hN : a.length < eds.length := by rw [he]; simp
  have hta : l.take a.length = a := by rw [hl]; simp
  have hte : eds.take a.length = a := by rw [he]; simp
  have hle : l[a.length]? = some e := by rw [hl]; simp
  have hge : eds[a.length]? = some g := by rw [he]; simp
  have hEG := hO.edv
  rw [hu] at hEG
  rw [hln] at hu huc
  have hEB := EA.out w6 B6.out
  have fA : Fines a := by rw [← hte]; exact mem_fines LA.out.fines _
  have hEGt : EdV w6 (.slice ua a.length uc) a := by have := hEG.take (k := a.length) (by omega); rw [hta] at this; exact this
  have hEBt : EdV w6 (.slice va a.length vac) a := by have := hEB.take (k := a.length) (by omega); rw [hte] at this; exact this
  have FQ : Hid (∀ n, Calls Tryz.prog 19 #[.slice ua a.length uc, .slice va a.length vac] (w6.drewN n) fun e w' => e = .returned (.bool true) ∧ ∃ m, w' = (w6.drewN n).drewN m) := fun n =>
    edits_quiet a _ _ _ (hEGt.below (drewN_below (Below.refl _ _) n) (Nat.le_refl _)) (hEBt.below (drewN_below (Below.refl _ _) n) (Nat.le_refl _)) (by omega) fA
  obtain ⟨A1, cap1, eA1, _, hc1⟩ := hEG
  obtain ⟨A2, cap2, eA2, hle2, hc2⟩ := hEB
  injection eA1 with e1 _ e2
  injection eA2 with e3 _ e4
  subst e1 e2 e3 e4
  obtain ⟨b, off, fv, hua, hbb, c0, c1, c2, hfl⟩ := hc1 _ e hle
  obtain ⟨b', off', gv, hva, hbb', c0', c1', c2', hgl⟩ := hc2 _ g hge
  subst hua hva hu
  obtain ⟨fa, fc, rfl⟩ := hfl.form
  obtain ⟨ga, gc, rfl⟩ := hgl.form
  have hcl := hcut.len
  have hfn := (LA.out.fines g (List.mem_of_getElem? hge)).len
  rw [← hk] at c0'
  rw [← hid_] at c1'
  have hal51 : a.length ≤ 51 := by omega
  have HFL := Lib.hid hfl
  have HGL := Lib.hid hgl
  have HCUT := Lib.hid hcut
  clear hl he hk hid_ hln hta hte hle hge fA hEGt hEBt hc1 hc2 hfl hgl hcut hO hd b6 DC5 CD5 EX5 HI LA EA HEA
  generalize a.length = m at *
  generalize e.kind = K at *
  generalize e.id = X9 at *
  generalize hEF : e.fields = ef at *
  generalize hGF : g.fields = gf at *
  generalize eds.length = N at *
  have qm : ((m : Int) + 1 == 0) = false := by simp; omega
  have qn : decide ((N : Int) < (m : Int) + 1) = false := by simp; omega
  have FQ0 := FQ
  go_wp2_with (go_quiet ((go_at_call 19; exact Calls.quiet_of (FQ.out _))))
  have qf : decide (gf.length < ef.length) = false := by simp; omega
  rw [qf]
  clear qf
  go_loopw [131] (fun i wr => ∃ k : Nat, k ≤ ef.length ∧ i = .int .i64 k ∧ Below w6.heap.size w6 wr) (fun i _ => ef.length - (intOf i).toNat)
  case atStart => exact ⟨0, Nat.zero_le _, rfl, by first | exact drewN_below (Below.refl _ _) _ | exact Below.refl _ _⟩
  case round =>
    obtain ⟨k, hk, rfl, hb⟩ := hrel
    by_cases hlt : k < ef.length
    · obtain ⟨f, hf⟩ : ∃ f, ef[k]? = some f := ⟨_, List.getElem?_eq_getElem hlt⟩
      obtain ⟨h, hh⟩ : ∃ h, gf[k]? = some h := ⟨_, List.getElem?_eq_getElem (by omega)⟩
      obtain ⟨_, _, eF, _, hfld⟩ := HFL.out.1
      cases eF
      obtain ⟨_, _, eG, _, hgld⟩ := HGL.out.1
      cases eG
      obtain ⟨b2, o2, rfl, hb2, d0, d1⟩ := hfld k f hf
      obtain ⟨b3, o3, rfl, hb3, g0, g1⟩ := hgld k h hh
      obtain ⟨hkey, z, hval⟩ := HCUT.out.at hf hh
      rw [← hkey] at g0
      replace c2' := (hb.cell (p := ⟨b', off' + m * 3 + 1 + 1, none⟩) hbb').trans c2'
      replace d0 := (hb.cell (p := ⟨b2, o2 + k * 2, none⟩) hb2).trans d0
      replace d1 := (hb.cell (p := ⟨b2, o2 + k * 2 + 1, none⟩) hb2).trans d1
      replace g0 := (hb.cell (p := ⟨b3, o3 + k * 2, none⟩) hb3).trans g0
      replace g1 := (hb.cell (p := ⟨b3, o3 + k * 2 + 1, none⟩) hb3).trans g1
      have hex : (B h.2).extract 0 (B f.2).size = B f.2 := by
        apply ByteArray.ext
        apply Array.toList_inj.1
        rw [Lib.extract_data, List.drop_zero, Nat.sub_zero, B_data, B_data, B_size, hval, List.take_left]
      have hsz : (B f.2).size ≤ (B h.2).size := by rw [B_size, B_size, hval, List.length_append]; omega
      obtain ⟨X1, hX1⟩ : ∃ X1, X1 = wr.alloc (.cells #[.string (B f.1), .string (B f.2)] 35) := ⟨_, rfl⟩
      obtain ⟨Y, hY⟩ : ∃ Y, Y = X1.alloc (.cells #[.string (B f.1), .string (B h.2)] 35) := ⟨_, rfl⟩
      have bX : Below wr.heap.size wr X1 := by rw [hX1]; exact (Below.refl _ wr).alloc (Nat.le_refl _) _
      have bY : Below X1.heap.size X1 Y := by rw [hY]; exact (Below.refl _ X1).alloc (Nat.le_refl _) _
      have zX : X1.heap.size = wr.heap.size + 1 := by rw [hX1]; simp
      have BX := hb.trans (bX.mono hb.size)
      have BY := Lib.hid (BX.trans (bY.mono BX.size))
      have cA : Cells Y wr.heap.size 35 #[.string (B f.1), .string (B f.2)] := (hX1 ▸ Cells.new wr 35 _ : Cells X1 wr.heap.size 35 _).below bY (by omega)
      have cB : Cells Y (wr.heap.size + 1) 35 #[.string (B f.1), .string (B h.2)] := by rw [← zX, hY]; exact Cells.new _ _ _
      have y0 : Y.cell? ⟨wr.heap.size, 0, none⟩ = some (.string (B f.1)) := by rw [cA.cell]; rfl
      have y1 : Y.cell? ⟨wr.heap.size, 1, none⟩ = some (.string (B f.2)) := by rw [cA.cell]; rfl
      have y2 : Y.cell? ⟨wr.heap.size + 1, 0, none⟩ = some (.string (B f.1)) := by rw [cB.cell]; rfl
      have y3 : Y.cell? ⟨wr.heap.size + 1, 1, none⟩ = some (.string (B h.2)) := by rw [cB.cell]; rfl
      have g0' := (bX.cell (p := ⟨b3, o3 + k * 2, none⟩) (Nat.lt_of_lt_of_le hb3 hb.size)).trans g0
      have g1' := (bX.cell (p := ⟨b3, o3 + k * 2 + 1, none⟩) (Nat.lt_of_lt_of_le hb3 hb.size)).trans g1
      have c2x : X1.cell? ⟨b', off' + m * 3 + 2, none⟩ = _ := (bX.cell (p := ⟨b', off' + m * 3 + 1 + 1, none⟩) (Nat.lt_of_lt_of_le hbb' hb.size)).trans c2'
      have hlg : k < gf.length := by omega
      clear hfld hgld hf hh hkey hval HFL HGL HCUT hb cA cB bX bY zX BX c0 c1 c2 c0' c1' hEF hGF FQ FQ0
      generalize B f.1 = S1 at *
      generalize B f.2 = S2 at *
      generalize B h.2 = S3 at *
      subst hX1
      go_upto_region 23 with fail
      rw [← hY]
      clear g0' g1' c2x d0 d1 g0 g1 c2' hY
      go_wp2_with (go_quiet (fail))
      go_roundw
      case rel => exact ⟨k + 1, hlt, by go_num, by first | exact drewN_below BY.out _ | exact BY.out⟩
      case measure => simp [intOf]; omega
    · obtain rfl : k = ef.length := by omega
      have BF := Lib.hid (B6.out.trans (hb.mono B6.out.size))
      clear hb FQ FQ0
      go_wp2_with fail
      go_ret
      exact ⟨rfl, BF.out⟩
open Go.Maps Go.ChangeShapes Go.Joins Go.WideShapes in
set_option maxRecDepth 100000 in
/-- .. at a batch that came in. -/
theorem cutsCall {H : Type} {enc : TypeId × Value → H} (v1 : Value) (d1 : DataW H) (p1 : List MemPlace) (at_ : Int) (W : World) {b0 : Nat} (hval1 : Value.okWide Tryz.prog W .any b0 22 v1) {base1 : Nat} {sp1 : Nat → Bool} {held1 : Bool} (h1 : DataW.Trod enc Tryz.prog W base1 sp1 held1 22 v1 d1 p1)
    (hwf : (Lit.int .i64 at_).wf = true) (hT : Tabs W) :
    Calls Tryz.prog 8 #[v1, .int .i64 at_] W fun e w' => e = .returned (.bool true) ∧ Below W.heap.size W w' := by
  obtain ⟨n1, hn1⟩ := h1
  obtain ⟨ao, len, cap, rfl⟩ := okWide_slice Tryz.underlying22 hval1
  obtain ⟨as_, hr1, hi⟩ := edits_inB (v := .slice ao len cap) hn1
  have hat : I64 at_ := by simpa [Lit.wf, IntKind.min, IntKind.max, IntKind.signed, IntKind.bits, I64] using hwf
  exact cutsLaw as_ _ at_ W hr1 hi hat hT
end Go.Proofs.YtkcklnnmcmjnjaaGreatDoor
