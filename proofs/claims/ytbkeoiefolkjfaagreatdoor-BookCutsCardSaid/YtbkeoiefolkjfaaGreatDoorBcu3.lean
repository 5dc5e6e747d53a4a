/- Texts put together: SN. -/
import Derived.Test.YtbkeoiefolkjfaaGreatDoorBbk1
import Derived.Test.YtbkeoiefolkjfaaGreatDoorBbk2
import Derived.Test.YtbkeoiefolkjfaaGreatDoorBbk3
import Derived.Test.YtbkeoiefolkjfaaGreatDoorBbk4
import Derived.Test.YtbkeoiefolkjfaaGreatDoorBbk5
import Derived.Test.YtbkeoiefolkjfaaGreatDoorBbk6
import Derived.Test.YtbkeoiefolkjfaaGreatDoorBbk7
import Derived.Test.YtbkeoiefolkjfaaGreatDoorBbk8
import Derived.Test.YtbkeoiefolkjfaaGreatDoorBbk9
import Derived.Test.YtbkeoiefolkjfaaGreatDoorBbk10
import Derived.Test.YtbkeoiefolkjfaaGreatDoorBbk11
import Derived.Test.YtbkeoiefolkjfaaGreatDoorBbk12
import Derived.Test.YtbkeoiefolkjfaaGreatDoorBbk13
import Derived.Test.YtbkeoiefolkjfaaGreatDoorBbk14
import Derived.Test.YtbkeoiefolkjfaaGreatDoorBbk15
import Derived.Test.YtbkeoiefolkjfaaGreatDoorBbk16
import Derived.Test.YtbkeoiefolkjfaaGreatDoorBbk17
import Derived.Test.YtbkeoiefolkjfaaGreatDoorBbk18
import Derived.Test.YtbkeoiefolkjfaaGreatDoorBbk19
import Derived.Test.YtbkeoiefolkjfaaGreatDoorBbk20
import Derived.Test.YtbkeoiefolkjfaaGreatDoorBbk21
import Derived.Test.YtbkeoiefolkjfaaGreatDoorBbk22
import Derived.Test.YtbkeoiefolkjfaaGreatDoorBbk23
import Derived.Test.YtbkeoiefolkjfaaGreatDoorBbk25
import Derived.Test.YtbkeoiefolkjfaaGreatDoorBbk26
import Derived.Test.YtbkeoiefolkjfaaGreatDoorBcu1
import Derived.Test.YtbkeoiefolkjfaaGreatDoorBcu2
set_option linter.unusedVariables false
set_option maxRecDepth 100000
set_option maxHeartbeats 16000000
namespace Go.Proofs.YtbkeoiefolkjfaaGreatDoor.Bk
open Go.RowKit Go.Shelf
attribute [local go_sem] Oper.semAt_some
theorem cut_take {t r : List UInt8} {W k : Nat} (h : W <= t.length) : (t.take W ++ r).take (W + k) = t.take W ++ r.take k := by
  have e : (t.take W).length = W := by rw [List.length_take]; omega
  rw [List.take_append, e, Nat.add_sub_cancel_left, List.take_of_length_le (by omega)]
theorem bat_at {lo : Nat} {w : World} {a : Option Addr} {n c : Nat} {us : List Value} (h : w.ownsRow lo 37 1 (.slice a n c) n us) {i : Nat} {u : Value} (hu : us[i]? = some u) (hi : i < n) : ∃ g off, a = some ⟨g, off, none⟩ /\ g < w.heap.size /\ w.cell? ⟨g, off + i, none⟩ = some u := by
  rcases Joins.ownsRow_forms h with ⟨e, hn⟩ | ⟨g, cap, e⟩
  . omega
  have e2 := e
  injection e2 with e3
  rw [e] at h
  refine ⟨g, 0, e3, (World.ownsRow.lt h g rfl).2, ?_⟩
  rw [Nat.zero_add, World.ownsRow.cellAt h i (by omega)]
  exact hu
theorem cutsLaw (t : List UInt8) (eds : List Ed) (v1 : Value) (cut : Int) (w : World) (ha : EdsIn w v1 eds) (hi : ∀ ed ∈ eds, I64 ed.id) (hT : TabB w) :
    Calls Tryz.prog 6 #[.string (B t), v1, .int .i64 cut] w fun e w' => e = .returned (.bool true) /\ Below w.heap.size w w' := by
  have AL := Lib.hid (alive13 w hT)
  have TB : Hid (∀ W, Below w.heap.size w W -> TabB W) := fun W hW => hT.below hW (Nat.le_refl _)
  have hsz : (B t).size = t.length := B_size t
  have HEA := Lib.hid ha
  have HI := Lib.hid hi
  have hqq : ∀ t : ByteArray, ((t.toList == t.toList) = true) := fun t => by simp
  have hnn : ∀ t : Int, ((t == t) = true) := fun t => by simp
  obtain ⟨va, vac, rfl, _⟩ : ∃ A c, v1 = .slice A eds.length c /\ True := by obtain ⟨_, A, c, e, _⟩ := ha; exact ⟨A, c, e, trivial⟩
  clear ha hi hT
  by_cases hlong : 4000 < t.length
  . have q1 : (4000 : Int) < ((B t).size : Int) := by omega
    go_enter Tryz.func6, Tryz.ntmps6
    go_wp2_with fail
    refine AL.out.mono ?_
    rintro e w1 ⟨rfl, b1⟩
    go_wp2_with fail
    go_ret
    exact ⟨rfl, b1⟩
  have q1 : ¬ (4000 : Int) < ((B t).size : Int) := by omega
  go_enter Tryz.func6, Tryz.ntmps6
  go_wp2_with fail
  refine AL.out.mono ?_
  rintro e w1 ⟨rfl, b1⟩
  have B1 := Lib.hid b1
  have HV := Lib.hid (heavy_any eds _ w1 (HEA.out.below b1 (Nat.le_refl _)))
  clear AL b1
  go_wp2_with fail
  refine HV.out.mono ?_
  rintro e w2 ⟨⟨q, rfl, hq⟩, b2⟩
  have B2 := Lib.hid (B1.out.trans (b2.mono B1.out.size))
  have HQ := Lib.hid hq
  clear HV b2 hq
  cases q with
  | true =>
    go_wp2_with fail
    go_ret
    exact ⟨rfl, B2.out⟩
  | false =>
  have LAq : Hid (Light eds) := HQ.out (by first | exact rfl | trivial)
  clear HQ
  have la51 : eds.length <= 51 := LAq.out.1
  have EA : Hid (∀ W, Below w.heap.size w W -> EdV W (.slice va eds.length vac) eds) := fun W hW => HEA.out.edv.below hW (Nat.le_refl _)
  have RD : Hid (∀ (l : List UInt8) W, l.length <= 60000 -> Below w.heap.size w W -> Calls Tryz.prog 9 #[.string (B l)] W fun e w' => ReadR W w' l e) := fun l W hlz hW => bookRead_any l (by omega) (by have := base_short l (hl (Hd.genP l)); omega) W (TB.out W hW)
  have AP : Hid (∀ W, Below w.heap.size w W -> Calls Tryz.prog 21 #[.string (B t), .slice va eds.length vac] W fun e w' => AppR W w' t eds e) := fun W hW => appended_any t (by omega) eds _ W (EA.out W hW) (by omega) LAq.out.fines.eight HI.out (TB.out W hW)
  have RD2 := Lib.hid (RD.out t w2 (by omega) B2.out)
  go_wp2_with fail
  refine RD2.out.mono ?_
  rintro e w3 hr
  obtain ⟨b3, h3⟩ := hr.two
  have B3 := Lib.hid (B2.out.trans (b3.mono B2.out.size))
  clear RD2 hr b3
  rcases h3 with ⟨a, k, u, hbad, rfl, hf⟩ | ⟨n, base, bds, tail, v, hS, rfl, hBR⟩
  . -- the file isn't sound
    obtain ⟨q, _, rfl, _⟩ := hf
    obtain ⟨w4, hw4⟩ : ∃ z, w3.alloc (.cells #[.int .i64 0, .string (B []), .slice none 0 0, .slice none 0 0, .string (B [])] 26) = z := ⟨_, rfl⟩
    have B4 := Lib.hid (show Below w.heap.size w w4 by rw [<- hw4]; exact B3.out.alloc B3.out.size _)
    have AP4 := Lib.hid (AP.out w4 B4.out)
    have HW4 := Lib.hid hw4
    unfold zeroB bookV
    clear hw4 hbad
    go_wp2_with fail
    rw [HW4.out]
    refine AP4.out.mono ?_
    rintro e w5 ⟨b5, h5⟩
    have B5 := Lib.hid (B4.out.trans (b5.mono B4.out.size))
    have hform : ∃ X u, e = .returned (.tuple #[.string X, u]) := by
      rcases h5 with ⟨a, k, u, _, rfl, _⟩ | ⟨n, base, bds, tail, _, ⟨_, u, rfl, _⟩ | ⟨_, _, rfl⟩ | ⟨_, _, rfl⟩⟩
      . exact ⟨_, _, rfl⟩
      . exact ⟨_, _, rfl⟩
      . exact ⟨_, _, rfl⟩
      exact ⟨_, _, rfl⟩
    obtain ⟨X, u, rfl⟩ := hform
    clear AP4 h5 b5
    go_wp2_with fail
    go_ret
    exact ⟨rfl, B5.out⟩
  have BR3 := hBR
  obtain ⟨bv, ev, us, rfl, hBt, hEv⟩ := hBR.is
  obtain ⟨ba, bc, rfl, _⟩ := own_slice hBt.row
  obtain ⟨ea, ec, rfl, _⟩ := own_slice hEv
  have PT := hS.parts
  have hWl : wholeN n base bds <= t.length := by have := PT.len; omega
  have hbl : bds.length <= wholeN n base bds := by have := bds_len bds; unfold wholeN; omega
  unfold bookV at *
  obtain ⟨w4, hw4⟩ : ∃ z, w3.alloc (.cells #[.int .i64 (n : Int), .string (B base), .slice ba bds.length bc, .slice ea bds.length ec, .string (B tail)] 26) = z := ⟨_, rfl⟩
  obtain ⟨b34, C4⟩ := bcells hw4
  have B4 := Lib.hid (B3.out.trans (b34.mono B3.out.size))
  have AP4 := Lib.hid (AP.out w4 B4.out)
  have HW4 := Lib.hid hw4
  have HC4 := Lib.hid C4
  have HBT4 := Lib.hid (hBt.below b34)
  have BR4 := Lib.hid (BR3.below b34)
  have HS := Lib.hid hS
  clear BR3 hBR hBt hEv hS PT b34 C4 hw4 AP
  go_wp2_with fail
  rw [HW4.out]
  refine AP4.out.mono ?_
  rintro e w5 ⟨b5, h5⟩
  have B5 := Lib.hid (B4.out.trans (b5.mono B4.out.size))
  have B45 := Lib.hid b5
  clear AP4 b5
  rcases h5 with ⟨a, k, u, hb', rfl, _⟩ | ⟨n', base', bds', tail', hS', h5⟩
  . exact (hb'.not HS.out).elim
  obtain ⟨rfl, rfl, rfl, rfl⟩ := HS.out.same hS'
  clear hS'
  rcases h5 with ⟨hc, u, rfl, hz⟩ | ⟨hc, hbig, rfl⟩ | ⟨hc, hsmall, rfl⟩
  . obtain ⟨_, hform⟩ := hz
    have hform : (∃ z, u = .iface 57 (.int .i64 z)) \/ ∃ q, u = .iface 68 (.pointer (some ⟨q, 0, none⟩)) := by
      rcases hform with ⟨rfl, _⟩ | ⟨_, ⟨q, _, rfl, _⟩, _, _⟩
      . rw [errV_pos _ (by omega)]; exact .inl ⟨_, rfl⟩
      exact .inr ⟨q, rfl⟩
    clear hc
    rcases hform with ⟨z, rfl⟩ | ⟨q, rfl⟩
    all_goals
      go_wp2_with fail
      go_ret
      exact ⟨rfl, B5.out⟩
  . rw [errV_pos 11 (by decide)]
    clear hc hbig
    go_wp2_with fail
    go_ret
    exact ⟨rfl, B5.out⟩
  have hgd : Fr.goodR (batchT eds) = true := Fr.batch_body hc hsmall
  have hdec : decL (batchT eds) = some eds := decL_iff.2 ⟨hsmall, hc, HI.out, rfl⟩
  have hDc : Dc (batchT eds) = true := by unfold Dc; rw [hdec]; rfl
  have hfl := Fr.full_le hgd
  have hf7 := full_pos (batchT eds)
  obtain ⟨k, hk, hck⟩ := cutIn cut (Fr.fullR (batchT eds)).length (by omega) (by omega)
  have SC := Lib.hid (cut_sound HS.out hgd hk)
  have SF := Lib.hid (full_sound HS.out hgd hDc)
  have HWM := Lib.hid (whole_more n base (batchT eds) bds)
  have HDEC := Lib.hid hdec
  have hslen : (t.take (wholeN n base bds) ++ Fr.fullR (batchT eds)).length = wholeN n base bds + (Fr.fullR (batchT eds)).length := by rw [List.length_append, List.length_take]; omega
  have EXC : Hid ((B (t.take (wholeN n base bds) ++ Fr.fullR (batchT eds))).extract 0 (wholeN n base bds + k) = B (t.take (wholeN n base bds) ++ (Fr.fullR (batchT eds)).take k)) := by
    show _ = _
    rw [Fr.ext_take, cut_take hWl]
  have EXT : Hid ((B (t.take (wholeN n base bds) ++ Fr.fullR (batchT eds))).extract (wholeN n base bds) (wholeN n base bds + k) = B ((Fr.fullR (batchT eds)).take k)) := by
    show _ = _
    rw [Fr.ext_to, Nat.add_sub_cancel_left, List.drop_left' (by rw [List.length_take]; omega)]
  have hclen : (t.take (wholeN n base bds) ++ (Fr.fullR (batchT eds)).take k).length <= 60000 := by rw [List.length_append, List.length_take, List.length_take]; omega
  have hsB : (B (t.take (wholeN n base bds) ++ Fr.fullR (batchT eds))).size = wholeN n base bds + (Fr.fullR (batchT eds)).length := by rw [B_size, hslen]
  have WH : Hid (∀ W, Below w4.heap.size w4 W -> Calls Tryz.prog 15 #[.agg #[.int .i64 (n : Int), .string (B base), .slice ba bds.length bc, .slice ea bds.length ec, .string (B tail)]] W fun e w' => e = .returned (.int .i64 (wholeN n base bds : Nat)) /\ Below W.heap.size W w') := fun W hW => whole_any (BR4.out.below hW) (by omega) (TB.out W (B4.out.trans (hW.mono B4.out.size)))
  have RC : Hid (∀ W, Below w.heap.size w W -> Calls Tryz.prog 9 #[.string (B (t.take (wholeN n base bds) ++ (Fr.fullR (batchT eds)).take k))] W fun e w' => ReadR W w' (t.take (wholeN n base bds) ++ (Fr.fullR (batchT eds)).take k) e) := fun W hW => RD.out _ W hclen hW
  have RF : Hid (∀ W, Below w.heap.size w W -> Calls Tryz.prog 9 #[.string (B (t.take (wholeN n base bds) ++ Fr.fullR (batchT eds)))] W fun e w' => ReadR W w' (t.take (wholeN n base bds) ++ Fr.fullR (batchT eds)) e) := fun W hW => RD.out _ W (by omega) hW
  have k40 := HC4.out.cell 0
  clear RD hgd hdec hDc hc hsmall hclen hslen k40
  generalize hWW : wholeN n base bds = W at *
  generalize hFR : Fr.fullR (batchT eds) = FR at *
  have EW5 := Lib.hid (WH.out w5 B45.out)
  have kb5 := cells_kept HC4.out B45.out HC4.out.lt
  have k0 := kb5.cell 0
  have k1 := kb5.cell 1
  have k2 := kb5.cell 2
  have k3 := kb5.cell 3
  have k4 := kb5.cell 4
  simp only [List.getElem?_toArray, List.getElem?_cons_zero, List.getElem?_cons_succ] at k0 k1 k2 k3 k4
  have q7 : ¬ (100000 : Int) < ((B (t.take W ++ FR)).size : Int) := by omega
  clear kb5
  generalize hX : B (t.take W ++ FR) = X at *
  go_wp2_with fail
  refine EW5.out.mono ?_
  rintro e w6 ⟨rfl, b6⟩
  have B6 := Lib.hid (B5.out.trans (b6.mono B5.out.size))
  have B46 := Lib.hid (B45.out.trans (b6.mono B45.out.size))
  have RC6 := Lib.hid (RC.out w6 B6.out)
  clear k0 k1 k2 k3 k4 b6 EW5
  have q8 : ¬ ((X.size : Nat) : Int) <= (W : Int) := by omega
  have hck2 : wrap64 ((IntKind.u64.wrap cut).tmod ((W : Int) + (FR.length : Int) - (W : Int))) = (k : Int) := by
    rw [show (W : Int) + (FR.length : Int) - (W : Int) = (FR.length : Int) by omega]; exact hck
  clear hck
  go_upto_region 12 with fail
  go_wp2_with fail
  rw [EXC.out]
  refine RC6.out.mono ?_
  rintro e w7 hr
  obtain ⟨b7, v7, rfl, hBRc⟩ := hr.sound SC.out
  have B7 := Lib.hid (B6.out.trans (b7.mono B6.out.size))
  have B47 := Lib.hid (B46.out.trans (b7.mono B46.out.size))
  obtain ⟨bvc, evc, usc, rfl, hBtc, hEvc⟩ := hBRc.is
  obtain ⟨bac, bcc, rfl, _⟩ := own_slice hBtc.row
  obtain ⟨eac, ecc, rfl, _⟩ := own_slice hEvc
  unfold bookV at *
  obtain ⟨w8, hw8⟩ : ∃ z, w7.alloc (.cells #[.int .i64 (n : Int), .string (B base), .slice bac bds.length bcc, .slice eac bds.length ecc, .string (B (FR.take k))] 26) = z := ⟨_, rfl⟩
  obtain ⟨b78, C8⟩ := bcells hw8
  have B8 := Lib.hid (B7.out.trans (b78.mono B7.out.size))
  have B48 := Lib.hid (B47.out.trans (b78.mono B47.out.size))
  have HW8 := Lib.hid hw8
  have HC8 := Lib.hid C8
  have HBT8 := Lib.hid (hBtc.below b78)
  have RF8 := Lib.hid (RF.out w8 B8.out)
  clear hr hBRc hBtc hEvc b7 b78 C8 hw8 RC RC6 RF
  go_wp2_with fail
  rw [HW8.out]
  refine RF8.out.mono ?_
  rintro e w9 hr
  obtain ⟨b9, v9, rfl, hBRd⟩ := hr.sound SF.out
  have B9 := Lib.hid (B8.out.trans (b9.mono B8.out.size))
  have B49 := Lib.hid (B48.out.trans (b9.mono B48.out.size))
  have B89 := Lib.hid b9
  have BRd := hBRd
  obtain ⟨bvd, evd, usd, rfl, hBtd, hEvd⟩ := hBRd.is
  obtain ⟨bad, bcd, rfl, _⟩ := own_slice hBtd.row
  obtain ⟨ead, ecd, rfl, _⟩ := own_slice hEvd
  unfold bookV at *
  have hl1 : (bds ++ [batchT eds]).length = bds.length + 1 := by simp
  rw [hl1] at BRd hBtd hEvd ⊢
  obtain ⟨w10, hw10⟩ : ∃ z, w9.alloc (.cells #[.int .i64 (n : Int), .string (B base), .slice bad (bds.length + 1) bcd, .slice ead (bds.length + 1) ecd, .string (B [])] 26) = z := ⟨_, rfl⟩
  obtain ⟨b90, C10⟩ := bcells hw10
  have B10 := Lib.hid (B9.out.trans (b90.mono B9.out.size))
  have B40 := Lib.hid (B49.out.trans (b90.mono B49.out.size))
  have B80 := Lib.hid (B89.out.trans (b90.mono B89.out.size))
  have HW10 := Lib.hid hw10
  have HC10 := Lib.hid C10
  have HBT10 := Lib.hid (hBtd.below b90)
  have WHd : Hid (∀ W', Below w10.heap.size w10 W' -> Calls Tryz.prog 15 #[.agg #[.int .i64 (n : Int), .string (B base), .slice bad (bds.length + 1) bcd, .slice ead (bds.length + 1) ecd, .string (B [])]] W' fun e w' => e = .returned (.int .i64 ((W + FR.length : Nat) : Int)) /\ Below W'.heap.size W' w') := fun W' hW => by
    have := whole_any ((BRd.below b90).below hW) (by rw [HWM.out]; omega) (TB.out W' (B10.out.trans (hW.mono B10.out.size)))
    rw [HWM.out] at this
    exact this
  clear hr hBRd BRd hBtd hEvd b9 b90 C10 hw10 RF8 hl1
  go_upto_region 15 with fail
  rw [HW10.out]
  have DR : Hid (Below w10.heap.size w10 w10.drew) := (Below.refl _ _).drew
  have HCb := Lib.hid (cells_kept HC4.out B40.out HC4.out.lt)
  have HCc := Lib.hid (cells_kept HC8.out B80.out HC8.out.lt)
  have a0 := HCb.out.cell 0
  have a1 := HCb.out.cell 1
  have a2 := HCb.out.cell 2
  have a3 := HCb.out.cell 3
  have a4 := HCb.out.cell 4
  have c0 := HCc.out.cell 0
  have c1 := HCc.out.cell 1
  have c2 := HCc.out.cell 2
  have c4 := HCc.out.cell 4
  have d0 := HC10.out.cell 0
  have d1 := HC10.out.cell 1
  have d2 := HC10.out.cell 2
  have d3 := HC10.out.cell 3
  have d4 := HC10.out.cell 4
  simp only [List.getElem?_toArray, List.getElem?_cons_zero, List.getElem?_cons_succ] at a0 a1 a2 a3 a4 c0 c1 c2 c4 d0 d1 d2 d3 d4
  have e14 : ((B (FR.take k)).toList != (X.extract W (W + k)).toList) = false := by rw [EXT.out]; simp
  have e59 : (((W + FR.length : Nat) : Int) != ((X.size : Nat) : Int)) = false := by rw [hsB]; simp
  have hE0 : ((B []).toList != (⟨#[]⟩ : ByteArray).toList) = false := by kernel_rfl
  have hm1 : IntKind.i64.wrap ((bds.length : Int) + 1) = (bds.length : Int) + 1 := IntWalk.i64_in _ (by omega)
  have hle : W <= W + k /\ W + k <= X.size := by omega
  have HSx : Hid (∀ W', Below w10.drew.heap.size w10.drew W' -> W'.cell? ⟨w7.heap.size, 4, none⟩ = some (.string (B (FR.take k))) /\ W'.cell? ⟨w7.heap.size, 0, none⟩ = some (.int .i64 (n : Nat)) /\ W'.cell? ⟨w3.heap.size, 0, none⟩ = some (.int .i64 (n : Nat)) /\ W'.cell? ⟨w7.heap.size, 1, none⟩ = some (.string (B base)) /\ W'.cell? ⟨w3.heap.size, 1, none⟩ = some (.string (B base)) /\ W'.cell? ⟨w7.heap.size, 2, none⟩ = some (.slice bac bds.length bcc) /\ W'.cell? ⟨w3.heap.size, 2, none⟩ = some (.slice ba bds.length bc) /\ W'.cell? ⟨w9.heap.size, 2, none⟩ = some (.slice bad (bds.length + 1) bcd) /\ W'.cell? ⟨w3.heap.size, 2, none⟩ = some (.slice ba bds.length bc) /\ W'.cell? ⟨w9.heap.size, 4, none⟩ = some (.string (B [])) /\ True) := fun W' hW => by
    have h := DR.out.trans hW
    have kb := cells_kept HCb.out h HCb.out.lt
    have kc := cells_kept HCc.out h HCc.out.lt
    have kd := cells_kept HC10.out h HC10.out.lt
    have t0 := kb.cell 0
    have t1 := kb.cell 1
    have t2 := kb.cell 2
    have x0 := kc.cell 0
    have x1 := kc.cell 1
    have x2 := kc.cell 2
    have x4 := kc.cell 4
    have y2 := kd.cell 2
    have y4 := kd.cell 4
    simp only [List.getElem?_toArray, List.getElem?_cons_zero, List.getElem?_cons_succ] at t0 t1 t2 x0 x1 x2 x4 y2 y4
    exact ⟨x4, x0, t0, x1, t1, x2, t2, y2, t2, y4, trivial⟩
  have HLb : Hid (∀ W', Below w10.drew.heap.size w10.drew W' -> (Instr.loadAt 26 (.pointer (some ⟨w3.heap.size, 0, none⟩))).run Tryz.prog W' = .ok (.agg #[.int .i64 (n : Nat), .string (B base), .slice ba bds.length bc, .slice ea bds.length ec, .string (B tail)]) W') := fun W' hW => by
    have kb := cells_kept HCb.out (DR.out.trans hW) HCb.out.lt
    have t0 := kb.cell 0
    have t1 := kb.cell 1
    have t2 := kb.cell 2
    have t3 := kb.cell 3
    have t4 := kb.cell 4
    simp only [List.getElem?_toArray, List.getElem?_cons_zero, List.getElem?_cons_succ] at t0 t1 t2 t3 t4
    simp [go_sem, t0, t1, t2, t3, t4]
  have HLd : Hid (∀ W', Below w10.drew.heap.size w10.drew W' -> (Instr.loadAt 26 (.pointer (some ⟨w9.heap.size, 0, none⟩))).run Tryz.prog W' = .ok (.agg #[.int .i64 (n : Nat), .string (B base), .slice bad (bds.length + 1) bcd, .slice ead (bds.length + 1) ecd, .string (B [])]) W') := fun W' hW => by
    have kb := cells_kept HC10.out (DR.out.trans hW) HC10.out.lt
    have t0 := kb.cell 0
    have t1 := kb.cell 1
    have t2 := kb.cell 2
    have t3 := kb.cell 3
    have t4 := kb.cell 4
    simp only [List.getElem?_toArray, List.getElem?_cons_zero, List.getElem?_cons_succ] at t0 t1 t2 t3 t4
    simp [go_sem, t0, t1, t2, t3, t4]
  refine wp_region_any (by kernel_rfl) ?_
  refine region_ct15 _ w10.drew w3.heap.size w7.heap.size w9.heap.size W k FR.length bds.length n bc bcc bcd ec ecd ba bac bad ea ead X (B base) (B tail) (B (FR.take k)) (B []) _ rfl rfl rfl rfl rfl rfl rfl rfl HSx.out HLb.out HLd.out hle e14 hm1 hE0 e59
    (fun W' hW => (WH.out W' (B40.out.trans ((DR.out.trans hW).mono B40.out.size))).mono fun e w' ⟨h1, h2⟩ => ⟨_, h1, rfl, h2⟩)
    (fun W' hW => (WHd.out W' (DR.out.trans hW)).mono fun e w' ⟨h1, h2⟩ => ⟨_, h1, rfl, h2⟩) ?hQ
  case hQ =>
  intro y0 y1 y2 y3 y4 y5 y6 y7 y8 y9 y10 y11 y12 y13 y14 y15 y16 y17 y18 y19 y20 y21 y22 y23 y24 y25 y26 y27 y28 y29 y30 y31 y32 y33 y34 y35 y36 y37 y38 y39 y40 y41 y42 y43 y44 y45 y46 y47 y48 y49 y50 y51 y52 y53 y54 y55 y56 y57 y58 y59 y60 w11 hb11 hy60
  have hy : y60 = .bool false := hy60
  subst hy
  have H11 := Lib.hid (DR.out.trans hb11)
  have B11 := Lib.hid (B10.out.trans (H11.out.mono B10.out.size))
  have HCb11 := Lib.hid (cells_kept HCb.out H11.out HCb.out.lt)
  have HCc11 := Lib.hid (cells_kept HCc.out H11.out HCc.out.lt)
  have HCd11 := Lib.hid (cells_kept HC10.out H11.out HC10.out.lt)
  have T11 := Lib.hid (HBT4.out.below (B40.out.trans (H11.out.mono B40.out.size)))
  have Tc11 := Lib.hid (HBT8.out.below (B80.out.trans (H11.out.mono B80.out.size)))
  have Td11 := Lib.hid (HBT10.out.below H11.out)
  have z2 := HCb11.out.cell 2
  simp only [List.getElem?_toArray, List.getElem?_cons_zero, List.getElem?_cons_succ] at z2
  have HD := Lib.hid (fun (j : Nat) (b : List UInt8) (h : bds[j]? = some b) => (HS.out.recd.good b (List.mem_of_getElem? h)).2)
  clear hb11 hy60 HSx HLb HLd a0 a1 a2 a3 a4 c0 c1 c2 c4 d0 d1 d2 d3 d4 e14 e59 hE0 hm1 hle DR HCb HCc WH WHd
  simp only [List.foldl, List.setIfInBounds_toArray, List.set_cons_zero, List.set_cons_succ]
  go_wp2_with fail
  go_loopw [144] (fun iv wr => ∃ j : Nat, j <= bds.length /\ iv = .int .i64 (j : Nat) /\ Below w11.heap.size w11 wr) (fun iv _ => bds.length - (intOf iv).toNat)
  case atStart => exact ⟨0, Nat.zero_le _, rfl, Below.refl _ _⟩
  case round =>
  obtain ⟨j, hj, rfl, hb⟩ := hrel
  have BW := Lib.hid (B11.out.trans (hb.mono B11.out.size))
  have TR := Lib.hid (T11.out.below hb)
  have TcR := Lib.hid (Tc11.out.below hb)
  have TdR := Lib.hid (Td11.out.below hb)
  have kb := cells_kept HCb11.out hb HCb11.out.lt
  have kc := cells_kept HCc11.out hb HCc11.out.lt
  have kd := cells_kept HCd11.out hb HCd11.out.lt
  have t2 := kb.cell 2
  have x2 := kc.cell 2
  have y2 := kd.cell 2
  simp only [List.getElem?_toArray, List.getElem?_cons_zero, List.getElem?_cons_succ] at t2 x2 y2
  have HBW := Lib.hid hb
  by_cases hlt : j < bds.length
  . obtain ⟨b, hbj⟩ : ∃ b, bds[j]? = some b := ⟨_, List.getElem?_eq_getElem hlt⟩
    have hbj2 : (bds ++ [batchT eds])[j]? = some b := by rw [List.getElem?_append_left hlt]; exact hbj
    obtain ⟨u, hu⟩ : ∃ u, us[j]? = some u := ⟨_, List.getElem?_eq_getElem (by rw [TR.out.len]; exact hlt)⟩
    obtain ⟨uc, huc⟩ : ∃ u, usc[j]? = some u := ⟨_, List.getElem?_eq_getElem (by rw [TcR.out.len]; exact hlt)⟩
    obtain ⟨ud, hud⟩ : ∃ u, usd[j]? = some u := ⟨_, List.getElem?_eq_getElem (by rw [TdR.out.len]; simp; omega)⟩
    obtain ⟨_, ho⟩ := TR.out.each j b u hbj hu
    obtain ⟨_, _, rfl, _⟩ := own_slice ho.row
    obtain ⟨_, hoc⟩ := TcR.out.each j b uc hbj huc
    obtain ⟨_, _, rfl, _⟩ := own_slice hoc.row
    obtain ⟨_, hod⟩ := TdR.out.each j b ud hbj2 hud
    obtain ⟨_, _, rfl, _⟩ := own_slice hod.row
    have hdb := HD.out j b hbj
    have E1 := Lib.hid (bats_alike TR.out TcR.out hbj hbj hu huc hdb)
    have E2 : Hid (∀ W', Below wr.heap.size wr W' -> Calls Tryz.prog 23 #[_, _] W' fun e w' => e = .returned (.bool true) /\ Below W'.heap.size W' w') := fun W' hW => bats_alike (TR.out.below hW) (TdR.out.below hW) hbj hbj2 hu hud hdb
    obtain ⟨gb, ob, rfl, hgb, v1⟩ := bat_at TR.out.row hu hlt
    obtain ⟨gc, oc, rfl, hgc, v2⟩ := bat_at TcR.out.row huc hlt
    have rd := TdR.out.row
    rw [show (bds ++ [batchT eds]).length = bds.length + 1 by simp] at rd
    obtain ⟨gd, od, rfl, hgd, v3⟩ := bat_at rd hud (by omega)
    have V3 : Hid (∀ W', Below wr.heap.size wr W' -> W'.cell? ⟨gd, od + j, none⟩ = _) := fun W' hW => (hW.cell (p := ⟨gd, od + j, none⟩) hgd).trans v3
    clear ho hoc hod hdb rd v3 hbj hbj2 hu huc hud hb kb kc kd
    go_wp2_with fail
    refine E1.out.mono ?_
    rintro e wx ⟨rfl, bx⟩
    have v3 := V3.out wx bx
    have EX2 := Lib.hid (E2.out wx bx)
    have BX := Lib.hid (HBW.out.trans (bx.mono HBW.out.size))
    have kd := cells_kept HCd11.out BX.out HCd11.out.lt
    have y2 := kd.cell 2
    simp only [List.getElem?_toArray, List.getElem?_cons_zero, List.getElem?_cons_succ] at y2
    clear E1 E2 V3 bx v1 v2 t2 x2 kd
    go_wp2_with fail
    refine EX2.out.mono ?_
    rintro e wy ⟨rfl, by_⟩
    have BY := Lib.hid (BX.out.trans (by_.mono BX.out.size))
    clear by_ EX2 y2 v3
    go_wp2_with fail
    go_roundw
    case rel => exact ⟨j + 1, hlt, by go_num, BY.out⟩
    case measure => simp [intOf]; omega
  obtain rfl : j = bds.length := by omega
  obtain ⟨ud, hud⟩ : ∃ u, usd[bds.length]? = some u := ⟨_, List.getElem?_eq_getElem (by rw [TdR.out.len]; simp)⟩
  have hbl2 : (bds ++ [batchT eds])[bds.length]? = some (batchT eds) := by simp
  obtain ⟨fvd, hod⟩ := TdR.out.each bds.length (batchT eds) ud hbl2 hud
  have ee : edsOf (batchT eds) = eds := by unfold edsOf; rw [HDEC.out]; rfl
  rw [ee] at hod
  obtain ⟨_, _, rfl, _⟩ := own_slice hod.row
  have rd := TdR.out.row
  rw [show (bds ++ [batchT eds]).length = bds.length + 1 by simp] at rd
  obtain ⟨gd, od, rfl, hgd, v3⟩ := bat_at rd hud (by omega)
  have EL : Hid (Calls Tryz.prog 23 #[_, _] wr fun e w' => e = .returned (.bool true) /\ Below wr.heap.size wr w') := (edits_quiet eds _ _ wr hod.edv (EA.out wr BW.out) (by omega) LAq.out.fines).mono fun e w' ⟨he, m, hm⟩ => ⟨he, by rw [hm]; exact drewN_below (Below.refl _ _) m⟩
  clear hod rd hud hbl2 hb kb kc kd ee
  go_wp2_with fail
  refine EL.out.mono ?_
  rintro e wz ⟨rfl, bz⟩
  have BZ := Lib.hid (BW.out.trans (bz.mono BW.out.size))
  clear bz EL
  go_wp2_with fail
  go_ret
  exact ⟨rfl, BZ.out⟩
open Go.Maps Go.ChangeShapes Go.Joins Go.WideShapes in
theorem cutsCall {H : Type} {enc : TypeId × Value -> H} (s : ByteArray) (v1 : Value) (d1 : DataW H) (p1 : List MemPlace) (cut : Int) (W : World) {b0 : Nat} (_ : s.size <= maxLen) (hval1 : Value.okWide Tryz.prog W .any b0 37 v1) {base1 : Nat} {sp1 : Nat -> Bool} {held1 : Bool} (h1 : DataW.Trod enc Tryz.prog W base1 sp1 held1 37 v1 d1 p1) (_ : (Lit.int .i64 cut).wf = true) (hT : TabB W) :
    Calls Tryz.prog 6 #[.string s, v1, .int .i64 cut] W fun e w' => e = .returned (.bool true) /\ Below W.heap.size W w' := by
  obtain ⟨n1, hn1⟩ := h1
  obtain ⟨ao, len, cap, rfl⟩ := okWide_slice Tryz.underlying37 hval1
  obtain ⟨as_, hr1, hi⟩ := edits_inB (v := .slice ao len cap) hn1
  have h := cutsLaw s.data.toList as_ _ cut W hr1 hi hT
  rw [B_of] at h
  exact h
end Go.Proofs.YtbkeoiefolkjfaaGreatDoor.Bk
