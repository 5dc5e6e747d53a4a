/- Texts put together: DV. -/
import Derived.Test.YtgaooalckjjplaaGreatDoorBfa7
import Derived.Test.YtgaooalckjjplaaGreatDoorBfa15
import Derived.Test.YtgaooalckjjplaaGreatDoorBfa17
set_option linter.unusedVariables false
namespace Go.Proofs.YtgaooalckjjplaaGreatDoor.Fr

theorem sp_text : ∀ ls : List (List UInt8), (∀ l ∈ ls, (10 : UInt8) ∉ l) → (∀ l ∈ ls, ∃ r, l = 32 :: r) → sp true (textL ls) = true
  | [], _, _ => rfl
  | l :: ls, hc, hs => by
    obtain ⟨r, hr⟩ := hs l List.mem_cons_self
    have e : textL (l :: ls) = (l ++ [10]) ++ textL ls := by rw [textL_cons]; simp
    rw [e, sp_append, sp_line l (hc l List.mem_cons_self), fresh_append l [10] true (by simp)]
    have e2 : fresh true ([10] : List UInt8) = true := rfl
    rw [e2, sp_text ls (fun x h => hc x (List.mem_cons_of_mem _ h)) (fun x h => hs x (List.mem_cons_of_mem _ h)), hr]
    rfl
theorem batch_body {eds : List Ed} (h0 : (chkB eds).2 = 0) (hl : (batchT eds).length ≤ 50000) : goodR (batchT eds) = true := by
  obtain ⟨⟨n1, _⟩, g1⟩ := chkB_good h0
  have hne : batchLs eds ≠ [] := by
    cases eds with
    | nil => simp at n1
    | cons x r => unfold batchLs edLs; simp
  have hs := batchLs_sp g1
  have hc := batchLs_clean g1
  rw [good_iff]
  unfold batchT at *
  have hlast : lastNl (textL (batchLs eds)) = true := by
    unfold lastNl
    rw [List.getLast?_eq_getElem?, text_last _ hne]; rfl
  refine ⟨?_, hl, hlast, sp_text _ hc hs⟩
  cases hL : batchLs eds with
  | nil => exact absurd hL hne
  | cons l ls =>
    obtain ⟨r, hr⟩ := hs l (by rw [hL]; exact List.mem_cons_self)
    rw [textL_cons, hr]
    simp
    omega
open Go.RowKit Go.Shelf
attribute [local go_sem] Oper.semAt_some
theorem tabsN {w : World} (h : Tabs w) : TabsN w := ⟨h.pow, h.syn, h.ran⟩
set_option maxRecDepth 100000 in
set_option maxHeartbeats 8000000 in
theorem amendsLaw (ea eb : List Ed) (v1 v2 : Value) (w : World) (ha : EdsIn w v1 ea) (hb : EdsIn w v2 eb) (hi : ∀ ed ∈ ea, I64 ed.id) (hj : ∀ ed ∈ eb, I64 ed.id) (hT : Tabs w) :
    Calls Tryz.prog 5 #[v1, v2] w fun e w' => e = .returned (.bool true) ∧ Below w.heap.size w w' := by
  have AL := Lib.hid (alive11_any w (tabsN hT))
  have HA := Lib.hid ha
  have HB := Lib.hid hb
  have HT := Lib.hid hT
  have HI := Lib.hid hi
  have HJ := Lib.hid hj
  obtain ⟨va, vac, rfl, _⟩ : ∃ A c, v1 = .slice A ea.length c ∧ True := by obtain ⟨_, A, c, e, _⟩ := ha; exact ⟨A, c, e, trivial⟩
  obtain ⟨vb, vbc, rfl, _⟩ : ∃ A c, v2 = .slice A eb.length c ∧ True := by obtain ⟨_, A, c, e, _⟩ := hb; exact ⟨A, c, e, trivial⟩
  clear ha hb hT hi hj
  go_enter Tryz.func5, Tryz.ntmps5
  go_wp2_with fail
  refine AL.out.mono ?_
  rintro e w1 ⟨rfl, b1⟩
  have B1 := Lib.hid b1
  have HV := Lib.hid (heavy_any ea _ w1 (HA.out.below b1 (Nat.le_refl _)))
  clear AL b1
  go_wp2_with fail
  refine HV.out.mono ?_
  rintro e w2 ⟨⟨q, rfl, hq⟩, b2⟩
  have B2 := Lib.hid (B1.out.trans (b2.mono B1.out.size))
  have HQ := Lib.hid hq
  clear HV b2 hq
  cases q with
  | true =>
    go_wp2_with fail
    go_ret
    exact ⟨rfl, B2.out⟩
  | false =>
  have LA : Hid (Light ea) := HQ.out (by first | exact rfl | trivial)
  have HV := Lib.hid (heavy_any eb _ w2 (HB.out.below B2.out (Nat.le_refl _)))
  clear HQ
  go_wp2_with fail
  refine HV.out.mono ?_
  rintro e w3 ⟨⟨q, rfl, hq⟩, b3⟩
  have B3 := Lib.hid (B2.out.trans (b3.mono B2.out.size))
  have HQ := Lib.hid hq
  clear HV b3 hq
  cases q with
  | true =>
    go_wp2_with fail
    go_ret
    exact ⟨rfl, B3.out⟩
  | false =>
  have LB : Hid (Light eb) := HQ.out (by first | exact rfl | trivial)
  clear HQ
  have EN := Lib.hid (encode_any ea _ w3 (HA.out.edv.below B3.out (Nat.le_refl _)) (by have := LA.out.1; omega) LA.out.fines.eight HI.out (HT.out.below B3.out (Nat.le_refl _)))
  go_wp2_with fail
  refine EN.out.mono ?_
  rintro e w4 ⟨b4, R4⟩
  have B4 := Lib.hid (B3.out.trans (b4.mono B3.out.size))
  have EN2 := Lib.hid (encode_any eb _ w4 (HB.out.edv.below B4.out (Nat.le_refl _)) (by have := LB.out.1; omega) LB.out.fines.eight HJ.out (HT.out.below B4.out (Nat.le_refl _)))
  clear EN b4
  rcases R4 with ⟨h0, rfl⟩ | ⟨h0, u, rfl, hz⟩
  rotate_left
  · have hu : ∃ T p, u = .iface T p := by
      obtain ⟨_, ⟨rfl, _⟩ | ⟨kk, ⟨q, _, rfl, _⟩, _, _⟩⟩ := hz
      · exact ⟨_, _, errV_pos _ (Nat.pos_of_ne_zero h0)⟩
      · exact ⟨_, _, rfl⟩
    obtain ⟨T, p, rfl⟩ := hu
    clear hz h0
    go_wp2_with fail
    refine EN2.out.mono ?_
    rintro e w5 ⟨b5, R5⟩
    have B5 := Lib.hid (B4.out.trans (b5.mono B4.out.size))
    clear b5
    rcases R5 with ⟨h1, rfl⟩ | ⟨h1, u, rfl, hz⟩
    · clear h1
      go_wp2_with fail
      go_ret
      exact ⟨rfl, B5.out⟩
    · clear h1 hz
      go_wp2_with fail
      go_ret
      exact ⟨rfl, B5.out⟩
  have H0 := Lib.hid h0
  clear h0
  go_wp2_with fail
  refine EN2.out.mono ?_
  rintro e w5 ⟨b5, R5⟩
  have B5 := Lib.hid (B4.out.trans (b5.mono B4.out.size))
  clear b5 EN2
  rcases R5 with ⟨h1, rfl⟩ | ⟨h1, u, rfl, hz⟩
  rotate_left
  · have hu : ∃ T p, u = .iface T p := by
      obtain ⟨_, ⟨rfl, _⟩ | ⟨kk, ⟨q, _, rfl, _⟩, _, _⟩⟩ := hz
      · exact ⟨_, _, errV_pos _ (Nat.pos_of_ne_zero h1)⟩
      · exact ⟨_, _, rfl⟩
    obtain ⟨T, p, rfl⟩ := hu
    clear hz h1
    go_wp2_with fail
    go_ret
    exact ⟨rfl, B5.out⟩
  have H1 := Lib.hid h1
  clear h1
  have GA := Lib.hid (fun hl => batch_body H0.out hl)
  have GB := Lib.hid (fun hl => batch_body H1.out hl)
  have ba := B_size (batchT ea)
  have bb := B_size (batchT eb)
  generalize batchT ea = s at *
  generalize batchT eb = t at *
  by_cases ls : 50000 < (B s).size
  · have q1 : (50000 : Int) < (B s).size := by omega
    clear ba bb
    go_wp2_with fail
    go_ret
    exact ⟨rfl, B5.out⟩
  have q1 : ¬ (50000 : Int) < (B s).size := by omega
  by_cases lt : 50000 < (B t).size
  · have q2 : (50000 : Int) < (B t).size := by omega
    clear ba bb
    go_wp2_with fail
    go_ret
    exact ⟨rfl, B5.out⟩
  have q2 : ¬ (50000 : Int) < (B t).size := by omega
  have gs := GA.out (by omega)
  have gt := GB.out (by omega)
  have fs := full_le gs
  have ft := full_le gt
  have R1 := Lib.hid (fun w ht => record_yes s gs w ht)
  have R2 := Lib.hid (fun w ht => record_yes t gt w ht)
  have W1 : WholeT (fullR s ++ fullR t) s := ⟨gs, fullR t, rfl⟩
  have W2 : WholeT (fullR t) t := ⟨gt, [], by simp⟩
  have D1 := Lib.hid (fun w ht => readWhole_any W1 (by simp; omega) w ht)
  have D2 := Lib.hid (fun w ht => readWhole_any W2 (by omega) w ht)
  have e1 : Hid (B (fullR s) ++ B (fullR t) = B (fullR s ++ fullR t)) := B_append _ _
  have e2 : Hid ((B (fullR s ++ fullR t)).extract (B (fullR s)).size (B (fullR s ++ fullR t)).size = B (fullR t)) := by
    show _ = _
    rw [ext_drop, B_size, List.drop_left]
  have zs := B_size (fullR s)
  have zt := B_size (fullR t)
  have zst : (B (fullR s)).size + (B (fullR t)).size = (B (fullR s ++ fullR t)).size := by rw [B_size, B_size, B_size, List.length_append]
  rw [← zs] at D1
  rw [← zt] at D2
  have hs1 : (B (fullR s)).size ≤ 50100 := by omega
  have ht1 : (B (fullR t)).size ≤ 50100 := by omega
  have hle : ((B (fullR s)).size : Int) ≤ (B (fullR s ++ fullR t)).size := by omega
  have E1 := e1
  clear e1 W1 W2 gs gt fs ft GA GB zs zt ba bb ls lt
  generalize B (fullR s ++ fullR t) = XY at *
  generalize B (fullR s) = X at *
  generalize B (fullR t) = Y at *
  generalize B s = S at *
  generalize B t = T at *
  go_wp2_with fail
  refine (R1.out _ (tabsN (HT.out.below B5.out (Nat.le_refl _)))).mono ?_
  rintro e w6 ⟨rfl, b6⟩
  have B6 := Lib.hid (B5.out.trans (b6.mono B5.out.size))
  clear b6
  go_wp2_with fail
  refine (R2.out _ (tabsN (HT.out.below B6.out (Nat.le_refl _)))).mono ?_
  rintro e w7 ⟨rfl, b7⟩
  have B7 := Lib.hid (B6.out.trans (b7.mono B6.out.size))
  clear b7
  go_wp2_with fail
  rw [E1.out]
  refine (D1.out _ (tabsN (HT.out.below B7.out (Nat.le_refl _)))).mono ?_
  rintro e w8 ⟨rfl, b8⟩
  have B8 := Lib.hid (B7.out.trans (b8.mono B7.out.size))
  clear b8
  go_wp2_with fail
  rw [E1.out, e2.out]
  refine (D2.out _ (tabsN (HT.out.below B8.out (Nat.le_refl _)))).mono ?_
  rintro e w9 ⟨rfl, b9⟩
  have B9 := Lib.hid (B8.out.trans (b9.mono B8.out.size))
  clear b9
  go_wp2_with fail
  go_ret
  exact ⟨rfl, B9.out⟩
open Go.Maps Go.ChangeShapes Go.Joins Go.WideShapes in
set_option maxRecDepth 100000 in
/-- .. at batches that came in. -/
theorem amendsCall {H : Type} {enc : TypeId × Value → H} (v1 : Value) (d1 : DataW H) (p1 : List MemPlace) (v2 : Value) (d2 : DataW H) (p2 : List MemPlace) (W : World) {b1 : Nat} (hval1 : Value.okWide Tryz.prog W .any b1 22 v1) {base1 : Nat} {sp1 : Nat → Bool} {held1 : Bool} (h1 : DataW.Trod enc Tryz.prog W base1 sp1 held1 22 v1 d1 p1)
    {b2 : Nat} (hval2 : Value.okWide Tryz.prog W .any b2 22 v2) {base2 : Nat} {sp2 : Nat → Bool} {held2 : Bool} (h2 : DataW.Trod enc Tryz.prog W base2 sp2 held2 22 v2 d2 p2) (hT : Tabs W) :
    Calls Tryz.prog 5 #[v1, v2] W fun e W' => e = .returned (.bool true) ∧ Below W.heap.size W W' := by
  obtain ⟨n1, hn1⟩ := h1
  obtain ⟨n2, hn2⟩ := h2
  obtain ⟨ao, len, cap, rfl⟩ := okWide_slice Tryz.underlying22 hval1
  obtain ⟨bo, len2, cap2, rfl⟩ := okWide_slice Tryz.underlying22 hval2
  obtain ⟨as_, hr1, hi⟩ := edits_inB (v := .slice ao len cap) hn1
  obtain ⟨bs_, hr2, hj⟩ := edits_inB (v := .slice bo len2 cap2) hn2
  exact amendsLaw as_ bs_ _ _ W hr1 hr2 hi hj hT
end Go.Proofs.YtgaooalckjjplaaGreatDoor.Fr

