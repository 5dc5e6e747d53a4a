/- PrintStanzas' walk. -/
import Derived.Test.YtafgebodmhkghaaDoorBase4
set_option linter.unusedVariables false
namespace Go.Proofs.YtafgebodmhkghaaDoor
open Go.RowKit Go.Shelf Go.ChangeShapes Go.WideShapes

theorem Its.one (w : World) (t : TypeId) (it : It) (fv : Value) (hf : Flds w fv it.fields) : Its (w.alloc (.cells #[.int .i64 it.kind, .string (B it.raw), fv] t)) (.slice (some ⟨w.heap.size, 0, none⟩) 1 1) [it] := by
  refine ⟨_, 1, rfl, Nat.le_refl _, fun i x h => ?_⟩
  match i, h with
  | 0, h =>
    simp at h; subst h
    refine ⟨w.heap.size, 0, fv, rfl, by simp, ?_, ?_, ?_, hf.below ((Below.refl _ _).alloc (Nat.le_refl _) _) (Nat.le_refl _)⟩
    · rw [World.cell?_alloc_at _ _ _ _ (by simp)]; rfl
    · rw [World.cell?_alloc_at _ _ _ _ (by simp)]; rfl
    · rw [World.cell?_alloc_at _ _ _ _ (by simp)]; rfl
  | n + 1, h => simp at h
theorem item_small {fs : List Fld} (h1 : fs.length ≤ 61) (h2 : minF fs ≤ 6000) : (foldG fs).length ≤ 60000 := by
  rw [foldG_lines]
  have := foldT_len6 fs h2
  omega
set_option maxRecDepth 100000 in
set_option maxHeartbeats 16000000 in
theorem stanzasLaw6 (fs : List Fld) (v : Value) (w : World) (hs : FldsIn w v fs) :
    Calls Tryd.prog 4 #[v] w fun e w' => e = .returned (.bool true) ∧ Below w.heap.size w w' := by
  have HS := Lib.hid hs
  obtain ⟨⟨A, cap, rfl, hle, _⟩, hnil, hlen, heach⟩ := id hs
  have NIL := Lib.hid hnil
  have EACH := Lib.hid heach
  have SF := Lib.hid (fun W (hW : Below w.heap.size w W) => hs.flds.below hW (Nat.le_refl _))
  clear hs hnil heach
  go_enter Tryd.func4, Tryd.ntmps4
  go_wp2_with fail
  refine (alive6_any _).mono ?_
  rintro e w1 ⟨rfl, b1⟩
  have hz1 := b1.size
  have MU := Lib.hid (much_any fs _ w1 (SF.out w1 b1) hlen EACH.out)
  go_wp2_with fail
  refine MU.out.mono ?_
  rintro e w2 ⟨⟨mb, rfl, hmb⟩, b2⟩
  have hb2 := b1.trans (b2.mono hz1)
  have hz2 := hb2.size
  cases mb with
  | true =>
    clear hmb MU
    go_wp2_with fail
    go_ret
    exact ⟨rfl, hb2⟩
  | false =>
    obtain ⟨n61, n6k, nmin⟩ := hmb rfl
    have hl1 : ∀ f ∈ fs, f.1.length ≤ 100000 ∧ f.2.length ≤ 100000 := fun f hf => by have := n6k f hf; omega
    have HL1 := Lib.hid hl1
    have HSM : Hid ((foldG fs).length ≤ 60000) := item_small n61 nmin
    have CO := Lib.hid (copies_own fs _ w2 (SF.out w2 hb2) NIL.out (by omega))
    clear hmb MU n6k nmin hl1 b2
    go_wp2_with fail
    refine CO.out.mono ?_
    rintro e w3 ⟨c, rfl, hc, b3⟩
    obtain ⟨ca, cc, hce, _⟩ := own_slice hc
    subst hce
    have hb3 := hb2.trans (b3.mono hz2)
    have hz3 := hb3.size
    have FC := Lib.hid (fun W (hW : Below w3.heap.size w3 W) => (flds_of_own hc).below hW (Nat.le_refl _))
    have CN : Hid (∀ n d, Value.slice ca fs.length cc = .slice none n d → d = 0) := by
      intro n d h
      rcases hc.2 with ⟨q, _⟩ | ⟨g', cap', cur, q, _⟩
      · rw [q] at h; cases h; rfl
      · rw [q] at h; cases h
    have ST := Lib.hid (stanza_any fs _ w3 (FC.out w3 (Below.refl _ _)) (by omega) HL1.out)
    clear CO hc b3
    go_wp2_with fail
    refine ST.out.mono ?_
    rintro e w4 ⟨ue, rfl, b4, hu4⟩
    have hz4 := b4.size
    have IT := Lib.hid (item_any fs _ w4 (FC.out w4 b4) CN.out (by omega) HL1.out)
    by_cases h0 : chkN fs = 0
    · obtain rfl := hu4.zero h0
      have T1 : stzT fs = foldG fs := by unfold stzT; rw [if_pos h0]
      rw [T1]
      have HP := Lib.hid (parse_item h0)
      have H0 := Lib.hid h0
      have K3 : kindI fs = 3 := by unfold kindI; rw [if_pos h0]
      have AT9 : chkAt fs = -9 := by unfold chkAt; rw [if_pos (.inr (.inr (chkN_zero h0).2.2))]
      have PL1 : plainB 3 (foldG fs) fs = true := by unfold plainB; simp [h0]
      have PLH := Lib.hid PL1
      have ATH := Lib.hid AT9
      have K3H := Lib.hid K3
      have T1H := Lib.hid T1
      clear ST hu4 T1 K3 AT9 PL1
      go_wp2_with fail
      refine IT.out.mono ?_
      rintro e w5 ⟨uf, x, hI⟩
      obtain ⟨hret, b5, hu5, hown, _⟩ := hI
      have hx := hown h0
      obtain ⟨xa, xc, hxe, _⟩ := own_slice hx
      subst hxe
      obtain rfl := hu5.zero h0
      rw [K3H.out, T1H.out] at hret
      subst hret
      have b35 := b4.trans (b5.mono hz4)
      have hz5 := b35.size
      have hz45 := b5.size
      -- the item's box
      have hb5a : Below w5.heap.size w5 (w5.alloc (.cells #[.int .i64 3, .string (B (foldG fs)), .slice xa fs.length xc] 43)) := (Below.refl _ _).alloc (Nat.le_refl _) _
      have XB := Lib.hid (Cells.new w5 43 #[.int .i64 3, .string (B (foldG fs)), .slice xa fs.length xc])
      have HX := Lib.hid (fun W (hW : Below w5.heap.size w5 W) => own_kept hx hW (Nat.le_refl _))
      have CK := Lib.hid (chk_any fs _ (w5.alloc (.cells #[.int .i64 3, .string (B (foldG fs)), .slice xa fs.length xc] 43)) (FC.out _ (b35.trans (hb5a.mono hz5))) (by omega) (fun f hf => by have := HL1.out f hf; omega))
      have hz5a : (w5.alloc (.cells #[.int .i64 3, .string (B (foldG fs)), .slice xa fs.length xc] 43)).heap.size = w5.heap.size + 1 := by simp
      clear hx hown hu5 IT h0
      go_wp2_with fail
      generalize w5.alloc (.cells #[.int .i64 3, .string (B (foldG fs)), .slice xa fs.length xc] 43) = wa at *
      have HXA := Lib.hid (HX.out wa hb5a)
      have b3a := b35.trans (hb5a.mono hz5)
      have hz3a := b3a.size
      refine CK.out.mono ?_
      rintro e w6 ⟨ug, rfl, ba6, hu6⟩
      obtain rfl := hu6.zero H0.out
      have b36 := b3a.trans (ba6.mono hz3a)
      have hb6 := hb3.trans (b36.mono hz3)
      have hz6 := hb6.size
      have hz36 := b36.size
      have hza6 := ba6.size
      have RC := Lib.hid (refChk_any fs _ w6 (SF.out w6 hb6) (by omega) (fun f hf => by have := HL1.out f hf; omega))
      rw [H0.out, ATH.out] at RC
      clear CK hu6 HX b35
      go_wp2_with fail
      refine RC.out.mono ?_
      rintro e w7 ⟨rfl, b7⟩
      have ba7 := ba6.trans (b7.mono hza6)
      have hb7 := hb6.trans (b7.mono hz6)
      have b37 := b36.trans (b7.mono hz36)
      have hza7 := ba7.size
      have NZ := Lib.hid (fun W => num_any 0 (by decide) W)
      have AZ := Lib.hid (fun W => at_nil W)
      clear RC b7 ba6 b36 hb6
      go_wp2_with fail
      refine wp_loop_rounds 4 ?_
      rw [rounds_succ]
      go_wp2_with (first | (go_at_call 12; refine (NZ.out _).mono ?_; rintro e wn ⟨rfl, rfl⟩) | (go_at_call 13; refine (AZ.out _).mono ?_; rintro e wn ⟨rfl, rfl⟩))
      rw [rounds_succ]
      go_wp2_with (first | (go_at_call 12; refine (NZ.out _).mono ?_; rintro e wn ⟨rfl, rfl⟩) | (go_at_call 13; refine (AZ.out _).mono ?_; rintro e wn ⟨rfl, rfl⟩))
      rw [rounds_succ]
      go_wp2_with (first | (go_at_call 12; refine (NZ.out _).mono ?_; rintro e wn ⟨rfl, rfl⟩) | (go_at_call 13; refine (AZ.out _).mono ?_; rintro e wn ⟨rfl, rfl⟩))
      rw [rounds_succ]
      go_wp2_with fail
      have hbl : Below w7.heap.size w7 (w7.alloc (.cells #[.nilIface, .nilIface, .nilIface] 25)) := (Below.refl _ _).alloc (Nat.le_refl _) _
      generalize w7.alloc (.cells #[.nilIface, .nilIface, .nilIface] 25) = wl at *
      have hz7 := hb7.size
      have hz37 := b37.size
      have bal := ba7.trans (hbl.mono hza7)
      have b3l := b37.trans (hbl.mono hz37)
      have hbwl := hb7.trans (hbl.mono hz7)
      have hzwl := hbwl.size
      have hz3l := b3l.size
      have hzal := bal.size
      have F1 := Lib.hid (fields_same fs _ _ wl (FC.out wl b3l) (SF.out wl hbwl) (by omega))
      clear hbl ba7 b37 hb7 NZ AZ
      refine F1.out.mono ?_
      rintro e w8 ⟨rfl, b8⟩
      have ba8 := bal.trans (b8.mono hzal)
      have b38 := b3l.trans (b8.mono hz3l)
      have hb8 := hbwl.trans (b8.mono hzwl)
      have hza8 := ba8.size
      have hz38 := b38.size
      have hz8 := hb8.size
      have RI := Lib.hid (refItem_any fs A fs.length cap w8 (SF.out w8 hb8) (by omega) HL1.out)
      clear F1 b8 bal b3l hbwl
      go_wp2_with fail
      refine RI.out.mono ?_
      rintro e w9 ⟨rfl, b9⟩
      have ba9 := ba8.trans (b9.mono hza8)
      have b39 := b38.trans (b9.mono hz38)
      have hb9 := hb8.trans (b9.mono hz8)
      have hza9 := ba9.size
      have hz39 := b39.size
      have hz9 := hb9.size
      have WB := Lib.hid (Cells.new w9 43 #[.int .i64 3, .string (B (foldG fs)), .slice A fs.length cap])
      have hwa : Below w9.heap.size w9 (w9.alloc (.cells #[.int .i64 3, .string (B (foldG fs)), .slice A fs.length cap] 43)) := (Below.refl _ _).alloc (Nat.le_refl _) _
      have hzwa : (w9.alloc (.cells #[.int .i64 3, .string (B (foldG fs)), .slice A fs.length cap] 43)).heap.size = w9.heap.size + 1 := by simp
      have PA := Lib.hid (parse_any (B (foldG fs)) (by rw [B_size]; exact HSM.out) (w9.alloc (.cells #[.int .i64 3, .string (B (foldG fs)), .slice A fs.length cap] 43)))
      rw [B_data] at PA
      clear RI b9 ba8 b38 hb8
      go_wp2_with fail
      refine PA.out.mono ?_
      rintro e w10 hP
      obtain ⟨p1, lv, rfl, i1, _⟩ := parseYes hP HP.out
      obtain ⟨la, lc, hle2, hlc, _⟩ := id i1
      subst hle2
      have b9x := hwa.trans (p1.mono (by omega))
      have bax := ba9.trans (b9x.mono hza9)
      have b3x := b39.trans (b9x.mono hz39)
      have hbx := hb9.trans (b9x.mono hz9)
      have hzax := bax.size
      have hz3x := b3x.size
      have hzx := hbx.size
      have WBX := Lib.hid (cells_kept WB.out p1 (by omega))
      have XBX := Lib.hid (cells_kept XB.out bax (by omega))
      have HXX := Lib.hid (own_kept HXA.out bax (Nat.le_refl _))
      have wc0 : w10.cell? ⟨w9.heap.size, 0, none⟩ = some (.int .i64 3) := WBX.out.cell 0
      have wc1 : w10.cell? ⟨w9.heap.size, 1, none⟩ = some (.string (B (foldG fs))) := WBX.out.cell 1
      have wc2 : w10.cell? ⟨w9.heap.size, 2, none⟩ = some (.slice A fs.length cap) := WBX.out.cell 2
      have xl := XBX.out.lt
      have IL := Lib.hid i1
      -- the wanted item, alone
      have WA := Lib.hid (Its.one w10 43 (itemOf fs) (.slice A fs.length cap) (SF.out w10 hbx))
      have hwx : Below w10.heap.size w10 (w10.alloc (.cells #[.int .i64 3, .string (B (foldG fs)), .slice A fs.length cap] 43)) := (Below.refl _ _).alloc (Nat.le_refl _) _
      have IQ1 := Lib.hid (items_quiet [itemOf fs] _ _ _ (i1.below hwx (Nat.le_refl _)) WA.out (by simp) (fun it hi => by rw [List.mem_singleton.1 hi]; show fs.length ≤ 1000000; omega))
      have PLN := Lib.hid (fun W (hW : Below w10.heap.size w10 W) => plainIt_any 3 (foldG fs) fs (.slice xa fs.length xc) W ((flds_of_own HXX.out).below hW (Nat.le_refl _)) (by omega) HL1.out)
      rw [PLH.out] at PLN
      have ONE := Lib.hid (fun W (hW : Below w10.heap.size w10 W) => Its.one W 43 (itemOf fs) (.slice xa fs.length xc) ((flds_of_own HXX.out).below hW (Nat.le_refl _)))
      change Hid (∀ W, Below w10.heap.size w10 W → Its (W.alloc (.cells #[.int .i64 3, .string (B (foldG fs)), .slice xa fs.length xc] 43)) (.slice (some ⟨W.heap.size, 0, none⟩) 1 1) [itemOf fs]) at ONE
      change Hid (Calls Tryd.prog 14 #[.slice la 1 lc, .slice (some ⟨w10.heap.size, 0, none⟩) 1 1] (w10.alloc (.cells #[.int .i64 3, .string (B (foldG fs)), .slice A fs.length cap] 43)) _) at IQ1
      clear hP PA p1 i1 WB XB HXA ba9 b39 hb9
      generalize B (foldG fs) = X at *
      go_wp2_with fail
      refine IQ1.out.mono ?_
      rintro e w11 ⟨rfl, m11, hw11⟩
      have bx11 : Below w10.heap.size w10 w11 := by rw [hw11]; exact drewN_below hwx m11
      have XB11 := cells_kept XBX.out bx11 xl
      have xc0 : w11.cell? ⟨w5.heap.size, 0, none⟩ = some (.int .i64 3) := XB11.cell 0
      have xc1 : w11.cell? ⟨w5.heap.size, 1, none⟩ = some (.string X) := XB11.cell 1
      have xc2 : w11.cell? ⟨w5.heap.size, 2, none⟩ = some (.slice xa fs.length xc) := XB11.cell 2
      have hz11 := bx11.size
      have hyx : Below w11.heap.size w11 (w11.alloc (.cells #[.int .i64 3, .string X, .slice xa fs.length xc] 43)) := (Below.refl _ _).alloc (Nat.le_refl _) _
      have IQ2 := Lib.hid (items_quiet [itemOf fs] _ _ _ (ONE.out w11 bx11) ((IL.out.below bx11 (Nat.le_refl _)).below hyx (Nat.le_refl _)) (by simp) (fun it hi => by rw [List.mem_singleton.1 hi]; show fs.length ≤ 1000000; omega))
      change Hid (Calls Tryd.prog 14 #[.slice (some ⟨w11.heap.size, 0, none⟩) 1 1, .slice la 1 lc] _ _) at IQ2
      clear IQ1 hw11 XB11 wc0 wc1 wc2 WA
      go_wp2_with fail
      refine IQ2.out.mono ?_
      rintro e w12 ⟨rfl, m12, hw12⟩
      have bx12 : Below w10.heap.size w10 w12 := by rw [hw12]; exact drewN_below (bx11.trans (hyx.mono hz11)) m12
      have XB12 := cells_kept XBX.out bx12 xl
      have yc0 : w12.cell? ⟨w5.heap.size, 0, none⟩ = some (.int .i64 3) := XB12.cell 0
      have yc1 : w12.cell? ⟨w5.heap.size, 1, none⟩ = some (.string X) := XB12.cell 1
      have yc2 : w12.cell? ⟨w5.heap.size, 2, none⟩ = some (.slice xa fs.length xc) := XB12.cell 2
      have hz12 := bx12.size
      have PL2 := Lib.hid (PLN.out w12 bx12)
      clear IQ2 hw12 XB12 xc0 xc1 xc2 PLN ONE bx11 hyx
      go_wp2_with fail
      refine PL2.out.mono ?_
      rintro e w13 ⟨rfl, b13⟩
      have bx13 := bx12.trans (b13.mono hz12)
      have XB13 := cells_kept XBX.out bx13 xl
      have zc2 : w13.cell? ⟨w5.heap.size, 2, none⟩ = some (.slice xa fs.length xc) := XB13.cell 2
      have hl13 := XB13.lt
      have hz13 := bx13.size
      have SP := Lib.hid (spoil_any fs.length w4.heap.size _ w13 (mine_of_own (own_kept HXX.out bx13 (Nat.le_refl _))) (by omega))
      have b3q := b3x.trans (bx13.mono hz3x)
      have hbq := hbx.trans (bx13.mono hzx)
      clear PL2 XB13 b13 bx12 bx13 yc0 yc1 yc2 HXX XBX WBX IL
      go_wp2_with fail
      refine SP.out.mono ?_
      rintro e w14 ⟨rfl, s14⟩
      have bs := s14.below (by omega)
      have b3z := b3q.trans (bs.mono (by omega))
      have hbz := hbq.trans (bs.mono (by omega))
      have F2 := Lib.hid (fields_same fs _ _ w14 (FC.out w14 b3z) (SF.out w14 hbz) (by omega))
      have hzz := hbz.size
      clear SP s14 bs b3q hbq
      go_wp2_with fail
      refine F2.out.mono ?_
      rintro e w15 ⟨rfl, b15⟩
      go_wp2_with fail
      go_ret
      exact ⟨rfl, hbz.trans (b15.mono hzz)⟩
    · have T1 : stzT fs = [] := by unfold stzT; rw [if_neg h0]
      rw [T1]
      have T1H := Lib.hid T1
      have H0 := Lib.hid h0
      have K3H : Hid (kindI fs = 0) := by show _ = _; unfold kindI; rw [if_neg h0]
      have IF : Hid (∀ lo W u, ChkV lo W u fs → ∃ t x, u = .iface t x) := by
        intro lo W u h
        rcases h.pos h0 with rfl | ⟨q, rfl⟩ <;> exact ⟨_, _, rfl⟩
      have hcn := chkN_le fs
      have hnb : ((chkN fs : Int) != 0) = true := by simp; omega
      have HU4 := Lib.hid hu4
      obtain ⟨te, xe, hee⟩ := IF.out _ _ _ hu4
      subst hee
      clear ST hu4 T1 HSM h0
      go_wp2_with fail
      refine IT.out.mono ?_
      rintro e w5 ⟨uf, x, hI⟩
      obtain ⟨hret, b5, hu5, _, hnone⟩ := hI
      obtain rfl := hnone H0.out
      have HU5 := Lib.hid hu5
      obtain ⟨tf, xf, hee⟩ := IF.out _ _ _ hu5
      subst hee
      rw [K3H.out, T1H.out] at hret
      subst hret
      have b45 := b5
      have b35 := b4.trans (b5.mono hz4)
      have hz35 := b35.size
      have hz45 := b5.size
      have hb5a : Below w5.heap.size w5 (w5.alloc (.cells #[.int .i64 0, .string (B []), .slice none 0 0] 43)) := (Below.refl _ _).alloc (Nat.le_refl _) _
      have XB := Lib.hid (Cells.new w5 43 #[.int .i64 0, .string (B []), .slice none 0 0])
      have CK := Lib.hid (chk_any fs _ (w5.alloc (.cells #[.int .i64 0, .string (B []), .slice none 0 0] 43)) (FC.out _ (b35.trans (hb5a.mono hz35))) (by omega) (fun f hf => by have := HL1.out f hf; omega))
      have hz5a : (w5.alloc (.cells #[.int .i64 0, .string (B []), .slice none 0 0] 43)).heap.size = w5.heap.size + 1 := by simp
      clear hu5 IT hnone b5
      go_wp2_with fail
      generalize w5.alloc (.cells #[.int .i64 0, .string (B []), .slice none 0 0] 43) = wa at *
      have b3a := b35.trans (hb5a.mono hz35)
      have hz3a := b3a.size
      have b4a := b45.trans (hb5a.mono hz45)
      have hz4a := b4a.size
      refine CK.out.mono ?_
      rintro e w6 ⟨ug, rfl, ba6, hu6⟩
      have HU6 := Lib.hid hu6
      obtain ⟨tg, xg, hee⟩ := IF.out _ _ _ hu6
      subst hee
      have b36 := b3a.trans (ba6.mono hz3a)
      have hb6 := hb3.trans (b36.mono hz3)
      have hz6 := hb6.size
      have hz36 := b36.size
      have hza6 := ba6.size
      have b46 := b4a.trans (ba6.mono hz4a)
      have b56 := hb5a.trans (ba6.mono (by omega))
      have hz46 := b46.size
      have hz56 := b56.size
      have RC := Lib.hid (refChk_any fs _ w6 (SF.out w6 hb6) (by omega) (fun f hf => by have := HL1.out f hf; omega))
      have XB6 := Lib.hid (cells_kept XB.out ba6 (by omega))
      clear CK hu6 b35 XB b45
      go_wp2_with fail
      refine RC.out.mono ?_
      rintro e w7 ⟨rfl, b7⟩
      have hb7 := hb6.trans (b7.mono hz6)
      have b37 := b36.trans (b7.mono hz36)
      have hz7 := hb7.size
      have hz37 := b37.size
      have XB7 := Lib.hid (cells_kept XB6.out b7 XB6.out.lt)
      have b47 := b46.trans (b7.mono hz46)
      have b57 := b56.trans (b7.mono hz56)
      have hz47 := b47.size
      have hz57 := b57.size
      have hz67 := b7.size
      have NN := Lib.hid (fun W (hW : Below w7.heap.size w7 W) => And.intro (num_chk (HU4.out.below (b47.trans (hW.mono hz47)) (Nat.le_refl _))) (And.intro (num_chk (HU5.out.below (b57.trans (hW.mono hz57)) (Nat.le_refl _))) (num_chk (HU6.out.below (b7.trans (hW.mono hz67)) (Nat.le_refl _)))))
      have AA := Lib.hid (fun W (hW : Below w7.heap.size w7 W) => And.intro (at_chk (HU4.out.below (b47.trans (hW.mono hz47)) (Nat.le_refl _))) (And.intro (at_chk (HU5.out.below (b57.trans (hW.mono hz57)) (Nat.le_refl _))) (at_chk (HU6.out.below (b7.trans (hW.mono hz67)) (Nat.le_refl _)))))
      have hbl : Below w7.heap.size w7 (w7.alloc (.cells #[.iface te xe, .iface tf xf, .iface tg xg] 25)) := (Below.refl _ _).alloc (Nat.le_refl _) _
      obtain ⟨n1, n2, n3⟩ := NN.out _ hbl
      obtain ⟨a1, a2, a3⟩ := AA.out _ hbl
      have N1 := Lib.hid n1
      have N2 := Lib.hid n2
      have N3 := Lib.hid n3
      have A1 := Lib.hid a1
      have A2 := Lib.hid a2
      have A3 := Lib.hid a3
      have XB8 := Lib.hid (cells_kept XB7.out hbl XB7.out.lt)
      have b3l := b37.trans (hbl.mono hz37)
      have hbwl := hb7.trans (hbl.mono hz7)
      have hzwl := hbwl.size
      have F1 := Lib.hid (fields_same fs _ _ _ (FC.out _ b3l) (SF.out _ hbwl) (by omega))
      clear RC b7 ba6 b36 hb6 b46 b56 b47 b57 NN AA n1 n2 n3 a1 a2 a3 HU4 HU5 HU6 IF K3H H0 XB6 XB7 b37 hb7 hbl
      generalize chkAt fs = ca' at *
      generalize chkN fs = cn at *
      go_wp2_with fail
      refine wp_loop_rounds 4 ?_
      rw [rounds_succ]
      go_wp2_with (first | (go_at_call 12; refine N1.out.mono ?_; rintro e wn ⟨rfl, rfl⟩) | (go_at_call 13; refine A1.out.mono ?_; rintro e wn ⟨rfl, rfl⟩))
      rw [rounds_succ]
      go_wp2_with (first | (go_at_call 12; refine N2.out.mono ?_; rintro e wn ⟨rfl, rfl⟩) | (go_at_call 13; refine A2.out.mono ?_; rintro e wn ⟨rfl, rfl⟩))
      rw [rounds_succ]
      go_wp2_with (first | (go_at_call 12; refine N3.out.mono ?_; rintro e wn ⟨rfl, rfl⟩) | (go_at_call 13; refine A3.out.mono ?_; rintro e wn ⟨rfl, rfl⟩))
      rw [rounds_succ]
      go_wp2_with fail
      generalize w7.alloc (.cells #[.iface te xe, .iface tf xf, .iface tg xg] 25) = wl at *
      refine F1.out.mono ?_
      rintro e w8 ⟨rfl, b8⟩
      have hb8 := hbwl.trans (b8.mono hzwl)
      have XB9 := cells_kept XB8.out b8 XB8.out.lt
      have c0 : w8.cell? ⟨w5.heap.size, 0, none⟩ = some (.int .i64 0) := XB9.cell 0
      have c1 : w8.cell? ⟨w5.heap.size, 1, none⟩ = some (.string (B [])) := XB9.cell 1
      have c2 : w8.cell? ⟨w5.heap.size, 2, none⟩ = some (.slice none 0 0) := XB9.cell 2
      have hbe : ((B []).toList == []) = true := by rw [Lib.toList_data, B_data]; rfl
      clear F1 b8 XB9 XB8 N1 N2 N3 A1 A2 A3 b3l hbwl
      generalize B [] = X at *
      go_wp2_with fail
      go_ret
      exact ⟨rfl, hb8⟩
set_option maxRecDepth 100000 in
theorem stanzasCall6 {H : Type} {enc : TypeId × Value → H} (v : Value) (d : DataW H) (p : List MemPlace) (W : World) {b0 : Nat} (hval : Value.okWide Tryd.prog W .any b0 37 v) {base : Nat} {sp : Nat → Bool} {held : Bool} (h : DataW.Trod enc Tryd.prog W base sp held 37 v d p) :
    Calls Tryd.prog 4 #[v] W fun e w' => e = .returned (.bool true) ∧ Below W.heap.size W w' := by
  obtain ⟨n, hn⟩ := h
  obtain ⟨ao, len, cap, rfl⟩ := okWide_slice Tryd.underlying37 hval
  obtain ⟨fs, hf⟩ := flds_in (v := .slice ao len cap) hn
  exact stanzasLaw6 fs _ W hf
end Go.Proofs.YtafgebodmhkghaaDoor
