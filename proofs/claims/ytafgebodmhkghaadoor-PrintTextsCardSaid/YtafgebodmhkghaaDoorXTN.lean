/- Lists of stanzas that came in; PrintTexts' walk. -/
import Derived.Test.YtafgebodmhkghaaDoorBase4
set_option linter.unusedVariables false
namespace Go.Proofs.YtafgebodmhkghaaDoor
open Go.RowKit Go.Shelf Go.Maps Go.ChangeShapes Go.Joins Go.WideShapes

structure RwsIn (w : World) (v : Value) (rs : List (List Fld)) : Prop where
  is_ : Rws w v rs
  len : rs.length ≤ maxLen
  each : ∀ (i : Nat) (r : List Fld), rs[i]? = some r → ∃ b off n cap fv, v = .slice (some ⟨b, off, none⟩) n cap ∧ b < w.heap.size ∧ w.cell? ⟨b, off + i, none⟩ = some fv ∧ FldsIn w fv r
set_option maxRecDepth 100000 in
theorem rws_in {H : Type} {enc : TypeId × Value → H} {W : World} {base : Nat} {sp : Nat → Bool} {held : Bool} {fuel : Nat} {v : Value} {x : DataW H × List MemPlace} (h : DataW.trod enc Tryd.prog W base sp held fuel 35 [v] = some x) :
    ∃ rs, RwsIn W v rs := by
  rcases DataW.trod_slice Tryd.underlying35 h with ⟨e, _⟩ | ⟨a, len, cap, elems, rest, n, _, e, _, _, hl, hm, hlen, hel, _, _⟩
  · obtain rfl : v = .slice none 0 0 := by simpa using e
    exact ⟨[], ⟨⟨none, 0, rfl, Nat.le_refl _, fun i f h => by simp at h⟩, Nat.zero_le _, fun i it hi => by simp at hi⟩⟩
  · obtain rfl : v = .slice (some a) len cap := by simpa using e
    have k1 : Tryd.prog.cellsOf 37 = 1 := by kernel_rfl
    have each : ∀ i, i < len → ∃ r : List Fld, ∃ b off fv, a = ⟨b, off, none⟩ ∧ b < W.heap.size ∧ W.cell? ⟨b, off + i, none⟩ = some fv ∧ FldsIn W fv r := by
      intro i hi
      have h1 := hel i hi
      rw [k1, List.getElem?_eq_getElem (by omega)] at h1
      obtain ⟨cs, hc, ht⟩ := Option.bind_eq_some_iff.1 h1
      obtain ⟨_, hcl, hat⟩ := World.cells?_some hc
      obtain ⟨c0, rfl⟩ : ∃ c0, cs = [c0] := by
        match cs, hcl with
        | [c0], _ => exact ⟨c0, rfl⟩
      obtain ⟨r, hr⟩ := flds_in (v := c0) ht
      have d0 := hat 0 (by decide)
      obtain ⟨b, off, spot⟩ := a
      have hspot : spot = none := by
        have h2 := hel 0 (by omega)
        rw [k1, List.getElem?_eq_getElem (by omega)] at h2
        obtain ⟨cs', hc', ht'⟩ := Option.bind_eq_some_iff.1 h2
        obtain ⟨_, hlen', hat'⟩ := World.cells?_some hc'
        obtain ⟨c0', rfl⟩ : ∃ c0, cs' = [c0] := by
          match cs', hlen' with
          | [c0], _ => exact ⟨c0, rfl⟩
        have := World.cell?_spot (hat' 0 (by decide))
        simpa [Addr.add] using this
      subst hspot
      rw [WideShapes.add_plain] at d0
      refine ⟨r, b, off, c0, rfl, World.block_lt_of_cell? W _ d0, by simpa [Addr.add] using d0, hr⟩
    have : ∃ g : Nat → List Fld, ∀ i, i < len → ∃ b off fv, a = ⟨b, off, none⟩ ∧ b < W.heap.size ∧ W.cell? ⟨b, off + i, none⟩ = some fv ∧ FldsIn W fv (g i) := by
      refine ⟨fun i => if h : i < len then (each i h).choose else [], fun i hi => ?_⟩
      simp only [dif_pos hi]
      exact (each i hi).choose_spec
    obtain ⟨g, hg⟩ := this
    have hll : ((List.range len).map g).length = len := by simp
    have hat : ∀ (i : Nat) (r : List Fld), ((List.range len).map g)[i]? = some r → i < len ∧ r = g i := by
      intro i it hi
      have hlt : i < len := by
        rcases Nat.lt_or_ge i len with q | q
        · exact q
        · rw [List.getElem?_eq_none (by rw [hll]; exact q)] at hi; cases hi
      rw [List.getElem?_map, List.getElem?_range hlt] at hi
      exact ⟨hlt, (Option.some.inj hi).symm⟩
    refine ⟨(List.range len).map g, ⟨⟨some a, cap, by rw [hll], by rw [hll]; exact hl, fun i it hi => ?_⟩, by rw [hll]; omega, fun i it hi => ?_⟩⟩
    · obtain ⟨hlt, rfl⟩ := hat i it hi
      obtain ⟨b, off, fv, ea, hb, c0, hf⟩ := hg i hlt
      exact ⟨b, off, fv, by rw [ea], hb, c0, hf.flds⟩
    · obtain ⟨hlt, rfl⟩ := hat i it hi
      obtain ⟨b, off, fv, ea, hb, c0, hf⟩ := hg i hlt
      subst ea
      exact ⟨b, off, _, _, fv, rfl, hb, c0, hf⟩
/-- It is little. -/
def Few (r : List Fld) : Prop := r.length ≤ 61 ∧ (∀ f ∈ r, f.1.length ≤ 6000 ∧ f.2.length ≤ 6000) ∧ minF r ≤ 6000
def MuchL (rs : List (List Fld)) (e : Ending) : Prop := ∃ b : Bool, e = .returned (.bool b) ∧ (b = false → rs.length ≤ 13 ∧ ∀ r ∈ rs, Few r)
set_option maxRecDepth 100000 in
set_option maxHeartbeats 4000000 in
theorem muchL_any (rs : List (List Fld)) (v : Value) (w : World) (hs : RwsIn w v rs) (W0 : World) (hW : Below w.heap.size w W0) :
    Calls Tryd.prog 31 #[v] W0 fun e w' => MuchL rs e ∧ Below W0.heap.size W0 w' := by
  have HS := Lib.hid hs
  obtain ⟨⟨A, cap, rfl, hle, _⟩, hlen, _⟩ := id hs
  unfold maxLen at hlen
  have hW2 := Lib.hid hW
  have hzW := hW.size
  clear hs hW
  go_enter Tryd.func31, Tryd.ntmps31
  go_wp2_with fail
  go_loopw [7] (fun i wr => ∃ k : Nat, k ≤ rs.length ∧ i = .int .i64 k ∧ k ≤ 13 ∧ (∀ r ∈ rs.take k, Few r) ∧ Below W0.heap.size W0 wr) (fun i _ => rs.length - (intOf i).toNat)
  case atStart => exact ⟨0, Nat.zero_le _, rfl, Nat.zero_le _, (fun r hr => by simp at hr), Below.refl _ _⟩
  case round =>
    obtain ⟨k, hk, rfl, hk13, hF, hb⟩ := hrel
    by_cases hlt : k < rs.length
    · obtain ⟨r, hr⟩ : ∃ r, rs[k]? = some r := ⟨_, List.getElem?_eq_getElem hlt⟩
      obtain ⟨b, off, n, c, fv, e, hbb, c0, hin⟩ := HS.out.each k r hr
      cases e
      have hbw : Below w.heap.size w wr := hW2.out.trans (hb.mono hzW)
      replace c0 := (hbw.cell (p := ⟨b, off + k, none⟩) hbb).trans c0
      obtain ⟨fa, fc, rfl, _, _⟩ := id hin.flds
      by_cases h12 : 12 < k
      · clear hF hin hr
        go_wp2_with fail
        go_ret
        exact ⟨⟨true, rfl, fun h => by cases h⟩, hb⟩
      · have MU := Lib.hid (much_any r _ wr (hin.flds.below hbw (Nat.le_refl _)) hin.len hin.each)
        have FH := Lib.hid hF
        have TK := Lib.hid (show rs.take (k + 1) = rs.take k ++ [r] by rw [List.take_add_one, hr]; rfl)
        have hzr := hb.size
        clear hF hin hr
        go_wp2_with fail
        refine MU.out.mono ?_
        rintro e w2 ⟨⟨mb, rfl, hmb⟩, b2⟩
        have hb2 := hb.trans (b2.mono hzr)
        cases mb with
        | true =>
          clear hmb MU
          go_wp2_with fail
          go_ret
          exact ⟨⟨true, rfl, fun h => by cases h⟩, hb2⟩
        | false =>
          have hm := Lib.hid (hmb rfl)
          clear hmb MU
          go_wp2_with fail
          go_roundw
          case rel =>
            refine ⟨k + 1, hlt, by go_num, by omega, fun y hy => ?_, hb2⟩
            rw [TK.out] at hy
            rcases List.mem_append.1 hy with hy | hy
            · exact FH.out y hy
            · rw [List.mem_singleton.1 hy]; exact hm.out
          case measure => simp [intOf]; omega
    · obtain rfl : k = rs.length := by omega
      rw [List.take_length] at hF
      have FH := Lib.hid hF
      clear hF
      go_wp2_with fail
      go_ret
      exact ⟨⟨false, rfl, fun _ => ⟨hk13, FH.out⟩⟩, hb⟩
set_option maxRecDepth 100000 in
set_option maxHeartbeats 8000000 in
theorem textsLaw6 (rs : List (List Fld)) (v : Value) (w : World) (hs : RwsIn w v rs) :
    Calls Tryd.prog 5 #[v] w fun e w' => e = .returned (.bool true) ∧ Below w.heap.size w w' := by
  have HS := Lib.hid hs
  obtain ⟨⟨A, cap, rfl, hle, _⟩, hlen, _⟩ := id hs
  unfold maxLen at hlen
  clear hs
  go_enter Tryd.func5, Tryd.ntmps5
  go_wp2_with fail
  refine (alive6_any _).mono ?_
  rintro e w1 ⟨rfl, b1⟩
  have hz1 := b1.size
  have MU := Lib.hid (muchL_any rs _ w HS.out w1 b1)
  go_wp2_with fail
  refine MU.out.mono ?_
  rintro e w2 ⟨⟨mb, rfl, hmb⟩, b2⟩
  have hb2 := b1.trans (b2.mono hz1)
  cases mb with
  | true =>
    clear hmb MU
    go_wp2_with fail
    go_ret
    exact ⟨rfl, hb2⟩
  | false =>
    obtain ⟨h13, hfew⟩ := hmb rfl
    have FEW := Lib.hid hfew
    have hz2 := hb2.size
    have R2 := HS.out.is_.below hb2 (Nat.le_refl _)
    have hsm : ∀ r ∈ rs, r.length ≤ 1000000 ∧ ∀ f ∈ r, f.1.length ≤ 100000 ∧ f.2.length ≤ 100000 := fun r hr => by
      obtain ⟨a, b, _⟩ := hfew r hr
      exact ⟨by omega, fun f hf => by have := b f hf; omega⟩
    have SM := Lib.hid hsm
    have TX := Lib.hid (text_any rs _ w2 R2 (by omega) hsm)
    clear hmb hfew R2 hsm MU b1 b2
    go_wp2_with fail
    refine TX.out.mono ?_
    rintro e w3 ⟨b3, hT⟩
    have hb3 := hb2.trans (b3.mono hz2)
    have hz3 := hb3.size
    clear TX
    -- the document's check of a stanza, anywhere
    have CELL : Hid (∀ (k : Nat) (r : List Fld), rs[k]? = some r → ∀ W, Below w3.heap.size w3 W → ∃ b off fa fc, Value.slice A rs.length cap = .slice (some ⟨b, off, none⟩) rs.length cap ∧ b < W.heap.size ∧ W.cell? ⟨b, off + k, none⟩ = some (.slice fa r.length fc) ∧ Flds W (.slice fa r.length fc) r) := by
      intro k r hr W hW
      obtain ⟨b, off, n, c, fv, e, hbb, c0, hin⟩ := HS.out.each k r hr
      cases e
      have hbW : Below w.heap.size w W := hb3.trans (hW.mono hz3)
      obtain ⟨fa, fc, rfl, _, _⟩ := id hin.flds
      exact ⟨b, off, fa, fc, rfl, Nat.lt_of_lt_of_le hbb hbW.size, (hbW.cell (p := ⟨b, off + k, none⟩) hbb).trans c0, hin.flds.below hbW (Nat.le_refl _)⟩
    cases hbad : badR rs with
    | some r0 =>
      rw [hbad] at hT
      obtain ⟨u, rfl, hu, hnz⟩ := hT
      have HU := Lib.hid hu
      have HBAD := Lib.hid hbad
      have hp := hu.pos hnz
      clear hu hbad
      obtain ⟨ut, ux, hux⟩ : ∃ t x, u = .iface t x := by rcases hp with rfl | ⟨q, rfl⟩ <;> exact ⟨_, _, rfl⟩
      subst hux
      clear hp
      have hcn := chkN_le r0
      go_wp2_with fail
      go_loopw [23] (fun i wr => ∃ k : Nat, k ≤ rs.length ∧ i = .int .i64 k ∧ (∀ y ∈ rs.take k, chkN y = 0) ∧ Below w3.heap.size w3 wr) (fun i _ => rs.length - (intOf i).toNat)
      case atStart => exact ⟨0, Nat.zero_le _, rfl, (fun y hy => by simp at hy), Below.refl _ _⟩
      case round =>
        obtain ⟨k, hk, rfl, hG, hb⟩ := hrel
        have hzr := hb.size
        by_cases hlt : k < rs.length
        · obtain ⟨r, hr⟩ : ∃ r, rs[k]? = some r := ⟨_, List.getElem?_eq_getElem hlt⟩
          obtain ⟨b, off, fa, fc, e, hbb, c0, hfl⟩ := CELL.out k r hr wr hb
          cases e
          obtain ⟨s1, s2⟩ := SM.out r (List.mem_of_getElem? hr)
          have RC := Lib.hid (refChk_any r _ wr hfl s1 (fun f hf => by have := s2 f hf; omega))
          have GH := Lib.hid hG
          have HR := Lib.hid hr
          clear hG hr hfl s2
          by_cases h0 : chkN r = 0
          · have GK : Hid (∀ y ∈ rs.take (k + 1), chkN y = 0) := by
              intro y hy
              rw [List.take_add_one, HR.out] at hy
              rcases List.mem_append.1 hy with hy | hy
              · exact GH.out y hy
              · simp at hy; subst hy; exact h0
            rw [h0] at RC
            clear h0 GH HR
            generalize chkAt r = ca at *
            go_wp2_with fail
            refine RC.out.mono ?_
            rintro e w4 ⟨rfl, b4⟩
            have hb4 := hb.trans (b4.mono hzr)
            clear RC
            go_wp2_with fail
            go_roundw
            case rel => exact ⟨k + 1, hlt, by go_num, GK.out, hb4⟩
            case measure => simp [intOf]; omega
          · have hrr : r0 = r := by
              have := badR_at GH.out HR.out h0
              rw [HBAD.out] at this
              exact Option.some.inj this
            have HU4 := Lib.hid (fun W (hW : Below w3.heap.size w3 W) => num_chk (HU.out.below hW (Nat.le_refl _)))
            have HA4 := Lib.hid (fun W (hW : Below w3.heap.size w3 W) => at_chk (HU.out.below hW (Nat.le_refl _)))
            rw [hrr] at HU4 HA4
            have hnb : ((chkN r : Int) != 0) = true := by simp; omega
            clear GH HR h0 HBAD hnz hcn HU hrr
            generalize chkAt r = ca at *
            generalize chkN r = cn at *
            go_wp2_with fail
            refine RC.out.mono ?_
            rintro e w4 ⟨rfl, b4⟩
            have hb4 := hb.trans (b4.mono hzr)
            have N4 := Lib.hid (HU4.out w4 hb4)
            have A4 := Lib.hid (HA4.out w4 hb4)
            clear RC HU4 HA4
            go_wp2_with fail
            refine N4.out.mono ?_
            rintro e w5 ⟨rfl, rfl⟩
            go_wp2_with fail
            refine A4.out.mono ?_
            rintro e w6 ⟨rfl, rfl⟩
            have hbe : ((B []).toList == []) = true := by rw [Lib.toList_data, B_data]; rfl
            go_wp2_with fail
            go_ret
            exact ⟨rfl, hb3.trans (hb4.mono hz3)⟩
        · exfalso
          have : k = rs.length := by omega
          rw [this, List.take_length] at hG
          have := badR_none hG
          rw [HBAD.out] at this; cases this
    | none =>
      rw [hbad] at hT
      obtain ⟨rfl, hall⟩ := hT
      have ALL := Lib.hid hall
      have HP := Lib.hid (parse_texts hall (by omega))
      have zj := B_size (joinT rs)
      have PARSE := Lib.hid (fun (h : (joinT rs).length ≤ 60000) W => parse_any (B (joinT rs)) (by rw [B_size]; exact h) W)
      rw [B_data] at PARSE
      have RT := Lib.hid (fun W (hW : Below w3.heap.size w3 W) => refText_any rs (.slice A rs.length cap) W (HS.out.is_.below (hb3.trans (hW.mono hz3)) (Nat.le_refl _)) (by omega) SM.out hall)
      have hlj := joinT_take_len hall (by omega)
      clear hall hbad
      generalize joinT rs = T at *
      go_wp2_with fail
      go_loopw [23] (fun i wr => ∃ k : Nat, k ≤ rs.length ∧ i = .int .i64 k ∧ Below w3.heap.size w3 wr) (fun i _ => rs.length - (intOf i).toNat)
      case atStart => exact ⟨0, Nat.zero_le _, rfl, Below.refl _ _⟩
      case round =>
        obtain ⟨k, hk, rfl, hb⟩ := hrel
        have hzr := hb.size
        by_cases hlt : k < rs.length
        · obtain ⟨r, hr⟩ : ∃ r, rs[k]? = some r := ⟨_, List.getElem?_eq_getElem hlt⟩
          obtain ⟨b, off, fa, fc, e, hbb, c0, hfl⟩ := CELL.out k r hr wr hb
          cases e
          obtain ⟨s1, s2⟩ := SM.out r (List.mem_of_getElem? hr)
          have RC := Lib.hid (refChk_any r _ wr hfl s1 (fun f hf => by have := s2 f hf; omega))
          rw [ALL.out r (List.mem_of_getElem? hr)] at RC
          clear hr hfl s2 PARSE RT
          generalize chkAt r = ca at *
          go_wp2_with fail
          refine RC.out.mono ?_
          rintro e w4 ⟨rfl, b4⟩
          have hb4 := hb.trans (b4.mono hzr)
          clear RC
          go_wp2_with fail
          go_roundw
          case rel => exact ⟨k + 1, hlt, by go_num, hb4⟩
          case measure => simp [intOf]; omega
        · obtain rfl : k = rs.length := by omega
          obtain ⟨wm, hwm⟩ : ∃ wm, wm = wr := ⟨wr, rfl⟩
          subst hwm
          have RT4 := Lib.hid (RT.out wm hb)
          clear RT
          go_wp2_with fail
          refine RT4.out.mono ?_
          rintro e w5 ⟨rfl, b5⟩
          have hb5 := hb.trans (b5.mono hzr)
          have hz5 := hb5.size
          clear RT4 b5 hb
          by_cases hlong : 60000 < T.length
          · have hlong2 : 60000 < (B T).size := by rw [B_size]; exact hlong
            clear PARSE
            go_wp2_with fail
            go_ret
            exact ⟨rfl, hb3.trans (hb5.mono hz3)⟩
          · have hlong2 : ¬ 60000 < (B T).size := by rw [B_size]; exact hlong
            have PA := Lib.hid (PARSE.out (by omega) w5)
            clear PARSE
            go_wp2_with fail
            refine PA.out.mono ?_
            rintro e w6 hP
            obtain ⟨p1, iv, rfl, i1, i2⟩ := parseYes hP HP.out
            have hb6 := hb5.trans (p1.mono hz5)
            have hz6 := hb6.size
            obtain ⟨ia, ic, rfl, _, _⟩ := id i1
            have al := apart_len (rs.map itemOf)
            rw [List.length_map] at al
            have hfs : ∀ it ∈ apartL (rs.map itemOf), it.fields.length ≤ 1000000 := by
              refine apart_fields (fun it hi => ?_)
              obtain ⟨r, hr, rfl⟩ := List.mem_map.1 hi
              exact (SM.out r hr).1
            have ST := Lib.hid (stanzas_any (apartL (rs.map itemOf)) _ w6 i1 i2 (by omega) hfs)
            rw [show recs (apartL (rs.map itemOf)) = rs from recs_apart false rs] at ST
            clear hP PA p1 i1 i2 hfs HP
            go_wp2_with fail
            refine ST.out.mono ?_
            rintro e w7 ⟨p, vs, rfl, ap⟩
            obtain ⟨pa, pc, hpe, hpl⟩ := own_slice ap.row
            subst hpe
            have hb7 := hb6.trans (ap.below.mono hz6)
            have hz7 := hb7.size
            have hvl := ap.len
            have RW := Lib.hid ap.rws
            have AP := Lib.hid ap
            rw [hvl]
            rw [hvl] at RW
            clear ap ST
            go_wp2_with fail
            go_loopw [78] (fun i wr => ∃ k : Nat, k ≤ rs.length ∧ i = .int .i64 k ∧ Below w7.heap.size w7 wr) (fun i _ => rs.length - (intOf i).toNat)
            case atStart => exact ⟨0, Nat.zero_le _, rfl, Below.refl _ _⟩
            case round =>
              obtain ⟨k, hk, rfl, hb⟩ := hrel
              have hzr8 := hb.size
              by_cases hlt : k < rs.length
              · obtain ⟨r, hr⟩ : ∃ r, rs[k]? = some r := ⟨_, List.getElem?_eq_getElem hlt⟩
                obtain ⟨b, off, fa, fc, e, hbb, c0, hfl⟩ := CELL.out k r hr wr (hb7.trans (hb.mono hz7))
                cases e
                obtain ⟨A', cap', e, _, hcells⟩ := RW.out
                cases e
                obtain ⟨b', off', fv', rfl, hbb', d0, hfl'⟩ := hcells k r hr
                replace d0 := (hb.cell (p := ⟨b', off' + k, none⟩) hbb').trans d0
                obtain ⟨ga, gc, rfl, _, _⟩ := id hfl'
                obtain ⟨s1, s2⟩ := SM.out r (List.mem_of_getElem? hr)
                have hfa := hfl'.below hb (Nat.le_refl _)
                have FQ := Lib.hid (fun m => fields_quiet r (.slice ga r.length gc) (.slice fa r.length fc) (wr.drewN m) (hfa.drewN m) (hfl.drewN m) s1)
                clear hr hfl hfl' s2 hcells hfa
                go_wp2_with (go_quiet ((go_at_call 27; exact Calls.quiet_of (FQ.out _))))
                go_roundw
                case rel => exact ⟨k + 1, hlt, by go_num, drewN_below hb _⟩
                case measure => simp [intOf]; omega
              · obtain rfl : k = rs.length := by omega
                go_wp2_with fail
                go_ret
                exact ⟨rfl, hb3.trans ((hb7.trans (hb.mono hz7)).mono hz3)⟩
set_option maxRecDepth 100000 in
theorem textsCall6 {H : Type} {enc : TypeId × Value → H} (v : Value) (d : DataW H) (p : List MemPlace) (W : World) {b0 : Nat} (hval : Value.okWide Tryd.prog W .any b0 35 v) {base : Nat} {sp : Nat → Bool} {held : Bool} (h : DataW.Trod enc Tryd.prog W base sp held 35 v d p) :
    Calls Tryd.prog 5 #[v] W fun e w' => e = .returned (.bool true) ∧ Below W.heap.size W w' := by
  obtain ⟨n, hn⟩ := h
  obtain ⟨ao, len, cap, rfl⟩ := okWide_slice Tryd.underlying35 hval
  obtain ⟨rs, hr⟩ := rws_in (v := .slice ao len cap) hn
  exact textsLaw6 rs _ W hr
end Go.Proofs.YtafgebodmhkghaaDoor
