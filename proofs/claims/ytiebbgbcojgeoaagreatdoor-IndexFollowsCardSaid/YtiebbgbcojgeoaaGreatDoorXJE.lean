/- IndexWithin. -/
import Derived.Test.YtiebbgbcojgeoaaGreatDoorBas0
set_option linter.unusedVariables false
namespace Go.Proofs.YtiebbgbcojgeoaaGreatDoor
open Go.RowKit Go.Maps Go.Sort Go.Shelf
attribute [local go_sem] Oper.semAt_some

/-- The index of a list that is there. -/
theorem ofL_any {S0 : Nat} {w : World} {lb : Nat} {ev : Value} {ps : List Pr} {l : LS} {m : Nat} (h : Carry S0 w lb ev ps l m) (hm : m ≤ 10000) (hs : ShL l.es) :
    Calls Tryz.prog 37 #[.pointer (some ⟨lb, 0, none⟩)] w fun e w' => ∃ x kb yb T, e = .returned (.pointer (some ⟨x, 0, none⟩)) ∧ IdxL w.heap.size w' T x kb yb ((stzE l.es).length + 2 * numF (stzE l.es)) (stzE l.es) ∧ Below w.heap.size w w' := by
  have ok := h.ok.of hs (by have := h.nx; have := h.ok.pos; omega)
  refine ofI_any (some ⟨lb, 0, none⟩) (stzE l.es) w (fun W hW => ?_) (fun s hs => (ok.wf s hs).1) ok.nd ok.len (by have := ok.num; omega)
  have h2 := h.below hW (Nat.le_refl _)
  have := stanzas_gen ps ev (some ⟨lb, 0, none⟩) W (fun W' hW' => AllR.of (h2.la.lr.below hW' (Nat.le_refl _))) (h2.ents (by omega))
  rwa [stz_es h.es] at this
set_option maxRecDepth 100000 in
set_option maxHeartbeats 8000000 in
theorem withinLaw (s key : ByteArray) (hs : s.size ≤ maxLen) (hk : key.size ≤ maxLen) (w : World) :
    Calls Tryz.prog 9 #[.string s, .string key] w fun e w' => e = .returned (.bool true) ∧ Below w.heap.size w w' := by
  have AL := Lib.hid (idxAlive w)
  have hk0 : key.size ≤ maxLen := hk
  unfold maxLen at hs
  go_enter Tryz.func9, Tryz.ntmps9
  go_wp2_with fail
  refine AL.out.mono ?_
  rintro e w1 ⟨rfl, b1⟩
  have B1 := Lib.hid b1
  clear AL b1
  by_cases hlong : 3000 < s.size
  · go_wp2_with fail
    go_ret
    exact ⟨rfl, B1.out⟩
  have OF := Lib.hid (of_any s (by omega) w1)
  go_wp2_with fail
  refine OF.out.mono ?_
  rintro e w3 hof
  clear OF
  cases hp : parseL s.data.toList with
  | error an =>
    obtain ⟨a, n⟩ := an
    obtain ⟨b3, u, rfl, hf⟩ := hof.no hp
    obtain ⟨q, _, rfl, _⟩ := hf
    have B3 := Lib.hid (B1.out.trans (b3.mono B1.out.size))
    clear hof b3 hp
    go_wp2_with fail
    go_ret
    exact ⟨rfl, B3.out⟩
  | ok its =>
    obtain ⟨b3, lb, ev, ps, rfl, hlb, hev, hla, hps⟩ := hof.yes hp
    have hlen : (fromL its).es.length ≤ 3000 ∧ (fromL its).next ≤ 3001 := by
      have h1 := (parse_join hp).2.1
      rw [← Lib.size_eq] at h1
      have h2 : (fromL its).es.length = its.length := from_len 1 its
      have h3 := (from_next 1 its).2
      have h4 : (fromL its).next = fromNext 1 its := rfl
      omega
    have CA : Carry w1.heap.size w3 lb ev ps (fromL its) 3000 := by
      refine ⟨hla, hps, from_ok hp, fun e he => ?_, hlb, hev, hlen.1, hlen.2⟩
      have h1 := (parse_join hp).2.2
      have h2 : e.1 ∈ its := by rw [← from_items 1 its]; exact List.mem_map_of_mem he
      obtain ⟨q1, q2⟩ := h1 _ h2
      rw [← Lib.size_eq] at q2
      exact ⟨by omega, by omega⟩
    have B3 := Lib.hid (B1.out.trans (b3.mono B1.out.size))
    have hsh := sh_from hp
    have ok := CA.ok.of hsh (by have := hlen.2; omega)
    have OI := Lib.hid (ofL_any CA (by decide) hsh)
    obtain ⟨rs, hrs⟩ : ∃ rs, rs = stzE (fromL its).es := ⟨_, rfl⟩
    rw [← hrs] at ok OI
    have HOK := Lib.hid ok
    have hnum := ok.num
    have hrl := ok.n
    clear hof b3 hp hla hps CA hlen hsh hrs ok
    unfold ptr
    go_wp2_with fail
    refine OI.out.mono ?_
    rintro e w4 ⟨x, kb, yb, T, rfl, hi, hb⟩
    obtain ⟨N, hN⟩ : ∃ N, N = rs.length + 2 * numF rs := ⟨_, rfl⟩
    rw [← hN] at hi hnum
    have HI := Lib.hid hi
    have B4 := Lib.hid (B3.out.trans (hb.mono B3.out.size))
    have VA := Lib.hid (idxValues hi.at_ (by omega) key hk0)
    clear hi hb OI
    go_wp2_with fail
    refine VA.out.mono ?_
    rintro e w5 ⟨v, sv, rfl, nv, mv, av⟩
    have NV := av.strs
    have hvl : (sortS sv).length = sv.length := (sortS_perm sv).length_eq
    have hvb : sv.length ≤ numF rs := vals_len nv mv
    have mvs : ∀ t, t ∈ sortS sv ↔ ∃ i, 0 < fOf rs key.data.toList t i := fun t => (sortS_perm sv).mem_iff.trans (mv t)
    have lvs := sortS_le sv
    have hvf : 0 < sv.length → ∃ g c, v = .slice (some ⟨g, 0, none⟩) sv.length c := fun q => Joins.ownsRow_form av.1 q
    have HI5 := Lib.hid (HI.out.below av.2.2 (Nat.le_refl _))
    have B5 := Lib.hid (B4.out.trans (av.2.2.mono B4.out.size))
    obtain ⟨vs, hvs⟩ : ∃ vs, vs = sortS sv := ⟨_, rfl⟩
    rw [← hvs] at NV hvl mvs lvs
    have hvn : vs.length ≤ numF rs := by omega
    obtain ⟨va, vc, hv0, hvc, _⟩ := _root_.id NV
    rw [List.length_map] at hv0
    have HVF : Hid (0 < vs.length → ∃ g, va = some ⟨g, 0, none⟩) := fun q => by
      obtain ⟨g, c, e⟩ := hvf (by omega)
      rw [hv0] at e
      injection e with e1 _ _
      exact ⟨g, e1⟩
    subst hv0
    clear hvf
    have HNV := Lib.hid NV
    have HMV := Lib.hid mvs
    have HLV := Lib.hid lvs
    have WI := Lib.hid (idxWith HI5.out.at_ (by omega) key hk0)
    have HNR := Lib.hid (And.intro hvn hN)
    clear VA nv mv av NV hvl hvb mvs lvs hvs hN hvn
    go_wp2_with fail
    refine WI.out.mono ?_
    rintro e w6 ⟨v, sw, rfl, nw, mw, aw⟩
    have NW := aw.nums
    have mws : ∀ i, i ∈ sortZ sw ↔ ∃ t, 0 < fOf rs key.data.toList t i := fun i => (sortZ_perm sw).mem_iff.trans ((mw i).trans (by simp))
    have nws : (sortZ sw).Nodup := (sortZ_perm sw).nodup_iff.2 nw
    have hwl : (sortZ sw).length ≤ rs.length := by rw [(sortZ_perm sw).length_eq]; exact with_len nw mw
    have sws := sortZ_le sw
    have HI6 := Lib.hid (HI5.out.below aw.2.2 (Nat.le_refl _))
    have B6 := Lib.hid (B5.out.trans (aw.2.2.mono B5.out.size))
    have HNV6 := Lib.hid (HNV.out.below aw.2.2 (Nat.le_refl _))
    obtain ⟨W, hW⟩ : ∃ W, W = sortZ sw := ⟨_, rfl⟩
    rw [← hW] at NW mws nws hwl sws
    obtain ⟨wa, wc, rfl, hwc, _⟩ := _root_.id NW
    have HNW := Lib.hid NW
    have HMW := Lib.hid (And.intro mws (And.intro nws sws))
    obtain ⟨w7, hw7⟩ : ∃ w7, w7 = w6.alloc (.cells #[.slice wa W.length wc] 88) := ⟨_, rfl⟩
    have hb7 : Below w6.heap.size w6 w7 := by rw [hw7]; exact (Below.refl _ _).alloc (Nat.le_refl _) _
    have HC7 : Hid (Cells w7 w6.heap.size 88 #[.slice wa W.length wc]) := by show Cells _ _ _ _; rw [hw7]; exact Cells.new w6 _ _
    have HI7 := Lib.hid (HI6.out.below hb7 (Nat.le_refl _))
    have B7 := Lib.hid (B6.out.trans (hb7.mono B6.out.size))
    have HNV7 := Lib.hid (HNV6.out.below hb7 (Nat.le_refl _))
    have HNW7 := Lib.hid (HNW.out.below hb7 (Nat.le_refl _))
    have HW7 := Lib.hid hw7
    clear WI nw mw aw NW mws nws sws hW hb7 hw7 HNV6 HNV HNW HI HI5 HI6
    go_wp2_with fail
    rw [← HW7.out]
    go_loopw [40, 11] (fun i nn wr => ∃ (k n : Nat), k ≤ vs.length ∧ i = .int .i64 k ∧ nn = .int .i64 n ∧ n ≤ k * 20000 ∧ W.countP (metB rs key.data.toList (vs.take k)) ≤ n ∧ Below w7.heap.size w7 wr) (fun i _ _ => vs.length - (intOf i).toNat)
    case atStart => exact ⟨0, 0, Nat.zero_le _, rfl, rfl, Nat.zero_le _, by simp [metB], Below.refl _ _⟩
    case round =>
      obtain ⟨k, n, hk, rfl, rfl, hnk, hmet, hbr⟩ := hrel
      have HBR := Lib.hid hbr
      have HMT := Lib.hid hmet
      have hsr := hbr.size
      have hvs := HNR.out.1
      have hnm : numF rs ≤ 20000 := by have := HNR.out.2; omega
      clear hbr hmet
      by_cases hlt : k < vs.length
      · obtain ⟨t, ht⟩ : ∃ t, vs[k]? = some t := ⟨_, List.getElem?_eq_getElem hlt⟩
        obtain ⟨A', cap', e1, _, hcell⟩ := HNV7.out
        rw [List.length_map] at e1
        cases e1
        obtain ⟨b, off, rfl, hbb, c1⟩ := hcell k (B t) (by rw [List.getElem?_map, ht]; rfl)
        replace c1 := (HBR.out.cell (p := ⟨b, off + k, none⟩) hbb).trans c1
        have IR := Lib.hid (HI7.out.below HBR.out (Nat.le_refl _))
        have htm : t ∈ vs := List.mem_of_getElem? ht
        have htl : (B t).size ≤ maxLen := by
          obtain ⟨i, hi⟩ := (HMV.out t).1 htm
          obtain ⟨st, q1, _, q3⟩ := fOf_pos hi
          have := ((HOK.out.sh st q1).2 _ q3).2
          rw [B_size]; unfold maxLen; dsimp only at this; omega
        have hN1 : N ≤ 1000000 := by omega
        have EQ := idxEqual IR.out.at_ hN1 key (B t) hk0 htl
        have CO := fun W hW => idxCount (IR.out.below (N := wr.heap.size) (w' := W) hW (Nat.le_refl _)).at_ key (B t) hk0 htl (fun ss h => by rw [B_data]; exact Nat.le_trans (fOf_sum key.data.toList t rs ss h) (by omega))
        rw [B_data] at EQ
        have HEQ := Lib.hid EQ
        have HCO := Lib.hid CO
        have HT := Lib.hid (And.intro ht htm)
        clear EQ CO ht htm hcell htl
        go_wp2_with fail
        refine HEQ.out.mono ?_
        rintro e w8 ⟨v, se, rfl, ne, me, ae⟩
        have NE := ae.nums
        have nes : (sortZ se).Nodup := (sortZ_perm se).nodup_iff.2 ne
        have mes : ∀ i, i ∈ sortZ se ↔ 0 < fOf rs key.data.toList t i := fun i => (sortZ_perm se).mem_iff.trans (me i)
        obtain ⟨E, hE⟩ : ∃ E, E = sortZ se := ⟨_, rfl⟩
        rw [← hE] at NE nes mes
        obtain ⟨ea, ec, rfl, hec, _⟩ := _root_.id NE
        have hpos : 0 < E.length := by
          obtain ⟨i, hi⟩ := (HMV.out t).1 HT.out.2
          exact List.length_pos_of_mem ((mes i).2 hi)
        have hEl : E.length ≤ numF rs := had_len nes mes
        have HNE := Lib.hid NE
        have HES := Lib.hid (And.intro nes mes)
        have B8 := Lib.hid (HBR.out.trans (ae.2.2.mono hsr))
        have CO8 := Lib.hid (HCO.out w8 ae.2.2)
        obtain ⟨el, hel⟩ : ∃ el, E.length = el + 1 := ⟨E.length - 1, by omega⟩
        have HEL := Lib.hid hel
        rw [hel] at hec hpos hEl ⊢
        clear hel
        clear NE nes mes hE ne me ae HEQ HCO
        go_wp2_with fail
        refine CO8.out.mono ?_
        rintro e w9 ⟨ss, he, hn, hm, ho⟩
        rw [B_data] at hm he
        obtain ⟨c, hc⟩ : ∃ c, c = (ss.map (fOf rs key.data.toList t)).sum := ⟨_, rfl⟩
        have hcE : el + 1 ≤ c := by
          rw [← HEL.out]
          have hp : ss.Perm E := (List.perm_ext_iff_of_nodup hn HES.out.1).2 fun i => (hm i).trans (HES.out.2 i).symm
          rw [hc, ← hp.length_eq]
          exact sum_ge _ ss fun i hi => (hm i).1 hi
        rw [← hc] at he
        subst he
        have hq1 : (((el : Nat) : Int) + 1 == 0) = false := by simp; omega
        have hq2 : decide (((c : Nat) : Int) < ((el : Nat) : Int) + 1) = false := by simp; omega
        have B9 := Lib.hid (B8.out.trans (ho.to_below B8.out.size (fun _ _ h => h)))
        have HN9 := Lib.hid (HNE.out.below (ho.to_below (Nat.le_refl _) (fun _ _ h => h)) (Nat.le_refl _))
        clear hn hm ho hc CO8 HNE
        go_wp2_with fail
        obtain ⟨wy, hwy⟩ : ∃ q, q = wr := ⟨wr, rfl⟩
        go_loopw [62] (fun i W2 => ∃ j : Nat, j ≤ el + 1 ∧ i = .int .i64 j ∧ Below w9.heap.size w9 W2) (fun i _ => el + 1 - (intOf i).toNat)
        case atStart => exact ⟨0, Nat.zero_le _, rfl, Below.refl _ _⟩
        case round =>
          obtain ⟨j, hj, rfl, hbr2⟩ := hrel
          by_cases hlj : j < el + 1
          · obtain ⟨i, hi⟩ : ∃ i, E[j]? = some i := ⟨_, List.getElem?_eq_getElem (by rw [HEL.out]; exact hlj)⟩
            obtain ⟨A2, cap2, e2, _, hcell2⟩ := HN9.out
            rw [HEL.out] at e2
            cases e2
            obtain ⟨b2, off2, rfl, hbb2, d1⟩ := hcell2 j i hi
            replace d1 := (hbr2.cell (p := ⟨b2, off2 + j, none⟩) hbb2).trans d1
            have hb7 : Below w7.heap.size w7 wr := B9.out.trans (hbr2.mono B9.out.size)
            have hiW : i ∈ W := (HMW.out.1 i).2 ⟨t, (HES.out.2 i).1 (List.mem_of_getElem? hi)⟩
            have HA := Lib.hid (hasI_any w6.heap.size (.slice wa W.length wc) W i wr ((hb7.cell (p := ⟨w6.heap.size, 0, none⟩) HC7.out.lt).trans (HC7.out.cell 0)) (Nat.lt_of_lt_of_le HC7.out.lt hb7.size) (HNW7.out.below hb7 (Nat.le_refl _)) (by omega) hiW)
            have HB2 := Lib.hid hbr2
            clear hbr2 hb7 hi hcell2 hiW
            go_wp2_with fail
            refine HA.out.mono ?_
            rintro e w10 ⟨rfl, hb⟩
            have HB3 := Lib.hid (HB2.out.trans (hb.mono HB2.out.size))
            clear hb HA
            go_wp2_with fail
            exact ⟨⟨j + 1, hlj, by go_num, HB3.out⟩, by simp [intOf]; omega⟩
          · obtain rfl : j = el + 1 := by omega
            have HB2 := Lib.hid (B9.out.trans (hbr2.mono B9.out.size))
            have hmt : W.countP (metB rs key.data.toList (vs.take (k + 1))) ≤ n + (el + 1) := by
              rw [← HEL.out]
              have e2 : vs.take (k + 1) = vs.take k ++ [t] := by rw [List.take_add_one, HT.out.1]; rfl
              rw [e2]
              exact Nat.le_trans (met_step rs key.data.toList (vs.take k) t W E HMW.out.2.1 HES.out.2) (by have := HMT.out; omega)
            have HMT2 := Lib.hid hmt
            clear hbr2 hmt
            go_wp2_with fail
            exact ⟨⟨k + 1, n + (el + 1), hlt, by go_num, by go_num, by omega, HMT2.out, HB2.out⟩, by simp [intOf]; omega⟩
      · obtain rfl : k = vs.length := by omega
        have HBW := Lib.hid (B7.out.trans (HBR.out.mono B7.out.size))
        have c9 : wr.cell? ⟨w6.heap.size, 0, none⟩ = some (.slice wa W.length wc) := (HBR.out.cell (p := ⟨w6.heap.size, 0, none⟩) HC7.out.lt).trans (HC7.out.cell 0)
        have hWn : W.length ≤ n := by
          have h1 := HMT.out
          rw [List.take_length, met_all (fun i hi => by
            obtain ⟨t, ht⟩ := (HMW.out.1 i).1 hi
            exact ⟨t, (HMV.out t).2 ⟨i, ht⟩, ht⟩)] at h1
          exact h1
        by_cases h0 : vs.length = 0
        · have hW0 : W.length = 0 := by
            rcases Nat.eq_zero_or_pos W.length with q | q
            · exact q
            · obtain ⟨i, hi⟩ := List.exists_mem_of_length_pos q
              obtain ⟨t, ht⟩ := (HMW.out.1 i).1 hi
              have := List.length_pos_of_mem ((HMV.out t).2 ⟨i, ht⟩)
              omega
          have h0' : ((vs.length : Nat) : Int) = 0 := by omega
          have hW0' : ((W.length : Nat) : Int) = 0 := by omega
          clear h0 hW0 hWn
          go_wp2_with fail
          go_ret
          exact ⟨rfl, HBW.out⟩
        · obtain ⟨vl, hvl⟩ : ∃ vl, vs.length = vl + 1 := ⟨vs.length - 1, by omega⟩
          obtain ⟨g, rfl⟩ := HVF.out (by omega)
          obtain ⟨t0, ht0⟩ : ∃ t, vs[0]? = some t := ⟨_, List.getElem?_eq_getElem (by omega)⟩
          obtain ⟨t1, ht1⟩ : ∃ t, vs[vl]? = some t := ⟨_, List.getElem?_eq_getElem (by omega)⟩
          have hcs : ∀ W', Below wr.drew.heap.size wr.drew W' → W'.cell? ⟨g, 0, none⟩ = some (.string (B t0)) ∧ W'.cell? ⟨g, vl, none⟩ = some (.string (B t1)) := fun W' hW' => by
            have hb : Below w7.heap.size w7 W' := HBR.out.trans ((((Below.refl wr.heap.size wr).drew).trans hW').mono hsr)
            obtain ⟨A', cap', e1, _, hcell⟩ := HNV7.out
            rw [List.length_map] at e1
            cases e1
            obtain ⟨b, off, e2, hbb, d0⟩ := hcell 0 (B t0) (by rw [List.getElem?_map, ht0]; rfl)
            cases e2
            obtain ⟨b, off, e2, _, d1⟩ := hcell vl (B t1) (by rw [List.getElem?_map, ht1]; rfl)
            cases e2
            rw [Nat.zero_add] at d0 d1
            exact ⟨(hb.cell (p := ⟨g, 0, none⟩) hbb).trans d0, (hb.cell (p := ⟨g, vl, none⟩) hbb).trans d1⟩
          have toB : ∀ W', Below wr.drew.heap.size wr.drew W' → Below w7.heap.size w7 W' := fun W' hW' => HBR.out.trans ((((Below.refl wr.heap.size wr).drew).trans hW').mono hsr)
          have hN1 : N ≤ 1000000 := by omega
          have hall : ∀ t ∈ vs, betw t0 t1 t = true := fun t ht => by
            obtain ⟨j, hj⟩ := List.mem_iff_getElem?.1 ht
            have hjl : j < vs.length := (List.getElem?_eq_some_iff.1 hj).1
            have le_at : ∀ (a b : Nat) (ta tb : List UInt8), a ≤ b → vs[a]? = some ta → vs[b]? = some tb → ta ≤ tb := fun a b ta tb hab ha hb => by
              obtain ⟨p1, p2⟩ := List.getElem?_eq_some_iff.1 ha
              obtain ⟨q1, q2⟩ := List.getElem?_eq_some_iff.1 hb
              by_cases e : a = b
              · subst e; rw [ha] at hb; cases hb; exact List.le_refl _
              · rw [← p2, ← q2]; exact List.pairwise_iff_getElem.1 HLV.out a b p1 q1 (by omega)
            unfold betw
            rw [decide_eq_true (le_at 0 j _ _ (Nat.zero_le _) ht0 hj), decide_eq_true (le_at j vl _ _ (by omega) hj ht1)]; rfl
          have hC16 : ∀ (W' : World) (_ : Below wr.drew.heap.size wr.drew W'), Calls Tryz.prog 48 #[.pointer (some ⟨x, 0, none⟩), .string key, .string (B t0), .string (B t1)] W' fun e w => ∃ v, e = .returned v ∧ (Nums w v W) ∧ Below W'.heap.size W' w := fun W' hW' => by
            refine (idxBetween (HI7.out.below (toB W' hW') (Nat.le_refl _)).at_ hN1 key (B t0) (B t1) hk0).mono ?_
            rintro e w9 ⟨v, ss, rfl, nd, mm, ha⟩
            refine ⟨v, rfl, ?_, ha.2.2⟩
            have hp : ss.Perm W := (List.perm_ext_iff_of_nodup nd HMW.out.2.1).2 fun i => by
              rw [mm, HMW.out.1]
              constructor
              · rintro ⟨t, _, h⟩; exact ⟨t, h⟩
              · rintro ⟨t, h⟩
                refine ⟨t, ?_, h⟩
                rw [B_data, B_data]
                exact hall t ((HMV.out t).2 ⟨i, h⟩)
            have e9 : sortZ ss = W := by rw [sortZ_eq hp]; exact sortZ_same HMW.out.2.2
            have := ha.nums
            rwa [e9] at this
          have hWl : W.length ≤ 10000000000000 := by omega
          have HREG := fun a0 Q (q1 : a0.tmps.size = 102) (q2 : a0.tmps[1]? = some (.string key)) q3 q4 q5 q6 hQ => region_iwR a0 wr.drew x w6.heap.size g vl vc W.length wc n wa key (B t0) (B t1) W Q q1 q2 q3 q4 q5 q6
            (fun W' hW' => (((Below.refl wr.heap.size wr).drew.trans hW').cell (p := ⟨w6.heap.size, 0, none⟩) (Nat.lt_of_lt_of_le HC7.out.lt hsr)).trans c9) hcs (by omega) hWn hC16
            (fun W' hW' z hz => (ints_any z (.slice wa W.length wc) W W W' hz (HNW7.out.below (toB W' hW') (Nat.le_refl _)) hWl hWl).mono fun e w9 ⟨he, hb⟩ => ⟨.bool true, by rw [he]; simp, rfl, hb⟩) hQ
          have HR := Lib.hid HREG
          rw [hvl]
          have hq1 : (((vl : Nat) : Int) + 1 == 0) = false := by simp; omega
          clear HREG hC16 hcs toB hall
          go_wp2_with fail
          refine wp_region_any (by kernel_rfl) ?_
          refine HR.out _ _ rfl rfl rfl rfl rfl rfl ?_
          intro y0 y1 y2 y3 y4 y5 y6 y7 y8 y9 y10 y11 y12 y13 y14 y15 y16 y17 y18 y19 y20 w3 hb3 h20
          obtain rfl : y20 = .bool true := h20
          have B9 := Lib.hid (HBW.out.trans ((((Below.refl wr.heap.size wr).drew).trans hb3).mono HBW.out.size))
          simp only [List.foldl_cons, List.foldl_nil, List.setIfInBounds_toArray, List.set_cons_zero, List.set_cons_succ]
          go_wp2_with fail
          go_ret
          exact ⟨rfl, B9.out⟩
theorem withinCall (s key : ByteArray) (W : World) (hs : s.size ≤ maxLen) (hk : key.size ≤ maxLen) : Calls Tryz.prog 9 #[.string s, .string key] W fun e w' => e = .returned (.bool true) ∧ Below W.heap.size W w' := withinLaw s key hs hk W
end Go.Proofs.YtiebbgbcojgeoaaGreatDoor
