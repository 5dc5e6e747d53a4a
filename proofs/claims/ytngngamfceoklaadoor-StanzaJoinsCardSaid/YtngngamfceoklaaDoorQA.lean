/- StanzaJoins' walk. -/
import Derived.Test.YtngngamfceoklaaDoorPZ
namespace Go.Proofs.YtngngamfceoklaaDoor
open Go.RowKit Go.Shelf Go.WideShapes Go.ChangeShapes

theorem ItsIn.at_ {w : World} {v : Value} {its : List It} (h : ItsIn w v its) {i : Nat} {it : It} (hi : its[i]? = some it) : ∃ b off cap fa fc, v = .slice (some ⟨b, off, none⟩) its.length cap ∧ b < w.heap.size ∧ w.cell? ⟨b, off + i * 3, none⟩ = some (.int .i64 it.kind) ∧ w.cell? ⟨b, off + i * 3 + 1, none⟩ = some (.string (B it.raw)) ∧ w.cell? ⟨b, off + i * 3 + 1 + 1, none⟩ = some (.slice fa it.fields.length fc) ∧ FldsIn w (.slice fa it.fields.length fc) it.fields := by
  obtain ⟨A, cap, rfl, hle, hc⟩ := h.is_
  obtain ⟨b, off, fv, rfl, hlt, c0, c1, c2, hf⟩ := hc i it hi
  obtain ⟨b', off', n, cap', fv', e, c2', hin⟩ := h.each i it hi
  cases e
  have e2 : fv = fv' := Option.some.inj (c2.symm.trans c2')
  subst e2
  obtain ⟨fa, fc, rfl, _, _⟩ := id hf
  exact ⟨b, off, cap, fa, fc, rfl, hlt, c0, c1, c2, hin⟩
set_option maxRecDepth 100000 in
set_option maxHeartbeats 8000000 in
theorem joinsLaw (its : List It) (v : Value) (w : World) (hs : ItsIn w v its) :
    Calls Tryd.prog 5 #[v] w fun e w' => e = .returned (.bool true) ∧ Below w.heap.size w w' := by
  have HS := Lib.hid hs
  obtain ⟨⟨A, cap, rfl, hle, _⟩, hlen, _, _⟩ := id hs
  unfold maxLen at hlen
  obtain ⟨i0, hi, hz0, hz1, hz2⟩ := info_parts infoItem
  clear hs
  by_cases hlong : 60 < its.length
  · go_enter Tryd.func5, Tryd.ntmps5
    go_wp2_with fail
    refine (alive_any _).mono ?_
    rintro e w1 ⟨rfl, b1⟩
    go_wp2_with fail
    go_ret
    exact ⟨rfl, b1⟩
  · go_enter Tryd.func5, Tryd.ntmps5
    go_wp2_with fail
    refine (alive_any _).mono ?_
    rintro e w1 ⟨rfl, b1⟩
    have hz1' := b1.size
    go_wp2_with fail
    have acc0 : AccM w1 (w1.alloc (.cells #[] 42)) (.slice (some ⟨w1.heap.size, 0, none⟩) 0 0) [] [] :=
      ⟨World.ownsRow_lit w1 #[] 0 (Nat.le_refl _) (by decide) rfl, rfl, fun j it x h => by simp at h, (Below.refl _ _).alloc (Nat.le_refl _) _⟩
    go_loopw [3, 18] (fun u i wr => ∃ (k : Nat) (fvs : List Value), k ≤ its.length ∧ i = .int .i64 k ∧ AccM w1 wr u fvs (its.take k) ∧ (∀ it ∈ its.take k, it.raw.length ≤ 1000 ∧ it.fields.length ≤ 61)) (fun _ i _ => its.length - (intOf i).toNat)
    case atStart => exact ⟨0, [], Nat.zero_le _, rfl, acc0, fun it hi => by simp at hi⟩
    case round =>
      obtain ⟨k, fvs, hk, rfl, hacc, hsm⟩ := hrel
      have hbw := b1.trans (hacc.below.mono hz1')
      by_cases hlt : k < its.length
      · obtain ⟨it, hit⟩ : ∃ it, its[k]? = some it := ⟨_, List.getElem?_eq_getElem hlt⟩
        obtain ⟨b, off, cap', fa, fc, e, hbb, c0, c1, c2, hin⟩ := HS.out.at_ hit
        cases e
        have zr := B_size it.raw
        have rl := HS.out.raw it (List.mem_of_getElem? hit)
        unfold maxLen at rl
        replace c0 := (hbw.cell (p := ⟨b, off + k * 3, none⟩) hbb).trans c0
        replace c1 := (hbw.cell (p := ⟨b, off + k * 3 + 1, none⟩) hbb).trans c1
        replace c2 := (hbw.cell (p := ⟨b, off + k * 3 + 1 + 1, none⟩) hbb).trans c2
        have hbl := Nat.lt_of_lt_of_le hbb hbw.size
        have hzw := hbw.size
        have hz1r := hacc.below.size
        have hba := (Below.refl wr.heap.size wr).alloc (Nat.le_refl _) (.cells #[.int .i64 it.kind, .string (B it.raw), .slice fa it.fields.length fc] 42)
        have hbwa := hbw.trans (hba.mono hzw)
        have TK := Lib.hid (show its.take (k + 1) = its.take k ++ [it] by rw [List.take_add_one, hit]; rfl)
        by_cases hraw : 1000 < it.raw.length
        · have cr : decide ((1000 : Int) < (it.raw.length : Int)) = true := decide_eq_true (by omega)
          clear hacc hit hsm
          go_wp2_with fail
          go_ret
          exact ⟨rfl, hbwa⟩
        · have cr : decide ((1000 : Int) < (it.raw.length : Int)) = false := decide_eq_false (by omega)
          have hfa := (hin.flds.below hbw (Nat.le_refl _)).below hba (Nat.le_refl _)
          have MU := Lib.hid (much_any it.fields _ _ hfa hin.len hin.each)
          have ACC := Lib.hid hacc
          have hul : (its.take k).length ≤ 60 := by rw [List.length_take]; omega
          have BX := Lib.hid (Cells.new wr 42 #[.int .i64 it.kind, .string (B it.raw), .slice fa it.fields.length fc])
          have HSM := Lib.hid hsm
          have HIN := Lib.hid hin
          have HFA := Lib.hid hfa
          clear hacc hit hsm hin hfa
          go_wp2_with fail
          refine MU.out.mono ?_
          rintro e w2 ⟨⟨mb, rfl, hmb⟩, b2⟩
          have hb2 := hbwa.trans (b2.mono (by simp; omega))
          cases mb with
          | true =>
            clear hmb ACC MU
            go_wp2_with fail
            go_ret
            exact ⟨rfl, hb2⟩
          | false =>
            obtain ⟨nf, _, _⟩ := hmb rfl
            clear hmb
            have bx2 := cells_kept BX.out b2 (by simp)
            have d2 : w2.cell? ⟨wr.heap.size, 2, none⟩ = some (.slice fa it.fields.length fc) := bx2.cell 2
            have lz2 := bx2.lt
            have hr2 : Below wr.heap.size wr w2 := hba.trans (b2.mono (by simp))
            have hz2w := hb2.size
            have CO := Lib.hid (copies_own it.fields _ w2 (HFA.out.below b2 (Nat.le_refl _)) HIN.out.nil (by omega))
            have BX2 := Lib.hid bx2
            clear BX bx2 MU b2 HFA
            go_wp2_with fail
            refine CO.out.mono ?_
            rintro e w3 ⟨x, rfl, hx, b3⟩
            obtain ⟨xa, xc, hxe, _⟩ := own_slice hx
            subst hxe
            have bx3 := cells_kept BX2.out b3 lz2
            have hz3 := b3.size
            have hb3 := hb2.trans (b3.mono hz2w)
            have d2' : w3.cell? ⟨wr.heap.size, 2, none⟩ = some (.slice fa it.fields.length fc) := bx3.cell 2
            have f2' := bx3.frozen 2
            have lz3 := bx3.lt
            have hr3 : Below wr.heap.size wr w3 := hr2.trans (b3.mono (by omega))
            have hr4 : Below wr.heap.size wr (w3.setCell ⟨wr.heap.size, 2, none⟩ (.slice xa it.fields.length xc)) := hr3.setCell (p := ⟨wr.heap.size, 2, none⟩) (Nat.le_refl _) _
            have hb4 : Below w.heap.size w (w3.setCell ⟨wr.heap.size, 2, none⟩ (.slice xa it.fields.length xc)) := hb3.setCell (p := ⟨wr.heap.size, 2, none⟩) hzw _
            have hacc4 := ACC.out.kept hr4
            have hx4 : (w3.setCell ⟨wr.heap.size, 2, none⟩ (.slice xa it.fields.length xc)).ownsRow w1.heap.size 73 2 (.slice xa it.fields.length xc) it.fields.length (cellsF it.fields) :=
              row_cell (p := ⟨wr.heap.size, 2, none⟩) (rowBase hx (by omega)) (fun e => by have h9 : w2.heap.size ≤ wr.heap.size := (hx.lt _ e).1; omega) _
            have bx4 : Cells (w3.setCell ⟨wr.heap.size, 2, none⟩ (.slice xa it.fields.length xc)) wr.heap.size 42 #[.int .i64 it.kind, .string (B it.raw), .slice xa it.fields.length xc] := by
              simpa using bx3.set 2 (.slice xa it.fields.length xc)
            have e0 : (w3.setCell ⟨wr.heap.size, 2, none⟩ (.slice xa it.fields.length xc)).cell? ⟨wr.heap.size, 0, none⟩ = some (.int .i64 it.kind) := bx4.cell 0
            have e1 : (w3.setCell ⟨wr.heap.size, 2, none⟩ (.slice xa it.fields.length xc)).cell? ⟨wr.heap.size, 1, none⟩ = some (.string (B it.raw)) := bx4.cell 1
            have e2 : (w3.setCell ⟨wr.heap.size, 2, none⟩ (.slice xa it.fields.length xc)).cell? ⟨wr.heap.size, 2, none⟩ = some (.slice xa it.fields.length xc) := bx4.cell 2
            have hrow := hacc4.row
            have hz14 := hacc4.below.size
            have HACC := Lib.hid hacc4
            have HX := Lib.hid hx4
            have hv := cells_new_add (w3.setCell ⟨wr.heap.size, 2, none⟩ (.slice xa it.fields.length xc)) 42 [.int .i64 it.kind, .string (B it.raw), .slice xa it.fields.length xc]
            rw [show (w3.setCell ⟨wr.heap.size, 2, none⟩ (.slice xa it.fields.length xc)).heap.size = w3.heap.size by simp [World.setCell]] at hv hz14
            have HV := Lib.hid hv
            clear hv
            clear hacc4 hx4 hx bx3 bx4 CO b3 BX2 ACC HIN hr2 hr3 hr4
            go_wp2_with (at_builtin; refine wpList_append_own _ rfl _ _ 23 rfl w1.heap.size 42 i0 _ 3 48 Tryd.underlying23 hi hz0 hz1 hz2 rfl (by decide) _ _ _ rfl (hrow.alloc _) ⟨w3.heap.size, 0, none⟩ 1 1 _ rfl rfl HV.out ?c2 ?c3 ?c4 ?c5 ?_)
            case c2 => intro u hu; simp at hu; rcases hu with rfl | rfl | rfl <;> rfl
            case c3 => unfold maxLen; omega
            case c4 => omega
            case c5 => simp [World.setCell]; omega
            intro v' w5 hown' hgrow _
            have hlk : (its.take k).length = k := by rw [List.length_take]; omega
            have hown2 : w5.ownsRow w1.heap.size 42 3 v' ((its.take k).length + 1) (itemsCells (its.take k) fvs ++ [.int .i64 it.kind, .string (B it.raw), .slice xa it.fields.length xc]) := by rw [hlk]; exact hown'
            have hacc5 := HACC.out.snoc HX.out hown2 _ hgrow
            clear hown2 hlk
            obtain ⟨g', cap5, rfl⟩ := ownsRow_succ hown'
            go_wp2_with fail
            go_roundw
            case rel =>
              refine ⟨k + 1, _, hlt, by go_num, by rw [TK.out]; exact hacc5, fun y hy => ?_⟩
              rw [TK.out] at hy
              rcases List.mem_append.1 hy with hy | hy
              · exact HSM.out y hy
              · rw [List.mem_singleton.1 hy]; exact ⟨by omega, nf⟩
            case measure => simp [intOf]; omega
      · obtain rfl : k = its.length := by omega
        rw [List.take_length] at hacc hsm
        obtain ⟨wm, hwm⟩ : ∃ wm, wm = wr := ⟨wr, rfl⟩
        subst hwm
        obtain ⟨ua, uc, hue, _⟩ := own_slice hacc.row
        subst hue
        have hzw := hbw.size
        have MI := Lib.hid hacc.its
        have sm1 : ∀ it ∈ its, it.fields.length ≤ 1000000 := fun it hi => by have := (hsm it hi).2; omega
        have sm2 : ∀ it ∈ its, it.raw.length ≤ 100000 := fun it hi => by have := (hsm it hi).1; omega
        have sm3 : ∀ r ∈ recs its, r.length ≤ 1000000 := fun r hr => by
          unfold recs at hr
          obtain ⟨it, hi, rfl⟩ := List.mem_map.1 hr
          exact sm1 it (List.mem_filter.1 hi).1
        have SM1 := Lib.hid sm1
        have SM2 := Lib.hid sm2
        have SM3 := Lib.hid sm3
        have rl := recs_len its
        have ST := Lib.hid (stanzas_any its _ wm hacc.its hacc.nil (by omega) sm1)
        have OI := Lib.hid (fun w' (hb : Below w.heap.size w w') => HS.out.is_.below hb (Nat.le_refl _))
        clear hacc hsm sm1 sm2 sm3 acc0 HS
        go_wp2_with fail
        refine ST.out.mono ?_
        rintro e w4 ⟨p, vs, rfl, ap⟩
        obtain ⟨pa, pc, hpe, hpl⟩ := own_slice ap.row
        subst hpe
        have hb4 := hbw.trans (ap.below.mono hzw)
        have hzr4 := ap.below.size
        have AP := Lib.hid ap
        have RS := Lib.hid (refStanzas_any its _ w4 (OI.out _ hb4) (by omega))
        have hvl := ap.len
        have HB4 := Lib.hid ap.below
        clear ap ST
        go_wp2_with fail
        refine RS.out.mono ?_
        rintro e w5 ⟨q, vs', rfl, ar⟩
        obtain ⟨qa, qc, hqe, _⟩ := own_slice ar.row
        subst hqe
        have hz4 := hb4.size
        have hb5 := hb4.trans (ar.below.mono hz4)
        have hr5 : Below wm.heap.size wm w5 := HB4.out.trans (ar.below.mono hzr4)
        have hz5 := hb5.size
        have hzr5 := hr5.size
        have RP := Lib.hid (AP.out.rws.below ar.below (Nat.le_refl _))
        have RR := Lib.hid ar.rws
        have hb45 := Lib.hid ar.below
        have hvl' := ar.len
        rw [hvl] at RP
        rw [hvl'] at RR
        have J1 := Lib.hid (join_any its _ w5 (MI.out.below hr5 (Nat.le_refl _)) (by omega) SM2.out)
        clear ar RS
        go_wp2_with fail
        refine J1.out.mono ?_
        rintro e w6 ⟨rfl, b6⟩
        have hb6 := hb5.trans (b6.mono hz5)
        have hz6 := hb6.size
        have J2 := Lib.hid (refJoin_any its _ w6 (OI.out _ hb6) (by omega) SM2.out)
        have hb56 := Lib.hid b6
        have hz56 := b6.size
        clear J1 b6
        go_wp2_with fail
        refine J2.out.mono ?_
        rintro e w7 ⟨rfl, b7⟩
        have hb7 := hb6.trans (b7.mono hz6)
        have hz7 := hb7.size
        have b57 : Below w5.heap.size w5 w7 := hb56.out.trans (b7.mono hz56)
        have RQ := Lib.hid (rows_quiet (recs its) _ _ w7 (RP.out.below b57 (Nat.le_refl _)) (RR.out.below b57 (Nat.le_refl _)) (by omega) SM3.out)
        have b47 : Below w4.heap.size w4 w7 := hb45.out.trans (b57.mono hb45.out.size)
        have AP7 := Lib.hid (AP.out.kept b47)
        have hr7 : Below wm.heap.size wm w7 := hr5.trans (b57.mono hzr5)
        clear J2 b7 RP RR AP b57 b47 hb56 hb45
        go_wp2_with fail
        refine RQ.out.mono ?_
        rintro e w8 ⟨rfl, m, hw8⟩
        have hb8 : Below w.heap.size w w8 := by rw [hw8]; exact drewN_below hb7 m
        have hr8 : Below wm.heap.size wm w8 := by rw [hw8]; exact drewN_below hr7 m
        have AP8 : Hid (AccP wm w8 (.slice pa (recs its).length pc) vs (recs its)) := by
          show AccP _ _ _ _ _
          rw [hw8, ← hvl]
          exact AP7.out.kept (drewN_below (Below.refl _ _) m)
        have hz8 := hb8.size
        have hzr8 := hr8.size
        clear RQ AP7 hw8
        go_wp2_with fail
        go_loopw [57] (fun i wr => ∃ k : Nat, k ≤ (recs its).length ∧ i = .int .i64 k ∧ Spoilt wm.heap.size w8 wr) (fun i _ => (recs its).length - (intOf i).toNat)
        case atStart => exact ⟨0, Nat.zero_le _, rfl, Spoilt.refl _ _⟩
        case round =>
          obtain ⟨k, hk, rfl, hsp⟩ := hrel
          by_cases hlt : k < (recs its).length
          · have row8 := AP8.out.row
            rw [← hvl] at row8
            have hk60 : (recs its).length ≤ 60 := by omega
            obtain ⟨x, hx⟩ : ∃ x, vs[k]? = some x := ⟨_, List.getElem?_eq_getElem (by omega)⟩
            obtain ⟨r, hr⟩ : ∃ r, (recs its)[k]? = some r := ⟨_, List.getElem?_eq_getElem hlt⟩
            have hxr := AP8.out.each k x r hx hr
            have hrl := SM3.out r (List.mem_of_getElem? hr)
            have hM := (mine_of_own hxr).spoilt hsp
            obtain ⟨xa, xc, hxe, _⟩ := own_slice hxr
            subst hxe
            rcases row8.2 with ⟨q1, q2⟩ | ⟨g, cap8, cur8, q1, q2, q3, q4, q5, q6, q7⟩
            · omega
            · injection q1 with q1a q1b q1c
              subst q1a q1c
              have q3' : wr.heap[g]? = some (.cells cur8 40 (0, 0)) := by
                rcases hsp.same g _ q3 with h | ⟨_, c1, c2, h, _⟩
                · exact h
                · injection h with _ h2 _
                  exact absurd h2 (by decide)
              have hcw : Cells wr g 40 cur8 := q3'
              have e8 : w8.cell? ⟨g, k, none⟩ = some (.slice xa r.length xc) := by
                have := World.ownsRow.cellAt row8 k (show k < vs.length * 1 by omega)
                rw [this]; exact hx
              have hc8 : cur8[k]? = some (.slice xa r.length xc) := by rw [← (show Cells w8 g 40 cur8 from q3).cell k]; exact e8
              have ck : wr.cell? ⟨g, k, none⟩ = some (.slice xa r.length xc) := (hcw.cell k).trans hc8
              have SP := Lib.hid (spoil_any r.length wm.heap.size _ wr hM hrl)
              have HSP := Lib.hid hsp
              have hgl := hcw.lt
              clear hM hxr hx hr row8 q2 q3 q3' q4 q5 q6 q7 hsp hc8 e8 hvl hvl' hcw rl SM1 SM2 SM3 OI MI HB4
              go_wp2_with fail
              refine SP.out.mono ?_
              rintro e w9 ⟨rfl, s9⟩
              go_wp2_with fail
              go_roundw
              case rel => exact ⟨k + 1, hlt, by go_num, HSP.out.trans s9⟩
              case measure => simp [intOf]; omega
          · obtain rfl : k = (recs its).length := by omega
            have hbq := hsp.below hzr8
            have hr9 : Below wm.heap.size wm wr := hr8.trans hbq
            have hb9 : Below w.heap.size w wr := hb8.trans (hbq.mono hzw)
            have IQ := Lib.hid (items_quiet its _ _ wr (MI.out.below hr9 (Nat.le_refl _)) (OI.out _ hb9) (by omega) SM1.out)
            clear hsp hbq AP8
            go_wp2_with fail
            refine IQ.out.mono ?_
            rintro e w9 ⟨rfl, m9, hw9⟩
            go_wp2_with fail
            go_ret
            exact ⟨rfl, by first | exact drewN_below hb9 m9 | (rw [hw9]; exact drewN_below hb9 m9)⟩
set_option maxRecDepth 100000 in
theorem joinsCall {H : Type} {enc : TypeId × Value → H} (v : Value) (d : DataW H) (p : List MemPlace) (W : World) {b0 : Nat} (hval : Value.okWide Tryd.prog W .any b0 23 v) {base : Nat} {sp : Nat → Bool} {held : Bool} (h : DataW.Trod enc Tryd.prog W base sp held 23 v d p) :
    Calls Tryd.prog 5 #[v] W fun e w' => e = .returned (.bool true) ∧ Below W.heap.size W w' := by
  obtain ⟨n, hn⟩ := h
  obtain ⟨ao, len, cap, rfl⟩ := okWide_slice Tryd.underlying23 hval
  obtain ⟨its, hf⟩ := items_in (v := .slice ao len cap) hn
  exact joinsLaw its _ W hf
end Go.Proofs.YtngngamfceoklaaDoor
