/- PrintApart's walk. -/
import Derived.Test.YtafgebodmhkghaaDoorBase4
set_option linter.unusedVariables false
namespace Go.Proofs.YtafgebodmhkghaaDoor
open Go.RowKit Go.Shelf Go.ChangeShapes Go.WideShapes

def Slim (it : It) : Prop := it.raw.length ≤ 1000 ∧ it.fields.length ≤ 61 ∧ ∀ f ∈ it.fields, f.1.length ≤ 6000 ∧ f.2.length ≤ 6000
set_option maxRecDepth 100000 in
set_option maxHeartbeats 16000000 in
theorem apartLaw6 (its : List It) (v : Value) (w : World) (hs : ItsIn w v its) :
    Calls Tryd.prog 6 #[v] w fun e w' => e = .returned (.bool true) ∧ Below w.heap.size w w' := by
  have HS := Lib.hid hs
  obtain ⟨⟨A, cap, rfl, hle, _⟩, hlen, _, _⟩ := id hs
  unfold maxLen at hlen
  obtain ⟨i0, hi, hz0, hz1, hz2⟩ := info_parts infoItem
  clear hs
  by_cases hlong : 60 < its.length
  · go_enter Tryd.func6, Tryd.ntmps6
    go_wp2_with fail
    refine (alive6_any _).mono ?_
    rintro e w1 ⟨rfl, b1⟩
    go_wp2_with fail
    go_ret
    exact ⟨rfl, b1⟩
  · go_enter Tryd.func6, Tryd.ntmps6
    go_wp2_with fail
    refine (alive6_any _).mono ?_
    rintro e w1 ⟨rfl, b1⟩
    have hzq1 := b1.size
    have CELL : Hid (∀ (k : Nat) (it : It), its[k]? = some it → ∃ b off fa fc, Value.slice A its.length cap = .slice (some ⟨b, off, none⟩) its.length cap ∧ b < w.heap.size ∧ FldsIn w (.slice fa it.fields.length fc) it.fields ∧ ∀ W, Below w.heap.size w W → W.cell? ⟨b, off + k * 3, none⟩ = some (.int .i64 it.kind) ∧ W.cell? ⟨b, off + k * 3 + 1, none⟩ = some (.string (B it.raw)) ∧ W.cell? ⟨b, off + k * 3 + 1 + 1, none⟩ = some (.slice fa it.fields.length fc)) := by
      intro k it hit
      obtain ⟨b, off, cap', fa, fc, e, hbb, c0, c1, c2, hin⟩ := HS.out.here hit
      cases e
      exact ⟨b, off, fa, fc, rfl, hbb, hin, fun W hW => ⟨(hW.cell (p := ⟨b, off + k * 3, none⟩) hbb).trans c0, (hW.cell (p := ⟨b, off + k * 3 + 1, none⟩) hbb).trans c1, (hW.cell (p := ⟨b, off + k * 3 + 1 + 1, none⟩) hbb).trans c2⟩⟩
    go_wp2_with fail
    go_loopw [20] (fun i wr => ∃ k : Nat, k ≤ its.length ∧ i = .int .i64 k ∧ (∀ it ∈ its.take k, Slim it) ∧ Below w1.heap.size w1 wr) (fun i _ => its.length - (intOf i).toNat)
    case atStart => exact ⟨0, Nat.zero_le _, rfl, (fun it hi => by simp at hi), Below.refl _ _⟩
    case round =>
      obtain ⟨k, hk, rfl, hsm, hb⟩ := hrel
      have hbw := b1.trans (hb.mono hzq1)
      have hzw := hbw.size
      by_cases hlt : k < its.length
      · obtain ⟨it, hit⟩ : ∃ it, its[k]? = some it := ⟨_, List.getElem?_eq_getElem hlt⟩
        obtain ⟨b, off, fa, fc, e, hbb, hin, cc⟩ := CELL.out k it hit
        cases e
        obtain ⟨c0, c1, c2⟩ := cc wr hbw
        have zr := B_size it.raw
        have rl := HS.out.raw it (List.mem_of_getElem? hit)
        unfold maxLen at rl
        have hba := (Below.refl wr.heap.size wr).alloc (Nat.le_refl _) (.cells #[.int .i64 it.kind, .string (B it.raw), .slice fa it.fields.length fc] 43)
        have hbwa := hbw.trans (hba.mono hzw)
        have hzb := hb.size
        have hb1a := hb.trans (hba.mono hzb)
        have TK := Lib.hid (show its.take (k + 1) = its.take k ++ [it] by rw [List.take_add_one, hit]; rfl)
        by_cases hraw : 1000 < it.raw.length
        · have cr : decide ((1000 : Int) < (it.raw.length : Int)) = true := decide_eq_true (by omega)
          clear hit hsm cc hin
          go_wp2_with fail
          go_ret
          exact ⟨rfl, hbwa⟩
        · have cr : decide ((1000 : Int) < (it.raw.length : Int)) = false := decide_eq_false (by omega)
          have hfa := (hin.flds.below hbw (Nat.le_refl _)).below hba (Nat.le_refl _)
          have MU := Lib.hid (much_any it.fields _ _ hfa hin.len hin.each)
          have HSM := Lib.hid hsm
          clear hit hsm cc hin hfa
          go_wp2_with fail
          refine MU.out.mono ?_
          rintro e w2 ⟨⟨mb, rfl, hmb⟩, b2⟩
          have hb2 := hbwa.trans (b2.mono (by simp; omega))
          have hb12 := hb1a.trans (b2.mono (by simp; omega))
          cases mb with
          | true =>
            clear hmb MU
            go_wp2_with fail
            go_ret
            exact ⟨rfl, hb2⟩
          | false =>
            obtain ⟨nf, nf2, _⟩ := hmb rfl
            have NF2 := Lib.hid nf2
            clear hmb MU nf2
            go_wp2_with fail
            go_roundw
            case rel =>
              refine ⟨k + 1, hlt, by go_num, fun y hy => ?_, hb12⟩
              rw [TK.out] at hy
              rcases List.mem_append.1 hy with hy | hy
              · exact HSM.out y hy
              · rw [List.mem_singleton.1 hy]; exact ⟨by omega, nf, NF2.out⟩
            case measure => simp [intOf]; omega
      · obtain rfl : k = its.length := by omega
        rw [List.take_length] at hsm
        obtain ⟨wm, hwm⟩ : ∃ wm, wm = wr := ⟨wr, rfl⟩
        subst hwm
        have SL := Lib.hid hsm
        have sf : ∀ it ∈ its, it.fields.length ≤ 1000000 := fun it hi => by have := (hsm it hi).2.1; omega
        have sr : ∀ it ∈ its, it.raw.length ≤ 100000 := fun it hi => by have := (hsm it hi).1; omega
        have SF := Lib.hid sf
        have SR := Lib.hid sr
        have al := apart_len its
        have OI := Lib.hid (fun W (hW : Below w.heap.size w W) => HS.out.is_.below hW (Nat.le_refl _))
        have NI := Lib.hid (fun W (hW : Below w.heap.size w W) => HS.out.nilI hW)
        have AP := Lib.hid (apart_any its _ wm (OI.out wm hbw) (NI.out wm hbw) (by omega) sf)
        clear hsm sf sr
        go_wp2_with fail
        refine AP.out.mono ?_
        rintro e w4 ⟨u, fvs, rfl, acc⟩
        obtain ⟨ua, uc, hue, hul⟩ := own_slice acc.row
        subst hue
        have hb4 := hbw.trans (acc.below.mono hzw)
        have hz4 := hb4.size
        have hzm4 := acc.below.size
        have ACC := Lib.hid acc
        have RA := Lib.hid (refApart_any its _ w4 (OI.out w4 hb4) (by omega))
        clear acc AP
        go_wp2_with fail
        refine RA.out.mono ?_
        rintro e w5 ⟨u', fvs', rfl, acc'⟩
        obtain ⟨ua', uc', hue, _⟩ := own_slice acc'.row
        subst hue
        have b45 := acc'.below
        have hb5 := hb4.trans (b45.mono hz4)
        have hz45 := b45.size
        have IQ := Lib.hid (items_quiet (apartL its) _ _ w5 (ACC.out.its.below b45 (Nat.le_refl _)) acc'.its (by omega) (apart_fields SF.out))
        clear acc' RA
        go_wp2_with fail
        refine IQ.out.mono ?_
        rintro e w6 ⟨rfl, m6, hw6⟩
        have b46 : Below w4.heap.size w4 w6 := by rw [hw6]; exact drewN_below b45 m6
        have hb6 := hb4.trans (b46.mono hz4)
        have hz6 := hb6.size
        have hz46 := b46.size
        have RE := Lib.hid (render_any its _ w6 (OI.out w6 hb6) (NI.out w6 hb6) (by omega) SF.out SR.out)
        clear IQ hw6 b45 hb5 hz45
        go_wp2_with fail
        refine RE.out.mono ?_
        rintro e w7 ⟨rfl, b7⟩
        have b47 := b46.trans (b7.mono hz46)
        have hb7 := hb6.trans (b7.mono hz6)
        have hz7 := hb7.size
        have hz47 := b47.size
        have RR := Lib.hid (refRender_any its _ w7 (OI.out w7 hb7) (by omega) SR.out)
        clear RE b7 b46
        go_wp2_with fail
        refine RR.out.mono ?_
        rintro e w8 ⟨rfl, b8⟩
        have b48 := b47.trans (b8.mono hz47)
        have hb8 := hb7.trans (b8.mono hz7)
        have hz8 := hb8.size
        have hz48 := b48.size
        clear RR b8 b47
        generalize B ((apartL its).flatMap It.raw) = X at *
        go_wp2_with fail
        go_loopw [50] (fun i wr => ∃ k : Nat, k ≤ its.length ∧ i = .int .i64 k ∧ Below w8.heap.size w8 wr) (fun i _ => its.length - (intOf i).toNat)
        case atStart => exact ⟨0, Nat.zero_le _, rfl, Below.refl _ _⟩
        case round =>
          obtain ⟨k, hk, rfl, hb9⟩ := hrel
          have hbw9 := hb8.trans (hb9.mono hz8)
          have hz9 := hb9.size
          have hzw9 := hbw9.size
          by_cases hlt : k < its.length
          · obtain ⟨it, hit⟩ : ∃ it, its[k]? = some it := ⟨_, List.getElem?_eq_getElem hlt⟩
            obtain ⟨b, off, fa, fc, e, hbb, hin, cc⟩ := CELL.out k it hit
            cases e
            obtain ⟨c0, c1, c2⟩ := cc wr hbw9
            obtain ⟨s1, s2, s3⟩ := SL.out it (List.mem_of_getElem? hit)
            have hba := (Below.refl wr.heap.size wr).alloc (Nat.le_refl _) (.cells #[.int .i64 it.kind, .string (B it.raw), .slice fa it.fields.length fc] 43)
            have BX := Lib.hid (Cells.new wr 43 #[.int .i64 it.kind, .string (B it.raw), .slice fa it.fields.length fc])
            have hl2 : ∀ f ∈ it.fields, f.1.length ≤ 100000 ∧ f.2.length ≤ 100000 := fun f hf => by have := s3 f hf; omega
            have HFL := Lib.hid (fun W (hW : Below w.heap.size w W) => hin.flds.below hW (Nat.le_refl _))
            have HL2 := Lib.hid hl2
            have hfl2 : it.fields.length ≤ 1000 := by omega
            clear hit cc hin s3 hl2 CELL
            go_upto_region 17 with fail
            have hzwb : (wr.alloc (.cells #[.int .i64 it.kind, .string (B it.raw), .slice fa it.fields.length fc] 43)).heap.size = wr.heap.size + 1 := by simp
            generalize wr.alloc (.cells #[.int .i64 it.kind, .string (B it.raw), .slice fa it.fields.length fc] 43) = wb at *
            have hbwb := hbw9.trans (hba.mono hzw9)
            have hzwb2 := hbwb.size
            have PLN := Lib.hid (fun W (hB : Below wb.heap.size wb W) => plainIt_any it.kind it.raw it.fields (.slice fa it.fields.length fc) W (HFL.out W (hbwb.trans (hB.mono hzwb2))) (by omega) HL2.out)
            have RPL := Lib.hid (fun W (hB : Below wb.heap.size wb W) => refPlainIt_any it.kind it.raw it.fields (.slice fa it.fields.length fc) W (HFL.out W (hbwb.trans (hB.mono hzwb2))) hfl2 HL2.out)
            have HH := Lib.hid (show ∀ W, Below wb.heap.size wb W → (Below wb.heap.size wb W ∧ W.cell? ⟨wr.heap.size, 0, none⟩ = some (.int .i64 it.kind) ∧ W.cell? ⟨wr.heap.size, 1, none⟩ = some (.string (B it.raw)) ∧ W.cell? ⟨wr.heap.size, 2, none⟩ = some (.slice fa it.fields.length fc)) from fun W hB =>
              have hX := cells_kept BX.out hB (by omega)
              ⟨hB, hX.cell 0, hX.cell 1, hX.cell 2⟩)
            have hb9b := hb9.trans (hba.mono hz9)
            clear c0 c1 c2 HFL BX
            generalize plainB it.kind it.raw it.fields = pb at *
            go_region_held3 (fun W => Below wb.heap.size wb W ∧ W.cell? ⟨wr.heap.size, 0, none⟩ = some (.int .i64 it.kind) ∧ W.cell? ⟨wr.heap.size, 1, none⟩ = some (.string (B it.raw)) ∧ W.cell? ⟨wr.heap.size, 2, none⟩ = some (.slice fa it.fields.length fc)) ((refine HH.out _ ?_; repeat (first | exact Below.refl _ _ | assumption | (refine Below.drew ?_) | (refine held_alloc ?_) | (refine held_call ?_ (by assumption))))) ((first | (go_at_call 29; refine (PLN.out _ ?_).mono ?_; (focus (repeat (first | exact Below.refl _ _ | assumption | (refine Below.drew ?_) | (refine held_alloc ?_) | (refine held_call ?_ (by assumption))))); rintro e wp1 ⟨rfl, hbp1⟩) | (go_at_call 38; refine (RPL.out _ ?_).mono ?_; (focus (repeat (first | exact Below.refl _ _ | assumption | (refine Below.drew ?_) | (refine held_alloc ?_) | (refine held_call ?_ (by assumption))))); rintro e wp2 ⟨rfl, hbp2⟩)))
            all_goals go_wp2_with fail
            all_goals
              refine ⟨⟨k + 1, hlt, by go_num, hb9b.trans (Below.mono (B := wb.heap.size) ?_ (by have := hb9b.size; omega))⟩, by simp [intOf]; omega⟩
              repeat (first | exact Below.refl _ _ | assumption | (refine Below.drew ?_) | (refine held_alloc ?_) | (refine held_call ?_ (by assumption)))
          · obtain rfl : k = its.length := by omega
            obtain ⟨wq, hwq⟩ : ∃ wq, wq = wr := ⟨wr, rfl⟩
            subst hwq
            have b4q := b48.trans (hb9.mono hz48)
            have hz4q := b4q.size
            clear hb9 b48
            go_wp2_with fail
            have acc0 : AccM wq (wq.alloc (.cells #[] 43)) (.slice (some ⟨wq.heap.size, 0, none⟩) 0 0) [] [] :=
              ⟨World.ownsRow_lit wq #[] 0 (Nat.le_refl _) (by decide) rfl, rfl, fun j it x h => by simp at h, (Below.refl _ _).alloc (Nat.le_refl _) _⟩
            go_loopw [8, 63] (fun u i wr => ∃ (k : Nat) (gvs : List Value), k ≤ its.length ∧ i = .int .i64 k ∧ AccM wq wr u gvs (its.take k)) (fun _ i _ => its.length - (intOf i).toNat)
            case atStart => exact ⟨0, [], Nat.zero_le _, rfl, acc0⟩
            case round =>
              obtain ⟨k, gvs, hk, rfl, hacc⟩ := hrel
              have hbwr := hbw9.trans (hacc.below.mono hzw9)
              have hzwr := hbwr.size
              have hzqr := hacc.below.size
              by_cases hlt : k < its.length
              · obtain ⟨it, hit⟩ : ∃ it, its[k]? = some it := ⟨_, List.getElem?_eq_getElem hlt⟩
                obtain ⟨b, off, fa, fc, e, hbb, hin, cc⟩ := CELL.out k it hit
                cases e
                obtain ⟨c0, c1, c2⟩ := cc wr hbwr
                obtain ⟨s1, s2, s3⟩ := SL.out it (List.mem_of_getElem? hit)
                have hbl := Nat.lt_of_lt_of_le hbb hbwr.size
                have hba := (Below.refl wr.heap.size wr).alloc (Nat.le_refl _) (.cells #[.int .i64 it.kind, .string (B it.raw), .slice fa it.fields.length fc] 43)
                have hbwa := hbwr.trans (hba.mono hzwr)
                have TK := Lib.hid (show its.take (k + 1) = its.take k ++ [it] by rw [List.take_add_one, hit]; rfl)
                have ACK := Lib.hid hacc
                have BX := Lib.hid (Cells.new wr 43 #[.int .i64 it.kind, .string (B it.raw), .slice fa it.fields.length fc])
                have hul3 : (its.take k).length ≤ 60 := by rw [List.length_take]; omega
                have CO := Lib.hid (copies_own it.fields (.slice fa it.fields.length fc) (wr.alloc (.cells #[.int .i64 it.kind, .string (B it.raw), .slice fa it.fields.length fc] 43)) (hin.flds.below hbwa (Nat.le_refl _)) hin.nil (by omega))
                have d2 : (wr.alloc (.cells #[.int .i64 it.kind, .string (B it.raw), .slice fa it.fields.length fc] 43)).cell? ⟨wr.heap.size, 2, none⟩ = some (.slice fa it.fields.length fc) := BX.out.cell 2
                clear hacc hit hin cc s3
                go_wp2_with fail
                refine CO.out.mono ?_
                rintro e w3 ⟨x, rfl, hx, b3⟩
                obtain ⟨xa, xc, hxe, _⟩ := own_slice hx
                subst hxe
                have bx3 := cells_kept BX.out b3 (by simp)
                have hz3 := b3.size
                simp only [World.size_alloc] at hz3
                have d2' : w3.cell? ⟨wr.heap.size, 2, none⟩ = some (.slice fa it.fields.length fc) := bx3.cell 2
                have f2' := bx3.frozen 2
                have lz3 := bx3.lt
                have hr3 : Below wr.heap.size wr w3 := hba.trans (b3.mono (by simp))
                have hr4 : Below wr.heap.size wr (w3.setCell ⟨wr.heap.size, 2, none⟩ (.slice xa it.fields.length xc)) := hr3.setCell (p := ⟨wr.heap.size, 2, none⟩) (Nat.le_refl _) _
                have hacc4 := ACK.out.kept hr4
                have hx4 : (w3.setCell ⟨wr.heap.size, 2, none⟩ (.slice xa it.fields.length xc)).ownsRow wq.heap.size 83 2 (.slice xa it.fields.length xc) it.fields.length (cellsF it.fields) :=
                  row_cell (p := ⟨wr.heap.size, 2, none⟩) (rowBase hx (by simp; omega)) (fun e => by have h9 := (hx.lt _ e).1; simp at h9; omega) _
                have bx4 : Cells (w3.setCell ⟨wr.heap.size, 2, none⟩ (.slice xa it.fields.length xc)) wr.heap.size 43 #[.int .i64 it.kind, .string (B it.raw), .slice xa it.fields.length xc] := by
                  simpa using bx3.set 2 (.slice xa it.fields.length xc)
                have e0 : (w3.setCell ⟨wr.heap.size, 2, none⟩ (.slice xa it.fields.length xc)).cell? ⟨wr.heap.size, 0, none⟩ = some (.int .i64 it.kind) := bx4.cell 0
                have e1 : (w3.setCell ⟨wr.heap.size, 2, none⟩ (.slice xa it.fields.length xc)).cell? ⟨wr.heap.size, 1, none⟩ = some (.string (B it.raw)) := bx4.cell 1
                have e2 : (w3.setCell ⟨wr.heap.size, 2, none⟩ (.slice xa it.fields.length xc)).cell? ⟨wr.heap.size, 2, none⟩ = some (.slice xa it.fields.length xc) := bx4.cell 2
                have hrow := hacc4.row
                have hz14 := hacc4.below.size
                have HACC := Lib.hid hacc4
                have HX := Lib.hid hx4
                have hv := cells_new_add (w3.setCell ⟨wr.heap.size, 2, none⟩ (.slice xa it.fields.length xc)) 43 [.int .i64 it.kind, .string (B it.raw), .slice xa it.fields.length xc]
                rw [show (w3.setCell ⟨wr.heap.size, 2, none⟩ (.slice xa it.fields.length xc)).heap.size = w3.heap.size by simp [World.setCell]] at hv hz14
                have HV := Lib.hid hv
                clear hv
                clear hacc4 hx4 hx bx3 bx4 CO b3 BX ACK hr3 hr4
                go_wp2_with (at_builtin; refine wpList_append_own _ rfl _ _ 23 rfl wq.heap.size 43 i0 _ 3 48 Tryd.underlying23 hi hz0 hz1 hz2 rfl (by decide) _ _ _ rfl (hrow.alloc _) ⟨w3.heap.size, 0, none⟩ 1 1 _ rfl rfl HV.out (by intro u hu; simp at hu; rcases hu with rfl | rfl | rfl <;> rfl) (by unfold maxLen; omega) (by omega) (by first | omega | (simp [World.setCell]; omega)) ?_)
                intro v' w5' hown' hgrow _
                have hlk : (its.take k).length = k := by rw [List.length_take]; omega
                have hown2 : w5'.ownsRow wq.heap.size 43 3 v' ((its.take k).length + 1) (itemsCells (its.take k) gvs ++ [.int .i64 it.kind, .string (B it.raw), .slice xa it.fields.length xc]) := by rw [hlk]; exact hown'
                have hacc5 := HACC.out.snoc HX.out hown2 _ hgrow
                clear hown2 hlk
                obtain ⟨g', cap5, rfl⟩ := ownsRow_succ hown'
                go_wp2_with fail
                go_roundw
                case rel => exact ⟨k + 1, _, hlt, by go_num, by rw [TK.out]; exact hacc5⟩
                case measure => simp [intOf]; omega
              · obtain rfl : k = its.length := by omega
                rw [List.take_length] at hacc
                obtain ⟨wt, hwt⟩ : ∃ wt, wt = wr := ⟨wr, rfl⟩
                subst hwt
                obtain ⟨ta, tc, hte, _⟩ := own_slice hacc.row
                subst hte
                have b4t := b4q.trans (hacc.below.mono hz4q)
                have ACW := Lib.hid hacc
                have ACT := Lib.hid (ACC.out.kept b4t)
                have hzt : wm.heap.size ≤ wt.heap.size := by have := b4t.size; omega
                clear hacc acc0 CELL OI NI
                go_wp2_with fail
                go_loopw [78] (fun i wr => ∃ k : Nat, k ≤ (apartL its).length ∧ i = .int .i64 k ∧ Spoils (fun r => wm.heap.size ≤ r ∧ r < w4.heap.size) wt wr) (fun i _ => (apartL its).length - (intOf i).toNat)
                case atStart => exact ⟨0, Nat.zero_le _, rfl, Spoils.refl _ _⟩
                case round =>
                  obtain ⟨k, hk, rfl, hsp⟩ := hrel
                  by_cases hlt : k < (apartL its).length
                  · obtain ⟨it, hit⟩ : ∃ it, (apartL its)[k]? = some it := ⟨_, List.getElem?_eq_getElem hlt⟩
                    obtain ⟨g, gcap, fv, cur, e, hfv, hC, q0, q1, q2⟩ := ACT.out.cellAt hit
                    cases e
                    have hCr := hsp.kept hC (by decide)
                    have c0 : wr.cell? ⟨g, k * 3, none⟩ = some (.int .i64 it.kind) := (hCr.cell _).trans q0
                    have c1 : wr.cell? ⟨g, k * 3 + 1, none⟩ = some (.string (B it.raw)) := (hCr.cell _).trans q1
                    have c2 : wr.cell? ⟨g, k * 3 + 1 + 1, none⟩ = some fv := (hCr.cell _).trans q2
                    have hgl := hCr.lt
                    have hrow4 := ACC.out.each k it fv hit hfv
                    have hnf := apart_fields SF.out it (List.mem_of_getElem? hit)
                    have hM : MineP wr (fun r => wm.heap.size ≤ r ∧ r < w4.heap.size) fv it.fields.length :=
                      ((minep_of_own hrow4 (fun r h1 h2 => ⟨h1, h2⟩)).below b4t (Nat.le_refl _)).spoils hsp
                    obtain ⟨fa, fc, hfe, _⟩ := own_slice hrow4
                    subst hfe
                    have hM2 := hM.below ((Below.refl wr.heap.size wr).alloc (Nat.le_refl _) (.cells #[.int .i64 it.kind, .string (B it.raw), .slice fa it.fields.length fc] 43)) (Nat.le_refl _)
                    have SP := Lib.hid (spoilP_any it.fields.length _ _ _ hM2 hnf)
                    have HSP := Lib.hid (hsp.alloc (.cells #[.int .i64 it.kind, .string (B it.raw), .slice fa it.fields.length fc] 43))
                    clear hM hM2 hrow4 hit hfv hC hCr q0 q1 q2 hsp ACC ACT ACW SF SR SL HS
                    go_wp2_with fail
                    refine SP.out.mono ?_
                    rintro e w9' ⟨rfl, s9⟩
                    go_wp2_with fail
                    go_roundw
                    case rel => exact ⟨k + 1, hlt, by go_num, HSP.out.trans s9⟩
                    case measure => simp [intOf]; omega
                  · obtain rfl : k = (apartL its).length := by omega
                    have hbt : Below w.heap.size w wr := hbwr.trans (hsp.below (fun r h => by omega) (by omega))
                    have WAS := ACW.out.itsSpoils hsp (fun r h => by omega)
                    have IQ := Lib.hid (items_quiet its _ _ wr (HS.out.is_.below hbt (Nat.le_refl _)) WAS (by omega) SF.out)
                    clear hsp WAS ACC ACT ACW
                    go_wp2_with fail
                    refine IQ.out.mono ?_
                    rintro e w9' ⟨rfl, m9, hw9⟩
                    go_wp2_with fail
                    go_ret
                    exact ⟨rfl, by first | exact drewN_below hbt m9 | (rw [hw9]; exact drewN_below hbt m9)⟩
set_option maxRecDepth 100000 in
theorem apartCall6 {H : Type} {enc : TypeId × Value → H} (v : Value) (d : DataW H) (p : List MemPlace) (W : World) {b0 : Nat} (hval : Value.okWide Tryd.prog W .any b0 23 v) {base : Nat} {sp : Nat → Bool} {held : Bool} (h : DataW.Trod enc Tryd.prog W base sp held 23 v d p) :
    Calls Tryd.prog 6 #[v] W fun e w' => e = .returned (.bool true) ∧ Below W.heap.size W w' := by
  obtain ⟨n, hn⟩ := h
  obtain ⟨ao, len, cap, rfl⟩ := okWide_slice Tryd.underlying23 hval
  obtain ⟨its, hi⟩ := items_in (v := .slice ao len cap) hn
  exact apartLaw6 its _ W hi
end Go.Proofs.YtafgebodmhkghaaDoor
