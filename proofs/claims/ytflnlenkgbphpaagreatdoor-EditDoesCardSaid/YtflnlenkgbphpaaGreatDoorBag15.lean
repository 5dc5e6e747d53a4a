/- Texts put together: QH, NY. -/
import Derived.Test.YtflnlenkgbphpaaGreatDoorBaf1
import Derived.Test.YtflnlenkgbphpaaGreatDoorBaf2
import Derived.Test.YtflnlenkgbphpaaGreatDoorBaf3
import Derived.Test.YtflnlenkgbphpaaGreatDoorBaf4
import Derived.Test.YtflnlenkgbphpaaGreatDoorBaf5
import Derived.Test.YtflnlenkgbphpaaGreatDoorBaf6
import Derived.Test.YtflnlenkgbphpaaGreatDoorBaf7
import Derived.Test.YtflnlenkgbphpaaGreatDoorBaf8
import Derived.Test.YtflnlenkgbphpaaGreatDoorBaf9
import Derived.Test.YtflnlenkgbphpaaGreatDoorBaf10
import Derived.Test.YtflnlenkgbphpaaGreatDoorBaf11
import Derived.Test.YtflnlenkgbphpaaGreatDoorBaf12
import Derived.Test.YtflnlenkgbphpaaGreatDoorBaf13
import Derived.Test.YtflnlenkgbphpaaGreatDoorBaf14
import Derived.Test.YtflnlenkgbphpaaGreatDoorBaf15
import Derived.Test.YtflnlenkgbphpaaGreatDoorBaf16
import Derived.Test.YtflnlenkgbphpaaGreatDoorBaf17
import Derived.Test.YtflnlenkgbphpaaGreatDoorBaf18
import Derived.Test.YtflnlenkgbphpaaGreatDoorBag1
import Derived.Test.YtflnlenkgbphpaaGreatDoorBag2
import Derived.Test.YtflnlenkgbphpaaGreatDoorBag5
import Derived.Test.YtflnlenkgbphpaaGreatDoorBag6
import Derived.Test.YtflnlenkgbphpaaGreatDoorBag11
import Derived.Test.YtflnlenkgbphpaaGreatDoorBag12
import Derived.Test.YtflnlenkgbphpaaGreatDoorBag13
import Derived.Test.YtflnlenkgbphpaaGreatDoorBag14
set_option linter.unusedVariables false
namespace Go.Proofs.YtflnlenkgbphpaaGreatDoor
open Go.RowKit Go.Shelf

theorem take_no {t : List UInt8} {p : PS} {x : Ln} {a n : Nat} (h : takeP t p x = .error (a, n)) : n ≠ 0 ∧ n ≤ 11 := by
  unfold takeP at h
  split at h
  · rename_i hc
    cases h
    exact ⟨hc.2, endFieldN_le _⟩
  · split at h
    · cases h; exact ⟨by decide, by decide⟩
    · cases h
theorem run_no (t : List UInt8) : ∀ (xs : List Ln) (p : PS) (a n : Nat), runP t p xs = .error (a, n) → n ≠ 0 ∧ n ≤ 11
  | [], p, a, n, h => by cases h
  | x :: xs, p, a, n, h => by
    have h' : (match takeP t p x with | .error e => Except.error e | .ok q => runP t q xs) = .error (a, n) := h
    cases ht : takeP t p x with
    | error e =>
      rw [ht] at h'
      cases h'
      exact take_no ht
    | ok q =>
      rw [ht] at h'
      exact run_no t xs q a n h'
theorem parse_no {t : List UInt8} {a n : Nat} (h : parseL t = .error (a, n)) : n ≠ 0 ∧ n ≤ 11 := by
  unfold parseL at h
  cases hr : runP t PS.new (linesOf t) with
  | error e =>
    rw [hr] at h
    cases h
    exact run_no t _ _ _ _ hr
  | ok p =>
    rw [hr] at h
    dsimp only at h
    unfold lastP at h
    split at h
    · rename_i hc
      cases h
      exact ⟨hc, endFieldN_le _⟩
    · cases h
theorem refParsedNo {w w' : World} {t : List UInt8} {e : Ending} {a n : Nat} (h : RefParsed w t e w') (hp : parseL t = .error (a, n)) : Below w.heap.size w w' ∧ e = .returned (.tuple #[.slice none 0 0, .int .i64 (a : Nat), .int .i64 (n : Nat)]) := by
  obtain ⟨h1, h2⟩ := h
  rw [← parse_ref, hp] at h2
  exact ⟨h1, h2⟩
theorem refParsedOwn {w w' : World} {t : List UInt8} {e : Ending} {its : List It} (h : RefParsed w t e w') (hp : parseL t = .ok its) : Below w.heap.size w w' ∧ ∃ v, e = .returned (.tuple #[v, .int .i64 (-9), .int .i64 0]) ∧ Its w' v its ∧ Fresh w.heap.size w' v its := by
  obtain ⟨h1, h2⟩ := h
  rw [← parse_ref, hp] at h2
  exact ⟨h1, h2⟩
end Go.Proofs.YtflnlenkgbphpaaGreatDoor

namespace Go.Proofs.YtflnlenkgbphpaaGreatDoor
open Go.RowKit Go.Shelf
attribute [local go_sem] Oper.semAt_some

/-- What the document's Of comes to. -/
def RefOfR (w : World) (t : List UInt8) (e : Ending) (w' : World) : Prop :=
  Below w.heap.size w w' ∧ match parseL t with
    | .error (a, n) => e = .returned (.tuple #[.agg #[.slice none 0 0, .int .i64 0], .int .i64 (a : Nat), .int .i64 (n : Nat)])
    | .ok its => ∃ v qs, e = .returned (.tuple #[.agg #[v, .int .i64 (fromL its).next], .int .i64 (-9), .int .i64 0]) ∧ EntsQ w' v qs ∧ qs.map Prod.fst = (fromL its).es ∧ (∀ b, v.ownBlock = some b → w.heap.size ≤ b) ∧ (∀ q ∈ qs, ∀ b, q.2.ownBlock = some b → w.heap.size ≤ b)
theorem AccQ.next {w wr : World} {ob : Nat} {v : Value} {ps : List Pr} {nx : Int} (h : AccQ w wr ob v ps nx) (n : Int) : AccQ w (wr.setCell ⟨ob, 1, none⟩ (.int .i64 n)) ob v ps n := by
  refine ⟨?_, row_cell h.row h.ne _, h.below.setCell (p := ⟨ob, 1, none⟩) h.lo _, h.lo⟩
  have := h.head.set 1 (.int .i64 n)
  simpa [List.setIfInBounds_toArray, List.set] using this
theorem from_take {its : List It} {k : Nat} {it : It} (h : its[k]? = some it) : fromOn 1 (its.take (k + 1)) = fromOn 1 (its.take k) ++ [(it, if it.kind = 3 then fromNext 1 (its.take k) else 0)] ∧ fromNext 1 (its.take (k + 1)) = if it.kind = 3 then fromNext 1 (its.take k) + 1 else fromNext 1 (its.take k) := by
  have e : its.take (k + 1) = its.take k ++ [it] := by rw [List.take_add_one, h]; rfl
  rw [e]; exact from_snoc 1 _ it
set_option maxRecDepth 100000 in
set_option maxHeartbeats 4000000 in
theorem refOf7_any (s : ByteArray) (hs : s.size ≤ 60000) (w : World) : Calls Tryz.prog 46 #[.string s] w fun e w' => RefOfR w s.data.toList e w' := by
  obtain ⟨W1, hW1⟩ : ∃ W1, W1 = w.alloc (.cells #[.slice none 0 0, .int .i64 0] 43) := ⟨_, rfl⟩
  have b1 : Below w.heap.size w W1 := by rw [hW1]; exact (Below.refl _ w).alloc (Nat.le_refl _) _
  have BX := Lib.hid (show Cells W1 w.heap.size 43 #[.slice none 0 0, .int .i64 0] by rw [hW1]; exact Cells.new _ _ _)
  have PA := Lib.hid (refParse_any s hs W1)
  have HB1 := Lib.hid b1
  have hz1 := b1.size
  have hw1 : W1.heap.size = w.heap.size + 1 := by rw [hW1]; simp
  have HW1 := Lib.hid hw1
  clear b1 hw1
  go_enter Tryz.func46, Tryz.ntmps46
  go_wp2_with fail
  rw [← hW1]
  clear hW1
  refine PA.out.mono ?_
  rintro e w2 hP
  clear PA
  cases hp : parseL s.data.toList with
  | error an =>
    obtain ⟨a, n⟩ := an
    obtain ⟨b2, rfl⟩ := refParsedNo hP hp
    have hn : n ≠ 0 := (parse_no hp).1
    have D1 := cells_kept BX.out b2 BX.out.lt
    have HB2 := Lib.hid (HB1.out.trans (b2.mono hz1))
    have c0 := D1.cell 0
    have c1 := D1.cell 1
    have f0 := D1.frozen 0
    have f1 := D1.frozen 1
    simp only [List.getElem?_toArray, List.getElem?_cons_zero, List.getElem?_cons_succ] at c0 c1
    have hnz : ((n : Int) != 0) = true := bne_iff_ne.2 (by omega)
    have HD := Lib.hid D1
    have HP := Lib.hid hp
    clear hP b2 hp D1
    go_wp2_with fail
    have RE := ((HD.out.set 0 (.slice none 0 0)).set 1 (.int .i64 0))
    rw [set2] at RE
    refine bodyPost_ret (ret_q3 rfl _ _ w.heap.size _ rfl RE rfl) rfl ?_
    refine ⟨(HB2.out.setCell (p := ⟨w.heap.size, 0, none⟩) (Nat.le_refl _) _).setCell (p := ⟨w.heap.size, 1, none⟩) (Nat.le_refl _) _, ?_⟩
    rw [HP.out]; rfl
  | ok its =>
    obtain ⟨b2, v, rfl, _, fvs, hrow, hfl, heach⟩ := refParsedOwn hP hp
    have hjl := (parse_join hp).2.1
    rw [← Lib.size_eq] at hjl
    have HB2 := Lib.hid (HB1.out.trans (b2.mono hz1))
    have D1 := Lib.hid (cells_kept BX.out b2 BX.out.lt)
    have hz2 := HB2.out.size
    have hz12 := b2.size
    have hwlt : w.heap.size < w2.heap.size := by have := D1.out.lt; omega
    obtain ⟨va, vc, rfl, _⟩ := own_slice hrow
    have HROW := Lib.hid hrow
    have HFL := Lib.hid hfl
    have HEA := Lib.hid heach
    have HP := Lib.hid hp
    obtain ⟨i0, hi, hy0, hy1, hy2⟩ := info_parts infoQ
    have hnn : ((0 : Int) != 0) = false := by decide
    clear hP hp b2 hrow hfl heach BX
    go_wp2_with fail
    go_loopw [9] (fun i wr => ∃ (k : Nat) (u : Value) (qs : List Pr), k ≤ its.length ∧ i = .int .i64 k ∧ AccQ w2 wr w2.heap.size u qs (fromNext 1 (its.take k)) ∧ qs.map Prod.fst = fromOn 1 (its.take k) ∧ (∀ q ∈ qs, Flds w2 q.2 q.1.1.fields ∧ ∀ b, q.2.ownBlock = some b → W1.heap.size ≤ b)) (fun i _ => its.length - (intOf i).toNat)
    case atStart => exact ⟨0, _, [], Nat.zero_le _, rfl, AccQ.start w2 1, rfl, fun q h => by cases h⟩
    case round =>
      obtain ⟨k, u, qs, hk, rfl, hacc, hqs, hmem⟩ := hrel
      have hb := hacc.below
      have hzr := hb.size
      have g0 : wr.cell? ⟨w2.heap.size, 0, none⟩ = some u := hacc.head.cell 0
      have g1 : wr.cell? ⟨w2.heap.size, 1, none⟩ = some (.int .i64 (fromNext 1 (its.take k))) := hacc.head.cell 1
      have gf0 := hacc.head.frozen 0
      have gf1 := hacc.head.frozen 1
      have hql : qs.length ≤ its.length := by
        have h1 := congrArg List.length hqs
        rw [List.length_map, from_len, List.length_take] at h1
        omega
      have hnx := from_next 1 (its.take k)
      rw [List.length_take] at hnx
      obtain ⟨ua, uc, rfl, _⟩ := own_slice hacc.row
      by_cases hlt : k < its.length
      · obtain ⟨it, hit⟩ : ∃ it, its[k]? = some it := ⟨_, List.getElem?_eq_getElem hlt⟩
        obtain ⟨x, hx⟩ : ∃ x, fvs[k]? = some x := ⟨_, List.getElem?_eq_getElem (by rw [HFL.out]; exact hlt)⟩
        have hxr := HEA.out k it x hit hx
        obtain ⟨xa, xc, rfl, _⟩ := own_slice hxr
        have hrow := HROW.out
        obtain ⟨g, cg, hug⟩ := Joins.ownsRow_form hrow (by omega)
        obtain ⟨a0, a1, a2⟩ := itemsCells_at its fvs k it _ hit hx
        rw [hug] at hrow
        have hgl : g < w2.heap.size := (World.ownsRow.lt hrow g rfl).2
        have d0 : wr.cell? ⟨g, k * 3, none⟩ = some (.int .i64 it.kind) := (hb.cell (p := ⟨g, k * 3, none⟩) hgl).trans (by rw [World.ownsRow.cellAt hrow (k * 3) (by omega), a0])
        have d1 : wr.cell? ⟨g, k * 3 + 1, none⟩ = some (.string (B it.raw)) := (hb.cell (p := ⟨g, k * 3 + 1, none⟩) hgl).trans (by rw [World.ownsRow.cellAt hrow (k * 3 + 1) (by omega), a1])
        have d2 : wr.cell? ⟨g, k * 3 + 1 + 1, none⟩ = some (.slice xa it.fields.length xc) := (hb.cell (p := ⟨g, k * 3 + 1 + 1, none⟩) hgl).trans (by rw [World.ownsRow.cellAt hrow (k * 3 + 1 + 1) (by omega), a2])
        obtain ⟨e1, e2⟩ := from_take hit
        have E1 := Lib.hid e1
        have E2 := Lib.hid e2
        have ACC := Lib.hid hacc
        have HQS := Lib.hid hqs
        have HM := Lib.hid hmem
        have HXF : Hid (Flds w2 (.slice xa it.fields.length xc) it.fields ∧ ∀ b, (Value.slice xa it.fields.length xc).ownBlock = some b → W1.heap.size ≤ b) := ⟨flds_of_own hxr, fun b e => (hxr.lt b e).1⟩
        injection hug with q1 _ q3
        subst q1 q3
        have hgr : g < wr.heap.size := by omega
        have hob : w2.heap.size < wr.heap.size := hacc.head.lt
        generalize fromNext 1 (its.take k) = nx at *
        clear hacc hqs hmem hit hx hxr hrow a0 a1 a2 e1 e2
        by_cases hk3 : it.kind = 3
        · have hb3 : ((it.kind : Int) == 3) = true := by rw [hk3]; decide
          obtain ⟨kd, raw, fs⟩ := it
          dsimp only at *
          subst hk3
          have hwn : IntKind.i64.wrap (nx + 1) = nx + 1 := IntWalk.i64_in _ (by omega)
          replace E1 := Lib.hid (E1.out.trans (by rw [if_pos rfl]))
          replace E2 := Lib.hid (E2.out.trans (if_pos rfl))
          obtain ⟨wa, hwa⟩ : ∃ wa, wa = (wr.setCell ⟨w2.heap.size, 1, none⟩ (.int .i64 (nx + 1))).alloc (.cells #[.int .i64 3, .string (B raw), .slice xa fs.length xc, .int .i64 nx] 104) := ⟨_, rfl⟩
          have ACA := Lib.hid (show AccQ w2 wa w2.heap.size (.slice ua qs.length uc) qs (nx + 1) by rw [hwa]; exact ((ACC.out.next _).alloc _))
          have hrow := ACA.out.row
          have hza : wa.heap.size = wr.heap.size + 1 := by rw [hwa]; simp [World.setCell]
          have hv := cells_new_add wa 104 [.int .i64 3, .string (B raw), .slice xa fs.length xc, .int .i64 nx]
          rw [hza] at hv
          have HV := Lib.hid hv
          have HZA := Lib.hid hza
          clear hv hza
          subst hwa
          go_wp2_with (at_builtin; refine wpList_append_own _ rfl _ _ 41 rfl w2.heap.size 104 i0 _ 4 56 Tryz.underlying41 hi hy0 hy1 hy2 rfl (by decide) _ _ _ rfl (hrow.alloc _) ⟨wr.heap.size + 1, 0, none⟩ 1 1 _ rfl rfl HV.out ?c2 ?c3 ?c4 ?c5 ?_)
          case c2 => exact ⟨rfl, rfl, rfl, rfl⟩
          case c3 => unfold maxLen; omega
          case c4 => omega
          case c5 => first | omega | (simp [World.setCell]; omega)
          intro v' w6 hown' hgrow _
          have acc6 := (ACA.out.alloc (.cells #[.int .i64 3, .string (B raw), .slice xa fs.length xc, .int .i64 nx] 104)).grow (p := ((⟨3, raw, fs⟩, nx), .slice xa fs.length xc)) hown' hgrow
          have h6 := (ACA.out.alloc (.cells #[.int .i64 3, .string (B raw), .slice xa fs.length xc, .int .i64 nx] 104)).grown_head hgrow
          have q0 := h6.cell 0
          have qf0 := h6.frozen 0
          simp only [List.getElem?_toArray, List.getElem?_cons_zero] at q0
          have A6 := Lib.hid acc6
          obtain ⟨g', cap', rfl⟩ := ownsRow_succ hown'
          clear acc6 h6 hown' hgrow
          go_wp2_with fail
          refine ⟨⟨k + 1, _, qs ++ [((⟨3, raw, fs⟩, nx), .slice xa fs.length xc)], hlt, by go_num, by rw [E2.out]; exact A6.out, by rw [E1.out, List.map_append, HQS.out]; rfl, fun q hq => ?_⟩, by simp [intOf]; omega⟩
          rcases List.mem_append.1 hq with hq | hq
          · exact HM.out q hq
          · rw [List.mem_singleton.1 hq]; exact HXF.out
        · have hb3 : ((it.kind : Int) == 3) = false := beq_eq_false_iff_ne.2 hk3
          replace E1 := Lib.hid (E1.out.trans (by rw [if_neg hk3]))
          replace E2 := Lib.hid (E2.out.trans (if_neg hk3))
          obtain ⟨kd, raw, fs⟩ := it
          dsimp only at *
          clear hk3
          obtain ⟨wa, hwa⟩ : ∃ wa, wa = wr.alloc (.cells #[.int .i64 kd, .string (B raw), .slice xa fs.length xc, .int .i64 0] 104) := ⟨_, rfl⟩
          have ACA := Lib.hid (show AccQ w2 wa w2.heap.size (.slice ua qs.length uc) qs nx by rw [hwa]; exact (ACC.out.alloc _))
          have hrow := ACA.out.row
          have hza : wa.heap.size = wr.heap.size + 1 := by rw [hwa]; simp
          have hv := cells_new_add wa 104 [.int .i64 kd, .string (B raw), .slice xa fs.length xc, .int .i64 0]
          rw [hza] at hv
          have HV := Lib.hid hv
          have HZA := Lib.hid hza
          clear hv hza
          subst hwa
          go_wp2_with (at_builtin; refine wpList_append_own _ rfl _ _ 41 rfl w2.heap.size 104 i0 _ 4 56 Tryz.underlying41 hi hy0 hy1 hy2 rfl (by decide) _ _ _ rfl (hrow.alloc _) ⟨wr.heap.size + 1, 0, none⟩ 1 1 _ rfl rfl HV.out ?c2 ?c3 ?c4 ?c5 ?_)
          case c2 => exact ⟨rfl, rfl, rfl, rfl⟩
          case c3 => unfold maxLen; omega
          case c4 => omega
          case c5 => first | omega | (simp [World.setCell]; omega)
          intro v' w6 hown' hgrow _
          have acc6 := (ACA.out.alloc (.cells #[.int .i64 kd, .string (B raw), .slice xa fs.length xc, .int .i64 0] 104)).grow (p := ((⟨kd, raw, fs⟩, 0), .slice xa fs.length xc)) hown' hgrow
          have h6 := (ACA.out.alloc (.cells #[.int .i64 kd, .string (B raw), .slice xa fs.length xc, .int .i64 0] 104)).grown_head hgrow
          have q0 := h6.cell 0
          have qf0 := h6.frozen 0
          simp only [List.getElem?_toArray, List.getElem?_cons_zero] at q0
          have A6 := Lib.hid acc6
          obtain ⟨g', cap', rfl⟩ := ownsRow_succ hown'
          clear acc6 h6 hown' hgrow
          go_wp2_with fail
          refine ⟨⟨k + 1, _, qs ++ [((⟨kd, raw, fs⟩, 0), .slice xa fs.length xc)], hlt, by go_num, by rw [E2.out]; exact A6.out, by rw [E1.out, List.map_append, HQS.out]; rfl, fun q hq => ?_⟩, by simp [intOf]; omega⟩
          rcases List.mem_append.1 hq with hq | hq
          · exact HM.out q hq
          · rw [List.mem_singleton.1 hq]; exact HXF.out
      · obtain rfl : k = its.length := by omega
        rw [List.take_length] at hacc hqs
        have D2 := cells_kept D1.out hb (by omega)
        have r0 := D2.cell 0
        have r1 := D2.cell 1
        have f0 := D2.frozen 0
        have f1 := D2.frozen 1
        simp only [List.getElem?_toArray, List.getElem?_cons_zero, List.getElem?_cons_succ] at r0 r1
        rw [List.take_length] at g1
        have RE := ((D2.set 0 (.slice ua qs.length uc)).set 1 (.int .i64 (fromNext 1 its)))
        rw [set2] at RE
        have HRE := Lib.hid RE
        have ACC := Lib.hid hacc
        have HQS := Lib.hid hqs
        have HM := Lib.hid hmem
        have HBW := Lib.hid (HB2.out.trans (hb.mono hz2))
        have hne : (Value.slice ua qs.length uc).ownBlock ≠ some w.heap.size := fun e => by have := (hacc.row.lt _ e).1; omega
        have HNE := Lib.hid hne
        generalize hfn : fromNext 1 its = nx at *
        have HFN := Lib.hid hfn
        clear hfn
        clear hacc hqs hmem D2 RE hne hb
        go_wp2_with fail
        refine bodyPost_ret (ret_q3 rfl _ _ w.heap.size _ rfl HRE.out rfl) rfl ?_
        refine ⟨(HBW.out.setCell (p := ⟨w.heap.size, 0, none⟩) (Nat.le_refl _) _).setCell (p := ⟨w.heap.size, 1, none⟩) (Nat.le_refl _) _, ?_⟩
        rw [HP.out]
        have hon : Only (· = w.heap.size) w2 ((wr.setCell ⟨w.heap.size, 0, none⟩ (.slice ua qs.length uc)).setCell ⟨w.heap.size, 1, none⟩ (.int .i64 nx)) := ((Only.of_below ACC.out.below (Nat.le_refl _)).cellS 0 _).cellS 1 _
        have hw1 := HW1.out
        refine ⟨.slice ua qs.length uc, qs, by rw [show (fromL its).next = nx from HFN.out]; rfl, ⟨row_cell (row_cell (rowBase ACC.out.row (Nat.zero_le _)) HNE.out _) HNE.out _, fun q hq => (HM.out q hq).1.only hon (fun _ b e q2 => by have := (HM.out q hq).2 b e; omega)⟩, HQS.out, fun b e => by have := (ACC.out.row.lt b e).1; omega, fun q hq b e => by have := (HM.out q hq).2 b e; omega⟩
end Go.Proofs.YtflnlenkgbphpaaGreatDoor

