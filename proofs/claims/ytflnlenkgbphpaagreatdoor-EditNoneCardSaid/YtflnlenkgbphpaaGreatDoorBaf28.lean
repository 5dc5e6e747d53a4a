/- Texts put together: NY, EU. -/
import Derived.Test.YtflnlenkgbphpaaGreatDoorBaf2
import Derived.Test.YtflnlenkgbphpaaGreatDoorBaf11
import Derived.Test.YtflnlenkgbphpaaGreatDoorBaf18
import Derived.Test.YtflnlenkgbphpaaGreatDoorBaf27
set_option linter.unusedVariables false
namespace Go.Proofs.YtflnlenkgbphpaaGreatDoor
open Go.RowKit Go.Shelf
attribute [local go_sem] Oper.semAt_some

/-- What the document's Of comes to. -/
def RefOfR (w : World) (t : List UInt8) (e : Ending) (w' : World) : Prop :=
  Below w.heap.size w w' ∧ match parseL t with
    | .error (a, n) => e = .returned (.tuple #[.agg #[.slice none 0 0, .int .i64 0], .int .i64 (a : Nat), .int .i64 (n : Nat)])
    | .ok its => ∃ v qs, e = .returned (.tuple #[.agg #[v, .int .i64 (fromL its).next], .int .i64 (-9), .int .i64 0]) ∧ EntsQ w' v qs ∧ qs.map Prod.fst = (fromL its).es ∧ (∀ b, v.ownBlock = some b → w.heap.size ≤ b) ∧ (∀ q ∈ qs, ∀ b, q.2.ownBlock = some b → w.heap.size ≤ b)
theorem AccQ.next {w wr : World} {ob : Nat} {v : Value} {ps : List Pr} {nx : Int} (h : AccQ w wr ob v ps nx) (n : Int) : AccQ w (wr.setCell ⟨ob, 1, none⟩ (.int .i64 n)) ob v ps n := by
  refine ⟨?_, row_cell h.row h.ne _, h.below.setCell (p := ⟨ob, 1, none⟩) h.lo _, h.lo⟩
  have := h.head.set 1 (.int .i64 n)
  simpa [List.setIfInBounds_toArray, List.set] using this
theorem from_take {its : List It} {k : Nat} {it : It} (h : its[k]? = some it) : fromOn 1 (its.take (k + 1)) = fromOn 1 (its.take k) ++ [(it, if it.kind = 3 then fromNext 1 (its.take k) else 0)] ∧ fromNext 1 (its.take (k + 1)) = if it.kind = 3 then fromNext 1 (its.take k) + 1 else fromNext 1 (its.take k) := by
  have e : its.take (k + 1) = its.take k ++ [it] := by rw [List.take_add_one, h]; rfl
  rw [e]; exact from_snoc 1 _ it
set_option maxRecDepth 100000 in
set_option maxHeartbeats 4000000 in
theorem refOf7_any (s : ByteArray) (hs : s.size ≤ 60000) (w : World) : Calls Tryz.prog 46 #[.string s] w fun e w' => RefOfR w s.data.toList e w' := by
  obtain ⟨W1, hW1⟩ : ∃ W1, W1 = w.alloc (.cells #[.slice none 0 0, .int .i64 0] 43) := ⟨_, rfl⟩
  have b1 : Below w.heap.size w W1 := by rw [hW1]; exact (Below.refl _ w).alloc (Nat.le_refl _) _
  have BX := Lib.hid (show Cells W1 w.heap.size 43 #[.slice none 0 0, .int .i64 0] by rw [hW1]; exact Cells.new _ _ _)
  have PA := Lib.hid (refParse_any s hs W1)
  have HB1 := Lib.hid b1
  have hz1 := b1.size
  have hw1 : W1.heap.size = w.heap.size + 1 := by rw [hW1]; simp
  have HW1 := Lib.hid hw1
  clear b1 hw1
  go_enter Tryz.func46, Tryz.ntmps46
  go_wp2_with fail
  rw [← hW1]
  clear hW1
  refine PA.out.mono ?_
  rintro e w2 hP
  clear PA
  cases hp : parseL s.data.toList with
  | error an =>
    obtain ⟨a, n⟩ := an
    obtain ⟨b2, rfl⟩ := refParsedNo hP hp
    have hn : n ≠ 0 := (parse_no hp).1
    have D1 := cells_kept BX.out b2 BX.out.lt
    have HB2 := Lib.hid (HB1.out.trans (b2.mono hz1))
    have c0 := D1.cell 0
    have c1 := D1.cell 1
    have f0 := D1.frozen 0
    have f1 := D1.frozen 1
    simp only [List.getElem?_toArray, List.getElem?_cons_zero, List.getElem?_cons_succ] at c0 c1
    have hnz : ((n : Int) != 0) = true := bne_iff_ne.2 (by omega)
    have HD := Lib.hid D1
    have HP := Lib.hid hp
    clear hP b2 hp D1
    go_wp2_with fail
    have RE := ((HD.out.set 0 (.slice none 0 0)).set 1 (.int .i64 0))
    rw [set2] at RE
    refine bodyPost_ret (ret_q3 rfl _ _ w.heap.size _ rfl RE rfl) rfl ?_
    refine ⟨(HB2.out.setCell (p := ⟨w.heap.size, 0, none⟩) (Nat.le_refl _) _).setCell (p := ⟨w.heap.size, 1, none⟩) (Nat.le_refl _) _, ?_⟩
    rw [HP.out]; rfl
  | ok its =>
    obtain ⟨b2, v, rfl, _, fvs, hrow, hfl, heach⟩ := refParsedOwn hP hp
    have hjl := (parse_join hp).2.1
    rw [← Lib.size_eq] at hjl
    have HB2 := Lib.hid (HB1.out.trans (b2.mono hz1))
    have D1 := Lib.hid (cells_kept BX.out b2 BX.out.lt)
    have hz2 := HB2.out.size
    have hz12 := b2.size
    have hwlt : w.heap.size < w2.heap.size := by have := D1.out.lt; omega
    obtain ⟨va, vc, rfl, _⟩ := own_slice hrow
    have HROW := Lib.hid hrow
    have HFL := Lib.hid hfl
    have HEA := Lib.hid heach
    have HP := Lib.hid hp
    obtain ⟨i0, hi, hy0, hy1, hy2⟩ := info_parts infoQ
    have hnn : ((0 : Int) != 0) = false := by decide
    clear hP hp b2 hrow hfl heach BX
    go_wp2_with fail
    go_loopw [9] (fun i wr => ∃ (k : Nat) (u : Value) (qs : List Pr), k ≤ its.length ∧ i = .int .i64 k ∧ AccQ w2 wr w2.heap.size u qs (fromNext 1 (its.take k)) ∧ qs.map Prod.fst = fromOn 1 (its.take k) ∧ (∀ q ∈ qs, Flds w2 q.2 q.1.1.fields ∧ ∀ b, q.2.ownBlock = some b → W1.heap.size ≤ b)) (fun i _ => its.length - (intOf i).toNat)
    case atStart => exact ⟨0, _, [], Nat.zero_le _, rfl, AccQ.start w2 1, rfl, fun q h => by cases h⟩
    case round =>
      obtain ⟨k, u, qs, hk, rfl, hacc, hqs, hmem⟩ := hrel
      have hb := hacc.below
      have hzr := hb.size
      have g0 : wr.cell? ⟨w2.heap.size, 0, none⟩ = some u := hacc.head.cell 0
      have g1 : wr.cell? ⟨w2.heap.size, 1, none⟩ = some (.int .i64 (fromNext 1 (its.take k))) := hacc.head.cell 1
      have gf0 := hacc.head.frozen 0
      have gf1 := hacc.head.frozen 1
      have hql : qs.length ≤ its.length := by
        have h1 := congrArg List.length hqs
        rw [List.length_map, from_len, List.length_take] at h1
        omega
      have hnx := from_next 1 (its.take k)
      rw [List.length_take] at hnx
      obtain ⟨ua, uc, rfl, _⟩ := own_slice hacc.row
      by_cases hlt : k < its.length
      · obtain ⟨it, hit⟩ : ∃ it, its[k]? = some it := ⟨_, List.getElem?_eq_getElem hlt⟩
        obtain ⟨x, hx⟩ : ∃ x, fvs[k]? = some x := ⟨_, List.getElem?_eq_getElem (by rw [HFL.out]; exact hlt)⟩
        have hxr := HEA.out k it x hit hx
        obtain ⟨xa, xc, rfl, _⟩ := own_slice hxr
        have hrow := HROW.out
        obtain ⟨g, cg, hug⟩ := Joins.ownsRow_form hrow (by omega)
        obtain ⟨a0, a1, a2⟩ := itemsCells_at its fvs k it _ hit hx
        rw [hug] at hrow
        have hgl : g < w2.heap.size := (World.ownsRow.lt hrow g rfl).2
        have d0 : wr.cell? ⟨g, k * 3, none⟩ = some (.int .i64 it.kind) := (hb.cell (p := ⟨g, k * 3, none⟩) hgl).trans (by rw [World.ownsRow.cellAt hrow (k * 3) (by omega), a0])
        have d1 : wr.cell? ⟨g, k * 3 + 1, none⟩ = some (.string (B it.raw)) := (hb.cell (p := ⟨g, k * 3 + 1, none⟩) hgl).trans (by rw [World.ownsRow.cellAt hrow (k * 3 + 1) (by omega), a1])
        have d2 : wr.cell? ⟨g, k * 3 + 1 + 1, none⟩ = some (.slice xa it.fields.length xc) := (hb.cell (p := ⟨g, k * 3 + 1 + 1, none⟩) hgl).trans (by rw [World.ownsRow.cellAt hrow (k * 3 + 1 + 1) (by omega), a2])
        obtain ⟨e1, e2⟩ := from_take hit
        have E1 := Lib.hid e1
        have E2 := Lib.hid e2
        have ACC := Lib.hid hacc
        have HQS := Lib.hid hqs
        have HM := Lib.hid hmem
        have HXF : Hid (Flds w2 (.slice xa it.fields.length xc) it.fields ∧ ∀ b, (Value.slice xa it.fields.length xc).ownBlock = some b → W1.heap.size ≤ b) := ⟨flds_of_own hxr, fun b e => (hxr.lt b e).1⟩
        injection hug with q1 _ q3
        subst q1 q3
        have hgr : g < wr.heap.size := by omega
        have hob : w2.heap.size < wr.heap.size := hacc.head.lt
        generalize fromNext 1 (its.take k) = nx at *
        clear hacc hqs hmem hit hx hxr hrow a0 a1 a2 e1 e2
        by_cases hk3 : it.kind = 3
        · have hb3 : ((it.kind : Int) == 3) = true := by rw [hk3]; decide
          obtain ⟨kd, raw, fs⟩ := it
          dsimp only at *
          subst hk3
          have hwn : IntKind.i64.wrap (nx + 1) = nx + 1 := IntWalk.i64_in _ (by omega)
          replace E1 := Lib.hid (E1.out.trans (by rw [if_pos rfl]))
          replace E2 := Lib.hid (E2.out.trans (if_pos rfl))
          obtain ⟨wa, hwa⟩ : ∃ wa, wa = (wr.setCell ⟨w2.heap.size, 1, none⟩ (.int .i64 (nx + 1))).alloc (.cells #[.int .i64 3, .string (B raw), .slice xa fs.length xc, .int .i64 nx] 104) := ⟨_, rfl⟩
          have ACA := Lib.hid (show AccQ w2 wa w2.heap.size (.slice ua qs.length uc) qs (nx + 1) by rw [hwa]; exact ((ACC.out.next _).alloc _))
          have hrow := ACA.out.row
          have hza : wa.heap.size = wr.heap.size + 1 := by rw [hwa]; simp [World.setCell]
          have hv := cells_new_add wa 104 [.int .i64 3, .string (B raw), .slice xa fs.length xc, .int .i64 nx]
          rw [hza] at hv
          have HV := Lib.hid hv
          have HZA := Lib.hid hza
          clear hv hza
          subst hwa
          go_wp2_with (at_builtin; refine wpList_append_own _ rfl _ _ 41 rfl w2.heap.size 104 i0 _ 4 56 Tryz.underlying41 hi hy0 hy1 hy2 rfl (by decide) _ _ _ rfl (hrow.alloc _) ⟨wr.heap.size + 1, 0, none⟩ 1 1 _ rfl rfl HV.out ?c2 ?c3 ?c4 ?c5 ?_)
          case c2 => exact ⟨rfl, rfl, rfl, rfl⟩
          case c3 => unfold maxLen; omega
          case c4 => omega
          case c5 => first | omega | (simp [World.setCell]; omega)
          intro v' w6 hown' hgrow _
          have acc6 := (ACA.out.alloc (.cells #[.int .i64 3, .string (B raw), .slice xa fs.length xc, .int .i64 nx] 104)).grow (p := ((⟨3, raw, fs⟩, nx), .slice xa fs.length xc)) hown' hgrow
          have h6 := (ACA.out.alloc (.cells #[.int .i64 3, .string (B raw), .slice xa fs.length xc, .int .i64 nx] 104)).grown_head hgrow
          have q0 := h6.cell 0
          have qf0 := h6.frozen 0
          simp only [List.getElem?_toArray, List.getElem?_cons_zero] at q0
          have A6 := Lib.hid acc6
          obtain ⟨g', cap', rfl⟩ := ownsRow_succ hown'
          clear acc6 h6 hown' hgrow
          go_wp2_with fail
          refine ⟨⟨k + 1, _, qs ++ [((⟨3, raw, fs⟩, nx), .slice xa fs.length xc)], hlt, by go_num, by rw [E2.out]; exact A6.out, by rw [E1.out, List.map_append, HQS.out]; rfl, fun q hq => ?_⟩, by simp [intOf]; omega⟩
          rcases List.mem_append.1 hq with hq | hq
          · exact HM.out q hq
          · rw [List.mem_singleton.1 hq]; exact HXF.out
        · have hb3 : ((it.kind : Int) == 3) = false := beq_eq_false_iff_ne.2 hk3
          replace E1 := Lib.hid (E1.out.trans (by rw [if_neg hk3]))
          replace E2 := Lib.hid (E2.out.trans (if_neg hk3))
          obtain ⟨kd, raw, fs⟩ := it
          dsimp only at *
          clear hk3
          obtain ⟨wa, hwa⟩ : ∃ wa, wa = wr.alloc (.cells #[.int .i64 kd, .string (B raw), .slice xa fs.length xc, .int .i64 0] 104) := ⟨_, rfl⟩
          have ACA := Lib.hid (show AccQ w2 wa w2.heap.size (.slice ua qs.length uc) qs nx by rw [hwa]; exact (ACC.out.alloc _))
          have hrow := ACA.out.row
          have hza : wa.heap.size = wr.heap.size + 1 := by rw [hwa]; simp
          have hv := cells_new_add wa 104 [.int .i64 kd, .string (B raw), .slice xa fs.length xc, .int .i64 0]
          rw [hza] at hv
          have HV := Lib.hid hv
          have HZA := Lib.hid hza
          clear hv hza
          subst hwa
          go_wp2_with (at_builtin; refine wpList_append_own _ rfl _ _ 41 rfl w2.heap.size 104 i0 _ 4 56 Tryz.underlying41 hi hy0 hy1 hy2 rfl (by decide) _ _ _ rfl (hrow.alloc _) ⟨wr.heap.size + 1, 0, none⟩ 1 1 _ rfl rfl HV.out ?c2 ?c3 ?c4 ?c5 ?_)
          case c2 => exact ⟨rfl, rfl, rfl, rfl⟩
          case c3 => unfold maxLen; omega
          case c4 => omega
          case c5 => first | omega | (simp [World.setCell]; omega)
          intro v' w6 hown' hgrow _
          have acc6 := (ACA.out.alloc (.cells #[.int .i64 kd, .string (B raw), .slice xa fs.length xc, .int .i64 0] 104)).grow (p := ((⟨kd, raw, fs⟩, 0), .slice xa fs.length xc)) hown' hgrow
          have h6 := (ACA.out.alloc (.cells #[.int .i64 kd, .string (B raw), .slice xa fs.length xc, .int .i64 0] 104)).grown_head hgrow
          have q0 := h6.cell 0
          have qf0 := h6.frozen 0
          simp only [List.getElem?_toArray, List.getElem?_cons_zero] at q0
          have A6 := Lib.hid acc6
          obtain ⟨g', cap', rfl⟩ := ownsRow_succ hown'
          clear acc6 h6 hown' hgrow
          go_wp2_with fail
          refine ⟨⟨k + 1, _, qs ++ [((⟨kd, raw, fs⟩, 0), .slice xa fs.length xc)], hlt, by go_num, by rw [E2.out]; exact A6.out, by rw [E1.out, List.map_append, HQS.out]; rfl, fun q hq => ?_⟩, by simp [intOf]; omega⟩
          rcases List.mem_append.1 hq with hq | hq
          · exact HM.out q hq
          · rw [List.mem_singleton.1 hq]; exact HXF.out
      · obtain rfl : k = its.length := by omega
        rw [List.take_length] at hacc hqs
        have D2 := cells_kept D1.out hb (by omega)
        have r0 := D2.cell 0
        have r1 := D2.cell 1
        have f0 := D2.frozen 0
        have f1 := D2.frozen 1
        simp only [List.getElem?_toArray, List.getElem?_cons_zero, List.getElem?_cons_succ] at r0 r1
        rw [List.take_length] at g1
        have RE := ((D2.set 0 (.slice ua qs.length uc)).set 1 (.int .i64 (fromNext 1 its)))
        rw [set2] at RE
        have HRE := Lib.hid RE
        have ACC := Lib.hid hacc
        have HQS := Lib.hid hqs
        have HM := Lib.hid hmem
        have HBW := Lib.hid (HB2.out.trans (hb.mono hz2))
        have hne : (Value.slice ua qs.length uc).ownBlock ≠ some w.heap.size := fun e => by have := (hacc.row.lt _ e).1; omega
        have HNE := Lib.hid hne
        generalize hfn : fromNext 1 its = nx at *
        have HFN := Lib.hid hfn
        clear hfn
        clear hacc hqs hmem D2 RE hne hb
        go_wp2_with fail
        refine bodyPost_ret (ret_q3 rfl _ _ w.heap.size _ rfl HRE.out rfl) rfl ?_
        refine ⟨(HBW.out.setCell (p := ⟨w.heap.size, 0, none⟩) (Nat.le_refl _) _).setCell (p := ⟨w.heap.size, 1, none⟩) (Nat.le_refl _) _, ?_⟩
        rw [HP.out]
        have hon : Only (· = w.heap.size) w2 ((wr.setCell ⟨w.heap.size, 0, none⟩ (.slice ua qs.length uc)).setCell ⟨w.heap.size, 1, none⟩ (.int .i64 nx)) := ((Only.of_below ACC.out.below (Nat.le_refl _)).cellS 0 _).cellS 1 _
        have hw1 := HW1.out
        refine ⟨.slice ua qs.length uc, qs, by rw [show (fromL its).next = nx from HFN.out]; rfl, ⟨row_cell (row_cell (rowBase ACC.out.row (Nat.zero_le _)) HNE.out _) HNE.out _, fun q hq => (HM.out q hq).1.only hon (fun _ b e q2 => by have := (HM.out q hq).2 b e; omega)⟩, HQS.out, fun b e => by have := (ACC.out.row.lt b e).1; omega, fun q hq b e => by have := (HM.out q hq).2 b e; omega⟩
end Go.Proofs.YtflnlenkgbphpaaGreatDoor

namespace Go.Proofs.YtflnlenkgbphpaaGreatDoor
open Go.RowKit Go.Shelf
attribute [local go_sem] Oper.semAt_some

theorem wantU {ops : Array Oper} {o : Oper} {a : Act} {i d : Nat} {b : Bool} (hg : o.guard = some (i, b)) (hd : ((ops[i]?).bind (·.dst)) = some d) (h : a.tmps[d]? = some (.bool (!b))) : Region.wanted o (yielded ops a.tmps) = false := by
  have hy : yielded ops a.tmps i = some (!b) := by
    unfold yielded
    rw [hd]
    simp [h]
  unfold Region.wanted
  rw [hg]
  simp [hy]
section
variable {o : Oper} {a : Act} {w : World} {K : Act → World → Prop} {Q : Exit → Act → World → Prop}
theorem op_nilE {x : Operand} (ho : o.op = Op.binOp BinOp.eql 27 x (Operand.const Value.nilIface) 27) (hx : a.eval x = .nilIface) (hK : K (a.put o.dst (.bool true)) w) : Oper.wp Tryz.prog o a w K Q := by
  refine mo_run ?_ hK
  have hc : a.eval (Operand.const Value.nilIface) = Value.nilIface := rfl
  generalize a.eval = ρ at hx hc ⊢
  simp only [execOp, ho, hx]
  simp [go_sem, Result.andThen, hc, eqGuard]
theorem op_notnilE {x : Operand} {T : TypeId} {p : Option Addr} (ho : o.op = Op.binOp BinOp.eql 27 x (Operand.const Value.nilIface) 27) (hx : a.eval x = .iface T (.pointer p)) (hK : K (a.put o.dst (.bool false)) w) : Oper.wp Tryz.prog o a w K Q := by
  refine mo_run ?_ hK
  have hc : a.eval (Operand.const Value.nilIface) = Value.nilIface := rfl
  generalize a.eval = ρ at hx hc ⊢
  simp only [execOp, ho, hx]
  simp [go_sem, Result.andThen, hc, eqGuard]
theorem op_ptrL {x : Operand} {p : Addr} (ho : o.op = Op.binOp BinOp.neq 40 x (Operand.const (Value.pointer none)) 40) (hx : a.eval x = .pointer (some p)) (hK : K (a.put o.dst (.bool true)) w) : Oper.wp Tryz.prog o a w K Q := by
  refine mo_run ?_ hK
  have hc : a.eval (Operand.const (Value.pointer none)) = Value.pointer none := rfl
  generalize a.eval = ρ at hx hc ⊢
  simp only [execOp, ho, hx]
  simp [go_sem, Result.andThen, hc]
end

def ops_liT : Array Oper := #[
  { dst := some 21, op := Op.move (Operand.tmp 5), type := 40, pos := "law.go:27", after := #[], guard := none },
  { dst := some 22, op := Op.load 43 (Operand.tmp 7), type := 43, pos := "law.go:27", after := #[{ on := 12, ground := Ground.gcOnly Departure.lateStores }], guard := none },
  { dst := some 23, op := Op.move (Operand.tmp 6), type := 27, pos := "law.go:27", after := #[], guard := none },
  { dst := some 24, op := Op.binOp BinOp.eql 27 (Operand.tmp 23) (Operand.const Value.nilIface) 27, type := 4, pos := "law.go:27", after := #[{ on := 2, ground := Ground.data }], guard := none },
  { dst := some 25, op := Op.move (Operand.tmp 24), type := 4, pos := "law.go:27", after := #[{ on := 3, ground := Ground.data }], guard := none },
  { dst := some 26, op := Op.move (Operand.tmp 5), type := 40, pos := "law.go:27", after := #[{ on := 4, ground := Ground.guard }], guard := some (4, true) },
  { dst := some 27, op := Op.binOp BinOp.neq 40 (Operand.tmp 26) (Operand.const (Value.pointer none)) 40, type := 4, pos := "law.go:27", after := #[{ on := 5, ground := Ground.data }, { on := 4, ground := Ground.guard }], guard := some (4, true) },
  { dst := some 28, op := Op.pick (Operand.tmp 25) (Operand.tmp 27) (Operand.const (Value.bool false)), type := 4, pos := "law.go:27", after := #[{ on := 4, ground := Ground.data }, { on := 6, ground := Ground.data }], guard := none },
  { dst := some 29, op := Op.move (Operand.tmp 28), type := 4, pos := "law.go:27", after := #[{ on := 7, ground := Ground.data }, { on := 4, ground := Ground.chain }], guard := none },
  { dst := some 30, op := Op.move (Operand.tmp 9), type := 3, pos := "law.go:27", after := #[{ on := 8, ground := Ground.guard }, { on := 13, ground := Ground.gcOnly Departure.lateStores }], guard := some (8, true) },
  { dst := some 31, op := Op.binOp BinOp.eql 3 (Operand.tmp 30) (Operand.const (Value.int IntKind.i64 0)) 3, type := 4, pos := "law.go:27", after := #[{ on := 9, ground := Ground.data }, { on := 8, ground := Ground.guard }, { on := 13, ground := Ground.gcOnly Departure.lateStores }], guard := some (8, true) },
  { dst := some 32, op := Op.pick (Operand.tmp 29) (Operand.tmp 31) (Operand.const (Value.bool false)), type := 4, pos := "law.go:27", after := #[{ on := 8, ground := Ground.data }, { on := 10, ground := Ground.data }, { on := 13, ground := Ground.gcOnly Departure.lateStores }], guard := none },
  { dst := some 2, op := Op.assign (Operand.tmp 21), type := 40, pos := "law.go:27", after := #[{ on := 0, ground := Ground.data }, { on := 8, ground := Ground.chain }, { on := 0, ground := Ground.phase }, { on := 1, ground := Ground.textOnly Departure.lateStores }, { on := 2, ground := Ground.textOnly Departure.lateStores }, { on := 3, ground := Ground.textOnly Departure.lateStores }, { on := 4, ground := Ground.textOnly Departure.lateStores }, { on := 5, ground := Ground.textOnly Departure.lateStores }, { on := 6, ground := Ground.textOnly Departure.lateStores }, { on := 7, ground := Ground.textOnly Departure.lateStores }, { on := 8, ground := Ground.textOnly Departure.lateStores }, { on := 9, ground := Ground.textOnly Departure.lateStores }, { on := 10, ground := Ground.textOnly Departure.lateStores }, { on := 11, ground := Ground.textOnly Departure.lateStores }], guard := none },
  { dst := none, op := Op.store 43 (Operand.tmp 3) (Operand.tmp 22), type := 0, pos := "law.go:27", after := #[{ on := 1, ground := Ground.data }, { on := 12, ground := Ground.chain }, { on := 0, ground := Ground.phase }, { on := 1, ground := Ground.phase }, { on := 2, ground := Ground.textOnly Departure.lateStores }, { on := 3, ground := Ground.textOnly Departure.lateStores }, { on := 4, ground := Ground.textOnly Departure.lateStores }, { on := 5, ground := Ground.textOnly Departure.lateStores }, { on := 6, ground := Ground.textOnly Departure.lateStores }, { on := 7, ground := Ground.textOnly Departure.lateStores }, { on := 8, ground := Ground.textOnly Departure.lateStores }, { on := 9, ground := Ground.textOnly Departure.lateStores }, { on := 10, ground := Ground.textOnly Departure.lateStores }, { on := 11, ground := Ground.textOnly Departure.lateStores }, { on := 12, ground := Ground.phase }], guard := none },
  { dst := some 4, op := Op.assign (Operand.tmp 32), type := 4, pos := "law.go:27", after := #[{ on := 11, ground := Ground.data }, { on := 13, ground := Ground.chain }, { on := 0, ground := Ground.phase }, { on := 1, ground := Ground.phase }, { on := 2, ground := Ground.phase }, { on := 3, ground := Ground.phase }, { on := 4, ground := Ground.phase }, { on := 5, ground := Ground.phase }, { on := 6, ground := Ground.phase }, { on := 7, ground := Ground.phase }, { on := 8, ground := Ground.phase }, { on := 9, ground := Ground.phase }, { on := 10, ground := Ground.phase }, { on := 11, ground := Ground.phase }, { on := 12, ground := Ground.phase }, { on := 13, ground := Ground.phase }], guard := none }]
def dst_liT (i : Nat) : Option Nat := (ops_liT[i]?).bind (·.dst)
theorem inj_liT : ∀ i, i < 15 → ∀ k, k < 15 → dst_liT i ≠ none → dst_liT i = dst_liT k → i = k := by decide +kernel
theorem lt_liT : ∀ i, i < 15 → (dst_liT i).getD 0 < 33 := by decide +kernel
theorem low_liT : ∀ i : Fin 15, ∀ e ∈ (ops_liT[i.1]'(by exact i.2)).after, Region.binds .any e = true → e.on < i.1 := by decide +kernel
def val_liT (lb mb rb : Nat) (fa : Option Addr) (fn fc : Nat) (nx : Int) : List Value := [.pointer (some ⟨lb, 0, none⟩), .agg #[.slice fa fn fc, .int .i64 nx], .nilIface, .bool true, .bool true, .pointer (some ⟨lb, 0, none⟩), .bool true, .bool true, .bool true, .int .i64 0, .bool true, .bool true, .pointer (some ⟨lb, 0, none⟩), undef, .bool true]
set_option maxRecDepth 100000 in
set_option maxHeartbeats 4000000 in
theorem region_liT (a0 : Act) (w0 : World) (lb mb rb : Nat) (fa : Option Addr) (fn fc : Nat) (nx : Int) (Q : Exit → Act → World → Prop)
    (hsz : a0.tmps.size = 33) (h5 : a0.tmps[5]? = some (.pointer (some ⟨lb, 0, none⟩))) (h6 : a0.tmps[6]? = some (.nilIface)) (h7 : a0.tmps[7]? = some (.pointer (some ⟨mb, 0, none⟩))) (h9 : a0.tmps[9]? = some (.int .i64 0)) (h3 : a0.tmps[3]? = some (.pointer (some ⟨rb, 0, none⟩)))
    (hne : mb ≠ rb) (hM : Cells w0 mb 43 #[.slice fa fn fc, .int .i64 nx]) (hR : ∃ cur, Cells w0 rb 43 cur ∧ cur.size = 2)
    
    (hQ : Q .normal { a0 with tmps := [(21, .pointer (some ⟨lb, 0, none⟩)), (22, .agg #[.slice fa fn fc, .int .i64 nx]), (23, .nilIface), (24, .bool true), (25, .bool true), (26, .pointer (some ⟨lb, 0, none⟩)), (27, .bool true), (28, .bool true), (29, .bool true), (30, .int .i64 0), (31, .bool true), (32, .bool true), (2, .pointer (some ⟨lb, 0, none⟩)), (4, .bool true)].foldl (fun u p => u.setIfInBounds p.1 p.2) a0.tmps } ((w0.setCell ⟨rb, 0, none⟩ (.slice fa fn fc)).setCell ⟨rb, 1, none⟩ (.int .i64 nx))) :
    wpAny Tryz.prog .any ops_liT Q ops_liT.size (Array.replicate ops_liT.size false) a0 w0 := by
  obtain ⟨W, hW⟩ : ∃ W : Bool → World, W = fun b => if b = true then (w0.setCell ⟨rb, 0, none⟩ (.slice fa fn fc)).setCell ⟨rb, 1, none⟩ (.int .i64 nx) else w0 := ⟨_, rfl⟩
  have W0 : W false = w0 := by rw [hW]; rfl
  have W1 : W true = (w0.setCell ⟨rb, 0, none⟩ (.slice fa fn fc)).setCell ⟨rb, 1, none⟩ (.int .i64 nx) := by rw [hW]; rfl
  have MC : ∀ b, Cells (W b) mb 43 #[.slice fa fn fc, .int .i64 nx] := fun b => by
    cases b with
    | false => rw [W0]; exact hM
    | true => rw [W1]; exact (hM.other (p := ⟨rb, 0, none⟩) hne _).other (p := ⟨rb, 1, none⟩) hne _
  have R := wpAny_table (P := Tryz.prog) (ops := ops_liT) (Q := Q) a0 dst_liT (fun i => ((val_liT lb mb rb fa fn fc nx)[i]?).getD undef) 13 W
    (fun i o ho => by unfold dst_liT; rw [ho]; rfl)
    (fun i k d hi hk h1 h2 => inj_liT i hi k hk (by rw [h1]; intro q; cases q) (by rw [h1, h2]))
    (fun i d hi h => by have := lt_liT i hi; rw [h] at this; rw [hsz]; exact this)
    (fun i o e ho he hb => by
      obtain ⟨hi, rfl⟩ := Array.getElem?_eq_some_iff.1 ho
      exact low_liT ⟨i, hi⟩ e he hb)
    ?step ?fin (by decide)
  · rw [W0] at R; exact R
  case fin =>
    intro a hd hs hf hv
    rw [W1]
    rw [act_set' (a := a) (a0 := a0) [(21, .pointer (some ⟨lb, 0, none⟩)), (22, .agg #[.slice fa fn fc, .int .i64 nx]), (23, .nilIface), (24, .bool true), (25, .bool true), (26, .pointer (some ⟨lb, 0, none⟩)), (27, .bool true), (28, .bool true), (29, .bool true), (30, .int .i64 0), (31, .bool true), (32, .bool true), (2, .pointer (some ⟨lb, 0, none⟩)), (4, .bool true)] hd hs (by
      intro p hp
      simp only [List.mem_cons, List.not_mem_nil, or_false] at hp
      rcases hp with rfl | rfl | rfl | rfl | rfl | rfl | rfl | rfl | rfl | rfl | rfl | rfl | rfl | rfl
      · exact hv 0 21 (by decide) rfl
      · exact hv 1 22 (by decide) rfl
      · exact hv 2 23 (by decide) rfl
      · exact hv 3 24 (by decide) rfl
      · exact hv 4 25 (by decide) rfl
      · exact hv 5 26 (by decide) rfl
      · exact hv 6 27 (by decide) rfl
      · exact hv 7 28 (by decide) rfl
      · exact hv 8 29 (by decide) rfl
      · exact hv 9 30 (by decide) rfl
      · exact hv 10 31 (by decide) rfl
      · exact hv 11 32 (by decide) rfl
      · exact hv 12 2 (by decide) rfl
      · exact hv 14 4 (by decide) rfl
      ) (fun j hj => hf j (fun k hk q => hj (by
        have : ∀ k, k < 15 → (dst_liT k).all (fun d => [21, 22, 23, 24, 25, 26, 27, 28, 29, 30, 31, 32, 2, 4].contains d) = true := by decide +kernel
        have h1 := this k hk
        rw [q] at h1
        simpa using h1)))]
    exact hQ
  case step =>
    intro i o a b ho hs hf dep hib
    have hi : i < 15 := (Array.getElem?_eq_some_iff.1 ho).1
    have e5 := evT ((hf 5 (by decide +kernel)).trans h5)
    have e6 := evT ((hf 6 (by decide +kernel)).trans h6)
    have e7 := evT ((hf 7 (by decide +kernel)).trans h7)
    have e9 := evT ((hf 9 (by decide +kernel)).trans h9)
    have e3 := evT ((hf 3 (by decide +kernel)).trans h3)
    rcases (by omega : i = 0 ∨ i = 1 ∨ i = 2 ∨ i = 3 ∨ i = 4 ∨ i = 5 ∨ i = 6 ∨ i = 7 ∨ i = 8 ∨ i = 9 ∨ i = 10 ∨ i = 11 ∨ i = 12 ∨ i = 13 ∨ i = 14) with rfl | rfl | rfl | rfl | rfl | rfl | rfl | rfl | rfl | rfl | rfl | rfl | rfl | rfl | rfl
    · have ho2 : some _ = some o := ho
      obtain rfl := Option.some.inj ho2
      exact .inl ⟨wantN rfl, fun K hK => op_move rfl e5 hK⟩
    · have ho2 : some _ = some o := ho
      obtain rfl := Option.some.inj ho2
      exact .inl ⟨wantN rfl, fun K hK => op_load2 rfl e7 ((MC b).cell 0) ((MC b).cell 1) hK⟩
    · have ho2 : some _ = some o := ho
      obtain rfl := Option.some.inj ho2
      exact .inl ⟨wantN rfl, fun K hK => op_move rfl e6 hK⟩
    · have ho2 : some _ = some o := ho
      obtain rfl := Option.some.inj ho2
      have hv2 : a.tmps[23]? = some (.nilIface) := dep ⟨2, Ground.data⟩ (by first | simp | simp [ops_liT]) rfl 23 rfl
      exact .inl ⟨wantN rfl, fun K hK => op_nilE rfl (evT hv2) hK⟩
    · have ho2 : some _ = some o := ho
      obtain rfl := Option.some.inj ho2
      have hv3 : a.tmps[24]? = some (.bool true) := dep ⟨3, Ground.data⟩ (by first | simp | simp [ops_liT]) rfl 24 rfl
      exact .inl ⟨wantN rfl, fun K hK => op_move rfl (evT hv3) hK⟩
    · have ho2 : some _ = some o := ho
      obtain rfl := Option.some.inj ho2
      have hv4 : a.tmps[25]? = some (.bool true) := dep ⟨4, Ground.guard⟩ (by first | simp | simp [ops_liT]) rfl 25 rfl
      exact .inl ⟨wantG (b := true) rfl (show ((ops_liT[4]?).bind (·.dst)) = some 25 from rfl) hv4, fun K hK => op_move rfl e5 hK⟩
    · have ho2 : some _ = some o := ho
      obtain rfl := Option.some.inj ho2
      have hv5 : a.tmps[26]? = some (.pointer (some ⟨lb, 0, none⟩)) := dep ⟨5, Ground.data⟩ (by first | simp | simp [ops_liT]) rfl 26 rfl
      have hv4 : a.tmps[25]? = some (.bool true) := dep ⟨4, Ground.guard⟩ (by first | simp | simp [ops_liT]) rfl 25 rfl
      exact .inl ⟨wantG (b := true) rfl (show ((ops_liT[4]?).bind (·.dst)) = some 25 from rfl) hv4, fun K hK => op_ptrL rfl (evT hv5) hK⟩
    · have ho2 : some _ = some o := ho
      obtain rfl := Option.some.inj ho2
      have hv4 : a.tmps[25]? = some (.bool true) := dep ⟨4, Ground.data⟩ (by first | simp | simp [ops_liT]) rfl 25 rfl
      have hv6 : a.tmps[27]? = some (.bool true) := dep ⟨6, Ground.data⟩ (by first | simp | simp [ops_liT]) rfl 27 rfl
      exact .inl ⟨wantN rfl, fun K hK => op_pick rfl (evT hv4) (evT hv6) rfl rfl hK⟩
    · have ho2 : some _ = some o := ho
      obtain rfl := Option.some.inj ho2
      have hv7 : a.tmps[28]? = some (.bool true) := dep ⟨7, Ground.data⟩ (by first | simp | simp [ops_liT]) rfl 28 rfl
      exact .inl ⟨wantN rfl, fun K hK => op_move rfl (evT hv7) hK⟩
    · have ho2 : some _ = some o := ho
      obtain rfl := Option.some.inj ho2
      have hv8 : a.tmps[29]? = some (.bool true) := dep ⟨8, Ground.guard⟩ (by first | simp | simp [ops_liT]) rfl 29 rfl
      exact .inl ⟨wantG (b := true) rfl (show ((ops_liT[8]?).bind (·.dst)) = some 29 from rfl) hv8, fun K hK => op_move rfl e9 hK⟩
    · have ho2 : some _ = some o := ho
      obtain rfl := Option.some.inj ho2
      have hv9 : a.tmps[30]? = some (.int .i64 0) := dep ⟨9, Ground.data⟩ (by first | simp | simp [ops_liT]) rfl 30 rfl
      have hv8 : a.tmps[29]? = some (.bool true) := dep ⟨8, Ground.guard⟩ (by first | simp | simp [ops_liT]) rfl 29 rfl
      exact .inl ⟨wantG (b := true) rfl (show ((ops_liT[8]?).bind (·.dst)) = some 29 from rfl) hv8, fun K hK => op_eql rfl (evT hv9) rfl (by decide) hK⟩
    · have ho2 : some _ = some o := ho
      obtain rfl := Option.some.inj ho2
      have hv8 : a.tmps[29]? = some (.bool true) := dep ⟨8, Ground.data⟩ (by first | simp | simp [ops_liT]) rfl 29 rfl
      have hv10 : a.tmps[31]? = some (.bool true) := dep ⟨10, Ground.data⟩ (by first | simp | simp [ops_liT]) rfl 31 rfl
      exact .inl ⟨wantN rfl, fun K hK => op_pick rfl (evT hv8) (evT hv10) rfl rfl hK⟩
    · have ho2 : some _ = some o := ho
      obtain rfl := Option.some.inj ho2
      have hv0 : a.tmps[21]? = some (.pointer (some ⟨lb, 0, none⟩)) := dep ⟨0, Ground.data⟩ (by first | simp | simp [ops_liT]) rfl 21 rfl
      exact .inl ⟨wantN rfl, fun K hK => op_assign rfl (evT hv0) hK⟩
    · have ho2 : some _ = some o := ho
      obtain rfl := Option.some.inj ho2
      have hv1 : a.tmps[22]? = some (.agg #[.slice fa fn fc, .int .i64 nx]) := dep ⟨1, Ground.data⟩ (by first | simp | simp [ops_liT]) rfl 22 rfl
      obtain rfl : b = false := hib rfl
      rw [W0]
      obtain ⟨cur, hcr, hcs⟩ := hR
      refine .inl ⟨wantN rfl, fun K hK => op_store2 rfl e3 (evT hv1) ((hcr.cell 0).trans (Array.getElem?_eq_getElem (by omega))) ((hcr.cell 1).trans (Array.getElem?_eq_getElem (by omega))) (hcr.frozen 0) (hcr.frozen 1) ?_⟩
      have : W (if 13 = 13 then true else false) = (w0.setCell ⟨rb, 0, none⟩ (.slice fa fn fc)).setCell ⟨rb, 1, none⟩ (.int .i64 nx) := by rw [if_pos rfl, W1]
      rw [this] at hK
      exact hK
    · have ho2 : some _ = some o := ho
      obtain rfl := Option.some.inj ho2
      have hv11 : a.tmps[32]? = some (.bool true) := dep ⟨11, Ground.data⟩ (by first | simp | simp [ops_liT]) rfl 32 rfl
      exact .inl ⟨wantN rfl, fun K hK => op_assign rfl (evT hv11) hK⟩
def ops_liF : Array Oper := #[
  { dst := some 21, op := Op.move (Operand.tmp 5), type := 40, pos := "law.go:27", after := #[], guard := none },
  { dst := some 22, op := Op.load 43 (Operand.tmp 7), type := 43, pos := "law.go:27", after := #[{ on := 12, ground := Ground.gcOnly Departure.lateStores }], guard := none },
  { dst := some 23, op := Op.move (Operand.tmp 6), type := 27, pos := "law.go:27", after := #[], guard := none },
  { dst := some 24, op := Op.binOp BinOp.eql 27 (Operand.tmp 23) (Operand.const Value.nilIface) 27, type := 4, pos := "law.go:27", after := #[{ on := 2, ground := Ground.data }], guard := none },
  { dst := some 25, op := Op.move (Operand.tmp 24), type := 4, pos := "law.go:27", after := #[{ on := 3, ground := Ground.data }], guard := none },
  { dst := some 26, op := Op.move (Operand.tmp 5), type := 40, pos := "law.go:27", after := #[{ on := 4, ground := Ground.guard }], guard := some (4, true) },
  { dst := some 27, op := Op.binOp BinOp.neq 40 (Operand.tmp 26) (Operand.const (Value.pointer none)) 40, type := 4, pos := "law.go:27", after := #[{ on := 5, ground := Ground.data }, { on := 4, ground := Ground.guard }], guard := some (4, true) },
  { dst := some 28, op := Op.pick (Operand.tmp 25) (Operand.tmp 27) (Operand.const (Value.bool false)), type := 4, pos := "law.go:27", after := #[{ on := 4, ground := Ground.data }, { on := 6, ground := Ground.data }], guard := none },
  { dst := some 29, op := Op.move (Operand.tmp 28), type := 4, pos := "law.go:27", after := #[{ on := 7, ground := Ground.data }, { on := 4, ground := Ground.chain }], guard := none },
  { dst := some 30, op := Op.move (Operand.tmp 9), type := 3, pos := "law.go:27", after := #[{ on := 8, ground := Ground.guard }, { on := 13, ground := Ground.gcOnly Departure.lateStores }], guard := some (8, true) },
  { dst := some 31, op := Op.binOp BinOp.eql 3 (Operand.tmp 30) (Operand.const (Value.int IntKind.i64 0)) 3, type := 4, pos := "law.go:27", after := #[{ on := 9, ground := Ground.data }, { on := 8, ground := Ground.guard }, { on := 13, ground := Ground.gcOnly Departure.lateStores }], guard := some (8, true) },
  { dst := some 32, op := Op.pick (Operand.tmp 29) (Operand.tmp 31) (Operand.const (Value.bool false)), type := 4, pos := "law.go:27", after := #[{ on := 8, ground := Ground.data }, { on := 10, ground := Ground.data }, { on := 13, ground := Ground.gcOnly Departure.lateStores }], guard := none },
  { dst := some 2, op := Op.assign (Operand.tmp 21), type := 40, pos := "law.go:27", after := #[{ on := 0, ground := Ground.data }, { on := 8, ground := Ground.chain }, { on := 0, ground := Ground.phase }, { on := 1, ground := Ground.textOnly Departure.lateStores }, { on := 2, ground := Ground.textOnly Departure.lateStores }, { on := 3, ground := Ground.textOnly Departure.lateStores }, { on := 4, ground := Ground.textOnly Departure.lateStores }, { on := 5, ground := Ground.textOnly Departure.lateStores }, { on := 6, ground := Ground.textOnly Departure.lateStores }, { on := 7, ground := Ground.textOnly Departure.lateStores }, { on := 8, ground := Ground.textOnly Departure.lateStores }, { on := 9, ground := Ground.textOnly Departure.lateStores }, { on := 10, ground := Ground.textOnly Departure.lateStores }, { on := 11, ground := Ground.textOnly Departure.lateStores }], guard := none },
  { dst := none, op := Op.store 43 (Operand.tmp 3) (Operand.tmp 22), type := 0, pos := "law.go:27", after := #[{ on := 1, ground := Ground.data }, { on := 12, ground := Ground.chain }, { on := 0, ground := Ground.phase }, { on := 1, ground := Ground.phase }, { on := 2, ground := Ground.textOnly Departure.lateStores }, { on := 3, ground := Ground.textOnly Departure.lateStores }, { on := 4, ground := Ground.textOnly Departure.lateStores }, { on := 5, ground := Ground.textOnly Departure.lateStores }, { on := 6, ground := Ground.textOnly Departure.lateStores }, { on := 7, ground := Ground.textOnly Departure.lateStores }, { on := 8, ground := Ground.textOnly Departure.lateStores }, { on := 9, ground := Ground.textOnly Departure.lateStores }, { on := 10, ground := Ground.textOnly Departure.lateStores }, { on := 11, ground := Ground.textOnly Departure.lateStores }, { on := 12, ground := Ground.phase }], guard := none },
  { dst := some 4, op := Op.assign (Operand.tmp 32), type := 4, pos := "law.go:27", after := #[{ on := 11, ground := Ground.data }, { on := 13, ground := Ground.chain }, { on := 0, ground := Ground.phase }, { on := 1, ground := Ground.phase }, { on := 2, ground := Ground.phase }, { on := 3, ground := Ground.phase }, { on := 4, ground := Ground.phase }, { on := 5, ground := Ground.phase }, { on := 6, ground := Ground.phase }, { on := 7, ground := Ground.phase }, { on := 8, ground := Ground.phase }, { on := 9, ground := Ground.phase }, { on := 10, ground := Ground.phase }, { on := 11, ground := Ground.phase }, { on := 12, ground := Ground.phase }, { on := 13, ground := Ground.phase }], guard := none }]
def dst_liF (i : Nat) : Option Nat := (ops_liF[i]?).bind (·.dst)
theorem inj_liF : ∀ i, i < 15 → ∀ k, k < 15 → dst_liF i ≠ none → dst_liF i = dst_liF k → i = k := by decide +kernel
theorem lt_liF : ∀ i, i < 15 → (dst_liF i).getD 0 < 33 := by decide +kernel
theorem low_liF : ∀ i : Fin 15, ∀ e ∈ (ops_liF[i.1]'(by exact i.2)).after, Region.binds .any e = true → e.on < i.1 := by decide +kernel
def val_liF (mb rb : Nat) (fa : Option Addr) (fn fc : Nat) (nx : Int) (T : TypeId) (p : Option Addr) (n : Int) : List Value := [.pointer none, .agg #[.slice fa fn fc, .int .i64 nx], .iface T (.pointer p), .bool false, .bool false, undef, undef, .bool false, .bool false, undef, undef, .bool false, .pointer none, undef, .bool false]
set_option maxRecDepth 100000 in
set_option maxHeartbeats 4000000 in
theorem region_liF (a0 : Act) (w0 : World) (mb rb : Nat) (fa : Option Addr) (fn fc : Nat) (nx : Int) (T : TypeId) (p : Option Addr) (n : Int) (Q : Exit → Act → World → Prop)
    (hsz : a0.tmps.size = 33) (h5 : a0.tmps[5]? = some (.pointer none)) (h6 : a0.tmps[6]? = some (.iface T (.pointer p))) (h7 : a0.tmps[7]? = some (.pointer (some ⟨mb, 0, none⟩))) (h9 : a0.tmps[9]? = some (.int .i64 n)) (h3 : a0.tmps[3]? = some (.pointer (some ⟨rb, 0, none⟩)))
    (hne : mb ≠ rb) (hM : Cells w0 mb 43 #[.slice fa fn fc, .int .i64 nx]) (hR : ∃ cur, Cells w0 rb 43 cur ∧ cur.size = 2)
    
    (hQ : Q .normal { a0 with tmps := [(21, .pointer none), (22, .agg #[.slice fa fn fc, .int .i64 nx]), (23, .iface T (.pointer p)), (24, .bool false), (25, .bool false), (26, undef), (27, undef), (28, .bool false), (29, .bool false), (30, undef), (31, undef), (32, .bool false), (2, .pointer none), (4, .bool false)].foldl (fun u p => u.setIfInBounds p.1 p.2) a0.tmps } ((w0.setCell ⟨rb, 0, none⟩ (.slice fa fn fc)).setCell ⟨rb, 1, none⟩ (.int .i64 nx))) :
    wpAny Tryz.prog .any ops_liF Q ops_liF.size (Array.replicate ops_liF.size false) a0 w0 := by
  obtain ⟨W, hW⟩ : ∃ W : Bool → World, W = fun b => if b = true then (w0.setCell ⟨rb, 0, none⟩ (.slice fa fn fc)).setCell ⟨rb, 1, none⟩ (.int .i64 nx) else w0 := ⟨_, rfl⟩
  have W0 : W false = w0 := by rw [hW]; rfl
  have W1 : W true = (w0.setCell ⟨rb, 0, none⟩ (.slice fa fn fc)).setCell ⟨rb, 1, none⟩ (.int .i64 nx) := by rw [hW]; rfl
  have MC : ∀ b, Cells (W b) mb 43 #[.slice fa fn fc, .int .i64 nx] := fun b => by
    cases b with
    | false => rw [W0]; exact hM
    | true => rw [W1]; exact (hM.other (p := ⟨rb, 0, none⟩) hne _).other (p := ⟨rb, 1, none⟩) hne _
  have R := wpAny_table (P := Tryz.prog) (ops := ops_liF) (Q := Q) a0 dst_liF (fun i => ((val_liF mb rb fa fn fc nx T p n)[i]?).getD undef) 13 W
    (fun i o ho => by unfold dst_liF; rw [ho]; rfl)
    (fun i k d hi hk h1 h2 => inj_liF i hi k hk (by rw [h1]; intro q; cases q) (by rw [h1, h2]))
    (fun i d hi h => by have := lt_liF i hi; rw [h] at this; rw [hsz]; exact this)
    (fun i o e ho he hb => by
      obtain ⟨hi, rfl⟩ := Array.getElem?_eq_some_iff.1 ho
      exact low_liF ⟨i, hi⟩ e he hb)
    ?step ?fin (by decide)
  · rw [W0] at R; exact R
  case fin =>
    intro a hd hs hf hv
    rw [W1]
    rw [act_set' (a := a) (a0 := a0) [(21, .pointer none), (22, .agg #[.slice fa fn fc, .int .i64 nx]), (23, .iface T (.pointer p)), (24, .bool false), (25, .bool false), (26, undef), (27, undef), (28, .bool false), (29, .bool false), (30, undef), (31, undef), (32, .bool false), (2, .pointer none), (4, .bool false)] hd hs (by
      intro p hp
      simp only [List.mem_cons, List.not_mem_nil, or_false] at hp
      rcases hp with rfl | rfl | rfl | rfl | rfl | rfl | rfl | rfl | rfl | rfl | rfl | rfl | rfl | rfl
      · exact hv 0 21 (by decide) rfl
      · exact hv 1 22 (by decide) rfl
      · exact hv 2 23 (by decide) rfl
      · exact hv 3 24 (by decide) rfl
      · exact hv 4 25 (by decide) rfl
      · exact hv 5 26 (by decide) rfl
      · exact hv 6 27 (by decide) rfl
      · exact hv 7 28 (by decide) rfl
      · exact hv 8 29 (by decide) rfl
      · exact hv 9 30 (by decide) rfl
      · exact hv 10 31 (by decide) rfl
      · exact hv 11 32 (by decide) rfl
      · exact hv 12 2 (by decide) rfl
      · exact hv 14 4 (by decide) rfl
      ) (fun j hj => hf j (fun k hk q => hj (by
        have : ∀ k, k < 15 → (dst_liF k).all (fun d => [21, 22, 23, 24, 25, 26, 27, 28, 29, 30, 31, 32, 2, 4].contains d) = true := by decide +kernel
        have h1 := this k hk
        rw [q] at h1
        simpa using h1)))]
    exact hQ
  case step =>
    intro i o a b ho hs hf dep hib
    have hi : i < 15 := (Array.getElem?_eq_some_iff.1 ho).1
    have e5 := evT ((hf 5 (by decide +kernel)).trans h5)
    have e6 := evT ((hf 6 (by decide +kernel)).trans h6)
    have e7 := evT ((hf 7 (by decide +kernel)).trans h7)
    have e9 := evT ((hf 9 (by decide +kernel)).trans h9)
    have e3 := evT ((hf 3 (by decide +kernel)).trans h3)
    rcases (by omega : i = 0 ∨ i = 1 ∨ i = 2 ∨ i = 3 ∨ i = 4 ∨ i = 5 ∨ i = 6 ∨ i = 7 ∨ i = 8 ∨ i = 9 ∨ i = 10 ∨ i = 11 ∨ i = 12 ∨ i = 13 ∨ i = 14) with rfl | rfl | rfl | rfl | rfl | rfl | rfl | rfl | rfl | rfl | rfl | rfl | rfl | rfl | rfl
    · have ho2 : some _ = some o := ho
      obtain rfl := Option.some.inj ho2
      exact .inl ⟨wantN rfl, fun K hK => op_move rfl e5 hK⟩
    · have ho2 : some _ = some o := ho
      obtain rfl := Option.some.inj ho2
      exact .inl ⟨wantN rfl, fun K hK => op_load2 rfl e7 ((MC b).cell 0) ((MC b).cell 1) hK⟩
    · have ho2 : some _ = some o := ho
      obtain rfl := Option.some.inj ho2
      exact .inl ⟨wantN rfl, fun K hK => op_move rfl e6 hK⟩
    · have ho2 : some _ = some o := ho
      obtain rfl := Option.some.inj ho2
      have hv2 : a.tmps[23]? = some (.iface T (.pointer p)) := dep ⟨2, Ground.data⟩ (by first | simp | simp [ops_liF]) rfl 23 rfl
      exact .inl ⟨wantN rfl, fun K hK => op_notnilE rfl (evT hv2) hK⟩
    · have ho2 : some _ = some o := ho
      obtain rfl := Option.some.inj ho2
      have hv3 : a.tmps[24]? = some (.bool false) := dep ⟨3, Ground.data⟩ (by first | simp | simp [ops_liF]) rfl 24 rfl
      exact .inl ⟨wantN rfl, fun K hK => op_move rfl (evT hv3) hK⟩
    · have ho2 : some _ = some o := ho
      obtain rfl := Option.some.inj ho2
      have hv4 : a.tmps[25]? = some (.bool false) := dep ⟨4, Ground.guard⟩ (by first | simp | simp [ops_liF]) rfl 25 rfl
      exact .inr ⟨wantU (b := true) rfl (show ((ops_liF[4]?).bind (·.dst)) = some 25 from rfl) hv4, rfl, by decide⟩
    · have ho2 : some _ = some o := ho
      obtain rfl := Option.some.inj ho2
      have hv4 : a.tmps[25]? = some (.bool false) := dep ⟨4, Ground.guard⟩ (by first | simp | simp [ops_liF]) rfl 25 rfl
      exact .inr ⟨wantU (b := true) rfl (show ((ops_liF[4]?).bind (·.dst)) = some 25 from rfl) hv4, rfl, by decide⟩
    · have ho2 : some _ = some o := ho
      obtain rfl := Option.some.inj ho2
      have hv4 : a.tmps[25]? = some (.bool false) := dep ⟨4, Ground.data⟩ (by first | simp | simp [ops_liF]) rfl 25 rfl
      have hv6 : a.tmps[27]? = some (undef) := dep ⟨6, Ground.data⟩ (by first | simp | simp [ops_liF]) rfl 27 rfl
      exact .inl ⟨wantN rfl, fun K hK => op_pick rfl (evT hv4) (evT hv6) rfl rfl hK⟩
    · have ho2 : some _ = some o := ho
      obtain rfl := Option.some.inj ho2
      have hv7 : a.tmps[28]? = some (.bool false) := dep ⟨7, Ground.data⟩ (by first | simp | simp [ops_liF]) rfl 28 rfl
      exact .inl ⟨wantN rfl, fun K hK => op_move rfl (evT hv7) hK⟩
    · have ho2 : some _ = some o := ho
      obtain rfl := Option.some.inj ho2
      have hv8 : a.tmps[29]? = some (.bool false) := dep ⟨8, Ground.guard⟩ (by first | simp | simp [ops_liF]) rfl 29 rfl
      exact .inr ⟨wantU (b := true) rfl (show ((ops_liF[8]?).bind (·.dst)) = some 29 from rfl) hv8, rfl, by decide⟩
    · have ho2 : some _ = some o := ho
      obtain rfl := Option.some.inj ho2
      have hv8 : a.tmps[29]? = some (.bool false) := dep ⟨8, Ground.guard⟩ (by first | simp | simp [ops_liF]) rfl 29 rfl
      exact .inr ⟨wantU (b := true) rfl (show ((ops_liF[8]?).bind (·.dst)) = some 29 from rfl) hv8, rfl, by decide⟩
    · have ho2 : some _ = some o := ho
      obtain rfl := Option.some.inj ho2
      have hv8 : a.tmps[29]? = some (.bool false) := dep ⟨8, Ground.data⟩ (by first | simp | simp [ops_liF]) rfl 29 rfl
      have hv10 : a.tmps[31]? = some (undef) := dep ⟨10, Ground.data⟩ (by first | simp | simp [ops_liF]) rfl 31 rfl
      exact .inl ⟨wantN rfl, fun K hK => op_pick rfl (evT hv8) (evT hv10) rfl rfl hK⟩
    · have ho2 : some _ = some o := ho
      obtain rfl := Option.some.inj ho2
      have hv0 : a.tmps[21]? = some (.pointer none) := dep ⟨0, Ground.data⟩ (by first | simp | simp [ops_liF]) rfl 21 rfl
      exact .inl ⟨wantN rfl, fun K hK => op_assign rfl (evT hv0) hK⟩
    · have ho2 : some _ = some o := ho
      obtain rfl := Option.some.inj ho2
      have hv1 : a.tmps[22]? = some (.agg #[.slice fa fn fc, .int .i64 nx]) := dep ⟨1, Ground.data⟩ (by first | simp | simp [ops_liF]) rfl 22 rfl
      obtain rfl : b = false := hib rfl
      rw [W0]
      obtain ⟨cur, hcr, hcs⟩ := hR
      refine .inl ⟨wantN rfl, fun K hK => op_store2 rfl e3 (evT hv1) ((hcr.cell 0).trans (Array.getElem?_eq_getElem (by omega))) ((hcr.cell 1).trans (Array.getElem?_eq_getElem (by omega))) (hcr.frozen 0) (hcr.frozen 1) ?_⟩
      have : W (if 13 = 13 then true else false) = (w0.setCell ⟨rb, 0, none⟩ (.slice fa fn fc)).setCell ⟨rb, 1, none⟩ (.int .i64 nx) := by rw [if_pos rfl, W1]
      rw [this] at hK
      exact hK
    · have ho2 : some _ = some o := ho
      obtain rfl := Option.some.inj ho2
      have hv11 : a.tmps[32]? = some (.bool false) := dep ⟨11, Ground.data⟩ (by first | simp | simp [ops_liF]) rfl 32 rfl
      exact .inl ⟨wantN rfl, fun K hK => op_assign rfl (evT hv11) hK⟩
end Go.Proofs.YtflnlenkgbphpaaGreatDoor

