/- Texts put together: UP, UQ, UR, US, UT, NA, TO, NB, NC, RT, NR, ND, NE. -/
import Derived.Deep.RegionHeld3
import Derived.StillTailTactics
import Derived.Test.YtkcklnnmcmjnjaaGreatDoorBam11
import Derived.Test.YtkcklnnmcmjnjaaGreatDoorBam14
import Derived.Test.YtkcklnnmcmjnjaaGreatDoorBam15
import Derived.Test.YtkcklnnmcmjnjaaGreatDoorBam16
set_option linter.unusedVariables false
namespace Go.Proofs.YtkcklnnmcmjnjaaGreatDoor
open Go.RowKit Go.Shelf
attribute [local go_sem] Oper.semAt_some errV_0

/-- The copy so far. -/
structure AccC (w wr : World) (lb : Nat) (ev : Value) (ps : List Pr) (nx : Int) : Prop where
  head : Cells wr lb 153 #[ev, .int .i64 (nx - 1)]
  row : wr.ownsRow w.heap.size 118 4 ev ps.length (entCells ps)
  each : ∀ p ∈ ps, wr.ownsRow w.heap.size 35 2 p.2 p.1.1.fields.length (cellsF p.1.1.fields)
  below : Below w.heap.size w wr
  lb : w.heap.size ≤ lb
theorem own_cells_ne {W : World} {lo n b : Nat} {t u : TypeId} {sz : Nat} {v : Value} {xs : List Value} {cs : Array Value} (h : W.ownsRow lo t sz v n xs) (hc : Cells W b u cs) (ht : t ≠ u) : v.ownBlock ≠ some b := by
  intro e
  rcases h.2 with ⟨q, _⟩ | ⟨g, cap, cur, q, _, hg, _⟩
  · rw [q] at e; cases e
  · rw [q] at e
    have : g = b := Option.some.inj e
    subst this
    have := hg.symm.trans hc
    injection this with this
    injection this with _ h2 _
    exact ht h2
theorem own_own_ne {W : World} {lo lo' n m : Nat} {t u : TypeId} {sz sz' : Nat} {v x : Value} {xs ys : List Value} (h : W.ownsRow lo t sz v n xs) (g : W.ownsRow lo' u sz' x m ys) (ht : t ≠ u) : ∀ b, v.ownBlock = some b → x.ownBlock ≠ some b := by
  intro b hb
  rcases h.2 with ⟨q, _⟩ | ⟨g', cap, cur, q, _, hg, _⟩
  · rw [q] at hb; cases hb
  · rw [q] at hb
    obtain rfl : g' = b := Option.some.inj hb
    exact own_cells_ne g hg (fun e => ht e.symm)
theorem AccC.la {w wr : World} {lb : Nat} {ev : Value} {ps : List Pr} {nx : Int} (h : AccC w wr lb ev ps nx) : LA wr lb ev ps nx :=
  ⟨⟨h.head, ⟨rowBase h.row (Nat.zero_le _), fun p hp => FldR.own (h.each p hp)⟩⟩, fun p hp _ b hb =>
    ⟨fun e => own_cells_ne (h.each p hp) h.head (by decide) (by rw [← e]; exact hb), own_own_ne (h.each p hp) h.row (by decide) b hb⟩⟩
theorem AccC.below' {w wr w2 : World} {lb : Nat} {ev : Value} {ps : List Pr} {nx : Int} (h : AccC w wr lb ev ps nx) (hb : Below wr.heap.size wr w2) : AccC w w2 lb ev ps nx :=
  ⟨h.head.below hb h.head.lt, own_kept h.row hb (Nat.le_refl _), fun p hp => own_kept (h.each p hp) hb (Nat.le_refl _), h.below.trans (hb.mono h.below.size), h.lb⟩
theorem AccC.snoc {w w5 w6 : World} {lb : Nat} {ev v' : Value} {ps : List Pr} {nx : Int} {p : Pr} (h : AccC w w5 lb ev ps nx) (hp : w5.ownsRow w.heap.size 35 2 p.2 p.1.1.fields.length (cellsF p.1.1.fields))
    (ho : w6.ownsRow 0 118 4 v' (ps.length + 1) (entCells ps ++ entCell p)) (h6 : Cells w6 lb 153 #[ev, .int .i64 (nx - 1)]) (hk : v'.ownBlock = ev.ownBlock ∨ ∃ k, v'.ownBlock = some k ∧ w5.heap.size ≤ k ∧ k < w6.heap.size) (o6 : Only (fun r => some r = ev.ownBlock) w5 w6) :
    AccC w (w6.setCell ⟨lb, 0, none⟩ v') lb v' (ps ++ [p]) nx := by
  have hne : v'.ownBlock ≠ some lb := own_cells_ne ho h6 (by decide)
  have hz := h.below.size
  have hrow : w6.ownsRow w.heap.size 118 4 v' (ps.length + 1) (entCells ps ++ entCell p) := by
    rcases ho.2 with ⟨q, _⟩ | ⟨g2, cap2, cur2, q, _, rest⟩
    · exact ⟨ho.1, .inl ⟨q, by omega⟩⟩
    · refine ⟨ho.1, .inr ⟨g2, cap2, cur2, q, ?_, rest⟩⟩
      rcases hk with hk | ⟨k, hk, h1, _⟩
      · exact (h.row.lt g2 (by rw [← hk, q]; rfl)).1
      · rw [q] at hk
        have : g2 = k := Option.some.inj hk
        omega
  have keep : ∀ {x : Value} {m : Nat} {ys : List Value}, w5.ownsRow w.heap.size 35 2 x m ys → (w6.setCell ⟨lb, 0, none⟩ v').ownsRow w.heap.size 35 2 x m ys := fun hx =>
    have h6x := row_only hx o6 (fun b hb e => own_own_ne hx h.row (by decide) b hb e.symm)
    row_cell (p := ⟨lb, 0, none⟩) h6x (own_cells_ne h6x h6 (by decide)) _
  refine ⟨?_, ?_, ?_, ?_, h.lb⟩
  · have := h6.set 0 v'
    simpa [List.setIfInBounds_toArray, List.set] using this
  · rw [List.length_append, entCells_snoc]
    exact row_cell (p := ⟨lb, 0, none⟩) hrow hne _
  · intro q hq
    rcases List.mem_append.1 hq with hq | hq
    · exact keep (h.each q hq)
    · rw [List.mem_singleton.1 hq]; exact keep hp
  · have b6 : Below w.heap.size w5 w6 := o6.to_below hz (fun r hr e => by
      have := (h.row.lt r e.symm).1
      omega)
    exact (h.below.trans b6).setCell (p := ⟨lb, 0, none⟩) h.lb _
set_option maxRecDepth 100000 in
set_option maxHeartbeats 1000000 in
theorem copy_list (lb : Nat) (ev : Value) (ps : List Pr) (nx : Int) (w : World) (h : LA w lb ev ps nx) (ok : EntsOk ps) :
    Calls Tryz.prog 91 #[ptr lb] w fun e w' => ∃ lb' ev' ps', e = .returned (ptr lb') ∧ LA w' lb' ev' ps' nx ∧ ps'.map Prod.fst = ps.map Prod.fst ∧ Below w.heap.size w w' ∧ w.heap.size ≤ lb' ∧ (∀ b, ev'.ownBlock = some b → w.heap.size ≤ b) ∧ (∀ p ∈ ps', ∀ b, p.2.ownBlock = some b → w.heap.size ≤ b) := by
  obtain ⟨i0, hi, hz0, hz1, hz2⟩ := info_parts infoEnt
  obtain ⟨A, cap, rfl, hle⟩ := h.lr.ents.empty
  have c0 : w.cell? ⟨lb, 0, none⟩ = some (.slice A ps.length cap) := h.lr.head.cell 0
  have c1 : w.cell? ⟨lb, 1, none⟩ = some (.int .i64 (nx - 1)) := h.lr.head.cell 1
  have hll := h.lr.head.lt
  have H := Lib.hid h
  have hlen := ok.len
  have HF := Lib.hid ok.fields
  have acc0 : AccC w (w.alloc (.cells #[.slice none 0 0, .int .i64 (nx - 1)] 153)) w.heap.size (.slice none 0 0) [] nx :=
    ⟨Cells.new _ _ _, ⟨rfl, .inl ⟨rfl, rfl⟩⟩, (fun p h => by cases h), (Below.refl _ _).alloc (Nat.le_refl _) _, Nat.le_refl _⟩
  have ACC0 := Lib.hid acc0
  clear h ok acc0
  unfold ptr
  go_enter Tryz.func91, Tryz.ntmps91
  go_wp2_with fail
  go_loopw [19] (fun i wr => ∃ (k : Nat) (ev' : Value) (qs : List Pr), k ≤ ps.length ∧ i = .int .i64 k ∧ AccC w wr w.heap.size ev' qs nx ∧ qs.map Prod.fst = (ps.take k).map Prod.fst) (fun i _ => ps.length - (intOf i).toNat)
  case atStart => exact ⟨0, _, [], Nat.zero_le _, rfl, ACC0.out, rfl⟩
  case round =>
    obtain ⟨k, ev', qs, hk, rfl, hacc, hqs⟩ := hrel
    by_cases hlt : k < ps.length
    · obtain ⟨p, hp⟩ : ∃ p, ps[k]? = some p := ⟨_, List.getElem?_eq_getElem hlt⟩
      have hb := hacc.below
      have hE := H.out.lr.ents.below hb (Nat.le_refl _)
      obtain ⟨g, cap', pa, pc, e1, _, hg, e2, d0, d1, d2, d3⟩ := hE.here hp
      cases e1
      have hfr := hE.each p (List.mem_of_getElem? hp)
      have hfn := HF.out p (List.mem_of_getElem? hp)
      rw [e2] at d2
      have TK := Lib.hid (show (ps.take (k + 1)).map Prod.fst = (ps.take k).map Prod.fst ++ [p.1] by rw [List.take_add_one, hp]; simp)
      have hkl : qs.length = k := by
        have := congrArg List.length hqs
        rw [List.length_map, List.length_map, List.length_take] at this
        omega
      subst hkl
      have ACC := Lib.hid hacc
      have HQ := Lib.hid hqs
      have HFR := Lib.hid hfr
      have E2 := Lib.hid e2
      obtain ⟨ea, ec, rfl, hec⟩ := own_slice hacc.row
      clear hacc hqs hE hfr hp e2
      go_wp2_with fail
      obtain ⟨wa, hwa⟩ : ∃ wa, wa = wr.alloc (.cells #[.int .i64 p.1.1.kind, .string (B p.1.1.raw), .slice pa p.1.1.fields.length pc, .int .i64 p.1.2] 118) := ⟨_, rfl⟩
      have hba := (Below.refl wr.heap.size wr).alloc (Nat.le_refl _) (.cells #[.int .i64 p.1.1.kind, .string (B p.1.1.raw), .slice pa p.1.1.fields.length pc, .int .i64 p.1.2] 118)
      rw [← hwa] at hba
      have CE : Cells wa wr.heap.size 118 #[.int .i64 p.1.1.kind, .string (B p.1.1.raw), .slice pa p.1.1.fields.length pc, .int .i64 p.1.2] := by rw [hwa]; exact Cells.new _ _ _
      have hza : wa.heap.size = wr.heap.size + 1 := by rw [hwa]; simp
      rw [← hwa]
      clear hwa d0 d1 d2 d3
      have ACA := Lib.hid (ACC.out.below' hba)
      have g0 : wa.cell? ⟨w.heap.size, 0, none⟩ = some (.slice ea qs.length ec) := ACA.out.head.cell 0
      have j0 : wa.cell? ⟨wr.heap.size, 0, none⟩ = some (.int .i64 p.1.1.kind) := CE.cell 0
      have j1 : wa.cell? ⟨wr.heap.size, 1, none⟩ = some (.string (B p.1.1.raw)) := CE.cell 1
      have j2 : wa.cell? ⟨wr.heap.size, 2, none⟩ = some (.slice pa p.1.1.fields.length pc) := CE.cell 2
      have j3 : wa.cell? ⟨wr.heap.size, 3, none⟩ = some (.int .i64 p.1.2) := CE.cell 3
      have IT0 := item7_any p wa.drew ((HFR.out.below hba (Nat.le_refl _)).below (Below.refl wa.heap.size wa).drew (Nat.le_refl _)) hfn
      unfold entV at IT0
      rw [E2.out] at IT0
      have IT := Lib.hid IT0
      have CEH := Lib.hid CE
      have HZA := Lib.hid hza
      have hwz := ACA.out.below.size
      have ACD := Lib.hid (ACA.out.below' (w2 := wa.drew) (Below.refl _ _).drew)
      have HNE := Lib.hid ACA.out.la.lr.row_ne
      clear CE IT0 hza hba
      go_region_law (first
        | (go_simp; go_at_call 130; refine IT.out.mono ?_; rintro e w5 ⟨x, rfl, hx, b5⟩; obtain ⟨xa, xc, rfl, _⟩ := own_slice hx; have acc5 := Lib.hid (ACD.out.below' b5); have hx5 := Lib.hid hx; have ce5 := Lib.hid (CEH.out.drew.below b5 CEH.out.lt); have q0 : w5.cell? ⟨w.heap.size, 0, none⟩ = some (.slice ea qs.length ec) := acc5.out.head.cell 0; have q3 : w5.cell? ⟨wr.heap.size, 3, none⟩ = some (.int .i64 p.1.2) := ce5.out.cell 3; have q0a : ∀ o, (w5.alloc o).cell? ⟨w.heap.size, 0, none⟩ = some (.slice ea qs.length ec) := fun o => (acc5.out.head.alloc o).cell 0; have hr5 := Lib.hid (rowBase acc5.out.row (Nat.zero_le _)); have hc5 := Lib.hid acc5.out.head; have B5 := Lib.hid b5; clear hx b5)
        | (refine step_append_own rfl (.tmp 27) (.tmp 33) 115 rfl 118 i0 _ 4 56 Tryz.underlying115 hi hz0 hz1 hz2 rfl (by decide) (.slice ea qs.length ec) qs.length (entCells qs) (by simp [Act.eval]) (by exact hr5.out.alloc _) ⟨w5.heap.size, 0, none⟩ 1 1 [.int .i64 p.1.1.kind, .string (B p.1.1.raw), .slice xa p.1.1.fields.length xc, .int .i64 p.1.2] (by simp [Act.eval]) rfl (cells_new_add w5 118 [.int .i64 p.1.1.kind, .string (B p.1.1.raw), .slice xa p.1.1.fields.length xc, .int .i64 p.1.2]) (by intro u hu; simp at hu; rcases hu with rfl | rfl | rfl | rfl <;> rfl) (by unfold maxLen; omega) (by omega) ?_; intro v' w' ho hgr hbk; obtain ⟨⟨g', cap', rfl⟩, hg', hbx, hkk, hon⟩ := appended hc5.out hr5.out HNE.out ((Below.refl _ w5).alloc (Nat.le_refl _) _) ho hgr hbk; have k0 : w'.cell? ⟨w.heap.size, 0, none⟩ = some (.slice ea qs.length ec) := hg'.cell 0; have kf0 := hg'.frozen 0))
      all_goals go_wp2_with fail
      all_goals
        have acc6 := acc5.out.snoc (p := (p.1, .slice xa p.1.1.fields.length xc)) (rowBase hx5.out hwz) ho hg' hkk hon
        go_roundw
        case rel =>
          refine ⟨qs.length + 1, .slice (some ⟨g', 0, none⟩) (qs.length + 1) cap', qs ++ [(p.1, .slice xa p.1.1.fields.length xc)], hlt, by go_num, acc6, ?_⟩
          rw [TK.out, List.map_append, HQ.out]; rfl
        case measure => simp [intOf]; omega
    · obtain rfl : k = ps.length := by omega
      rw [List.take_length] at hqs
      have hla := hacc.la
      have hrow := hacc.row
      have hb := hacc.below
      have hea := hacc.each
      clear H HF ACC0 c0 c1
      go_wp2_with fail
      go_ret
      exact ⟨_, ev', qs, rfl, hla, hqs, hb, Nat.le_refl _, fun b hb => (hrow.lt b hb).1, fun p hp b hb => ((hea p hp).lt b hb).1⟩
end Go.Proofs.YtkcklnnmcmjnjaaGreatDoor

namespace Go.Proofs.YtkcklnnmcmjnjaaGreatDoor
open Go.RowKit Go.Shelf

/-- The document's entries, readable. -/
structure EntsQ (w : World) (v : Value) (ps : List Pr) : Prop where
  row : w.ownsRow 0 162 4 v ps.length (entCells ps)
  each : ∀ p ∈ ps, Flds w p.2 p.1.1.fields
theorem EntsQ.below {w w' : World} {v : Value} {ps : List Pr} {n : Nat} (h : EntsQ w v ps) (hb : Below n w w') (hn : w.heap.size ≤ n) : EntsQ w' v ps :=
  ⟨own_kept h.row hb hn, fun p hp => (h.each p hp).below hb hn⟩
theorem EntsQ.here {w : World} {v : Value} {ps : List Pr} (h : EntsQ w v ps) {i : Nat} {p : Pr} (hi : ps[i]? = some p) : ∃ g cap A c, v = .slice (some ⟨g, 0, none⟩) ps.length cap ∧ ps.length ≤ cap ∧ g < w.heap.size ∧ p.2 = .slice A p.1.1.fields.length c ∧
    w.cell? ⟨g, i * 4, none⟩ = some (.int .i64 p.1.1.kind) ∧ w.cell? ⟨g, i * 4 + 1, none⟩ = some (.string (B p.1.1.raw)) ∧ w.cell? ⟨g, i * 4 + 1 + 1, none⟩ = some p.2 ∧ w.cell? ⟨g, i * 4 + 1 + 1 + 1, none⟩ = some (.int .i64 p.1.2) := by
  have hlt : i < ps.length := (List.getElem?_eq_some_iff.1 hi).1
  obtain ⟨A, c, hA, _⟩ := h.each p (List.mem_of_getElem? hi)
  have hr := h.row
  rcases h.row.2 with ⟨_, hn⟩ | ⟨g, cap, cur, e, _, hg, hle, _⟩
  · omega
  · rw [e] at hr
    have at_ := entCells_at ps i p hi
    refine ⟨g, cap, A, c, e, hle, (World.ownsRow.lt hr g rfl).2, hA, ?_, ?_, ?_, ?_⟩
    · rw [World.ownsRow.cellAt hr (i * 4) (by omega)]; exact at_ 0 _ rfl
    · rw [World.ownsRow.cellAt hr (i * 4 + 1) (by omega)]; exact at_ 1 _ rfl
    · rw [World.ownsRow.cellAt hr (i * 4 + 1 + 1) (by omega)]; exact at_ 2 _ rfl
    · rw [World.ownsRow.cellAt hr (i * 4 + 1 + 1 + 1) (by omega)]; exact at_ 3 _ rfl
theorem EntsQ.empty {w : World} {v : Value} {ps : List Pr} (h : EntsQ w v ps) : ∃ A cap, v = .slice A ps.length cap ∧ ps.length ≤ cap := by
  rcases h.row.2 with ⟨e, hn⟩ | ⟨g, cap, cur, e, _, hg, hle, _⟩
  · exact ⟨none, 0, by rw [e, hn], by omega⟩
  · exact ⟨_, cap, e, hle⟩
theorem entsQ_none (w : World) : EntsQ w (.slice none 0 0) [] := ⟨⟨rfl, .inl ⟨rfl, rfl⟩⟩, fun p h => by cases h⟩
end Go.Proofs.YtkcklnnmcmjnjaaGreatDoor

namespace Go.Proofs.YtkcklnnmcmjnjaaGreatDoor
open Go.RowKit Go.Shelf
attribute [local go_sem] Oper.semAt_some

/-- The document's list as it is made: its box, its row in new memory. -/
structure AccQ (w wr : World) (ob : Nat) (v : Value) (ps : List Pr) (nx : Int) : Prop where
  head : Cells wr ob 43 #[v, .int .i64 nx]
  row : wr.ownsRow w.heap.size 162 4 v ps.length (entCells ps)
  below : Below w.heap.size w wr
  lo : w.heap.size ≤ ob
theorem AccQ.ne {w wr : World} {ob : Nat} {v : Value} {ps : List Pr} {nx : Int} (h : AccQ w wr ob v ps nx) : v.ownBlock ≠ some ob :=
  own_cells_ne h.row h.head (by decide)
theorem AccQ.alloc {w wr : World} {ob : Nat} {v : Value} {ps : List Pr} {nx : Int} (h : AccQ w wr ob v ps nx) (o : Obj) : AccQ w (wr.alloc o) ob v ps nx :=
  ⟨h.head.alloc o, h.row.alloc o, h.below.alloc h.below.size o, h.lo⟩
theorem AccQ.drew {w wr : World} {ob : Nat} {v : Value} {ps : List Pr} {nx : Int} (h : AccQ w wr ob v ps nx) : AccQ w wr.drew ob v ps nx := ⟨h.head.drew, h.row, h.below.drew, h.lo⟩
theorem AccQ.kept {w wr w2 : World} {ob : Nat} {v : Value} {ps : List Pr} {nx : Int} (h : AccQ w wr ob v ps nx) (hb : Below wr.heap.size wr w2) : AccQ w w2 ob v ps nx :=
  ⟨cells_kept h.head hb h.head.lt, own_kept h.row hb (Nat.le_refl _), h.below.trans (hb.mono h.below.size), h.lo⟩
theorem AccQ.snoc {w wa w6 : World} {ob : Nat} {v v' : Value} {ps : List Pr} {nx : Int} {p : Pr} (h : AccQ w wa ob v ps nx)
    (ho : w6.ownsRow 0 162 4 v' (ps.length + 1) (entCells ps ++ entCell p)) (h6 : Cells w6 ob 43 #[v, .int .i64 nx]) (hk : v'.ownBlock = v.ownBlock ∨ ∃ k, v'.ownBlock = some k ∧ wa.heap.size ≤ k ∧ k < w6.heap.size) (o6 : Only (fun r => some r = v.ownBlock) wa w6) :
    AccQ w (w6.setCell ⟨ob, 0, none⟩ v') ob v' (ps ++ [p]) nx := by
  have hne : v'.ownBlock ≠ some ob := by
    intro e
    rcases hk with hk | ⟨k, hk, h1, _⟩
    · rw [hk] at e; exact h.ne e
    · rw [hk] at e
      have : k = ob := Option.some.inj e
      have := h.head.lt
      omega
  have hz := h.below.size
  have hrow : w6.ownsRow w.heap.size 162 4 v' (ps.length + 1) (entCells ps ++ entCell p) := by
    rcases ho.2 with ⟨q, _⟩ | ⟨g2, cap2, cur2, q, _, rest⟩
    · exact ⟨ho.1, .inl ⟨q, by omega⟩⟩
    · refine ⟨ho.1, .inr ⟨g2, cap2, cur2, q, ?_, rest⟩⟩
      rcases hk with hk | ⟨k, hk, h1, _⟩
      · exact (h.row.lt g2 (by rw [← hk, q]; rfl)).1
      · rw [q] at hk
        have : g2 = k := Option.some.inj hk
        omega
  refine ⟨?_, ?_, ?_, h.lo⟩
  · have := h6.set 0 v'
    simpa [List.setIfInBounds_toArray, List.set] using this
  · rw [List.length_append, entCells_snoc]
    exact row_cell hrow hne _
  · have b6 : Below w.heap.size wa w6 := o6.to_below hz (fun r hr e => by
      have := (h.row.lt r e.symm).1
      omega)
    exact (h.below.trans b6).setCell (p := ⟨ob, 0, none⟩) h.lo _
theorem AccQ.grown_head {w wa w6 : World} {ob : Nat} {v : Value} {ps : List Pr} {nx : Int} (h : AccQ w wa ob v ps nx) (hg : wa.grownBy w6 v.ownBlock) : Cells w6 ob 43 #[v, .int .i64 nx] :=
  (hg.block ob h.head.lt (fun e => h.ne e.symm)).trans h.head
theorem AccQ.grow {w wa w6 : World} {ob : Nat} {v v' : Value} {ps : List Pr} {nx : Int} {p : Pr} (h : AccQ w wa ob v ps nx)
    (ho : w6.ownsRow w.heap.size 162 4 v' (ps.length + 1) (entCells ps ++ entCell p)) (hg : wa.grownBy w6 v.ownBlock) :
    AccQ w (w6.setCell ⟨ob, 0, none⟩ v') ob v' (ps ++ [p]) nx := by
  have h6 := h.grown_head hg
  refine ⟨?_, ?_, ?_, h.lo⟩
  · have := h6.set 0 v'
    simpa [List.setIfInBounds_toArray, List.set] using this
  · rw [List.length_append, entCells_snoc]
    exact row_cell ho (own_cells_ne ho h6 (by decide)) _
  · exact (h.below.grown hg h.below.size (fun k e => (h.row.lt k e).1)).setCell (p := ⟨ob, 0, none⟩) h.lo _
theorem AccQ.other {w wr : World} {ob : Nat} {v : Value} {ps : List Pr} {nx : Int} (h : AccQ w wr ob v ps nx) {b : Nat} (i : Nat) (u : Value) (hb : w.heap.size ≤ b) (h1 : b ≠ ob) (h2 : ∀ r, v.ownBlock = some r → r ≠ b) : AccQ w (wr.setCell ⟨b, i, none⟩ u) ob v ps nx :=
  ⟨h.head.other (p := ⟨b, i, none⟩) (fun e => h1 e.symm) u, row_cell h.row (fun e => h2 b e rfl) u, h.below.setCell (p := ⟨b, i, none⟩) hb u, h.lo⟩
theorem AccQ.start (w : World) (nx : Int) : AccQ w (w.alloc (.cells #[.slice none 0 0, .int .i64 nx] 43)) w.heap.size (.slice none 0 0) [] nx :=
  ⟨Cells.new _ _ _, ⟨rfl, .inl ⟨rfl, rfl⟩⟩, (Below.refl _ _).alloc (Nat.le_refl _) _, Nat.le_refl _⟩
/-- The document's list behind an edit: where its blocks lie. x: the fields that came in. -/
structure WrQ (w : World) (v : Value) (ps : List Pr) (x : Value) (es : List En) (w' : World) (v' : Value) (ps' : List Pr) : Prop where
  ents : EntsQ w' v' ps'
  es : ps'.map Prod.fst = es
  below : Below w.heap.size w w'
  blk : v' = v ∨ ∀ b, v'.ownBlock = some b → w.heap.size ≤ b
  mem : ∀ p ∈ ps', p ∈ ps ∨ p.2 = x
theorem WrQ.same {w w' : World} {v : Value} {ps : List Pr} {x : Value} {es : List En} (h : EntsQ w v ps) (he : ps.map Prod.fst = es) (hb : Below w.heap.size w w') : WrQ w v ps x es w' v ps :=
  ⟨h.below hb (Nat.le_refl _), he, hb, .inl rfl, fun p hp => .inl hp⟩
theorem AccQ.done {w wr : World} {ob : Nat} {v v' : Value} {ps ps' : List Pr} {nx : Int} {x : Value} {fs : List Fld} {es : List En} (h : AccQ w wr ob v' ps' nx) (hq : EntsQ w v ps) (hx : Flds w x fs) (he : ps'.map Prod.fst = es) (hm : ∀ p ∈ ps', p ∈ ps ∨ (p.2 = x ∧ p.1.1.fields = fs)) : WrQ w v ps x es wr v' ps' := by
  refine ⟨⟨rowBase h.row (Nat.zero_le _), fun p hp => ?_⟩, he, h.below, .inr fun b hb => (h.row.lt b hb).1, fun p hp => (hm p hp).imp id (·.1)⟩
  rcases hm p hp with q | ⟨q1, q2⟩
  · exact (hq.each p q).below h.below (Nat.le_refl _)
  · rw [q1, q2]; exact hx.below h.below (Nat.le_refl _)
theorem AccQ.end_ {w w1 wr : World} {ob : Nat} {v v' : Value} {ps ps' : List Pr} {nx : Int} {x : Value} {fs : List Fld} {es : List En} (h : AccQ w1 wr ob v' ps' nx) (hb : Below w.heap.size w w1) (hq : EntsQ w v ps) (hx : Flds w x fs) (he : ps'.map Prod.fst = es) (hm : ∀ p ∈ ps', p ∈ ps ∨ (p.2 = x ∧ p.1.1.fields = fs)) {b : Nat} (h1 : w.heap.size ≤ b) (h2 : b < w1.heap.size) (i j : Nat) (a c : Value) :
    WrQ w v ps x es ((wr.setCell ⟨b, i, none⟩ a).setCell ⟨b, j, none⟩ c) v' ps' := by
  have hB : Below w.heap.size w ((wr.setCell ⟨b, i, none⟩ a).setCell ⟨b, j, none⟩ c) := ((hb.trans (h.below.mono hb.size)).setCell (p := ⟨b, i, none⟩) h1 _).setCell (p := ⟨b, j, none⟩) h1 _
  have hne : v'.ownBlock ≠ some b := fun e => by have := (h.row.lt b e).1; omega
  refine ⟨⟨row_cell (row_cell (rowBase h.row (Nat.zero_le _)) hne _) hne _, fun p hp => ?_⟩, he, hB, .inr fun r hr => Nat.le_trans hb.size (h.row.lt r hr).1, fun p hp => (hm p hp).imp id (·.1)⟩
  rcases hm p hp with q | ⟨q1, q2⟩
  · exact (hq.each p q).below hB (Nat.le_refl _)
  · rw [q1, q2]; exact hx.below hB (Nat.le_refl _)
theorem WrQ.from {w w1 w' : World} {v v' : Value} {ps ps' : List Pr} {x : Value} {es : List En} (h : WrQ w1 v ps x es w' v' ps') (hb : Below w.heap.size w w1) : WrQ w v ps x es w' v' ps' :=
  ⟨h.ents, h.es, hb.trans (h.below.mono hb.size), h.blk.imp id fun q b e => Nat.le_trans hb.size (q b e), h.mem⟩
end Go.Proofs.YtkcklnnmcmjnjaaGreatDoor

namespace Go.Proofs.YtkcklnnmcmjnjaaGreatDoor
open Go.RowKit Go.Shelf
attribute [local go_sem] Oper.semAt_some

end Go.Proofs.YtkcklnnmcmjnjaaGreatDoor

namespace Go.Proofs.YtkcklnnmcmjnjaaGreatDoor
open Go.RowKit Go.Shelf
attribute [local go_sem] Oper.semAt_some

end Go.Proofs.YtkcklnnmcmjnjaaGreatDoor

namespace Go.Proofs.YtkcklnnmcmjnjaaGreatDoor
open Go.RowKit Go.Shelf
attribute [local go_sem] Oper.semAt_some

/-- With the fresh entry's box. -/
structure AccF (w wr : World) (ob fb : Nat) (cf : Array Value) (v : Value) (ps : List Pr) (nx : Int) : Prop where
  acc : AccQ w wr ob v ps nx
  fr : Cells wr fb 162 cf
  ne : ∀ r, v.ownBlock = some r → r ≠ fb
  ob : fb ≠ ob
theorem AccF.alloc {w wr : World} {ob fb : Nat} {cf : Array Value} {v : Value} {ps : List Pr} {nx : Int} (h : AccF w wr ob fb cf v ps nx) (o : Obj) : AccF w (wr.alloc o) ob fb cf v ps nx := ⟨h.acc.alloc o, h.fr.alloc o, h.ne, h.ob⟩
theorem AccF.snoc {w wa w6 : World} {ob fb : Nat} {cf : Array Value} {v v' : Value} {ps : List Pr} {nx : Int} {p : Pr} (h : AccF w wa ob fb cf v ps nx)
    (ho : w6.ownsRow 0 162 4 v' (ps.length + 1) (entCells ps ++ entCell p)) (h6 : Cells w6 ob 43 #[v, .int .i64 nx]) (hk : v'.ownBlock = v.ownBlock ∨ ∃ k, v'.ownBlock = some k ∧ wa.heap.size ≤ k ∧ k < w6.heap.size) (o6 : Only (fun r => some r = v.ownBlock) wa w6) :
    AccF w (w6.setCell ⟨ob, 0, none⟩ v') ob fb cf v' (ps ++ [p]) nx := by
  refine ⟨h.acc.snoc ho h6 hk o6, (h.fr.only o6 (fun e => h.ne fb e.symm rfl)).other (p := ⟨ob, 0, none⟩) h.ob _, fun r hr => ?_, h.ob⟩
  rcases hk with hk | ⟨k, hk, h1, _⟩
  · exact h.ne r (by rw [← hk]; exact hr)
  · rw [hk] at hr
    have : k = r := Option.some.inj hr
    have := h.fr.lt
    omega
theorem AccF.grow {w wa w6 : World} {ob fb : Nat} {cf : Array Value} {v v' : Value} {ps : List Pr} {nx : Int} {p : Pr} (h : AccF w wa ob fb cf v ps nx)
    (ho : w6.ownsRow w.heap.size 162 4 v' (ps.length + 1) (entCells ps ++ entCell p)) (hg : wa.grownBy w6 v.ownBlock) (hk : v'.ownBlock = v.ownBlock ∨ v'.ownBlock = some wa.heap.size) :
    AccF w (w6.setCell ⟨ob, 0, none⟩ v') ob fb cf v' (ps ++ [p]) nx := by
  refine ⟨h.acc.grow ho hg, (h.fr.grown hg (fun e => h.ne fb e.symm rfl)).other (p := ⟨ob, 0, none⟩) h.ob _, fun r hr => ?_, h.ob⟩
  rcases hk with hk | hk
  · exact h.ne r (by rw [← hk]; exact hr)
  · rw [hk] at hr
    have : wa.heap.size = r := Option.some.inj hr
    have := h.fr.lt
    omega
end Go.Proofs.YtkcklnnmcmjnjaaGreatDoor

namespace Go.Proofs.YtkcklnnmcmjnjaaGreatDoor
open Go.RowKit Go.Shelf

/-- A slice of fields that may be written over: its block. -/
def MineP (w : World) (P : Nat → Prop) (v : Value) (n : Nat) : Prop :=
  n = 0 ∧ (∃ A c, v = .slice A 0 c) ∨ ∃ g cap cur, v = .slice (some ⟨g, 0, none⟩) n cap ∧ n ≤ cap ∧ P g ∧ w.heap[g]? = some (.cells cur 35 (0, 0)) ∧ n * 2 ≤ cur.size
/-- Fields in those blocks may have turned. -/
structure Spoils (P : Nat → Prop) (w w' : World) : Prop where
  os : w'.os = w.os
  tape : w'.tape = w.tape
  output : w'.output = w.output
  size : w.heap.size ≤ w'.heap.size
  same : ∀ (r : Nat) o, w.heap[r]? = some o → w'.heap[r]? = some o ∨ (P r ∧ ∃ cur cur', o = .cells cur 35 (0, 0) ∧ w'.heap[r]? = some (.cells cur' 35 (0, 0)) ∧ cur'.size = cur.size)
theorem Spoils.refl (P : Nat → Prop) (w : World) : Spoils P w w := ⟨rfl, rfl, rfl, Nat.le_refl _, fun _ _ h => .inl h⟩
theorem Spoils.trans {P : Nat → Prop} {a b c : World} (h : Spoils P a b) (g : Spoils P b c) : Spoils P a c := by
  refine ⟨g.os.trans h.os, g.tape.trans h.tape, g.output.trans h.output, Nat.le_trans h.size g.size, fun r o ho => ?_⟩
  rcases h.same r o ho with h1 | ⟨h1, cur, cur', rfl, h2, h3⟩
  · exact g.same r o h1
  · rcases g.same r _ h2 with g1 | ⟨_, c1, c2, g1, g2, g3⟩
    · exact .inr ⟨h1, cur, cur', rfl, g1, h3⟩
    · injection g1 with g1
      subst g1
      exact .inr ⟨h1, cur, c2, rfl, g2, g3.trans h3⟩
theorem Spoils.set {P : Nat → Prop} {g : Nat} {w : World} {cur : Array Value} (h : w.heap[g]? = some (.cells cur 35 (0, 0))) (hg : P g) (i : Nat) (u : Value) : Spoils P w (w.setCell ⟨g, i, none⟩ u) := by
  refine ⟨rfl, rfl, rfl, by simp [World.setCell], fun r o ho => ?_⟩
  by_cases e : r = g
  · subst e
    rw [h] at ho
    cases ho
    exact .inr ⟨hg, cur, cur.setIfInBounds i u, rfl, Cells.set (t := 35) h i u, by simp⟩
  · exact .inl ((Below.heap_setCell _ _ _ _ e).trans ho)
theorem Spoils.block {P : Nat → Prop} {w w' : World} (h : Spoils P w w') {r : Nat} (hr : r < w.heap.size) (hP : ¬ P r) : w'.heap[r]? = w.heap[r]? := by
  rcases h.same r _ (Array.getElem?_eq_getElem hr) with e | ⟨e, _⟩
  · rw [e]; exact (Array.getElem?_eq_getElem hr).symm
  · exact absurd e hP
theorem Spoils.below {P : Nat → Prop} {lo : Nat} {w w' : World} (h : Spoils P w w') (hP : ∀ r, P r → lo ≤ r) (hl : lo ≤ w.heap.size) : Below lo w w' :=
  ⟨h.os, h.tape, h.output, h.size, fun r hr => h.block (by omega) (fun q => by have := hP r q; omega)⟩
theorem MineP.spoils {P : Nat → Prop} {n : Nat} {w w' : World} {v : Value} (h : MineP w P v n) (hs : Spoils P w w') : MineP w' P v n := by
  rcases h with h | ⟨g, cap, cur, e, h0, h1, h2, h3⟩
  · exact .inl h
  · rcases hs.same g _ h2 with k | ⟨_, c1, c2, k1, k2, k3⟩
    · exact .inr ⟨g, cap, cur, e, h0, h1, k, h3⟩
    · injection k1 with k1
      subst k1
      exact .inr ⟨g, cap, c2, e, h0, h1, k2, by omega⟩
theorem MineP.below {P : Nat → Prop} {n N : Nat} {w w' : World} {v : Value} (h : MineP w P v n) (hb : Below N w w') (hN : w.heap.size ≤ N) : MineP w' P v n := by
  rcases h with h | ⟨g, cap, cur, e, h0, h1, h2, h3⟩
  · exact .inl h
  · have hg : g < w.heap.size := (Array.getElem?_eq_some_iff.1 h2).1
    exact .inr ⟨g, cap, cur, e, h0, h1, (hb.block g (by omega)).trans h2, h3⟩
theorem Spoils.alloc {P : Nat → Prop} {w w' : World} (h : Spoils P w w') (o : Obj) : Spoils P w (w'.alloc o) := by
  have hb := (Below.refl w'.heap.size w').alloc (Nat.le_refl _) o
  refine ⟨h.os, h.tape, h.output, Nat.le_trans h.size hb.size, fun r o ho => ?_⟩
  have hr : r < w'.heap.size := Nat.lt_of_lt_of_le (Array.getElem?_eq_some_iff.1 ho).1 h.size
  rw [hb.block r hr]
  exact h.same r o ho
theorem Spoils.kept {P : Nat → Prop} {w w' : World} {b : Nat} {t : TypeId} {cs : Array Value} (h : Spoils P w w') (hc : Cells w b t cs) (ht : t ≠ 35) : Cells w' b t cs := by
  rcases h.same b _ hc with e | ⟨_, c1, c2, e, _⟩
  · exact e
  · injection e with _ e _
    exact absurd e ht
theorem AccM.cellAt {w W : World} {v : Value} {fvs : List Value} {its : List It} {k : Nat} {it : It} (h : AccM w W v fvs its) (hi : its[k]? = some it) : ∃ g cap fv cur, v = .slice (some ⟨g, 0, none⟩) its.length cap ∧ fvs[k]? = some fv ∧ Cells W g 105 cur ∧ cur[k * 3]? = some (.int .i64 it.kind) ∧ cur[k * 3 + 1]? = some (.string (B it.raw)) ∧ cur[k * 3 + 1 + 1]? = some fv := by
  have hlt : k < its.length := by
    rcases Nat.lt_or_ge k its.length with q | q
    · exact q
    · rw [List.getElem?_eq_none q] at hi; cases hi
  obtain ⟨fv, hfv⟩ : ∃ fv, fvs[k]? = some fv := ⟨_, List.getElem?_eq_getElem (by rw [h.len]; exact hlt)⟩
  obtain ⟨a0, a1, a2⟩ := itemsCells_at _ _ k it fv hi hfv
  have hr := h.row
  rcases h.row.2 with ⟨_, q2⟩ | ⟨g, cap, cur, q1, q2, q3, _⟩
  · omega
  · have hC : Cells W g 105 cur := q3
    rw [q1] at hr
    refine ⟨g, cap, fv, cur, q1, hfv, hC, ?_, ?_, ?_⟩
    · rw [← hC.cell, World.ownsRow.cellAt hr (k * 3) (by omega)]; exact a0
    · rw [← hC.cell, World.ownsRow.cellAt hr (k * 3 + 1) (by omega)]; exact a1
    · rw [← hC.cell, World.ownsRow.cellAt hr (k * 3 + 1 + 1) (by omega)]; exact a2
set_option maxRecDepth 100000 in
set_option maxHeartbeats 4000000 in
theorem spoilP_any (n : Nat) (P : Nat → Prop) (v : Value) (w : World) (h : MineP w P v n) (hn : n ≤ 1000000) :
    Calls Tryz.prog 20 #[v] w fun e w' => e = .returned (.tuple #[]) ∧ Spoils P w w' := by
  have HM := Lib.hid h
  rcases h with ⟨rfl, A, c, rfl⟩ | ⟨g, cap, cur, rfl, hle, _, _, _⟩
  · go_enter Tryz.func20, Tryz.ntmps20
    go_wp2_with fail
    refine wp_loop_rounds 1 ?_
    rw [rounds_succ]
    go_wp2_with fail
    go_end0
    exact ⟨rfl, Spoils.refl _ _⟩
  · go_enter Tryz.func20, Tryz.ntmps20
    go_wp2_with fail
    go_loopw [5] (fun i wr => ∃ k : Nat, k ≤ n ∧ i = .int .i64 k ∧ Spoils P w wr) (fun i _ => n - (intOf i).toNat)
    case atStart => exact ⟨0, Nat.zero_le _, rfl, Spoils.refl _ _⟩
    case round =>
      obtain ⟨k, hk, rfl, hs⟩ := hrel
      by_cases hlt : k < n
      · rcases HM.out.spoils hs with ⟨h0, _⟩ | ⟨g', cap', cur', e, h0, h1, h2, h3⟩
        · omega
        · cases e
          have hC : Cells wr g 35 cur' := h2
          obtain ⟨x0, hx0⟩ : ∃ x, cur'[k * 2]? = some x := ⟨_, Array.getElem?_eq_getElem (by omega)⟩
          obtain ⟨x1, hx1⟩ : ∃ x, cur'[k * 2 + 1]? = some x := ⟨_, Array.getElem?_eq_getElem (by omega)⟩
          have c0 : wr.cell? ⟨g, k * 2, none⟩ = some x0 := (hC.cell _).trans hx0
          have c1 : wr.cell? ⟨g, k * 2 + 1, none⟩ = some x1 := (hC.cell _).trans hx1
          have f0 := hC.frozen (k * 2)
          have f1 := hC.frozen (k * 2 + 1)
          have HC := Lib.hid hC
          have HS := Lib.hid hs
          have H1 := Lib.hid h1
          clear HM hs h2 hC hx0 hx1 h1
          go_wp2_with fail
          go_roundw
          case rel =>
            refine ⟨k + 1, hlt, by go_num, HS.out.trans ((Spoils.set HC.out H1.out (k * 2) _).trans (Spoils.set (HC.out.set (k * 2) _) H1.out (k * 2 + 1) _))⟩
          case measure => simp [intOf]; omega
      · obtain rfl : k = n := by omega
        clear HM
        go_wp2_with fail
        go_end0
        exact ⟨rfl, hs⟩
end Go.Proofs.YtkcklnnmcmjnjaaGreatDoor

namespace Go.Proofs.YtkcklnnmcmjnjaaGreatDoor
open Go.RowKit Go.Shelf

/-- The blocks of both lists. -/
def BlkR (lb : Nat) (ev : Value) (ps : List Pr) (v : Value) (qs : List Pr) (r : Nat) : Prop :=
  r = lb ∨ ev.ownBlock = some r ∨ v.ownBlock = some r ∨ (∃ p ∈ ps, p.1.1.fields ≠ [] ∧ p.2.ownBlock = some r) ∨ (∃ p ∈ qs, p.1.1.fields ≠ [] ∧ p.2.ownBlock = some r)
structure StR (w : World) (lb : Nat) (ev : Value) (ps : List Pr) (nx : Int) (v : Value) (qs : List Pr) : Prop where
  la : LA w lb ev ps nx
  q : EntsQ w v qs
  va : ∀ b, v.ownBlock = some b → b ≠ lb ∧ ev.ownBlock ≠ some b
  qa : ∀ p ∈ qs, p.1.1.fields ≠ [] → ∀ b, p.2.ownBlock = some b → b ≠ lb ∧ ev.ownBlock ≠ some b
theorem EntsQ.only {w w' : World} {v : Value} {ps : List Pr} {S : Nat → Prop} (h : EntsQ w v ps) (g : Only S w w') (h1 : ∀ b, v.ownBlock = some b → ¬ S b) (h2 : ∀ p ∈ ps, p.1.1.fields ≠ [] → ∀ b, p.2.ownBlock = some b → ¬ S b) : EntsQ w' v ps :=
  ⟨row_only h.row g h1, fun p hp => (h.each p hp).only g (fun hne b hb => h2 p hp hne b hb)⟩
theorem StR.lt {w : World} {lb : Nat} {ev : Value} {ps : List Pr} {nx : Int} {v : Value} {qs : List Pr} (h : StR w lb ev ps nx v qs) {r : Nat} (hr : BlkR lb ev ps v qs r) : r < w.heap.size := by
  rcases hr with rfl | hr | hr | ⟨p, hp, hne, hb⟩ | ⟨p, hp, hne, hb⟩
  · exact h.la.lr.head.lt
  · exact (h.la.lr.ents.row.lt r hr).2
  · exact (h.q.row.lt r hr).2
  · exact (h.la.lr.ents.each p hp).1.lt hne r hb
  · exact (h.q.each p hp).lt hne r hb
theorem StR.only {w w' : World} {lb : Nat} {ev : Value} {ps : List Pr} {nx : Int} {v : Value} {qs : List Pr} {S : Nat → Prop} (h : StR w lb ev ps nx v qs) (g : Only S w w') (hs : ∀ r, BlkR lb ev ps v qs r → ¬ S r) : StR w' lb ev ps nx v qs := by
  refine ⟨⟨⟨h.la.lr.head.only g (hs lb (.inl rfl)), ⟨row_only h.la.lr.ents.row g (fun b hb => hs b (.inr (.inl hb))), fun p hp => (h.la.lr.ents.each p hp).only g (fun hne b hb => hs b (.inr (.inr (.inr (.inl ⟨p, hp, hne, hb⟩)))))⟩⟩, h.la.apart⟩, ?_, h.va, h.qa⟩
  exact h.q.only g (fun b hb => hs b (.inr (.inr (.inl hb)))) (fun p hp hne b hb => hs b (.inr (.inr (.inr (.inr ⟨p, hp, hne, hb⟩)))))
theorem StR.below {w w' : World} {lb : Nat} {ev : Value} {ps : List Pr} {nx : Int} {v : Value} {qs : List Pr} {N : Nat} (h : StR w lb ev ps nx v qs) (hb : Below N w w') (hN : w.heap.size ≤ N) : StR w' lb ev ps nx v qs :=
  h.only (S := fun _ => False) (Only.of_below hb hN) (fun _ _ e => e)
theorem only_one {b : Nat} (w : World) (i : Nat) (u : Value) : Only (· = b) w (w.setCell ⟨b, i, none⟩ u) := (Only.refl (· = b) w).cellS i u
theorem StR.set {w : World} {lb : Nat} {ev : Value} {ps : List Pr} {nx : Int} {v : Value} {qs : List Pr} (h : StR w lb ev ps nx v qs) {b : Nat} (i : Nat) (u : Value) (hs : ¬ BlkR lb ev ps v qs b) : StR (w.setCell ⟨b, i, none⟩ u) lb ev ps nx v qs :=
  h.only (only_one (b := b) w i u) (fun r hr e => hs (by rw [← e]; exact hr))
theorem StR.drew {w : World} {lb : Nat} {ev : Value} {ps : List Pr} {nx : Int} {v : Value} {qs : List Pr} (h : StR w lb ev ps nx v qs) : StR w.drew lb ev ps nx v qs := h.below ((Below.refl _ _).drew) (Nat.le_refl _)
end Go.Proofs.YtkcklnnmcmjnjaaGreatDoor

namespace Go.Proofs.YtkcklnnmcmjnjaaGreatDoor
open Go.RowKit Go.Shelf
attribute [local go_sem] Oper.semAt_some

theorem stzP_len {ps : List Pr} (h : WF (ps.map Prod.fst)) : (stzP 0 ps).length = lenR (ps.map Prod.fst) := by
  rw [← len_both h]
  unfold stzs stzOn stzP
  rw [← stzG_map (κ := fun e : En => e.1.kind) Prod.fst, List.length_map]
theorem findP_R {ps : List Pr} (h : WF (ps.map Prod.fst)) (id : Int) : findP ps id = findR (ps.map Prod.fst) id := by rw [findP_E, find_both h]
theorem gapP_R {ps : List Pr} (h : WF (ps.map Prod.fst)) (id : Int) : gapP ps id = gapR (ps.map Prod.fst) id := by unfold gapP gapR; rw [findP_R h]
theorem full_R {ps : List Pr} (h : WF (ps.map Prod.fst)) (h4 : lenR (ps.map Prod.fst) ≤ 400) : decide ((stzP 0 ps).length = 400) = decide (400 ≤ lenR (ps.map Prod.fst)) := by
  rw [stzP_len h]; exact decide_eq_decide.2 ⟨fun e => by omega, fun e => by omega⟩
end Go.Proofs.YtkcklnnmcmjnjaaGreatDoor

namespace Go.Proofs.YtkcklnnmcmjnjaaGreatDoor
open Go.RowKit

theorem getD_set (l : Array Bool) (i : Nat) (hi : i < l.size) (j : Nat) : (l.setIfInBounds i true).getD j false = if j = i then true else l.getD j false := by
  rw [Array.getD_eq_getD_getElem?, Array.getD_eq_getD_getElem?, Array.getElem?_setIfInBounds]
  by_cases h : i = j
  · subst h; simp [hi]
  · rw [if_neg h, if_neg (Ne.symm h)]
theorem lt_of_getD {l : Array Bool} {i : Nat} (h : l.getD i true = false) : i < l.size := by
  rcases Nat.lt_or_ge i l.size with q | q
  · exact q
  · simp [Array.getD, Nat.not_lt.2 q] at h
theorem all_done {ops : Array Oper} {l : Array Bool} (hs : l.size = ops.size) (hlow : ∀ i o e, ops[i]? = some o → e ∈ o.after → Region.binds .any e = true → e.on < i) (hr : Region.ready .any ops l = []) : ∀ i, i < ops.size → l.getD i false = true := by
  intro i
  induction i using Nat.strongRecOn with
  | _ i ih =>
    intro hi
    cases hl : l.getD i false with
    | true => rfl
    | false =>
      exfalso
      have ho : ops[i]? = some ops[i] := Array.getElem?_eq_getElem hi
      have : i ∈ Region.ready .any ops l := by
        unfold Region.ready
        rw [List.mem_filter]
        refine ⟨List.mem_range.2 hi, ?_⟩
        have hl2 : l.getD i true = false := by
          have hil : i < l.size := by omega
          simp [Array.getD, hil] at hl ⊢; exact hl
        simp only [ho, Option.map_some, Option.getD_some, Bool.and_eq_true, Bool.not_eq_true']
        refine ⟨hl2, Array.all_eq_true_iff_forall_mem.2 fun e he => ?_⟩
        cases hb : Region.binds .any e with
        | false => simp
        | true =>
          have h1 := hlow i _ e ho he hb
          simp [ih e.on h1 (by omega)]
      rw [hr] at this
      cases this
end Go.Proofs.YtkcklnnmcmjnjaaGreatDoor

namespace Go.Proofs.YtkcklnnmcmjnjaaGreatDoor
open Go.RowKit Go.Shelf
attribute [local go_sem] Oper.semAt_some

section
variable {o : Oper} {a : Act} {w : World} {K : Act → World → Prop} {Q : Exit → Act → World → Prop}
end
end Go.Proofs.YtkcklnnmcmjnjaaGreatDoor

namespace Go.Proofs.YtkcklnnmcmjnjaaGreatDoor
open Go.RowKit Go.Shelf
attribute [local go_sem] Oper.semAt_some

end Go.Proofs.YtkcklnnmcmjnjaaGreatDoor

namespace Go.Proofs.YtkcklnnmcmjnjaaGreatDoor
open Go.RowKit Go.Shelf Go.Maps Go.ChangeShapes Go.Joins Go.WideShapes
attribute [local go_sem] Oper.semAt_some

structure Ed where
  kind : Int
  id : Int
  fields : List Fld
structure EdIn (W : World) (cs : List Value) (ed : Ed) (fv : Value) : Prop where
  cs : cs = [.int .i64 ed.kind, .int .i64 ed.id, fv]
  flds : FldsIn W fv ed.fields
set_option maxRecDepth 100000 in
theorem edit_in {H : Type} {enc : TypeId × Value → H} {W : World} {base : Nat} {sp : Nat → Bool} {held : Bool} {fuel : Nat} {cs : List Value} {x : DataW H × List MemPlace} (h : DataW.trod enc Tryz.prog W base sp held fuel 33 cs = some x) :
    ∃ ed fv, EdIn W cs ed fv := by
  obtain ⟨xs, m, _, _, hl, hxl, hf⟩ := DataW.trod_struct Tryz.underlying33 h
  have hl2 : cs.length = 3 := hl.trans (by kernel_rfl)
  obtain ⟨c0, c1, c2, rfl⟩ := cells3 hl2
  have k3 : Tryz.prog.cellsOf 3 = 1 := by kernel_rfl
  have k40 : Tryz.prog.cellsOf 31 = 1 := by kernel_rfl
  have hx : ∀ i, i < 3 → ∃ y, xs[i]? = some y := fun i hi => ⟨_, List.getElem?_eq_getElem (by rw [hxl]; exact hi)⟩
  obtain ⟨y0, e0⟩ := hx 0 (by decide)
  obtain ⟨y1, e1⟩ := hx 1 (by decide)
  obtain ⟨y2, e2⟩ := hx 2 (by decide)
  have q0 : DataW.trod enc Tryz.prog W base sp held m 3 (List.take (Tryz.prog.cellsOf 3) [c0, c1, c2]) = _ := hf 0 _ rfl
  have q1 : DataW.trod enc Tryz.prog W base sp held m 3 (List.take (Tryz.prog.cellsOf 3) [c1, c2]) = _ := hf 1 _ rfl
  have q2 : DataW.trod enc Tryz.prog W base sp held m 31 (List.take (Tryz.prog.cellsOf 31) [c2]) = _ := hf 2 _ rfl
  rw [k3, e0] at q0
  rw [k3, e1] at q1
  rw [k40, e2] at q2
  obtain ⟨kind, f0, _, _⟩ := DataW.trod_int Tryz.underlying3 q0
  obtain ⟨id, f1, _, _⟩ := DataW.trod_int Tryz.underlying3 q1
  obtain ⟨fs, hfs⟩ := flds_in (v := c2) q2
  simp at f0 f1
  subst f0 f1
  exact ⟨⟨kind, id, fs⟩, c2, rfl, hfs⟩
/-- A script that came in. -/
structure EdsIn (w : World) (v : Value) (eds : List Ed) : Prop where
  len : eds.length ≤ maxLen
  at_ : ∃ A cap, v = .slice A eds.length cap ∧ eds.length ≤ cap ∧ ∀ (i : Nat) (ed : Ed), eds[i]? = some ed → ∃ b off fv, A = some ⟨b, off, none⟩ ∧ b < w.heap.size ∧ w.cell? ⟨b, off + i * 3, none⟩ = some (.int .i64 ed.kind) ∧ w.cell? ⟨b, off + i * 3 + 1, none⟩ = some (.int .i64 ed.id) ∧ w.cell? ⟨b, off + i * 3 + 1 + 1, none⟩ = some fv ∧ FldsIn w fv ed.fields
set_option maxRecDepth 100000 in
theorem edits_in {H : Type} {enc : TypeId × Value → H} {W : World} {base : Nat} {sp : Nat → Bool} {held : Bool} {fuel : Nat} {v : Value} {x : DataW H × List MemPlace} (h : DataW.trod enc Tryz.prog W base sp held fuel 22 [v] = some x) :
    ∃ eds, EdsIn W v eds := by
  rcases DataW.trod_slice Tryz.underlying22 h with ⟨e, _⟩ | ⟨a, len, cap, elems, rest, n, _, e, _, _, hl, hm, hlen, hel, _, _⟩
  · obtain rfl : v = .slice none 0 0 := by simpa using e
    exact ⟨[], ⟨Nat.zero_le _, none, 0, rfl, Nat.le_refl _, fun i f h => by simp at h⟩⟩
  · obtain rfl : v = .slice (some a) len cap := by simpa using e
    have k3 : Tryz.prog.cellsOf 33 = 3 := by kernel_rfl
    have each : ∀ i, i < len → ∃ ed : Ed, ∃ b off fv, a = ⟨b, off, none⟩ ∧ b < W.heap.size ∧ W.cell? ⟨b, off + i * 3, none⟩ = some (.int .i64 ed.kind) ∧ W.cell? ⟨b, off + i * 3 + 1, none⟩ = some (.int .i64 ed.id) ∧ W.cell? ⟨b, off + i * 3 + 1 + 1, none⟩ = some fv ∧ FldsIn W fv ed.fields := by
      intro i hi
      have h1 := hel i hi
      rw [k3, List.getElem?_eq_getElem (by omega)] at h1
      obtain ⟨cs, hc, ht⟩ := Option.bind_eq_some_iff.1 h1
      obtain ⟨ed, fv, rfl, hf⟩ := edit_in ht
      obtain ⟨_, _, hat⟩ := World.cells?_some hc
      have c0 := hat 0 (by decide)
      have c1 := hat 1 (by decide)
      have c2 := hat 2 (by decide)
      obtain ⟨b, off, spot⟩ := a
      have hspot : spot = none := by
        have h2 := hel 0 (by omega)
        rw [k3, List.getElem?_eq_getElem (by omega)] at h2
        obtain ⟨cs', hc', ht'⟩ := Option.bind_eq_some_iff.1 h2
        obtain ⟨ed', fv', rfl, _⟩ := edit_in ht'
        obtain ⟨_, hlen', hat'⟩ := World.cells?_some hc'
        have := World.cell?_spot (hat' 0 (by decide))
        simpa [Addr.add] using this
      subst hspot
      rw [WideShapes.add_plain] at c0 c1 c2
      exact ⟨ed, b, off, fv, rfl, World.block_lt_of_cell? W _ c0, c0, c1, c2, hf⟩
    have : ∃ g : Nat → Ed, ∀ i, i < len → ∃ b off fv, a = ⟨b, off, none⟩ ∧ b < W.heap.size ∧ W.cell? ⟨b, off + i * 3, none⟩ = some (.int .i64 (g i).kind) ∧ W.cell? ⟨b, off + i * 3 + 1, none⟩ = some (.int .i64 (g i).id) ∧ W.cell? ⟨b, off + i * 3 + 1 + 1, none⟩ = some fv ∧ FldsIn W fv (g i).fields := by
      refine ⟨fun i => if h : i < len then (each i h).choose else ⟨0, 0, []⟩, fun i hi => ?_⟩
      simp only [dif_pos hi]
      exact (each i hi).choose_spec
    obtain ⟨g, hg⟩ := this
    have hll : ((List.range len).map g).length = len := by simp
    refine ⟨(List.range len).map g, ⟨by rw [hll]; omega, some a, cap, by rw [hll], by rw [hll]; exact hl, fun i ed hi => ?_⟩⟩
    have hlt : i < len := by
      rcases Nat.lt_or_ge i len with q | q
      · exact q
      · rw [List.getElem?_eq_none (by rw [hll]; exact q)] at hi; cases hi
    rw [List.getElem?_map, List.getElem?_range hlt] at hi
    obtain rfl := (Option.some.inj hi).symm
    obtain ⟨b, off, fv, ea, hb, c0, c1, c2, hf⟩ := hg i hlt
    exact ⟨b, off, fv, by rw [ea], hb, c0, c1, c2, hf⟩
theorem FldsIn.kept {w w' : World} {v : Value} {fs : List Fld} {N : Nat} (h : FldsIn w v fs) (hb : Below N w w') (hN : w.heap.size ≤ N) : FldsIn w' v fs := ⟨h.flds.below hb hN, h.nil, h.len, h.each⟩
theorem EdsIn.below {w w' : World} {v : Value} {eds : List Ed} {N : Nat} (h : EdsIn w v eds) (hb : Below N w w') (hN : w.heap.size ≤ N) : EdsIn w' v eds := by
  obtain ⟨hl, A, cap, e, hle, hc⟩ := h
  refine ⟨hl, A, cap, e, hle, fun i ed hi => ?_⟩
  obtain ⟨b, off, fv, e1, hbb, c0, c1, c2, hf⟩ := hc i ed hi
  have hbN : b < N := by omega
  exact ⟨b, off, fv, e1, Nat.lt_of_lt_of_le hbb hb.size, (hb.cell (p := ⟨b, off + i * 3, none⟩) hbN).trans c0, (hb.cell (p := ⟨b, off + i * 3 + 1, none⟩) hbN).trans c1, (hb.cell (p := ⟨b, off + i * 3 + 1 + 1, none⟩) hbN).trans c2, hf.kept hb hN⟩
/-- What isn't heavy. -/
def Light (eds : List Ed) : Prop := eds.length ≤ 51 ∧ ∀ ed ∈ eds, ed.fields.length ≤ 61 ∧ (∀ f ∈ ed.fields, f.1.length ≤ 6000 ∧ f.2.length ≤ 6000) ∧ minF ed.fields ≤ 6000
def HeavyR (eds : List Ed) (e : Ending) : Prop := ∃ b : Bool, e = .returned (.bool b) ∧ (b = false → Light eds)
theorem Light.fine {eds : List Ed} (h : Light eds) {ed : Ed} (he : ed ∈ eds) : Fine7 ed.fields :=
  ⟨by have := (h.2 ed he).1; omega, fun f hf => by have := (h.2 ed he).2.1 f hf; omega⟩
set_option maxRecDepth 100000 in
set_option maxHeartbeats 4000000 in
theorem heavy_any (eds : List Ed) (v : Value) (w : World) (h : EdsIn w v eds) :
    Calls Tryz.prog 10 #[v] w fun e w' => HeavyR eds e ∧ Below w.heap.size w w' := by
  have HH := Lib.hid h
  obtain ⟨hm, A, cap, rfl, hle, hc⟩ := h
  have PC := Lib.hid hc
  clear hc
  unfold maxLen at hm
  go_enter Tryz.func10, Tryz.ntmps10
  go_wp2_with fail
  go_loopw [7] (fun i wr => ∃ k : Nat, k ≤ eds.length ∧ k ≤ 51 ∧ i = .int .i64 k ∧ (∀ ed ∈ eds.take k, ed.fields.length ≤ 61 ∧ (∀ f ∈ ed.fields, f.1.length ≤ 6000 ∧ f.2.length ≤ 6000) ∧ minF ed.fields ≤ 6000) ∧ Below w.heap.size w wr) (fun i _ => eds.length - (intOf i).toNat)
  case atStart => exact ⟨0, Nat.zero_le _, by decide, rfl, (fun ed h => by simp at h), Below.refl _ _⟩
  case round =>
    obtain ⟨k, hk, hk51, rfl, hsm, hb⟩ := hrel
    by_cases hlt : k < eds.length
    · obtain ⟨ed, hed⟩ : ∃ ed, eds[k]? = some ed := ⟨_, List.getElem?_eq_getElem hlt⟩
      obtain ⟨b, off, fv, rfl, hbb, c0, c1, c2, hf⟩ := PC.out k ed hed
      obtain ⟨fa, fc, rfl, _, _⟩ := _root_.id hf.flds
      replace c0 := (hb.cell (p := ⟨b, off + k * 3, none⟩) hbb).trans c0
      replace c1 := (hb.cell (p := ⟨b, off + k * 3 + 1, none⟩) hbb).trans c1
      replace c2 := (hb.cell (p := ⟨b, off + k * 3 + 1 + 1, none⟩) hbb).trans c2
      have TK := Lib.hid (show eds.take (k + 1) = eds.take k ++ [ed] by rw [List.take_add_one, hed]; rfl)
      have HSM := Lib.hid hsm
      obtain ⟨wa, hwa⟩ : ∃ wa, wa = wr.alloc (.cells #[.int .i64 ed.kind, .int .i64 ed.id, .slice fa ed.fields.length fc] 33) := ⟨_, rfl⟩
      have hba : Below w.heap.size w wa := by rw [hwa]; exact hb.alloc hb.size _
      have MU := Lib.hid (much_any ed.fields (.slice fa ed.fields.length fc) wa (hf.kept hba (Nat.le_refl _)).flds hf.len hf.each)
      have HBA := Lib.hid hba
      clear hed hsm hf hba
      by_cases h50 : 50 < k
      · subst hwa
        go_wp2_with fail
        go_ret
        exact ⟨⟨true, rfl, fun h => by cases h⟩, HBA.out⟩
      · subst hwa
        go_wp2_with fail
        refine MU.out.mono ?_
        rintro e w2 ⟨⟨q, rfl, hq⟩, b2⟩
        have HB2 := Lib.hid (HBA.out.trans (b2.mono HBA.out.size))
        have HQ := Lib.hid hq
        clear b2 hq MU
        cases q with
        | true =>
          go_wp2_with fail
          go_ret
          exact ⟨⟨true, rfl, fun h => by cases h⟩, HB2.out⟩
        | false =>
          go_wp2_with fail
          go_roundw
          case rel =>
            refine ⟨k + 1, hlt, by omega, by go_num, fun x hx => ?_, HB2.out⟩
            rw [TK.out] at hx
            rcases List.mem_append.1 hx with hx | hx
            · exact HSM.out x hx
            · rw [List.mem_singleton.1 hx]
              obtain ⟨a1, a2, a3⟩ := HQ.out (by first | exact rfl | trivial)
              exact ⟨a1, a2, a3⟩
          case measure => simp [intOf]; omega
    · obtain rfl : k = eds.length := by omega
      rw [List.take_length] at hsm
      have HSM := Lib.hid hsm
      clear PC hsm
      go_wp2_with fail
      go_ret
      exact ⟨⟨false, rfl, fun _ => ⟨hk51, HSM.out⟩⟩, hb⟩
end Go.Proofs.YtkcklnnmcmjnjaaGreatDoor

