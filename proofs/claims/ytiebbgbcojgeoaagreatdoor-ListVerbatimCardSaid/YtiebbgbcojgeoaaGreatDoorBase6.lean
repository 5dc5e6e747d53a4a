/- Texts put together: UR, US, UT, NA, TO, NB, NC, RT, NR, ND, NE, NF, NI, NJ, NL, NM. -/
import Derived.Deep.RegionHeld3
import Derived.StillTailTactics
import Derived.Test.YtiebbgbcojgeoaaGreatDoorBase5
set_option linter.unusedVariables false
/- The document's list written anew: what it leaves; Replace. -/
namespace Go.Proofs.YtiebbgbcojgeoaaGreatDoor
open Go.RowKit Go.Shelf
attribute [local go_sem] Oper.semAt_some

theorem infoQ : (Tryz.prog.info? 105).map (fun i => (i.zero, i.size, i.bytes)) = some (some (.agg #[.int .i64 0, .string ⟨#[]⟩, .slice none 0 0, .int .i64 0]), 4, 56) := by kernel_rfl
/-- The document's list as it is made: its box, its row in new memory. -/
structure AccQ (w wr : World) (ob : Nat) (v : Value) (ps : List Pr) (nx : Int) : Prop where
  head : Cells wr ob 32 #[v, .int .i64 nx]
  row : wr.ownsRow w.heap.size 105 4 v ps.length (entCells ps)
  below : Below w.heap.size w wr
  lo : w.heap.size ≤ ob
theorem AccQ.ne {w wr : World} {ob : Nat} {v : Value} {ps : List Pr} {nx : Int} (h : AccQ w wr ob v ps nx) : v.ownBlock ≠ some ob :=
  own_cells_ne h.row h.head (by decide)
theorem AccQ.alloc {w wr : World} {ob : Nat} {v : Value} {ps : List Pr} {nx : Int} (h : AccQ w wr ob v ps nx) (o : Obj) : AccQ w (wr.alloc o) ob v ps nx :=
  ⟨h.head.alloc o, h.row.alloc o, h.below.alloc h.below.size o, h.lo⟩
theorem AccQ.drew {w wr : World} {ob : Nat} {v : Value} {ps : List Pr} {nx : Int} (h : AccQ w wr ob v ps nx) : AccQ w wr.drew ob v ps nx := ⟨h.head.drew, h.row, h.below.drew, h.lo⟩
theorem AccQ.kept {w wr w2 : World} {ob : Nat} {v : Value} {ps : List Pr} {nx : Int} (h : AccQ w wr ob v ps nx) (hb : Below wr.heap.size wr w2) : AccQ w w2 ob v ps nx :=
  ⟨cells_kept h.head hb h.head.lt, own_kept h.row hb (Nat.le_refl _), h.below.trans (hb.mono h.below.size), h.lo⟩
theorem AccQ.snoc {w wa w6 : World} {ob : Nat} {v v' : Value} {ps : List Pr} {nx : Int} {p : Pr} (h : AccQ w wa ob v ps nx)
    (ho : w6.ownsRow 0 105 4 v' (ps.length + 1) (entCells ps ++ entCell p)) (h6 : Cells w6 ob 32 #[v, .int .i64 nx]) (hk : v'.ownBlock = v.ownBlock ∨ ∃ k, v'.ownBlock = some k ∧ wa.heap.size ≤ k ∧ k < w6.heap.size) (o6 : Only (fun r => some r = v.ownBlock) wa w6) :
    AccQ w (w6.setCell ⟨ob, 0, none⟩ v') ob v' (ps ++ [p]) nx := by
  have hne : v'.ownBlock ≠ some ob := by
    intro e
    rcases hk with hk | ⟨k, hk, h1, _⟩
    · rw [hk] at e; exact h.ne e
    · rw [hk] at e
      have : k = ob := Option.some.inj e
      have := h.head.lt
      omega
  have hz := h.below.size
  have hrow : w6.ownsRow w.heap.size 105 4 v' (ps.length + 1) (entCells ps ++ entCell p) := by
    rcases ho.2 with ⟨q, _⟩ | ⟨g2, cap2, cur2, q, _, rest⟩
    · exact ⟨ho.1, .inl ⟨q, by omega⟩⟩
    · refine ⟨ho.1, .inr ⟨g2, cap2, cur2, q, ?_, rest⟩⟩
      rcases hk with hk | ⟨k, hk, h1, _⟩
      · exact (h.row.lt g2 (by rw [← hk, q]; rfl)).1
      · rw [q] at hk
        have : g2 = k := Option.some.inj hk
        omega
  refine ⟨?_, ?_, ?_, h.lo⟩
  · have := h6.set 0 v'
    simpa [List.setIfInBounds_toArray, List.set] using this
  · rw [List.length_append, entCells_snoc]
    exact row_cell hrow hne _
  · have b6 : Below w.heap.size wa w6 := o6.to_below hz (fun r hr e => by
      have := (h.row.lt r e.symm).1
      omega)
    exact (h.below.trans b6).setCell (p := ⟨ob, 0, none⟩) h.lo _
theorem AccQ.grown_head {w wa w6 : World} {ob : Nat} {v : Value} {ps : List Pr} {nx : Int} (h : AccQ w wa ob v ps nx) (hg : wa.grownBy w6 v.ownBlock) : Cells w6 ob 32 #[v, .int .i64 nx] :=
  (hg.block ob h.head.lt (fun e => h.ne e.symm)).trans h.head
theorem AccQ.grow {w wa w6 : World} {ob : Nat} {v v' : Value} {ps : List Pr} {nx : Int} {p : Pr} (h : AccQ w wa ob v ps nx)
    (ho : w6.ownsRow w.heap.size 105 4 v' (ps.length + 1) (entCells ps ++ entCell p)) (hg : wa.grownBy w6 v.ownBlock) :
    AccQ w (w6.setCell ⟨ob, 0, none⟩ v') ob v' (ps ++ [p]) nx := by
  have h6 := h.grown_head hg
  refine ⟨?_, ?_, ?_, h.lo⟩
  · have := h6.set 0 v'
    simpa [List.setIfInBounds_toArray, List.set] using this
  · rw [List.length_append, entCells_snoc]
    exact row_cell ho (own_cells_ne ho h6 (by decide)) _
  · exact (h.below.grown hg h.below.size (fun k e => (h.row.lt k e).1)).setCell (p := ⟨ob, 0, none⟩) h.lo _
theorem AccQ.other {w wr : World} {ob : Nat} {v : Value} {ps : List Pr} {nx : Int} (h : AccQ w wr ob v ps nx) {b : Nat} (i : Nat) (u : Value) (hb : w.heap.size ≤ b) (h1 : b ≠ ob) (h2 : ∀ r, v.ownBlock = some r → r ≠ b) : AccQ w (wr.setCell ⟨b, i, none⟩ u) ob v ps nx :=
  ⟨h.head.other (p := ⟨b, i, none⟩) (fun e => h1 e.symm) u, row_cell h.row (fun e => h2 b e rfl) u, h.below.setCell (p := ⟨b, i, none⟩) hb u, h.lo⟩
theorem AccQ.start (w : World) (nx : Int) : AccQ w (w.alloc (.cells #[.slice none 0 0, .int .i64 nx] 32)) w.heap.size (.slice none 0 0) [] nx :=
  ⟨Cells.new _ _ _, ⟨rfl, .inl ⟨rfl, rfl⟩⟩, (Below.refl _ _).alloc (Nat.le_refl _) _, Nat.le_refl _⟩
/-- The document's list behind an edit: where its blocks lie. x: the fields that came in. -/
structure WrQ (w : World) (v : Value) (ps : List Pr) (x : Value) (es : List En) (w' : World) (v' : Value) (ps' : List Pr) : Prop where
  ents : EntsQ w' v' ps'
  es : ps'.map Prod.fst = es
  below : Below w.heap.size w w'
  blk : v' = v ∨ ∀ b, v'.ownBlock = some b → w.heap.size ≤ b
  mem : ∀ p ∈ ps', p ∈ ps ∨ p.2 = x
theorem WrQ.same {w w' : World} {v : Value} {ps : List Pr} {x : Value} {es : List En} (h : EntsQ w v ps) (he : ps.map Prod.fst = es) (hb : Below w.heap.size w w') : WrQ w v ps x es w' v ps :=
  ⟨h.below hb (Nat.le_refl _), he, hb, .inl rfl, fun p hp => .inl hp⟩
theorem AccQ.done {w wr : World} {ob : Nat} {v v' : Value} {ps ps' : List Pr} {nx : Int} {x : Value} {fs : List Fld} {es : List En} (h : AccQ w wr ob v' ps' nx) (hq : EntsQ w v ps) (hx : Flds w x fs) (he : ps'.map Prod.fst = es) (hm : ∀ p ∈ ps', p ∈ ps ∨ (p.2 = x ∧ p.1.1.fields = fs)) : WrQ w v ps x es wr v' ps' := by
  refine ⟨⟨rowBase h.row (Nat.zero_le _), fun p hp => ?_⟩, he, h.below, .inr fun b hb => (h.row.lt b hb).1, fun p hp => (hm p hp).imp id (·.1)⟩
  rcases hm p hp with q | ⟨q1, q2⟩
  · exact (hq.each p q).below h.below (Nat.le_refl _)
  · rw [q1, q2]; exact hx.below h.below (Nat.le_refl _)
theorem AccQ.end_ {w w1 wr : World} {ob : Nat} {v v' : Value} {ps ps' : List Pr} {nx : Int} {x : Value} {fs : List Fld} {es : List En} (h : AccQ w1 wr ob v' ps' nx) (hb : Below w.heap.size w w1) (hq : EntsQ w v ps) (hx : Flds w x fs) (he : ps'.map Prod.fst = es) (hm : ∀ p ∈ ps', p ∈ ps ∨ (p.2 = x ∧ p.1.1.fields = fs)) {b : Nat} (h1 : w.heap.size ≤ b) (h2 : b < w1.heap.size) (i j : Nat) (a c : Value) :
    WrQ w v ps x es ((wr.setCell ⟨b, i, none⟩ a).setCell ⟨b, j, none⟩ c) v' ps' := by
  have hB : Below w.heap.size w ((wr.setCell ⟨b, i, none⟩ a).setCell ⟨b, j, none⟩ c) := ((hb.trans (h.below.mono hb.size)).setCell (p := ⟨b, i, none⟩) h1 _).setCell (p := ⟨b, j, none⟩) h1 _
  have hne : v'.ownBlock ≠ some b := fun e => by have := (h.row.lt b e).1; omega
  refine ⟨⟨row_cell (row_cell (rowBase h.row (Nat.zero_le _)) hne _) hne _, fun p hp => ?_⟩, he, hB, .inr fun r hr => Nat.le_trans hb.size (h.row.lt r hr).1, fun p hp => (hm p hp).imp id (·.1)⟩
  rcases hm p hp with q | ⟨q1, q2⟩
  · exact (hq.each p q).below hB (Nat.le_refl _)
  · rw [q1, q2]; exact hx.below hB (Nat.le_refl _)
theorem WrQ.from {w w1 w' : World} {v v' : Value} {ps ps' : List Pr} {x : Value} {es : List En} (h : WrQ w1 v ps x es w' v' ps') (hb : Below w.heap.size w w1) : WrQ w v ps x es w' v' ps' :=
  ⟨h.ents, h.es, hb.trans (h.below.mono hb.size), h.blk.imp id fun q b e => Nat.le_trans hb.size (q b e), h.mem⟩
theorem asAddr_ptr (P : Program) (w : World) (p : Addr) : (asAddr (.pointer (some p))).run P w = .ok p w := rfl
theorem results_q3 {fn : Func} {p u z : Tmp} {ty : TypeId} (h : fn.results = #[.cell p ty, .tmp u, .tmp z]) (tmps : Array Value) (P : Program) (w : World) :
    (results fn tmps).run P w = ((asAddr (tmps.getD p undef)).run P w).andThen fun a w₁ => ((loadVar ty a).run P w₁).andThen fun v w₂ => .ok (.tuple #[v, tmps.getD u undef, tmps.getD z undef]) w₂ := by
  simp only [results, h]
  simp [Sem.run_bind, Result.andThen]
set_option maxRecDepth 100000 in
theorem ret_q3 {fn : Func} {p u z : Tmp} (h : fn.results = #[.cell p 32, .tmp u, .tmp z]) (tmps : Array Value) (w : World) (b : Nat) (cur : Array Value) (hp : tmps.getD p undef = .pointer (some ⟨b, 0, none⟩))
    (hc : Cells w b 32 cur) (hz : cur.size = 2) : (results fn tmps).run Tryz.prog w = .ok (.tuple #[.agg cur, tmps.getD u undef, tmps.getD z undef]) w := by
  have L := run_loadVar_row (P := Tryz.prog) w b 32 32 cur (0, 0) _ hc Tryz.underlying32 rfl (by rw [hz]; kernel_rfl)
  rw [results_q3 h, hp]
  show ((loadVar _ _).run _ _).andThen _ = _
  rw [L]; rfl
theorem results_q4 {fn : Func} {p u z y : Tmp} {ty : TypeId} (h : fn.results = #[.cell p ty, .tmp u, .tmp z, .tmp y]) (tmps : Array Value) (P : Program) (w : World) :
    (results fn tmps).run P w = ((asAddr (tmps.getD p undef)).run P w).andThen fun a w₁ => ((loadVar ty a).run P w₁).andThen fun v w₂ => .ok (.tuple #[v, tmps.getD u undef, tmps.getD z undef, tmps.getD y undef]) w₂ := by
  simp only [results, h]
  simp [Sem.run_bind, Result.andThen]
set_option maxRecDepth 100000 in
theorem ret_q4 {fn : Func} {p u z y : Tmp} (h : fn.results = #[.cell p 32, .tmp u, .tmp z, .tmp y]) (tmps : Array Value) (w : World) (b : Nat) (cur : Array Value) (hp : tmps.getD p undef = .pointer (some ⟨b, 0, none⟩))
    (hc : Cells w b 32 cur) (hz : cur.size = 2) : (results fn tmps).run Tryz.prog w = .ok (.tuple #[.agg cur, tmps.getD u undef, tmps.getD z undef, tmps.getD y undef]) w := by
  have L := run_loadVar_row (P := Tryz.prog) w b 32 32 cur (0, 0) _ hc Tryz.underlying32 rfl (by rw [hz]; kernel_rfl)
  rw [results_q4 h, hp]
  show ((loadVar _ _).run _ _).andThen _ = _
  rw [L]; rfl
set_option maxRecDepth 100000 in
theorem ret_q2 {fn : Func} {p u : Tmp} (h : fn.results = #[.cell p 32, .tmp u]) (tmps : Array Value) (w : World) (b : Nat) (cur : Array Value) (hp : tmps.getD p undef = .pointer (some ⟨b, 0, none⟩))
    (hc : Cells w b 32 cur) (hz : cur.size = 2) : (results fn tmps).run Tryz.prog w = .ok (.tuple #[.agg cur, tmps.getD u undef]) w := by
  have L := run_loadVar_row (P := Tryz.prog) w b 32 32 cur (0, 0) _ hc Tryz.underlying32 rfl (by rw [hz]; kernel_rfl)
  rw [results_cell_tmp h, hp]
  show ((loadVar _ _).run _ _).andThen _ = _
  rw [L]; rfl
end Go.Proofs.YtiebbgbcojgeoaaGreatDoor
/- The document's Delete. -/
namespace Go.Proofs.YtiebbgbcojgeoaaGreatDoor
open Go.RowKit Go.Shelf
attribute [local go_sem] Oper.semAt_some

/-- A list cut at a place, entry by entry. -/
def cutQ (ps : List Pr) (k j : Nat) : List Pr := if j ≤ k then ps.take j else ps.take k ++ (ps.take j).drop (k + 1)
theorem cutQ_len (ps : List Pr) (k j : Nat) : (cutQ ps k j).length ≤ j := by
  unfold cutQ
  split
  · rw [List.length_take]; omega
  · rw [List.length_append, List.length_take, List.length_drop, List.length_take]; omega
theorem cutQ_at (ps : List Pr) (k : Nat) (p : Pr) (h : ps[k]? = some p) : cutQ ps k (k + 1) = cutQ ps k k := by
  unfold cutQ
  rw [if_neg (by omega), if_pos (Nat.le_refl _), List.drop_eq_nil_of_le (by rw [List.length_take]; omega), List.append_nil]
theorem cutQ_on (ps : List Pr) (k j : Nat) (p : Pr) (h : ps[j]? = some p) (hj : j ≠ k) : cutQ ps k (j + 1) = cutQ ps k j ++ [p] := by
  have hl := (List.getElem?_eq_some_iff.1 h).1
  have e : ps.take (j + 1) = ps.take j ++ [p] := by rw [List.take_add_one, h]; rfl
  unfold cutQ
  by_cases q : j < k
  · rw [if_pos (by omega), if_pos (by omega), e]
  · rw [if_neg (by omega), if_neg (by omega), e, List.drop_append, List.length_take, show k + 1 - min j ps.length = 0 by omega, List.drop_zero, List.append_assoc]
theorem cutQ_end (ps : List Pr) (k : Nat) (h : k < ps.length) : cutQ ps k ps.length = ps.take k ++ ps.drop (k + 1) := by
  unfold cutQ
  rw [if_neg (by omega), List.take_length]
theorem cutQ_map (ps : List Pr) (k : Nat) : (ps.take k ++ ps.drop (k + 1)).map Prod.fst = cutE (ps.map Prod.fst) k := by
  unfold cutE; rw [List.map_append, List.map_take, List.map_drop]
set_option maxRecDepth 100000 in
set_option maxHeartbeats 2000000 in
theorem refDelete_any (ps : List Pr) (v : Value) (nx id : Int) (w : World) (h : EntsQ w v ps) (hps : ps.length ≤ 1000000) :
    Calls Tryz.prog 55 #[.agg #[v, .int .i64 nx], .int .i64 id] w fun e w' => ∃ v' ps', e = .returned (.tuple #[.agg #[v', .int .i64 (deleteR ⟨ps.map Prod.fst, nx⟩ id).ls.next], .int .i64 (deleteR ⟨ps.map Prod.fst, nx⟩ id).bad]) ∧ WrQ w v ps (.slice none 0 0) (deleteR ⟨ps.map Prod.fst, nx⟩ id).ls.es w' v' ps' := by
  obtain ⟨i0, hi, hz0, hz1, hz2⟩ := info_parts infoQ
  rw [deleteR_W]
  dsimp only
  obtain ⟨A, cap, rfl, hle⟩ := h.empty
  obtain ⟨W, hW⟩ : ∃ W, W = (w.alloc (.cells #[.slice A ps.length cap, .int .i64 nx] 32)).alloc (.cells #[.slice none 0 0, .int .i64 0] 32) := ⟨_, rfl⟩
  have hbW : Below w.heap.size w W := by rw [hW]; exact ((Below.refl _ w).alloc (Nat.le_refl _) _).alloc (by simp) _
  have hzW : W.heap.size = w.heap.size + 2 := by rw [hW]; simp
  have C0 : Cells W w.heap.size 32 #[.slice A ps.length cap, .int .i64 nx] := by rw [hW]; exact (Cells.new _ _ _).alloc _
  have C1 : Cells W (w.heap.size + 1) 32 #[.slice none 0 0, .int .i64 0] := by
    rw [hW]; have := Cells.new (w.alloc (.cells #[.slice A ps.length cap, .int .i64 nx] 32)) 32 #[.slice none 0 0, .int .i64 0]
    simpa using this
  have H0 := Lib.hid h
  have FN := Lib.hid (refFind_any ps (.slice A ps.length cap) nx id W (h.below hbW (Nat.le_refl _)) hps)
  have HBW := Lib.hid hbW
  have HC0 := Lib.hid C0
  have HC1 := Lib.hid C1
  have HT : Hid (∀ w1, Below W.heap.size W w1 → Cells w1 w.heap.size 32 #[.slice A ps.length cap, .int .i64 nx] ∧ Cells w1 (w.heap.size + 1) 32 #[.slice none 0 0, .int .i64 0] ∧ Below w.heap.size w w1 ∧ w.heap.size + 2 ≤ w1.heap.size) := fun w1 b1 =>
    ⟨cells_kept HC0.out b1 (by omega), cells_kept HC1.out b1 (by omega), HBW.out.trans (b1.mono (by omega)), by have := b1.size; omega⟩
  clear C0 C1 h hbW hzW
  subst hW
  cases hf : findR (ps.map Prod.fst) id with
  | none =>
    rw [hf] at FN
    dsimp only [findI] at FN
    clear hf
    unfold deleteW
    dsimp only
    go_enter Tryz.func55, Tryz.ntmps55
    go_wp2_with fail
    refine FN.out.mono ?_
    rintro e w1 ⟨rfl, b1⟩
    obtain ⟨D0, D1, hb1, hzz⟩ := HT.out w1 b1
    have c0 := D0.cell 0
    have c1 := D0.cell 1
    have r0 := D1.cell 0
    have r1 := D1.cell 1
    have f0 := D1.frozen 0
    have f1 := D1.frozen 1
    simp only [List.getElem?_toArray, List.getElem?_cons_zero, List.getElem?_cons_succ] at c0 c1 r0 r1
    have RE := (D1.set 0 (.slice A ps.length cap)).set 1 (.int .i64 nx)
    rw [set2] at RE
    have HB : Hid (Below w.heap.size w ((w1.setCell ⟨w.heap.size + 1, 0, none⟩ (.slice A ps.length cap)).setCell ⟨w.heap.size + 1, 1, none⟩ (.int .i64 nx))) :=
      (hb1.setCell (p := ⟨w.heap.size + 1, 0, none⟩) (by show _ ≤ _ + 1; omega) _).setCell (p := ⟨w.heap.size + 1, 1, none⟩) (by show _ ≤ _ + 1; omega) _
    clear FN b1 hb1 D0 D1
    go_wp2_with fail
    refine bodyPost_ret (ret_q2 rfl _ _ (w.heap.size + 1) _ rfl RE rfl) rfl ?_
    exact ⟨_, ps, rfl, .same H0.out rfl HB.out⟩
  | some k =>
    rw [hf] at FN
    dsimp only [findI] at FN
    have hk : k < ps.length := by
      have := (findR_lt hf).1
      rwa [List.length_map] at this
    clear hf
    unfold deleteW
    dsimp only
    go_enter Tryz.func55, Tryz.ntmps55
    go_wp2_with fail
    refine FN.out.mono ?_
    rintro e w1 ⟨rfl, b1⟩
    obtain ⟨D0, D1, hb1, hzz⟩ := HT.out w1 b1
    have c1 : w1.cell? ⟨w.heap.size, 1, none⟩ = some (.int .i64 nx) := D0.cell 1
    have HD0 := Lib.hid D0
    have HD1 := Lib.hid D1
    have HB1 := Lib.hid hb1
    have H1 := Lib.hid (H0.out.below hb1 (Nat.le_refl _))
    clear FN b1 D0 D1 hb1
    go_wp2_with fail
    go_loopw [8] (fun i wr => ∃ (j : Nat) (u : Value), j ≤ ps.length ∧ i = .int .i64 j ∧ AccQ w1 wr w1.heap.size u (cutQ ps k j) nx) (fun i _ => ps.length - (intOf i).toNat)
    case atStart =>
      refine ⟨0, .slice none 0 0, Nat.zero_le _, rfl, ?_⟩
      have := AccQ.start w1 nx
      unfold cutQ
      rw [if_pos (Nat.zero_le _), List.take_zero]
      exact this
    case round =>
      obtain ⟨j, u, hj, rfl, hacc⟩ := hrel
      have hb := hacc.below
      have hlw := hb.size
      have e0 : wr.cell? ⟨w.heap.size, 0, none⟩ = some (.slice A ps.length cap) := (cells_kept HD0.out hb (by omega)).cell 0
      have g0 : wr.cell? ⟨w1.heap.size, 0, none⟩ = some u := hacc.head.cell 0
      by_cases hlt : j < ps.length
      · obtain ⟨p, hp⟩ : ∃ p, ps[j]? = some p := ⟨_, List.getElem?_eq_getElem hlt⟩
        by_cases hjk : j = k
        · have CA := Lib.hid (show cutQ ps k (j + 1) = cutQ ps k j by rw [hjk]; exact cutQ_at ps k p (hjk ▸ hp))
          have ACC := Lib.hid (show AccQ w1 wr w1.heap.size u (cutQ ps k (j + 1)) nx by rw [CA.out]; exact hacc)
          have hq : ((j : Int) != (k : Int)) = false := by simp [hjk]
          clear hacc hp hb
          go_wp2_with fail
          go_roundw
          case rel => exact ⟨j + 1, u, hlt, by go_num, ACC.out⟩
          case measure => simp [intOf]; omega
        · have CO := Lib.hid (cutQ_on ps k j p hp hjk)
          have hq : ((j : Int) != (k : Int)) = true := bne_iff_ne.2 (by omega)
          obtain ⟨g, cap', pa, pc, e1, _, hg, e2, d0, d1, d2, d3⟩ := (H1.out.below hb (Nat.le_refl _)).here hp
          cases e1
          have hcl := cutQ_len ps k j
          have ACC := Lib.hid hacc
          have HO := Lib.hid (rowBase hacc.row (Nat.zero_le _))
          have HNE := Lib.hid hacc.ne
          obtain ⟨ua, uc, rfl, _⟩ := own_slice hacc.row
          have HHD := Lib.hid hacc.head
          have g1 : ∀ o, (wr.alloc o).cell? ⟨w1.heap.size, 0, none⟩ = some (.slice ua (cutQ ps k j).length uc) := fun o => (hacc.head.alloc o).cell 0
          generalize hcq : (cutQ ps k j) = cq at *
          rw [e2] at d2
          clear hacc hp hb hcq
          go_wp2_with fail
          go_region_law (refine step_append_own rfl (.tmp 29) (.tmp 35) 30 rfl 105 i0 _ 4 56 Tryz.underlying30 hi hz0 hz1 hz2 rfl (by decide) (.slice ua cq.length uc) cq.length (entCells cq) (by simp [Act.eval]) (by exact (HO.out.alloc _).drew) ⟨wr.heap.size, 0, none⟩ 1 1 [.int .i64 p.1.1.kind, .string (B p.1.1.raw), .slice pa p.1.1.fields.length pc, .int .i64 p.1.2] (by simp [Act.eval]) rfl (cells_new_add wr 105 [.int .i64 p.1.1.kind, .string (B p.1.1.raw), .slice pa p.1.1.fields.length pc, .int .i64 p.1.2]) (by intro u hu; simp at hu; rcases hu with rfl | rfl | rfl | rfl <;> rfl) (by unfold maxLen; omega) (by omega) ?_; intro v' w' ho hgr hbk; obtain ⟨⟨g', cap', rfl⟩, hg', hbx, hkk, hon⟩ := appended HHD.out HO.out HNE.out (((Below.refl _ wr).alloc (Nat.le_refl _) _).drew) ho hgr hbk; have k0 : w'.cell? ⟨w1.heap.size, 0, none⟩ = some (.slice ua cq.length uc) := hg'.cell 0; have kf0 := hg'.frozen 0)
          all_goals go_wp2_with fail
          all_goals
            have acc2 := ACC.out.snoc (p := p) (by unfold entCell; rw [e2]; exact ho) hg' hkk hon
            go_roundw
            case rel => exact ⟨j + 1, _, hlt, by go_num, by rw [CO.out]; exact acc2⟩
            case measure => simp [intOf]; omega
      · obtain rfl : j = ps.length := by omega
        have D1 := cells_kept HD1.out hb (by omega)
        have G1 : wr.cell? ⟨w1.heap.size, 1, none⟩ = some (.int .i64 nx) := hacc.head.cell 1
        obtain ⟨ua, uc, rfl, _⟩ := own_slice hacc.row
        have r0 := D1.cell 0
        have r1 := D1.cell 1
        have f0 := D1.frozen 0
        have f1 := D1.frozen 1
        simp only [List.getElem?_toArray, List.getElem?_cons_zero, List.getElem?_cons_succ] at r0 r1
        have HMAP := Lib.hid (cutQ_map ps k)
        have HMEM : Hid (∀ p ∈ ps.take k ++ ps.drop (k + 1), p ∈ ps ∨ (p.2 = .slice none 0 0 ∧ p.1.1.fields = [])) := fun p hp => by
          rcases List.mem_append.1 hp with h | h
          · exact .inl (List.mem_of_mem_take h)
          · exact .inl (List.mem_of_mem_drop h)
        rw [cutQ_end ps k hk] at *
        generalize ps.take k ++ ps.drop (k + 1) = L at *
        have RE := (D1.set 0 (.slice ua L.length uc)).set 1 (.int .i64 nx)
        rw [set2] at RE
        have ACC := Lib.hid hacc
        clear hacc hb D1
        go_wp2_with fail
        refine bodyPost_ret (ret_q2 rfl _ _ (w.heap.size + 1) _ rfl RE rfl) rfl ?_
        refine ⟨_, L, rfl, ?_⟩
        exact ACC.out.end_ HB1.out H0.out (fs := []) ⟨none, 0, rfl, Nat.le_refl _, fun i f h => by simp at h⟩ HMAP.out HMEM.out (Nat.le_succ _) (by omega) 0 1 _ _
end Go.Proofs.YtiebbgbcojgeoaaGreatDoor
/- The document's Replace. -/
namespace Go.Proofs.YtiebbgbcojgeoaaGreatDoor
open Go.RowKit Go.Shelf
attribute [local go_sem] Oper.semAt_some

theorem setQ_at (ps : List Pr) (k : Nat) (q : Pr) (h : k < ps.length) : (ps.set k q).take (k + 1) = (ps.set k q).take k ++ [q] := by
  rw [List.take_add_one, List.getElem?_set_self h]; rfl
theorem setQ_on (ps : List Pr) (k j : Nat) (p q : Pr) (h : ps[j]? = some p) (hj : j ≠ k) : (ps.set k q).take (j + 1) = (ps.set k q).take j ++ [p] := by
  rw [List.take_add_one, List.getElem?_set_ne (fun e => hj e.symm), h]; rfl
set_option maxRecDepth 100000 in
set_option maxHeartbeats 4000000 in
theorem refReplace_any (ps : List Pr) (v x : Value) (nx id : Int) (fs : List Fld) (w : World) (h : EntsQ w v ps) (hps : ps.length ≤ 1000000) (hx : Flds w x fs) (hfs : Fine7 fs) :
    Calls Tryz.prog 54 #[.agg #[v, .int .i64 nx], .int .i64 id, x] w fun e w' => ∃ v' ps', e = .returned (.tuple #[.agg #[v', .int .i64 (replaceR ⟨ps.map Prod.fst, nx⟩ id fs).ls.next], .int .i64 (replaceR ⟨ps.map Prod.fst, nx⟩ id fs).at_, .int .i64 (replaceR ⟨ps.map Prod.fst, nx⟩ id fs).bad]) ∧ WrQ w v ps x (replaceR ⟨ps.map Prod.fst, nx⟩ id fs).ls.es w' v' ps' := by
  obtain ⟨i0, hi, hz0, hz1, hz2⟩ := info_parts infoQ
  rw [replaceR_W]
  dsimp only
  obtain ⟨A, cap, rfl, hle⟩ := h.empty
  obtain ⟨xa, xc, rfl, _, _⟩ := _root_.id hx
  obtain ⟨W, hW⟩ : ∃ W, W = (w.alloc (.cells #[.slice A ps.length cap, .int .i64 nx] 32)).alloc (.cells #[.slice none 0 0, .int .i64 0] 32) := ⟨_, rfl⟩
  have hbW : Below w.heap.size w W := by rw [hW]; exact ((Below.refl _ w).alloc (Nat.le_refl _) _).alloc (by simp) _
  have hzW : W.heap.size = w.heap.size + 2 := by rw [hW]; simp
  have C0 : Cells W w.heap.size 32 #[.slice A ps.length cap, .int .i64 nx] := by rw [hW]; exact (Cells.new _ _ _).alloc _
  have C1 : Cells W (w.heap.size + 1) 32 #[.slice none 0 0, .int .i64 0] := by
    rw [hW]; have := Cells.new (w.alloc (.cells #[.slice A ps.length cap, .int .i64 nx] 32)) 32 #[.slice none 0 0, .int .i64 0]
    simpa using this
  have H0 := Lib.hid h
  have HX := Lib.hid hx
  have FN := Lib.hid (refFind_any ps (.slice A ps.length cap) nx id W (h.below hbW (Nat.le_refl _)) hps)
  have HBW := Lib.hid hbW
  have HC0 := Lib.hid C0
  have HC1 := Lib.hid C1
  have HT : Hid (∀ w1, Below W.heap.size W w1 → Cells w1 w.heap.size 32 #[.slice A ps.length cap, .int .i64 nx] ∧ Cells w1 (w.heap.size + 1) 32 #[.slice none 0 0, .int .i64 0] ∧ Below w.heap.size w w1 ∧ w.heap.size + 2 ≤ w1.heap.size) := fun w1 b1 =>
    ⟨cells_kept HC0.out b1 (by omega), cells_kept HC1.out b1 (by omega), HBW.out.trans (b1.mono (by omega)), by have := b1.size; omega⟩
  -- an answer that leaves the list as it was
  have RET : Hid (∀ w1, Below W.heap.size W w1 → Cells ((w1.setCell ⟨w.heap.size + 1, 0, none⟩ (.slice A ps.length cap)).setCell ⟨w.heap.size + 1, 1, none⟩ (.int .i64 nx)) (w.heap.size + 1) 32 #[.slice A ps.length cap, .int .i64 nx] ∧ Below w.heap.size w ((w1.setCell ⟨w.heap.size + 1, 0, none⟩ (.slice A ps.length cap)).setCell ⟨w.heap.size + 1, 1, none⟩ (.int .i64 nx))) := fun w1 b1 => by
    obtain ⟨_, D1, hb1, _⟩ := HT.out w1 b1
    have RE := (D1.set 0 (.slice A ps.length cap)).set 1 (.int .i64 nx)
    rw [set2] at RE
    exact ⟨RE, (hb1.setCell (p := ⟨w.heap.size + 1, 0, none⟩) (Nat.le_succ _) _).setCell (p := ⟨w.heap.size + 1, 1, none⟩) (Nat.le_succ _) _⟩
  clear C0 C1 h hbW hzW hx
  subst hW
  cases hf : findR (ps.map Prod.fst) id with
  | none =>
    rw [hf] at FN
    dsimp only [findI] at FN
    clear hf
    unfold replaceW
    dsimp only
    go_enter Tryz.func54, Tryz.ntmps54
    go_wp2_with fail
    refine FN.out.mono ?_
    rintro e w1 ⟨rfl, b1⟩
    obtain ⟨D0, D1, hb1, hzz⟩ := HT.out w1 b1
    obtain ⟨RE, HB⟩ := RET.out w1 b1
    have c0 := D0.cell 0
    have c1 := D0.cell 1
    have r0 := D1.cell 0
    have r1 := D1.cell 1
    have f0 := D1.frozen 0
    have f1 := D1.frozen 1
    simp only [List.getElem?_toArray, List.getElem?_cons_zero, List.getElem?_cons_succ] at c0 c1 r0 r1
    have HRE := Lib.hid RE
    have HHB := Lib.hid HB
    clear FN b1 hb1 D0 D1 RE HB
    go_wp2_with fail
    refine bodyPost_ret (ret_q3 rfl _ _ (w.heap.size + 1) _ rfl HRE.out rfl) rfl ?_
    exact ⟨_, ps, rfl, .same H0.out rfl HHB.out⟩
  | some k =>
    rw [hf] at FN
    dsimp only [findI] at FN
    have hk : k < ps.length := by
      have := (findR_lt hf).1
      rwa [List.length_map] at this
    clear hf
    obtain ⟨p0, hp0⟩ : ∃ p, ps[k]? = some p := ⟨_, List.getElem?_eq_getElem hk⟩
    have HP0 := Lib.hid hp0
    have hat : chkN fs ≤ 11 := chkN_le fs
    by_cases hb : chkN fs = 0
    · rw [replaceW_yes hb]
      dsimp only
      obtain ⟨q, hq⟩ : ∃ q : Pr, q = ((itemOf fs, p0.1.2), .slice xa fs.length xc) := ⟨_, rfl⟩
      have HSET := Lib.hid (setE_map ps k p0 (itemOf fs) (.slice xa fs.length xc) hp0)
      have SAT := Lib.hid (setQ_at ps k q hk)
      have SON := Lib.hid (fun j p => setQ_on ps k j p q)
      have HQ := Lib.hid hq
      have HMEM : Hid (∀ p ∈ ps.set k q, p ∈ ps ∨ (p.2 = .slice xa fs.length xc ∧ p.1.1.fields = fs)) := fun p hp => by
        rcases List.mem_or_eq_of_mem_set hp with h | h
        · exact .inl h
        · right; rw [h, hq]; exact ⟨rfl, rfl⟩
      have CK : Hid (∀ w1, Flds w1 (.slice xa fs.length xc) fs → Calls Tryz.prog 96 #[.slice xa fs.length xc] w1 fun e w' => e = .returned (.tuple #[.int .i64 (chkAt fs), .int .i64 0]) ∧ Below w1.heap.size w1 w') := fun w1 h1 => by
        have := refChk_any fs _ w1 h1 (by have := hfs.len; omega) (fun f hf => by have := hfs.each f hf; omega)
        rw [hb] at this; exact this
      have IT : Hid (∀ w1, Flds w1 (.slice xa fs.length xc) fs → Calls Tryz.prog 97 #[.slice xa fs.length xc] w1 fun e w' => e = .returned (.agg #[.int .i64 3, .string (B (foldG fs)), .slice xa fs.length xc]) ∧ Below w1.heap.size w1 w') := fun w1 h1 =>
        refItem_any fs xa _ xc w1 h1 hfs.len hfs.each
      obtain ⟨T, hT⟩ : ∃ T, T = chkAt fs := ⟨_, rfl⟩
      obtain ⟨G, hG⟩ : ∃ G, G = foldG fs := ⟨_, rfl⟩
      have HG := Lib.hid hG
      rw [← hT] at CK
      rw [← hG] at IT
      obtain ⟨L, hL⟩ : ∃ L, L = ps.set k q := ⟨_, rfl⟩
      have HLL : Hid (L.length = ps.length) := by show _ = _; rw [hL, List.length_set]
      rw [← hL] at HMEM SAT SON
      have HL := Lib.hid hL
      clear hb hat hp0 hT hG hL hq
      go_enter Tryz.func54, Tryz.ntmps54
      go_wp2_with fail
      refine FN.out.mono ?_
      rintro e w1 ⟨rfl, b1⟩
      obtain ⟨_, _, hb1, _⟩ := HT.out w1 b1
      have CK1 := Lib.hid (CK.out w1 (HX.out.below hb1 (Nat.le_refl _)))
      have B1 := Lib.hid b1
      clear FN b1 hb1 CK
      go_wp2_with fail
      refine CK1.out.mono ?_
      rintro e w2 ⟨rfl, b2⟩
      have b2' := B1.out.trans (b2.mono B1.out.size)
      obtain ⟨D0, D1, hb2, hzz⟩ := HT.out w2 b2'
      have c1 : w2.cell? ⟨w.heap.size, 1, none⟩ = some (.int .i64 nx) := D0.cell 1
      have HD0 := Lib.hid D0
      have HD1 := Lib.hid D1
      have HB2 := Lib.hid hb2
      have H1 := Lib.hid (H0.out.below hb2 (Nat.le_refl _))
      have HX1 := Lib.hid (HX.out.below hb2 (Nat.le_refl _))
      clear CK1 b2 b2' D0 D1 hb2 B1
      go_wp2_with fail
      go_loopw [13] (fun i wr => ∃ (j : Nat) (u : Value), j ≤ ps.length ∧ i = .int .i64 j ∧ AccQ w2 wr w2.heap.size u (L.take j) nx) (fun i _ => ps.length - (intOf i).toNat)
      case atStart => exact ⟨0, .slice none 0 0, Nat.zero_le _, rfl, AccQ.start w2 nx⟩
      case round =>
        obtain ⟨j, u, hj, rfl, hacc⟩ := hrel
        have hb := hacc.below
        have hlw := hb.size
        have e0 : wr.cell? ⟨w.heap.size, 0, none⟩ = some (.slice A ps.length cap) := (cells_kept HD0.out hb (by omega)).cell 0
        obtain ⟨ua, uc, rfl, _⟩ := own_slice hacc.row
        by_cases hlt : j < ps.length
        · obtain ⟨p, hp⟩ : ∃ p, ps[j]? = some p := ⟨_, List.getElem?_eq_getElem hlt⟩
          obtain ⟨g, cap', pa, pc, e1, _, hg, e2, d0, d1, d2, d3⟩ := (H1.out.below hb (Nat.le_refl _)).here hp
          cases e1
          rw [e2] at d2
          have hcl : (L.take j).length ≤ j := by rw [List.length_take]; omega
          by_cases hjk : j = k
          · have hq : ((j : Int) == (k : Int)) = true := by simp [hjk]
            have SJ : Hid (L.take (j + 1) = L.take j ++ [q]) := by show _ = _; rw [hjk]; exact SAT.out
            have hpp : p = p0 := by
              have := HP0.out
              rw [← hjk, hp] at this
              exact Option.some.inj this
            subst hpp
            obtain ⟨wa, hwa⟩ : ∃ wa, wa = wr.alloc (.cells #[.int .i64 p.1.1.kind, .string (B p.1.1.raw), .slice pa p.1.1.fields.length pc, .int .i64 p.1.2] 105) := ⟨_, rfl⟩
            have IT1 := Lib.hid (IT.out wa (HX1.out.below (hb.trans (by rw [hwa]; exact (Below.refl _ wr).alloc (by omega) _)) (Nat.le_refl _)))
            have HBX : Hid (Cells wa wr.heap.size 105 #[.int .i64 p.1.1.kind, .string (B p.1.1.raw), .slice pa p.1.1.fields.length pc, .int .i64 p.1.2]) := by show Cells _ _ _ _; rw [hwa]; exact Cells.new _ _ _
            have ACC := Lib.hid (show AccQ w2 wa w2.heap.size (.slice ua (L.take j).length uc) (L.take j) nx by rw [hwa]; exact hacc.alloc _)
            have hzz2 : Hid (wa.heap.size = wr.heap.size + 1) := by show _ = _; rw [hwa]; simp
            have obl := hacc.head.lt
            have HLT : Hid (∀ r, (Value.slice ua (L.take j).length uc).ownBlock = some r → r ≠ wr.heap.size) := fun r e => by have := (hacc.row.lt r e).2; omega
            generalize hcq : L.take j = cq at *
            clear hacc hp hb hcq hjk
            subst hwa
            go_wp2_with fail
            refine IT1.out.mono ?_
            rintro e w4 ⟨rfl, b4⟩
            have ACC4 := Lib.hid (ACC.out.kept b4)
            have BX4 := cells_kept HBX.out b4 (by rw [hzz2.out]; omega)
            have h4z := b4.size
            rw [hzz2.out] at h4z
            have ob_ne : wr.heap.size ≠ w2.heap.size := by omega
            have ne_ob : w2.heap.size ≠ wr.heap.size := by omega
            have acc5 := ((ACC4.out.other (b := wr.heap.size) 0 (.int .i64 3) hlw ob_ne HLT.out).other (b := wr.heap.size) 1 (.string (B G)) hlw ob_ne HLT.out).other (b := wr.heap.size) 2 (.slice xa fs.length xc) hlw ob_ne HLT.out
            have BX5 : Cells (((w4.setCell ⟨wr.heap.size, 0, none⟩ (.int .i64 3)).setCell ⟨wr.heap.size, 1, none⟩ (.string (B G))).setCell ⟨wr.heap.size, 2, none⟩ (.slice xa fs.length xc)) wr.heap.size 105 #[.int .i64 3, .string (B G), .slice xa fs.length xc, .int .i64 p.1.2] := by
              have := ((BX4.set 0 (.int .i64 3)).set 1 (.string (B G))).set 2 (.slice xa fs.length xc)
              simpa [List.setIfInBounds_toArray, List.set] using this
            have q0 := BX4.cell 0
            have q1 := BX4.cell 1
            have q2 := BX4.cell 2
            simp only [List.getElem?_toArray, List.getElem?_cons_zero, List.getElem?_cons_succ] at q0 q1 q2
            have fr0 := BX4.frozen 0
            have fr1 := BX4.frozen 1
            have fr2 := BX4.frozen 2
            have s0 : (((w4.setCell ⟨wr.heap.size, 0, none⟩ (.int .i64 3)).setCell ⟨wr.heap.size, 1, none⟩ (.string (B G))).setCell ⟨wr.heap.size, 2, none⟩ (.slice xa fs.length xc)).cell? ⟨wr.heap.size, 0, none⟩ = some (.int .i64 3) := BX5.cell 0
            have s1 : (((w4.setCell ⟨wr.heap.size, 0, none⟩ (.int .i64 3)).setCell ⟨wr.heap.size, 1, none⟩ (.string (B G))).setCell ⟨wr.heap.size, 2, none⟩ (.slice xa fs.length xc)).cell? ⟨wr.heap.size, 1, none⟩ = some (.string (B G)) := BX5.cell 1
            have s2 : (((w4.setCell ⟨wr.heap.size, 0, none⟩ (.int .i64 3)).setCell ⟨wr.heap.size, 1, none⟩ (.string (B G))).setCell ⟨wr.heap.size, 2, none⟩ (.slice xa fs.length xc)).cell? ⟨wr.heap.size, 2, none⟩ = some (.slice xa fs.length xc) := BX5.cell 2
            have s3 : (((w4.setCell ⟨wr.heap.size, 0, none⟩ (.int .i64 3)).setCell ⟨wr.heap.size, 1, none⟩ (.string (B G))).setCell ⟨wr.heap.size, 2, none⟩ (.slice xa fs.length xc)).cell? ⟨wr.heap.size, 3, none⟩ = some (.int .i64 p.1.2) := BX5.cell 3
            have k0 : (((w4.setCell ⟨wr.heap.size, 0, none⟩ (.int .i64 3)).setCell ⟨wr.heap.size, 1, none⟩ (.string (B G))).setCell ⟨wr.heap.size, 2, none⟩ (.slice xa fs.length xc)).cell? ⟨w2.heap.size, 0, none⟩ = some (.slice ua cq.length uc) := acc5.head.cell 0
            have hrow := acc5.row
            have hz25 := acc5.below.size
            have A5 := Lib.hid (acc5.alloc (.cells #[.int .i64 3, .string (B G), .slice xa fs.length xc, .int .i64 p.1.2] 105))
            have hv := cells_new_add (((w4.setCell ⟨wr.heap.size, 0, none⟩ (.int .i64 3)).setCell ⟨wr.heap.size, 1, none⟩ (.string (B G))).setCell ⟨wr.heap.size, 2, none⟩ (.slice xa fs.length xc)) 105 [.int .i64 3, .string (B G), .slice xa fs.length xc, .int .i64 p.1.2]
            rw [show (((w4.setCell ⟨wr.heap.size, 0, none⟩ (.int .i64 3)).setCell ⟨wr.heap.size, 1, none⟩ (.string (B G))).setCell ⟨wr.heap.size, 2, none⟩ (.slice xa fs.length xc)).heap.size = w4.heap.size by simp [World.setCell]] at hv hz25
            have HV := Lib.hid hv
            clear hv acc5 BX5 BX4 b4
            go_wp2_with (at_builtin; refine wpList_append_own _ rfl _ _ 30 rfl w2.heap.size 105 i0 _ 4 56 Tryz.underlying30 hi hz0 hz1 hz2 rfl (by decide) _ _ _ rfl (hrow.alloc _) ⟨w4.heap.size, 0, none⟩ 1 1 _ rfl rfl HV.out (by intro u hu; simp at hu; rcases hu with rfl | rfl | rfl | rfl <;> rfl) (by unfold maxLen; omega) (by omega) (by first | omega | (simp only [World.size_alloc]; omega) | (simp [World.setCell]; omega)) ?_)
            intro v' w6 hown' hgrow _
            have h6 := (A5.out.grown_head hgrow)
            have acc6 := Lib.hid (A5.out.grow (p := q) (by rw [HQ.out, HG.out] at *; exact hown') hgrow)
            have k6 : w6.cell? ⟨w2.heap.size, 0, none⟩ = some (.slice ua cq.length uc) := h6.cell 0
            have kf6 := h6.frozen 0
            obtain ⟨g', cap6, rfl⟩ := ownsRow_succ hown'
            clear hown' hgrow h6
            go_wp2_with fail
            go_roundw
            case rel => exact ⟨j + 1, _, hlt, by go_num, by rw [SJ.out]; exact acc6.out⟩
            case measure => simp [intOf]; omega
          · have hq : ((j : Int) == (k : Int)) = false := beq_eq_false_iff_ne.2 (by omega)
            have SJ : Hid (L.take (j + 1) = L.take j ++ [p]) := SON.out j p hp hjk
            have ACC := Lib.hid ((hacc.alloc (.cells #[.int .i64 p.1.1.kind, .string (B p.1.1.raw), .slice pa p.1.1.fields.length pc, .int .i64 p.1.2] 105)).alloc (.cells #[.int .i64 p.1.1.kind, .string (B p.1.1.raw), .slice pa p.1.1.fields.length pc, .int .i64 p.1.2] 105))
            have k0 : wr.cell? ⟨w2.heap.size, 0, none⟩ = some (.slice ua (L.take j).length uc) := hacc.head.cell 0
            have hrow := hacc.row
            have obl := hacc.head.lt
            have hv := cells_new_add (wr.alloc (.cells #[.int .i64 p.1.1.kind, .string (B p.1.1.raw), .slice pa p.1.1.fields.length pc, .int .i64 p.1.2] 105)) 105 [.int .i64 p.1.1.kind, .string (B p.1.1.raw), .slice pa p.1.1.fields.length pc, .int .i64 p.1.2]
            rw [World.size_alloc] at hv
            have HV := Lib.hid hv
            generalize hcq : L.take j = cq at *
            have ne_ob : w2.heap.size ≠ wr.heap.size := by omega
            clear hacc hp hb hcq hv hjk
            go_wp2_with (at_builtin; refine wpList_append_own _ rfl _ _ 30 rfl w2.heap.size 105 i0 _ 4 56 Tryz.underlying30 hi hz0 hz1 hz2 rfl (by decide) _ _ _ rfl ((hrow.alloc _).alloc _) ⟨wr.heap.size + 1, 0, none⟩ 1 1 _ rfl rfl HV.out (by intro u hu; simp at hu; rcases hu with rfl | rfl | rfl | rfl <;> rfl) (by unfold maxLen; omega) (by omega) (by first | omega | (simp only [World.size_alloc]; omega) | (simp [World.setCell]; omega)) ?_)
            intro v' w6 hown' hgrow _
            have h6 := (ACC.out.grown_head hgrow)
            have acc6 := Lib.hid (ACC.out.grow (p := p) (by unfold entCell; rw [e2]; exact hown') hgrow)
            have k6 : w6.cell? ⟨w2.heap.size, 0, none⟩ = some (.slice ua cq.length uc) := h6.cell 0
            have kf6 := h6.frozen 0
            obtain ⟨g', cap6, rfl⟩ := ownsRow_succ hown'
            clear hown' hgrow h6
            go_wp2_with fail
            go_roundw
            case rel => exact ⟨j + 1, _, hlt, by go_num, by rw [SJ.out]; exact acc6.out⟩
            case measure => simp [intOf]; omega
        · obtain rfl : j = ps.length := by omega
          rw [show L.take ps.length = L by rw [← HLL.out, List.take_length]] at *
          have D1 := cells_kept HD1.out hb (by omega)
          have G1 : wr.cell? ⟨w2.heap.size, 1, none⟩ = some (.int .i64 nx) := hacc.head.cell 1
          have G0 : wr.cell? ⟨w2.heap.size, 0, none⟩ = some (.slice ua L.length uc) := hacc.head.cell 0
          have r0 := D1.cell 0
          have r1 := D1.cell 1
          have f0 := D1.frozen 0
          have f1 := D1.frozen 1
          simp only [List.getElem?_toArray, List.getElem?_cons_zero, List.getElem?_cons_succ] at r0 r1
          have RE := (D1.set 0 (.slice ua L.length uc)).set 1 (.int .i64 nx)
          rw [set2] at RE
          have HRE := Lib.hid RE
          have ACC := Lib.hid hacc
          clear hacc hb D1 RE
          go_wp2_with fail
          refine bodyPost_ret (ret_q3 rfl _ _ (w.heap.size + 1) _ rfl HRE.out rfl) rfl ?_
          refine ⟨_, L, rfl, ?_⟩
          exact ACC.out.end_ HB2.out H0.out HX.out (by rw [HL.out, HQ.out]; exact HSET.out) HMEM.out (Nat.le_succ _) (by omega) 0 1 _ _
    · rw [replaceW_no hb]
      dsimp only
      have hbb : (((chkN fs : Nat) : Int) != 0) = true := bne_iff_ne.2 (by omega)
      obtain ⟨N, hN⟩ : ∃ N, N = chkN fs := ⟨_, rfl⟩
      obtain ⟨T, hT⟩ : ∃ T, T = chkAt fs := ⟨_, rfl⟩
      have CK : Hid (∀ w1, Flds w1 (.slice xa fs.length xc) fs → Calls Tryz.prog 96 #[.slice xa fs.length xc] w1 fun e w' => e = .returned (.tuple #[.int .i64 T, .int .i64 (N : Nat)]) ∧ Below w1.heap.size w1 w') := fun w1 h1 => by
        rw [hN, hT]; exact refChk_any fs _ w1 h1 (by have := hfs.len; omega) (fun f hf => by have := hfs.each f hf; omega)
      rw [← hN] at hbb hat ⊢
      rw [← hT]
      clear hb hp0 hN hT
      go_enter Tryz.func54, Tryz.ntmps54
      go_wp2_with fail
      refine FN.out.mono ?_
      rintro e w1 ⟨rfl, b1⟩
      obtain ⟨D0, D1, hb1, hzz⟩ := HT.out w1 b1
      have CK1 := Lib.hid (CK.out w1 (HX.out.below hb1 (Nat.le_refl _)))
      have B1 := Lib.hid b1
      clear FN b1 hb1 D0 D1
      go_wp2_with fail
      refine CK1.out.mono ?_
      rintro e w2 ⟨rfl, b2⟩
      have b2' := B1.out.trans (b2.mono B1.out.size)
      obtain ⟨D0, D1, hb1, hzz2⟩ := HT.out w2 b2'
      obtain ⟨RE, HB⟩ := RET.out w2 b2'
      have c0 := D0.cell 0
      have c1 := D0.cell 1
      have r0 := D1.cell 0
      have r1 := D1.cell 1
      have f0 := D1.frozen 0
      have f1 := D1.frozen 1
      simp only [List.getElem?_toArray, List.getElem?_cons_zero, List.getElem?_cons_succ] at c0 c1 r0 r1
      have HRE := Lib.hid RE
      have HHB := Lib.hid HB
      clear CK1 b2 b2' hb1 D0 D1 RE HB
      go_wp2_with fail
      refine bodyPost_ret (ret_q3 rfl _ _ (w.heap.size + 1) _ rfl HRE.out rfl) rfl ?_
      exact ⟨_, ps, rfl, .same H0.out rfl HHB.out⟩
end Go.Proofs.YtiebbgbcojgeoaaGreatDoor
/- The document's Insert. -/
namespace Go.Proofs.YtiebbgbcojgeoaaGreatDoor
open Go.RowKit Go.Shelf
attribute [local go_sem] Oper.semAt_some

/-- A list with an entry put in, up to a place. -/
def putQ (ps : List Pr) (k : Nat) (q : Pr) (j : Nat) : List Pr := if j < k then ps.take j else ps.take k ++ q :: (ps.take j).drop k
theorem putQ_len (ps : List Pr) (k : Nat) (q : Pr) (j : Nat) : (putQ ps k q j).length ≤ j + 1 := by
  unfold putQ
  split
  · rw [List.length_take]; omega
  · rw [List.length_append, List.length_cons, List.length_drop, List.length_take, List.length_take]; omega
theorem putQ_zero (ps : List Pr) (q : Pr) : putQ ps 0 q 0 = [q] := by
  unfold putQ; simp
theorem putQ_start (ps : List Pr) (k : Nat) (q : Pr) (h : 0 < k) : putQ ps k q 0 = [] := by
  unfold putQ; rw [if_pos h, List.take_zero]
theorem putQ_at (ps : List Pr) (j : Nat) (p q : Pr) (h : ps[j]? = some p) : putQ ps (j + 1) q (j + 1) = (putQ ps (j + 1) q j ++ [p]) ++ [q] := by
  have e : ps.take (j + 1) = ps.take j ++ [p] := by rw [List.take_add_one, h]; rfl
  unfold putQ
  rw [if_neg (by omega), if_pos (by omega), List.drop_eq_nil_of_le (by rw [List.length_take]; omega), e]
theorem putQ_on (ps : List Pr) (k j : Nat) (p q : Pr) (h : ps[j]? = some p) (hj : j + 1 ≠ k) : putQ ps k q (j + 1) = putQ ps k q j ++ [p] := by
  have hl := (List.getElem?_eq_some_iff.1 h).1
  have e : ps.take (j + 1) = ps.take j ++ [p] := by rw [List.take_add_one, h]; rfl
  unfold putQ
  by_cases c : j < k
  · rw [if_pos (by omega), if_pos c, e]
  · rw [if_neg (by omega), if_neg c, e, List.append_assoc, List.cons_append, List.drop_append, List.length_take, show k - min j ps.length = 0 by omega, List.drop_zero]
theorem putQ_end (ps : List Pr) (k : Nat) (q : Pr) (h : k ≤ ps.length) : putQ ps k q ps.length = ps.take k ++ q :: ps.drop k := by
  unfold putQ
  rw [if_neg (by omega), List.take_length]
/-- With the fresh entry's box. -/
structure AccF (w wr : World) (ob fb : Nat) (cf : Array Value) (v : Value) (ps : List Pr) (nx : Int) : Prop where
  acc : AccQ w wr ob v ps nx
  fr : Cells wr fb 105 cf
  ne : ∀ r, v.ownBlock = some r → r ≠ fb
  ob : fb ≠ ob
theorem AccF.alloc {w wr : World} {ob fb : Nat} {cf : Array Value} {v : Value} {ps : List Pr} {nx : Int} (h : AccF w wr ob fb cf v ps nx) (o : Obj) : AccF w (wr.alloc o) ob fb cf v ps nx := ⟨h.acc.alloc o, h.fr.alloc o, h.ne, h.ob⟩
theorem AccF.snoc {w wa w6 : World} {ob fb : Nat} {cf : Array Value} {v v' : Value} {ps : List Pr} {nx : Int} {p : Pr} (h : AccF w wa ob fb cf v ps nx)
    (ho : w6.ownsRow 0 105 4 v' (ps.length + 1) (entCells ps ++ entCell p)) (h6 : Cells w6 ob 32 #[v, .int .i64 nx]) (hk : v'.ownBlock = v.ownBlock ∨ ∃ k, v'.ownBlock = some k ∧ wa.heap.size ≤ k ∧ k < w6.heap.size) (o6 : Only (fun r => some r = v.ownBlock) wa w6) :
    AccF w (w6.setCell ⟨ob, 0, none⟩ v') ob fb cf v' (ps ++ [p]) nx := by
  refine ⟨h.acc.snoc ho h6 hk o6, (h.fr.only o6 (fun e => h.ne fb e.symm rfl)).other (p := ⟨ob, 0, none⟩) h.ob _, fun r hr => ?_, h.ob⟩
  rcases hk with hk | ⟨k, hk, h1, _⟩
  · exact h.ne r (by rw [← hk]; exact hr)
  · rw [hk] at hr
    have : k = r := Option.some.inj hr
    have := h.fr.lt
    omega
theorem AccF.grow {w wa w6 : World} {ob fb : Nat} {cf : Array Value} {v v' : Value} {ps : List Pr} {nx : Int} {p : Pr} (h : AccF w wa ob fb cf v ps nx)
    (ho : w6.ownsRow w.heap.size 105 4 v' (ps.length + 1) (entCells ps ++ entCell p)) (hg : wa.grownBy w6 v.ownBlock) (hk : v'.ownBlock = v.ownBlock ∨ v'.ownBlock = some wa.heap.size) :
    AccF w (w6.setCell ⟨ob, 0, none⟩ v') ob fb cf v' (ps ++ [p]) nx := by
  refine ⟨h.acc.grow ho hg, (h.fr.grown hg (fun e => h.ne fb e.symm rfl)).other (p := ⟨ob, 0, none⟩) h.ob _, fun r hr => ?_, h.ob⟩
  rcases hk with hk | hk
  · exact h.ne r (by rw [← hk]; exact hr)
  · rw [hk] at hr
    have : wa.heap.size = r := Option.some.inj hr
    have := h.fr.lt
    omega
theorem gap_yes {es : List En} {id : Int} {kk : Nat} (h : gapR es id = some kk) : findI (findR es id) + 1 = kk ∧ kk ≤ es.length ∧ (kk = 0 → id = 0) := by
  unfold gapR at h
  by_cases h0 : id = 0
  · rw [if_pos h0] at h
    have : findR es id = none := by unfold findR; rw [if_neg (by omega)]
    rw [this]
    cases h
    exact ⟨rfl, Nat.zero_le _, fun _ => h0⟩
  · rw [if_neg h0] at h
    cases hf : findR es id with
    | none => rw [hf] at h; cases h
    | some k =>
      rw [hf] at h
      have := (findR_lt hf).1
      simp at h
      exact ⟨by simp [findI]; omega, by omega, fun e => by omega⟩
theorem gap_no {es : List En} {id : Int} (h : gapR es id = none) : findR es id = none ∧ id ≠ 0 := by
  unfold gapR at h
  by_cases h0 : id = 0
  · rw [if_pos h0] at h; cases h
  · rw [if_neg h0] at h
    refine ⟨?_, h0⟩
    cases hf : findR es id with
    | none => rfl
    | some k => rw [hf] at h; cases h
set_option maxRecDepth 100000 in
set_option maxHeartbeats 4000000 in
theorem refInsert_any (ps : List Pr) (v x : Value) (nx id : Int) (fs : List Fld) (w : World) (h : EntsQ w v ps) (hps : ps.length ≤ 1000000) (hnx : -1000000 ≤ nx ∧ nx ≤ 1000000) (hx : Flds w x fs) (hfs : Fine7 fs) :
    Calls Tryz.prog 56 #[.agg #[v, .int .i64 nx], .int .i64 id, x] w fun e w' => ∃ v' ps', e = .returned (.tuple #[.agg #[v', .int .i64 (insertR ⟨ps.map Prod.fst, nx⟩ id fs).ls.next], .int .i64 (insertR ⟨ps.map Prod.fst, nx⟩ id fs).id, .int .i64 (insertR ⟨ps.map Prod.fst, nx⟩ id fs).at_, .int .i64 (insertR ⟨ps.map Prod.fst, nx⟩ id fs).bad]) ∧ WrQ w v ps x (insertR ⟨ps.map Prod.fst, nx⟩ id fs).ls.es w' v' ps' := by
  obtain ⟨i0, hi, hz0, hz1, hz2⟩ := info_parts infoQ
  rw [insertR_W]
  dsimp only
  obtain ⟨A, cap, rfl, hle⟩ := h.empty
  obtain ⟨xa, xc, rfl, _, _⟩ := _root_.id hx
  obtain ⟨W, hW⟩ : ∃ W, W = (w.alloc (.cells #[.slice A ps.length cap, .int .i64 nx] 32)).alloc (.cells #[.slice none 0 0, .int .i64 0] 32) := ⟨_, rfl⟩
  have hbW : Below w.heap.size w W := by rw [hW]; exact ((Below.refl _ w).alloc (Nat.le_refl _) _).alloc (by simp) _
  have hzW : W.heap.size = w.heap.size + 2 := by rw [hW]; simp
  have C0 : Cells W w.heap.size 32 #[.slice A ps.length cap, .int .i64 nx] := by rw [hW]; exact (Cells.new _ _ _).alloc _
  have C1 : Cells W (w.heap.size + 1) 32 #[.slice none 0 0, .int .i64 0] := by
    rw [hW]; have := Cells.new (w.alloc (.cells #[.slice A ps.length cap, .int .i64 nx] 32)) 32 #[.slice none 0 0, .int .i64 0]
    simpa using this
  have H0 := Lib.hid h
  have HX := Lib.hid hx
  have FN := Lib.hid (refFind_any ps (.slice A ps.length cap) nx id W (h.below hbW (Nat.le_refl _)) hps)
  have HBW := Lib.hid hbW
  have HC0 := Lib.hid C0
  have HC1 := Lib.hid C1
  have HT : Hid (∀ w1, Below W.heap.size W w1 → Cells w1 w.heap.size 32 #[.slice A ps.length cap, .int .i64 nx] ∧ Cells w1 (w.heap.size + 1) 32 #[.slice none 0 0, .int .i64 0] ∧ Below w.heap.size w w1 ∧ w.heap.size + 2 ≤ w1.heap.size) := fun w1 b1 =>
    ⟨cells_kept HC0.out b1 (by omega), cells_kept HC1.out b1 (by omega), HBW.out.trans (b1.mono (by omega)), by have := b1.size; omega⟩
  have RET : Hid (∀ w1, Below W.heap.size W w1 → Cells ((w1.setCell ⟨w.heap.size + 1, 0, none⟩ (.slice A ps.length cap)).setCell ⟨w.heap.size + 1, 1, none⟩ (.int .i64 nx)) (w.heap.size + 1) 32 #[.slice A ps.length cap, .int .i64 nx] ∧ Below w.heap.size w ((w1.setCell ⟨w.heap.size + 1, 0, none⟩ (.slice A ps.length cap)).setCell ⟨w.heap.size + 1, 1, none⟩ (.int .i64 nx))) := fun w1 b1 => by
    obtain ⟨_, D1, hb1, _⟩ := HT.out w1 b1
    have RE := (D1.set 0 (.slice A ps.length cap)).set 1 (.int .i64 nx)
    rw [set2] at RE
    exact ⟨RE, (hb1.setCell (p := ⟨w.heap.size + 1, 0, none⟩) (Nat.le_succ _) _).setCell (p := ⟨w.heap.size + 1, 1, none⟩) (Nat.le_succ _) _⟩
  clear C0 C1 h hbW hzW hx
  subst hW
  cases hg : gapR (ps.map Prod.fst) id with
  | none =>
    obtain ⟨hf, hid0⟩ := gap_no hg
    rw [hf] at FN
    dsimp only [findI] at FN
    have hne : (id != 0) = true := bne_iff_ne.2 hid0
    clear hf hg hid0
    unfold insertW
    dsimp only
    go_enter Tryz.func56, Tryz.ntmps56
    go_wp2_with fail
    refine FN.out.mono ?_
    rintro e w1 ⟨rfl, b1⟩
    obtain ⟨D0, D1, hb1, hzz⟩ := HT.out w1 b1
    obtain ⟨RE, HB⟩ := RET.out w1 b1
    have c0 := D0.cell 0
    have c1 := D0.cell 1
    have r0 := D1.cell 0
    have r1 := D1.cell 1
    have f0 := D1.frozen 0
    have f1 := D1.frozen 1
    simp only [List.getElem?_toArray, List.getElem?_cons_zero, List.getElem?_cons_succ] at c0 c1 r0 r1
    have HRE := Lib.hid RE
    have HHB := Lib.hid HB
    clear FN b1 hb1 D0 D1 RE HB
    go_wp2_with fail
    refine bodyPost_ret (ret_q4 rfl _ _ (w.heap.size + 1) _ rfl HRE.out rfl) rfl ?_
    exact ⟨_, ps, rfl, .same H0.out rfl HHB.out⟩
  | some kk =>
    obtain ⟨hki, hkl, hk0⟩ := gap_yes hg
    rw [List.length_map] at hkl
    generalize findI (findR (ps.map Prod.fst) id) = ki at *
    -- the first two tests
    have T2 : Hid ((ki < 0 ∧ id = 0 ∧ kk = 0) ∨ (¬ ki < 0 ∧ 0 < kk)) := by
      rcases Nat.eq_zero_or_pos kk with q | q
      · exact .inl ⟨by omega, hk0 q, q⟩
      · exact .inr ⟨by omega, q⟩
    have HKI := Lib.hid hki
    have hkb : -1 ≤ ki ∧ ki ≤ 1000000 := ⟨by omega, by omega⟩
    clear hg hk0 hki
    by_cases hb : chkN fs = 0
    · have CK : Hid (∀ w1, Flds w1 (.slice xa fs.length xc) fs → Calls Tryz.prog 96 #[.slice xa fs.length xc] w1 fun e w' => e = .returned (.tuple #[.int .i64 (chkAt fs), .int .i64 0]) ∧ Below w1.heap.size w1 w') := fun w1 h1 => by
        have := refChk_any fs _ w1 h1 (by have := hfs.len; omega) (fun f hf => by have := hfs.each f hf; omega)
        rw [hb] at this; exact this
      have LN : Hid (∀ w1, EntsQ w1 (.slice A ps.length cap) ps → Calls Tryz.prog 98 #[.agg #[.slice A ps.length cap, .int .i64 nx]] w1 fun e w' => e = .returned (.int .i64 (lenR (ps.map Prod.fst) : Nat)) ∧ Below w1.heap.size w1 w') := fun w1 h1 => refLen_any ps _ nx w1 h1 hps
      obtain ⟨T, hT⟩ : ∃ T, T = chkAt fs := ⟨_, rfl⟩
      rw [← hT] at CK
      have hln : lenR (ps.map Prod.fst) ≤ 1000000 := by have := lenR_le (ps.map Prod.fst); rw [List.length_map] at this; omega
      by_cases hfull : 400 ≤ lenR (ps.map Prod.fst)
      · rw [decide_eq_true hfull, insertW_full hb]
        dsimp only
        clear hT hb
        generalize lenR (ps.map Prod.fst) = len at *
        rcases T2.out with ⟨t1, rfl, t3⟩ | ⟨t1, t3⟩
        all_goals
          clear T2 t3
          go_enter Tryz.func56, Tryz.ntmps56
          go_wp2_with fail
          refine FN.out.mono ?_
          rintro e w1 ⟨rfl, b1⟩
          obtain ⟨D0, D1, hb1, hzz⟩ := HT.out w1 b1
          have CK1 := Lib.hid (CK.out w1 (HX.out.below hb1 (Nat.le_refl _)))
          have B1 := Lib.hid b1
          clear FN b1 hb1 D0 D1
          go_wp2_with fail
          refine CK1.out.mono ?_
          rintro e w2 ⟨rfl, b2⟩
          have B2 := Lib.hid (B1.out.trans (b2.mono B1.out.size))
          obtain ⟨D0, D1, hb1, hzz2⟩ := HT.out w2 B2.out
          have LN1 := Lib.hid (LN.out w2 (H0.out.below hb1 (Nat.le_refl _)))
          have c0 : w2.cell? ⟨w.heap.size, 0, none⟩ = some (.slice A ps.length cap) := D0.cell 0
          have c1 : w2.cell? ⟨w.heap.size, 1, none⟩ = some (.int .i64 nx) := D0.cell 1
          clear CK1 b2 hb1 D0 D1
          go_wp2_with fail
          refine LN1.out.mono ?_
          rintro e w3 ⟨rfl, b3⟩
          have b3' := B2.out.trans (b3.mono B2.out.size)
          obtain ⟨D0, D1, hb1, hzz3⟩ := HT.out w3 b3'
          obtain ⟨RE, HB⟩ := RET.out w3 b3'
          have d0 := D0.cell 0
          have d1 := D0.cell 1
          have r0 := D1.cell 0
          have r1 := D1.cell 1
          have f0 := D1.frozen 0
          have f1 := D1.frozen 1
          simp only [List.getElem?_toArray, List.getElem?_cons_zero, List.getElem?_cons_succ] at d0 d1 r0 r1
          have HRE := Lib.hid RE
          have HHB := Lib.hid HB
          have hge : (400 : Int) ≤ (len : Int) := by omega
          clear LN1 b3 b3' hb1 D0 D1 RE HB c0 c1
          go_wp2_with fail
          refine bodyPost_ret (ret_q4 rfl _ _ (w.heap.size + 1) _ rfl HRE.out rfl) rfl ?_
          exact ⟨_, ps, rfl, .same H0.out rfl HHB.out⟩
      · rw [decide_eq_false hfull, insertW_yes hb]
        dsimp only
        have IT : Hid (∀ w1, Flds w1 (.slice xa fs.length xc) fs → Calls Tryz.prog 97 #[.slice xa fs.length xc] w1 fun e w' => e = .returned (.agg #[.int .i64 3, .string (B (foldG fs)), .slice xa fs.length xc]) ∧ Below w1.heap.size w1 w') := fun w1 h1 =>
          refItem_any fs xa _ xc w1 h1 hfs.len hfs.each
        obtain ⟨G, hG⟩ : ∃ G, G = foldG fs := ⟨_, rfl⟩
        have HG := Lib.hid hG
        rw [← hG] at IT
        obtain ⟨q, hq⟩ : ∃ q : Pr, q = ((itemOf fs, nx), .slice xa fs.length xc) := ⟨_, rfl⟩
        have HQ := Lib.hid hq
        have HCQ : Hid (entCell q = [.int .i64 3, .string (B G), .slice xa fs.length xc, .int .i64 nx]) := by show _ = _; rw [hq, hG]; rfl
        have hnw : IntKind.i64.wrap (nx + 1) = nx + 1 := IntWalk.i64_in _ (by omega)
        have HNW := Lib.hid hnw
        generalize hlr : lenR (ps.map Prod.fst) = len at *
        clear hT hb hG hq hnw hlr
        have hge : ¬ (400 : Int) ≤ (len : Int) := by omega
        go_enter Tryz.func56, Tryz.ntmps56
        go_wp2_with fail
        refine FN.out.mono ?_
        rintro e w1 ⟨rfl, b1⟩
        obtain ⟨D0, D1, hb1, hzz⟩ := HT.out w1 b1
        have CK1 := Lib.hid (CK.out w1 (HX.out.below hb1 (Nat.le_refl _)))
        have B1 := Lib.hid b1
        clear FN b1 hb1 D0 D1
        go_upto_region 2 with fail
        go_cut [24] (fun c wx => c = .bool false ∧ wx = w1)
        case first =>
          rcases T2.out with ⟨t1, rfl, t3⟩ | ⟨t1, t3⟩
          all_goals
            clear T2 t3
            go_wp2_with fail
            go_meet
            exact ⟨rfl, rfl⟩
        case rest =>
          obtain ⟨rfl, rfl⟩ := hcut
          go_wp2_with fail
          refine CK1.out.mono ?_
          rintro e w2 ⟨rfl, b2⟩
          have B2 := Lib.hid (B1.out.trans (b2.mono B1.out.size))
          obtain ⟨D0, D1, hb1, hzz2⟩ := HT.out w2 B2.out
          have LN1 := Lib.hid (LN.out w2 (H0.out.below hb1 (Nat.le_refl _)))
          have c0 : w2.cell? ⟨w.heap.size, 0, none⟩ = some (.slice A ps.length cap) := D0.cell 0
          have c1 : w2.cell? ⟨w.heap.size, 1, none⟩ = some (.int .i64 nx) := D0.cell 1
          clear CK1 b2 hb1 D0 D1
          go_wp2_with fail
          refine LN1.out.mono ?_
          rintro e w3 ⟨rfl, b3⟩
          have b3' := B2.out.trans (b3.mono B2.out.size)
          obtain ⟨D0, D1, hb3, hzz3⟩ := HT.out w3 b3'
          have d1 : w3.cell? ⟨w.heap.size, 1, none⟩ = some (.int .i64 nx) := D0.cell 1
          have HD0 := Lib.hid D0
          have HD1 := Lib.hid D1
          have HB3 := Lib.hid hb3
          have H1 := Lib.hid (H0.out.below hb3 (Nat.le_refl _))
          have HX1 := Lib.hid (HX.out.below hb3 (Nat.le_refl _))
          clear LN1 b3 b3' D0 D1 hb3 c0 c1 CK LN RET
          go_upto_region 10 with fail
          go_cut [14] (fun fv wx => ∃ fb : Nat, fv = .pointer (some ⟨fb, 0, none⟩) ∧ w3.heap.size < fb ∧ AccQ w3 wx w3.heap.size (.slice none 0 0) [] (nx + 1) ∧ Cells wx fb 105 #[.int .i64 3, .string (B G), .slice xa fs.length xc, .int .i64 nx])
          case first =>
            obtain ⟨w4, hw4⟩ : ∃ w4, w4 = w3.alloc (.cells #[.slice none 0 0, .int .i64 (nx + 1)] 32) := ⟨_, rfl⟩
            have A4 := AccQ.start w3 (nx + 1)
            have D4 : Cells w4 w.heap.size 32 #[.slice A ps.length cap, .int .i64 nx] := by rw [hw4]; exact HD0.out.alloc _
            rw [← hw4] at A4 ⊢
            have hz4 : w4.heap.size = w3.heap.size + 1 := by rw [hw4]; simp
            clear hw4 d1
            obtain ⟨z0, hz0'⟩ : ∃ z0, z0 = Obj.cells #[.int .i64 0, .string ⟨#[]⟩, .slice none 0 0, .int .i64 0] 105 := ⟨_, rfl⟩
            have D4z : Cells (w4.alloc z0) w4.heap.size 105 #[.int .i64 0, .string ⟨#[]⟩, .slice none 0 0, .int .i64 0] := by rw [hz0']; exact Cells.new _ _ _
            have HXa := Lib.hid (HX1.out.below (A4.below.drew) (Nat.le_refl _))
            have HXb := Lib.hid (HX1.out.below ((A4.alloc z0).below.drew) (Nat.le_refl _))
            have AA := Lib.hid A4.drew
            have AZ := Lib.hid (A4.alloc z0).drew
            have hlt4 := A4.head.lt
            have hwlt : w.heap.size < w4.heap.size := D4.lt
            have HDA := Lib.hid D4
            have HDB := Lib.hid D4.drew
            have HDZ := Lib.hid (D4.alloc z0).drew
            have HZZ := Lib.hid D4z.drew
            have hzz : Hid ((w4.alloc z0).heap.size = w4.heap.size + 1) := by show _ = _; simp
            have d1 : w4.cell? ⟨w.heap.size, 1, none⟩ = some (.int .i64 nx) := D4.cell 1
            have d1' : ∀ o, (w4.alloc o).cell? ⟨w.heap.size, 1, none⟩ = some (.int .i64 nx) := fun o => (HDA.out.alloc o).cell 1
            have HZ4 := Lib.hid hz4
            have hz4' : w3.heap.size < w4.heap.size := by omega
            clear A4 D4 D4z hz4
            subst hz0'
            go_region_law (go_simp; go_at_call 97; first
              | (refine (IT.out _ HXa.out).mono ?_; rintro e w5 ⟨rfl, b5⟩; have hz5 : w4.heap.size ≤ w5.heap.size := b5.size; have A5 := Lib.hid (AA.out.kept b5); have e1 : w5.cell? ⟨w.heap.size, 1, none⟩ = some (.int .i64 nx) := (cells_kept HDB.out b5 hwlt).cell 1; have e1' : ∀ o, (w5.alloc o).cell? ⟨w.heap.size, 1, none⟩ = some (.int .i64 nx) := fun o => ((cells_kept HDB.out b5 hwlt).alloc o).cell 1)
              | (refine (IT.out _ HXb.out).mono ?_; rintro e w5 ⟨rfl, b5⟩; have A5 := Lib.hid (AZ.out.kept b5); have e1 : w5.cell? ⟨w.heap.size, 1, none⟩ = some (.int .i64 nx) := (cells_kept HDZ.out b5 (by show _ < (w4.alloc _).heap.size; rw [hzz.out]; omega)).cell 1; have BX := Lib.hid (cells_kept HZZ.out b5 (by show _ < (w4.alloc _).heap.size; rw [hzz.out]; omega)); have t0 := BX.out.cell 0; have t1 := BX.out.cell 1; have t2 := BX.out.cell 2; have t3 := BX.out.cell 3; simp only [List.getElem?_toArray, List.getElem?_cons_zero, List.getElem?_cons_succ] at t0 t1 t2 t3; have f0 := BX.out.frozen 0; have f1 := BX.out.frozen 1; have f2 := BX.out.frozen 2; have f3 := BX.out.frozen 3))
            all_goals (try go_wp2_with fail)
            all_goals first
              | (go_meet; exact ⟨w5.heap.size, rfl, by omega, A5.out.alloc _, Cells.new _ _ _⟩)
              | (go_meet; refine ⟨w4.heap.size, rfl, hz4', (((A5.out.other (b := w4.heap.size) 0 _ (by omega) (by omega) (fun r e => by cases e)).other (b := w4.heap.size) 1 _ (by omega) (by omega) (fun r e => by cases e)).other (b := w4.heap.size) 2 _ (by omega) (by omega) (fun r e => by cases e)).other (b := w4.heap.size) 3 _ (by omega) (by omega) (fun r e => by cases e), ?_⟩; have := (((BX.out.set 0 (.int .i64 3)).set 1 (.string (B G))).set 2 (.slice xa fs.length xc)).set 3 (.int .i64 nx); rw [set4] at this; exact this)
          case rest =>
            obtain ⟨fb, rfl, hfb, hacc, hfr⟩ := hcut
            have ACC := Lib.hid (show AccF w3 wc w3.heap.size fb #[.int .i64 3, .string (B G), .slice xa fs.length xc, .int .i64 nx] (.slice none 0 0) [] (nx + 1) from ⟨hacc, hfr, (fun r e => by cases e), Nat.ne_of_gt hfb⟩)
            clear hacc hfr d1
            go_upto_if 50 with fail
            go_cut [] (fun wx => ∃ u, AccF w3 wx w3.heap.size fb #[.int .i64 3, .string (B G), .slice xa fs.length xc, .int .i64 nx] u (putQ ps kk q 0) (nx + 1))
            case first =>
              rcases T2.out with ⟨t1, -, t3⟩ | ⟨t1, t3⟩
              · have hrow : wc.ownsRow w3.heap.size 105 4 (.slice none 0 0) 0 [] := ACC.out.acc.row
                have f0 := ACC.out.fr.cell 0
                have f1 := ACC.out.fr.cell 1
                have f2 := ACC.out.fr.cell 2
                have f3 := ACC.out.fr.cell 3
                simp only [List.getElem?_toArray, List.getElem?_cons_zero, List.getElem?_cons_succ] at f0 f1 f2 f3
                have k0 : wc.cell? ⟨w3.heap.size, 0, none⟩ = some (.slice none 0 0) := ACC.out.acc.head.cell 0
                have hbz := ACC.out.acc.below.size
                have AL := Lib.hid (ACC.out.alloc (.cells #[.int .i64 3, .string (B G), .slice xa fs.length xc, .int .i64 nx] 105))
                have HV := Lib.hid (cells_new_add wc 105 [.int .i64 3, .string (B G), .slice xa fs.length xc, .int .i64 nx])
                have PZ : Hid (putQ ps kk q 0 = [q]) := by show _ = _; rw [t3]; exact putQ_zero ps q
                clear T2 t3
                go_wp2_with (at_builtin; refine wpList_append_at rfl _ _ 30 rfl w3.heap.size 105 i0 _ 4 56 Tryz.underlying30 hi hz0 hz1 hz2 rfl (by decide) _ _ _ rfl (hrow.alloc _) ⟨wc.heap.size, 0, none⟩ 1 1 _ rfl rfl HV.out (by intro u hu; simp at hu; rcases hu with rfl | rfl | rfl | rfl <;> rfl) (by unfold maxLen; omega) (by omega) (by first | omega | (simp only [World.size_alloc]; omega) | (simp [World.setCell]; omega)) ?_)
                intro v' w6 hown' hgrow hbk
                have h6 := (AL.out.acc.grown_head hgrow)
                have acc6 := Lib.hid (AL.out.grow (p := q) (by rw [HCQ.out]; exact hown') hgrow (by rw [World.size_alloc]; exact hbk.out))
                have k6 : w6.cell? ⟨w3.heap.size, 0, none⟩ = some (.slice none 0 0) := h6.cell 0
                have kf6 := h6.frozen 0
                obtain ⟨g', cap6, rfl⟩ := ownsRow_succ hown'
                clear hown' hgrow h6 hbk
                go_wp2_with fail
                go_meet
                exact ⟨_, by rw [PZ.out]; exact acc6.out⟩
              · have PZ : Hid (putQ ps kk q 0 = []) := putQ_start ps kk q t3
                clear T2 t3
                go_wp2_with fail
                go_meet
                exact ⟨_, by rw [PZ.out]; exact ACC.out⟩
            case rest =>
              obtain ⟨u0, hacc0⟩ := hcut
              have ACC0 := Lib.hid hacc0
              clear hacc0 ACC
              go_wp2_with fail
              go_loopw [15] (fun i wr => ∃ (j : Nat) (u : Value), j ≤ ps.length ∧ i = .int .i64 j ∧ AccF w3 wr w3.heap.size fb #[.int .i64 3, .string (B G), .slice xa fs.length xc, .int .i64 nx] u (putQ ps kk q j) (nx + 1)) (fun i _ => ps.length - (intOf i).toNat)
              case atStart => exact ⟨0, u0, Nat.zero_le _, rfl, ACC0.out⟩
              case round =>
                obtain ⟨j, u, hj, rfl, hacc⟩ := hrel
                have hb := hacc.acc.below
                have hlw := hb.size
                have e0 : wr.cell? ⟨w.heap.size, 0, none⟩ = some (.slice A ps.length cap) := (cells_kept HD0.out hb (by omega)).cell 0
                obtain ⟨ua, uc, rfl, _⟩ := own_slice hacc.acc.row
                by_cases hlt : j < ps.length
                · obtain ⟨p, hp⟩ : ∃ p, ps[j]? = some p := ⟨_, List.getElem?_eq_getElem hlt⟩
                  have hcl := putQ_len ps kk q j
                  obtain ⟨g, cap', pa, pc, e1, _, hg, e2, d0, d1, d2, d3⟩ := (H1.out.below hb (Nat.le_refl _)).here hp
                  cases e1
                  rw [e2] at d2
                  have PA := Lib.hid (fun (h : j + 1 = kk) => show putQ ps kk q (j + 1) = (putQ ps kk q j ++ [p]) ++ [q] from h ▸ putQ_at ps j p q hp)
                  have PO := Lib.hid (fun (h : j + 1 ≠ kk) => putQ_on ps kk j p q hp h)
                  have g0 : wr.cell? ⟨w3.heap.size, 0, none⟩ = some (.slice ua (putQ ps kk q j).length uc) := hacc.acc.head.cell 0
                  have g1 : ∀ o, (wr.alloc o).cell? ⟨w3.heap.size, 0, none⟩ = some (.slice ua (putQ ps kk q j).length uc) := fun o => (hacc.acc.head.alloc o).cell 0
                  have ACC := Lib.hid hacc
                  have HO := Lib.hid (rowBase hacc.acc.row (Nat.zero_le _))
                  have HNE := Lib.hid hacc.acc.ne
                  have HHD := Lib.hid hacc.acc.head
                  have E2 := Lib.hid e2
                  generalize hcq : putQ ps kk q j = cq at *
                  clear hacc hp hb hcq e2
                  go_wp2_with fail
                  go_region_law (refine step_append_own rfl (.tmp 65) (.tmp 71) 30 rfl 105 i0 _ 4 56 Tryz.underlying30 hi hz0 hz1 hz2 rfl (by decide) (.slice ua cq.length uc) cq.length (entCells cq) (by simp [Act.eval]) (by exact (HO.out.alloc _).drew) ⟨wr.heap.size, 0, none⟩ 1 1 [.int .i64 p.1.1.kind, .string (B p.1.1.raw), .slice pa p.1.1.fields.length pc, .int .i64 p.1.2] (by simp [Act.eval]) rfl (cells_new_add wr 105 [.int .i64 p.1.1.kind, .string (B p.1.1.raw), .slice pa p.1.1.fields.length pc, .int .i64 p.1.2]) (by intro u hu; simp at hu; rcases hu with rfl | rfl | rfl | rfl <;> rfl) (by unfold maxLen; omega) (by omega) ?_; intro v' w' ho hgr hbk; obtain ⟨⟨g', cap', rfl⟩, hg', hbx, hkk, hon⟩ := appended HHD.out HO.out HNE.out (((Below.refl _ wr).alloc (Nat.le_refl _) _).drew) ho hgr hbk; have k0 : w'.cell? ⟨w3.heap.size, 0, none⟩ = some (.slice ua cq.length uc) := hg'.cell 0; have kf0 := hg'.frozen 0)
                  all_goals
                    have acc2 := ACC.out.snoc (p := p) (by unfold entCell; rw [E2.out]; exact ho) hg' hkk hon
                    have ACC2 := Lib.hid acc2
                    clear acc2 ACC HO HNE HHD ho hg' hkk hon hbx hgr hbk g0 g1 e0 d0 d1 d2 d3
                    by_cases hjk : j + 1 = kk
                    · have hq : ((j : Int) == ki) = true := by have := HKI.out; exact beq_iff_eq.2 (by omega)
                      have PA2 := Lib.hid (PA.out hjk)
                      clear hjk PO PA
                      obtain ⟨wv, hwv⟩ : ∃ wv, wv = w'.setCell ⟨w3.heap.size, 0, none⟩ (.slice (some ⟨g', 0, none⟩) (cq.length + 1) cap') := ⟨_, rfl⟩
                      rw [← hwv] at ACC2 ⊢
                      clear hwv k0 kf0
                      have hln2 : (cq ++ [p]).length = cq.length + 1 := by simp
                      have HLN2 := Lib.hid hln2
                      have hrow := ACC2.out.acc.row
                      rw [hln2] at hrow
                      have f0 := ACC2.out.fr.cell 0
                      have f1 := ACC2.out.fr.cell 1
                      have f2 := ACC2.out.fr.cell 2
                      have f3 := ACC2.out.fr.cell 3
                      simp only [List.getElem?_toArray, List.getElem?_cons_zero, List.getElem?_cons_succ] at f0 f1 f2 f3
                      have k0 : wv.cell? ⟨w3.heap.size, 0, none⟩ = some (.slice (some ⟨g', 0, none⟩) (cq.length + 1) cap') := ACC2.out.acc.head.cell 0
                      have hbz := ACC2.out.acc.below.size
                      have hob := ACC2.out.acc.head.lt
                      have hfl := ACC2.out.fr.lt
                      have AL := Lib.hid (ACC2.out.alloc (.cells #[.int .i64 3, .string (B G), .slice xa fs.length xc, .int .i64 nx] 105))
                      have HV := Lib.hid (cells_new_add wv 105 [.int .i64 3, .string (B G), .slice xa fs.length xc, .int .i64 nx])
                      clear hln2 ACC2
                      go_wp2_with (at_builtin; refine wpList_append_at rfl _ _ 30 rfl w3.heap.size 105 i0 _ 4 56 Tryz.underlying30 hi hz0 hz1 hz2 rfl (by decide) _ _ _ rfl (hrow.alloc _) ⟨wv.heap.size, 0, none⟩ 1 1 _ rfl rfl HV.out (by intro u hu; simp at hu; rcases hu with rfl | rfl | rfl | rfl <;> rfl) (by unfold maxLen; omega) (by omega) (by first | omega | (simp only [World.size_alloc]; omega) | (simp [World.setCell]; omega)) ?_)
                      intro v' w6 hown' hgrow hbk
                      have h6 := (AL.out.acc.grown_head hgrow)
                      have acc6 := Lib.hid (AL.out.grow (p := q) (by rw [HCQ.out, HLN2.out]; exact hown') hgrow (by rw [World.size_alloc]; exact hbk.out))
                      have k6 : w6.cell? ⟨w3.heap.size, 0, none⟩ = some (.slice (some ⟨g', 0, none⟩) (cq.length + 1) cap') := h6.cell 0
                      have kf6 := h6.frozen 0
                      obtain ⟨g6, cap6, rfl⟩ := ownsRow_succ hown'
                      clear hown' hgrow h6 hbk
                      go_wp2_with fail
                      go_roundw
                      case rel => exact ⟨j + 1, _, hlt, by go_num, by rw [PA2.out]; exact acc6.out⟩
                      case measure => simp [intOf]; omega
                    · have hq : ((j : Int) == ki) = false := by have := HKI.out; exact beq_eq_false_iff_ne.2 (by omega)
                      have PO2 := Lib.hid (PO.out hjk)
                      clear hjk PO PA
                      go_wp2_with fail
                      go_roundw
                      case rel => exact ⟨j + 1, _, hlt, by go_num, by rw [PO2.out]; exact ACC2.out⟩
                      case measure => simp [intOf]; omega
                · obtain rfl : j = ps.length := by omega
                  have HMAP : Hid ((ps.take kk ++ q :: ps.drop kk).map Prod.fst = putE (ps.map Prod.fst) kk (itemOf fs, nx)) := by
                    show _ = _
                    rw [HQ.out]; exact putE_map ps kk _ _
                  have HMEM : Hid (∀ p ∈ ps.take kk ++ q :: ps.drop kk, p ∈ ps ∨ (p.2 = .slice xa fs.length xc ∧ p.1.1.fields = fs)) := fun p hp => by
                    rcases List.mem_append.1 hp with h | h
                    · exact .inl (List.mem_of_mem_take h)
                    · rcases List.mem_cons.1 h with h | h
                      · right; rw [h, HQ.out]; exact ⟨rfl, rfl⟩
                      · exact .inl (List.mem_of_mem_drop h)
                  rw [putQ_end ps kk q hkl] at *
                  generalize ps.take kk ++ q :: ps.drop kk = L at *
                  have D1 := cells_kept HD1.out hb (by omega)
                  have D0 := cells_kept HD0.out hb (by omega)
                  have G1 : wr.cell? ⟨w3.heap.size, 1, none⟩ = some (.int .i64 (nx + 1)) := hacc.acc.head.cell 1
                  have G0 : wr.cell? ⟨w3.heap.size, 0, none⟩ = some (.slice ua L.length uc) := hacc.acc.head.cell 0
                  have N1 : wr.cell? ⟨w.heap.size, 1, none⟩ = some (.int .i64 nx) := D0.cell 1
                  have r0 := D1.cell 0
                  have r1 := D1.cell 1
                  have f0 := D1.frozen 0
                  have f1 := D1.frozen 1
                  simp only [List.getElem?_toArray, List.getElem?_cons_zero, List.getElem?_cons_succ] at r0 r1
                  have RE := (D1.drew.set 0 (.slice ua L.length uc)).set 1 (.int .i64 (nx + 1))
                  rw [set2] at RE
                  have HRE := Lib.hid RE
                  have ACC := Lib.hid hacc.acc.drew
                  clear hacc hb D1 D0 RE
                  go_wp2_with fail
                  go_region_law (skip)
                  all_goals go_wp2_with fail
                  all_goals
                    refine bodyPost_ret (ret_q4 rfl _ _ (w.heap.size + 1) _ rfl HRE.out rfl) rfl ?_
                    refine ⟨_, L, rfl, ?_⟩
                    exact ACC.out.end_ HB3.out H0.out HX.out HMAP.out HMEM.out (Nat.le_succ _) (by omega) 0 1 _ _
    · rw [insertW_no hb]
      dsimp only
      have hbb : (((chkN fs : Nat) : Int) != 0) = true := bne_iff_ne.2 (by omega)
      have hat : chkN fs ≤ 11 := chkN_le fs
      obtain ⟨N, hN⟩ : ∃ N, N = chkN fs := ⟨_, rfl⟩
      obtain ⟨T, hT⟩ : ∃ T, T = chkAt fs := ⟨_, rfl⟩
      have CK : Hid (∀ w1, Flds w1 (.slice xa fs.length xc) fs → Calls Tryz.prog 96 #[.slice xa fs.length xc] w1 fun e w' => e = .returned (.tuple #[.int .i64 T, .int .i64 (N : Nat)]) ∧ Below w1.heap.size w1 w') := fun w1 h1 => by
        rw [hN, hT]; exact refChk_any fs _ w1 h1 (by have := hfs.len; omega) (fun f hf => by have := hfs.each f hf; omega)
      rw [← hN] at hbb hat ⊢
      rw [← hT]
      clear hb hN hT
      rcases T2.out with ⟨t1, rfl, t3⟩ | ⟨t1, t3⟩
      all_goals
        clear T2 t3
        go_enter Tryz.func56, Tryz.ntmps56
        go_wp2_with fail
        refine FN.out.mono ?_
        rintro e w1 ⟨rfl, b1⟩
        obtain ⟨D0, D1, hb1, hzz⟩ := HT.out w1 b1
        have CK1 := Lib.hid (CK.out w1 (HX.out.below hb1 (Nat.le_refl _)))
        have B1 := Lib.hid b1
        clear FN b1 hb1 D0 D1
        go_wp2_with fail
        refine CK1.out.mono ?_
        rintro e w2 ⟨rfl, b2⟩
        have b2' := B1.out.trans (b2.mono B1.out.size)
        obtain ⟨D0, D1, hb1, hzz2⟩ := HT.out w2 b2'
        obtain ⟨RE, HB⟩ := RET.out w2 b2'
        have c0 := D0.cell 0
        have c1 := D0.cell 1
        have r0 := D1.cell 0
        have r1 := D1.cell 1
        have f0 := D1.frozen 0
        have f1 := D1.frozen 1
        simp only [List.getElem?_toArray, List.getElem?_cons_zero, List.getElem?_cons_succ] at c0 c1 r0 r1
        have HRE := Lib.hid RE
        have HHB := Lib.hid HB
        clear CK1 b2 b2' hb1 D0 D1 RE HB
        go_wp2_with fail
        refine bodyPost_ret (ret_q4 rfl _ _ (w.heap.size + 1) _ rfl HRE.out rfl) rfl ?_
        exact ⟨_, ps, rfl, .same H0.out rfl HHB.out⟩
end Go.Proofs.YtiebbgbcojgeoaaGreatDoor
/- Whether an item is printed so, by the document; fields that are written over, block by block. -/
namespace Go.Proofs.YtiebbgbcojgeoaaGreatDoor
open Go.RowKit Go.Shelf

/-- A slice of fields that may be written over: its block. -/
def MineP (w : World) (P : Nat → Prop) (v : Value) (n : Nat) : Prop :=
  n = 0 ∧ (∃ A c, v = .slice A 0 c) ∨ ∃ g cap cur, v = .slice (some ⟨g, 0, none⟩) n cap ∧ n ≤ cap ∧ P g ∧ w.heap[g]? = some (.cells cur 73 (0, 0)) ∧ n * 2 ≤ cur.size
/-- Fields in those blocks may have turned. -/
structure Spoils (P : Nat → Prop) (w w' : World) : Prop where
  os : w'.os = w.os
  tape : w'.tape = w.tape
  output : w'.output = w.output
  size : w.heap.size ≤ w'.heap.size
  same : ∀ (r : Nat) o, w.heap[r]? = some o → w'.heap[r]? = some o ∨ (P r ∧ ∃ cur cur', o = .cells cur 73 (0, 0) ∧ w'.heap[r]? = some (.cells cur' 73 (0, 0)) ∧ cur'.size = cur.size)
theorem Spoils.refl (P : Nat → Prop) (w : World) : Spoils P w w := ⟨rfl, rfl, rfl, Nat.le_refl _, fun _ _ h => .inl h⟩
theorem Spoils.trans {P : Nat → Prop} {a b c : World} (h : Spoils P a b) (g : Spoils P b c) : Spoils P a c := by
  refine ⟨g.os.trans h.os, g.tape.trans h.tape, g.output.trans h.output, Nat.le_trans h.size g.size, fun r o ho => ?_⟩
  rcases h.same r o ho with h1 | ⟨h1, cur, cur', rfl, h2, h3⟩
  · exact g.same r o h1
  · rcases g.same r _ h2 with g1 | ⟨_, c1, c2, g1, g2, g3⟩
    · exact .inr ⟨h1, cur, cur', rfl, g1, h3⟩
    · injection g1 with g1
      subst g1
      exact .inr ⟨h1, cur, c2, rfl, g2, g3.trans h3⟩
theorem Spoils.set {P : Nat → Prop} {g : Nat} {w : World} {cur : Array Value} (h : w.heap[g]? = some (.cells cur 73 (0, 0))) (hg : P g) (i : Nat) (u : Value) : Spoils P w (w.setCell ⟨g, i, none⟩ u) := by
  refine ⟨rfl, rfl, rfl, by simp [World.setCell], fun r o ho => ?_⟩
  by_cases e : r = g
  · subst e
    rw [h] at ho
    cases ho
    exact .inr ⟨hg, cur, cur.setIfInBounds i u, rfl, Cells.set (t := 73) h i u, by simp⟩
  · exact .inl ((Below.heap_setCell _ _ _ _ e).trans ho)
theorem Spoils.block {P : Nat → Prop} {w w' : World} (h : Spoils P w w') {r : Nat} (hr : r < w.heap.size) (hP : ¬ P r) : w'.heap[r]? = w.heap[r]? := by
  rcases h.same r _ (Array.getElem?_eq_getElem hr) with e | ⟨e, _⟩
  · rw [e]; exact (Array.getElem?_eq_getElem hr).symm
  · exact absurd e hP
theorem Spoils.below {P : Nat → Prop} {lo : Nat} {w w' : World} (h : Spoils P w w') (hP : ∀ r, P r → lo ≤ r) (hl : lo ≤ w.heap.size) : Below lo w w' :=
  ⟨h.os, h.tape, h.output, h.size, fun r hr => h.block (by omega) (fun q => by have := hP r q; omega)⟩
theorem MineP.spoils {P : Nat → Prop} {n : Nat} {w w' : World} {v : Value} (h : MineP w P v n) (hs : Spoils P w w') : MineP w' P v n := by
  rcases h with h | ⟨g, cap, cur, e, h0, h1, h2, h3⟩
  · exact .inl h
  · rcases hs.same g _ h2 with k | ⟨_, c1, c2, k1, k2, k3⟩
    · exact .inr ⟨g, cap, cur, e, h0, h1, k, h3⟩
    · injection k1 with k1
      subst k1
      exact .inr ⟨g, cap, c2, e, h0, h1, k2, by omega⟩
theorem minep_of_own {lo n : Nat} {P : Nat → Prop} {w : World} {v : Value} {xs : List Value} (h : w.ownsRow lo 73 2 v n xs) (hP : ∀ r, lo ≤ r → r < w.heap.size → P r) : MineP w P v n := by
  have hlt := fun k e => (h.lt k e).2
  rcases h.2 with ⟨rfl, hn⟩ | ⟨g, cap, cur, rfl, hb, hc, hle, _, hs, _⟩
  · exact .inl ⟨hn, none, 0, rfl⟩
  · exact .inr ⟨g, cap, cur, rfl, hle, hP g hb (hlt g rfl), hc, by rw [hs]; exact Nat.mul_le_mul_right 2 hle⟩
theorem MineP.below {P : Nat → Prop} {n N : Nat} {w w' : World} {v : Value} (h : MineP w P v n) (hb : Below N w w') (hN : w.heap.size ≤ N) : MineP w' P v n := by
  rcases h with h | ⟨g, cap, cur, e, h0, h1, h2, h3⟩
  · exact .inl h
  · have hg : g < w.heap.size := (Array.getElem?_eq_some_iff.1 h2).1
    exact .inr ⟨g, cap, cur, e, h0, h1, (hb.block g (by omega)).trans h2, h3⟩
theorem Spoils.alloc {P : Nat → Prop} {w w' : World} (h : Spoils P w w') (o : Obj) : Spoils P w (w'.alloc o) := by
  have hb := (Below.refl w'.heap.size w').alloc (Nat.le_refl _) o
  refine ⟨h.os, h.tape, h.output, Nat.le_trans h.size hb.size, fun r o ho => ?_⟩
  have hr : r < w'.heap.size := Nat.lt_of_lt_of_le (Array.getElem?_eq_some_iff.1 ho).1 h.size
  rw [hb.block r hr]
  exact h.same r o ho
theorem Spoils.kept {P : Nat → Prop} {w w' : World} {b : Nat} {t : TypeId} {cs : Array Value} (h : Spoils P w w') (hc : Cells w b t cs) (ht : t ≠ 73) : Cells w' b t cs := by
  rcases h.same b _ hc with e | ⟨_, c1, c2, e, _⟩
  · exact e
  · injection e with _ e _
    exact absurd e ht
theorem AccM.itsSpoils {P : Nat → Prop} {w W W' : World} {v : Value} {fvs : List Value} {its : List It} (h : AccM w W v fvs its) (hs : Spoils P W W') (hP : ∀ r, P r → r < w.heap.size) : Its W' v its :=
  its_of_own (row_same h.row fun b e => hs.block (h.row.lt b e).2 (fun q => by have := hP b q; have := (h.row.lt b e).1; omega)) h.len
    fun j it x h1 h2 => flds_of_own (row_same (h.each j it x h1 h2) fun b e => hs.block ((h.each j it x h1 h2).lt b e).2 (fun q => by have := hP b q; have := ((h.each j it x h1 h2).lt b e).1; omega))
theorem AccM.cellAt {w W : World} {v : Value} {fvs : List Value} {its : List It} {k : Nat} {it : It} (h : AccM w W v fvs its) (hi : its[k]? = some it) : ∃ g cap fv cur, v = .slice (some ⟨g, 0, none⟩) its.length cap ∧ fvs[k]? = some fv ∧ Cells W g 47 cur ∧ cur[k * 3]? = some (.int .i64 it.kind) ∧ cur[k * 3 + 1]? = some (.string (B it.raw)) ∧ cur[k * 3 + 1 + 1]? = some fv := by
  have hlt : k < its.length := by
    rcases Nat.lt_or_ge k its.length with q | q
    · exact q
    · rw [List.getElem?_eq_none q] at hi; cases hi
  obtain ⟨fv, hfv⟩ : ∃ fv, fvs[k]? = some fv := ⟨_, List.getElem?_eq_getElem (by rw [h.len]; exact hlt)⟩
  obtain ⟨a0, a1, a2⟩ := itemsCells_at _ _ k it fv hi hfv
  have hr := h.row
  rcases h.row.2 with ⟨_, q2⟩ | ⟨g, cap, cur, q1, q2, q3, _⟩
  · omega
  · have hC : Cells W g 47 cur := q3
    rw [q1] at hr
    refine ⟨g, cap, fv, cur, q1, hfv, hC, ?_, ?_, ?_⟩
    · rw [← hC.cell, World.ownsRow.cellAt hr (k * 3) (by omega)]; exact a0
    · rw [← hC.cell, World.ownsRow.cellAt hr (k * 3 + 1) (by omega)]; exact a1
    · rw [← hC.cell, World.ownsRow.cellAt hr (k * 3 + 1 + 1) (by omega)]; exact a2
theorem ItsIn.nilI {w W : World} {v : Value} {its : List It} (h : ItsIn w v its) (hb : Below w.heap.size w W) : NilI W v its := by
  intro i b off n cap m c e hi hc
  obtain ⟨it, hit⟩ : ∃ it, its[i]? = some it := ⟨_, List.getElem?_eq_getElem hi⟩
  obtain ⟨b', off', cap', fa, fc, e', hbb, _, _, c2, hin⟩ := h.here hit
  rw [e] at e'
  cases e'
  have h2 := (hb.cell (p := ⟨b, off + i * 3 + 1 + 1, none⟩) hbb).trans c2
  rw [hc] at h2
  injection h2 with h2
  exact hin.nil m c h2.symm
set_option maxRecDepth 100000 in
set_option maxHeartbeats 4000000 in
theorem spoilP_any (n : Nat) (P : Nat → Prop) (v : Value) (w : World) (h : MineP w P v n) (hn : n ≤ 1000000) :
    Calls Tryz.prog 57 #[v] w fun e w' => e = .returned (.tuple #[]) ∧ Spoils P w w' := by
  have HM := Lib.hid h
  rcases h with ⟨rfl, A, c, rfl⟩ | ⟨g, cap, cur, rfl, hle, _, _, _⟩
  · go_enter Tryz.func57, Tryz.ntmps57
    go_wp2_with fail
    refine wp_loop_rounds 1 ?_
    rw [rounds_succ]
    go_wp2_with fail
    go_end0
    exact ⟨rfl, Spoils.refl _ _⟩
  · go_enter Tryz.func57, Tryz.ntmps57
    go_wp2_with fail
    go_loopw [5] (fun i wr => ∃ k : Nat, k ≤ n ∧ i = .int .i64 k ∧ Spoils P w wr) (fun i _ => n - (intOf i).toNat)
    case atStart => exact ⟨0, Nat.zero_le _, rfl, Spoils.refl _ _⟩
    case round =>
      obtain ⟨k, hk, rfl, hs⟩ := hrel
      by_cases hlt : k < n
      · rcases HM.out.spoils hs with ⟨h0, _⟩ | ⟨g', cap', cur', e, h0, h1, h2, h3⟩
        · omega
        · cases e
          have hC : Cells wr g 73 cur' := h2
          obtain ⟨x0, hx0⟩ : ∃ x, cur'[k * 2]? = some x := ⟨_, Array.getElem?_eq_getElem (by omega)⟩
          obtain ⟨x1, hx1⟩ : ∃ x, cur'[k * 2 + 1]? = some x := ⟨_, Array.getElem?_eq_getElem (by omega)⟩
          have c0 : wr.cell? ⟨g, k * 2, none⟩ = some x0 := (hC.cell _).trans hx0
          have c1 : wr.cell? ⟨g, k * 2 + 1, none⟩ = some x1 := (hC.cell _).trans hx1
          have f0 := hC.frozen (k * 2)
          have f1 := hC.frozen (k * 2 + 1)
          have HC := Lib.hid hC
          have HS := Lib.hid hs
          have H1 := Lib.hid h1
          clear HM hs h2 hC hx0 hx1 h1
          go_wp2_with fail
          go_roundw
          case rel =>
            refine ⟨k + 1, hlt, by go_num, HS.out.trans ((Spoils.set HC.out H1.out (k * 2) _).trans (Spoils.set (HC.out.set (k * 2) _) H1.out (k * 2 + 1) _))⟩
          case measure => simp [intOf]; omega
      · obtain rfl : k = n := by omega
        clear HM
        go_wp2_with fail
        go_end0
        exact ⟨rfl, hs⟩
end Go.Proofs.YtiebbgbcojgeoaaGreatDoor
/- A list and the document's list side by side; what an edit by both leaves. -/
namespace Go.Proofs.YtiebbgbcojgeoaaGreatDoor
open Go.RowKit Go.Shelf

/-- The blocks of both lists. -/
def BlkR (lb : Nat) (ev : Value) (ps : List Pr) (v : Value) (qs : List Pr) (r : Nat) : Prop :=
  r = lb ∨ ev.ownBlock = some r ∨ v.ownBlock = some r ∨ (∃ p ∈ ps, p.1.1.fields ≠ [] ∧ p.2.ownBlock = some r) ∨ (∃ p ∈ qs, p.1.1.fields ≠ [] ∧ p.2.ownBlock = some r)
structure StR (w : World) (lb : Nat) (ev : Value) (ps : List Pr) (nx : Int) (v : Value) (qs : List Pr) : Prop where
  la : LA w lb ev ps nx
  q : EntsQ w v qs
  va : ∀ b, v.ownBlock = some b → b ≠ lb ∧ ev.ownBlock ≠ some b
  qa : ∀ p ∈ qs, p.1.1.fields ≠ [] → ∀ b, p.2.ownBlock = some b → b ≠ lb ∧ ev.ownBlock ≠ some b
theorem EntsQ.only {w w' : World} {v : Value} {ps : List Pr} {S : Nat → Prop} (h : EntsQ w v ps) (g : Only S w w') (h1 : ∀ b, v.ownBlock = some b → ¬ S b) (h2 : ∀ p ∈ ps, p.1.1.fields ≠ [] → ∀ b, p.2.ownBlock = some b → ¬ S b) : EntsQ w' v ps :=
  ⟨row_only h.row g h1, fun p hp => (h.each p hp).only g (fun hne b hb => h2 p hp hne b hb)⟩
theorem StR.lt {w : World} {lb : Nat} {ev : Value} {ps : List Pr} {nx : Int} {v : Value} {qs : List Pr} (h : StR w lb ev ps nx v qs) {r : Nat} (hr : BlkR lb ev ps v qs r) : r < w.heap.size := by
  rcases hr with rfl | hr | hr | ⟨p, hp, hne, hb⟩ | ⟨p, hp, hne, hb⟩
  · exact h.la.lr.head.lt
  · exact (h.la.lr.ents.row.lt r hr).2
  · exact (h.q.row.lt r hr).2
  · exact (h.la.lr.ents.each p hp).1.lt hne r hb
  · exact (h.q.each p hp).lt hne r hb
theorem StR.only {w w' : World} {lb : Nat} {ev : Value} {ps : List Pr} {nx : Int} {v : Value} {qs : List Pr} {S : Nat → Prop} (h : StR w lb ev ps nx v qs) (g : Only S w w') (hs : ∀ r, BlkR lb ev ps v qs r → ¬ S r) : StR w' lb ev ps nx v qs := by
  refine ⟨⟨⟨h.la.lr.head.only g (hs lb (.inl rfl)), ⟨row_only h.la.lr.ents.row g (fun b hb => hs b (.inr (.inl hb))), fun p hp => (h.la.lr.ents.each p hp).only g (fun hne b hb => hs b (.inr (.inr (.inr (.inl ⟨p, hp, hne, hb⟩)))))⟩⟩, h.la.apart⟩, ?_, h.va, h.qa⟩
  exact h.q.only g (fun b hb => hs b (.inr (.inr (.inl hb)))) (fun p hp hne b hb => hs b (.inr (.inr (.inr (.inr ⟨p, hp, hne, hb⟩)))))
theorem StR.below {w w' : World} {lb : Nat} {ev : Value} {ps : List Pr} {nx : Int} {v : Value} {qs : List Pr} {N : Nat} (h : StR w lb ev ps nx v qs) (hb : Below N w w') (hN : w.heap.size ≤ N) : StR w' lb ev ps nx v qs :=
  h.only (S := fun _ => False) (Only.of_below hb hN) (fun _ _ e => e)
theorem only_one {b : Nat} (w : World) (i : Nat) (u : Value) : Only (· = b) w (w.setCell ⟨b, i, none⟩ u) := (Only.refl (· = b) w).cellS i u
theorem StR.set {w : World} {lb : Nat} {ev : Value} {ps : List Pr} {nx : Int} {v : Value} {qs : List Pr} (h : StR w lb ev ps nx v qs) {b : Nat} (i : Nat) (u : Value) (hs : ¬ BlkR lb ev ps v qs b) : StR (w.setCell ⟨b, i, none⟩ u) lb ev ps nx v qs :=
  h.only (only_one (b := b) w i u) (fun r hr e => hs (by rw [← e]; exact hr))
theorem StR.drew {w : World} {lb : Nat} {ev : Value} {ps : List Pr} {nx : Int} {v : Value} {qs : List Pr} (h : StR w lb ev ps nx v qs) : StR w.drew lb ev ps nx v qs := h.below ((Below.refl _ _).drew) (Nat.le_refl _)
/-- What the list's call and the document's leave, one behind the other. -/
theorem st_edit {w w1 w2 w3 : World} {lb : Nat} {ev ev' : Value} {ps ps' : List Pr} {nx : Int} {v v' x : Value} {qs qs' : List Pr} {d : Did} {u : Value} {es : List En} {fs : List Fld}
    (h : StR w lb ev ps nx v qs) (hb : Below w.heap.size w w1) (R : WrR w1 lb ev ps d u w2 ev' ps') (Q : WrQ w2 v qs x es w3 v' qs')
    (hxl : ∃ A c, x = .slice A fs.length c) (hx : fs ≠ [] → ∀ b, x.ownBlock = some b → b < w.heap.size ∧ b ≠ lb ∧ ev.ownBlock ≠ some b) :
    StR w3 lb ev' ps' d.ls.next v' qs' ∧ (∀ r, BlkR lb ev' ps' v' qs' r → BlkR lb ev ps v qs r ∨ (fs ≠ [] ∧ x.ownBlock = some r) ∨ w1.heap.size ≤ r) := by
  have hz1 := hb.size
  have hz2 := R.only.size
  have hev : ∀ b, ev'.ownBlock = some b → ev.ownBlock = some b ∨ w1.heap.size ≤ b := fun b e => by
    rcases R.blk with q | ⟨b', q, hq⟩
    · exact .inl (by rw [← q]; exact e)
    · right; rw [q] at e; cases e; exact hq
  have hv : ∀ b, v'.ownBlock = some b → v.ownBlock = some b ∨ w2.heap.size ≤ b := fun b e => by
    rcases Q.blk with q | q
    · exact .inl (by rw [← q]; exact e)
    · exact .inr (q b e)
  have hm : ∀ p ∈ qs', p ∈ qs ∨ (p.2 = x ∧ (p.1.1.fields ≠ [] → fs ≠ [])) := fun p hp => by
    rcases Q.mem p hp with q | q
    · exact .inl q
    · refine .inr ⟨q, fun hne e => ?_⟩
      obtain ⟨A, c, e1, _⟩ := Q.ents.each p hp
      obtain ⟨A2, c2, e2⟩ := hxl
      rw [q, e2] at e1
      injection e1 with _ e3 _
      rw [e] at e3
      exact hne (List.length_eq_zero_iff.1 e3.symm)
  have hevlt : ∀ b, ev'.ownBlock = some b → b < w2.heap.size := fun b e => (R.la.lr.ents.row.lt b e).2
  have hlb : lb < w.heap.size := h.lt (.inl rfl)
  refine ⟨⟨R.la.below Q.below (Nat.le_refl _), Q.ents, fun b hb2 => ?_, fun p hp hne b hb2 => ?_⟩, fun r hr => ?_⟩
  · rcases hv b hb2 with q | q
    · obtain ⟨a1, a2⟩ := h.va b q
      refine ⟨a1, fun e => ?_⟩
      rcases hev b e with z | z
      · exact a2 z
      · have := h.lt (.inr (.inr (.inl q))); omega
    · refine ⟨by omega, fun e => ?_⟩
      have := hevlt b e; omega
  · have key : b < w.heap.size ∧ b ≠ lb ∧ ev.ownBlock ≠ some b := by
      rcases hm p hp with q | ⟨q1, q2⟩
      · exact ⟨h.lt (.inr (.inr (.inr (.inr ⟨p, q, hne, hb2⟩)))), h.qa p q hne b hb2⟩
      · rw [q1] at hb2; exact hx (q2 hne) b hb2
    refine ⟨key.2.1, fun e => ?_⟩
    rcases hev b e with z | z
    · exact key.2.2 z
    · omega
  · rcases hr with rfl | hr | hr | ⟨p, hp, hne, hb2⟩ | ⟨p, hp, hne, hb2⟩
    · exact .inl (.inl rfl)
    · rcases hev r hr with z | z
      · exact .inl (.inr (.inl z))
      · exact .inr (.inr z)
    · rcases hv r hr with z | z
      · exact .inl (.inr (.inr (.inl z)))
      · exact .inr (.inr (by omega))
    · rcases R.mem p hp with q | q
      · exact .inl (.inr (.inr (.inr (.inl ⟨p, q, hne, hb2⟩))))
      · exact .inr (.inr (q r hb2))
    · rcases hm p hp with q | ⟨q1, q2⟩
      · exact .inl (.inr (.inr (.inr (.inr ⟨p, q, hne, hb2⟩))))
      · rw [q1] at hb2; exact .inr (.inl ⟨q2 hne, hb2⟩)
theorem spoils_only {P : Nat → Prop} {w w' : World} (h : Spoils P w w') : Only P w w' := ⟨h.os, h.tape, h.output, h.size, fun r hr hn => h.block hr hn⟩
theorem mine_block {lo n : Nat} {w : World} {v : Value} {xs : List Value} (h : w.ownsRow lo 73 2 v n xs) : MineP w (fun r => v.ownBlock = some r) v n := by
  rcases h.2 with ⟨rfl, hn⟩ | ⟨g, cap, cur, rfl, hb, hc, hle, _, hs, _⟩
  · exact .inl ⟨hn, none, 0, rfl⟩
  · exact .inr ⟨g, cap, cur, rfl, hle, rfl, hc, by rw [hs]; exact Nat.mul_le_mul_right 2 hle⟩
/-- Do two edits come to the same? -/
def sameD (d e : Did) : Bool := (((d.bad : Int) == (e.bad : Int)) && (d.at_ == e.at_)) && (d.id == e.id)
theorem sameD_self (d : Did) : sameD d d = true := by unfold sameD; simp
end Go.Proofs.YtiebbgbcojgeoaaGreatDoor
/- The laws' do. -/
namespace Go.Proofs.YtiebbgbcojgeoaaGreatDoor
open Go.RowKit Go.Shelf
attribute [local go_sem] Oper.semAt_some

theorem replaceR_id (l : LS) (id : Int) (fs : List Fld) : (replaceR l id fs).id = 0 := by
  unfold replaceR
  split
  · rfl
  · split <;> rfl
theorem deleteR_id (l : LS) (id : Int) : (deleteR l id).id = 0 ∧ (deleteR l id).at_ = -9 := by
  unfold deleteR
  split <;> exact ⟨rfl, rfl⟩
theorem editR_1 (l : LS) (id : Int) (fs : List Fld) : editR l 1 id fs = replaceR l id fs := rfl
theorem editR_2 (l : LS) (id : Int) (fs : List Fld) : editR l 2 id fs = deleteR l id := rfl
theorem editR_3 (l : LS) {kind : Int} (h1 : kind ≠ 1) (h2 : kind ≠ 2) (id : Int) (fs : List Fld) : editR l kind id fs = insertR l id fs := by
  unfold editR; rw [if_neg h1, if_neg h2]
/-- Behind both edits: what stands. -/
structure MidR (w w1 wx : World) (lb : Nat) (ev : Value) (ps : List Pr) (v : Value) (qs : List Pr) (x : Value) (fs : List Fld) (f : Value) (kind id : Int) (d1 d2 : Did) (u ev' : Value) (ps' : List Pr) (v' : Value) (qs' : List Pr) : Prop where
  st : StR wx lb ev' ps' d1.ls.next v' qs'
  es1 : ps'.map Prod.fst = d1.ls.es
  es2 : qs'.map Prod.fst = d2.ls.es
  only : Only (fun r => r = lb ∨ ev.ownBlock = some r) w wx
  bk : ∀ r, BlkR lb ev' ps' v' qs' r → BlkR lb ev ps v qs r ∨ (fs ≠ [] ∧ x.ownBlock = some r) ∨ w1.heap.size ≤ r
  blk : ∀ b, ev'.ownBlock = some b → ev.ownBlock = some b ∨ w1.heap.size ≤ b
  err : ErrZ w1.heap.size wx u d1.at_ d1.bad
  frow : wx.ownsRow (w.heap.size + 3) 73 2 f fs.length (cellsF fs)
  flt : ∀ b, f.ownBlock = some b → b < w1.heap.size
  c0 : Cells wx w.heap.size 32 #[v', .int .i64 d2.ls.next]
  c1 : Cells wx (w.heap.size + 1) 38 #[.int .i64 kind, .int .i64 id, x]
  c2 : Cells wx (w.heap.size + 2) 32 #[.slice none 0 0, .int .i64 0]
theorem mid_of {w w1 w2 w3 : World} {lb : Nat} {ev ev' : Value} {ps ps' : List Pr} {nx mx kind id : Int} {v v' x x2 f : Value} {qs qs' : List Pr} {fs fs2 : List Fld} {d1 d2 : Did} {u : Value}
    (h : StR w lb ev ps nx v qs) (hb : Below w.heap.size w w1) (h3 : w.heap.size + 3 ≤ w1.heap.size)
    (C0 : Cells w1 w.heap.size 32 #[v, .int .i64 mx]) (C1 : Cells w1 (w.heap.size + 1) 38 #[.int .i64 kind, .int .i64 id, x]) (C2 : Cells w1 (w.heap.size + 2) 32 #[.slice none 0 0, .int .i64 0])
    (F : w1.ownsRow (w.heap.size + 3) 73 2 f fs.length (cellsF fs))
    (R : WrR w1 lb ev ps d1 u w2 ev' ps') (Q : WrQ w2 v qs x2 d2.ls.es w3 v' qs')
    (hxl : ∃ A c, x2 = .slice A fs2.length c) (hx2 : (x2 = x ∧ fs2 = fs) ∨ fs2 = []) (hx : fs ≠ [] → ∀ b, x.ownBlock = some b → b < w.heap.size ∧ b ≠ lb ∧ ev.ownBlock ≠ some b) :
    MidR w w1 ((w3.setCell ⟨w.heap.size, 0, none⟩ v').setCell ⟨w.heap.size, 1, none⟩ (.int .i64 d2.ls.next)) lb ev ps v qs x fs f kind id d1 d2 u ev' ps' v' qs' := by
  have hx' : fs2 ≠ [] → ∀ b, x2.ownBlock = some b → b < w.heap.size ∧ b ≠ lb ∧ ev.ownBlock ≠ some b := by
    rcases hx2 with ⟨rfl, rfl⟩ | e
    · exact hx
    · exact fun n => absurd e n
  obtain ⟨st, bk⟩ := st_edit h hb R Q hxl hx'
  have hz := hb.size
  have hz2 := R.only.size
  have hz3 := Q.below.size
  have hold : ∀ r, BlkR lb ev ps v qs r → r < w.heap.size := fun r hr => h.lt hr
  have bk2 : ∀ r, BlkR lb ev' ps' v' qs' r → BlkR lb ev ps v qs r ∨ (fs ≠ [] ∧ x.ownBlock = some r) ∨ w1.heap.size ≤ r := fun r hr => by
    rcases bk r hr with q | ⟨q1, q2⟩ | q
    · exact .inl q
    · rcases hx2 with ⟨e1, e2⟩ | e
      · exact .inr (.inl ⟨by rw [← e2]; exact q1, by rw [← e1]; exact q2⟩)
      · exact absurd e q1
    · exact .inr (.inr q)
  have hB : ¬ BlkR lb ev' ps' v' qs' w.heap.size := fun hr => by
    rcases bk2 _ hr with q | ⟨q1, q2⟩ | q
    · have := hold _ q; omega
    · have := (hx q1 _ q2).1; omega
    · omega
  have hlb : lb < w.heap.size := hold lb (.inl rfl)
  have hev : ∀ b, ev.ownBlock = some b → b < w.heap.size := fun b e => hold b (.inr (.inl e))
  have o13 : Only (fun r => r = lb ∨ ev.ownBlock = some r) w1 w3 := R.only.below Q.below hz2
  have oo : Only (fun r => r = lb ∨ ev.ownBlock = some r) w w3 := (Only.of_below hb (Nat.le_refl _)).trans o13 (fun r _ e => e)
  have nb : ∀ r, w.heap.size ≤ r → ¬ (r = lb ∨ ev.ownBlock = some r) := fun r hr e => by
    rcases e with e | e
    · omega
    · have := hev r e; omega
  have D0 := C0.only o13 (nb _ (Nat.le_refl _))
  have D1 := C1.only o13 (nb _ (Nat.le_succ _))
  have D2 := C2.only o13 (nb _ (by omega))
  have F3 := row_only F o13 (fun b hbb => nb b (by have := (F.lt b hbb).1; omega))
  have o2 : Only (· = w.heap.size) w3 ((w3.setCell ⟨w.heap.size, 0, none⟩ v').setCell ⟨w.heap.size, 1, none⟩ (.int .i64 d2.ls.next)) := ((Only.refl (· = w.heap.size) w3).cellS 0 _).cellS 1 _
  refine ⟨st.only o2 (fun r hr e => hB (by rw [← e]; exact hr)), R.es, Q.es, (oo.setCell (p := ⟨w.heap.size, 0, none⟩) (.inr (Nat.le_refl _)) _).setCell (p := ⟨w.heap.size, 1, none⟩) (.inr (Nat.le_refl _)) _, bk2, (fun b e => by
    rcases R.blk with q | ⟨b', q, hq⟩
    · exact .inl (by rw [← q]; exact e)
    · right; rw [q] at e; cases e; exact hq), ?_, row_only F3 o2 (fun b hbb e => by have := (F.lt b hbb).1; omega), fun b e => (F.lt b e).2, ?_, D1.only o2 (by omega), D2.only o2 (by omega)⟩
  · exact (R.err.below Q.below (Nat.le_refl _)).only o2 (fun r hr e => by omega)
  · have := (D0.set 0 v').set 1 (.int .i64 d2.ls.next)
    rw [set2] at this; exact this
theorem stzP_len {ps : List Pr} (h : WF (ps.map Prod.fst)) : (stzP 0 ps).length = lenR (ps.map Prod.fst) := by
  rw [← len_both h]
  unfold stzs stzOn stzP
  rw [← stzG_map (κ := fun e : En => e.1.kind) Prod.fst, List.length_map]
theorem findP_R {ps : List Pr} (h : WF (ps.map Prod.fst)) (id : Int) : findP ps id = findR (ps.map Prod.fst) id := by rw [findP_E, find_both h]
theorem gapP_R {ps : List Pr} (h : WF (ps.map Prod.fst)) (id : Int) : gapP ps id = gapR (ps.map Prod.fst) id := by unfold gapP gapR; rw [findP_R h]
theorem full_R {ps : List Pr} (h : WF (ps.map Prod.fst)) (h4 : lenR (ps.map Prod.fst) ≤ 400) : decide ((stzP 0 ps).length = 400) = decide (400 ≤ lenR (ps.map Prod.fst)) := by
  rw [stzP_len h]; exact decide_eq_decide.2 ⟨fun e => by omega, fun e => by omega⟩
end Go.Proofs.YtiebbgbcojgeoaaGreatDoor
/- A drawn region in which each operation yields one value, whatever the order, and one of them turns the world: by a table. -/
namespace Go.Proofs.YtiebbgbcojgeoaaGreatDoor
open Go.RowKit

structure Tab (a0 : Act) (n : Nat) (dst : Nat → Option Nat) (val : Nat → Value) (s : Nat) (W : Bool → World) (l : Array Bool) (a : Act) (w : World) : Prop where
  dfr : a.defers = a0.defers
  sz : a.tmps.size = a0.tmps.size
  frm : ∀ j, (∀ k, k < n → dst k ≠ some j) → a.tmps[j]? = a0.tmps[j]?
  val : ∀ i d, l.getD i false = true → dst i = some d → a.tmps[d]? = some (val i)
  wd : w = W (l.getD s false)
theorem getD_set (l : Array Bool) (i : Nat) (hi : i < l.size) (j : Nat) : (l.setIfInBounds i true).getD j false = if j = i then true else l.getD j false := by
  rw [Array.getD_eq_getD_getElem?, Array.getD_eq_getD_getElem?, Array.getElem?_setIfInBounds]
  by_cases h : i = j
  · subst h; simp [hi]
  · rw [if_neg h, if_neg (Ne.symm h)]
theorem lt_of_getD {l : Array Bool} {i : Nat} (h : l.getD i true = false) : i < l.size := by
  rcases Nat.lt_or_ge i l.size with q | q
  · exact q
  · simp [Array.getD, Nat.not_lt.2 q] at h
theorem put_none (a : Act) (v : Value) : a.put none v = a := rfl
theorem all_done {ops : Array Oper} {l : Array Bool} (hs : l.size = ops.size) (hlow : ∀ i o e, ops[i]? = some o → e ∈ o.after → Region.binds .any e = true → e.on < i) (hr : Region.ready .any ops l = []) : ∀ i, i < ops.size → l.getD i false = true := by
  intro i
  induction i using Nat.strongRecOn with
  | _ i ih =>
    intro hi
    cases hl : l.getD i false with
    | true => rfl
    | false =>
      exfalso
      have ho : ops[i]? = some ops[i] := Array.getElem?_eq_getElem hi
      have : i ∈ Region.ready .any ops l := by
        unfold Region.ready
        rw [List.mem_filter]
        refine ⟨List.mem_range.2 hi, ?_⟩
        have hl2 : l.getD i true = false := by
          have hil : i < l.size := by omega
          simp [Array.getD, hil] at hl ⊢; exact hl
        simp only [ho, Option.map_some, Option.getD_some, Bool.and_eq_true, Bool.not_eq_true']
        refine ⟨hl2, Array.all_eq_true_iff_forall_mem.2 fun e he => ?_⟩
        cases hb : Region.binds .any e with
        | false => simp
        | true =>
          have h1 := hlow i _ e ho he hb
          simp [ih e.on h1 (by omega)]
      rw [hr] at this
      cases this
theorem wpAny_table {P : Program} {ops : Array Oper} {Q : Exit → Act → World → Prop} (a0 : Act) (dst : Nat → Option Nat) (val : Nat → Value) (s : Nat) (W : Bool → World)
    (hd : ∀ i o, ops[i]? = some o → o.dst = dst i) (inj : ∀ i k d, i < ops.size → k < ops.size → dst i = some d → dst k = some d → i = k) (dlt : ∀ i d, i < ops.size → dst i = some d → d < a0.tmps.size)
    (hlow : ∀ i o e, ops[i]? = some o → e ∈ o.after → Region.binds .any e = true → e.on < i)
    (step : ∀ i o a b, ops[i]? = some o → a.tmps.size = a0.tmps.size → (∀ j, (∀ k, k < ops.size → dst k ≠ some j) → a.tmps[j]? = a0.tmps[j]?) → (∀ e ∈ o.after, Region.binds .any e = true → ∀ d, dst e.on = some d → a.tmps[d]? = some (val e.on)) → (i = s → b = false) →
      (Region.wanted o (yielded ops a.tmps) = true ∧ ∀ K : Act → World → Prop, K (a.put (dst i) (val i)) (W (if i = s then true else b)) → Oper.wp P o a (W b) K Q) ∨ (Region.wanted o (yielded ops a.tmps) = false ∧ val i = undef ∧ i ≠ s))
    (hQ : ∀ a, a.defers = a0.defers → a.tmps.size = a0.tmps.size → (∀ j, (∀ k, k < ops.size → dst k ≠ some j) → a.tmps[j]? = a0.tmps[j]?) → (∀ i d, i < ops.size → dst i = some d → a.tmps[d]? = some (val i)) → Q .normal a (W true)) (hsz : s < ops.size) :
    wpAny P .any ops Q ops.size (Array.replicate ops.size false) a0 (W false) := by
  refine wpAny_inv (Tab a0 ops.size dst val s W) ?step ?done ops.size _ a0 _ ?start (by simp) (by unfold todo; simp)
  case start =>
    have e : ∀ i, (Array.replicate ops.size false).getD i false = false := fun i => by
      rw [Array.getD_eq_getD_getElem?, Array.getElem?_replicate]; split <;> rfl
    exact ⟨rfl, rfl, fun _ _ => rfl, (fun i d h => absurd ((e i).symm.trans h) (by decide)), by rw [e]⟩
  case done =>
    intro l a w I hl hr
    have A := all_done hl hlow hr
    rw [I.wd, A s hsz]
    exact hQ a I.dfr I.sz I.frm (fun i d hi h => I.val i d (A i hi) h)
  case step =>
    intro l i o a w I hl ho hli he
    have hil := lt_of_getD hli
    have hi : i < ops.size := by omega
    have hl0 : l.getD i false = false := by simp [Array.getD, hil] at hli ⊢; exact hli
    have dep : ∀ e ∈ o.after, Region.binds .any e = true → ∀ d, dst e.on = some d → a.tmps[d]? = some (val e.on) := fun e h1 h2 d h3 => I.val e.on d (he e h1 h2) h3
    have hsb : i = s → l.getD s false = false := fun e => by rw [← e]; exact hl0
    have key : ∀ b', b' = (if i = s then true else l.getD s false) → Tab a0 ops.size dst val s W (l.setIfInBounds i true) (a.put (dst i) (val i)) (W b') := by
      rintro b' rfl
      have hw : (l.setIfInBounds i true).getD s false = if i = s then true else l.getD s false := by
        rw [getD_set l i hil]
        by_cases q : i = s
        · rw [if_pos q.symm, if_pos q]
        · rw [if_neg (Ne.symm q), if_neg q]
      cases hdi : dst i with
      | none =>
        refine ⟨I.dfr, I.sz, I.frm, fun k d hk hkd => ?_, by rw [hw]⟩
        rw [getD_set l i hil] at hk
        by_cases q : k = i
        · rw [q, hdi] at hkd; cases hkd
        · rw [if_neg q] at hk; exact I.val k d hk hkd
      | some d0 =>
        have hd0 := dlt i d0 hi hdi
        have T : ∀ j, (a.put (some d0) (val i)).tmps[j]? = if j = d0 then some (val i) else a.tmps[j]? := fun j => by
          show (a.tmps.setIfInBounds d0 (val i))[j]? = _
          rw [Array.getElem?_setIfInBounds]
          by_cases h : d0 = j
          · subst h; simp [I.sz, hd0]
          · rw [if_neg h, if_neg (Ne.symm h)]
        refine ⟨I.dfr, ?_, fun j hj => ?_, fun k d hk hkd => ?_, by rw [hw]⟩
        · show (a.tmps.setIfInBounds d0 (val i)).size = _
          simp [I.sz]
        · rw [T, if_neg (fun e => hj i hi (by rw [hdi, e]))]; exact I.frm j hj
        · rw [T]
          rw [getD_set l i hil] at hk
          by_cases q : k = i
          · subst q
            rw [hdi] at hkd
            rw [if_pos (Option.some.inj hkd).symm]
          · rw [if_neg q] at hk
            have hkl : k < ops.size := by
              rcases Nat.lt_or_ge k ops.size with z | z
              · exact z
              · rw [Array.getD_eq_getD_getElem?, Array.getElem?_eq_none (by omega)] at hk; cases hk
            rw [if_neg (fun e => q (inj k i d hkl hi hkd (by rw [hdi, e])))]
            exact I.val k d hk hkd
    unfold wpOp
    rw [ho]
    dsimp only
    rw [I.wd]
    rcases step i o a (l.getD s false) ho I.sz I.frm dep hsb with ⟨h1, h2⟩ | ⟨h1, h2, h3⟩
    · rw [if_pos h1]
      exact .inl (h2 _ (key _ rfl))
    · rw [if_neg (by rw [h1]; decide), hd i o ho, ← h2]
      have := key (l.getD s false) (by rw [if_neg h3])
      exact this
end Go.Proofs.YtiebbgbcojgeoaaGreatDoor
/- do's last region, by a table. -/
namespace Go.Proofs.YtiebbgbcojgeoaaGreatDoor
open Go.RowKit Go.Shelf
attribute [local go_sem] Oper.semAt_some

def ops15 : Array Oper := #[{ dst := some 75, op := Op.load 32 (Operand.tmp 4), type := 32, pos := "law.go:40", after := #[], guard := none },
  { dst := some 76, op := Op.move (Operand.tmp 14), type := 4, pos := "law.go:40", after := #[], guard := none },
  { dst := some 77, op := Op.move (Operand.tmp 76), type := 4, pos := "law.go:40", after := #[{ on := 1, ground := Ground.data }], guard := none },
  { dst := some 78, op := Op.move (Operand.tmp 9), type := 27, pos := "law.go:40", after := #[{ on := 2, ground := Ground.guard }], guard := some (2, true) },
  { dst := some 79, op := Op.call { callee := Callee.value (Operand.func 14), args := #[Operand.tmp 78], argTypes := #[27] }, type := 3, pos := "law.go:40", after := #[{ on := 3, ground := Ground.data }, { on := 2, ground := Ground.chain }, { on := 2, ground := Ground.guard }], guard := some (2, true) },
  { dst := some 80, op := Op.move (Operand.tmp 11), type := 3, pos := "law.go:40", after := #[{ on := 2, ground := Ground.guard }], guard := some (2, true) },
  { dst := some 81, op := Op.binOp BinOp.eql 3 (Operand.tmp 79) (Operand.tmp 80) 3, type := 4, pos := "law.go:40", after := #[{ on := 4, ground := Ground.data }, { on := 5, ground := Ground.data }, { on := 2, ground := Ground.guard }], guard := some (2, true) },
  { dst := some 82, op := Op.pick (Operand.tmp 77) (Operand.tmp 81) (Operand.const (Value.bool false)), type := 4, pos := "law.go:40", after := #[{ on := 2, ground := Ground.data }, { on := 6, ground := Ground.data }], guard := none },
  { dst := some 83, op := Op.move (Operand.tmp 82), type := 4, pos := "law.go:40", after := #[{ on := 7, ground := Ground.data }, { on := 4, ground := Ground.chain }], guard := none },
  { dst := some 84, op := Op.move (Operand.tmp 9), type := 27, pos := "law.go:40", after := #[{ on := 8, ground := Ground.guard }], guard := some (8, true) },
  { dst := some 85, op := Op.call { callee := Callee.value (Operand.func 15), args := #[Operand.tmp 84], argTypes := #[27] }, type := 3, pos := "law.go:40", after := #[{ on := 9, ground := Ground.data }, { on := 8, ground := Ground.chain }, { on := 8, ground := Ground.guard }], guard := some (8, true) },
  { dst := some 86, op := Op.move (Operand.tmp 10), type := 3, pos := "law.go:40", after := #[{ on := 8, ground := Ground.guard }], guard := some (8, true) },
  { dst := some 87, op := Op.binOp BinOp.eql 3 (Operand.tmp 85) (Operand.tmp 86) 3, type := 4, pos := "law.go:40", after := #[{ on := 10, ground := Ground.data }, { on := 11, ground := Ground.data }, { on := 8, ground := Ground.guard }], guard := some (8, true) },
  { dst := some 88, op := Op.pick (Operand.tmp 83) (Operand.tmp 87) (Operand.const (Value.bool false)), type := 4, pos := "law.go:40", after := #[{ on := 8, ground := Ground.data }, { on := 12, ground := Ground.data }], guard := none },
  { dst := some 89, op := Op.move (Operand.tmp 88), type := 4, pos := "law.go:40", after := #[{ on := 13, ground := Ground.data }, { on := 10, ground := Ground.chain }], guard := none },
  { dst := some 90, op := Op.move (Operand.tmp 12), type := 3, pos := "law.go:40", after := #[{ on := 14, ground := Ground.guard }, { on := 19, ground := Ground.gcOnly Departure.lateStores }], guard := some (14, true) },
  { dst := some 91, op := Op.move (Operand.tmp 13), type := 3, pos := "law.go:40", after := #[{ on := 14, ground := Ground.guard }, { on := 19, ground := Ground.gcOnly Departure.lateStores }], guard := some (14, true) },
  { dst := some 92, op := Op.binOp BinOp.eql 3 (Operand.tmp 90) (Operand.tmp 91) 3, type := 4, pos := "law.go:40", after := #[{ on := 15, ground := Ground.data }, { on := 16, ground := Ground.data }, { on := 14, ground := Ground.guard }, { on := 19, ground := Ground.gcOnly Departure.lateStores }], guard := some (14, true) },
  { dst := some 93, op := Op.pick (Operand.tmp 89) (Operand.tmp 92) (Operand.const (Value.bool false)), type := 4, pos := "law.go:40", after := #[{ on := 14, ground := Ground.data }, { on := 17, ground := Ground.data }, { on := 19, ground := Ground.gcOnly Departure.lateStores }], guard := none },
  { dst := none, op := Op.store 32 (Operand.tmp 6) (Operand.tmp 75), type := 0, pos := "law.go:40", after := #[{ on := 0, ground := Ground.data }, { on := 14, ground := Ground.chain }, { on := 0, ground := Ground.phase }, { on := 1, ground := Ground.textOnly Departure.lateStores }, { on := 2, ground := Ground.textOnly Departure.lateStores }, { on := 3, ground := Ground.textOnly Departure.lateStores }, { on := 4, ground := Ground.textOnly Departure.lateStoresUnsure }, { on := 5, ground := Ground.textOnly Departure.lateStores }, { on := 6, ground := Ground.textOnly Departure.lateStores }, { on := 7, ground := Ground.textOnly Departure.lateStores }, { on := 8, ground := Ground.textOnly Departure.lateStores }, { on := 9, ground := Ground.textOnly Departure.lateStores }, { on := 10, ground := Ground.textOnly Departure.lateStoresUnsure }, { on := 11, ground := Ground.textOnly Departure.lateStores }, { on := 12, ground := Ground.textOnly Departure.lateStores }, { on := 13, ground := Ground.textOnly Departure.lateStores }, { on := 14, ground := Ground.textOnly Departure.lateStores }, { on := 15, ground := Ground.textOnly Departure.lateStores }, { on := 16, ground := Ground.textOnly Departure.lateStores }, { on := 17, ground := Ground.textOnly Departure.lateStores }, { on := 18, ground := Ground.textOnly Departure.lateStores }], guard := none },
  { dst := some 7, op := Op.assign (Operand.tmp 93), type := 4, pos := "law.go:40", after := #[{ on := 18, ground := Ground.data }, { on := 19, ground := Ground.chain }, { on := 0, ground := Ground.phase }, { on := 1, ground := Ground.phase }, { on := 2, ground := Ground.phase }, { on := 3, ground := Ground.phase }, { on := 4, ground := Ground.phase }, { on := 5, ground := Ground.phase }, { on := 6, ground := Ground.phase }, { on := 7, ground := Ground.phase }, { on := 8, ground := Ground.phase }, { on := 9, ground := Ground.phase }, { on := 10, ground := Ground.phase }, { on := 11, ground := Ground.phase }, { on := 12, ground := Ground.phase }, { on := 13, ground := Ground.phase }, { on := 14, ground := Ground.phase }, { on := 15, ground := Ground.phase }, { on := 16, ground := Ground.phase }, { on := 17, ground := Ground.phase }, { on := 18, ground := Ground.phase }, { on := 19, ground := Ground.phase }], guard := none }]
def dst15 (i : Nat) : Option Nat := if i < 19 then some (75 + i) else if i = 20 then some 7 else none
def val15 (vm e : Value) (n1 n2 a1 a2 i1 i2 : Int) (b1 b2 b3 : Bool) (i : Nat) : Value :=
  match i with
  | 0 => vm
  | 1 => .bool true
  | 2 => .bool true
  | 3 => e
  | 4 => .int .i64 n1
  | 5 => .int .i64 n2
  | 6 => .bool b1
  | 7 => .bool b1
  | 8 => .bool b1
  | 9 => if b1 = true then e else undef
  | 10 => if b1 = true then .int .i64 a1 else undef
  | 11 => if b1 = true then .int .i64 a2 else undef
  | 12 => if b1 = true then .bool b2 else undef
  | 13 => .bool (b1 && b2)
  | 14 => .bool (b1 && b2)
  | 15 => if (b1 && b2) = true then .int .i64 i1 else undef
  | 16 => if (b1 && b2) = true then .int .i64 i2 else undef
  | 17 => if (b1 && b2) = true then .bool b3 else undef
  | 18 => .bool ((b1 && b2) && b3)
  | 20 => .bool ((b1 && b2) && b3)
  | _ => undef
theorem ev15 {a : Act} {i : Nat} {v : Value} (h : a.tmps[i]? = some v) : a.eval (.tmp i) = v := by
  show a.tmps.getD i undef = v
  rw [Array.getD_eq_getD_getElem?, h]; rfl
section
variable {o : Oper} {a : Act} {w : World} {K : Act → World → Prop} {Q : Exit → Act → World → Prop}
theorem op_move {x : Operand} {v : Value} (ho : o.op = Op.move x) (hx : a.eval x = v) (hK : K (a.put o.dst v) w) : Oper.wp Tryz.prog o a w K Q := by
  unfold Oper.wp
  have e : (execOp a.eval o).run Tryz.prog w = .ok (.value v) w := by
    simp only [execOp, ho, hx]
    simp [go_sem]
  rw [e]; exact hK
theorem op_assign {x : Operand} {v : Value} (ho : o.op = Op.assign x) (hx : a.eval x = v) (hK : K (a.put o.dst v) w) : Oper.wp Tryz.prog o a w K Q := by
  unfold Oper.wp
  have e : (execOp a.eval o).run Tryz.prog w = .ok (.value v) w := by
    simp only [execOp, ho, hx]
    simp [go_sem]
  rw [e]; exact hK
theorem op_eql {x y : Operand} {m n : Int} {b : Bool} (ho : o.op = Op.binOp BinOp.eql 3 x y 3) (hx : a.eval x = .int .i64 m) (hy : a.eval y = .int .i64 n) (hb : (m == n) = b) (hK : K (a.put o.dst (.bool b)) w) : Oper.wp Tryz.prog o a w K Q := by
  subst hb
  unfold Oper.wp
  have e : (execOp a.eval o).run Tryz.prog w = .ok (.value (.bool (m == n))) w := by
    simp only [execOp, ho, hx, hy]
    simp [go_sem]
  rw [e]; exact hK
theorem op_pick {c x y : Operand} {b : Bool} {v u z : Value} (ho : o.op = Op.pick c x y) (hc : a.eval c = .bool b) (hx : a.eval x = v) (hy : a.eval y = u) (hz : z = if b = true then v else u) (hK : K (a.put o.dst z) w) : Oper.wp Tryz.prog o a w K Q := by
  subst hz
  unfold Oper.wp
  have e : (execOp a.eval o).run Tryz.prog w = .ok (.value (if b = true then v else u)) w := by
    simp only [execOp, ho, hc, hx, hy]
    cases b <;> simp [go_sem]
  rw [e]; exact hK
theorem op_load2 {x : Operand} {b : Nat} {u0 u1 : Value} (ho : o.op = Op.load 32 x) (hx : a.eval x = .pointer (some ⟨b, 0, none⟩)) (c0 : w.cell? ⟨b, 0, none⟩ = some u0) (c1 : w.cell? ⟨b, 1, none⟩ = some u1) (hK : K (a.put o.dst (.agg #[u0, u1])) w) : Oper.wp Tryz.prog o a w K Q := by
  unfold Oper.wp
  have e : (execOp a.eval o).run Tryz.prog w = .ok (.value (.agg #[u0, u1])) w := by
    simp only [execOp, ho, hx]
    simp [go_sem, Result.andThen, c0, c1]
  rw [e]; exact hK
theorem op_store2 {x y : Operand} {b : Nat} {u0 u1 : Value} {fa : Option Addr} {n c : Nat} {m : Int} (ho : o.op = Op.store 32 x y) (hx : a.eval x = .pointer (some ⟨b, 0, none⟩)) (hy : a.eval y = .agg #[.slice fa n c, .int .i64 m]) (c0 : w.cell? ⟨b, 0, none⟩ = some u0) (c1 : w.cell? ⟨b, 1, none⟩ = some u1) (f0 : w.frozen? ⟨b, 0, none⟩ = false) (f1 : w.frozen? ⟨b, 1, none⟩ = false)
    (hK : K (a.put o.dst undef) ((w.setCell ⟨b, 0, none⟩ (.slice fa n c)).setCell ⟨b, 1, none⟩ (.int .i64 m))) : Oper.wp Tryz.prog o a w K Q := by
  unfold Oper.wp
  have e : (execOp a.eval o).run Tryz.prog w = .ok .skip ((w.setCell ⟨b, 0, none⟩ (.slice fa n c)).setCell ⟨b, 1, none⟩ (.int .i64 m)) := by
    simp only [execOp, ho, hx, hy]
    simp [go_sem, Result.andThen, c0, c1, f0, f1]
  rw [e]; exact hK
end
theorem op_call1 {o : Oper} {a : Act} {w : World} {K : Act → World → Prop} {Q : Exit → Act → World → Prop} {x : Operand} {u v : Value} (F : Nat) {T : TypeId} (ho : o.op = Op.call { callee := Callee.value (Operand.func F), args := #[x], argTypes := #[T] }) (hx : a.eval x = u)
    (en : ∀ args w, (callFunc F args).run Tryz.prog w = .ok (.enter F args) w) (hC : Calls Tryz.prog F #[u] w fun e w' => e = .returned v ∧ w = w') (hK : K (a.put o.dst v) w) : Oper.wp Tryz.prog o a w K Q := by
  unfold Oper.wp
  have e : (execOp a.eval o).run Tryz.prog w = .ok (.enter F #[u]) w := by
    have hf : a.eval (.func F) = .func (.func F) #[] #[] := rfl
    generalize a.eval = ρ at hx hf ⊢
    simp only [execOp, ho]
    simp [go_sem, resolve, invoke, hx, hf, en]
  rw [e]
  refine hC.mono ?_
  rintro e w' ⟨rfl, rfl⟩
  exact hK
theorem want0 {o : Oper} {a : Act} (h : o.guard = none) : Region.wanted o (yielded ops15 a.tmps) = true := by
  unfold Region.wanted; rw [h]
theorem yield15 {a : Act} {i d : Nat} {b : Bool} (hd : ((ops15[i]?).bind (·.dst)) = some d) (h : a.tmps[d]? = some (.bool b)) : yielded ops15 a.tmps i = some b := by
  unfold yielded
  rw [hd]
  show (match a.tmps[d]? with | some (.bool b) => some b | _ => none) = _
  rw [h]
theorem want1 {o : Oper} {a : Act} {i d : Nat} {b : Bool} (hg : o.guard = some (i, true)) (hd : ((ops15[i]?).bind (·.dst)) = some d) (h : a.tmps[d]? = some (.bool b)) : Region.wanted o (yielded ops15 a.tmps) = b := by
  unfold Region.wanted
  rw [hg]
  show (yielded ops15 a.tmps i == some true) = b
  rw [yield15 hd h]
  cases b <;> rfl
theorem dst15_inj : ∀ i, i < 21 → ∀ k, k < 21 → dst15 i ≠ none → dst15 i = dst15 k → i = k := by decide +kernel
theorem dst15_lt : ∀ i, i < 21 → (dst15 i).getD 0 < 94 := by decide +kernel
theorem low15 : ∀ i : Fin 21, ∀ e ∈ (ops15[i.1]'(by exact i.2)).after, Region.binds .any e = true → e.on < i.1 := by decide +kernel
theorem dsts15 : ∀ i : Fin 21, (ops15[i.1]'(by exact i.2)).dst = dst15 i.1 := by decide +kernel
set_option maxRecDepth 100000 in
set_option maxHeartbeats 4000000 in
theorem region_do (a0 : Act) (w0 : World) (mb rb : Nat) (e : Value) (fa : Option Addr) (fn fc : Nat) (m n1 n2 a1 a2 i1 i2 : Int) (b1 b2 b3 : Bool) (Q : Exit → Act → World → Prop)
    (hsz : a0.tmps.size = 94) (h4 : a0.tmps[4]? = some (.pointer (some ⟨mb, 0, none⟩))) (h6 : a0.tmps[6]? = some (.pointer (some ⟨rb, 0, none⟩))) (h9 : a0.tmps[9]? = some e) (h10 : a0.tmps[10]? = some (.int .i64 a2)) (h11 : a0.tmps[11]? = some (.int .i64 n2)) (h12 : a0.tmps[12]? = some (.int .i64 i1)) (h13 : a0.tmps[13]? = some (.int .i64 i2)) (h14 : a0.tmps[14]? = some (.bool true))
    (hb1 : (n1 == n2) = b1) (hb2 : (a1 == a2) = b2) (hb3 : (i1 == i2) = b3) (hne : mb ≠ rb)
    (hM : Cells w0 mb 32 #[.slice fa fn fc, .int .i64 m]) (hR : ∃ cur, Cells w0 rb 32 cur ∧ cur.size = 2)
    (hN : ∀ W, W = w0 ∨ W = (w0.setCell ⟨rb, 0, none⟩ (.slice fa fn fc)).setCell ⟨rb, 1, none⟩ (.int .i64 m) → Calls Tryz.prog 14 #[e] W fun x w' => x = .returned (.int .i64 n1) ∧ W = w')
    (hA : ∀ W, W = w0 ∨ W = (w0.setCell ⟨rb, 0, none⟩ (.slice fa fn fc)).setCell ⟨rb, 1, none⟩ (.int .i64 m) → Calls Tryz.prog 15 #[e] W fun x w' => x = .returned (.int .i64 a1) ∧ W = w')
    (hQ : ∀ a, a.defers = a0.defers → a.tmps.getD 6 undef = .pointer (some ⟨rb, 0, none⟩) → a.tmps.getD 7 undef = .bool ((b1 && b2) && b3) → Q .normal a ((w0.setCell ⟨rb, 0, none⟩ (.slice fa fn fc)).setCell ⟨rb, 1, none⟩ (.int .i64 m))) :
    wpAny Tryz.prog .any ops15 Q ops15.size (Array.replicate ops15.size false) a0 w0 := by
  obtain ⟨W, hW⟩ : ∃ W : Bool → World, W = fun b => if b = true then (w0.setCell ⟨rb, 0, none⟩ (.slice fa fn fc)).setCell ⟨rb, 1, none⟩ (.int .i64 m) else w0 := ⟨_, rfl⟩
  have W0 : W false = w0 := by rw [hW]; rfl
  have W1 : W true = (w0.setCell ⟨rb, 0, none⟩ (.slice fa fn fc)).setCell ⟨rb, 1, none⟩ (.int .i64 m) := by rw [hW]; rfl
  have WW : ∀ b, W b = w0 ∨ W b = (w0.setCell ⟨rb, 0, none⟩ (.slice fa fn fc)).setCell ⟨rb, 1, none⟩ (.int .i64 m) := fun b => by cases b; exact .inl W0; exact .inr W1
  have MC : ∀ b, Cells (W b) mb 32 #[.slice fa fn fc, .int .i64 m] := fun b => by
    rcases WW b with h | h
    · rw [h]; exact hM
    · rw [h]; exact (hM.other (p := ⟨rb, 0, none⟩) hne _).other (p := ⟨rb, 1, none⟩) hne _
  have outside : ∀ j, j < 75 → j ≠ 7 → ∀ k, k < 21 → dst15 k ≠ some j := fun j h1 h2 k hk => by
    unfold dst15
    split
    · intro q; have := Option.some.inj q; omega
    · split
      · intro q; have := Option.some.inj q; omega
      · intro q; cases q
  have R := wpAny_table (P := Tryz.prog) (ops := ops15) (Q := Q) a0 dst15 (val15 (.agg #[.slice fa fn fc, .int .i64 m]) e n1 n2 a1 a2 i1 i2 b1 b2 b3) 19 W
    (fun i o ho => by
      obtain ⟨hi, rfl⟩ := Array.getElem?_eq_some_iff.1 ho
      exact dsts15 ⟨i, hi⟩)
    (fun i k d hi hk h1 h2 => dst15_inj i hi k hk (by rw [h1]; intro q; cases q) (by rw [h1, h2]))
    (fun i d hi h => by have := dst15_lt i hi; rw [h] at this; rw [hsz]; exact this)
    (fun i o e ho he hb => by
      obtain ⟨hi, rfl⟩ := Array.getElem?_eq_some_iff.1 ho
      exact low15 ⟨i, hi⟩ e he hb)
    ?step ?fin (by decide)
  case fin =>
    intro a hd hs hf hv
    rw [W1]
    refine hQ a hd ?_ ?_
    · exact ev15 ((hf 6 (outside 6 (by decide) (by decide))).trans h6)
    · exact ev15 (hv 20 7 (by decide) rfl)
  case step =>
    intro i o a b ho hs hf dep hib
    have hi : i < 21 := (Array.getElem?_eq_some_iff.1 ho).1
    have e4 := ev15 ((hf 4 (outside 4 (by decide) (by decide))).trans h4)
    have e6 := ev15 ((hf 6 (outside 6 (by decide) (by decide))).trans h6)
    have e9 := ev15 ((hf 9 (outside 9 (by decide) (by decide))).trans h9)
    have e10 := ev15 ((hf 10 (outside 10 (by decide) (by decide))).trans h10)
    have e11 := ev15 ((hf 11 (outside 11 (by decide) (by decide))).trans h11)
    have e12 := ev15 ((hf 12 (outside 12 (by decide) (by decide))).trans h12)
    have e13 := ev15 ((hf 13 (outside 13 (by decide) (by decide))).trans h13)
    have e14 := ev15 ((hf 14 (outside 14 (by decide) (by decide))).trans h14)
    rcases (by omega : i = 0 ∨ i = 1 ∨ i = 2 ∨ i = 3 ∨ i = 4 ∨ i = 5 ∨ i = 6 ∨ i = 7 ∨ i = 8 ∨ i = 9 ∨ i = 10 ∨ i = 11 ∨ i = 12 ∨ i = 13 ∨ i = 14 ∨ i = 15 ∨ i = 16 ∨ i = 17 ∨ i = 18 ∨ i = 19 ∨ i = 20) with rfl | rfl | rfl | rfl | rfl | rfl | rfl | rfl | rfl | rfl | rfl | rfl | rfl | rfl | rfl | rfl | rfl | rfl | rfl | rfl | rfl
    · have ho2 : some _ = some o := ho
      obtain rfl := Option.some.inj ho2
      exact .inl ⟨want0 rfl, fun K hK => op_load2 rfl e4 ((MC b).cell 0) ((MC b).cell 1) hK⟩
    · have ho2 : some _ = some o := ho
      obtain rfl := Option.some.inj ho2
      exact .inl ⟨want0 rfl, fun K hK => op_move rfl e14 hK⟩
    · have ho2 : some _ = some o := ho
      obtain rfl := Option.some.inj ho2
      exact .inl ⟨want0 rfl, fun K hK => op_move rfl (ev15 (dep ⟨1, Ground.data⟩ (by simp [ops15]) rfl 76 rfl)) hK⟩
    · have ho2 : some _ = some o := ho
      obtain rfl := Option.some.inj ho2
      exact .inl ⟨want1 (b := true) rfl (show ((ops15[2]?).bind (·.dst)) = some 77 from rfl) (dep ⟨2, Ground.guard⟩ (by simp [ops15]) rfl 77 rfl), fun K hK => op_move rfl e9 hK⟩
    · have ho2 : some _ = some o := ho
      obtain rfl := Option.some.inj ho2
      exact .inl ⟨want1 (b := true) rfl (show ((ops15[2]?).bind (·.dst)) = some 77 from rfl) (dep ⟨2, Ground.guard⟩ (by simp [ops15]) rfl 77 rfl), fun K hK => op_call1 14 rfl (ev15 (dep ⟨3, Ground.data⟩ (by simp [ops15]) rfl 78 rfl)) (enters_of (P := Tryz.prog) Tryz.func14 (by kernel_rfl) rfl) (hN _ (WW b)) hK⟩
    · have ho2 : some _ = some o := ho
      obtain rfl := Option.some.inj ho2
      exact .inl ⟨want1 (b := true) rfl (show ((ops15[2]?).bind (·.dst)) = some 77 from rfl) (dep ⟨2, Ground.guard⟩ (by simp [ops15]) rfl 77 rfl), fun K hK => op_move rfl e11 hK⟩
    · have ho2 : some _ = some o := ho
      obtain rfl := Option.some.inj ho2
      exact .inl ⟨want1 (b := true) rfl (show ((ops15[2]?).bind (·.dst)) = some 77 from rfl) (dep ⟨2, Ground.guard⟩ (by simp [ops15]) rfl 77 rfl), fun K hK => op_eql rfl (ev15 (dep ⟨4, Ground.data⟩ (by simp [ops15]) rfl 79 rfl)) (ev15 (dep ⟨5, Ground.data⟩ (by simp [ops15]) rfl 80 rfl)) hb1 hK⟩
    · have ho2 : some _ = some o := ho
      obtain rfl := Option.some.inj ho2
      exact .inl ⟨want0 rfl, fun K hK => op_pick rfl (ev15 (dep ⟨2, Ground.data⟩ (by simp [ops15]) rfl 77 rfl)) (ev15 (dep ⟨6, Ground.data⟩ (by simp [ops15]) rfl 81 rfl)) rfl rfl hK⟩
    · have ho2 : some _ = some o := ho
      obtain rfl := Option.some.inj ho2
      exact .inl ⟨want0 rfl, fun K hK => op_move rfl (ev15 (dep ⟨7, Ground.data⟩ (by simp [ops15]) rfl 82 rfl)) hK⟩
    · have ho2 : some _ = some o := ho
      obtain rfl := Option.some.inj ho2
      have wt := want1 (o := ops15[9]'(by decide)) (b := b1) rfl (show ((ops15[8]?).bind (·.dst)) = some 83 from rfl) (dep ⟨8, Ground.guard⟩ (by simp [ops15]) rfl 83 rfl)
      cases hc : b1 with
      | false => exact .inr ⟨wt.trans hc, by first | rfl | (simp only [val15, hc]; rfl), by decide⟩
      | true =>
        refine .inl ⟨wt.trans hc, fun K hK => ?_⟩
        have vals : ∀ j v, val15 (.agg #[.slice fa fn fc, .int .i64 m]) e n1 n2 a1 a2 i1 i2 b1 b2 b3 j = v → True := fun _ _ _ => trivial
        simp only [val15, hc, if_true] at hK dep
        exact op_move rfl e9 hK
    · have ho2 : some _ = some o := ho
      obtain rfl := Option.some.inj ho2
      have wt := want1 (o := ops15[10]'(by decide)) (b := b1) rfl (show ((ops15[8]?).bind (·.dst)) = some 83 from rfl) (dep ⟨8, Ground.guard⟩ (by simp [ops15]) rfl 83 rfl)
      cases hc : b1 with
      | false => exact .inr ⟨wt.trans hc, by first | rfl | (simp only [val15, hc]; rfl), by decide⟩
      | true =>
        refine .inl ⟨wt.trans hc, fun K hK => ?_⟩
        have vals : ∀ j v, val15 (.agg #[.slice fa fn fc, .int .i64 m]) e n1 n2 a1 a2 i1 i2 b1 b2 b3 j = v → True := fun _ _ _ => trivial
        simp only [val15, hc, if_true] at hK dep
        exact op_call1 15 rfl (ev15 (dep ⟨9, Ground.data⟩ (by simp [ops15]) rfl 84 rfl)) (enters_of (P := Tryz.prog) Tryz.func15 (by kernel_rfl) rfl) (hA _ (WW b)) hK
    · have ho2 : some _ = some o := ho
      obtain rfl := Option.some.inj ho2
      have wt := want1 (o := ops15[11]'(by decide)) (b := b1) rfl (show ((ops15[8]?).bind (·.dst)) = some 83 from rfl) (dep ⟨8, Ground.guard⟩ (by simp [ops15]) rfl 83 rfl)
      cases hc : b1 with
      | false => exact .inr ⟨wt.trans hc, by first | rfl | (simp only [val15, hc]; rfl), by decide⟩
      | true =>
        refine .inl ⟨wt.trans hc, fun K hK => ?_⟩
        have vals : ∀ j v, val15 (.agg #[.slice fa fn fc, .int .i64 m]) e n1 n2 a1 a2 i1 i2 b1 b2 b3 j = v → True := fun _ _ _ => trivial
        simp only [val15, hc, if_true] at hK dep
        exact op_move rfl e10 hK
    · have ho2 : some _ = some o := ho
      obtain rfl := Option.some.inj ho2
      have wt := want1 (o := ops15[12]'(by decide)) (b := b1) rfl (show ((ops15[8]?).bind (·.dst)) = some 83 from rfl) (dep ⟨8, Ground.guard⟩ (by simp [ops15]) rfl 83 rfl)
      cases hc : b1 with
      | false => exact .inr ⟨wt.trans hc, by first | rfl | (simp only [val15, hc]; rfl), by decide⟩
      | true =>
        refine .inl ⟨wt.trans hc, fun K hK => ?_⟩
        have vals : ∀ j v, val15 (.agg #[.slice fa fn fc, .int .i64 m]) e n1 n2 a1 a2 i1 i2 b1 b2 b3 j = v → True := fun _ _ _ => trivial
        simp only [val15, hc, if_true] at hK dep
        exact op_eql rfl (ev15 (dep ⟨10, Ground.data⟩ (by simp [ops15]) rfl 85 rfl)) (ev15 (dep ⟨11, Ground.data⟩ (by simp [ops15]) rfl 86 rfl)) hb2 hK
    · have ho2 : some _ = some o := ho
      obtain rfl := Option.some.inj ho2
      exact .inl ⟨want0 rfl, fun K hK => op_pick rfl (ev15 (dep ⟨8, Ground.data⟩ (by simp [ops15]) rfl 83 rfl)) (ev15 (dep ⟨12, Ground.data⟩ (by simp [ops15]) rfl 87 rfl)) rfl (by cases b1 <;> rfl) hK⟩
    · have ho2 : some _ = some o := ho
      obtain rfl := Option.some.inj ho2
      exact .inl ⟨want0 rfl, fun K hK => op_move rfl (ev15 (dep ⟨13, Ground.data⟩ (by simp [ops15]) rfl 88 rfl)) hK⟩
    · have ho2 : some _ = some o := ho
      obtain rfl := Option.some.inj ho2
      have wt := want1 (o := ops15[15]'(by decide)) (b := (b1 && b2)) rfl (show ((ops15[14]?).bind (·.dst)) = some 89 from rfl) (dep ⟨14, Ground.guard⟩ (by simp [ops15]) rfl 89 rfl)
      cases hc : (b1 && b2) with
      | false => exact .inr ⟨wt.trans hc, by first | rfl | (simp only [val15, hc]; rfl), by decide⟩
      | true =>
        refine .inl ⟨wt.trans hc, fun K hK => ?_⟩
        have vals : ∀ j v, val15 (.agg #[.slice fa fn fc, .int .i64 m]) e n1 n2 a1 a2 i1 i2 b1 b2 b3 j = v → True := fun _ _ _ => trivial
        simp only [val15, hc, if_true] at hK dep
        exact op_move rfl e12 hK
    · have ho2 : some _ = some o := ho
      obtain rfl := Option.some.inj ho2
      have wt := want1 (o := ops15[16]'(by decide)) (b := (b1 && b2)) rfl (show ((ops15[14]?).bind (·.dst)) = some 89 from rfl) (dep ⟨14, Ground.guard⟩ (by simp [ops15]) rfl 89 rfl)
      cases hc : (b1 && b2) with
      | false => exact .inr ⟨wt.trans hc, by first | rfl | (simp only [val15, hc]; rfl), by decide⟩
      | true =>
        refine .inl ⟨wt.trans hc, fun K hK => ?_⟩
        have vals : ∀ j v, val15 (.agg #[.slice fa fn fc, .int .i64 m]) e n1 n2 a1 a2 i1 i2 b1 b2 b3 j = v → True := fun _ _ _ => trivial
        simp only [val15, hc, if_true] at hK dep
        exact op_move rfl e13 hK
    · have ho2 : some _ = some o := ho
      obtain rfl := Option.some.inj ho2
      have wt := want1 (o := ops15[17]'(by decide)) (b := (b1 && b2)) rfl (show ((ops15[14]?).bind (·.dst)) = some 89 from rfl) (dep ⟨14, Ground.guard⟩ (by simp [ops15]) rfl 89 rfl)
      cases hc : (b1 && b2) with
      | false => exact .inr ⟨wt.trans hc, by first | rfl | (simp only [val15, hc]; rfl), by decide⟩
      | true =>
        refine .inl ⟨wt.trans hc, fun K hK => ?_⟩
        have vals : ∀ j v, val15 (.agg #[.slice fa fn fc, .int .i64 m]) e n1 n2 a1 a2 i1 i2 b1 b2 b3 j = v → True := fun _ _ _ => trivial
        simp only [val15, hc, if_true] at hK dep
        exact op_eql rfl (ev15 (dep ⟨15, Ground.data⟩ (by simp [ops15]) rfl 90 rfl)) (ev15 (dep ⟨16, Ground.data⟩ (by simp [ops15]) rfl 91 rfl)) hb3 hK
    · have ho2 : some _ = some o := ho
      obtain rfl := Option.some.inj ho2
      exact .inl ⟨want0 rfl, fun K hK => op_pick rfl (ev15 (dep ⟨14, Ground.data⟩ (by simp [ops15]) rfl 89 rfl)) (ev15 (dep ⟨17, Ground.data⟩ (by simp [ops15]) rfl 92 rfl)) rfl (by cases b1 <;> cases b2 <;> rfl) hK⟩
    · have ho2 : some _ = some o := ho
      obtain rfl := Option.some.inj ho2
      obtain rfl := hib rfl
      obtain ⟨cur, hcur, hcz⟩ := hR
      have r0 : w0.cell? ⟨rb, 0, none⟩ = some (cur[0]'(by omega)) := by rw [hcur.cell, Array.getElem?_eq_getElem (by omega)]
      have r1 : w0.cell? ⟨rb, 1, none⟩ = some (cur[1]'(by omega)) := by rw [hcur.cell, Array.getElem?_eq_getElem (by omega)]
      refine .inl ⟨want0 rfl, fun K hK => ?_⟩
      have hK' : K (a.put none undef) (W true) := hK
      rw [W1] at hK'
      rw [W0]
      exact op_store2 rfl e6 (ev15 (dep ⟨0, Ground.data⟩ (by simp [ops15]) rfl 75 rfl)) r0 r1 (hcur.frozen 0) (hcur.frozen 1) hK'
    · have ho2 : some _ = some o := ho
      obtain rfl := Option.some.inj ho2
      exact .inl ⟨want0 rfl, fun K hK => op_assign rfl (ev15 (dep ⟨18, Ground.data⟩ (by simp [ops15]) rfl 93 rfl)) hK⟩
  rw [W0] at R
  exact R
end Go.Proofs.YtiebbgbcojgeoaaGreatDoor
/- do, whole. -/
namespace Go.Proofs.YtiebbgbcojgeoaaGreatDoor
open Go.RowKit Go.Shelf
attribute [local go_sem] Oper.semAt_some

set_option maxRecDepth 100000 in
set_option maxHeartbeats 4000000 in
theorem do_any (lb : Nat) (ev v x : Value) (ps qs : List Pr) (nx mx kind id : Int) (fs : List Fld) (w : World) (h : StR w lb ev ps nx v qs) (hwf : WF (ps.map Prod.fst)) (h4 : lenR (ps.map Prod.fst) ≤ 400)
    (hps : ps.length ≤ 10000) (hqs : qs.length ≤ 10000) (hnx : -1000000 ≤ nx ∧ nx ≤ 1000000) (hmx : -1000000 ≤ mx ∧ mx ≤ 1000000) (hx : FldR w x fs) (hfs : Fine7 fs) (hxb : fs ≠ [] → ∀ b, x.ownBlock = some b → b ≠ lb ∧ ev.ownBlock ≠ some b) :
    Calls Tryz.prog 16 #[ptr lb, .agg #[v, .int .i64 mx], .agg #[.int .i64 kind, .int .i64 id, x]] w fun e w' => ∃ ev' ps' v' qs',
      e = .returned (.tuple #[.agg #[v', .int .i64 (editR ⟨qs.map Prod.fst, mx⟩ kind id fs).ls.next], .bool (sameD (editR ⟨ps.map Prod.fst, nx⟩ kind id fs) (editR ⟨qs.map Prod.fst, mx⟩ kind id fs))]) ∧
      StR w' lb ev' ps' (editR ⟨ps.map Prod.fst, nx⟩ kind id fs).ls.next v' qs' ∧ ps'.map Prod.fst = (editR ⟨ps.map Prod.fst, nx⟩ kind id fs).ls.es ∧ qs'.map Prod.fst = (editR ⟨qs.map Prod.fst, mx⟩ kind id fs).ls.es ∧
      Only (fun r => r = lb ∨ ev.ownBlock = some r) w w' ∧ (∀ r, BlkR lb ev' ps' v' qs' r → BlkR lb ev ps v qs r ∨ (fs ≠ [] ∧ x.ownBlock = some r) ∨ w.heap.size ≤ r) ∧ (∀ b, ev'.ownBlock = some b → ev.ownBlock = some b ∨ w.heap.size ≤ b) := by
  obtain ⟨xa, xc, rfl, _, _⟩ := _root_.id hx.1
  obtain ⟨A, cap, rfl, hle⟩ := h.q.empty
  have hnil := hx.2
  obtain ⟨W0, hW0⟩ : ∃ W0, W0 = ((w.alloc (.cells #[.slice A qs.length cap, .int .i64 mx] 32)).alloc (.cells #[.int .i64 kind, .int .i64 id, .slice xa fs.length xc] 38)).alloc (.cells #[.slice none 0 0, .int .i64 0] 32) := ⟨_, rfl⟩
  have hbW : Below w.heap.size w W0 := by rw [hW0]; exact (((Below.refl _ w).alloc (Nat.le_refl _) _).alloc (by simp) _).alloc (by simp; omega) _
  have hzW : W0.heap.size = w.heap.size + 3 := by rw [hW0]; simp
  have C0 : Cells W0 w.heap.size 32 #[.slice A qs.length cap, .int .i64 mx] := by rw [hW0]; exact ((Cells.new _ _ _).alloc _).alloc _
  have C1 : Cells W0 (w.heap.size + 1) 38 #[.int .i64 kind, .int .i64 id, .slice xa fs.length xc] := by
    rw [hW0]
    have := (Cells.new (w.alloc (.cells #[.slice A qs.length cap, .int .i64 mx] 32)) 38 #[.int .i64 kind, .int .i64 id, .slice xa fs.length xc]).alloc (.cells #[.slice none 0 0, .int .i64 0] 32)
    rw [World.size_alloc] at this; exact this
  have C2 : Cells W0 (w.heap.size + 2) 32 #[.slice none 0 0, .int .i64 0] := by
    rw [hW0]
    have := Cells.new ((w.alloc (.cells #[.slice A qs.length cap, .int .i64 mx] 32)).alloc (.cells #[.int .i64 kind, .int .i64 id, .slice xa fs.length xc] 38)) 32 #[.slice none 0 0, .int .i64 0]
    rw [World.size_alloc, World.size_alloc] at this; exact this
  have CP := copies_own fs (.slice xa fs.length xc) W0 (hx.1.below hbW (Nat.le_refl _)) hnil (by have := hfs.len; omega)
  rw [hzW] at CP
  have HH := Lib.hid h
  have HX := Lib.hid hx
  have HXB := Lib.hid hxb
  have HFS := Lib.hid hfs
  have HWF := Lib.hid hwf
  have HBW := Lib.hid hbW
  have HC0 := Lib.hid C0
  have HC1 := Lib.hid C1
  have HC2 := Lib.hid C2
  have HCP := Lib.hid CP
  have HZ := Lib.hid hzW
  obtain ⟨d1, hd1⟩ : ∃ d, d = editR ⟨ps.map Prod.fst, nx⟩ kind id fs := ⟨_, rfl⟩
  obtain ⟨d2, hd2⟩ : ∃ d, d = editR ⟨qs.map Prod.fst, mx⟩ kind id fs := ⟨_, rfl⟩
  rw [← hd1, ← hd2]
  have HD1 := Lib.hid hd1
  have HD2 := Lib.hid hd2
  have HXLT : Hid (fs ≠ [] → ∀ b, (Value.slice xa fs.length xc).ownBlock = some b → b < w.heap.size ∧ b ≠ lb ∧ ev.ownBlock ≠ some b) := fun hne b e => ⟨HX.out.1.lt hne b e, HXB.out hne b e⟩
  -- what holds in front of the document's call
  have PRE : Hid (∀ w1 w2 N u ev' ps' (d : Did), Below w.heap.size w w1 → WrR w1 lb ev ps d u w2 ev' ps' → N = 0 → EntsQ w2 (.slice A qs.length cap) qs ∧ Flds w2 (.slice xa fs.length xc) fs) := fun w1 w2 N u ev' ps' d hb R _ => by
    refine ⟨(HH.out.q.below hb (Nat.le_refl _)).only R.only (fun b hb2 e => ?_) (fun p hp hne b hb2 e => ?_), (HX.out.1.below hb (Nat.le_refl _)).only R.only (fun hne b hb2 e => ?_)⟩
    · obtain ⟨a1, a2⟩ := HH.out.va b hb2
      rcases e with e | e
      · exact a1 e
      · exact a2 e
    · obtain ⟨a1, a2⟩ := HH.out.qa p hp hne b hb2
      rcases e with e | e
      · exact a1 e
      · exact a2 e
    · obtain ⟨a1, a2⟩ := HXB.out hne b hb2
      rcases e with e | e
      · exact a1 e
      · exact a2 e
  clear h hx hxb hfs hwf hbW C0 C1 C2 CP hzW hd1 hd2 hnil
  unfold ptr
  subst hW0
  go_enter Tryz.func16, Tryz.ntmps16
  have c1 := HC1.out.cell 2
  go_wp2_with fail
  refine HCP.out.mono ?_
  rintro e w1 ⟨f, rfl, hf, hb01⟩
  have hb01' := hb01
  have hb : Below w.heap.size w w1 := HBW.out.trans (hb01.mono (by omega))
  have h3 : w.heap.size + 3 ≤ w1.heap.size := by have := hb01.size; rw [HZ.out] at this; exact this
  have D0 := Lib.hid (cells_kept HC0.out hb01' (by omega))
  have D1 := Lib.hid (cells_kept HC1.out hb01' (by omega))
  have D2 := Lib.hid (cells_kept HC2.out hb01' (by omega))
  obtain ⟨fa, fc, rfl, _⟩ := own_slice hf
  have HF := Lib.hid hf
  have HB1 := Lib.hid hb
  have LA1 := Lib.hid (HH.out.la.below hb (Nat.le_refl _))
  have FR1 := Lib.hid (FldR.own hf)
  clear hb01 hb01' hf hb c1 HCP HC0 HC1 HC2 HBW HZ
  have c1 : w1.cell? ⟨w.heap.size + 1, 0, none⟩ = some (.int .i64 kind) := D1.out.cell 0
  have c2 : w1.cell? ⟨w.heap.size + 1, 1, none⟩ = some (.int .i64 id) := D1.out.cell 1
  go_upto_block 0 with fail
  go_cut [9, 10, 11, 12, 13] (fun ce c10 c11 c12 c13 wx => ∃ ev' ps' v' qs', c10 = .int .i64 d2.at_ ∧ c11 = .int .i64 d2.bad ∧ c12 = .int .i64 d1.id ∧ c13 = .int .i64 d2.id ∧ MidR w w1 wx lb ev ps (.slice A qs.length cap) qs (.slice xa fs.length xc) fs (.slice fa fs.length fc) kind id d1 d2 ce ev' ps' v' qs')
  case first =>
    have hlbw : lb < w.heap.size := HH.out.lt (.inl rfl)
    have HEVW := Lib.hid (show ∀ b, ev.ownBlock = some b → b < w.heap.size from fun b e => HH.out.lt (.inr (.inl e)))
    -- the boxes behind the list's call, and behind the document's
    have BX : Hid (∀ w2 w3 N, Only (fun r => r = lb ∨ ev.ownBlock = some r) w1 w2 → Below N w2 w3 → w2.heap.size ≤ N → Cells w3 w.heap.size 32 #[.slice A qs.length cap, .int .i64 mx] ∧ Cells w3 (w.heap.size + 1) 38 #[.int .i64 kind, .int .i64 id, .slice xa fs.length xc]) := fun w2 w3 N o b hN => by
      have o3 := o.below b (Nat.le_trans o.size hN)
      have nb : ∀ r, w.heap.size ≤ r → ¬ (r = lb ∨ ev.ownBlock = some r) := fun r hr e => by
        rcases e with e | e
        · omega
        · have := HEVW.out r e; omega
      exact ⟨D0.out.only o3 (nb _ (Nat.le_refl _)), D1.out.only o3 (nb _ (Nat.le_succ _))⟩
    by_cases k1 : kind = 1
    · subst k1
      have RL := replace_list lb ev ps nx id fs (.slice fa fs.length fc) w1 LA1.out (by omega) FR1.out HFS.out
      rw [findP_R HWF.out, show replaceW (findR (ps.map Prod.fst) id) ⟨ps.map Prod.fst, nx⟩ fs = d1 by rw [HD1.out, editR_1, replaceR_W]] at RL
      have HRL := Lib.hid RL
      have E1 : Hid (d1.id = 0) := by show _ = _; rw [HD1.out, editR_1, replaceR_id]
      have E2 : Hid (d2.id = 0) := by show _ = _; rw [HD2.out, editR_1, replaceR_id]
      clear RL
      unfold ptr at HRL
      go_wp2_with fail
      refine HRL.out.mono ?_
      rintro e w2 ⟨u, ev', ps', rfl, hR⟩
      obtain ⟨hq2, hx2⟩ := PRE.out w1 w2 0 u ev' ps' d1 HB1.out hR rfl
      obtain ⟨B0, B1⟩ := BX.out w2 w2 _ hR.only (Below.refl w2.heap.size w2) (Nat.le_refl _)
      have RR := refReplace_any qs (.slice A qs.length cap) (.slice xa fs.length xc) mx id fs w2 hq2 (by omega) hx2 HFS.out
      rw [show replaceR ⟨qs.map Prod.fst, mx⟩ id fs = d2 by rw [HD2.out, editR_1]] at RR
      have HRR := Lib.hid RR
      have HR := Lib.hid hR
      have e0 : w2.cell? ⟨w.heap.size, 0, none⟩ = some (.slice A qs.length cap) := B0.cell 0
      have e1 : w2.cell? ⟨w.heap.size, 1, none⟩ = some (.int .i64 mx) := B0.cell 1
      have e2 : w2.cell? ⟨w.heap.size + 1, 1, none⟩ = some (.int .i64 id) := B1.cell 1
      have e3 : w2.cell? ⟨w.heap.size + 1, 2, none⟩ = some (.slice xa fs.length xc) := B1.cell 2
      clear RR hR HRL B0 B1 hq2 hx2 c1 c2
      go_wp2_with fail
      refine HRR.out.mono ?_
      rintro e w3 ⟨v', qs', rfl, hQ⟩
      obtain ⟨B0, _⟩ := BX.out w2 w3 _ HR.out.only hQ.below (Nat.le_refl _)
      have f0 := B0.frozen 0
      have f1 := B0.frozen 1
      have g0 := B0.cell 0
      have g1 := B0.cell 1
      simp only [List.getElem?_toArray, List.getElem?_cons_zero, List.getElem?_cons_succ] at g0 g1
      have MID := Lib.hid (mid_of HH.out HB1.out h3 D0.out D1.out D2.out HF.out HR.out hQ ⟨xa, xc, rfl⟩ (.inl ⟨rfl, rfl⟩) HXLT.out)
      obtain ⟨va, vn, vc, rfl⟩ : ∃ a n c, v' = .slice a n c := by obtain ⟨A', c', e, _⟩ := hQ.ents.empty; exact ⟨A', _, c', e⟩
      clear hQ HRR B0 e0 e1 e2 e3
      go_wp2_with fail
      go_meet
      exact ⟨ev', ps', _, qs', rfl, rfl, by rw [E1.out], by rw [E2.out], MID.out⟩
    by_cases k2 : kind = 2
    · subst k2
      have RL := delete_list lb ev ps nx id w1 LA1.out (by omega)
      rw [findP_R HWF.out, show deleteW (findR (ps.map Prod.fst) id) ⟨ps.map Prod.fst, nx⟩ = d1 by rw [HD1.out, editR_2, deleteR_W]] at RL
      have HRL := Lib.hid RL
      have E1 : Hid (d1.id = 0) := by show _ = _; rw [HD1.out, editR_2, (deleteR_id _ _).1]
      have E2 : Hid (d2.id = 0) := by show _ = _; rw [HD2.out, editR_2, (deleteR_id _ _).1]
      have E3 : Hid (d2.at_ = -9) := by show _ = _; rw [HD2.out, editR_2, (deleteR_id _ _).2]
      clear RL
      unfold ptr at HRL
      go_wp2_with fail
      refine HRL.out.mono ?_
      rintro e w2 ⟨u, ev', ps', rfl, hR⟩
      obtain ⟨hq2, hx2⟩ := PRE.out w1 w2 0 u ev' ps' d1 HB1.out hR rfl
      obtain ⟨B0, B1⟩ := BX.out w2 w2 _ hR.only (Below.refl w2.heap.size w2) (Nat.le_refl _)
      have RR := refDelete_any qs (.slice A qs.length cap) mx id w2 hq2 (by omega)
      rw [show deleteR ⟨qs.map Prod.fst, mx⟩ id = d2 by rw [HD2.out, editR_2]] at RR
      have HRR := Lib.hid RR
      have HR := Lib.hid hR
      have e0 : w2.cell? ⟨w.heap.size, 0, none⟩ = some (.slice A qs.length cap) := B0.cell 0
      have e1 : w2.cell? ⟨w.heap.size, 1, none⟩ = some (.int .i64 mx) := B0.cell 1
      have e2 : w2.cell? ⟨w.heap.size + 1, 1, none⟩ = some (.int .i64 id) := B1.cell 1
      have e3 : w2.cell? ⟨w.heap.size + 1, 2, none⟩ = some (.slice xa fs.length xc) := B1.cell 2
      clear RR hR HRL B0 B1 hq2 hx2 c1 c2
      go_wp2_with fail
      refine HRR.out.mono ?_
      rintro e w3 ⟨v', qs', rfl, hQ⟩
      obtain ⟨B0, _⟩ := BX.out w2 w3 _ HR.out.only hQ.below (Nat.le_refl _)
      have f0 := B0.frozen 0
      have f1 := B0.frozen 1
      have g0 := B0.cell 0
      have g1 := B0.cell 1
      simp only [List.getElem?_toArray, List.getElem?_cons_zero, List.getElem?_cons_succ] at g0 g1
      have MID := Lib.hid (mid_of HH.out HB1.out h3 D0.out D1.out D2.out HF.out HR.out hQ (fs2 := []) ⟨none, 0, rfl⟩ (.inr rfl) HXLT.out)
      obtain ⟨va, vn, vc, rfl⟩ : ∃ a n c, v' = .slice a n c := by obtain ⟨A', c', e, _⟩ := hQ.ents.empty; exact ⟨A', _, c', e⟩
      clear hQ HRR B0 e0 e1 e2 e3
      go_wp2_with fail
      go_meet
      exact ⟨ev', ps', _, qs', by rw [E3.out], rfl, by rw [E1.out], by rw [E2.out], MID.out⟩
    · have k1' : (kind == 1) = false := beq_eq_false_iff_ne.2 k1
      have k2' : (kind == 2) = false := beq_eq_false_iff_ne.2 k2
      have K1 := Lib.hid k1
      have K2 := Lib.hid k2
      clear k1 k2
      have RL := insert_list lb ev ps nx id fs (.slice fa fs.length fc) w1 LA1.out hps hnx FR1.out HFS.out
      rw [gapP_R HWF.out, full_R HWF.out h4, show insertW (gapR (ps.map Prod.fst) id) (decide (400 ≤ lenR (ps.map Prod.fst))) ⟨ps.map Prod.fst, nx⟩ fs = d1 by rw [HD1.out, editR_3 _ K1.out K2.out, insertR_W]] at RL
      have HRL := Lib.hid RL
      clear RL
      unfold ptr at HRL
      go_wp2_with fail
      refine HRL.out.mono ?_
      rintro e w2 ⟨u, ev', ps', rfl, hR⟩
      obtain ⟨hq2, hx2⟩ := PRE.out w1 w2 0 u ev' ps' d1 HB1.out hR rfl
      obtain ⟨B0, B1⟩ := BX.out w2 w2 _ hR.only (Below.refl w2.heap.size w2) (Nat.le_refl _)
      have RR := refInsert_any qs (.slice A qs.length cap) (.slice xa fs.length xc) mx id fs w2 hq2 (by omega) hmx hx2 HFS.out
      rw [show insertR ⟨qs.map Prod.fst, mx⟩ id fs = d2 by rw [HD2.out, editR_3 _ K1.out K2.out]] at RR
      have HRR := Lib.hid RR
      have HR := Lib.hid hR
      have e0 : w2.cell? ⟨w.heap.size, 0, none⟩ = some (.slice A qs.length cap) := B0.cell 0
      have e1 : w2.cell? ⟨w.heap.size, 1, none⟩ = some (.int .i64 mx) := B0.cell 1
      have e2 : w2.cell? ⟨w.heap.size + 1, 1, none⟩ = some (.int .i64 id) := B1.cell 1
      have e3 : w2.cell? ⟨w.heap.size + 1, 2, none⟩ = some (.slice xa fs.length xc) := B1.cell 2
      clear RR hR HRL B0 B1 hq2 hx2 c1 c2
      go_wp2_with fail
      refine HRR.out.mono ?_
      rintro e w3 ⟨v', qs', rfl, hQ⟩
      obtain ⟨B0, _⟩ := BX.out w2 w3 _ HR.out.only hQ.below (Nat.le_refl _)
      have f0 := B0.frozen 0
      have f1 := B0.frozen 1
      have g0 := B0.cell 0
      have g1 := B0.cell 1
      simp only [List.getElem?_toArray, List.getElem?_cons_zero, List.getElem?_cons_succ] at g0 g1
      have MID := Lib.hid (mid_of HH.out HB1.out h3 D0.out D1.out D2.out HF.out HR.out hQ ⟨xa, xc, rfl⟩ (.inl ⟨rfl, rfl⟩) HXLT.out)
      obtain ⟨va, vn, vc, rfl⟩ : ∃ a n c, v' = .slice a n c := by obtain ⟨A', c', e, _⟩ := hQ.ents.empty; exact ⟨A', _, c', e⟩
      clear hQ HRR B0 e0 e1 e2 e3
      go_wp2_with fail
      go_meet
      exact ⟨ev', ps', _, qs', rfl, rfl, rfl, rfl, MID.out⟩
  case rest =>
    obtain ⟨ev', ps', v', qs', rfl, rfl, rfl, rfl, hM⟩ := hcut
    have hxx : Flds wc (.slice xa fs.length xc) fs := HX.out.1.only hM.only (fun hne b hb2 e => by
      obtain ⟨a1, a2⟩ := HXB.out hne b hb2
      rcases e with e | e
      · exact a1 e
      · exact a2 e)
    have FE := Lib.hid (fields_same fs (.slice fa fs.length fc) (.slice xa fs.length xc) wc (flds_of_own hM.frow) hxx (by have := HFS.out.len; omega))
    have c12 : wc.cell? ⟨w.heap.size + 1, 2, none⟩ = some (.slice xa fs.length xc) := hM.c1.cell 2
    have HM := Lib.hid hM
    clear hM hxx c1 c2
    go_wp2_with fail
    refine FE.out.mono ?_
    rintro e w4 ⟨rfl, b4⟩
    have SP := Lib.hid (spoilP_any fs.length (fun r => (Value.slice fa fs.length fc).ownBlock = some r) (.slice fa fs.length fc) w4 (mine_block (row_below HM.out.frow b4 (Nat.le_refl _))) (by have := HFS.out.len; omega))
    have B4 := Lib.hid b4
    have FLO : Hid (∀ r, (Value.slice fa fs.length fc).ownBlock = some r → w.heap.size + 3 ≤ r ∧ r < w1.heap.size) := fun r e => ⟨(HM.out.frow.lt r e).1, HM.out.flt r e⟩
    clear FE b4 c12
    go_wp2_with fail
    refine SP.out.mono ?_
    rintro e w5 ⟨rfl, hsp⟩
    have o45 := spoils_only hsp
    have hlbw : lb < w.heap.size := HH.out.lt (.inl rfl)
    have hbk : ∀ r, BlkR lb ev' ps' v' qs' r → r < w.heap.size ∨ w1.heap.size ≤ r := fun r hr => by
      rcases HM.out.bk r hr with q | ⟨q1, q2⟩ | q
      · exact .inl (HH.out.lt q)
      · exact .inl (HXLT.out q1 r q2).1
      · exact .inr q
    have ST5 := Lib.hid ((HM.out.st.below B4.out (Nat.le_refl _)).only o45 (fun r hr e => by have := FLO.out r e; have := hbk r hr; omega))
    have b0 : Cells w5 w.heap.size 32 #[v', .int .i64 d2.ls.next] := (cells_kept HM.out.c0 B4.out HM.out.c0.lt).only o45 (fun e => by have := FLO.out _ e; omega)
    have b2 : Cells w5 (w.heap.size + 2) 32 #[.slice none 0 0, .int .i64 0] := (cells_kept HM.out.c2 B4.out HM.out.c2.lt).only o45 (fun e => by have := FLO.out _ e; omega)
    have er : ErrZ w1.heap.size w5 u9 d1.at_ d1.bad := (HM.out.err.below B4.out (Nat.le_refl _)).only o45 (fun r hr e => by have := FLO.out r e; omega)
    have er' : ErrZ w1.heap.size w5.drew u9 d1.at_ d1.bad := er.below ((Below.refl _ _).drew) (Nat.le_refl _)
    have oW5 : Only (fun r => r = lb ∨ ev.ownBlock = some r) w w5 := (HM.out.only.below B4.out (HM.out.only.size)).trans (o45.mono (S' := fun r => w.heap.size ≤ r) (fun r _ e => by have := FLO.out r e; omega)) (fun r hr e => absurd e (by omega))
    have OW5 := Lib.hid oW5
    have BK := Lib.hid hbk
    obtain ⟨va, vc, rfl, _⟩ := HM.out.st.q.empty
    have hER : Hid (∀ W, W = w5.drew ∨ W = (w5.drew.setCell ⟨w.heap.size + 2, 0, none⟩ (.slice va qs'.length vc)).setCell ⟨w.heap.size + 2, 1, none⟩ (.int .i64 d2.ls.next) → ErrZ w1.heap.size W u9 d1.at_ d1.bad) := fun W hW => by
      rcases hW with rfl | rfl
      · exact er'
      · exact er'.only ((only_one (b := w.heap.size + 2) _ 0 _).trans (only_one (b := w.heap.size + 2) _ 1 _) (fun r _ e => e)) (fun r hr e => by omega)
    have RE := (b2.drew.set 0 (.slice va qs'.length vc)).set 1 (.int .i64 d2.ls.next)
    rw [set2] at RE
    have HRE := Lib.hid RE
    have HB0 := Lib.hid b0.drew
    have HB2 := Lib.hid b2.drew
    have SD : Hid (sameD d1 d2 = ((((d1.bad : Int) == (d2.bad : Int)) && (d1.at_ == d2.at_)) && (d1.id == d2.id))) := rfl
    clear SP hsp o45 b0 b2 er er' oW5 hbk RE
    go_wp2_with fail
    refine wp_region_any (by kernel_rfl) ?_
    refine region_do _ w5.drew w.heap.size (w.heap.size + 2) u9 va qs'.length vc d2.ls.next d1.bad d2.bad d1.at_ d2.at_ d1.id d2.id _ _ _ _ rfl rfl rfl rfl rfl rfl rfl rfl rfl rfl rfl rfl (by omega) HB0.out ⟨_, HB2.out, rfl⟩ (fun W hW => num_z (hER.out W hW)) (fun W hW => at_z (hER.out W hW)) ?_
    intro a hd h6 h7
    go_wp2_with fail
    refine bodyPost_ret (ret_q2 rfl _ _ (w.heap.size + 2) _ h6 HRE.out rfl) hd ?_
    have hnb : ¬ BlkR lb ev' ps' (.slice va qs'.length vc) qs' (w.heap.size + 2) := fun hr => by
      rcases BK.out _ hr with q | q
      · omega
      · omega
    refine ⟨ev', ps', _, by rw [h7, SD.out], qs', (ST5.out.drew.set 0 _ hnb).set 1 _ hnb, HM.out.es1, HM.out.es2, (OW5.out.drew.setCell (p := ⟨w.heap.size + 2, 0, none⟩) (.inr (by show w.heap.size ≤ w.heap.size + 2; omega)) _).setCell (p := ⟨w.heap.size + 2, 1, none⟩) (.inr (by show w.heap.size ≤ w.heap.size + 2; omega)) _, fun r hr => ?_, fun b e => (HM.out.blk b e).imp _root_.id fun q => by have := HB1.out.size; omega⟩
    rcases HM.out.bk r hr with q | q | q
    · exact .inl q
    · exact .inr (.inl q)
    · exact .inr (.inr (by have := HB1.out.size; omega))
end Go.Proofs.YtiebbgbcojgeoaaGreatDoor
/- Edits that came in; Heavy. -/
namespace Go.Proofs.YtiebbgbcojgeoaaGreatDoor
open Go.RowKit Go.Shelf Go.Maps Go.ChangeShapes Go.Joins Go.WideShapes
attribute [local go_sem] Oper.semAt_some

structure Ed where
  kind : Int
  id : Int
  fields : List Fld
structure EdIn (W : World) (cs : List Value) (ed : Ed) (fv : Value) : Prop where
  cs : cs = [.int .i64 ed.kind, .int .i64 ed.id, fv]
  flds : FldsIn W fv ed.fields
set_option maxRecDepth 100000 in
theorem edit_in {H : Type} {enc : TypeId × Value → H} {W : World} {base : Nat} {sp : Nat → Bool} {held : Bool} {fuel : Nat} {cs : List Value} {x : DataW H × List MemPlace} (h : DataW.trod enc Tryz.prog W base sp held fuel 38 cs = some x) :
    ∃ ed fv, EdIn W cs ed fv := by
  obtain ⟨xs, m, _, _, hl, hxl, hf⟩ := DataW.trod_struct Tryz.underlying38 h
  have hl2 : cs.length = 3 := hl.trans (by kernel_rfl)
  obtain ⟨c0, c1, c2, rfl⟩ := cells3 hl2
  have k3 : Tryz.prog.cellsOf 3 = 1 := by kernel_rfl
  have k40 : Tryz.prog.cellsOf 36 = 1 := by kernel_rfl
  have hx : ∀ i, i < 3 → ∃ y, xs[i]? = some y := fun i hi => ⟨_, List.getElem?_eq_getElem (by rw [hxl]; exact hi)⟩
  obtain ⟨y0, e0⟩ := hx 0 (by decide)
  obtain ⟨y1, e1⟩ := hx 1 (by decide)
  obtain ⟨y2, e2⟩ := hx 2 (by decide)
  have q0 : DataW.trod enc Tryz.prog W base sp held m 3 (List.take (Tryz.prog.cellsOf 3) [c0, c1, c2]) = _ := hf 0 _ rfl
  have q1 : DataW.trod enc Tryz.prog W base sp held m 3 (List.take (Tryz.prog.cellsOf 3) [c1, c2]) = _ := hf 1 _ rfl
  have q2 : DataW.trod enc Tryz.prog W base sp held m 36 (List.take (Tryz.prog.cellsOf 36) [c2]) = _ := hf 2 _ rfl
  rw [k3, e0] at q0
  rw [k3, e1] at q1
  rw [k40, e2] at q2
  obtain ⟨kind, f0, _, _⟩ := DataW.trod_int Tryz.underlying3 q0
  obtain ⟨id, f1, _, _⟩ := DataW.trod_int Tryz.underlying3 q1
  obtain ⟨fs, hfs⟩ := flds_in (v := c2) q2
  simp at f0 f1
  subst f0 f1
  exact ⟨⟨kind, id, fs⟩, c2, rfl, hfs⟩
/-- A script that came in. -/
structure EdsIn (w : World) (v : Value) (eds : List Ed) : Prop where
  len : eds.length ≤ maxLen
  at_ : ∃ A cap, v = .slice A eds.length cap ∧ eds.length ≤ cap ∧ ∀ (i : Nat) (ed : Ed), eds[i]? = some ed → ∃ b off fv, A = some ⟨b, off, none⟩ ∧ b < w.heap.size ∧ w.cell? ⟨b, off + i * 3, none⟩ = some (.int .i64 ed.kind) ∧ w.cell? ⟨b, off + i * 3 + 1, none⟩ = some (.int .i64 ed.id) ∧ w.cell? ⟨b, off + i * 3 + 1 + 1, none⟩ = some fv ∧ FldsIn w fv ed.fields
set_option maxRecDepth 100000 in
theorem edits_in {H : Type} {enc : TypeId × Value → H} {W : World} {base : Nat} {sp : Nat → Bool} {held : Bool} {fuel : Nat} {v : Value} {x : DataW H × List MemPlace} (h : DataW.trod enc Tryz.prog W base sp held fuel 22 [v] = some x) :
    ∃ eds, EdsIn W v eds := by
  rcases DataW.trod_slice Tryz.underlying22 h with ⟨e, _⟩ | ⟨a, len, cap, elems, rest, n, _, e, _, _, hl, hm, hlen, hel, _, _⟩
  · obtain rfl : v = .slice none 0 0 := by simpa using e
    exact ⟨[], ⟨Nat.zero_le _, none, 0, rfl, Nat.le_refl _, fun i f h => by simp at h⟩⟩
  · obtain rfl : v = .slice (some a) len cap := by simpa using e
    have k3 : Tryz.prog.cellsOf 38 = 3 := by kernel_rfl
    have each : ∀ i, i < len → ∃ ed : Ed, ∃ b off fv, a = ⟨b, off, none⟩ ∧ b < W.heap.size ∧ W.cell? ⟨b, off + i * 3, none⟩ = some (.int .i64 ed.kind) ∧ W.cell? ⟨b, off + i * 3 + 1, none⟩ = some (.int .i64 ed.id) ∧ W.cell? ⟨b, off + i * 3 + 1 + 1, none⟩ = some fv ∧ FldsIn W fv ed.fields := by
      intro i hi
      have h1 := hel i hi
      rw [k3, List.getElem?_eq_getElem (by omega)] at h1
      obtain ⟨cs, hc, ht⟩ := Option.bind_eq_some_iff.1 h1
      obtain ⟨ed, fv, rfl, hf⟩ := edit_in ht
      obtain ⟨_, _, hat⟩ := World.cells?_some hc
      have c0 := hat 0 (by decide)
      have c1 := hat 1 (by decide)
      have c2 := hat 2 (by decide)
      obtain ⟨b, off, spot⟩ := a
      have hspot : spot = none := by
        have h2 := hel 0 (by omega)
        rw [k3, List.getElem?_eq_getElem (by omega)] at h2
        obtain ⟨cs', hc', ht'⟩ := Option.bind_eq_some_iff.1 h2
        obtain ⟨ed', fv', rfl, _⟩ := edit_in ht'
        obtain ⟨_, hlen', hat'⟩ := World.cells?_some hc'
        have := World.cell?_spot (hat' 0 (by decide))
        simpa [Addr.add] using this
      subst hspot
      rw [WideShapes.add_plain] at c0 c1 c2
      exact ⟨ed, b, off, fv, rfl, World.block_lt_of_cell? W _ c0, c0, c1, c2, hf⟩
    have : ∃ g : Nat → Ed, ∀ i, i < len → ∃ b off fv, a = ⟨b, off, none⟩ ∧ b < W.heap.size ∧ W.cell? ⟨b, off + i * 3, none⟩ = some (.int .i64 (g i).kind) ∧ W.cell? ⟨b, off + i * 3 + 1, none⟩ = some (.int .i64 (g i).id) ∧ W.cell? ⟨b, off + i * 3 + 1 + 1, none⟩ = some fv ∧ FldsIn W fv (g i).fields := by
      refine ⟨fun i => if h : i < len then (each i h).choose else ⟨0, 0, []⟩, fun i hi => ?_⟩
      simp only [dif_pos hi]
      exact (each i hi).choose_spec
    obtain ⟨g, hg⟩ := this
    have hll : ((List.range len).map g).length = len := by simp
    refine ⟨(List.range len).map g, ⟨by rw [hll]; omega, some a, cap, by rw [hll], by rw [hll]; exact hl, fun i ed hi => ?_⟩⟩
    have hlt : i < len := by
      rcases Nat.lt_or_ge i len with q | q
      · exact q
      · rw [List.getElem?_eq_none (by rw [hll]; exact q)] at hi; cases hi
    rw [List.getElem?_map, List.getElem?_range hlt] at hi
    obtain rfl := (Option.some.inj hi).symm
    obtain ⟨b, off, fv, ea, hb, c0, c1, c2, hf⟩ := hg i hlt
    exact ⟨b, off, fv, by rw [ea], hb, c0, c1, c2, hf⟩
theorem FldsIn.kept {w w' : World} {v : Value} {fs : List Fld} {N : Nat} (h : FldsIn w v fs) (hb : Below N w w') (hN : w.heap.size ≤ N) : FldsIn w' v fs := ⟨h.flds.below hb hN, h.nil, h.len, h.each⟩
theorem EdsIn.below {w w' : World} {v : Value} {eds : List Ed} {N : Nat} (h : EdsIn w v eds) (hb : Below N w w') (hN : w.heap.size ≤ N) : EdsIn w' v eds := by
  obtain ⟨hl, A, cap, e, hle, hc⟩ := h
  refine ⟨hl, A, cap, e, hle, fun i ed hi => ?_⟩
  obtain ⟨b, off, fv, e1, hbb, c0, c1, c2, hf⟩ := hc i ed hi
  have hbN : b < N := by omega
  exact ⟨b, off, fv, e1, Nat.lt_of_lt_of_le hbb hb.size, (hb.cell (p := ⟨b, off + i * 3, none⟩) hbN).trans c0, (hb.cell (p := ⟨b, off + i * 3 + 1, none⟩) hbN).trans c1, (hb.cell (p := ⟨b, off + i * 3 + 1 + 1, none⟩) hbN).trans c2, hf.kept hb hN⟩
/-- What isn't heavy. -/
def Light (eds : List Ed) : Prop := eds.length ≤ 51 ∧ ∀ ed ∈ eds, ed.fields.length ≤ 61 ∧ (∀ f ∈ ed.fields, f.1.length ≤ 6000 ∧ f.2.length ≤ 6000) ∧ minF ed.fields ≤ 6000
def HeavyR (eds : List Ed) (e : Ending) : Prop := ∃ b : Bool, e = .returned (.bool b) ∧ (b = false → Light eds)
theorem Light.fine {eds : List Ed} (h : Light eds) {ed : Ed} (he : ed ∈ eds) : Fine7 ed.fields :=
  ⟨by have := (h.2 ed he).1; omega, fun f hf => by have := (h.2 ed he).2.1 f hf; omega⟩
set_option maxRecDepth 100000 in
set_option maxHeartbeats 4000000 in
theorem heavy_any (eds : List Ed) (v : Value) (w : World) (h : EdsIn w v eds) :
    Calls Tryz.prog 11 #[v] w fun e w' => HeavyR eds e ∧ Below w.heap.size w w' := by
  have HH := Lib.hid h
  obtain ⟨hm, A, cap, rfl, hle, hc⟩ := h
  have PC := Lib.hid hc
  clear hc
  unfold maxLen at hm
  go_enter Tryz.func11, Tryz.ntmps11
  go_wp2_with fail
  go_loopw [7] (fun i wr => ∃ k : Nat, k ≤ eds.length ∧ k ≤ 51 ∧ i = .int .i64 k ∧ (∀ ed ∈ eds.take k, ed.fields.length ≤ 61 ∧ (∀ f ∈ ed.fields, f.1.length ≤ 6000 ∧ f.2.length ≤ 6000) ∧ minF ed.fields ≤ 6000) ∧ Below w.heap.size w wr) (fun i _ => eds.length - (intOf i).toNat)
  case atStart => exact ⟨0, Nat.zero_le _, by decide, rfl, (fun ed h => by simp at h), Below.refl _ _⟩
  case round =>
    obtain ⟨k, hk, hk51, rfl, hsm, hb⟩ := hrel
    by_cases hlt : k < eds.length
    · obtain ⟨ed, hed⟩ : ∃ ed, eds[k]? = some ed := ⟨_, List.getElem?_eq_getElem hlt⟩
      obtain ⟨b, off, fv, rfl, hbb, c0, c1, c2, hf⟩ := PC.out k ed hed
      obtain ⟨fa, fc, rfl, _, _⟩ := _root_.id hf.flds
      replace c0 := (hb.cell (p := ⟨b, off + k * 3, none⟩) hbb).trans c0
      replace c1 := (hb.cell (p := ⟨b, off + k * 3 + 1, none⟩) hbb).trans c1
      replace c2 := (hb.cell (p := ⟨b, off + k * 3 + 1 + 1, none⟩) hbb).trans c2
      have TK := Lib.hid (show eds.take (k + 1) = eds.take k ++ [ed] by rw [List.take_add_one, hed]; rfl)
      have HSM := Lib.hid hsm
      obtain ⟨wa, hwa⟩ : ∃ wa, wa = wr.alloc (.cells #[.int .i64 ed.kind, .int .i64 ed.id, .slice fa ed.fields.length fc] 38) := ⟨_, rfl⟩
      have hba : Below w.heap.size w wa := by rw [hwa]; exact hb.alloc hb.size _
      have MU := Lib.hid (much_any ed.fields (.slice fa ed.fields.length fc) wa (hf.kept hba (Nat.le_refl _)).flds hf.len hf.each)
      have HBA := Lib.hid hba
      clear hed hsm hf hba
      by_cases h50 : 50 < k
      · subst hwa
        go_wp2_with fail
        go_ret
        exact ⟨⟨true, rfl, fun h => by cases h⟩, HBA.out⟩
      · subst hwa
        go_wp2_with fail
        refine MU.out.mono ?_
        rintro e w2 ⟨⟨q, rfl, hq⟩, b2⟩
        have HB2 := Lib.hid (HBA.out.trans (b2.mono HBA.out.size))
        have HQ := Lib.hid hq
        clear b2 hq MU
        cases q with
        | true =>
          go_wp2_with fail
          go_ret
          exact ⟨⟨true, rfl, fun h => by cases h⟩, HB2.out⟩
        | false =>
          go_wp2_with fail
          go_roundw
          case rel =>
            refine ⟨k + 1, hlt, by omega, by go_num, fun x hx => ?_, HB2.out⟩
            rw [TK.out] at hx
            rcases List.mem_append.1 hx with hx | hx
            · exact HSM.out x hx
            · rw [List.mem_singleton.1 hx]
              obtain ⟨a1, a2, a3⟩ := HQ.out (by first | exact rfl | trivial)
              exact ⟨a1, a2, a3⟩
          case measure => simp [intOf]; omega
    · obtain rfl : k = eds.length := by omega
      rw [List.take_length] at hsm
      have HSM := Lib.hid hsm
      clear PC hsm
      go_wp2_with fail
      go_ret
      exact ⟨⟨false, rfl, fun _ => ⟨hk51, HSM.out⟩⟩, hb⟩
end Go.Proofs.YtiebbgbcojgeoaaGreatDoor
/- The laws' fixed fact. -/
namespace Go.Proofs.YtiebbgbcojgeoaaGreatDoor
open Go.RowKit Go.Shelf
attribute [local go_sem] Oper.semAt_some

theorem parseA7 : parseL [65, 58, 32, 49, 10] = .ok [⟨3, [65, 58, 32, 49, 10], [([65], [49])]⟩] := by kernel_rfl
theorem fromA7 : fromL [⟨3, [65, 58, 32, 49, 10], [([65], [49])]⟩] = ⟨[(⟨3, [65, 58, 32, 49, 10], [([65], [49])]⟩, 1)], 2⟩ := by kernel_rfl
theorem wfA7 : WF [((⟨3, [65, 58, 32, 49, 10], [([65], [49])]⟩ : It), (1 : Int))] := by
  intro e he
  rw [List.mem_singleton.1 he]
  exact .inl ⟨rfl, by decide⟩
theorem insA7 : insertR ⟨[(⟨3, [65, 58, 32, 49, 10], [([65], [49])]⟩, 1)], 2⟩ 0 [([66], [50])] = ⟨⟨[(⟨3, [66, 58, 32, 50, 10], [([66], [50])]⟩, 2), (⟨3, [65, 58, 32, 49, 10], [([65], [49])]⟩, 1)], 3⟩, -9, 0, 2⟩ := by kernel_rfl
theorem txtA7 : (apartL [⟨3, [66, 58, 32, 50, 10], [([66], [50])]⟩, ⟨3, [65, 58, 32, 49, 10], [([65], [49])]⟩]).flatMap It.raw = [66, 58, 32, 50, 10, 10, 65, 58, 32, 49, 10] := by kernel_rfl
/-- Insert by a list whose stanzas are well numbered. -/
theorem insert_R (lb : Nat) (ev : Value) (ps : List Pr) (nx id : Int) (fs : List Fld) (v : Value) (w : World) (h : LA w lb ev ps nx) (hwf : WF (ps.map Prod.fst)) (h4 : lenR (ps.map Prod.fst) ≤ 400) (hps : ps.length ≤ 10000) (hnx : -1000000 ≤ nx ∧ nx ≤ 1000000) (hs : FldR w v fs) (hfs : Fine7 fs) :
    Calls Tryz.prog 32 #[ptr lb, .int .i64 id, v] w fun e w' => ∃ u ev' ps', e = .returned (.tuple #[.int .i64 (insertR ⟨ps.map Prod.fst, nx⟩ id fs).id, u]) ∧ WrR w lb ev ps (insertR ⟨ps.map Prod.fst, nx⟩ id fs) u w' ev' ps' := by
  have := insert_list lb ev ps nx id fs v w h hps hnx hs hfs
  rw [gapP_R hwf, full_R hwf h4, show insertW (gapR (ps.map Prod.fst) id) (decide (400 ≤ lenR (ps.map Prod.fst))) ⟨ps.map Prod.fst, nx⟩ fs = insertR ⟨ps.map Prod.fst, nx⟩ id fs by rw [insertR_W]] at this
  exact this
theorem len_R (lb : Nat) (ev : Value) (ps : List Pr) (nx : Int) (w : World) (h : LR w lb ev ps nx) (hwf : WF (ps.map Prod.fst)) (hps : ps.length ≤ 1000000) :
    Calls Tryz.prog 31 #[ptr lb] w fun e w' => e = .returned (.int .i64 (lenR (ps.map Prod.fst) : Nat)) ∧ Below w.heap.size w w' := by
  have := len_any lb ev ps nx w h hps
  rw [stzP_len hwf] at this
  exact this
set_option maxRecDepth 100000 in
set_option maxHeartbeats 4000000 in
theorem alive7_any (w : World) : Calls Tryz.prog 10 #[] w fun e w' => e = .returned (.bool true) ∧ Below w.heap.size w w' := by
  have OF := Lib.hid (of_any ⟨#[65, 58, 32, 49, 10]⟩ (by decide) w)
  go_enter Tryz.func10, Tryz.ntmps10
  go_wp2_with fail
  refine OF.out.mono ?_
  rintro e w1 hof
  obtain ⟨b1, lb, ev, ps, rfl, hlb, hev, hla, hps⟩ := hof.yes parseA7
  rw [fromA7] at hla hps
  dsimp only at hla hps
  obtain ⟨wa, hwa⟩ : ∃ wa, wa = w1.alloc (.cells #[.string ⟨#[66]⟩, .string ⟨#[50]⟩] 73) := ⟨_, rfl⟩
  have hba : Below w1.heap.size w1 wa := by rw [hwa]; exact (Below.refl _ _).alloc (Nat.le_refl _) _
  have hB : Below w.heap.size w wa := b1.trans (hba.mono b1.size)
  have hfs : wa.ownsRow w1.heap.size 73 2 (sl w1.heap.size 1 1) 1 (cellsF [([66], [50])]) := by
    refine ⟨rfl, .inr ⟨w1.heap.size, 1, _, rfl, Nat.le_refl _, by rw [hwa]; exact heap_alloc_new w1 _, Nat.le_refl _, by decide, rfl, rfl⟩⟩
  have hpl : ps.length = 1 := by have := congrArg List.length hps; simpa using this
  have IN := insert_R lb ev ps 2 0 [([66], [50])] (sl w1.heap.size 1 1) wa (hla.below hba (Nat.le_refl _)) (by rw [hps]; exact wfA7) (by rw [hps]; decide) (by omega) (by decide) (FldR.own hfs) ⟨by decide, fun f hf => by rw [List.mem_singleton.1 hf]; decide⟩
  rw [hps, insA7] at IN
  dsimp only at IN
  have HIN := Lib.hid IN
  have HB := Lib.hid hB
  clear IN hB hfs hba hpl hps hla hof b1 OF
  unfold sl ptr at HIN
  unfold ptr
  subst hwa
  go_wp2_with fail
  refine HIN.out.mono ?_
  rintro e w2 ⟨u, ev', ps', rfl, hR⟩
  have hu : u = .nilIface := by
    obtain ⟨_, ⟨h, _⟩ | ⟨k, _, _, h0⟩⟩ := hR.err
    · exact h
    · exact absurd rfl h0
  subst hu
  have hes := hR.es
  dsimp only at hes
  have hl2 : ps'.length = 2 := by have := congrArg List.length hes; simpa using this
  have hmem : ∀ p ∈ ps', p.1 = (⟨3, [66, 58, 32, 50, 10], [([66], [50])]⟩, 2) ∨ p.1 = (⟨3, [65, 58, 32, 49, 10], [([65], [49])]⟩, 1) := fun p hp => by
    have : p.1 ∈ ps'.map Prod.fst := List.mem_map_of_mem hp
    rw [hes] at this
    simpa using this
  have ok : EntsOk ps' := by
    refine ⟨by omega, fun p hp => ?_, fun p hp => ?_, fun p hp => ?_⟩
    all_goals
      rcases hmem p hp with e | e
      all_goals
        rw [e]; decide
  have hits : itsP ps' = [⟨3, [66, 58, 32, 50, 10], [([66], [50])]⟩, ⟨3, [65, 58, 32, 49, 10], [([65], [49])]⟩] := by
    have : itsP ps' = (ps'.map Prod.fst).map Prod.fst := by unfold itsP; rw [List.map_map]; rfl
    rw [this, hes]; rfl
  have hB2 : Below w.heap.size w w2 := by
    have h1 := hR.only.below (Below.refl w2.heap.size w2) hR.only.size
    exact HB.out.trans (h1.to_below HB.out.size (fun r hr e => by
      rcases e with e | e
      · omega
      · have := hev r e; omega))
  have TX := text_gen ps' ev' (some ⟨lb, 0, none⟩) w2 (AllR.of hR.la.lr) ok
  rw [hits, txtA7] at TX
  have HTX := Lib.hid TX
  have wf2 : WF (ps'.map Prod.fst) := by
    rw [hes]
    intro e he
    rcases List.mem_cons.1 he with rfl | he
    · exact .inl ⟨rfl, by decide⟩
    · rw [List.mem_singleton.1 he]; exact .inl ⟨rfl, by decide⟩
  have LN := fun W (hW : Below w2.heap.size w2 W) => len_R lb ev' ps' 3 W (hR.la.lr.below hW (Nat.le_refl _)) wf2 (by omega)
  have l2 : lenR (ps'.map Prod.fst) = 2 := by rw [hes]; decide
  rw [l2] at LN
  have LN := Lib.hid LN
  have HB2 := Lib.hid hB2
  clear TX hB2 wf2 l2 hits ok hmem hl2 hes hR HIN
  unfold ptr at LN
  go_wp2_with fail
  refine HTX.out.mono ?_
  rintro e w3 ⟨rfl, b3⟩
  have LN3 := Lib.hid (LN.out w3 b3)
  have hq : ((B [66, 58, 32, 50, 10, 10, 65, 58, 32, 49, 10]).toList == [66, 58, 32, 50, 10, 10, 65, 58, 32, 49, 10]) = true := by kernel_rfl
  have HB3 := Lib.hid (HB2.out.trans (b3.mono HB2.out.size))
  clear LN b3
  go_wp2_with fail
  refine LN3.out.mono ?_
  rintro e w4 ⟨rfl, b4⟩
  have HB4 := Lib.hid (HB3.out.trans (b4.mono HB3.out.size))
  clear LN3 b4
  go_wp2_with fail
  go_ret
  exact ⟨rfl, HB4.out⟩
end Go.Proofs.YtiebbgbcojgeoaaGreatDoor
/- The stanzas' numbers in order, and their places. -/
namespace Go.Proofs.YtiebbgbcojgeoaaGreatDoor

theorem stz_nums {ps : List Pr} (h : WF (ps.map Prod.fst)) : (stzP 0 ps).map (fun x => x.2.1.2) = nums (ps.map Prod.fst) := by
  have h1 := stz_filter 0 (ps.map Prod.fst) h
  have h2 : (stzOn 0 (ps.map Prod.fst)) = (stzP 0 ps).map fun x => (x.1, x.2.1) := by
    unfold stzOn stzP
    rw [← stzG_map (κ := fun e : En => e.1.kind) Prod.fst]
  rw [h2, List.map_map] at h1
  unfold nums
  rw [List.filter_map]
  have h3 : (List.filter ((fun n => decide (0 < n)) ∘ Prod.snd) (ps.map Prod.fst)) = (ps.map Prod.fst).filter fun e : En => decide (0 < e.2) := rfl
  rw [h3, ← h1, List.map_map]
  rfl
theorem findIdx_nodup : ∀ (l : List Int) (i : Nat) (n : Int), l.Nodup → l[i]? = some n → (l.findIdx? fun m => m == n) = some i
  | [], i, n, _, h => by simp at h
  | a :: l, 0, n, _, h => by
    have : a = n := by simpa using h
    rw [List.findIdx?_cons, if_pos (by simpa using this)]
  | a :: l, i + 1, n, hd, h => by
    obtain ⟨h1, h2⟩ := List.nodup_cons.1 hd
    have h' : l[i]? = some n := by simpa using h
    have hne : a ≠ n := fun e => h1 (by rw [e]; exact List.mem_of_getElem? h')
    rw [List.findIdx?_cons, if_neg (by simpa using hne), findIdx_nodup l i n h2 h']
    rfl
theorem place_nums {ps : List Pr} (h : WF (ps.map Prod.fst)) (nd : (nums (ps.map Prod.fst)).Nodup) {i : Nat} {n : Int} (hi : (nums (ps.map Prod.fst))[i]? = some n) : placeP ps n = (i : Nat) := by
  have hf := findIdx_nodup _ i n nd hi
  rw [← stz_nums h, List.findIdx?_map] at hf
  unfold placeP
  have : ((stzP 0 ps).findIdx? fun x => x.2.1.2 == n) = some i := hf
  rw [this]
end Go.Proofs.YtiebbgbcojgeoaaGreatDoor
/- What the laws carry through a script. -/
namespace Go.Proofs.YtiebbgbcojgeoaaGreatDoor
open Go.RowKit Go.Shelf

theorem next_cnt : ∀ (n : Int) (its : List It), fromNext n its = n + cnt3 its
  | n, [] => by simp [fromNext, cnt3]
  | n, it :: r => by
    unfold cnt3
    by_cases hk : it.kind = 3
    · rw [fromNext, if_pos hk, next_cnt (n + 1) r, List.filter_cons, if_pos (by simpa using hk), List.length_cons]
      unfold cnt3; omega
    · rw [fromNext, if_neg hk, next_cnt n r, List.filter_cons, if_neg (by simpa using hk)]
      unfold cnt3; rfl
theorem from_lenR (its : List It) : (lenR (fromL its).es : Int) = (fromL its).next - 1 := by
  obtain ⟨_, _, c, _⟩ := nums_from 1 its (by decide)
  have h1 : lenR (fromL its).es = cnt3 its := by rw [← nums_len]; exact c
  have h2 : (fromL its).next = 1 + cnt3 its := next_cnt 1 its
  omega
/-- Entries of a modest size. -/
def SzL (es : List En) : Prop := ∀ e ∈ es, e.1.raw.length ≤ 100000 ∧ e.1.fields.length ≤ 1000000
theorem edit_mem (l : LS) (kind id : Int) (fs : List Fld) : ∀ e ∈ (editR l kind id fs).ls.es, e ∈ l.es ∨ (e.1 = itemOf fs ∧ chkN fs = 0) := by
  intro e he
  unfold editR at he
  split at he
  · unfold replaceR at he
    split at he
    · exact .inl he
    · rename_i k hk
      split at he
      · rename_i hc
        have he' : e ∈ setE l.es k (itemOf fs) := he
        unfold setE at he'
        obtain ⟨j, hj⟩ := List.getElem?_of_mem he'
        rw [List.getElem?_modify] at hj
        cases hx : l.es[j]? with
        | none => rw [hx] at hj; cases hj
        | some y =>
          rw [hx] at hj
          have hj' : (if k = j then (itemOf fs, y.2) else y) = e := Option.some.inj hj
          by_cases q : k = j
          · rw [if_pos q] at hj'
            rw [← hj']; exact .inr ⟨rfl, hc⟩
          · rw [if_neg q] at hj'
            rw [← hj']; exact .inl (List.mem_of_getElem? hx)
      · exact .inl he
  · split at he
    · unfold deleteR at he
      split at he
      · exact .inl he
      · have he' : e ∈ cutE l.es _ := he
        unfold cutE at he'
        rcases List.mem_append.1 he' with q | q
        · exact .inl (List.mem_of_mem_take q)
        · exact .inl (List.mem_of_mem_drop q)
    · unfold insertR at he
      split at he
      · exact .inl he
      · split at he
        · rename_i hc
          split at he
          · exact .inl he
          · have he' : e ∈ putE l.es _ (itemOf fs, l.next) := he
            unfold putE at he'
            rcases List.mem_append.1 he' with q | q
            · exact .inl (List.mem_of_mem_take q)
            · rcases List.mem_cons.1 q with q | q
              · rw [q]; exact .inr ⟨rfl, hc⟩
              · exact .inl (List.mem_of_mem_drop q)
        · exact .inl he
/-- The list that a law carries: its blocks lie at or above S0. -/
structure Carry (S0 : Nat) (w : World) (lb : Nat) (ev : Value) (ps : List Pr) (l : LS) (m : Nat) : Prop where
  la : LA w lb ev ps l.next
  es : ps.map Prod.fst = l.es
  ok : OkL l
  sz : SzL l.es
  lb0 : S0 ≤ lb
  ev0 : ∀ b, ev.ownBlock = some b → S0 ≤ b
  len : l.es.length ≤ m
  nx : l.next ≤ m + 1
theorem Carry.wf {S0 : Nat} {w : World} {lb : Nat} {ev : Value} {ps : List Pr} {l : LS} {m : Nat} (h : Carry S0 w lb ev ps l m) : WF (ps.map Prod.fst) := by rw [h.es]; exact h.ok.wf
theorem Carry.below {S0 : Nat} {w w' : World} {lb : Nat} {ev : Value} {ps : List Pr} {l : LS} {m N : Nat} (h : Carry S0 w lb ev ps l m) (hb : Below N w w') (hN : w.heap.size ≤ N) : Carry S0 w' lb ev ps l m :=
  ⟨h.la.below hb hN, h.es, h.ok, h.sz, h.lb0, h.ev0, h.len, h.nx⟩
theorem Carry.ents {S0 : Nat} {w : World} {lb : Nat} {ev : Value} {ps : List Pr} {l : LS} {m : Nat} (h : Carry S0 w lb ev ps l m) (hm : m ≤ 10000) : EntsOk ps := by
  have hmem : ∀ p ∈ ps, p.1 ∈ l.es := fun p hp => by rw [← h.es]; exact List.mem_map_of_mem hp
  have hl : ps.length = l.es.length := by rw [← h.es, List.length_map]
  refine ⟨by have := h.len; omega, fun p hp => (h.sz _ (hmem p hp)).1, fun p hp => (h.sz _ (hmem p hp)).2, fun p hp => ?_⟩
  rcases h.ok.wf _ (hmem p hp) with ⟨_, q⟩ | ⟨_, q⟩
  · have hn : p.1.2 ∈ nums l.es := by
      unfold nums
      exact List.mem_filter.2 ⟨List.mem_map_of_mem (hmem p hp), by simpa using q⟩
    have := h.ok.lt _ hn
    have := h.nx
    omega
  · omega
theorem Carry.str {S0 : Nat} {w : World} {lb : Nat} {ev : Value} {ps : List Pr} {l : LS} {m : Nat} (h : Carry S0 w lb ev ps l m) : StR w lb ev ps l.next (.slice none 0 0) [] :=
  ⟨h.la, entsQ_none w, (fun b e => by cases e), (fun p hp => by cases hp)⟩
theorem SzL.edit {l : LS} (h : SzL l.es) (kind id : Int) {fs : List Fld} (h1 : (foldG fs).length ≤ 100000) (h2 : fs.length ≤ 1000000) : SzL (editR l kind id fs).ls.es := fun e he => by
  rcases edit_mem l kind id fs e he with q | ⟨q, _⟩
  · exact h e q
  · rw [q]; exact ⟨h1, h2⟩
/-- Behind an edit (of whatever kind, by whatever call) the list is carried on. -/
theorem Carry.edit {S0 : Nat} {w w' : World} {lb : Nat} {ev ev' : Value} {ps ps' : List Pr} {l : LS} {m : Nat} (h : Carry S0 w lb ev ps l m) (kind id : Int) {fs : List Fld} (h1 : (foldG fs).length ≤ 100000) (h2 : fs.length ≤ 1000000)
    (la : LA w' lb ev' ps' (editR l kind id fs).ls.next) (es : ps'.map Prod.fst = (editR l kind id fs).ls.es) (hS : S0 ≤ w.heap.size) (hev : ∀ b, ev'.ownBlock = some b → ev.ownBlock = some b ∨ w.heap.size ≤ b) : Carry S0 w' lb ev' ps' (editR l kind id fs).ls (m + 1) := by
  obtain ⟨a, _, c⟩ := edit_len l kind id fs
  have hl := h.len
  have hn := h.nx
  refine ⟨la, es, h.ok.edit kind id fs, h.sz.edit kind id h1 h2, h.lb0, fun b e => ?_, by omega, by omega⟩
  rcases hev b e with q | q
  · exact h.ev0 b q
  · omega
end Go.Proofs.YtiebbgbcojgeoaaGreatDoor
/- Items that are put apart, blocks and blank lines, are parsed to what they are. -/
namespace Go.Proofs.YtiebbgbcojgeoaaGreatDoor

/-- A blank line's item. -/
structure BlankI (it : It) : Prop where
  kind : it.kind = 1
  fields : it.fields = []
  raw : ∃ l, it.raw = l ++ [10] ∧ (10 : UInt8) ∉ l ∧ kindL l = 1
/-- An item that stands alone. -/
def Itm (it : It) : Prop := Blk it ∨ BlankI it

/-- What a run has made since its beginning isn't taken back. -/
def Made (n : Nat) (p : PS) : Prop := n ≤ p.items.length ∧ (n < p.items.length ∨ p.said ≠ [] ∨ p.fields ≠ [])
theorem Made.endField {n : Nat} {p : PS} (h : Made n p) : Made n (endFieldP p) := by
  unfold endFieldP
  split
  · exact h
  · exact ⟨h.1, .inr (.inr (by simp))⟩
theorem Made.went {n : Nat} {p : PS} (h : Made n p) (x : Ln) : Made n (wentP p x) := by
  unfold wentP
  split
  · exact ⟨h.1, .inr (.inl (by simp))⟩
  · exact h
theorem Made.then_ {n : Nat} {p : PS} (h : Made n p) (x : Ln) : Made n (thenP p x) := by
  unfold thenP
  split
  · exact (h.went x).endField
  · exact h.went x
theorem endBlock_more (t : List UInt8) (p : PS) (e : Nat) : p.items.length ≤ (endBlockP t p e).items.length := by
  unfold endBlockP
  split
  · exact Nat.le_refl _
  · split
    · simp [endItemP]
    · simp [endItemP]
theorem Made.put {n : Nat} {t : List UInt8} {p : PS} (h : Made n p) (x : Ln) : Made n (putP t p x) := by
  unfold putP
  split
  · exact ⟨h.1, .inr (.inl (by simp))⟩
  · split
    · have h1 := endBlock_more t p x.at_
      have h2 : (endItemP t (endBlockP t p x.at_) 1 (x.at_ + x.text.length + 1)).items.length = (endBlockP t p x.at_).items.length + 1 := by simp [endItemP]
      have h3 := h.1
      exact ⟨by omega, .inl (by omega)⟩
    · exact h
theorem Made.take {n : Nat} {t : List UInt8} {p q : PS} {x : Ln} (h : Made n p) (he : takeP t p x = .ok q) : Made n q := by
  obtain ⟨_, _, rfl⟩ := take_parts he
  exact (h.then_ x).put x
theorem Made.run {n : Nat} (t : List UInt8) : ∀ (xs : List Ln) (p q : PS), Made n p → runP t p xs = .ok q → Made n q
  | [], p, q, h, he => by cases he; exact h
  | x :: xs, p, q, h, he => by
    unfold runP at he
    cases ht : takeP t p x with
    | error e => rw [ht] at he; cases he
    | ok p1 =>
      rw [ht] at he
      exact Made.run t xs p1 q (h.take ht) he
theorem made_not {b st a n : Nat} {its : List It} (hn : its.length = n) : ¬ Made n ⟨b, [], its, st, a, []⟩ := by
  rintro ⟨_, h | h | h⟩
  · simp only at h; omega
  · exact h rfl
  · exact h rfl
theorem then_clean {b st a no c : Nat} {its : List It} {l : List UInt8} {e : Bool} (hk : kindL l ≠ 3) : thenP ⟨b, [], its, st, a, []⟩ ⟨no, c, l, e⟩ = ⟨b, [], its, st, a, []⟩ := by
  have hg : goesP ⟨b, [], its, st, a, []⟩ ⟨no, c, l, e⟩ = false := goes_kind hk
  unfold thenP wentP
  rw [hg]
  simp [endFieldP]
/-- Lines that make nothing do nothing, with however many stanzas behind them. -/
theorem run_notes {t : List UInt8} : ∀ (ts : List (List UInt8)) (b st a no c : Nat) (its : List It) (b' : Nat), runP t ⟨b, [], its, st, a, []⟩ (num no c ts) = .ok ⟨b', [], its, st, a, []⟩ →
    ∀ (t' : List UInt8) (b2 st2 a2 no2 c2 : Nat) (its2 : List It), runP t' ⟨b2, [], its2, st2, a2, []⟩ (num no2 c2 ts) = .ok ⟨b2, [], its2, st2, a2, []⟩
  | [], b, st, a, no, c, its, b', h, t', b2, st2, a2, no2, c2, its2 => rfl
  | l :: r, b, st, a, no, c, its, b', h, t', b2, st2, a2, no2, c2, its2 => by
    have h' : (match takeP t ⟨b, [], its, st, a, []⟩ ⟨no, c, l, true⟩ with | .error e => Except.error e | .ok q' => runP t q' (num (no + 1) (c + l.length + 1) r)) = .ok ⟨b', [], its, st, a, []⟩ := h
    cases ht : takeP t ⟨b, [], its, st, a, []⟩ ⟨no, c, l, true⟩ with
    | error e => rw [ht] at h'; cases h'
    | ok q =>
      rw [ht] at h'
      dsimp only at h'
      obtain ⟨g1, g2, hq⟩ := take_parts ht
      have hk3 : kindL l ≠ 3 := by
        intro e
        unfold wrongP goesP at g2
        simp [e] at g2
      have hk5 : kindL l ≠ 5 := by
        intro e
        unfold wrongP at g2
        simp [e] at g2
      rw [then_clean hk3] at hq
      have hk4 : kindL l ≠ 4 := by
        intro e
        have hm : Made its.length q := by
          rw [hq]; unfold putP
          rw [if_pos (by exact e)]
          exact ⟨Nat.le_refl _, .inr (.inl (by simp))⟩
        exact made_not rfl (Made.run t _ _ _ hm h')
      have hk1 : kindL l ≠ 1 := by
        intro e
        have hm : Made its.length q := by
          rw [hq]; unfold putP
          rw [if_neg (by exact hk4), if_pos (by exact e)]
          have h1 := endBlock_more t ⟨b, [], its, st, a, []⟩ c
          have h2 : (endItemP t (endBlockP t ⟨b, [], its, st, a, []⟩ c) 1 (c + l.length + 1)).items.length = (endBlockP t ⟨b, [], its, st, a, []⟩ c).items.length + 1 := by simp [endItemP]
          simp only at h1
          exact ⟨by show its.length ≤ (endItemP t (endBlockP t ⟨b, [], its, st, a, []⟩ c) 1 (c + l.length + 1)).items.length; omega, .inl (by show its.length < (endItemP t (endBlockP t ⟨b, [], its, st, a, []⟩ c) 1 (c + l.length + 1)).items.length; omega)⟩
        exact made_not rfl (Made.run t _ _ _ hm h')
      have hput : ∀ (t : List UInt8) (p : PS) (no c : Nat), putP t p ⟨no, c, l, true⟩ = p := fun t p no c => by
        unfold putP
        rw [if_neg (by exact hk4), if_neg (by exact hk1)]
      rw [hput] at hq
      subst hq
      have ih := run_notes r b st a (no + 1) (c + l.length + 1) its b' h' t' b2 st2 a2 (no2 + 1) (c2 + l.length + 1) its2
      have tk := take_else (t := t') (p := ⟨b2, [], its2, st2, a2, []⟩) (no := no2) (c := c2) hk3 hk5 rfl
      rw [show endFieldP ⟨b2, [], its2, st2, a2, []⟩ = ⟨b2, [], its2, st2, a2, []⟩ from rfl, hput] at tk
      show runP t' _ (⟨no2, c2, l, true⟩ :: num (no2 + 1) (c2 + l.length + 1) r) = _
      rw [run_cons tk]
      exact ih
/-- A block that stands alone, wherever it stands. -/
theorem Blk.here {it : It} (h : Blk it) : ∃ ts said fields, it.raw = textL ts ∧ (∀ l ∈ ts, (10 : UInt8) ∉ l) ∧ ∀ (t : List UInt8) (b st a no c e : Nat) (its : List It), (it.kind = 3 → st ≤ 399) → (t.take e).drop a = it.raw → a < e →
    ∃ b', runP t ⟨b, [], its, st, a, []⟩ (num no c ts) = .ok ⟨b', said, its, st, a, fields⟩ ∧ endFieldN ⟨b', said, its, st, a, fields⟩ = 0 ∧ endBlockP t (endFieldP ⟨b', said, its, st, a, fields⟩) e = ⟨b', [], its ++ [it], st + (if it.kind = 3 then 1 else 0), e, []⟩ := by
  obtain ⟨kind, raw, fs⟩ := it
  have hk := h.kind
  obtain ⟨ts, said, fields, d1, d2, d3, d4, d5⟩ := h.does
  dsimp only at hk d1 d5 ⊢
  by_cases hf : fs = []
  · rw [if_pos hf] at hk
    subst hf hk
    have hs : said = [] ∧ fields = [] := by
      unfold endFieldP at d5
      split at d5
      · rename_i hs; exact ⟨hs, d5⟩
      · simp at d5
    obtain ⟨rfl, rfl⟩ := hs
    obtain ⟨b0, h0⟩ := d3 [] 0 0 0 0 0 [] (by decide)
    refine ⟨ts, [], [], d1, d2, fun t b st a no c e its _ hr hae => ⟨b, run_notes ts 0 0 0 0 0 [] b0 h0 t b st a no c its, rfl, ?_⟩⟩
    rw [show endFieldP ⟨b, [], its, st, a, []⟩ = ⟨b, [], its, st, a, []⟩ from rfl]
    unfold endBlockP
    rw [if_neg (by show ¬ a = e; omega), if_pos (show (⟨b, [], its, st, a, []⟩ : PS).fields.length = 0 from rfl)]
    unfold endItemP
    dsimp only
    rw [hr]; rfl
  · rw [if_neg hf] at hk
    subst hk
    refine ⟨ts, said, fields, d1, d2, fun t b st a no c e its hst hr hae => ?_⟩
    obtain ⟨b', hrun⟩ := d3 t b st a no c its (hst rfl)
    have e0 := mv_endFieldN b' st a its ⟨0, said, [], 0, 0, fields⟩ (hst rfl) d4
    have e1 := mv_endField b' st a its ⟨0, said, [], 0, 0, fields⟩
    refine ⟨b', hrun, e0, ?_⟩
    rw [show (⟨b', said, its, st, a, fields⟩ : PS) = mv b' st a its ⟨0, said, [], 0, 0, fields⟩ from rfl, e1]
    have es := endField_said ⟨0, said, [], 0, 0, fields⟩
    generalize endFieldP ⟨0, said, [], 0, 0, fields⟩ = p at *
    unfold endBlockP
    rw [show (mv b' st a its p).at_ = a from rfl, show (mv b' st a its p).fields = p.fields from rfl, d5, if_neg (by omega), if_neg (fun q => hf (List.length_eq_zero_iff.1 q))]
    show (⟨b', p.said, its ++ [⟨3, (t.take e).drop a, p.fields⟩], st + 1, e, []⟩ : PS) = _
    rw [es, hr, d5]; rfl
/-- A blank line, where a block may end. -/
theorem blank_step (t : List UInt8) (P : PS) (b st no c : Nat) (its : List It) (l R : List UInt8) (h0 : endFieldN P = 0) (hE : endBlockP t (endFieldP P) c = ⟨b, [], its, st, c, []⟩) (hk : kindL l = 1) (hcl : (10 : UInt8) ∉ l) (hd : t.drop c = (l ++ [10]) ++ R) (hct : c ≤ t.length) :
    finP t (runP t P (linesOn no c (t.drop c))) = finP t (runP t ⟨b, [], its ++ [⟨1, l ++ [10], []⟩], st, c + l.length + 1, []⟩ (linesOn (no + 1) (c + l.length + 1) (t.drop (c + l.length + 1)))) ∧ t.drop (c + l.length + 1) = R ∧ c + l.length + 1 ≤ t.length := by
  have hlen := congrArg List.length hd
  simp only [List.length_drop, List.length_append, List.length_cons, List.length_nil] at hlen
  have hR : t.drop (c + l.length + 1) = R := by
    rw [Nat.add_assoc, ← List.drop_drop, hd]
    exact List.drop_left' (by simp)
  have htb : (t.take (c + l.length + 1)).drop c = l ++ [10] := by
    rw [Nat.add_assoc, List.take_add, hd, List.drop_append_of_le_length (by rw [List.length_take]; omega), List.drop_of_length_le (by rw [List.length_take]; omega), List.take_left' (by simp)]; rfl
  refine ⟨?_, hR, by omega⟩
  have tk := take_else (t := t) (p := P) (no := no) (c := c) (l := l) (by rw [hk]; decide) (by rw [hk]; decide) h0
  have hput : putP t (endFieldP P) ⟨no, c, l, true⟩ = endItemP t (endBlockP t (endFieldP P) c) 1 (c + l.length + 1) := by
    unfold putP
    rw [if_neg (by show ¬ kindL l = 4; rw [hk]; decide), if_pos (by exact hk)]
  rw [hput, hE] at tk
  have hp2 : endItemP t (⟨b, [], its, st, c, []⟩ : PS) 1 (c + l.length + 1) = ⟨b, [], its ++ [⟨1, l ++ [10], []⟩], st, c + l.length + 1, []⟩ := by
    unfold endItemP
    dsimp only
    rw [htb]; rfl
  rw [hp2] at tk
  have e10 : (l ++ [10]) ++ R = textL [l] ++ R := by unfold textL; simp
  have hrun : runP t P (num no c [l]) = .ok ⟨b, [], its ++ [⟨1, l ++ [10], []⟩], st, c + l.length + 1, []⟩ := by
    show runP t _ (⟨no, c, l, true⟩ :: []) = _
    rw [run_cons tk]; rfl
  rw [hR, hd, e10, linesOn_text [l] no c R (by intro z hz; rw [List.mem_singleton.1 hz]; exact hcl), fin_append _ _ _ _ _ hrun]
  have : c + (textL [l]).length = c + l.length + 1 := by unfold textL; simp; omega
  rw [this]; rfl
theorem cnt3_cons (x : It) (r : List It) : cnt3 (x :: r) = (if x.kind = 3 then 1 else 0) + cnt3 r := by
  unfold cnt3
  by_cases h : x.kind = 3
  · rw [if_pos h, List.filter_cons, if_pos (by simpa using h), List.length_cons]; omega
  · rw [if_neg h, List.filter_cons, if_neg (by simpa using h)]; omega
theorem fin_items (t : List UInt8) : ∀ (n : Nat) (L : List It) (b st no c : Nat) (its : List It), L.length ≤ n → st + cnt3 L ≤ 400 → (∀ it ∈ L, Itm it) → Alt false L → t.drop c = L.flatMap It.raw → c ≤ t.length →
    finP t (runP t ⟨b, [], its, st, c, []⟩ (linesOn no c (t.drop c))) = .ok (its ++ L)
  | n, [], b, st, no, c, its, _, _, _, _, hd, hct => by
    have hc : c = t.length := by
      have := congrArg List.length hd
      simp at this; omega
    rw [hd]
    show finP t (runP t _ (linesOn no c [])) = _
    rw [linesOn_nil]
    show lastP t _ = _
    unfold lastP
    rw [if_neg (fun q => q rfl), show endFieldP ⟨b, [], its, st, c, []⟩ = ⟨b, [], its, st, c, []⟩ from rfl]
    unfold endBlockP
    rw [if_pos (by exact hc)]; simp
  | 0, x :: r, b, st, no, c, its, hn, _, _, _, _, _ => by simp at hn
  | n + 1, x :: r, b, st, no, c, its, hn, hst, hi, halt, hd, hct => by
    have hr := fun it (h : it ∈ r) => hi it (List.mem_cons_of_mem _ h)
    rw [cnt3_cons] at hst
    rw [List.flatMap_cons] at hd
    rcases hi x List.mem_cons_self with hx | hx
    · obtain ⟨ts, said, fields, d1, d2, d3⟩ := hx.here
      have hpos : 0 < x.raw.length := List.length_pos_iff.2 hx.pos
      have hlen := congrArg List.length hd
      simp only [List.length_drop, List.length_append] at hlen
      have htk : (t.take (c + x.raw.length)).drop c = x.raw := by
        rw [List.take_add, hd, List.drop_append_of_le_length (by rw [List.length_take]; omega), List.drop_of_length_le (by rw [List.length_take]; omega), List.take_left' rfl]; rfl
      obtain ⟨b', h1, h2, h3⟩ := d3 t b st c no c (c + x.raw.length) its (fun q => by rw [if_pos q] at hst; omega) htk (by omega)
      have hdc : t.drop (c + x.raw.length) = r.flatMap It.raw := by
        rw [← List.drop_drop, hd]; exact List.drop_left' rfl
      have hgo : ∀ q, finP t (runP t ⟨b, [], its, st, c, []⟩ (linesOn no c (t.drop c))) = q ↔ finP t (runP t ⟨b', said, its, st, c, fields⟩ (linesOn (no + ts.length) (c + x.raw.length) (t.drop (c + x.raw.length)))) = q := by
        intro q
        rw [hdc, hd]
        conv => lhs; rw [d1, linesOn_text ts no c _ d2, fin_append _ _ _ _ _ h1, ← d1]
      rw [hgo]
      cases r with
      | nil =>
        have hdl : c + x.raw.length = t.length := by simp at hlen; omega
        rw [hdc]
        show finP t (runP t _ (linesOn _ _ [])) = _
        rw [linesOn_nil]
        show lastP t _ = _
        unfold lastP
        rw [if_neg (by rw [h2]; decide), ← hdl, h3]
      | cons y r =>
        obtain ⟨_, a2, a3⟩ := halt
        have hy1 : y.kind = 1 := a2 (by have := hx.kind1; simpa using this)
        have hy : BlankI y := by
          rcases hr y List.mem_cons_self with q | q
          · exact absurd hy1 q.kind1
          · exact q
        obtain ⟨l, y1, y2, y3⟩ := hy.raw
        have ye : y = ⟨1, l ++ [10], []⟩ := by
          obtain ⟨yk, yr, yf⟩ := y
          have := hy.fields
          simp only at this hy1 y1
          rw [hy1, y1, this]
        rw [List.flatMap_cons, y1] at hdc
        obtain ⟨s1, s2, s3⟩ := blank_step t ⟨b', said, its, st, c, fields⟩ b' (st + (if x.kind = 3 then 1 else 0)) (no + ts.length) (c + x.raw.length) (its ++ [x]) l (r.flatMap It.raw) h2 h3 y3 y2 hdc (by omega)
        rw [s1]
        have hyc : cnt3 (y :: r) = cnt3 r := by rw [cnt3_cons, if_neg (by rw [hy1]; decide)]; omega
        have ih := fin_items t n r b' (st + (if x.kind = 3 then 1 else 0)) (no + ts.length + 1) (c + x.raw.length + l.length + 1) (its ++ [x] ++ [⟨1, l ++ [10], []⟩]) (by simp at hn; omega) (by omega) (fun it h => hr it (List.mem_cons_of_mem _ h)) (by rw [hy1] at a3; exact a3) s2 s3
        rw [ih, ← ye]; simp
    · obtain ⟨l, y1, y2, y3⟩ := hx.raw
      have xe : x = ⟨1, l ++ [10], []⟩ := by
        obtain ⟨yk, yr, yf⟩ := x
        have h1 := hx.fields
        have h2 := hx.kind
        simp only at h1 h2 y1
        rw [h2, y1, h1]
      rw [y1] at hd
      obtain ⟨s1, s2, s3⟩ := blank_step t ⟨b, [], its, st, c, []⟩ b st no c its l (r.flatMap It.raw) rfl (by
        rw [show endFieldP ⟨b, [], its, st, c, []⟩ = ⟨b, [], its, st, c, []⟩ from rfl]
        unfold endBlockP
        rw [if_pos rfl]) y3 y2 hd hct
      rw [s1]
      obtain ⟨_, a2⟩ := halt
      have ih := fin_items t n r b st (no + 1) (c + l.length + 1) (its ++ [⟨1, l ++ [10], []⟩]) (by simp at hn; omega) (by rw [if_neg (by rw [hx.kind]; decide)] at hst; omega) hr (by rw [hx.kind] at a2; exact a2) s2 s3
      rw [ih, ← xe]; simp
/-- Items that are put apart are parsed to what they are. -/
theorem parse_items {L : List It} (hi : ∀ it ∈ L, Itm it) (ha : Alt false L) (hc : cnt3 L ≤ 400) : parseL (L.flatMap It.raw) = .ok L := by
  rw [parse_fin]
  have := fin_items (L.flatMap It.raw) _ L 0 0 0 0 [] (Nat.le_refl _) (by omega) hi ha rfl (Nat.zero_le _)
  exact this

theorem apartOn_alt : ∀ (b : Bool) (l : List It), Alt b (apartOn b l)
  | b, [] => trivial
  | b, x :: r => by
    show Alt b ((if b = true ∧ x.kind ≠ 1 then [⟨1, [10], []⟩] else []) ++ x :: apartOn (x.kind != 1) r)
    have h := apartOn_alt (x.kind != 1) r
    split
    · exact ⟨fun _ => rfl, (fun q => by cases q), h⟩
    · rename_i hh
      exact ⟨fun q => Decidable.byContradiction fun k => hh ⟨q, k⟩, h⟩
theorem apartOn_itm : ∀ (b : Bool) (l : List It), (∀ it ∈ l, Itm it) → ∀ it ∈ apartOn b l, Itm it
  | b, [], h, it, hi => h it hi
  | b, x :: r, h, it, hi => by
    rcases List.mem_append.1 (show it ∈ (if b = true ∧ x.kind ≠ 1 then [(⟨1, [10], []⟩ : It)] else []) ++ x :: apartOn (x.kind != 1) r from hi) with q | q
    · split at q
      · rw [List.mem_singleton.1 q]
        exact .inr ⟨rfl, rfl, [], rfl, by simp, by decide⟩
      · cases q
    · rcases List.mem_cons.1 q with q | q
      · rw [q]; exact h x List.mem_cons_self
      · exact apartOn_itm _ r (fun y hy => h y (List.mem_cons_of_mem _ hy)) it q
theorem apartOn_cnt : ∀ (b : Bool) (l : List It), cnt3 (apartOn b l) = cnt3 l
  | b, [] => rfl
  | b, x :: r => by
    show cnt3 ((if b = true ∧ x.kind ≠ 1 then [⟨1, [10], []⟩] else []) ++ x :: apartOn (x.kind != 1) r) = _
    rw [cnt3_cons x r, ← apartOn_cnt (x.kind != 1) r, ← cnt3_cons]
    split
    · show cnt3 (⟨1, [10], []⟩ :: x :: _) = _
      rw [cnt3_cons, if_neg (by decide), Nat.zero_add]
    · rfl
theorem apartOn_recs : ∀ (b : Bool) (l : List It), (apartOn b l).filter (fun it => decide (it.kind = 3)) = l.filter fun it => decide (it.kind = 3)
  | b, [] => rfl
  | b, x :: r => by
    show ((if b = true ∧ x.kind ≠ 1 then [(⟨1, [10], []⟩ : It)] else []) ++ x :: apartOn (x.kind != 1) r).filter _ = _
    have ih := apartOn_recs (x.kind != 1) r
    rw [List.filter_append, List.filter_cons, List.filter_cons, ih]
    have h0 : (if b = true ∧ x.kind ≠ 1 then [(⟨1, [10], []⟩ : It)] else []).filter (fun it => decide (it.kind = 3)) = [] := by
      split
      · rfl
      · rfl
    rw [h0, List.nil_append]
theorem apart_twice (l : List It) : apartL (apartL l) = apartL l := Alt.apart false _ (apartOn_alt false l)

/-- Of what is parsed: its blank lines. -/
structure MidB (t : List UInt8) (p : PS) (c : Nat) : Prop where
  at_ : p.at_ ≤ c
  bl : ∀ it ∈ p.items, it.kind = 1 → BlankI it
  cur : p.at_ = c → p.fields = [] ∧ p.said = []
theorem MidB.endBlock {t : List UInt8} {p : PS} {c : Nat} (h : MidB t p c) : (∀ it ∈ (endBlockP t (endFieldP p) c).items, it.kind = 1 → BlankI it) ∧ (endBlockP t (endFieldP p) c).fields = [] := by
  unfold endBlockP
  rw [endField_at]
  split
  · rename_i hac
    obtain ⟨h1, h2⟩ := h.cur hac
    refine ⟨by rw [endField_items]; exact h.bl, ?_⟩
    unfold endFieldP
    rw [if_pos h2]; exact h1
  · have key : ∀ (k : Nat), k ≠ 1 → ∀ it ∈ (endItemP t (endFieldP p) k c).items, it.kind = 1 → BlankI it := by
      intro k hk it hi h1
      rcases List.mem_append.1 (show it ∈ (endFieldP p).items ++ [_] from hi) with q | q
      · rw [endField_items] at q; exact h.bl it q h1
      · rw [List.mem_singleton.1 q] at h1
        exact absurd (show ((k : Nat) : Int) = 1 from h1) (by omega)
    split
    · exact ⟨key 2 (by decide), rfl⟩
    · exact ⟨key 3 (by decide), rfl⟩
theorem MidB.take {t : List UInt8} {p q : PS} {x : Ln} (h : MidB t p x.at_) (hen : x.ended = true) (hcl : (10 : UInt8) ∉ x.text) (hrest : ∃ r, t.drop x.at_ = x.bytes ++ r) (hct : x.at_ ≤ t.length) (he : takeP t p x = .ok q) : MidB t q (x.at_ + x.bytes.length) := by
  have hat := h.at_
  obtain ⟨r, hr⟩ := hrest
  have hb : x.bytes = x.text ++ [10] := by unfold Ln.bytes; rw [hen]; simp
  have hbl : x.bytes.length = x.text.length + 1 := by rw [hb]; simp
  by_cases hk : kindL x.text = 1
  · obtain ⟨g1, _, rfl⟩ := take_parts he
    have hg : goesP p x = false := goes_kind (by omega)
    have hw : wentP p x = p := by unfold wentP; rw [hg]; rfl
    have hE : endsP p x = true := by unfold endsP; rw [hg]; simp
    have hth : thenP p x = endFieldP p := by unfold thenP; rw [hE, hw]; rfl
    obtain ⟨l1, l2⟩ := h.endBlock
    have ha : (endBlockP t (endFieldP p) x.at_).at_ = x.at_ := endBlock_at t _ _ (by rw [endField_at]; exact hat)
    unfold putP
    rw [if_neg (by omega), if_pos hk, hth]
    refine ⟨by show x.at_ + x.text.length + 1 ≤ _; omega, fun it hi h1 => ?_, fun _ => ⟨rfl, ?_⟩⟩
    · rcases List.mem_append.1 (show it ∈ (endBlockP t (endFieldP p) x.at_).items ++ [_] from hi) with hi | hi
      · exact l1 it hi h1
      · rw [List.mem_singleton.1 hi]
        refine ⟨rfl, l2, x.text, ?_, hcl, hk⟩
        show (t.take (x.at_ + x.text.length + 1)).drop (endBlockP t (endFieldP p) x.at_).at_ = _
        rw [ha, Nat.add_assoc, List.take_add, hr, ← hbl, List.drop_append_of_le_length (by rw [List.length_take]; omega), List.drop_of_length_le (by rw [List.length_take]; omega), List.take_left' rfl, hb]; rfl
    · show (endBlockP t (endFieldP p) x.at_).said = []
      rw [endBlock_said, endField_said]
  · obtain ⟨k1, k2, k3⟩ := take_keeps hk he
    exact ⟨by rw [k3]; omega, by rw [k1]; exact h.bl, fun q => by rw [k3] at q; omega⟩
theorem MidB.run (t : List UInt8) : ∀ (xs : List Ln) (no c : Nat) (p q : PS), Runs no c xs → no ≤ c → Inv p c → MidB t p c → t.drop c = xs.flatMap Ln.bytes → c ≤ t.length → (∀ x ∈ xs, (10 : UInt8) ∉ x.text) → runP t p xs = .ok q → MidB t q t.length
  | [], no, c, p, q, _, _, _, hm, hr, hct, _, he => by
    cases he
    have : c = t.length := by
      have := congrArg List.length hr
      simp at this; omega
    rw [← this]; exact hm
  | x :: xs, no, c, p, q, hrun, hn, hi, hm, hr, hct, hcl, he => by
    obtain ⟨r1, r2, r3, r4⟩ := hrun
    unfold runP at he
    cases ht : takeP t p x with
    | error e => rw [ht] at he; cases he
    | ok p1 =>
      rw [ht] at he
      dsimp only at he
      rw [List.flatMap_cons] at hr
      rw [← r2] at hi hm hr hct
      obtain ⟨i1, e1⟩ := Inv.take hi (by omega) ht
      have m1 := hm.take e1 (hcl x List.mem_cons_self) ⟨_, hr⟩ hct ht
      have hr2 : t.drop (x.at_ + x.bytes.length) = xs.flatMap Ln.bytes := by
        rw [← List.drop_drop, hr]; simp
      have hct2 : x.at_ + x.bytes.length ≤ t.length := by
        have := congrArg List.length hr
        simp only [List.length_drop, List.length_append] at this
        omega
      rw [r2] at i1 m1 hr2 hct2
      exact MidB.run t xs (no + 1) (c + x.bytes.length) p1 q r4 (by omega) i1 m1 hr2 hct2 (fun y hy => hcl y (List.mem_cons_of_mem _ hy)) he
/-- What is parsed stands alone, item by item. -/
theorem parse_itm {t : List UInt8} {its : List It} (h : parseL t = .ok its) : ∀ it ∈ its, Itm it := by
  intro it hi
  by_cases hk : it.kind = 1
  · refine .inr ?_
    obtain ⟨p, hr, h0, rfl, _⟩ := parse_good h
    have m := MidB.run t _ 0 0 _ _ (runs_linesOn _ 0 0 t (Nat.le_refl _)) (Nat.le_refl _) Inv.new ⟨Nat.le_refl _, (fun it h => by cases h), fun _ => ⟨rfl, rfl⟩⟩ (by rw [show linesOn 0 0 t = linesOf t from rfl, linesOf_join]; rfl) (Nat.zero_le _) (linesOn_clean _ 0 0 t (Nat.le_refl _)) hr
    exact m.endBlock.1 it hi hk
  · exact .inl ((parse_blks h).1 it hi hk)
end Go.Proofs.YtiebbgbcojgeoaaGreatDoor
/- A list's items stand alone, whatever was edited: its text is parsed to them. -/
namespace Go.Proofs.YtiebbgbcojgeoaaGreatDoor
open Go.RowKit Go.Shelf

theorem stzG_snd {α : Type} (κ : α → Int) : ∀ (k : Nat) (l : List α), (stzG κ k l).map Prod.snd = l.filter fun x => κ x == 3
  | k, [] => rfl
  | k, x :: r => by
    have ih := stzG_snd κ (k + 1) r
    unfold stzG
    rw [List.filter_cons]
    by_cases h : κ x = 3
    · rw [if_pos h, if_pos (by simpa using h), List.map_cons, ih]
    · rw [if_neg h, if_neg (by simpa using h), ih]
theorem stz_recs (ps : List Pr) : (stzL (stzP 0 ps)).map Prod.snd = recs (itsP ps) := by
  have h := stzG_snd (fun p : Pr => p.1.1.kind) 0 ps
  have h2 : (stzL (stzP 0 ps)).map Prod.snd = ((stzP 0 ps).map Prod.snd).map fun p : Pr => p.1.1.fields := by
    unfold stzL
    rw [List.map_map, List.map_map]; rfl
  have h3 : (stzP 0 ps).map Prod.snd = ps.filter fun p => p.1.1.kind == 3 := h
  rw [h2, h3]
  unfold recs itsP
  rw [List.filter_map, List.map_map]; rfl
theorem recs_put (its : List It) : recs (apartL its) = recs its := by
  unfold recs
  exact congrArg (List.map It.fields) (apartOn_recs false its)
/-- Entries whose items stand alone. -/
def ItmL (es : List En) : Prop := ∀ e ∈ es, Itm e.1
theorem ItmL.edit {l : LS} (h : ItmL l.es) (kind id : Int) (fs : List Fld) : ItmL (editR l kind id fs).ls.es := fun e he => by
  rcases edit_mem l kind id fs e he with q | ⟨q, hc⟩
  · exact h e q
  · rw [q]; exact .inl (blk_item hc)
theorem itm_from {t : List UInt8} {its : List It} (h : parseL t = .ok its) : ItmL (fromL its).es := fun e he => by
  refine parse_itm h _ ?_
  rw [← from_items 1 its]; exact List.mem_map_of_mem he
theorem cnt_lenR {es : List En} (h : WF es) : cnt3 (es.map Prod.fst) = lenR es := by
  unfold cnt3 lenR
  rw [List.filter_map, List.length_map]
  congr 1
  refine List.filter_congr fun e he => ?_
  rcases h e he with ⟨a, b⟩ | ⟨a, b⟩
  · simp [a, b]
  · simp [a, b]
theorem parse_list {l : LS} (hi : ItmL l.es) (ok : OkL l) : parseL ((apartL (l.es.map Prod.fst)).flatMap It.raw) = .ok (apartL (l.es.map Prod.fst)) := by
  refine parse_items (apartOn_itm false _ fun it h => ?_) (apartOn_alt false _) ?_
  · obtain ⟨e, he, rfl⟩ := List.mem_map.1 h
    exact hi e he
  · show cnt3 (apartOn false _) ≤ 400
    rw [apartOn_cnt, cnt_lenR ok.wf]; exact ok.len
theorem itsP_es {ps : List Pr} {es : List En} (h : ps.map Prod.fst = es) : itsP ps = es.map Prod.fst := by
  rw [← h, List.map_map]; rfl
end Go.Proofs.YtiebbgbcojgeoaaGreatDoor
