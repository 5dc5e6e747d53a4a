/- Texts put together: UR, US, UT. -/
import Derived.Test.YtfjklpgmnakcaaaGreatDoorBae15
set_option linter.unusedVariables false
set_option maxRecDepth 100000
set_option maxHeartbeats 16000000
namespace Go.Proofs.YtfjklpgmnakcaaaGreatDoor
open Go.RowKit Go.Shelf
attribute [local go_sem] Oper.semAt_some
theorem infoQ : (Tryz.prog.info? 104).map (fun i => (i.zero, i.size, i.bytes)) = some (some (.agg #[.int .i64 0, .string ⟨#[]⟩, .slice none 0 0, .int .i64 0]), 4, 56) := by kernel_rfl
structure AccQ (w wr : World) (ob : Nat) (v : Value) (ps : List Pr) (nx : Int) : Prop where
  head : Cells wr ob 28 #[v, .int .i64 nx]
  row : wr.ownsRow w.heap.size 104 4 v ps.length (entCells ps)
  below : Below w.heap.size w wr
  lo : w.heap.size <= ob
theorem AccQ.ne {w wr : World} {ob : Nat} {v : Value} {ps : List Pr} {nx : Int} (h : AccQ w wr ob v ps nx) : v.ownBlock ≠ some ob :=
  own_cells_ne h.row h.head (by decide)
theorem AccQ.alloc {w wr : World} {ob : Nat} {v : Value} {ps : List Pr} {nx : Int} (h : AccQ w wr ob v ps nx) (o : Obj) : AccQ w (wr.alloc o) ob v ps nx :=
  ⟨h.head.alloc o, h.row.alloc o, h.below.alloc h.below.size o, h.lo⟩
theorem AccQ.drew {w wr : World} {ob : Nat} {v : Value} {ps : List Pr} {nx : Int} (h : AccQ w wr ob v ps nx) : AccQ w wr.drew ob v ps nx := ⟨h.head.drew, h.row, h.below.drew, h.lo⟩
theorem AccQ.kept {w wr w2 : World} {ob : Nat} {v : Value} {ps : List Pr} {nx : Int} (h : AccQ w wr ob v ps nx) (hb : Below wr.heap.size wr w2) : AccQ w w2 ob v ps nx :=
  ⟨cells_kept h.head hb h.head.lt, own_kept h.row hb (Nat.le_refl _), h.below.trans (hb.mono h.below.size), h.lo⟩
theorem AccQ.snoc {w wa w6 : World} {ob : Nat} {v v' : Value} {ps : List Pr} {nx : Int} {p : Pr} (h : AccQ w wa ob v ps nx)
    (ho : w6.ownsRow 0 104 4 v' (ps.length + 1) (entCells ps ++ entCell p)) (h6 : Cells w6 ob 28 #[v, .int .i64 nx]) (hk : v'.ownBlock = v.ownBlock \/ ∃ k, v'.ownBlock = some k /\ wa.heap.size <= k /\ k < w6.heap.size) (o6 : Only (fun r => some r = v.ownBlock) wa w6) :
    AccQ w (w6.setCell ⟨ob, 0, none⟩ v') ob v' (ps ++ [p]) nx := by
  have hne : v'.ownBlock ≠ some ob := by
    intro e
    rcases hk with hk | ⟨k, hk, h1, _⟩
    . rw [hk] at e; exact h.ne e
    rw [hk] at e
    have : k = ob := Option.some.inj e
    have := h.head.lt
    omega
  have hz := h.below.size
  have hrow : w6.ownsRow w.heap.size 104 4 v' (ps.length + 1) (entCells ps ++ entCell p) := by
    rcases ho.2 with ⟨q, _⟩ | ⟨g2, cap2, cur2, q, _, rest⟩
    . exact ⟨ho.1, .inl ⟨q, by omega⟩⟩
    refine ⟨ho.1, .inr ⟨g2, cap2, cur2, q, ?_, rest⟩⟩
    rcases hk with hk | ⟨k, hk, h1, _⟩
    . exact (h.row.lt g2 (by rw [<- hk, q]; rfl)).1
    rw [q] at hk
    have : g2 = k := Option.some.inj hk
    omega
  refine ⟨?_, ?_, ?_, h.lo⟩
  . have := h6.set 0 v'
    simpa [List.setIfInBounds_toArray, List.set] using this
  . rw [List.length_append, entCells_snoc]
    exact row_cell hrow hne _
  have b6 : Below w.heap.size wa w6 := o6.to_below hz (fun r hr e => by
    have := (h.row.lt r e.symm).1
    omega)
  exact (h.below.trans b6).setCell (p := ⟨ob, 0, none⟩) h.lo _
theorem AccQ.grown_head {w wa w6 : World} {ob : Nat} {v : Value} {ps : List Pr} {nx : Int} (h : AccQ w wa ob v ps nx) (hg : wa.grownBy w6 v.ownBlock) : Cells w6 ob 28 #[v, .int .i64 nx] :=
  (hg.block ob h.head.lt (fun e => h.ne e.symm)).trans h.head
theorem AccQ.grow {w wa w6 : World} {ob : Nat} {v v' : Value} {ps : List Pr} {nx : Int} {p : Pr} (h : AccQ w wa ob v ps nx)
    (ho : w6.ownsRow w.heap.size 104 4 v' (ps.length + 1) (entCells ps ++ entCell p)) (hg : wa.grownBy w6 v.ownBlock) :
    AccQ w (w6.setCell ⟨ob, 0, none⟩ v') ob v' (ps ++ [p]) nx := by
  have h6 := h.grown_head hg
  refine ⟨?_, ?_, ?_, h.lo⟩
  . have := h6.set 0 v'
    simpa [List.setIfInBounds_toArray, List.set] using this
  . rw [List.length_append, entCells_snoc]
    exact row_cell ho (own_cells_ne ho h6 (by decide)) _
  exact (h.below.grown hg h.below.size (fun k e => (h.row.lt k e).1)).setCell (p := ⟨ob, 0, none⟩) h.lo _
theorem AccQ.other {w wr : World} {ob : Nat} {v : Value} {ps : List Pr} {nx : Int} (h : AccQ w wr ob v ps nx) {b : Nat} (i : Nat) (u : Value) (hb : w.heap.size <= b) (h1 : b ≠ ob) (h2 : ∀ r, v.ownBlock = some r -> r ≠ b) : AccQ w (wr.setCell ⟨b, i, none⟩ u) ob v ps nx :=
  ⟨h.head.other (p := ⟨b, i, none⟩) (fun e => h1 e.symm) u, row_cell h.row (fun e => h2 b e rfl) u, h.below.setCell (p := ⟨b, i, none⟩) hb u, h.lo⟩
theorem AccQ.start (w : World) (nx : Int) : AccQ w (w.alloc (.cells #[.slice none 0 0, .int .i64 nx] 28)) w.heap.size (.slice none 0 0) [] nx :=
  ⟨Cells.new _ _ _, ⟨rfl, .inl ⟨rfl, rfl⟩⟩, (Below.refl _ _).alloc (Nat.le_refl _) _, Nat.le_refl _⟩
structure WrQ (w : World) (v : Value) (ps : List Pr) (x : Value) (es : List En) (w' : World) (v' : Value) (ps' : List Pr) : Prop where
  ents : EntsQ w' v' ps'
  es : ps'.map Prod.fst = es
  below : Below w.heap.size w w'
  blk : v' = v \/ ∀ b, v'.ownBlock = some b -> w.heap.size <= b
  mem : ∀ p ∈ ps', p ∈ ps \/ p.2 = x
theorem WrQ.same {w w' : World} {v : Value} {ps : List Pr} {x : Value} {es : List En} (h : EntsQ w v ps) (he : ps.map Prod.fst = es) (hb : Below w.heap.size w w') : WrQ w v ps x es w' v ps :=
  ⟨h.below hb (Nat.le_refl _), he, hb, .inl rfl, fun p hp => .inl hp⟩
theorem AccQ.end_ {w w1 wr : World} {ob : Nat} {v v' : Value} {ps ps' : List Pr} {nx : Int} {x : Value} {fs : List Fld} {es : List En} (h : AccQ w1 wr ob v' ps' nx) (hb : Below w.heap.size w w1) (hq : EntsQ w v ps) (hx : Flds w x fs) (he : ps'.map Prod.fst = es) (hm : ∀ p ∈ ps', p ∈ ps \/ (p.2 = x /\ p.1.1.fields = fs)) {b : Nat} (h1 : w.heap.size <= b) (h2 : b < w1.heap.size) (i j : Nat) (a c : Value) :
    WrQ w v ps x es ((wr.setCell ⟨b, i, none⟩ a).setCell ⟨b, j, none⟩ c) v' ps' := by
  have hB : Below w.heap.size w ((wr.setCell ⟨b, i, none⟩ a).setCell ⟨b, j, none⟩ c) := ((hb.trans (h.below.mono hb.size)).setCell (p := ⟨b, i, none⟩) h1 _).setCell (p := ⟨b, j, none⟩) h1 _
  have hne : v'.ownBlock ≠ some b := fun e => by have := (h.row.lt b e).1; omega
  refine ⟨⟨row_cell (row_cell (rowBase h.row (Nat.zero_le _)) hne _) hne _, fun p hp => ?_⟩, he, hB, .inr fun r hr => Nat.le_trans hb.size (h.row.lt r hr).1, fun p hp => (hm p hp).imp id (·.1)⟩
  rcases hm p hp with q | ⟨q1, q2⟩
  . exact (hq.each p q).below hB (Nat.le_refl _)
  rw [q1, q2]; exact hx.below hB (Nat.le_refl _)
theorem WrQ.from {w w1 w' : World} {v v' : Value} {ps ps' : List Pr} {x : Value} {es : List En} (h : WrQ w1 v ps x es w' v' ps') (hb : Below w.heap.size w w1) : WrQ w v ps x es w' v' ps' :=
  ⟨h.ents, h.es, hb.trans (h.below.mono hb.size), h.blk.imp id fun q b e => Nat.le_trans hb.size (q b e), h.mem⟩
theorem results_q3 {fn : Func} {p u z : Tmp} {ty : TypeId} (h : fn.results = #[.cell p ty, .tmp u, .tmp z]) (tmps : Array Value) (P : Program) (w : World) :
    (results fn tmps).run P w = ((asAddr (tmps.getD p undef)).run P w).andThen fun a w₁ => ((loadVar ty a).run P w₁).andThen fun v w₂ => .ok (.tuple #[v, tmps.getD u undef, tmps.getD z undef]) w₂ := by
  simp only [results, h]
  simp [Sem.run_bind, Result.andThen]
theorem ret_q3 {fn : Func} {p u z : Tmp} (h : fn.results = #[.cell p 28, .tmp u, .tmp z]) (tmps : Array Value) (w : World) (b : Nat) (cur : Array Value) (hp : tmps.getD p undef = .pointer (some ⟨b, 0, none⟩))
    (hc : Cells w b 28 cur) (hz : cur.size = 2) : (results fn tmps).run Tryz.prog w = .ok (.tuple #[.agg cur, tmps.getD u undef, tmps.getD z undef]) w := by
  have L := run_loadVar_row (P := Tryz.prog) w b 28 28 cur (0, 0) _ hc Tryz.underlying28 rfl (by rw [hz]; kernel_rfl)
  rw [results_q3 h, hp]
  show ((loadVar _ _).run _ _).andThen _ = _
  rw [L]; rfl
theorem results_q4 {fn : Func} {p u z y : Tmp} {ty : TypeId} (h : fn.results = #[.cell p ty, .tmp u, .tmp z, .tmp y]) (tmps : Array Value) (P : Program) (w : World) :
    (results fn tmps).run P w = ((asAddr (tmps.getD p undef)).run P w).andThen fun a w₁ => ((loadVar ty a).run P w₁).andThen fun v w₂ => .ok (.tuple #[v, tmps.getD u undef, tmps.getD z undef, tmps.getD y undef]) w₂ := by
  simp only [results, h]
  simp [Sem.run_bind, Result.andThen]
theorem ret_q4 {fn : Func} {p u z y : Tmp} (h : fn.results = #[.cell p 28, .tmp u, .tmp z, .tmp y]) (tmps : Array Value) (w : World) (b : Nat) (cur : Array Value) (hp : tmps.getD p undef = .pointer (some ⟨b, 0, none⟩))
    (hc : Cells w b 28 cur) (hz : cur.size = 2) : (results fn tmps).run Tryz.prog w = .ok (.tuple #[.agg cur, tmps.getD u undef, tmps.getD z undef, tmps.getD y undef]) w := by
  have L := run_loadVar_row (P := Tryz.prog) w b 28 28 cur (0, 0) _ hc Tryz.underlying28 rfl (by rw [hz]; kernel_rfl)
  rw [results_q4 h, hp]
  show ((loadVar _ _).run _ _).andThen _ = _
  rw [L]; rfl
theorem ret_q2 {fn : Func} {p u : Tmp} (h : fn.results = #[.cell p 28, .tmp u]) (tmps : Array Value) (w : World) (b : Nat) (cur : Array Value) (hp : tmps.getD p undef = .pointer (some ⟨b, 0, none⟩))
    (hc : Cells w b 28 cur) (hz : cur.size = 2) : (results fn tmps).run Tryz.prog w = .ok (.tuple #[.agg cur, tmps.getD u undef]) w := by
  have L := run_loadVar_row (P := Tryz.prog) w b 28 28 cur (0, 0) _ hc Tryz.underlying28 rfl (by rw [hz]; kernel_rfl)
  rw [results_cell_tmp h, hp]
  show ((loadVar _ _).run _ _).andThen _ = _
  rw [L]; rfl
end Go.Proofs.YtfjklpgmnakcaaaGreatDoor
namespace Go.Proofs.YtfjklpgmnakcaaaGreatDoor
open Go.RowKit Go.Shelf
attribute [local go_sem] Oper.semAt_some
def cutQ (ps : List Pr) (k j : Nat) : List Pr := if j <= k then ps.take j else ps.take k ++ (ps.take j).drop (k + 1)
theorem cutQ_len (ps : List Pr) (k j : Nat) : (cutQ ps k j).length <= j := by
  unfold cutQ
  split
  . rw [List.length_take]; omega
  rw [List.length_append, List.length_take, List.length_drop, List.length_take]; omega
theorem cutQ_at (ps : List Pr) (k : Nat) (p : Pr) (h : ps[k]? = some p) : cutQ ps k (k + 1) = cutQ ps k k := by
  unfold cutQ
  rw [if_neg (by omega), if_pos (Nat.le_refl _), List.drop_eq_nil_of_le (by rw [List.length_take]; omega), List.append_nil]
theorem cutQ_on (ps : List Pr) (k j : Nat) (p : Pr) (h : ps[j]? = some p) (hj : j ≠ k) : cutQ ps k (j + 1) = cutQ ps k j ++ [p] := by
  have hl := (List.getElem?_eq_some_iff.1 h).1
  have e : ps.take (j + 1) = ps.take j ++ [p] := by rw [List.take_add_one, h]; rfl
  unfold cutQ
  by_cases q : j < k
  . rw [if_pos (by omega), if_pos (by omega), e]
  rw [if_neg (by omega), if_neg (by omega), e, List.drop_append, List.length_take, show k + 1 - min j ps.length = 0 by omega, List.drop_zero, List.append_assoc]
theorem cutQ_end (ps : List Pr) (k : Nat) (h : k < ps.length) : cutQ ps k ps.length = ps.take k ++ ps.drop (k + 1) := by
  unfold cutQ
  rw [if_neg (by omega), List.take_length]
theorem cutQ_map (ps : List Pr) (k : Nat) : (ps.take k ++ ps.drop (k + 1)).map Prod.fst = cutE (ps.map Prod.fst) k := by
  unfold cutE; rw [List.map_append, List.map_take, List.map_drop]
theorem refDelete_any (ps : List Pr) (v : Value) (nx id : Int) (w : World) (h : EntsQ w v ps) (hps : ps.length <= 1000000) :
    Calls Tryz.prog 50 #[.agg #[v, .int .i64 nx], .int .i64 id] w fun e w' => ∃ v' ps', e = .returned (.tuple #[.agg #[v', .int .i64 (deleteR ⟨ps.map Prod.fst, nx⟩ id).ls.next], .int .i64 (deleteR ⟨ps.map Prod.fst, nx⟩ id).bad]) /\ WrQ w v ps (.slice none 0 0) (deleteR ⟨ps.map Prod.fst, nx⟩ id).ls.es w' v' ps' := by
  obtain ⟨i0, hi, hz0, hz1, hz2⟩ := info_parts infoQ
  rw [deleteR_W]
  dsimp only
  obtain ⟨A, cap, rfl, hle⟩ := h.empty
  obtain ⟨W, hW⟩ : ∃ W, W = (w.alloc (.cells #[.slice A ps.length cap, .int .i64 nx] 28)).alloc (.cells #[.slice none 0 0, .int .i64 0] 28) := ⟨_, rfl⟩
  have hbW : Below w.heap.size w W := by rw [hW]; exact ((Below.refl _ w).alloc (Nat.le_refl _) _).alloc (by simp) _
  have hzW : W.heap.size = w.heap.size + 2 := by rw [hW]; simp
  have C0 : Cells W w.heap.size 28 #[.slice A ps.length cap, .int .i64 nx] := by rw [hW]; exact (Cells.new _ _ _).alloc _
  have C1 : Cells W (w.heap.size + 1) 28 #[.slice none 0 0, .int .i64 0] := by
    rw [hW]; have := Cells.new (w.alloc (.cells #[.slice A ps.length cap, .int .i64 nx] 28)) 28 #[.slice none 0 0, .int .i64 0]
    simpa using this
  have H0 := Lib.hid h
  have FN := Lib.hid (refFind_any ps (.slice A ps.length cap) nx id W (h.below hbW (Nat.le_refl _)) hps)
  have HBW := Lib.hid hbW
  have HC0 := Lib.hid C0
  have HC1 := Lib.hid C1
  have HT : Hid (∀ w1, Below W.heap.size W w1 -> Cells w1 w.heap.size 28 #[.slice A ps.length cap, .int .i64 nx] /\ Cells w1 (w.heap.size + 1) 28 #[.slice none 0 0, .int .i64 0] /\ Below w.heap.size w w1 /\ w.heap.size + 2 <= w1.heap.size) := fun w1 b1 =>
    ⟨cells_kept HC0.out b1 (by omega), cells_kept HC1.out b1 (by omega), HBW.out.trans (b1.mono (by omega)), by have := b1.size; omega⟩
  clear C0 C1 h hbW hzW
  subst hW
  cases hf : findR (ps.map Prod.fst) id with
  | none =>
    rw [hf] at FN
    dsimp only [findI] at FN
    clear hf
    unfold deleteW
    dsimp only
    go_enter Tryz.func50, Tryz.ntmps50
    go_wp2_with fail
    refine FN.out.mono ?_
    rintro e w1 ⟨rfl, b1⟩
    obtain ⟨D0, D1, hb1, hzz⟩ := HT.out w1 b1
    have c0 := D0.cell 0
    have c1 := D0.cell 1
    have r0 := D1.cell 0
    have r1 := D1.cell 1
    have f0 := D1.frozen 0
    have f1 := D1.frozen 1
    simp only [List.getElem?_toArray, List.getElem?_cons_zero, List.getElem?_cons_succ] at c0 c1 r0 r1
    have RE := (D1.set 0 (.slice A ps.length cap)).set 1 (.int .i64 nx)
    rw [set2] at RE
    have HB : Hid (Below w.heap.size w ((w1.setCell ⟨w.heap.size + 1, 0, none⟩ (.slice A ps.length cap)).setCell ⟨w.heap.size + 1, 1, none⟩ (.int .i64 nx))) :=
      (hb1.setCell (p := ⟨w.heap.size + 1, 0, none⟩) (by show _ <= _ + 1; omega) _).setCell (p := ⟨w.heap.size + 1, 1, none⟩) (by show _ <= _ + 1; omega) _
    clear FN b1 hb1 D0 D1
    go_wp2_with fail
    refine bodyPost_ret (ret_q2 rfl _ _ (w.heap.size + 1) _ rfl RE rfl) rfl ?_
    exact ⟨_, ps, rfl, .same H0.out rfl HB.out⟩
  | some k =>
  rw [hf] at FN
  dsimp only [findI] at FN
  have hk : k < ps.length := by
    have := (findR_lt hf).1
    rwa [List.length_map] at this
  clear hf
  unfold deleteW
  dsimp only
  go_enter Tryz.func50, Tryz.ntmps50
  go_wp2_with fail
  refine FN.out.mono ?_
  rintro e w1 ⟨rfl, b1⟩
  obtain ⟨D0, D1, hb1, hzz⟩ := HT.out w1 b1
  have c1 : w1.cell? ⟨w.heap.size, 1, none⟩ = some (.int .i64 nx) := D0.cell 1
  have HD0 := Lib.hid D0
  have HD1 := Lib.hid D1
  have HB1 := Lib.hid hb1
  have H1 := Lib.hid (H0.out.below hb1 (Nat.le_refl _))
  clear FN b1 D0 D1 hb1
  go_wp2_with fail
  go_loopw [8] (fun i wr => ∃ (j : Nat) (u : Value), j <= ps.length /\ i = .int .i64 j /\ AccQ w1 wr w1.heap.size u (cutQ ps k j) nx) (fun i _ => ps.length - (intOf i).toNat)
  case atStart =>
    refine ⟨0, .slice none 0 0, Nat.zero_le _, rfl, ?_⟩
    have := AccQ.start w1 nx
    unfold cutQ
    rw [if_pos (Nat.zero_le _), List.take_zero]
    exact this
  case round =>
  obtain ⟨j, u, hj, rfl, hacc⟩ := hrel
  have hb := hacc.below
  have hlw := hb.size
  have e0 : wr.cell? ⟨w.heap.size, 0, none⟩ = some (.slice A ps.length cap) := (cells_kept HD0.out hb (by omega)).cell 0
  have g0 : wr.cell? ⟨w1.heap.size, 0, none⟩ = some u := hacc.head.cell 0
  by_cases hlt : j < ps.length
  . obtain ⟨p, hp⟩ : ∃ p, ps[j]? = some p := ⟨_, List.getElem?_eq_getElem hlt⟩
    by_cases hjk : j = k
    . have CA := Lib.hid (show cutQ ps k (j + 1) = cutQ ps k j by rw [hjk]; exact cutQ_at ps k p (hjk ▸ hp))
      have ACC := Lib.hid (show AccQ w1 wr w1.heap.size u (cutQ ps k (j + 1)) nx by rw [CA.out]; exact hacc)
      have hq : ((j : Int) != (k : Int)) = false := by simp [hjk]
      clear hacc hp hb
      go_wp2_with fail
      go_roundw
      case rel => exact ⟨j + 1, u, hlt, by go_num, ACC.out⟩
      case measure => simp [intOf]; omega
    have CO := Lib.hid (cutQ_on ps k j p hp hjk)
    have hq : ((j : Int) != (k : Int)) = true := bne_iff_ne.2 (by omega)
    obtain ⟨g, cap', pa, pc, e1, _, hg, e2, d0, d1, d2, d3⟩ := (H1.out.below hb (Nat.le_refl _)).here hp
    cases e1
    have hcl := cutQ_len ps k j
    have ACC := Lib.hid hacc
    have HO := Lib.hid (rowBase hacc.row (Nat.zero_le _))
    have HNE := Lib.hid hacc.ne
    obtain ⟨ua, uc, rfl, _⟩ := own_slice hacc.row
    have HHD := Lib.hid hacc.head
    have g1 : ∀ o, (wr.alloc o).cell? ⟨w1.heap.size, 0, none⟩ = some (.slice ua (cutQ ps k j).length uc) := fun o => (hacc.head.alloc o).cell 0
    generalize hcq : (cutQ ps k j) = cq at *
    rw [e2] at d2
    clear hacc hp hb hcq
    go_wp2_with fail
    go_region_law (refine step_append_own rfl (.tmp 29) (.tmp 35) 26 rfl 104 i0 _ 4 56 Tryz.underlying26 hi hz0 hz1 hz2 rfl (by decide) (.slice ua cq.length uc) cq.length (entCells cq) (by simp [Act.eval]) (by exact (HO.out.alloc _).drew) ⟨wr.heap.size, 0, none⟩ 1 1 [.int .i64 p.1.1.kind, .string (B p.1.1.raw), .slice pa p.1.1.fields.length pc, .int .i64 p.1.2] (by simp [Act.eval]) rfl (cells_new_add wr 104 [.int .i64 p.1.1.kind, .string (B p.1.1.raw), .slice pa p.1.1.fields.length pc, .int .i64 p.1.2]) (by intro u hu; simp at hu; rcases hu with rfl | rfl | rfl | rfl <;> rfl) (by unfold maxLen; omega) (by omega) ?_; intro v' w' ho hgr hbk; obtain ⟨⟨g', cap', rfl⟩, hg', hbx, hkk, hon⟩ := appended HHD.out HO.out HNE.out (((Below.refl _ wr).alloc (Nat.le_refl _) _).drew) ho hgr hbk; have k0 : w'.cell? ⟨w1.heap.size, 0, none⟩ = some (.slice ua cq.length uc) := hg'.cell 0; have kf0 := hg'.frozen 0)
    all_goals go_wp2_with fail
    all_goals
      have acc2 := ACC.out.snoc (p := p) (by unfold entCell; rw [e2]; exact ho) hg' hkk hon
      go_roundw
      case rel => exact ⟨j + 1, _, hlt, by go_num, by rw [CO.out]; exact acc2⟩
      case measure => simp [intOf]; omega
  obtain rfl : j = ps.length := by omega
  have D1 := cells_kept HD1.out hb (by omega)
  have G1 : wr.cell? ⟨w1.heap.size, 1, none⟩ = some (.int .i64 nx) := hacc.head.cell 1
  obtain ⟨ua, uc, rfl, _⟩ := own_slice hacc.row
  have r0 := D1.cell 0
  have r1 := D1.cell 1
  have f0 := D1.frozen 0
  have f1 := D1.frozen 1
  simp only [List.getElem?_toArray, List.getElem?_cons_zero, List.getElem?_cons_succ] at r0 r1
  have HMAP := Lib.hid (cutQ_map ps k)
  have HMEM : Hid (∀ p ∈ ps.take k ++ ps.drop (k + 1), p ∈ ps \/ (p.2 = .slice none 0 0 /\ p.1.1.fields = [])) := fun p hp => by
    rcases List.mem_append.1 hp with h | h
    . exact .inl (List.mem_of_mem_take h)
    exact .inl (List.mem_of_mem_drop h)
  rw [cutQ_end ps k hk] at *
  generalize ps.take k ++ ps.drop (k + 1) = L at *
  have RE := (D1.set 0 (.slice ua L.length uc)).set 1 (.int .i64 nx)
  rw [set2] at RE
  have ACC := Lib.hid hacc
  clear hacc hb D1
  go_wp2_with fail
  refine bodyPost_ret (ret_q2 rfl _ _ (w.heap.size + 1) _ rfl RE rfl) rfl ?_
  refine ⟨_, L, rfl, ?_⟩
  exact ACC.out.end_ HB1.out H0.out (fs := []) ⟨none, 0, rfl, Nat.le_refl _, fun i f h => by simp at h⟩ HMAP.out HMEM.out (Nat.le_succ _) (by omega) 0 1 _ _
end Go.Proofs.YtfjklpgmnakcaaaGreatDoor
namespace Go.Proofs.YtfjklpgmnakcaaaGreatDoor
open Go.RowKit Go.Shelf
attribute [local go_sem] Oper.semAt_some
theorem setQ_at (ps : List Pr) (k : Nat) (q : Pr) (h : k < ps.length) : (ps.set k q).take (k + 1) = (ps.set k q).take k ++ [q] := by
  rw [List.take_add_one, List.getElem?_set_self h]; rfl
theorem setQ_on (ps : List Pr) (k j : Nat) (p q : Pr) (h : ps[j]? = some p) (hj : j ≠ k) : (ps.set k q).take (j + 1) = (ps.set k q).take j ++ [p] := by
  rw [List.take_add_one, List.getElem?_set_ne (fun e => hj e.symm), h]; rfl
theorem refReplace_any (ps : List Pr) (v x : Value) (nx id : Int) (fs : List Fld) (w : World) (h : EntsQ w v ps) (hps : ps.length <= 1000000) (hx : Flds w x fs) (hfs : Fine7 fs) :
    Calls Tryz.prog 49 #[.agg #[v, .int .i64 nx], .int .i64 id, x] w fun e w' => ∃ v' ps', e = .returned (.tuple #[.agg #[v', .int .i64 (replaceR ⟨ps.map Prod.fst, nx⟩ id fs).ls.next], .int .i64 (replaceR ⟨ps.map Prod.fst, nx⟩ id fs).at_, .int .i64 (replaceR ⟨ps.map Prod.fst, nx⟩ id fs).bad]) /\ WrQ w v ps x (replaceR ⟨ps.map Prod.fst, nx⟩ id fs).ls.es w' v' ps' := by
  obtain ⟨i0, hi, hz0, hz1, hz2⟩ := info_parts infoQ
  rw [replaceR_W]
  dsimp only
  obtain ⟨A, cap, rfl, hle⟩ := h.empty
  obtain ⟨xa, xc, rfl, _, _⟩ := _root_.id hx
  obtain ⟨W, hW⟩ : ∃ W, W = (w.alloc (.cells #[.slice A ps.length cap, .int .i64 nx] 28)).alloc (.cells #[.slice none 0 0, .int .i64 0] 28) := ⟨_, rfl⟩
  have hbW : Below w.heap.size w W := by rw [hW]; exact ((Below.refl _ w).alloc (Nat.le_refl _) _).alloc (by simp) _
  have hzW : W.heap.size = w.heap.size + 2 := by rw [hW]; simp
  have C0 : Cells W w.heap.size 28 #[.slice A ps.length cap, .int .i64 nx] := by rw [hW]; exact (Cells.new _ _ _).alloc _
  have C1 : Cells W (w.heap.size + 1) 28 #[.slice none 0 0, .int .i64 0] := by
    rw [hW]; have := Cells.new (w.alloc (.cells #[.slice A ps.length cap, .int .i64 nx] 28)) 28 #[.slice none 0 0, .int .i64 0]
    simpa using this
  have H0 := Lib.hid h
  have HX := Lib.hid hx
  have FN := Lib.hid (refFind_any ps (.slice A ps.length cap) nx id W (h.below hbW (Nat.le_refl _)) hps)
  have HBW := Lib.hid hbW
  have HC0 := Lib.hid C0
  have HC1 := Lib.hid C1
  have HT : Hid (∀ w1, Below W.heap.size W w1 -> Cells w1 w.heap.size 28 #[.slice A ps.length cap, .int .i64 nx] /\ Cells w1 (w.heap.size + 1) 28 #[.slice none 0 0, .int .i64 0] /\ Below w.heap.size w w1 /\ w.heap.size + 2 <= w1.heap.size) := fun w1 b1 =>
    ⟨cells_kept HC0.out b1 (by omega), cells_kept HC1.out b1 (by omega), HBW.out.trans (b1.mono (by omega)), by have := b1.size; omega⟩
  have RET : Hid (∀ w1, Below W.heap.size W w1 -> Cells ((w1.setCell ⟨w.heap.size + 1, 0, none⟩ (.slice A ps.length cap)).setCell ⟨w.heap.size + 1, 1, none⟩ (.int .i64 nx)) (w.heap.size + 1) 28 #[.slice A ps.length cap, .int .i64 nx] /\ Below w.heap.size w ((w1.setCell ⟨w.heap.size + 1, 0, none⟩ (.slice A ps.length cap)).setCell ⟨w.heap.size + 1, 1, none⟩ (.int .i64 nx))) := fun w1 b1 => by
    obtain ⟨_, D1, hb1, _⟩ := HT.out w1 b1
    have RE := (D1.set 0 (.slice A ps.length cap)).set 1 (.int .i64 nx)
    rw [set2] at RE
    exact ⟨RE, (hb1.setCell (p := ⟨w.heap.size + 1, 0, none⟩) (Nat.le_succ _) _).setCell (p := ⟨w.heap.size + 1, 1, none⟩) (Nat.le_succ _) _⟩
  clear C0 C1 h hbW hzW hx
  subst hW
  cases hf : findR (ps.map Prod.fst) id with
  | none =>
    rw [hf] at FN
    dsimp only [findI] at FN
    clear hf
    unfold replaceW
    dsimp only
    go_enter Tryz.func49, Tryz.ntmps49
    go_wp2_with fail
    refine FN.out.mono ?_
    rintro e w1 ⟨rfl, b1⟩
    obtain ⟨D0, D1, hb1, hzz⟩ := HT.out w1 b1
    obtain ⟨RE, HB⟩ := RET.out w1 b1
    have c0 := D0.cell 0
    have c1 := D0.cell 1
    have r0 := D1.cell 0
    have r1 := D1.cell 1
    have f0 := D1.frozen 0
    have f1 := D1.frozen 1
    simp only [List.getElem?_toArray, List.getElem?_cons_zero, List.getElem?_cons_succ] at c0 c1 r0 r1
    have HRE := Lib.hid RE
    have HHB := Lib.hid HB
    clear FN b1 hb1 D0 D1 RE HB
    go_wp2_with fail
    refine bodyPost_ret (ret_q3 rfl _ _ (w.heap.size + 1) _ rfl HRE.out rfl) rfl ?_
    exact ⟨_, ps, rfl, .same H0.out rfl HHB.out⟩
  | some k =>
  rw [hf] at FN
  dsimp only [findI] at FN
  have hk : k < ps.length := by
    have := (findR_lt hf).1
    rwa [List.length_map] at this
  clear hf
  obtain ⟨p0, hp0⟩ : ∃ p, ps[k]? = some p := ⟨_, List.getElem?_eq_getElem hk⟩
  have HP0 := Lib.hid hp0
  have hat : chkN fs <= 11 := chkN_le fs
  by_cases hb : chkN fs = 0
  . rw [replaceW_yes hb]
    dsimp only
    obtain ⟨q, hq⟩ : ∃ q : Pr, q = ((itemOf fs, p0.1.2), .slice xa fs.length xc) := ⟨_, rfl⟩
    have HSET := Lib.hid (setE_map ps k p0 (itemOf fs) (.slice xa fs.length xc) hp0)
    have SAT := Lib.hid (setQ_at ps k q hk)
    have SON := Lib.hid (fun j p => setQ_on ps k j p q)
    have HQ := Lib.hid hq
    have HMEM : Hid (∀ p ∈ ps.set k q, p ∈ ps \/ (p.2 = .slice xa fs.length xc /\ p.1.1.fields = fs)) := fun p hp => by
      rcases List.mem_or_eq_of_mem_set hp with h | h
      . exact .inl h
      right; rw [h, hq]; exact ⟨rfl, rfl⟩
    have CK : Hid (∀ w1, Flds w1 (.slice xa fs.length xc) fs -> Calls Tryz.prog 74 #[.slice xa fs.length xc] w1 fun e w' => e = .returned (.tuple #[.int .i64 (chkAt fs), .int .i64 0]) /\ Below w1.heap.size w1 w') := fun w1 h1 => by
      have := refChk_any fs _ w1 h1 (by have := hfs.len; omega) (fun f hf => by have := hfs.each f hf; omega)
      rw [hb] at this; exact this
    have IT : Hid (∀ w1, Flds w1 (.slice xa fs.length xc) fs -> Calls Tryz.prog 75 #[.slice xa fs.length xc] w1 fun e w' => e = .returned (.agg #[.int .i64 3, .string (B (foldG fs)), .slice xa fs.length xc]) /\ Below w1.heap.size w1 w') := fun w1 h1 =>
      refItem_any fs xa _ xc w1 h1 hfs.len hfs.each
    obtain ⟨T, hT⟩ : ∃ T, T = chkAt fs := ⟨_, rfl⟩
    obtain ⟨G, hG⟩ : ∃ G, G = foldG fs := ⟨_, rfl⟩
    have HG := Lib.hid hG
    rw [<- hT] at CK
    rw [<- hG] at IT
    obtain ⟨L, hL⟩ : ∃ L, L = ps.set k q := ⟨_, rfl⟩
    have HLL : Hid (L.length = ps.length) := by show _ = _; rw [hL, List.length_set]
    rw [<- hL] at HMEM SAT SON
    have HL := Lib.hid hL
    clear hb hat hp0 hT hG hL hq
    go_enter Tryz.func49, Tryz.ntmps49
    go_wp2_with fail
    refine FN.out.mono ?_
    rintro e w1 ⟨rfl, b1⟩
    obtain ⟨_, _, hb1, _⟩ := HT.out w1 b1
    have CK1 := Lib.hid (CK.out w1 (HX.out.below hb1 (Nat.le_refl _)))
    have B1 := Lib.hid b1
    clear FN b1 hb1 CK
    go_wp2_with fail
    refine CK1.out.mono ?_
    rintro e w2 ⟨rfl, b2⟩
    have b2' := B1.out.trans (b2.mono B1.out.size)
    obtain ⟨D0, D1, hb2, hzz⟩ := HT.out w2 b2'
    have c1 : w2.cell? ⟨w.heap.size, 1, none⟩ = some (.int .i64 nx) := D0.cell 1
    have HD0 := Lib.hid D0
    have HD1 := Lib.hid D1
    have HB2 := Lib.hid hb2
    have H1 := Lib.hid (H0.out.below hb2 (Nat.le_refl _))
    have HX1 := Lib.hid (HX.out.below hb2 (Nat.le_refl _))
    clear CK1 b2 b2' D0 D1 hb2 B1
    go_wp2_with fail
    go_loopw [13] (fun i wr => ∃ (j : Nat) (u : Value), j <= ps.length /\ i = .int .i64 j /\ AccQ w2 wr w2.heap.size u (L.take j) nx) (fun i _ => ps.length - (intOf i).toNat)
    case atStart => exact ⟨0, .slice none 0 0, Nat.zero_le _, rfl, AccQ.start w2 nx⟩
    case round =>
    obtain ⟨j, u, hj, rfl, hacc⟩ := hrel
    have hb := hacc.below
    have hlw := hb.size
    have e0 : wr.cell? ⟨w.heap.size, 0, none⟩ = some (.slice A ps.length cap) := (cells_kept HD0.out hb (by omega)).cell 0
    obtain ⟨ua, uc, rfl, _⟩ := own_slice hacc.row
    by_cases hlt : j < ps.length
    . obtain ⟨p, hp⟩ : ∃ p, ps[j]? = some p := ⟨_, List.getElem?_eq_getElem hlt⟩
      obtain ⟨g, cap', pa, pc, e1, _, hg, e2, d0, d1, d2, d3⟩ := (H1.out.below hb (Nat.le_refl _)).here hp
      cases e1
      rw [e2] at d2
      have hcl : (L.take j).length <= j := by rw [List.length_take]; omega
      by_cases hjk : j = k
      . have hq : ((j : Int) == (k : Int)) = true := by simp [hjk]
        have SJ : Hid (L.take (j + 1) = L.take j ++ [q]) := by show _ = _; rw [hjk]; exact SAT.out
        have hpp : p = p0 := by
          have := HP0.out
          rw [<- hjk, hp] at this
          exact Option.some.inj this
        subst hpp
        obtain ⟨wa, hwa⟩ : ∃ wa, wa = wr.alloc (.cells #[.int .i64 p.1.1.kind, .string (B p.1.1.raw), .slice pa p.1.1.fields.length pc, .int .i64 p.1.2] 104) := ⟨_, rfl⟩
        have IT1 := Lib.hid (IT.out wa (HX1.out.below (hb.trans (by rw [hwa]; exact (Below.refl _ wr).alloc (by omega) _)) (Nat.le_refl _)))
        have HBX : Hid (Cells wa wr.heap.size 104 #[.int .i64 p.1.1.kind, .string (B p.1.1.raw), .slice pa p.1.1.fields.length pc, .int .i64 p.1.2]) := by show Cells _ _ _ _; rw [hwa]; exact Cells.new _ _ _
        have ACC := Lib.hid (show AccQ w2 wa w2.heap.size (.slice ua (L.take j).length uc) (L.take j) nx by rw [hwa]; exact hacc.alloc _)
        have hzz2 : Hid (wa.heap.size = wr.heap.size + 1) := by show _ = _; rw [hwa]; simp
        have obl := hacc.head.lt
        have HLT : Hid (∀ r, (Value.slice ua (L.take j).length uc).ownBlock = some r -> r ≠ wr.heap.size) := fun r e => by have := (hacc.row.lt r e).2; omega
        generalize hcq : L.take j = cq at *
        clear hacc hp hb hcq hjk
        subst hwa
        go_wp2_with fail
        refine IT1.out.mono ?_
        rintro e w4 ⟨rfl, b4⟩
        have ACC4 := Lib.hid (ACC.out.kept b4)
        have BX4 := cells_kept HBX.out b4 (by rw [hzz2.out]; omega)
        have h4z := b4.size
        rw [hzz2.out] at h4z
        have ob_ne : wr.heap.size ≠ w2.heap.size := by omega
        have ne_ob : w2.heap.size ≠ wr.heap.size := by omega
        have acc5 := ((ACC4.out.other (b := wr.heap.size) 0 (.int .i64 3) hlw ob_ne HLT.out).other (b := wr.heap.size) 1 (.string (B G)) hlw ob_ne HLT.out).other (b := wr.heap.size) 2 (.slice xa fs.length xc) hlw ob_ne HLT.out
        have BX5 : Cells (((w4.setCell ⟨wr.heap.size, 0, none⟩ (.int .i64 3)).setCell ⟨wr.heap.size, 1, none⟩ (.string (B G))).setCell ⟨wr.heap.size, 2, none⟩ (.slice xa fs.length xc)) wr.heap.size 104 #[.int .i64 3, .string (B G), .slice xa fs.length xc, .int .i64 p.1.2] := by
          have := ((BX4.set 0 (.int .i64 3)).set 1 (.string (B G))).set 2 (.slice xa fs.length xc)
          simpa [List.setIfInBounds_toArray, List.set] using this
        have q0 := BX4.cell 0
        have q1 := BX4.cell 1
        have q2 := BX4.cell 2
        simp only [List.getElem?_toArray, List.getElem?_cons_zero, List.getElem?_cons_succ] at q0 q1 q2
        have fr0 := BX4.frozen 0
        have fr1 := BX4.frozen 1
        have fr2 := BX4.frozen 2
        have s0 : (((w4.setCell ⟨wr.heap.size, 0, none⟩ (.int .i64 3)).setCell ⟨wr.heap.size, 1, none⟩ (.string (B G))).setCell ⟨wr.heap.size, 2, none⟩ (.slice xa fs.length xc)).cell? ⟨wr.heap.size, 0, none⟩ = some (.int .i64 3) := BX5.cell 0
        have s1 : (((w4.setCell ⟨wr.heap.size, 0, none⟩ (.int .i64 3)).setCell ⟨wr.heap.size, 1, none⟩ (.string (B G))).setCell ⟨wr.heap.size, 2, none⟩ (.slice xa fs.length xc)).cell? ⟨wr.heap.size, 1, none⟩ = some (.string (B G)) := BX5.cell 1
        have s2 : (((w4.setCell ⟨wr.heap.size, 0, none⟩ (.int .i64 3)).setCell ⟨wr.heap.size, 1, none⟩ (.string (B G))).setCell ⟨wr.heap.size, 2, none⟩ (.slice xa fs.length xc)).cell? ⟨wr.heap.size, 2, none⟩ = some (.slice xa fs.length xc) := BX5.cell 2
        have s3 : (((w4.setCell ⟨wr.heap.size, 0, none⟩ (.int .i64 3)).setCell ⟨wr.heap.size, 1, none⟩ (.string (B G))).setCell ⟨wr.heap.size, 2, none⟩ (.slice xa fs.length xc)).cell? ⟨wr.heap.size, 3, none⟩ = some (.int .i64 p.1.2) := BX5.cell 3
        have k0 : (((w4.setCell ⟨wr.heap.size, 0, none⟩ (.int .i64 3)).setCell ⟨wr.heap.size, 1, none⟩ (.string (B G))).setCell ⟨wr.heap.size, 2, none⟩ (.slice xa fs.length xc)).cell? ⟨w2.heap.size, 0, none⟩ = some (.slice ua cq.length uc) := acc5.head.cell 0
        have hrow := acc5.row
        have hz25 := acc5.below.size
        have A5 := Lib.hid (acc5.alloc (.cells #[.int .i64 3, .string (B G), .slice xa fs.length xc, .int .i64 p.1.2] 104))
        have hv := cells_new_add (((w4.setCell ⟨wr.heap.size, 0, none⟩ (.int .i64 3)).setCell ⟨wr.heap.size, 1, none⟩ (.string (B G))).setCell ⟨wr.heap.size, 2, none⟩ (.slice xa fs.length xc)) 104 [.int .i64 3, .string (B G), .slice xa fs.length xc, .int .i64 p.1.2]
        rw [show (((w4.setCell ⟨wr.heap.size, 0, none⟩ (.int .i64 3)).setCell ⟨wr.heap.size, 1, none⟩ (.string (B G))).setCell ⟨wr.heap.size, 2, none⟩ (.slice xa fs.length xc)).heap.size = w4.heap.size by simp [World.setCell]] at hv hz25
        have HV := Lib.hid hv
        clear hv acc5 BX5 BX4 b4
        go_wp2_with (at_builtin; refine wpList_append_own _ rfl _ _ 26 rfl w2.heap.size 104 i0 _ 4 56 Tryz.underlying26 hi hz0 hz1 hz2 rfl (by decide) _ _ _ rfl (hrow.alloc _) ⟨w4.heap.size, 0, none⟩ 1 1 _ rfl rfl HV.out (by intro u hu; simp at hu; rcases hu with rfl | rfl | rfl | rfl <;> rfl) (by unfold maxLen; omega) (by omega) (by first | omega | (simp only [World.size_alloc]; omega) | (simp [World.setCell]; omega)) ?_)
        intro v' w6 hown' hgrow _
        have h6 := (A5.out.grown_head hgrow)
        have acc6 := Lib.hid (A5.out.grow (p := q) (by rw [HQ.out, HG.out] at *; exact hown') hgrow)
        have k6 : w6.cell? ⟨w2.heap.size, 0, none⟩ = some (.slice ua cq.length uc) := h6.cell 0
        have kf6 := h6.frozen 0
        obtain ⟨g', cap6, rfl⟩ := ownsRow_succ hown'
        clear hown' hgrow h6
        go_wp2_with fail
        go_roundw
        case rel => exact ⟨j + 1, _, hlt, by go_num, by rw [SJ.out]; exact acc6.out⟩
        case measure => simp [intOf]; omega
      have hq : ((j : Int) == (k : Int)) = false := beq_eq_false_iff_ne.2 (by omega)
      have SJ : Hid (L.take (j + 1) = L.take j ++ [p]) := SON.out j p hp hjk
      have ACC := Lib.hid ((hacc.alloc (.cells #[.int .i64 p.1.1.kind, .string (B p.1.1.raw), .slice pa p.1.1.fields.length pc, .int .i64 p.1.2] 104)).alloc (.cells #[.int .i64 p.1.1.kind, .string (B p.1.1.raw), .slice pa p.1.1.fields.length pc, .int .i64 p.1.2] 104))
      have k0 : wr.cell? ⟨w2.heap.size, 0, none⟩ = some (.slice ua (L.take j).length uc) := hacc.head.cell 0
      have hrow := hacc.row
      have obl := hacc.head.lt
      have hv := cells_new_add (wr.alloc (.cells #[.int .i64 p.1.1.kind, .string (B p.1.1.raw), .slice pa p.1.1.fields.length pc, .int .i64 p.1.2] 104)) 104 [.int .i64 p.1.1.kind, .string (B p.1.1.raw), .slice pa p.1.1.fields.length pc, .int .i64 p.1.2]
      rw [World.size_alloc] at hv
      have HV := Lib.hid hv
      generalize hcq : L.take j = cq at *
      have ne_ob : w2.heap.size ≠ wr.heap.size := by omega
      clear hacc hp hb hcq hv hjk
      go_wp2_with (at_builtin; refine wpList_append_own _ rfl _ _ 26 rfl w2.heap.size 104 i0 _ 4 56 Tryz.underlying26 hi hz0 hz1 hz2 rfl (by decide) _ _ _ rfl ((hrow.alloc _).alloc _) ⟨wr.heap.size + 1, 0, none⟩ 1 1 _ rfl rfl HV.out (by intro u hu; simp at hu; rcases hu with rfl | rfl | rfl | rfl <;> rfl) (by unfold maxLen; omega) (by omega) (by first | omega | (simp only [World.size_alloc]; omega) | (simp [World.setCell]; omega)) ?_)
      intro v' w6 hown' hgrow _
      have h6 := (ACC.out.grown_head hgrow)
      have acc6 := Lib.hid (ACC.out.grow (p := p) (by unfold entCell; rw [e2]; exact hown') hgrow)
      have k6 : w6.cell? ⟨w2.heap.size, 0, none⟩ = some (.slice ua cq.length uc) := h6.cell 0
      have kf6 := h6.frozen 0
      obtain ⟨g', cap6, rfl⟩ := ownsRow_succ hown'
      clear hown' hgrow h6
      go_wp2_with fail
      go_roundw
      case rel => exact ⟨j + 1, _, hlt, by go_num, by rw [SJ.out]; exact acc6.out⟩
      case measure => simp [intOf]; omega
    obtain rfl : j = ps.length := by omega
    rw [show L.take ps.length = L by rw [<- HLL.out, List.take_length]] at *
    have D1 := cells_kept HD1.out hb (by omega)
    have G1 : wr.cell? ⟨w2.heap.size, 1, none⟩ = some (.int .i64 nx) := hacc.head.cell 1
    have G0 : wr.cell? ⟨w2.heap.size, 0, none⟩ = some (.slice ua L.length uc) := hacc.head.cell 0
    have r0 := D1.cell 0
    have r1 := D1.cell 1
    have f0 := D1.frozen 0
    have f1 := D1.frozen 1
    simp only [List.getElem?_toArray, List.getElem?_cons_zero, List.getElem?_cons_succ] at r0 r1
    have RE := (D1.set 0 (.slice ua L.length uc)).set 1 (.int .i64 nx)
    rw [set2] at RE
    have HRE := Lib.hid RE
    have ACC := Lib.hid hacc
    clear hacc hb D1 RE
    go_wp2_with fail
    refine bodyPost_ret (ret_q3 rfl _ _ (w.heap.size + 1) _ rfl HRE.out rfl) rfl ?_
    refine ⟨_, L, rfl, ?_⟩
    exact ACC.out.end_ HB2.out H0.out HX.out (by rw [HL.out, HQ.out]; exact HSET.out) HMEM.out (Nat.le_succ _) (by omega) 0 1 _ _
  rw [replaceW_no hb]
  dsimp only
  have hbb : (((chkN fs : Nat) : Int) != 0) = true := bne_iff_ne.2 (by omega)
  obtain ⟨N, hN⟩ : ∃ N, N = chkN fs := ⟨_, rfl⟩
  obtain ⟨T, hT⟩ : ∃ T, T = chkAt fs := ⟨_, rfl⟩
  have CK : Hid (∀ w1, Flds w1 (.slice xa fs.length xc) fs -> Calls Tryz.prog 74 #[.slice xa fs.length xc] w1 fun e w' => e = .returned (.tuple #[.int .i64 T, .int .i64 (N : Nat)]) /\ Below w1.heap.size w1 w') := fun w1 h1 => by
    rw [hN, hT]; exact refChk_any fs _ w1 h1 (by have := hfs.len; omega) (fun f hf => by have := hfs.each f hf; omega)
  rw [<- hN] at hbb hat ⊢
  rw [<- hT]
  clear hb hp0 hN hT
  go_enter Tryz.func49, Tryz.ntmps49
  go_wp2_with fail
  refine FN.out.mono ?_
  rintro e w1 ⟨rfl, b1⟩
  obtain ⟨D0, D1, hb1, hzz⟩ := HT.out w1 b1
  have CK1 := Lib.hid (CK.out w1 (HX.out.below hb1 (Nat.le_refl _)))
  have B1 := Lib.hid b1
  clear FN b1 hb1 D0 D1
  go_wp2_with fail
  refine CK1.out.mono ?_
  rintro e w2 ⟨rfl, b2⟩
  have b2' := B1.out.trans (b2.mono B1.out.size)
  obtain ⟨D0, D1, hb1, hzz2⟩ := HT.out w2 b2'
  obtain ⟨RE, HB⟩ := RET.out w2 b2'
  have c0 := D0.cell 0
  have c1 := D0.cell 1
  have r0 := D1.cell 0
  have r1 := D1.cell 1
  have f0 := D1.frozen 0
  have f1 := D1.frozen 1
  simp only [List.getElem?_toArray, List.getElem?_cons_zero, List.getElem?_cons_succ] at c0 c1 r0 r1
  have HRE := Lib.hid RE
  have HHB := Lib.hid HB
  clear CK1 b2 b2' hb1 D0 D1 RE HB
  go_wp2_with fail
  refine bodyPost_ret (ret_q3 rfl _ _ (w.heap.size + 1) _ rfl HRE.out rfl) rfl ?_
  exact ⟨_, ps, rfl, .same H0.out rfl HHB.out⟩
end Go.Proofs.YtfjklpgmnakcaaaGreatDoor
