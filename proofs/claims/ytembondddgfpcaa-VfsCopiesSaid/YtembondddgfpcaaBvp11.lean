/- Texts put together: YL, YM, YN, YP, YQ, ZG, ZI, YR. -/
import Derived.Deep.DeepCutAuto
import Derived.Deep.Cut
import Derived.Laws.AppendOwnNone
import Derived.Laws.OwnMore
import Derived.Test.YtembondddgfpcaaBvp7
import Derived.Test.YtembondddgfpcaaBvp8
import Derived.Test.YtembondddgfpcaaBvp9
import Derived.Test.YtembondddgfpcaaBvp10
set_option linter.unusedVariables false
namespace Go.Proofs.Ytembondddgfpcaa
open Go.RowKit Go.Maps
attribute [local go_sem] World.cell?_alloc_some

theorem acts_one (l : List ActA) : ∀ u ∈ actsCells l, u.oneCell' = true := by
  intro u hu
  unfold actsCells ActA.cells at hu
  simp at hu
  obtain ⟨a, _, h | h | h | h | h⟩ := hu <;> subst h <;> rfl
theorem moves_one (l : List ChangeA) : ∀ u ∈ movesCells l, u.oneCell' = true := by
  intro u hu
  unfold movesCells moveCells at hu
  simp at hu
  obtain ⟨a, _, h | h | h⟩ := hu <;> subst h <;> rfl
theorem waits_one (l : List WaitM) : ∀ u ∈ waitsCells l, u.oneCell' = true := by
  intro u hu
  unfold waitsCells waitCells at hu
  simp at hu
  obtain ⟨a, _, h | h | h⟩ := hu <;> subst h <;> rfl
theorem movesCells_snoc (l : List ChangeA) (c : ChangeA) : movesCells (l ++ [c]) = movesCells l ++ moveCells c := by unfold movesCells; simp
theorem waitsCells_snoc (l : List WaitM) (c : WaitM) : waitsCells (l ++ [c]) = waitsCells l ++ waitCells c := by unfold waitsCells; simp
theorem box_ne {w : World} {lo n size : Nat} {e t : TypeId} {v : Value} {xs : List Value} {b : Nat} {cur : Array Value} (h : w.ownsRow lo e size v n xs) (hc : Cells w b t cur) (ht : e ≠ t) : v.ownBlock ≠ some b := by
  rcases h.2 with ⟨q, _⟩ | ⟨g, cap, c, q, _, hg, _⟩
  · rw [q]; intro e; cases e
  · rw [q]
    intro e
    injection e with e
    subst e
    have h2 : w.heap[g]? = some (.cells cur t (0, 0)) := hc
    rw [hg] at h2
    injection h2 with h2
    injection h2 with _ h2 _
    exact ht h2
abbrev Tri := Option Addr × Nat × Nat
def slT (g n c : Nat) : Tri := (some ⟨g, 0, none⟩, n, c)
theorem setBox_own {w : World} {lo n size : Nat} {e t : TypeId} {v : Value} {xs : List Value} {b : Nat} {cur : Array Value} (h : w.ownsRow lo e size v n xs) (hc : Cells w b t cur) (ht : e ≠ t) (v0 v1 v2 v3 v4 v5 v6 v7 v8 : Value) : (setBox w b v0 v1 v2 v3 v4 v5 v6 v7 v8).ownsRow lo e size v n xs := by
  have hne := box_ne h hc ht
  exact row_cell (row_cell (row_cell (row_cell (row_cell (row_cell (row_cell (row_cell (row_cell h hne v0) hne v1) hne v2) hne v3) hne v4) hne v5) hne v6) hne v7) hne v8
set_option maxRecDepth 100000 in
set_option maxHeartbeats 4000000 in
theorem refdid_any (r u l : Int) (q g : Bool) (f s m a : Tri) (xs : List ActA) (x : ActA) (w : World) (ha : w.ownsRow 0 90 5 (sliceV a) xs.length (actsCells xs)) (hn : xs.length ≤ 100000) :
    Calls Try.prog 59 #[slices f s m a r u l q g, .agg #[.int .i64 x.kind, .string x.name, .string x.other, .string x.bytes, .int .i64 x.at_]] w
      fun e w' => (∃ b c, e = .returned (slices f s m (slT b (xs.length + 1) c) r u l q g) ∧ w'.ownsRow w.heap.size 90 5 (sliceV (slT b (xs.length + 1) c)) (xs.length + 1) (actsCells (xs ++ [x]))) ∧ Below w.heap.size w w' := by
  have HW := fun (W : World) (hb : Below w.heap.size w W) => row_below ha hb (Nat.le_refl _)
  clear ha
  obtain ⟨f1, f2, f3⟩ := f
  obtain ⟨s1, s2, s3⟩ := s
  obtain ⟨m1, m2, m3⟩ := m
  obtain ⟨a1, a2, a3⟩ := a
  unfold sliceV at *
  unfold slices refA slT
  dsimp only at HW ⊢
  have HW := Lib.hid HW
  have HS := Lib.hid (actsCells_snoc xs x)
  go_enter Try.func59, Try.ntmps59
  go_upto_region 1 with fail
  obtain ⟨W3, hW⟩ : ∃ W3, (((w.alloc (.cells #[.int .i64 r, .slice f1 f2 f3, .slice s1 s2 s3, .slice m1 m2 m3, .int .i64 u, .int .i64 l, .bool q, .bool g, .slice a1 a2 a3] 37)).alloc (.cells #[.int .i64 x.kind, .string x.name, .string x.other, .string x.bytes, .int .i64 x.at_] 90)).alloc (.cells rows9 37)) = W3 := ⟨_, rfl⟩
  have hW' := hW
  unfold rows9 at hW'
  rw [hW']
  have hsz : W3.heap.size = w.heap.size + 3 := by rw [← hW]; simp
  have hbl : Below w.heap.size w W3 := by rw [← hW]; exact ((((Below.refl _ _).alloc (Nat.le_refl _) _).alloc (by simp) _).alloc (by simp <;> omega) _)
  have B3 := boxes3 (w := w) (W' := W3) (by rw [hW, ← hsz]; exact Below.refl _ _)
  have B30 := B3.1
  have B31 := B3.2.1
  have B32 := Lib.hid B3.2.2
  have HBL := Lib.hid hbl
  have HROW := HW.out W3 hbl
  clear hW hW' B3 HW
  refine DidRows.region29x _ _ w.heap.size (w.heap.size + 1) xs.length _ (actsCells xs) _ _ _ _ _ _ _ ?h9 ?h13 ?hsz B30 rfl B31 HROW (acts_one xs) hn ?_
  case h9 => kernel_rfl
  case h13 => kernel_rfl
  case hsz => exact Nat.le_of_ble_eq_true (by kernel_rfl)
  intro y0 y1 y2 y3 y4 y5 y6 y7 w2 b c bb own
  dsimp only
  simp only [List.setIfInBounds_toArray, List.set_cons_zero, List.set_cons_succ]
  have D0 := (B30.below bb B30.lt).set 8 (DidRows.sl b (xs.length + 1) c)
  have D1 := Lib.hid ((B32.out.below bb B32.out.lt).other (p := ⟨w.heap.size, 8, none⟩) (by dsimp only; omega) (DidRows.sl b (xs.length + 1) c))
  have HBW := Lib.hid ((HBL.out.trans (bb.mono (HBL.out.size))).setCell (p := ⟨w.heap.size, 8, none⟩) (Nat.le_refl _) (DidRows.sl b (xs.length + 1) c))
  have hne : (DidRows.sl b (xs.length + 1) c).ownBlock ≠ some w.heap.size := by
    intro e
    have e : b = w.heap.size := Option.some.inj e
    have := (own.lt b rfl).1
    omega
  have OWN := Lib.hid (DidRows.rowBase (row_cell own (p := ⟨w.heap.size, 8, none⟩) hne (DidRows.sl b (xs.length + 1) c)) HBL.out.size)
  clear own hne bb HROW B30 B31 B32 hbl hsz HBL
  unfold DidRows.sl at *
  simp only [List.setIfInBounds_toArray, List.set_cons_zero, List.set_cons_succ] at D0
  generalize w2.setCell _ _ = W4 at *
  obtain ⟨d0, d1, d2, d3, d4, d5, d6, d7, d8⟩ := cells9 D0
  obtain ⟨x0, x1, x2, x3, x4, x5, x6, x7, x8, xl, g0, g1, g2, g3, g4, g5, g6, g7, g8⟩ := Box9.of D1.out
  go_wp2
  refine bodyPost_ret (ret_box1 rfl _ _ (w.heap.size + 1 + 1) _ rfl (setBox_to D1.out _ _ _ _ _ _ _ _ _) rfl) rfl ?_
  refine ⟨⟨b, c, rfl, ?_⟩, setBox_below HBW.out (by omega) _ _ _ _ _ _ _ _ _⟩
  rw [HS.out]
  exact setBox_own OWN.out D1.out (by decide) _ _ _ _ _ _ _ _ _
set_option maxRecDepth 100000 in
set_option maxHeartbeats 4000000 in
theorem refmoved_any (r u l : Int) (q g : Bool) (f s m a : Tri) (xs : List ChangeA) (x : ChangeA) (w : World) (ha : w.ownsRow 0 124 3 (sliceV m) xs.length (movesCells xs)) (hn : xs.length ≤ 100000) :
    Calls Try.prog 58 #[slices f s m a r u l q g, .agg #[.string x.on, .string x.off, .int .i64 x.file]] w
      fun e w' => (∃ b c, e = .returned (slices f s (slT b (xs.length + 1) c) a r u l q g) ∧ w'.ownsRow w.heap.size 124 3 (sliceV (slT b (xs.length + 1) c)) (xs.length + 1) (movesCells (xs ++ [x]))) ∧ Below w.heap.size w w' := by
  have HW := fun (W : World) (hb : Below w.heap.size w W) => row_below ha hb (Nat.le_refl _)
  clear ha
  obtain ⟨f1, f2, f3⟩ := f
  obtain ⟨s1, s2, s3⟩ := s
  obtain ⟨m1, m2, m3⟩ := m
  obtain ⟨a1, a2, a3⟩ := a
  unfold sliceV at *
  unfold slices refA slT
  dsimp only at HW ⊢
  have HW := Lib.hid HW
  have HS := Lib.hid (movesCells_snoc xs x)
  go_enter Try.func58, Try.ntmps58
  go_upto_region 1 with fail
  obtain ⟨W3, hW⟩ : ∃ W3, (((w.alloc (.cells #[.int .i64 r, .slice f1 f2 f3, .slice s1 s2 s3, .slice m1 m2 m3, .int .i64 u, .int .i64 l, .bool q, .bool g, .slice a1 a2 a3] 37)).alloc (.cells #[.string x.on, .string x.off, .int .i64 x.file] 124)).alloc (.cells rows9 37)) = W3 := ⟨_, rfl⟩
  have hW' := hW
  unfold rows9 at hW'
  rw [hW']
  have hsz : W3.heap.size = w.heap.size + 3 := by rw [← hW]; simp
  have hbl : Below w.heap.size w W3 := by rw [← hW]; exact ((((Below.refl _ _).alloc (Nat.le_refl _) _).alloc (by simp) _).alloc (by simp <;> omega) _)
  have B3 := boxes3 (w := w) (W' := W3) (by rw [hW, ← hsz]; exact Below.refl _ _)
  have B30 := B3.1
  have B31 := B3.2.1
  have B32 := Lib.hid B3.2.2
  have HBL := Lib.hid hbl
  have HROW := HW.out W3 hbl
  clear hW hW' B3 HW
  refine MovedRows.region29x _ _ w.heap.size (w.heap.size + 1) xs.length _ (movesCells xs) _ _ _ _ _ ?h9 ?h13 ?hsz B30 rfl B31 HROW (moves_one xs) hn ?_
  case h9 => kernel_rfl
  case h13 => kernel_rfl
  case hsz => exact Nat.le_of_ble_eq_true (by kernel_rfl)
  intro y0 y1 y2 y3 y4 y5 y6 y7 w2 b c bb own
  dsimp only
  simp only [List.setIfInBounds_toArray, List.set_cons_zero, List.set_cons_succ]
  have D0 := (B30.below bb B30.lt).set 3 (MovedRows.sl b (xs.length + 1) c)
  have D1 := Lib.hid ((B32.out.below bb B32.out.lt).other (p := ⟨w.heap.size, 3, none⟩) (by dsimp only; omega) (MovedRows.sl b (xs.length + 1) c))
  have HBW := Lib.hid ((HBL.out.trans (bb.mono (HBL.out.size))).setCell (p := ⟨w.heap.size, 3, none⟩) (Nat.le_refl _) (MovedRows.sl b (xs.length + 1) c))
  have hne : (MovedRows.sl b (xs.length + 1) c).ownBlock ≠ some w.heap.size := by
    intro e
    have e : b = w.heap.size := Option.some.inj e
    have := (own.lt b rfl).1
    omega
  have OWN := Lib.hid (MovedRows.rowBase (row_cell own (p := ⟨w.heap.size, 3, none⟩) hne (MovedRows.sl b (xs.length + 1) c)) HBL.out.size)
  clear own hne bb HROW B30 B31 B32 hbl hsz HBL
  unfold MovedRows.sl at *
  simp only [List.setIfInBounds_toArray, List.set_cons_zero, List.set_cons_succ] at D0
  generalize w2.setCell _ _ = W4 at *
  obtain ⟨d0, d1, d2, d3, d4, d5, d6, d7, d8⟩ := cells9 D0
  obtain ⟨x0, x1, x2, x3, x4, x5, x6, x7, x8, xl, g0, g1, g2, g3, g4, g5, g6, g7, g8⟩ := Box9.of D1.out
  go_wp2
  refine bodyPost_ret (ret_box1 rfl _ _ (w.heap.size + 1 + 1) _ rfl (setBox_to D1.out _ _ _ _ _ _ _ _ _) rfl) rfl ?_
  refine ⟨⟨b, c, rfl, ?_⟩, setBox_below HBW.out (by omega) _ _ _ _ _ _ _ _ _⟩
  rw [HS.out]
  exact setBox_own OWN.out D1.out (by decide) _ _ _ _ _ _ _ _ _
theorem boxes3' {w W' : World} {t0 t1 t2 : TypeId} {x0 x1 x2 : Array Value} {W : World} (h : ((w.alloc (.cells x0 t0)).alloc (.cells x1 t1)).alloc (.cells x2 t2) = W) (hb : Below W.heap.size W W') :
    Cells W' w.heap.size t0 x0 ∧ Cells W' (w.heap.size + 1) t1 x1 ∧ Cells W' (w.heap.size + 1 + 1) t2 x2 := by
  refine boxes3 ?_
  rw [h]
  have : W.heap.size = w.heap.size + 3 := by rw [← h]; simp
  rw [← this]; exact hb
set_option maxRecDepth 100000 in
theorem ret_file {fn : Func} {p : Tmp} (h : fn.results = #[.cell p 87]) (tmps : Array Value) (w : World) (b : Nat) (cur : Array Value) (hp : tmps.getD p undef = .pointer (some ⟨b, 0, none⟩))
    (hc : Cells w b 87 cur) (hz : cur.size = 2) : (results fn tmps).run Try.prog w = .ok (.agg cur) w := by
  have L := run_loadVar_row (P := Try.prog) w b 87 87 cur (0, 0) _ hc Try.underlying87 rfl (by rw [hz]; kernel_rfl)
  rw [results_cell1 h, hp]
  show (loadVar _ _).run _ _ = _
  exact L
set_option maxRecDepth 100000 in
set_option maxHeartbeats 4000000 in
theorem refwait_any (z : ByteArray) (v : Tri) (xs : List WaitM) (x : WaitM) (w : World) (ha : w.ownsRow 0 127 3 (sliceV v) xs.length (waitsCells xs)) (hn : xs.length ≤ 100000) :
    Calls Try.prog 62 #[.agg #[.string z, sliceV v], .agg #[.int .u8 x.b.toNat, .int .i64 x.at_, .bool x.cut]] w
      fun e w' => (∃ b c, e = .returned (.agg #[.string z, sliceV (slT b (xs.length + 1) c)]) ∧ w'.ownsRow w.heap.size 127 3 (sliceV (slT b (xs.length + 1) c)) (xs.length + 1) (waitsCells (xs ++ [x]))) ∧ Below w.heap.size w w' := by
  have HW := fun (W : World) (hb : Below w.heap.size w W) => row_below ha hb (Nat.le_refl _)
  clear ha
  obtain ⟨v1, v2, v3⟩ := v
  unfold sliceV at *
  unfold slT
  dsimp only at HW ⊢
  have HW := Lib.hid HW
  have HS := Lib.hid (waitsCells_snoc xs x)
  go_enter Try.func62, Try.ntmps62
  go_upto_region 1 with fail
  obtain ⟨W3, hW⟩ : ∃ W3, (((w.alloc (.cells #[.string z, .slice v1 v2 v3] 87)).alloc (.cells #[.int .u8 x.b.toNat, .int .i64 x.at_, .bool x.cut] 127)).alloc (.cells #[.string ⟨#[]⟩, .slice none 0 0] 87)) = W3 := ⟨_, rfl⟩
  rw [hW]
  have hsz : W3.heap.size = w.heap.size + 3 := by rw [← hW]; simp
  have hbl : Below w.heap.size w W3 := by rw [← hW]; exact ((((Below.refl _ _).alloc (Nat.le_refl _) _).alloc (by simp) _).alloc (by simp <;> omega) _)
  have B3 := boxes3' hW (Below.refl _ _)
  have B30 := B3.1
  have B31 := B3.2.1
  have B32 := Lib.hid B3.2.2
  have HBL := Lib.hid hbl
  have HROW := HW.out W3 hbl
  clear hW B3 HW
  refine WaitRows.region29x _ _ w.heap.size (w.heap.size + 1) xs.length _ (waitsCells xs) _ _ _ _ _ ?h9 ?h13 ?hsz B30 rfl B31 HROW (waits_one xs) hn ?_
  case h9 => kernel_rfl
  case h13 => kernel_rfl
  case hsz => exact Nat.le_of_ble_eq_true (by kernel_rfl)
  intro y0 y1 y2 y3 y4 y5 y6 y7 w2 b c bb own
  dsimp only
  simp only [List.setIfInBounds_toArray, List.set_cons_zero, List.set_cons_succ]
  have D0 := (B30.below bb B30.lt).set 1 (WaitRows.sl b (xs.length + 1) c)
  have D1 := Lib.hid ((B32.out.below bb B32.out.lt).other (p := ⟨w.heap.size, 1, none⟩) (by dsimp only; omega) (WaitRows.sl b (xs.length + 1) c))
  have HBW := Lib.hid ((HBL.out.trans (bb.mono (HBL.out.size))).setCell (p := ⟨w.heap.size, 1, none⟩) (Nat.le_refl _) (WaitRows.sl b (xs.length + 1) c))
  have hne : (WaitRows.sl b (xs.length + 1) c).ownBlock ≠ some w.heap.size := by
    intro e
    have e : b = w.heap.size := Option.some.inj e
    have := (own.lt b rfl).1
    omega
  have OWN := Lib.hid (WaitRows.rowBase (row_cell own (p := ⟨w.heap.size, 1, none⟩) hne (WaitRows.sl b (xs.length + 1) c)) HBL.out.size)
  clear own hne bb HROW B30 B31 B32 hbl hsz HBL
  unfold WaitRows.sl at *
  simp only [List.setIfInBounds_toArray, List.set_cons_zero, List.set_cons_succ] at D0
  generalize w2.setCell _ _ = W4 at *
  have d0 := D0.cell 0
  have d1 := D0.cell 1
  have x0 := D1.out.cell 0
  have x1 := D1.out.cell 1
  have xl := D1.out.lt
  have g0 := D1.out.frozen 0
  have g1 := D1.out.frozen 1
  dsimp at d0 d1 x0 x1
  go_wp2
  refine bodyPost_ret (ret_file rfl _ _ (w.heap.size + 1 + 1) _ rfl ((D1.out.set 0 (.string z)).set 1 (.slice (some ⟨b, 0, none⟩) (xs.length + 1) c)) rfl) rfl ?_
  have hn2 := box_ne OWN.out D1.out (by decide)
  refine ⟨⟨b, c, rfl, ?_⟩, (HBW.out.setCell (p := ⟨w.heap.size + 1 + 1, 0, none⟩) (by dsimp only; omega) _).setCell (p := ⟨w.heap.size + 1 + 1, 1, none⟩) (by dsimp only; omega) _⟩
  rw [HS.out]
  exact row_cell (row_cell OWN.out hn2 _) hn2 _
end Go.Proofs.Ytembondddgfpcaa

namespace Go.Proofs.Ytembondddgfpcaa
open Go.RowKit Go.Maps

theorem RefAt.cell {w : World} {M : RefM} {f s m a : Tri} (h : RefAt w M f s m a) {b : Nat} {cur : Array Value} (hc : Cells w b 37 cur) (i : Nat) (u : Value) : RefAt (w.setCell ⟨b, i, none⟩ u) M f s m a := by
  obtain ⟨l, e, h1, h2⟩ := h.files
  exact ⟨⟨l, e, row_cell h1 (box_ne h1 hc (by decide)) u, fun p hp => row_cell (h2 p hp) (box_ne (h2 p hp) hc (by decide)) u⟩, row_cell h.sure (box_ne h.sure hc (by decide)) u, row_cell h.moves (box_ne h.moves hc (by decide)) u, row_cell h.acts (box_ne h.acts hc (by decide)) u⟩
theorem RefAt.box {w : World} {M : RefM} {f s m a : Tri} (h : RefAt w M f s m a) {b : Nat} {cur : Array Value} (hc : Cells w b 37 cur) (v0 v1 v2 v3 v4 v5 v6 v7 v8 : Value) : RefAt (setBox w b v0 v1 v2 v3 v4 v5 v6 v7 v8) M f s m a := by
  unfold setBox
  exact ((((((((h.cell hc 0 v0).cell (hc.set 0 v0) 1 v1).cell ((hc.set 0 v0).set 1 v1) 2 v2).cell (((hc.set 0 v0).set 1 v1).set 2 v2) 3 v3).cell ((((hc.set 0 v0).set 1 v1).set 2 v2).set 3 v3) 4 v4).cell (((((hc.set 0 v0).set 1 v1).set 2 v2).set 3 v3).set 4 v4) 5 v5).cell ((((((hc.set 0 v0).set 1 v1).set 2 v2).set 3 v3).set 4 v4).set 5 v5) 6 v6).cell (((((((hc.set 0 v0).set 1 v1).set 2 v2).set 3 v3).set 4 v4).set 5 v5).set 6 v6) 7 v7).cell ((((((((hc.set 0 v0).set 1 v1).set 2 v2).set 3 v3).set 4 v4).set 5 v5).set 6 v6).set 7 v7) 8 v8
def curM (M : RefM) (f s m a : Tri) : Array Value := #[.int .i64 M.room, .slice f.1 f.2.1 f.2.2, .slice s.1 s.2.1 s.2.2, .slice m.1 m.2.1 m.2.2, .int .i64 M.units, .int .i64 M.left, .bool M.armed, .bool M.gone, .slice a.1 a.2.1 a.2.2]
/-- The reference's disk within an operation: its box, the result's. -/
structure OpW (w W : World) (M : RefM) (f s m a : Tri) : Prop where
  c0 : Cells W w.heap.size 37 (curM M f s m a)
  c1 : Cells W (w.heap.size + 1) 37 rows9
  at_ : RefAt W M f s m a
  bel : Below w.heap.size w W
theorem OpW.start {w : World} {M : RefM} {f s m a : Tri} (h : RefAt w M f s m a) : OpW w ((w.alloc (.cells (curM M f s m a) 37)).alloc (.cells rows9 37)) M f s m a := by
  have b1 : Below w.heap.size w ((w.alloc (.cells (curM M f s m a) 37)).alloc (.cells rows9 37)) := ((Below.refl _ w).alloc (Nat.le_refl _) _).alloc (by simp) _
  refine ⟨(Cells.new w _ _).alloc _, ?_, h.below b1 (Nat.le_refl _), b1⟩
  have := Cells.new (w.alloc (.cells (curM M f s m a) 37)) 37 rows9
  rwa [World.size_alloc] at this
theorem OpW.below {w W W' : World} {M : RefM} {f s m a : Tri} (h : OpW w W M f s m a) (hb : Below W.heap.size W W') : OpW w W' M f s m a :=
  ⟨h.c0.below hb h.c0.lt, h.c1.below hb h.c1.lt, h.at_.below hb (Nat.le_refl _), h.bel.trans (hb.mono h.bel.size)⟩
/-- Another disk comes into its box. -/
theorem OpW.set {w W : World} {M M' : RefM} {f s m a f' s' m' a' : Tri} (h : OpW w W M f s m a) (g : RefAt W M' f' s' m' a') :
    OpW w (setBox W w.heap.size (.int .i64 M'.room) (.slice f'.1 f'.2.1 f'.2.2) (.slice s'.1 s'.2.1 s'.2.2) (.slice m'.1 m'.2.1 m'.2.2) (.int .i64 M'.units) (.int .i64 M'.left) (.bool M'.armed) (.bool M'.gone) (.slice a'.1 a'.2.1 a'.2.2)) M' f' s' m' a' :=
  ⟨setBox_to h.c0 _ _ _ _ _ _ _ _ _, setBox_other h.c1 (by omega) _ _ _ _ _ _ _ _ _, g.box h.c0 _ _ _ _ _ _ _ _ _, setBox_below h.bel (Nat.le_refl _) _ _ _ _ _ _ _ _ _⟩
/-- What an operation comes to. -/
def ResR (w : World) (M : RefM) (bad : Nat) (e : Ending) (w' : World) : Prop :=
  ∃ f s m a : Tri, e = .returned (.tuple #[slices f s m a M.room M.units M.left M.armed M.gone, .int .i64 bad]) ∧ RefAt w' M f s m a ∧ Below w.heap.size w w'
theorem OpW.res {w W : World} {M : RefM} {f s m a : Tri} (h : OpW w W M f s m a) (bad : Nat) :
    ResR w M bad (.returned (.tuple #[.agg #[.int .i64 M.room, .slice f.1 f.2.1 f.2.2, .slice s.1 s.2.1 s.2.2, .slice m.1 m.2.1 m.2.2, .int .i64 M.units, .int .i64 M.left, .bool M.armed, .bool M.gone, .slice a.1 a.2.1 a.2.2], .int .i64 bad]))
      (setBox W (w.heap.size + 1) (.int .i64 M.room) (.slice f.1 f.2.1 f.2.2) (.slice s.1 s.2.1 s.2.2) (.slice m.1 m.2.1 m.2.2) (.int .i64 M.units) (.int .i64 M.left) (.bool M.armed) (.bool M.gone) (.slice a.1 a.2.1 a.2.2)) :=
  ⟨f, s, m, a, rfl, h.at_.box h.c1 _ _ _ _ _ _ _ _ _, setBox_below h.bel (by omega) _ _ _ _ _ _ _ _ _⟩
theorem OpW.cells {w W : World} {M : RefM} {f s m a : Tri} (h : OpW w W M f s m a) : Cells W w.heap.size 37 #[.int .i64 M.room, .slice f.1 f.2.1 f.2.2, .slice s.1 s.2.1 s.2.2, .slice m.1 m.2.1 m.2.2, .int .i64 M.units, .int .i64 M.left, .bool M.armed, .bool M.gone, .slice a.1 a.2.1 a.2.2] := h.c0
end Go.Proofs.Ytembondddgfpcaa

namespace Go.Proofs.Ytembondddgfpcaa
open Go.RowKit Go.Maps
attribute [local go_sem] World.cell?_alloc_some

/-- A disk of the reference is small enough to go on. -/
structure Fit' (M : RefM) : Prop where
  fit : Fit M
  waits : M.waits.length ≤ 100000
  acts : M.acts.length ≤ 100000
  files : M.files.length ≤ 100000
theorem RefAt.done {w : World} {M : RefM} {f s m a : Tri} (h : RefAt w M f s m a) : RefAt w (doneM M) f s m a := ⟨h.files, h.sure, h.moves, h.acts⟩
theorem RefAt.gone {w : World} {M : RefM} {f s m a : Tri} (h : RefAt w M f s m a) : RefAt w (goneM M) f s m a := ⟨h.files, h.sure, h.moves, h.acts⟩
theorem refunit_yes {M : RefM} (hc : canM M = true) (f s m a : Tri) (hu : 0 ≤ M.units ∧ M.units ≤ 1000000000) (hl : 0 ≤ M.left ∧ M.left ≤ 9223372036854775807) (w : World) :
    Calls Try.prog 57 #[slices f s m a M.room M.units M.left M.armed M.gone] w fun e w' =>
      e = .returned (.tuple #[slices f s m a (doneM M).room (doneM M).units (doneM M).left (doneM M).armed (doneM M).gone, .bool true]) ∧ Below w.heap.size w w' := by
  have h := refunit_any M f s m a hu hl w
  rw [hc] at h
  exact h
theorem refunit_no {M : RefM} (hc : canM M = false) (f s m a : Tri) (hu : 0 ≤ M.units ∧ M.units ≤ 1000000000) (hl : 0 ≤ M.left ∧ M.left ≤ 9223372036854775807) (w : World) :
    Calls Try.prog 57 #[slices f s m a M.room M.units M.left M.armed M.gone] w fun e w' =>
      e = .returned (.tuple #[slices f s m a (goneM M).room (goneM M).units (goneM M).left (goneM M).armed (goneM M).gone, .bool false]) ∧ Below w.heap.size w w' := by
  have h := refunit_any M f s m a hu hl w
  rw [hc] at h
  exact h
theorem RefAt.moved {w : World} {M : RefM} {f s m a m' : Tri} {lo : Nat} (h : RefAt w M f s m a) {l : List ChangeA} (g : w.ownsRow lo 124 3 (sliceV m') l.length (movesCells l)) : RefAt w { M with waits := l } f s m' a := ⟨h.files, h.sure, DidRows.rowBase g (Nat.zero_le _), h.acts⟩
theorem RefAt.did {w : World} {M : RefM} {f s m a a' : Tri} {lo : Nat} (h : RefAt w M f s m a) {x : ActA} (g : w.ownsRow lo 90 5 (sliceV a') (M.acts ++ [x]).length (actsCells (M.acts ++ [x]))) : RefAt w (didM M x) f s m a' := ⟨h.files, h.sure, h.moves, DidRows.rowBase g (Nat.zero_le _)⟩
theorem OpW.res' {w W : World} {M M' : RefM} {f s m a f' s' m' a' : Tri} (h : OpW w W M f s m a) (g : RefAt W M' f' s' m' a') (bad : Nat) :
    ResR w M' bad (.returned (.tuple #[.agg #[.int .i64 M'.room, .slice f'.1 f'.2.1 f'.2.2, .slice s'.1 s'.2.1 s'.2.2, .slice m'.1 m'.2.1 m'.2.2, .int .i64 M'.units, .int .i64 M'.left, .bool M'.armed, .bool M'.gone, .slice a'.1 a'.2.1 a'.2.2], .int .i64 bad]))
      (setBox W (w.heap.size + 1) (.int .i64 M'.room) (.slice f'.1 f'.2.1 f'.2.2) (.slice s'.1 s'.2.1 s'.2.2) (.slice m'.1 m'.2.1 m'.2.2) (.int .i64 M'.units) (.int .i64 M'.left) (.bool M'.armed) (.bool M'.gone) (.slice a'.1 a'.2.1 a'.2.2)) :=
  ⟨f', s', m', a', rfl, g.box h.c1 _ _ _ _ _ _ _ _ _, setBox_below h.bel (by omega) _ _ _ _ _ _ _ _ _⟩
theorem snoc_len {α : Type} (l : List α) (x : α) : (l ++ [x]).length = l.length + 1 := by simp
set_option maxRecDepth 100000 in
set_option maxHeartbeats 4000000 in
theorem refremove_any {M : RefM} {f s m a : Tri} (hF : Fit' M) (z : ByteArray) (hz : z.size ≤ 1000) (w : World) (h : RefAt w M f s m a) :
    Calls Try.prog 34 #[slices f s m a M.room M.units M.left M.armed M.gone, .string z] w (ResR w (removeM M z).1 (removeM M z).2) := by
  have O := Lib.hid (OpW.start h)
  have A := Lib.hid (fun (W : World) (hb : Below w.heap.size w W) => asked_call hF.fit z hz W (h.below hb (Nat.le_refl _)))
  have FH := Lib.hid hF
  have hcode := asked_codes M [z] z
  obtain ⟨f1, f2, f3⟩ := f
  obtain ⟨s1, s2, s3⟩ := s
  obtain ⟨m1, m2, m3⟩ := m
  obtain ⟨a1, a2, a3⟩ := a
  unfold removeM
  unfold askedI at A
  generalize hq : askedM M [z] z = q at *
  obtain ⟨q1, q2⟩ := q
  dsimp only at A hcode ⊢
  clear h hF hq
  by_cases h0 : q2 = 0
  · subst h0
    simp only [if_true, ne_eq, not_true_eq_false, if_false] at A ⊢
    clear hcode
    cases hc : canM M with
    | true =>
      have U := Lib.hid (refunit_yes hc (f1, f2, f3) (s1, s2, s3) (m1, m2, m3) (a1, a2, a3) FH.out.fit.units FH.out.fit.left)
      clear hc
      have MO := Lib.hid (fun (W : World) => refmoved_any (doneM M).room (doneM M).units (doneM M).left (doneM M).armed (doneM M).gone (f1, f2, f3) (s1, s2, s3) (m1, m2, m3) (a1, a2, a3) M.waits ⟨z, ⟨#[]⟩, 0⟩ W)
      have DI := Lib.hid (fun (mm : Tri) (W : World) => refdid_any (doneM M).room (doneM M).units (doneM M).left (doneM M).armed (doneM M).gone (f1, f2, f3) (s1, s2, s3) mm (a1, a2, a3) M.acts ⟨6, z, ⟨#[]⟩, ⟨#[]⟩, 0⟩ W)
      unfold slices refA at A U ⊢
      unfold slices refA at MO DI
      go_enter Try.func34, Try.ntmps34
      go_wp2_with fail
      refine (A.out _ O.out.bel).mono ?_
      rintro e w1 ⟨rfl, hb1⟩
      have O1 := Lib.hid (O.out.below hb1)
      clear hb1 O  A
      obtain ⟨b0, b1, b2, b3, b4, b5, b6, b7, b8⟩ := cells9 O1.out.cells
      have bl := O1.out.c0.lt
      go_wp2_with fail
      refine (U.out _).mono ?_
      rintro e w2 ⟨rfl, hb2⟩
      have O2 := Lib.hid (O1.out.below hb2)
      clear hb2 O1 b0 b1 b2 b3 b4 b5 b6 b7 b8 bl U
      obtain ⟨b0, b1, b2, b3, b4, b5, b6, b7, b8⟩ := cells9 O2.out.cells
      have bl := O2.out.c0.lt
      have g0 := O2.out.c0.frozen 0
      have g1 := O2.out.c0.frozen 1
      have g2 := O2.out.c0.frozen 2
      have g3 := O2.out.c0.frozen 3
      have g4 := O2.out.c0.frozen 4
      have g5 := O2.out.c0.frozen 5
      have g6 := O2.out.c0.frozen 6
      have g7 := O2.out.c0.frozen 7
      have g8 := O2.out.c0.frozen 8
      have O2s := Lib.hid (O2.out.set O2.out.at_.done)
      clear O2
      go_wp2_with fail
      refine (MO.out _ O2s.out.at_.moves FH.out.waits).mono ?_
      rintro e w3 ⟨⟨mb, mc, rfl, mown⟩, hb3⟩
      have O3 := Lib.hid (O2s.out.below hb3)
      have R1 := Lib.hid (O3.out.at_.moved (l := M.waits ++ [⟨z, ⟨#[]⟩, 0⟩]) (m' := slT mb (M.waits.length + 1) mc) (by rw [snoc_len]; exact mown))
      clear hb3 O2s b0 b1 b2 b3 b4 b5 b6 b7 b8 bl g0 g1 g2 g3 g4 g5 g6 g7 g8 mown MO
      obtain ⟨b0, b1, b2, b3, b4, b5, b6, b7, b8⟩ := cells9 O3.out.cells
      have bl := O3.out.c0.lt
      clear b0 b1 b2 b3 b4 b5 b6 b7 b8 bl
      go_wp2_with fail
      refine (DI.out (slT mb (M.waits.length + 1) mc) _ R1.out.acts FH.out.acts).mono ?_
      rintro e w4 ⟨⟨db, dc, rfl, down⟩, hb4⟩
      have O4 := Lib.hid (O3.out.below hb4)
      have R2 := Lib.hid ((R1.out.below hb4 (Nat.le_refl _)).did (x := ⟨6, z, ⟨#[]⟩, ⟨#[]⟩, 0⟩) (a' := slT db (M.acts.length + 1) dc) (by rw [snoc_len]; exact down))
      clear hb4 O3  down DI R1
      obtain ⟨b0, b1, b2, b3, b4, b5, b6, b7, b8⟩ := cells9 O4.out.cells
      have bl := O4.out.c0.lt
      obtain ⟨x0, x1, x2, x3, x4, x5, x6, x7, x8, xl, y0, y1, y2, y3, y4, y5, y6, y7, y8⟩ := Box9.of O4.out.c1
      go_wp2
      refine bodyPost_ret (ret_box rfl _ _ (w.heap.size + 1) _ rfl (setBox_to O4.out.c1 _ _ _ _ _ _ _ _ _) rfl) rfl ?_
      exact O4.out.res' R2.out _
    | false =>
      have U := Lib.hid (refunit_no hc (f1, f2, f3) (s1, s2, s3) (m1, m2, m3) (a1, a2, a3) FH.out.fit.units FH.out.fit.left)
      clear hc
      unfold slices refA at A U ⊢
      go_enter Try.func34, Try.ntmps34
      go_wp2_with fail
      refine (A.out _ O.out.bel).mono ?_
      rintro e w1 ⟨rfl, hb1⟩
      have O1 := Lib.hid (O.out.below hb1)
      clear hb1 O  A
      obtain ⟨b0, b1, b2, b3, b4, b5, b6, b7, b8⟩ := cells9 O1.out.cells
      have bl := O1.out.c0.lt
      go_wp2_with fail
      refine (U.out _).mono ?_
      rintro e w2 ⟨rfl, hb2⟩
      have O2 := Lib.hid (O1.out.below hb2)
      clear hb2 O1 b0 b1 b2 b3 b4 b5 b6 b7 b8 bl U
      obtain ⟨b0, b1, b2, b3, b4, b5, b6, b7, b8⟩ := cells9 O2.out.cells
      have bl := O2.out.c0.lt
      have g0 := O2.out.c0.frozen 0
      have g1 := O2.out.c0.frozen 1
      have g2 := O2.out.c0.frozen 2
      have g3 := O2.out.c0.frozen 3
      have g4 := O2.out.c0.frozen 4
      have g5 := O2.out.c0.frozen 5
      have g6 := O2.out.c0.frozen 6
      have g7 := O2.out.c0.frozen 7
      have g8 := O2.out.c0.frozen 8
      obtain ⟨x0, x1, x2, x3, x4, x5, x6, x7, x8, xl, y0, y1, y2, y3, y4, y5, y6, y7, y8⟩ := Box9.of O2.out.c1
      have O2s := Lib.hid (O2.out.set O2.out.at_.gone)
      clear O2
      go_wp2
      refine bodyPost_ret (ret_box rfl _ _ (w.heap.size + 1) _ rfl (setBox_to O2s.out.c1 _ _ _ _ _ _ _ _ _) rfl) rfl ?_
      exact O2s.out.res _
  · simp only [ne_eq, h0, not_false_eq_true, if_true, if_false] at A ⊢
    have hne : ((q2 : Int) == 0) = false := by rw [beq_eq_false_iff_ne]; omega
    unfold slices refA at A ⊢
    go_enter Try.func34, Try.ntmps34
    go_wp2_with fail
    refine (A.out _ O.out.bel).mono ?_
    rintro e w1 ⟨rfl, hb1⟩
    have O1 := Lib.hid (O.out.below hb1)
    clear hb1 O  A
    obtain ⟨b0, b1, b2, b3, b4, b5, b6, b7, b8⟩ := cells9 O1.out.cells
    have bl := O1.out.c0.lt
    obtain ⟨x0, x1, x2, x3, x4, x5, x6, x7, x8, xl, y0, y1, y2, y3, y4, y5, y6, y7, y8⟩ := Box9.of O1.out.c1
    go_wp2
    refine bodyPost_ret (ret_box rfl _ _ (w.heap.size + 1) _ rfl (setBox_to O1.out.c1 _ _ _ _ _ _ _ _ _) rfl) rfl ?_
    exact O1.out.res _
end Go.Proofs.Ytembondddgfpcaa

namespace Go.Proofs.Ytembondddgfpcaa
open Go.RowKit Go.Maps
attribute [local go_sem] World.cell?_alloc_some

theorem asked_both {M : RefM} {a b : ByteArray} (hb : goodB b = true) : askedM M [a, b] a = askedM M [a] a := by unfold askedM readyE; simp [hb]
theorem asked_bad {M : RefM} {a b : ByteArray} (h : goodB a = false ∨ goodB b = false) : (askedM M [a, b] a).2 = 1 := by
  have e : readyE M.gone [a, b] = 1 := by unfold readyE; rcases h with h | h <;> simp [h]
  unfold askedM findR; rw [e]; rfl
theorem row0 {w : World} {lo size n : Nat} {e : TypeId} {v : Value} {xs : List Value} (g : w.ownsRow lo e size v n xs) : w.ownsRow 0 e size v n xs := DidRows.rowBase g (Nat.zero_le _)
theorem OpW.cellTo {w W : World} {M M' : RefM} {f s m a f' s' m' a' : Tri} (h : OpW w W M f s m a) (i : Nat) (v : Value) (g : RefAt W M' f' s' m' a') (e : curM M' f' s' m' a' = (curM M f s m a).setIfInBounds i v) : OpW w (W.setCell ⟨w.heap.size, i, none⟩ v) M' f' s' m' a' :=
  ⟨by rw [e]; exact h.c0.set i v, h.c1.other (p := ⟨w.heap.size, i, none⟩) (by dsimp only; omega) v, g.cell h.c0 i v, h.bel.setCell (p := ⟨w.heap.size, i, none⟩) (Nat.le_refl _) v⟩
theorem row_tri {w : World} {lo size n : Nat} {e : TypeId} {v : Value} {xs : List Value} (g : w.ownsRow lo e size v n xs) : ∃ t : Tri, v = sliceV t ∧ t.2.1 = n := by
  rcases g.2 with ⟨q, h⟩ | ⟨b, cap, c, q, _⟩
  · exact ⟨(none, 0, 0), q, by first | exact h.1.symm | exact h.symm | (simp at *; omega)⟩
  · exact ⟨(some ⟨b, 0, none⟩, n, cap), q, rfl⟩
set_option maxRecDepth 100000 in
set_option maxHeartbeats 4000000 in
theorem refrename_any {M : RefM} {f s m a : Tri} (hF : Fit' M) (z y : ByteArray) (hz : z.size ≤ 1000) (hy : y.size ≤ 1000) (w : World) (h : RefAt w M f s m a) :
    Calls Try.prog 33 #[slices f s m a M.room M.units M.left M.armed M.gone, .string z, .string y] w (ResR w (renameM M z y).1 (renameM M z y).2) := by
  have O := Lib.hid (OpW.start h)
  have A := Lib.hid (fun (W : World) (hb : Below w.heap.size w W) => asked_call hF.fit z hz W (h.below hb (Nat.le_refl _)))
  have FH := Lib.hid hF
  have hcode := asked_codes M [z] z
  have G1 := Lib.hid (refgood z hz)
  have G2 := Lib.hid (refgood y hy)
  obtain ⟨f1, f2, f3⟩ := f
  obtain ⟨s1, s2, s3⟩ := s
  obtain ⟨m1, m2, m3⟩ := m
  obtain ⟨a1, a2, a3⟩ := a
  unfold renameM
  cases hg1 : goodB z with
  | false =>
    rw [asked_bad (.inl hg1)]
    rw [hg1] at G1
    simp only [ne_eq, show ¬ (1 : Nat) = 0 by decide, not_false_eq_true, if_true]
    clear h hF A FH hcode G2 hg1
    unfold slices refA
    go_enter Try.func33, Try.ntmps33
    go_wp2_with fail
    refine (G1.out _).mono ?_
    rintro e w0 ⟨rfl, hw⟩
    have O0 : OpW w w0 M (f1, f2, f3) (s1, s2, s3) (m1, m2, m3) (a1, a2, a3) := by rw [← hw]; exact O.out
    have O0 := Lib.hid O0
    clear hw O G1
    obtain ⟨b0, b1, b2, b3, b4, b5, b6, b7, b8⟩ := cells9 O0.out.cells
    have bl := O0.out.c0.lt
    obtain ⟨x0, x1, x2, x3, x4, x5, x6, x7, x8, xl, y0, y1, y2, y3, y4, y5, y6, y7, y8⟩ := Box9.of O0.out.c1
    go_wp2
    refine bodyPost_ret (ret_box rfl _ _ (w.heap.size + 1) _ rfl (setBox_to O0.out.c1 _ _ _ _ _ _ _ _ _) rfl) rfl ?_
    exact O0.out.res _
  | true =>
    rw [hg1] at G1
    cases hg2 : goodB y with
    | false =>
      rw [asked_bad (.inr hg2)]
      rw [hg2] at G2
      simp only [ne_eq, show ¬ (1 : Nat) = 0 by decide, not_false_eq_true, if_true]
      clear h hF A FH hcode hg1 hg2
      unfold slices refA
      go_enter Try.func33, Try.ntmps33
      go_wp2_with fail
      refine (G1.out _).mono ?_
      rintro e w0 ⟨rfl, hw⟩
      have O0 : OpW w w0 M (f1, f2, f3) (s1, s2, s3) (m1, m2, m3) (a1, a2, a3) := by rw [← hw]; exact O.out
      have O0 := Lib.hid O0
      clear hw O G1
      obtain ⟨b0, b1, b2, b3, b4, b5, b6, b7, b8⟩ := cells9 O0.out.cells
      have bl := O0.out.c0.lt
      obtain ⟨x0, x1, x2, x3, x4, x5, x6, x7, x8, xl, y0, y1, y2, y3, y4, y5, y6, y7, y8⟩ := Box9.of O0.out.c1
      go_wp2_with fail
      refine (G2.out _).mono ?_
      rintro e w0' ⟨rfl, rfl⟩
      go_wp2
      refine bodyPost_ret (ret_box rfl _ _ (w.heap.size + 1) _ rfl (setBox_to O0.out.c1 _ _ _ _ _ _ _ _ _) rfl) rfl ?_
      exact O0.out.res _
    | true =>
      rw [hg2] at G2
      rw [asked_both hg2]
      unfold askedI at A
      generalize hq : askedM M [z] z = q at *
      obtain ⟨q1, q2⟩ := q
      dsimp only at A hcode ⊢
      clear h hF hq hg1 hg2
      by_cases h0 : q2 = 0
      · subst h0
        simp only [if_true, ne_eq, not_true_eq_false, if_false] at A ⊢
        clear hcode
        cases hc : canM M with
        | true =>
          have U := Lib.hid (refunit_yes hc (f1, f2, f3) (s1, s2, s3) (m1, m2, m3) (a1, a2, a3) FH.out.fit.units FH.out.fit.left)
          clear hc
          have DI := Lib.hid (fun (ss mm : Tri) (W : World) => refdid_any (doneM M).room (doneM M).units (doneM M).left (doneM M).armed (doneM M).gone (f1, f2, f3) ss mm (a1, a2, a3) M.acts ⟨5, z, y, ⟨#[]⟩, 0⟩ W)
          by_cases hzy : z = y
          · subst hzy
            simp only [if_true]
            unfold slices refA at A U ⊢
            unfold slices refA at DI
            go_enter Try.func33, Try.ntmps33
            go_wp2_with fail
            refine (G1.out _).mono ?_
            rintro e w0 ⟨rfl, hw⟩
            have O0 : OpW w w0 M (f1, f2, f3) (s1, s2, s3) (m1, m2, m3) (a1, a2, a3) := by rw [← hw]; exact O.out
            have O0 := Lib.hid O0
            clear hw O G1
            obtain ⟨b0, b1, b2, b3, b4, b5, b6, b7, b8⟩ := cells9 O0.out.cells
            have bl := O0.out.c0.lt
            go_wp2_with fail
            refine (G2.out _).mono ?_
            rintro e w0' ⟨rfl, rfl⟩
            go_wp2_with fail
            refine (A.out _ O0.out.bel).mono ?_
            rintro e w1 ⟨rfl, hb1⟩
            have O1 := Lib.hid (O0.out.below hb1)
            clear hb1 O0 b0 b1 b2 b3 b4 b5 b6 b7 b8 bl A
            obtain ⟨b0, b1, b2, b3, b4, b5, b6, b7, b8⟩ := cells9 O1.out.cells
            have bl := O1.out.c0.lt
            go_wp2_with fail
            refine (U.out _).mono ?_
            rintro e w2 ⟨rfl, hb2⟩
            have O2 := Lib.hid (O1.out.below hb2)
            clear hb2 O1 b0 b1 b2 b3 b4 b5 b6 b7 b8 bl U
            obtain ⟨b0, b1, b2, b3, b4, b5, b6, b7, b8⟩ := cells9 O2.out.cells
            have bl := O2.out.c0.lt
            have g0 := O2.out.c0.frozen 0
            have g1 := O2.out.c0.frozen 1
            have g2 := O2.out.c0.frozen 2
            have g3 := O2.out.c0.frozen 3
            have g4 := O2.out.c0.frozen 4
            have g5 := O2.out.c0.frozen 5
            have g6 := O2.out.c0.frozen 6
            have g7 := O2.out.c0.frozen 7
            have g8 := O2.out.c0.frozen 8
            have O2s := Lib.hid (O2.out.set O2.out.at_.done)
            clear O2
            go_wp2_with fail
            refine (DI.out (s1, s2, s3) (m1, m2, m3) _ O2s.out.at_.acts FH.out.acts).mono ?_
            rintro e w3 ⟨⟨db, dc, rfl, down⟩, hb3⟩
            have O3 := Lib.hid (O2s.out.below hb3)
            have R2 := Lib.hid ((O2s.out.at_.below hb3 (Nat.le_refl _)).did (x := ⟨5, z, z, ⟨#[]⟩, 0⟩) (a' := slT db (M.acts.length + 1) dc) (by rw [snoc_len]; exact down))
            clear hb3 O2s b0 b1 b2 b3 b4 b5 b6 b7 b8 bl g0 g1 g2 g3 g4 g5 g6 g7 g8 down DI
            obtain ⟨b0, b1, b2, b3, b4, b5, b6, b7, b8⟩ := cells9 O3.out.cells
            have bl := O3.out.c0.lt
            obtain ⟨x0, x1, x2, x3, x4, x5, x6, x7, x8, xl, y0, y1, y2, y3, y4, y5, y6, y7, y8⟩ := Box9.of O3.out.c1
            go_wp2
            refine bodyPost_ret (ret_box rfl _ _ (w.heap.size + 1) _ rfl (setBox_to O3.out.c1 _ _ _ _ _ _ _ _ _) rfl) rfl ?_
            exact O3.out.res' R2.out _
          · simp only [hzy, if_false]
            have q2e : (z.toList == y.toList) = false := by
              rw [Lib.toList_data, Lib.toList_data, beq_eq_false_iff_ne]
              intro e; apply hzy; rw [← Lib.mk_data z, ← Lib.mk_data y, e]
            have q3e : (z.toList != y.toList) = true := by rw [bne, q2e]; rfl
            have MO := Lib.hid (fun (W : World) => refmoved_any (doneM M).room (doneM M).units (doneM M).left (doneM M).armed (doneM M).gone (f1, f2, f3) (s1, s2, s3) (m1, m2, m3) (a1, a2, a3) M.waits ⟨z, y, q1⟩ W)
            unfold slices refA at MO
            unfold slices refA at A U ⊢
            unfold slices refA at DI
            go_enter Try.func33, Try.ntmps33
            go_wp2_with fail
            refine (G1.out _).mono ?_
            rintro e w0 ⟨rfl, hw⟩
            have O0 : OpW w w0 M (f1, f2, f3) (s1, s2, s3) (m1, m2, m3) (a1, a2, a3) := by rw [← hw]; exact O.out
            have O0 := Lib.hid O0
            clear hw O G1
            obtain ⟨b0, b1, b2, b3, b4, b5, b6, b7, b8⟩ := cells9 O0.out.cells
            have bl := O0.out.c0.lt
            go_wp2_with fail
            refine (G2.out _).mono ?_
            rintro e w0' ⟨rfl, rfl⟩
            go_wp2_with fail
            refine (A.out _ O0.out.bel).mono ?_
            rintro e w1 ⟨rfl, hb1⟩
            have O1 := Lib.hid (O0.out.below hb1)
            clear hb1 O0 b0 b1 b2 b3 b4 b5 b6 b7 b8 bl A
            obtain ⟨b0, b1, b2, b3, b4, b5, b6, b7, b8⟩ := cells9 O1.out.cells
            have bl := O1.out.c0.lt
            go_wp2_with fail
            refine (U.out _).mono ?_
            rintro e w2 ⟨rfl, hb2⟩
            have O2 := Lib.hid (O1.out.below hb2)
            clear hb2 O1 b0 b1 b2 b3 b4 b5 b6 b7 b8 bl U
            obtain ⟨b0, b1, b2, b3, b4, b5, b6, b7, b8⟩ := cells9 O2.out.cells
            have bl := O2.out.c0.lt
            have g0 := O2.out.c0.frozen 0
            have g1 := O2.out.c0.frozen 1
            have g2 := O2.out.c0.frozen 2
            have g3 := O2.out.c0.frozen 3
            have g4 := O2.out.c0.frozen 4
            have g5 := O2.out.c0.frozen 5
            have g6 := O2.out.c0.frozen 6
            have g7 := O2.out.c0.frozen 7
            have g8 := O2.out.c0.frozen 8
            have O2s := Lib.hid (O2.out.set O2.out.at_.done)
            clear O2
            go_wp2_with fail
            refine (MO.out _ O2s.out.at_.moves FH.out.waits).mono ?_
            rintro e w3 ⟨⟨mb, mc, rfl, mown⟩, hb3⟩
            have O3 := Lib.hid (O2s.out.below hb3)
            have R1 := Lib.hid (O3.out.at_.moved (l := M.waits ++ [⟨z, y, q1⟩]) (m' := slT mb (M.waits.length + 1) mc) (by rw [snoc_len]; exact mown))
            clear hb3 O2s b0 b1 b2 b3 b4 b5 b6 b7 b8 bl g0 g1 g2 g3 g4 g5 g6 g7 g8 mown MO
            obtain ⟨b0, b1, b2, b3, b4, b5, b6, b7, b8⟩ := cells9 O3.out.cells
            have bl := O3.out.c0.lt
            have g0 := O3.out.c0.frozen 0
            have g1 := O3.out.c0.frozen 1
            have g2 := O3.out.c0.frozen 2
            have g3 := O3.out.c0.frozen 3
            have g4 := O3.out.c0.frozen 4
            have g5 := O3.out.c0.frozen 5
            have g6 := O3.out.c0.frozen 6
            have g7 := O3.out.c0.frozen 7
            have g8 := O3.out.c0.frozen 8
            have O3s := Lib.hid (O3.out.set R1.out)
            clear O3
            clear R1
            go_wp2_with fail
            refine (DI.out (s1, s2, s3) (slT mb (M.waits.length + 1) mc) _ O3s.out.at_.acts FH.out.acts).mono ?_
            rintro e w4 ⟨⟨db, dc, rfl, down⟩, hb4⟩
            have O4 := Lib.hid (O3s.out.below hb4)
            have R2 := Lib.hid ((O3s.out.at_.below hb4 (Nat.le_refl _)).did (x := ⟨5, z, y, ⟨#[]⟩, 0⟩) (a' := slT db (M.acts.length + 1) dc) (by rw [snoc_len]; exact down))
            clear hb4 O3s b0 b1 b2 b3 b4 b5 b6 b7 b8 bl g0 g1 g2 g3 g4 g5 g6 g7 g8 down DI
            obtain ⟨b0, b1, b2, b3, b4, b5, b6, b7, b8⟩ := cells9 O4.out.cells
            have bl := O4.out.c0.lt
            obtain ⟨x0, x1, x2, x3, x4, x5, x6, x7, x8, xl, y0, y1, y2, y3, y4, y5, y6, y7, y8⟩ := Box9.of O4.out.c1
            go_wp2
            refine bodyPost_ret (ret_box rfl _ _ (w.heap.size + 1) _ rfl (setBox_to O4.out.c1 _ _ _ _ _ _ _ _ _) rfl) rfl ?_
            exact O4.out.res' R2.out _
        | false =>
          have U := Lib.hid (refunit_no hc (f1, f2, f3) (s1, s2, s3) (m1, m2, m3) (a1, a2, a3) FH.out.fit.units FH.out.fit.left)
          clear hc
          unfold slices refA at A U ⊢
          go_enter Try.func33, Try.ntmps33
          go_wp2_with fail
          refine (G1.out _).mono ?_
          rintro e w0 ⟨rfl, hw⟩
          have O0 : OpW w w0 M (f1, f2, f3) (s1, s2, s3) (m1, m2, m3) (a1, a2, a3) := by rw [← hw]; exact O.out
          have O0 := Lib.hid O0
          clear hw O G1
          obtain ⟨b0, b1, b2, b3, b4, b5, b6, b7, b8⟩ := cells9 O0.out.cells
          have bl := O0.out.c0.lt
          go_wp2_with fail
          refine (G2.out _).mono ?_
          rintro e w0' ⟨rfl, rfl⟩
          go_wp2_with fail
          refine (A.out _ O0.out.bel).mono ?_
          rintro e w1 ⟨rfl, hb1⟩
          have O1 := Lib.hid (O0.out.below hb1)
          clear hb1 O0 b0 b1 b2 b3 b4 b5 b6 b7 b8 bl A
          obtain ⟨b0, b1, b2, b3, b4, b5, b6, b7, b8⟩ := cells9 O1.out.cells
          have bl := O1.out.c0.lt
          go_wp2_with fail
          refine (U.out _).mono ?_
          rintro e w2 ⟨rfl, hb2⟩
          have O2 := Lib.hid (O1.out.below hb2)
          clear hb2 O1 b0 b1 b2 b3 b4 b5 b6 b7 b8 bl U
          obtain ⟨b0, b1, b2, b3, b4, b5, b6, b7, b8⟩ := cells9 O2.out.cells
          have bl := O2.out.c0.lt
          have g0 := O2.out.c0.frozen 0
          have g1 := O2.out.c0.frozen 1
          have g2 := O2.out.c0.frozen 2
          have g3 := O2.out.c0.frozen 3
          have g4 := O2.out.c0.frozen 4
          have g5 := O2.out.c0.frozen 5
          have g6 := O2.out.c0.frozen 6
          have g7 := O2.out.c0.frozen 7
          have g8 := O2.out.c0.frozen 8
          obtain ⟨x0, x1, x2, x3, x4, x5, x6, x7, x8, xl, y0, y1, y2, y3, y4, y5, y6, y7, y8⟩ := Box9.of O2.out.c1
          have O2s := Lib.hid (O2.out.set O2.out.at_.gone)
          clear O2
          go_wp2
          refine bodyPost_ret (ret_box rfl _ _ (w.heap.size + 1) _ rfl (setBox_to O2s.out.c1 _ _ _ _ _ _ _ _ _) rfl) rfl ?_
          exact O2s.out.res _
      · simp only [ne_eq, h0, not_false_eq_true, if_true, if_false] at A ⊢
        have hne : ((q2 : Int) == 0) = false := by rw [beq_eq_false_iff_ne]; omega
        unfold slices refA at A ⊢
        go_enter Try.func33, Try.ntmps33
        go_wp2_with fail
        refine (G1.out _).mono ?_
        rintro e w0 ⟨rfl, hw⟩
        have O0 : OpW w w0 M (f1, f2, f3) (s1, s2, s3) (m1, m2, m3) (a1, a2, a3) := by rw [← hw]; exact O.out
        have O0 := Lib.hid O0
        clear hw O G1
        obtain ⟨b0, b1, b2, b3, b4, b5, b6, b7, b8⟩ := cells9 O0.out.cells
        have bl := O0.out.c0.lt
        go_wp2_with fail
        refine (G2.out _).mono ?_
        rintro e w0' ⟨rfl, rfl⟩
        go_wp2_with fail
        refine (A.out _ O0.out.bel).mono ?_
        rintro e w1 ⟨rfl, hb1⟩
        have O1 := Lib.hid (O0.out.below hb1)
        clear hb1 O0 b0 b1 b2 b3 b4 b5 b6 b7 b8 bl A
        obtain ⟨b0, b1, b2, b3, b4, b5, b6, b7, b8⟩ := cells9 O1.out.cells
        have bl := O1.out.c0.lt
        obtain ⟨x0, x1, x2, x3, x4, x5, x6, x7, x8, xl, y0, y1, y2, y3, y4, y5, y6, y7, y8⟩ := Box9.of O1.out.c1
        go_wp2
        refine bodyPost_ret (ret_box rfl _ _ (w.heap.size + 1) _ rfl (setBox_to O1.out.c1 _ _ _ _ _ _ _ _ _) rfl) rfl ?_
        exact O1.out.res _
end Go.Proofs.Ytembondddgfpcaa

namespace Go.Proofs.Ytembondddgfpcaa
open Go.RowKit Go.Maps
attribute [local go_sem] World.cell?_alloc_some

set_option maxRecDepth 100000 in
set_option maxHeartbeats 4000000 in
theorem refsyncdir_any {M : RefM} {f s m a : Tri} (hF : Fit' M) (w : World) (h : RefAt w M f s m a) :
    Calls Try.prog 35 #[slices f s m a M.room M.units M.left M.armed M.gone] w (ResR w (syncdirM M).1 (syncdirM M).2) := by
  have O := OpW.start h
  have HA := Lib.hid h
  have FH := Lib.hid hF
  obtain ⟨f1, f2, f3⟩ := f
  obtain ⟨s1, s2, s3⟩ := s
  obtain ⟨m1, m2, m3⟩ := m
  obtain ⟨a1, a2, a3⟩ := a
  unfold syncdirM
  clear h hF
  unfold curM at O
  dsimp only at O
  by_cases hg : M.gone = true
  · simp only [hg, if_true] at O ⊢
    have O := Lib.hid O
    have RES : Hid (∀ o1 o2, ResR w M 3 (.returned (.tuple #[.agg #[.int .i64 M.room, .slice f1 f2 f3, .slice s1 s2 s3, .slice m1 m2 m3, .int .i64 M.units, .int .i64 M.left, .bool M.armed, .bool true, .slice a1 a2 a3], .int .i64 3])) ((w.alloc o1).alloc o2)) := fun o1 o2 => by
      have bel : Below w.heap.size w ((w.alloc o1).alloc o2) := ((Below.refl _ w).alloc (Nat.le_refl _) o1).alloc (by simp) o2
      refine ⟨(f1, f2, f3), (s1, s2, s3), (m1, m2, m3), (a1, a2, a3), ?_, HA.out.below bel (Nat.le_refl _), bel⟩
      rw [hg]; rfl
    unfold slices refA
    clear hg
    clear O
    go_enter Try.func35, Try.ntmps35
    go_wp2
    refine bodyPost_ret (ret_box rfl _ _ (w.heap.size + 1) _ rfl (cells_new2 w _ _ _) rfl) rfl ?_
    exact RES.out _ _
  · have hg : M.gone = false := by simpa using hg
    simp only [hg, Bool.false_eq_true, if_false] at O ⊢
    have O := Lib.hid O
    cases hc : canM M with
    | true =>
      simp only [if_true]
      have U := refunit_yes hc (f1, f2, f3) (s1, s2, s3) (m1, m2, m3) (a1, a2, a3) FH.out.fit.units FH.out.fit.left
      rw [hg] at U
      have U := Lib.hid U
      clear hc hg
      have DD := Lib.hid (fun (vf va : Value) (W : World) (h1 : EntryRow W (.slice s1 s2 s3) M.sure) (h2 : MovesRow W (.slice m1 m2 m3) M.waits) => refdir_any (doneM M).room (doneM M).units (doneM M).left (doneM M).armed (doneM M).gone vf (.slice s1 s2 s3) (.slice m1 m2 m3) va M.sure M.waits W h1 h2 FH.out.fit.rising FH.out.fit.names FH.out.fit.moves FH.out.fit.dirs)
      have DI := Lib.hid (fun (ss mm : Tri) (W : World) => refdid_any (doneM M).room (doneM M).units (doneM M).left (doneM M).armed (doneM M).gone (f1, f2, f3) ss mm (a1, a2, a3) M.acts ⟨7, ⟨#[]⟩, ⟨#[]⟩, ⟨#[]⟩, 0⟩ W)
      unfold slices refA at U ⊢
      unfold slices refA at DI
      go_enter Try.func35, Try.ntmps35
      go_wp2_with fail
      refine (U.out _).mono ?_
      rintro e w1 ⟨rfl, hb1⟩
      have O1 := Lib.hid (O.out.below hb1)
      clear hb1 O  U
      obtain ⟨b0, b1, b2, b3, b4, b5, b6, b7, b8⟩ := cells9 O1.out.cells
      have bl := O1.out.c0.lt
      have g0 := O1.out.c0.frozen 0
      have g1 := O1.out.c0.frozen 1
      have g2 := O1.out.c0.frozen 2
      have g3 := O1.out.c0.frozen 3
      have g4 := O1.out.c0.frozen 4
      have g5 := O1.out.c0.frozen 5
      have g6 := O1.out.c0.frozen 6
      have g7 := O1.out.c0.frozen 7
      have g8 := O1.out.c0.frozen 8
      have O1s := Lib.hid (O1.out.set O1.out.at_.done)
      clear O1
      go_wp2_with fail
      refine (DD.out _ _ _ O1s.out.at_.sure O1s.out.at_.moves).mono ?_
      rintro e w2 ⟨v5, rfl, row5, hb2⟩
      have O2 := Lib.hid (O1s.out.below hb2)
      obtain ⟨v5t, hv5, hv5n⟩ := row_tri row5
      obtain ⟨v51, v52, v53⟩ := v5t
      subst hv5
      have RA := O2.out.at_
      have RB : RefAt w2 { doneM M with sure := dplay M.waits M.sure } (f1, f2, f3) (v51, v52, v53) (m1, m2, m3) (a1, a2, a3) := ⟨RA.files, row5, RA.moves, RA.acts⟩
      have RB := Lib.hid RB
      clear hb2 O1s b0 b1 b2 b3 b4 b5 b6 b7 b8 bl g0 g1 g2 g3 g4 g5 g6 g7 g8 DD RA row5 hv5n
      obtain ⟨b0, b1, b2, b3, b4, b5, b6, b7, b8⟩ := cells9 O2.out.cells
      have bl := O2.out.c0.lt
      have g0 := O2.out.c0.frozen 0
      have g1 := O2.out.c0.frozen 1
      have g2 := O2.out.c0.frozen 2
      have g3 := O2.out.c0.frozen 3
      have g4 := O2.out.c0.frozen 4
      have g5 := O2.out.c0.frozen 5
      have g6 := O2.out.c0.frozen 6
      have g7 := O2.out.c0.frozen 7
      have g8 := O2.out.c0.frozen 8
      unfold sliceV
      have OA := O2.out.cellTo 2 (.slice v51 v52 v53) (M' := { doneM M with sure := dplay M.waits M.sure }) (s' := (v51, v52, v53)) RB.out (by simp [curM])
      have OB := Lib.hid (OA.cellTo 3 (.slice none 0 0) (M' := { doneM M with sure := dplay M.waits M.sure, waits := [] }) (m' := (none, 0, 0)) ⟨OA.at_.files, OA.at_.sure, ⟨rfl, .inl ⟨rfl, rfl⟩⟩, OA.at_.acts⟩ (by simp [curM]))
      clear OA RB O2
      go_wp2_with fail
      refine (DI.out (v51, v52, v53) (none, 0, 0) _ OB.out.at_.acts FH.out.acts).mono ?_
      rintro e w3 ⟨⟨db, dc, rfl, down⟩, hb3⟩
      have O3 := Lib.hid (OB.out.below hb3)
      have R2 := Lib.hid ((O3.out.at_).did (x := ⟨7, ⟨#[]⟩, ⟨#[]⟩, ⟨#[]⟩, 0⟩) (a' := slT db (M.acts.length + 1) dc) (by rw [snoc_len]; exact down))
      clear hb3 OB b0 b1 b2 b3 b4 b5 b6 b7 b8 bl g0 g1 g2 g3 g4 g5 g6 g7 g8 down DI
      obtain ⟨b0, b1, b2, b3, b4, b5, b6, b7, b8⟩ := cells9 O3.out.cells
      have bl := O3.out.c0.lt
      obtain ⟨x0, x1, x2, x3, x4, x5, x6, x7, x8, xl, y0, y1, y2, y3, y4, y5, y6, y7, y8⟩ := Box9.of O3.out.c1
      go_wp2
      refine bodyPost_ret (ret_box rfl _ _ (w.heap.size + 1) _ rfl (setBox_to O3.out.c1 _ _ _ _ _ _ _ _ _) rfl) rfl ?_
      exact O3.out.res' R2.out _
    | false =>
      simp only [Bool.false_eq_true, if_false]
      have U := refunit_no hc (f1, f2, f3) (s1, s2, s3) (m1, m2, m3) (a1, a2, a3) FH.out.fit.units FH.out.fit.left
      rw [hg] at U
      have U := Lib.hid U
      clear hc hg
      unfold slices refA at U ⊢
      go_enter Try.func35, Try.ntmps35
      go_wp2_with fail
      refine (U.out _).mono ?_
      rintro e w1 ⟨rfl, hb1⟩
      have O1 := Lib.hid (O.out.below hb1)
      clear hb1 O  U
      obtain ⟨b0, b1, b2, b3, b4, b5, b6, b7, b8⟩ := cells9 O1.out.cells
      have bl := O1.out.c0.lt
      have g0 := O1.out.c0.frozen 0
      have g1 := O1.out.c0.frozen 1
      have g2 := O1.out.c0.frozen 2
      have g3 := O1.out.c0.frozen 3
      have g4 := O1.out.c0.frozen 4
      have g5 := O1.out.c0.frozen 5
      have g6 := O1.out.c0.frozen 6
      have g7 := O1.out.c0.frozen 7
      have g8 := O1.out.c0.frozen 8
      obtain ⟨x0, x1, x2, x3, x4, x5, x6, x7, x8, xl, y0, y1, y2, y3, y4, y5, y6, y7, y8⟩ := Box9.of O1.out.c1
      have O1s := Lib.hid (O1.out.set O1.out.at_.gone)
      clear O1
      go_wp2
      refine bodyPost_ret (ret_box rfl _ _ (w.heap.size + 1) _ rfl (setBox_to O1s.out.c1 _ _ _ _ _ _ _ _ _) rfl) rfl ?_
      exact O1s.out.res _
end Go.Proofs.Ytembondddgfpcaa

namespace Go.Proofs.Ytembondddgfpcaa
open Go.RowKit Go.Maps
attribute [local go_sem ↓] Go.wp_at_zero Go.wp_at_succ
attribute [local go_sem] World.cell?_alloc_some

end Go.Proofs.Ytembondddgfpcaa

namespace Go.Proofs.Ytembondddgfpcaa
open Go.RowKit Go.Maps
attribute [local go_sem ↓] Go.wp_at_zero Go.wp_at_succ
attribute [local go_sem] World.cell?_alloc_some

theorem infoRefFile : (Try.prog.info? 87).map (fun i => (i.zero, i.size, i.bytes)) = some (some (.agg #[.string ⟨#[]⟩, .slice none 0 0]), 2, 40) := by kernel_rfl
end Go.Proofs.Ytembondddgfpcaa

namespace Go.Proofs.Ytembondddgfpcaa
open Go.RowKit Go.Maps
attribute [local go_sem] World.cell?_alloc_some

theorem file_put {W : World} {base size n g cap i : Nat} {e : TypeId} {xs : List Value} (h : W.ownsRow base e size (.slice (some ⟨g, 0, none⟩) n cap) n xs) (u : Value) : (W.setCell ⟨g, i, none⟩ u).ownsRow base e size (.slice (some ⟨g, 0, none⟩) n cap) n (xs.set i u) := by
  refine ⟨by rw [List.length_set]; exact h.1, ?_⟩
  rcases h.2 with ⟨q, hn⟩ | ⟨g', cap', cur, q, hb, hc, hle, hm, hs, ht⟩
  · cases q
  · cases q
    refine .inr ⟨g, cap, cur.setIfInBounds i u, rfl, hb, ?_, hle, hm, by simp [hs], ?_⟩
    · show (W.heap.modify g _)[g]? = _
      rw [Array.getElem?_modify]; simp [hc]
    · rw [← ht]; simp [List.take_set]
theorem file_frozen {W : World} {base size n g cap : Nat} {e : TypeId} {xs : List Value} (h : W.ownsRow base e size (.slice (some ⟨g, 0, none⟩) n cap) n xs) (i : Nat) : W.frozen? ⟨g, i, none⟩ = false := by
  rcases h.2 with ⟨q, hn⟩ | ⟨g', cap', cur, q, hb, hc, hle, hm, hs, ht⟩
  · cases q
  · cases q; simp [World.frozen?, hc]
theorem filesM_set : ∀ (l : List (FileM × Value)) (k : Nat) (p : FileM × Value), ((filesCellsM l).set (k * 2) (.string p.1.sure)).set (k * 2 + 1) p.2 = filesCellsM (l.set k p)
  | [], _, _ => rfl
  | x :: l, 0, p => rfl
  | x :: l, k + 1, p => by
    have ih := filesM_set l k p
    have e1 : (k + 1) * 2 = k * 2 + 1 + 1 := by omega
    have e2 : (k + 1) * 2 + 1 = (k * 2 + 1) + 1 + 1 := by omega
    rw [e2, e1]
    show (List.set (List.set (_ :: _ :: filesCellsM l) _ _) _ _) = _ :: _ :: filesCellsM (l.set k p)
    simp only [List.set_cons_succ, ih]
theorem filesM_one : ∀ (l : List (FileM × Value)), (∀ p ∈ l, p.2.oneCell' = true) → ∀ u ∈ filesCellsM l, u.oneCell' = true := by
  intro l h u hu
  unfold filesCellsM at hu
  simp at hu
  obtain ⟨a, b, hm, rfl | rfl⟩ := hu
  · rfl
  · exact h _ hm
theorem FilesRow.one {w : World} {v : Value} {l : List (FileM × Value)} (h : FilesRow w v l) : ∀ u ∈ filesCellsM l, u.oneCell' = true :=
  filesM_one l fun p hp => by obtain ⟨t, e, _⟩ := row_tri (h.2 p hp); rw [e]; rfl
set_option maxRecDepth 100000 in
set_option maxHeartbeats 4000000 in
theorem refwith_any (r u l' : Int) (q g : Bool) (f s m a : Tri) (l : List (FileM × Value)) (i : Nat) (fm : FileM) (fv : Tri) (w : World) (hf : FilesRow w (sliceV f) l) (hv : WaitsRow w (sliceV fv) fm.waits) (hi : i < l.length) (hn : l.length ≤ 100000) :
    Calls Try.prog 60 #[slices f s m a r u l' q g, .int .i64 i, .agg #[.string fm.sure, sliceV fv]] w
      fun e w' => (∃ f' : Tri, e = .returned (slices f' s m a r u l' q g) ∧ FilesRow w' (sliceV f') (l.set i (fm, sliceV fv))) ∧ Below w.heap.size w w' := by
  obtain ⟨i0, hi0, hz0, hz1, hz2⟩ := info_parts infoRefFile
  have HF := Lib.hid hf
  have HV := Lib.hid hv
  have ONE := Lib.hid hf.one
  obtain ⟨f1, f2, f3⟩ := f
  obtain ⟨s1, s2, s3⟩ := s
  obtain ⟨m1, m2, m3⟩ := m
  obtain ⟨a1, a2, a3⟩ := a
  obtain ⟨v1, v2, v3⟩ := fv
  unfold sliceV at *
  unfold slices refA
  dsimp only at HF HV hf ⊢
  obtain ⟨g0, cap, ⟨⟩, _⟩ := Joins.ownsRow_form hf.1 (by omega)
  clear hf hv
  go_enter Try.func60, Try.ntmps60
  go_upto_region 1 with fail
  obtain ⟨W3, hW⟩ : ∃ W3, (((w.alloc (.cells #[.int .i64 r, .slice (some ⟨g0, 0, none⟩) l.length f3, .slice s1 s2 s3, .slice m1 m2 m3, .int .i64 u, .int .i64 l', .bool q, .bool g, .slice a1 a2 a3] 37)).alloc (.cells #[.string fm.sure, .slice v1 v2 v3] 87)).alloc (.cells rows9 37)) = W3 := ⟨_, rfl⟩
  have hW' := hW
  unfold rows9 at hW'
  rw [hW']
  have hbl : Below w.heap.size w W3 := by rw [← hW]; exact ((((Below.refl _ _).alloc (Nat.le_refl _) _).alloc (by simp) _).alloc (by simp <;> omega) _)
  have HSZ := Lib.hid (show W3.heap.size = w.heap.size + 3 by rw [← hW]; simp)
  have B3 := boxes3' hW (Below.refl _ _)
  have B30 := Lib.hid B3.1
  have B31 := Lib.hid B3.2.1
  have B32 := Lib.hid B3.2.2
  have HBL := Lib.hid hbl
  have b0 := B3.1.cell 1
  have bl := B3.1.lt
  dsimp at b0
  clear hW hW' B3
  have hoN : (W3.alloc (.cells #[] 87)).ownsRow W3.heap.size 87 2 (.slice (some ⟨W3.heap.size, 0, none⟩) 0 0) 0 [] := World.ownsRow_lit W3 #[] 0 (Nat.le_refl _) (by decide) rfl
  have hb4 := Lib.hid ((Below.refl W3.heap.size W3).alloc (Nat.le_refl _) (.cells #[] 87))
  have HR := HF.out.below (hbl.trans (hb4.out.mono hbl.size)) (Nat.le_refl _)
  have HC := Lib.hid (fun j u hj => HR.1.cells (g := g0) rfl j u hj)
  have HL := Lib.hid HF.out.1.1
  clear hbl HR
  go_wp2_with (at_builtin; refine wpList_append_own _ rfl _ _ 32 rfl W3.heap.size 87 i0 _ 2 40 Try.underlying32 hi0 hz0 hz1 hz2 rfl (by decide) _ 0 [] rfl hoN ⟨g0, 0, none⟩ l.length f3 (filesCellsM l) rfl HL.out HC.out ONE.out ?c3 ?c4 ?c5 ?_)
  case c3 => unfold maxLen; omega
  case c4 => omega
  case c5 => simp
  intro v' w5 hown' hgrow _
  try simp only [List.nil_append, Nat.zero_add] at hown'
  change w5.ownsRow _ _ _ v' l.length (filesCellsM l) at hown'
  obtain ⟨g', cap', rfl, _⟩ := Joins.ownsRow_form hown' (by omega)
  have hb5 : Below W3.heap.size W3 w5 := hb4.out.grown hgrow (by simp) (fun j ej => (World.ownsRow.lt hoN j ej).1)
  have D0 := B30.out.below hb5 B30.out.lt
  have D1 := B31.out.below hb5 B31.out.lt
  have D2 := B32.out.below hb5 B32.out.lt
  have HB5 := Lib.hid (HBL.out.trans (hb5.mono HBL.out.size))
  clear hoN hgrow hb5 hb4 HC HL ONE b0 bl B30 B31 B32 hz0 hz1 hz2 hi0
  have gl := hown'.lt g' rfl
  have gs := HBL.out.size
  obtain ⟨d0, d1, d2, d3, d4, d5, d6, d7, d8⟩ := cells9 D0
  have bl := D0.lt
  have f1 := D0.frozen 1
  have E0 := D0.set 1 (.slice (some ⟨g', 0, none⟩) l.length cap')
  have E1 := D1.other (p := ⟨w.heap.size, 1, none⟩) (by dsimp only; omega) (.slice (some ⟨g', 0, none⟩) l.length cap')
  have E2 := Lib.hid (D2.other (p := ⟨w.heap.size, 1, none⟩) (by dsimp only; omega) (.slice (some ⟨g', 0, none⟩) l.length cap'))
  have HB6 := Lib.hid (HB5.out.setCell (p := ⟨w.heap.size, 1, none⟩) (Nat.le_refl _) (.slice (some ⟨g', 0, none⟩) l.length cap'))
  have OWN := row_cell hown' (p := ⟨w.heap.size, 1, none⟩) (box_ne hown' D0 (by decide)) (.slice (some ⟨g', 0, none⟩) l.length cap')
  simp only [List.setIfInBounds_toArray, List.set_cons_zero, List.set_cons_succ] at E0
  clear D1 D2 hown' HB5
  go_upto_region 2 with fail
  clear d0 d1 d2 d3 d4 d5 d6 d7 d8 bl f1 D0
  generalize w5.setCell _ _ = W6 at *
  obtain ⟨c0, c1⟩ := filesM_at l i hi
  have d1 := E0.cell 1
  have bl := E0.lt
  have e0 := E1.cell 0
  have e1 := E1.cell 1
  have el := E1.lt
  dsimp at d1 e0 e1
  have r0 := row_at OWN c0
  have r1 := row_at OWN c1
  have rf0 := file_frozen OWN (i * 2)
  have rf1 := file_frozen OWN (i * 2 + 1)
  obtain ⟨ht, hv1, hv2⟩ := row_tri (HF.out.2 _ (List.getElem_mem hi))
  have rl := (OWN.lt g' rfl).2
  have hii : (i : Int) < (l.length : Int) := by omega
  have OWN' := Lib.hid OWN
  have E0' := Lib.hid E0
  clear E1 E0 OWN c0 c1
  go_upto_region 3 with fail
  have hsz := HSZ.out
  have HB7 := Lib.hid ((HB6.out.setCell (p := ⟨g', i * 2, none⟩) (by dsimp only; omega) (.string fm.sure)).setCell (p := ⟨g', i * 2 + 1, none⟩) (by dsimp only; omega) (.slice v1 v2 v3))
  have E3 := (E0'.out.other (p := ⟨g', i * 2, none⟩) (by dsimp only; omega) (.string fm.sure)).other (p := ⟨g', i * 2 + 1, none⟩) (by dsimp only; omega) (.slice v1 v2 v3)
  have E4 := Lib.hid ((E2.out.other (p := ⟨g', i * 2, none⟩) (by dsimp only; omega) (.string fm.sure)).other (p := ⟨g', i * 2 + 1, none⟩) (by dsimp only; omega) (.slice v1 v2 v3))
  have OWN := file_put (i := i * 2 + 1) (file_put (i := i * 2) OWN'.out (.string fm.sure)) (.slice v1 v2 v3)
  rw [filesM_set l i (fm, .slice v1 v2 v3)] at OWN
  generalize (W6.setCell _ _).setCell _ _ = W7 at *
  have FR : FilesRow W7 (.slice (some ⟨g', 0, none⟩) l.length cap') (l.set i (fm, .slice v1 v2 v3)) := by
    refine ⟨by rw [List.length_set]; exact DidRows.rowBase OWN (Nat.zero_le _), fun p hp => ?_⟩
    rcases List.mem_or_eq_of_mem_set hp with hp | rfl
    · exact row_below (HF.out.2 p hp) HB7.out (Nat.le_refl _)
    · exact row_below HV.out HB7.out (Nat.le_refl _)
  have FR := Lib.hid FR
  have ow3 := (OWN.lt g' rfl).1
  clear hsz HSZ d1 bl e0 e1 el r0 r1 rf0 rf1 ht hv1 hv2 rl OWN' E0' E2 HB6 OWN
  obtain ⟨d0, d1, d2, d3, d4, d5, d6, d7, d8⟩ := cells9 E3
  have bl := E3.lt
  obtain ⟨x0, x1, x2, x3, x4, x5, x6, x7, x8, xl, y0, y1, y2, y3, y4, y5, y6, y7, y8⟩ := Box9.of E4.out
  go_wp2
  refine bodyPost_ret (ret_box1 rfl _ _ (w.heap.size + 1 + 1) _ rfl (setBox_to E4.out _ _ _ _ _ _ _ _ _) rfl) rfl ?_
  refine ⟨⟨(some ⟨g', 0, none⟩, l.length, cap'), rfl, ?_⟩, setBox_below HB7.out (by omega) _ _ _ _ _ _ _ _ _⟩
  exact ⟨setBox_own FR.out.1 E4.out (by decide) _ _ _ _ _ _ _ _ _, fun p hp => setBox_own (FR.out.2 p hp) E4.out (by decide) _ _ _ _ _ _ _ _ _⟩
end Go.Proofs.Ytembondddgfpcaa

