/- Texts put together: UE, TG, TJ, UF, RQ, RK, QI. -/
import Derived.Deep.RegionHeld3
import Derived.Sort.BigQuietIn
import Derived.Shelf.RegionOpen
import Derived.Test.YtfjklpgmnakcaaaGreatDoorBae1
import Derived.Test.YtfjklpgmnakcaaaGreatDoorBae3
import Derived.Test.YtfjklpgmnakcaaaGreatDoorBae8
import Derived.Test.YtfjklpgmnakcaaaGreatDoorBae10
set_option linter.unusedVariables false
set_option maxRecDepth 100000
set_option maxHeartbeats 16000000
namespace Go.Proofs.YtfjklpgmnakcaaaGreatDoor
open Go.RowKit Go.Shelf
attribute [local go_sem] Oper.semAt_some
def placeP (ps : List Pr) (id : Int) : Int := match (stzP 0 ps).findIdx? fun x => x.2.1.2 == id with | none => -1 | some k => (k : Nat)
theorem place_none {ps : List Pr} {id : Int} (h : ∀ y ∈ stzP 0 ps, y.2.1.2 ≠ id) : placeP ps id = -1 := by
  unfold placeP
  rw [List.findIdx?_eq_none_iff.2 (fun x hx => by simpa using h x hx)]
theorem place_some {ps : List Pr} {id : Int} {pre post : List (Nat × Pr)} {x : Nat × Pr} (h : stzP 0 ps = pre ++ x :: post) (h1 : ∀ y ∈ pre, y.2.1.2 ≠ id) (h2 : x.2.1.2 = id) : placeP ps id = (pre.length : Nat) := by
  unfold placeP
  rw [h, List.findIdx?_append, List.findIdx?_eq_none_iff.2 (fun y hy => by simpa using h1 y hy), List.findIdx?_cons, h2]
  simp
theorem placeOut {Q : Ending -> World -> Prop} (w W : World) (v : Value) (tmps : Array Value) (hv1 : v.oneCell' = true) (h4 : Boxed W (w.heap.size + 1) 3 v) (hB : Below w.heap.size w W)
    (hK : W.heap[w.heap.size + 4]? = some (.deferred (some []))) (t4 : tmps[4]? = some (.pointer (some ⟨w.heap.size + 1, 0, none⟩)))
    (hQ : ∀ W', Below w.heap.size w W' -> Q (.returned v) W') :
    bodyPostM Fence.wide 9 Tryz.prog Tryz.f72 Q .ret { tmps := tmps, defers := [{ target := .collected (w.heap.size + 4), args := #[] }] } W := by
  have p1 := grownBy_putObj' W (w.heap.size + 4) (.deferred none)
  have r4 : Boxed (W.putObj (w.heap.size + 4) (.deferred none)) (w.heap.size + 1) 3 v := (p1.block _ h4.lt (fun e => by have := Option.some.inj e; omega)).trans h4
  have c4 := r4.cell
  refine ⟨by simp, .inl ⟨_, _, rfl, run_takeDeferred hK, ?_⟩⟩
  exact ⟨v, by simp [results, Tryz.f72, go_sem, t4, c4], hQ _ (hB.trans (belowK_b (w := w) (Nat.le_refl _) W _ _ _ (by omega) hK rfl rfl))⟩
theorem place_gen (ps : List Pr) (v : Value) (q : Option Addr) (id : Int) (w : World) (hl : ∀ W, Below w.heap.size w W -> AllR W (.pointer q) v ps) (hps : ps.length <= 1000000) :
    Calls Tryz.prog 72 #[.pointer q, .int .i64 id] w fun e w' => e = .returned (.int .i64 (placeP ps id)) /\ Below w.heap.size w w' := by
  obtain ⟨A, cap, hv, hle⟩ := (hl w (Below.refl _ _)).1.empty
  have ALL := Lib.hid (fun W hB => callsIn_wide (n := 8).2 (hl W hB).2)
  have HE := Lib.hid (fun W hB => (hl W hB).1)
  have ST := Lib.hid (fun W => callsIn_wide (n := 8).2 (stz7_any v W A ps.length cap hv))
  have HV := Lib.hid hv
  clear hl hv
  refine callsIn_wide (n := 9).1 ?_
  refine callsIn_of_wp_marks Tryz.func72 rfl trivial ?_ rfl
  simp only [Tryz.ntmps72, List.size_toArray, List.length_cons, List.length_nil, Nat.reduceAdd, Nat.reduceSub, Array.replicate_succ, Array.replicate_zero, List.push_toArray, List.append_toArray, List.nil_append, List.cons_append]
  gi_wp2_with fail
  have hb0 : Below w.heap.size w (((w.alloc (.cells #[.int .i64 id] 3)).alloc (.cells #[.int .i64 0] 3)).alloc (.cells #[.int .i64 0] 3)) := (((Below.refl _ w).alloc (Nat.le_refl _) _).alloc (by simp) _).alloc (by simp; omega) _
  refine ⟨trivial, (ALL.out _ hb0).mono ?_⟩
  rintro e w1 ⟨rfl, rfl⟩
  gi_wp2_with fail
  refine ⟨trivial, (ST.out _).mono ?_⟩
  rintro e w1 ⟨rfl, rfl⟩
  gi_wp2_with fail
  obtain ⟨w1, hw1⟩ : ∃ w1, w1 = ((((w.alloc (.cells #[.int .i64 id] 3)).alloc (.cells #[.int .i64 0] 3)).alloc (.cells #[.int .i64 0] 3)).alloc (.cells #[v] 90)) := ⟨_, rfl⟩
  have hz : w1.heap.size = w.heap.size + 4 := by rw [hw1]; simp
  have B0 : Boxed w1 w.heap.size 3 (.int .i64 id) := by rw [hw1]; exact (((Boxed.new w _ _).alloc _).alloc _).alloc _
  have B1 : Boxed w1 (w.heap.size + 1) 3 (.int .i64 0) := by rw [hw1]; exact ((boxNew2 w _ _ _).alloc _).alloc _
  have B2 : Boxed w1 (w.heap.size + 1 + 1) 3 (.int .i64 0) := by rw [hw1]; exact (boxNew3 w _ _ _ _).alloc _
  have B3 : Boxed w1 (w.heap.size + 1 + 1 + 1) 90 v := by rw [hw1]; exact boxNew4 w _ _ _ _ _
  have hb1 : Below w.heap.size w w1 := by rw [hw1]; exact hb0.alloc (by simp; omega) _
  rw [<- hw1]
  clear hw1 hb0
  have HH := stz_hands ps v _ w1 B3 hps (HE.out _ hb1)
  refine wp_rangedKA (gf := 53) (lb := #[.pointer (some ⟨w.heap.size + 1 + 1 + 1, 0, none⟩)]) rfl (enters_of Tryz.func53 (by kernel_rfl) rfl) HH (fun _ => rfl)
    (fun pre W => (∀ y ∈ pre, y.2.1.2 ≠ id) /\ Boxed W w.heap.size 3 (.int .i64 id) /\ Boxed W (w.heap.size + 1) 3 (.int .i64 0) /\ Boxed W (w.heap.size + 1 + 1) 3 (.int .i64 (pre.length : Nat)) /\ Boxed W (w.heap.size + 1 + 1 + 1) 90 v /\ Below w.heap.size w W)
    (fun c pre W => c = .ret /\ (Boxed W (w.heap.size + 1) 3 (.int .i64 (placeP ps id)) /\ Below w.heap.size w W))
    (by
      rw [hz]
      exact (Abide.pure _ _ _).and ((Abide.box (.inl (by omega)) _).and ((Abide.box (.inl (by omega)) _).and ((Abide.box (.inl (by omega)) (fun pre : List (Nat × Pr) => .int .i64 (pre.length : Nat))).and ((Abide.box (.inl (by omega)) _).and (Abide.below (Nat.le_refl _) (by omega)))))))
    (by
      rw [hz]
      rintro c s W W' ⟨h0, h2, h4⟩ ht
      exact ⟨h0, ht.box h2 (.inl (by omega)), h4.trans (ht.below (by omega) (by have := h4.size; omega))⟩)
    ⟨(fun y h => by cases h), B0, B1, B2, B3, hb1⟩
    (fun pre W h => ⟨HE.out _ h.2.2.2.2.2, h.2.2.2.2.1⟩)
    (fun a pre x a' W => ∃ Bx, w.heap.size + 8 <= Bx /\ a' = { tmps := ((a.tmps.setIfInBounds 11 (.int .i64 (x.1 : Nat))).setIfInBounds 12 (entV x.2)).setIfInBounds 7 (ptr Bx), defers := [] } /\ Cells W Bx 93 #[.int .i64 x.2.1.1.kind, .string (B x.2.1.1.raw), x.2.2, .int .i64 x.2.1.2] /\
      (∀ y ∈ pre, y.2.1.2 ≠ id) /\ Boxed W w.heap.size 3 (.int .i64 id) /\ Boxed W (w.heap.size + 1) 3 (.int .i64 0) /\ Boxed W (w.heap.size + 1 + 1) 3 (.int .i64 (pre.length : Nat)) /\ Boxed W (w.heap.size + 1 + 1 + 1) 90 v /\ Below w.heap.size w W)
    ?hM ?assign ?body ?done ?stop
  case hM =>
    rw [hz]
    rintro a pre x a' _ W W' ⟨Bx, h1, h2, h3, h4, h5, h6, h7, h8, h9⟩ ht
    exact ⟨Bx, h1, h2, (ht.same Bx h3.lt (.inr (by omega))).trans h3, h4, ht.box h5 (.inl (by omega)), ht.box h6 (.inl (by omega)), ht.box h7 (.inl (by omega)), ht.box h8 (.inl (by omega)), h9.trans (ht.below (by omega) (by have := h9.size; omega))⟩
  case assign =>
    rw [hz]
    intro l pre x post W hx hsz hi
    have hfr : ∃ fa fc, x.2.2 = .slice fa x.2.1.1.fields.length fc := by
      have hm := stzG_mem 0 ps x (by rw [show stzG (fun p : Pr => p.1.1.kind) 0 ps = _ from hx]; simp)
      exact ((HE.out _ hi.2.2.2.2.2).each x.2 (List.mem_of_getElem? hm.2.1)).form
    obtain ⟨k, ⟨⟨⟨kd, raw, fs⟩, num⟩, fv⟩⟩ := x
    obtain ⟨fa, fc, e⟩ := hfr
    dsimp only at e
    subst e
    clear hx
    dsimp only [entV]
    gi_wp2
    exact ⟨(Stay.refl _ _ W).alloc hsz _, W.heap.size, by omega, rfl, Cells.new _ _ _, hi.1, hi.2.1.alloc _, hi.2.2.1.alloc _, hi.2.2.2.1.alloc _, hi.2.2.2.2.1.alloc _, hi.2.2.2.2.2.alloc hi.2.2.2.2.2.size _⟩
  case body =>
    rw [hz]
    rintro l pre x post a' W hx hsz ⟨Bx, hB, rfl, hc, hpre, b0, b1, b2, b3, hb⟩
    simp only [List.setIfInBounds_toArray, List.set_cons_zero, List.set_cons_succ, entV]
    have q3 := (entBox hc).2.2.2
    have c0 := b0.cell
    have c1 := b1.cell
    have c2 := b2.cell
    have f1 := b1.frozen
    have f2 := b2.frozen
    have FS := Lib.hid (fun h => place_some hx hpre h)
    have hn : pre.length <= 1000000 := by have h1 := congrArg List.length hx; have h2 := stzG_len (κ := fun p : Pr => p.1.1.kind) 0 ps; simp at h1; simp only [stzP] at h1 h2; omega
    have HPRE := Lib.hid hpre
    clear hpre hx
    by_cases hq : x.2.1.2 = id
    . rw [hq] at q3
      gi_wp2_with fail
      have hst : Stay (w.heap.size + 4) (2 + 2) W (W.setCell ⟨w.heap.size + 1, 0, none⟩ (.int .i64 (pre.length : Nat))) := (Stay.refl _ _ W).setCell (.inl (by show w.heap.size + 1 < _; omega)) _
      refine ⟨hst, rfl, ?_, hb.setCell (p := ⟨w.heap.size + 1, 0, none⟩) (by show w.heap.size <= w.heap.size + 1; omega) _⟩
      rw [FS.out hq]
      exact Boxed.set _ b1
    have hq' : ((x.2.1.2 : Int) == id) = false := beq_eq_false_iff_ne.2 hq
    gi_wp2_with fail
    have hwr : (((pre ++ [x]).length : Nat) : Int) = (pre.length : Int) + 1 := by simp
    refine ⟨(Stay.refl _ _ W).setCell (.inl (by show w.heap.size + 1 + 1 < _; omega)) _, ?_, b0.other (by show w.heap.size ≠ w.heap.size + 1 + 1; omega) _, b1.other (by show w.heap.size + 1 ≠ w.heap.size + 1 + 1; omega) _, ?_, b3.other (by show w.heap.size + 1 + 1 + 1 ≠ w.heap.size + 1 + 1; omega) _, hb.setCell (p := ⟨w.heap.size + 1 + 1, 0, none⟩) (by show w.heap.size <= w.heap.size + 1 + 1; omega) _⟩
    . intro y hy
      rcases List.mem_append.1 hy with h | h
      . exact HPRE.out y h
      rw [List.mem_singleton.1 h]; exact hq
    rw [hwr]; exact Boxed.set _ b2
  case done =>
    rw [hz]
    rintro W ⟨hpre, b0, b1, b2, b3, hb⟩ hK
    have c1 := b1.cell
    have f1 := b1.frozen
    have FN := Lib.hid (place_none hpre)
    have zK := (Array.getElem?_eq_some_iff.1 hK).1
    clear hpre
    gi_wp2_with fail
    refine placeOut w _ (.int .i64 (-1)) _ rfl (Boxed.set _ b1) (hb.setCell (p := ⟨w.heap.size + 1, 0, none⟩) (by show w.heap.size <= w.heap.size + 1; omega) _)
      ((Below.heap_setCell _ _ _ _ (by show w.heap.size + 4 ≠ w.heap.size + 1; omega)).trans hK) rfl (fun W' h => ⟨?_, h⟩)
    rw [FN.out]
  case stop =>
  rw [hz]
  rintro c pre W _ ⟨rfl, b1, hb⟩ hK
  gi_wp2_with fail
  exact placeOut w _ (.int .i64 (placeP ps id)) _ rfl b1 hb hK rfl (fun W' h => ⟨rfl, h⟩)
theorem len_gen (ps : List Pr) (v : Value) (q : Option Addr) (w : World) (hl : ∀ W, Below w.heap.size w W -> AllR W (.pointer q) v ps) (hps : ps.length <= 1000000) :
    Calls Tryz.prog 18 #[.pointer q] w fun e w' => e = .returned (.int .i64 ((stzP 0 ps).length : Nat)) /\ Below w.heap.size w w' := by
  obtain ⟨A, cap, hv, hle⟩ := (hl w (Below.refl _ _)).1.empty
  have ALL := Lib.hid (fun W hB => callsIn_wide (n := 8).2 (hl W hB).2)
  have HE := Lib.hid (fun W hB => (hl W hB).1)
  have ST := Lib.hid (fun W => callsIn_wide (n := 8).2 (stz7_any v W A ps.length cap hv))
  have HSL := Lib.hid (Nat.le_trans (stzG_len (κ := fun p : Pr => p.1.1.kind) 0 ps) hps)
  clear hl hv
  refine callsIn_wide (n := 9).1 ?_
  refine callsIn_of_wp_marks Tryz.func18 rfl trivial ?_ rfl
  simp only [Tryz.ntmps18, List.size_toArray, List.length_cons, List.length_nil, Nat.reduceAdd, Nat.reduceSub, Array.replicate_succ, Array.replicate_zero, List.push_toArray, List.append_toArray, List.nil_append, List.cons_append]
  gi_wp2_with fail
  have hb0 : Below w.heap.size w (w.alloc (.cells #[.int .i64 0] 3)) := (Below.refl _ w).alloc (Nat.le_refl _) _
  refine ⟨trivial, (ALL.out _ hb0).mono ?_⟩
  rintro e w1 ⟨rfl, rfl⟩
  gi_wp2_with fail
  refine ⟨trivial, (ST.out _).mono ?_⟩
  rintro e w1 ⟨rfl, rfl⟩
  gi_wp2_with fail
  obtain ⟨w1, hw1⟩ : ∃ w1, w1 = ((w.alloc (.cells #[.int .i64 0] 3)).alloc (.cells #[v] 90)) := ⟨_, rfl⟩
  have hz : w1.heap.size = w.heap.size + 2 := by rw [hw1]; simp
  have B0 : Boxed w1 w.heap.size 3 (.int .i64 0) := by rw [hw1]; exact (Boxed.new w _ _).alloc _
  have B1 : Boxed w1 (w.heap.size + 1) 90 v := by rw [hw1]; exact boxNew2 w _ _ _
  have hb1 : Below w.heap.size w w1 := by rw [hw1]; exact hb0.alloc (by simp) _
  rw [<- hw1]
  clear hw1 hb0
  have HH := stz_hands ps v _ w1 B1 hps (HE.out _ hb1)
  refine wp_rangedKA (gf := 53) (lb := #[.pointer (some ⟨w.heap.size + 1, 0, none⟩)]) rfl (enters_of Tryz.func53 (by kernel_rfl) rfl) HH (fun _ => rfl)
    (fun pre W => Boxed W w.heap.size 3 (.int .i64 (pre.length : Nat)) /\ Boxed W (w.heap.size + 1) 90 v /\ Below w.heap.size w W)
    (fun _ _ _ => False)
    (by
      rw [hz]
      exact (Abide.box (.inl (by omega)) (fun pre : List (Nat × Pr) => .int .i64 (pre.length : Nat))).and ((Abide.box (.inl (by omega)) _).and (Abide.below (Nat.le_refl _) (by omega))))
    (fun _ _ _ _ hs _ => hs)
    ⟨B0, B1, hb1⟩
    (fun pre W h => ⟨HE.out _ h.2.2, h.2.1⟩)
    (fun a pre x a' W => a' = { tmps := (a.tmps.setIfInBounds 7 (.int .i64 (x.1 : Nat))).setIfInBounds 8 (entV x.2), defers := [] } /\
      Boxed W w.heap.size 3 (.int .i64 (pre.length : Nat)) /\ Boxed W (w.heap.size + 1) 90 v /\ Below w.heap.size w W)
    ?hM ?assign ?body ?done ?stop
  case hM =>
    rw [hz]
    rintro a pre x a' _ W W' ⟨h1, h2, h3, h4⟩ ht
    exact ⟨h1, ht.box h2 (.inl (by omega)), ht.box h3 (.inl (by omega)), h4.trans (ht.below (by omega) (by have := h4.size; omega))⟩
  case assign =>
    rw [hz]
    intro l pre x post W hx hsz hi
    clear hx
    gi_wp2
    exact ⟨Stay.refl _ _ _, rfl, hi⟩
  case body =>
    rw [hz]
    rintro l pre x post a' W hx hsz ⟨rfl, b0, b1, hb⟩
    have hn : pre.length <= 1000000 := by have := congrArg List.length hx; have h2 := HSL.out; rw [this] at h2; simp at h2; omega
    simp only [List.setIfInBounds_toArray, List.set_cons_zero, List.set_cons_succ, entV]
    have c0 := b0.cell
    have f0 := b0.frozen
    clear hx
    gi_wp2_with fail
    have hwr : (((pre ++ [x]).length : Nat) : Int) = (pre.length : Int) + 1 := by simp
    refine ⟨(Stay.refl _ _ W).setCell (.inl (by show w.heap.size < _; omega)) _, ?_, b1.other (by show w.heap.size + 1 ≠ w.heap.size; omega) _, hb.setCell (p := ⟨w.heap.size, 0, none⟩) (Nat.le_refl _) _⟩
    rw [hwr]; exact Boxed.set _ b0
  case done =>
    rw [hz]
    rintro W ⟨b0, b1, hb⟩ hK
    have c := b0.cell
    gi_wp2
    refine ⟨by simp, .inl ⟨_, _, rfl, run_takeDeferred hK, ?_⟩⟩
    exact ⟨_, results_tmp rfl _ _ _, rfl, hb.trans (belowK_b (w := w) (Nat.le_refl _) W _ _ _ (by omega) hK rfl rfl)⟩
  case stop =>
  intro c pre W _ h _
  exact h.elim
theorem next_any (lb : Nat) (ev : Value) (ps : List Pr) (nx : Int) (w : World) (h : LR w lb ev ps nx) (hn : -1000000 <= nx /\ nx <= 1000000) :
    Calls Tryz.prog 25 #[ptr lb] w fun e w' => e = .returned (.int .i64 nx) /\ w = w' := by
  have c1 : w.cell? ⟨lb, 1, none⟩ = some (.int .i64 (nx - 1)) := h.head.cell 1
  clear h
  have hw : IntKind.i64.wrap (nx - 1 + 1) = nx := by rw [show nx - 1 + 1 = nx by omega]; exact IntWalk.i64_in _ (by omega)
  unfold ptr
  go_enter Tryz.func25, Tryz.ntmps25
  go_wp2_with fail
  go_ret
  exact ⟨by rw [<- hw]; rfl, rfl⟩
end Go.Proofs.YtfjklpgmnakcaaaGreatDoor
namespace Go.Proofs.YtfjklpgmnakcaaaGreatDoor
open Go.RowKit Go.Shelf
end Go.Proofs.YtfjklpgmnakcaaaGreatDoor
namespace Go.Proofs.YtfjklpgmnakcaaaGreatDoor
open Go.RowKit Go.Shelf
theorem ret_i1 {fn : Func} {p : Tmp} (h : fn.results = #[.cell p 80]) (tmps : Array Value) (w : World) (b : Nat) (cur : Array Value) (hp : tmps.getD p undef = .pointer (some ⟨b, 0, none⟩))
    (hc : Cells w b 80 cur) (hz : cur.size = 3) : (results fn tmps).run Tryz.prog w = .ok (.agg cur) w := by
  have L := run_loadVar_row (P := Tryz.prog) w b 80 80 cur (0, 0) _ hc Tryz.underlying80 rfl (by rw [hz]; kernel_rfl)
  rw [results_cell1 h, hp]
  show (loadVar _ _).run _ _ = _
  exact L
theorem refItem_any (fs : List Fld) (A : Option Addr) (n cap : Nat) (w : World) (hs : Flds w (.slice A n cap) fs) (hn : fs.length <= 1000) (hl : ∀ f ∈ fs, f.1.length <= 100000 /\ f.2.length <= 100000) :
    Calls Tryz.prog 75 #[.slice A n cap] w fun e w' => e = .returned (.agg #[.int .i64 3, .string (B (foldG fs)), .slice A n cap]) /\ Below w.heap.size w w' := by
  have hba : Below w.heap.size w (w.alloc (.cells #[.int .i64 0, .string ⟨#[]⟩, .slice none 0 0] 80)) := (Below.refl _ _).alloc (Nat.le_refl _) _
  have hza : (w.alloc (.cells #[.int .i64 0, .string ⟨#[]⟩, .slice none 0 0] 80)).heap.size = w.heap.size + 1 := by simp
  have RF := Lib.hid (refFold_any fs _ _ (hs.below hba (Nat.le_refl _)) hn hl)
  have BX := Lib.hid (Cells.new w 80 #[.int .i64 0, .string ⟨#[]⟩, .slice none 0 0])
  clear hs hl
  generalize foldG fs = T at *
  go_enter Tryz.func75, Tryz.ntmps75
  go_wp2_with fail
  refine RF.out.mono ?_
  rintro e w2 ⟨rfl, b2⟩
  have R2 := cells_kept BX.out b2 (by omega)
  have hb2 : Below w.heap.size w w2 := hba.trans (b2.mono (by omega))
  have hz2 := b2.size
  have c0 := R2.cell 0
  have c1 := R2.cell 1
  have c2 := R2.cell 2
  have f0 := R2.frozen 0
  have f1 := R2.frozen 1
  have f2 := R2.frozen 2
  simp only [List.getElem?_toArray, List.getElem?_cons_zero, List.getElem?_cons_succ] at c0 c1 c2
  have RE := ((R2.set 0 (.int .i64 3)).set 1 (.string (B T))).set 2 (.slice A n cap)
  rw [set3] at RE
  have HB : Below w.heap.size w (((w2.setCell ⟨w.heap.size, 0, none⟩ (.int .i64 3)).setCell ⟨w.heap.size, 1, none⟩ (.string (B T))).setCell ⟨w.heap.size, 2, none⟩ (.slice A n cap)) :=
    ((hb2.setCell (p := ⟨w.heap.size, 0, none⟩) (Nat.le_refl _) _).setCell (p := ⟨w.heap.size, 1, none⟩) (Nat.le_refl _) _).setCell (p := ⟨w.heap.size, 2, none⟩) (Nat.le_refl _) _
  have HBH := Lib.hid HB
  clear hb2 b2 RF HB
  go_wp2_with fail
  refine bodyPost_ret (ret_i1 rfl _ _ w.heap.size _ rfl RE rfl) rfl ?_
  exact ⟨rfl, HBH.out⟩
end Go.Proofs.YtfjklpgmnakcaaaGreatDoor
namespace Go.Proofs.YtfjklpgmnakcaaaGreatDoor
open Go.RowKit Go.Shelf
attribute [local go_sem] Oper.semAt_some
structure EntsOk (ps : List Pr) : Prop where
  len : ps.length <= 10000
  raw : ∀ p ∈ ps, p.1.1.raw.length <= 100000
  fields : ∀ p ∈ ps, p.1.1.fields.length <= 1000000
  num : ∀ p ∈ ps, -1000000 <= p.1.2 /\ p.1.2 <= 1000000
theorem ret_item {fn : Func} {p : Tmp} (h : fn.results = #[.cell p 80]) (tmps : Array Value) (w : World) (b : Nat) (cur : Array Value) (hp : tmps.getD p undef = .pointer (some ⟨b, 0, none⟩))
    (hc : Cells w b 80 cur) (hz : cur.size = 3) : (results fn tmps).run Tryz.prog w = .ok (.agg cur) w := ret_i1 h tmps w b cur hp hc hz
theorem item7_any (p : Pr) (w : World) (h : FldR w p.2 p.1.1.fields) (hn : p.1.1.fields.length <= 1000000) :
    Calls Tryz.prog 66 #[entV p] w fun e w' => ∃ x, e = .returned (.agg #[.int .i64 p.1.1.kind, .string (B p.1.1.raw), x]) /\ w'.ownsRow w.heap.size 55 2 x p.1.1.fields.length (cellsF p.1.1.fields) /\ Below w.heap.size w w' := by
  obtain ⟨⟨⟨kd, raw, fs⟩, num⟩, fv⟩ := p
  dsimp only at h hn ⊢
  obtain ⟨fa, fc, rfl⟩ := h.form
  unfold entV
  dsimp only
  generalize B raw = rw_ at *
  have hb3 : Below w.heap.size w (((w.alloc (.cells #[.int .i64 kd, .string rw_, .slice fa fs.length fc, .int .i64 num] 93)).alloc (.cells #[.int .i64 0, .string ⟨#[]⟩, .slice none 0 0] 80)).alloc (.cells #[.int .i64 kd, .string rw_, .slice fa fs.length fc] 80)) := (((Below.refl _ w).alloc (Nat.le_refl _) _).alloc (by simp) _).alloc (by simp; omega) _
  have CL := Lib.hid (clone_any fs (.slice fa fs.length fc) _ (h.1.below hb3 (Nat.le_refl _)) h.2 hn)
  have BX := Lib.hid (Cells.new ((w.alloc (.cells #[.int .i64 kd, .string rw_, .slice fa fs.length fc, .int .i64 num] 93)).alloc (.cells #[.int .i64 0, .string ⟨#[]⟩, .slice none 0 0] 80)) 80 #[.int .i64 kd, .string rw_, .slice fa fs.length fc])
  have BR := Lib.hid ((Cells.new (w.alloc (.cells #[.int .i64 kd, .string rw_, .slice fa fs.length fc, .int .i64 num] 93)) 80 #[.int .i64 0, .string ⟨#[]⟩, .slice none 0 0]).alloc (.cells #[.int .i64 kd, .string rw_, .slice fa fs.length fc] 80))
  have HB3 := Lib.hid hb3
  clear h hb3
  go_enter Tryz.func66, Tryz.ntmps66
  go_wp2_with fail
  refine CL.out.mono ?_
  rintro e w1 ⟨x, rfl, hx, b1⟩
  obtain ⟨xa, xc, rfl, _⟩ := own_slice hx
  have R1 := cells_kept BX.out b1 (by simp)
  have R2 := cells_kept BR.out b1 (by simp)
  rw [World.size_alloc, World.size_alloc] at R1
  rw [World.size_alloc] at R2
  have hz := b1.size
  simp only [World.size_alloc] at hz
  have c0 := R1.cell 0
  have c1 := R1.cell 1
  have c2 := R1.cell 2
  have f2 := R1.frozen 2
  have d0 := R2.cell 0
  have d1 := R2.cell 1
  have d2 := R2.cell 2
  have g0 := R2.frozen 0
  have g1 := R2.frozen 1
  have g2 := R2.frozen 2
  have HX := Lib.hid hx
  have hb1 := Lib.hid (HB3.out.trans (b1.mono HB3.out.size))
  have S1 := Lib.hid R1
  have S2 := Lib.hid R2
  simp only [List.getElem?_toArray, List.getElem?_cons_zero, List.getElem?_cons_succ] at c0 c1 c2 d0 d1 d2
  clear CL BX BR hx R1 R2 b1
  go_wp2_with fail
  have hne : ∀ k, k < w.heap.size + 3 -> ∀ y : Value, (Value.slice xa fs.length xc).ownBlock ≠ some k := fun k hk y e => by
    have := (HX.out.lt k e).1
    simp at this
    omega
  have RE := (((S2.out.other (p := ⟨w.heap.size + 1 + 1, 2, none⟩) (by show w.heap.size + 1 ≠ w.heap.size + 1 + 1; omega) (.slice xa fs.length xc)).set 0 (.int .i64 kd)).set 1 (.string rw_)).set 2 (.slice xa fs.length xc)
  rw [set3] at RE
  refine bodyPost_ret (ret_item rfl _ _ (w.heap.size + 1) _ rfl RE rfl) rfl ?_
  refine ⟨_, rfl, rowBase (row_cell (row_cell (row_cell (row_cell HX.out ?_ _) ?_ _) ?_ _) ?_ _) (by simp; omega), ?_⟩
  . exact hne _ (by show w.heap.size + 1 + 1 < _; omega) undef
  . exact hne _ (by show w.heap.size + 1 < _; omega) undef
  . exact hne _ (by show w.heap.size + 1 < _; omega) undef
  . exact hne _ (by show w.heap.size + 1 < _; omega) undef
  exact (((hb1.out.setCell (p := ⟨w.heap.size + 1 + 1, 2, none⟩) (by show w.heap.size <= w.heap.size + 1 + 1; omega) _).setCell (p := ⟨w.heap.size + 1, 0, none⟩) (by show w.heap.size <= w.heap.size + 1; omega) _).setCell (p := ⟨w.heap.size + 1, 1, none⟩) (by show w.heap.size <= w.heap.size + 1; omega) _).setCell (p := ⟨w.heap.size + 1, 2, none⟩) (by show w.heap.size <= w.heap.size + 1; omega) _
theorem find_any (lb : Nat) (ev : Value) (ps : List Pr) (nx id : Int) (w : World) (h : LR w lb ev ps nx) (hps : ps.length <= 1000000) :
    Calls Tryz.prog 71 #[ptr lb, .int .i64 id] w fun e w' => e = .returned (foundV (findP ps id)) /\ Below w.heap.size w w' :=
  find_gen ps ev (some ⟨lb, 0, none⟩) id w (fun _ hB => AllR.of (h.below hB (Nat.le_refl _))) hps
theorem findP_lt {ps : List Pr} {id : Int} {k : Nat} (h : findP ps id = some k) : ∃ p, ps[k]? = some p /\ p.1.1.kind = 3 /\ p.1.2 = id := by
  unfold findP at h
  obtain ⟨x, hx, rfl⟩ := Option.map_eq_some_iff.1 h
  have hm := List.mem_of_find?_eq_some hx
  have hq := List.find?_some hx
  obtain ⟨_, a, b⟩ := stzG_mem 0 ps x hm
  exact ⟨x.2, a, b, by simpa using hq⟩
theorem get_none (lb : Nat) (ev : Value) (ps : List Pr) (nx id : Int) (w : World) (h : LR w lb ev ps nx) (hps : ps.length <= 1000000) (hf : findP ps id = none) :
    Calls Tryz.prog 43 #[ptr lb, .int .i64 id] w fun e w' => e = .returned (.tuple #[.slice none 0 0, .bool false]) /\ Below w.heap.size w w' := by
  have FD := Lib.hid (find_any lb ev ps nx id w h hps)
  clear h
  unfold ptr at *
  rw [hf] at FD
  unfold foundV at FD
  dsimp only at FD
  go_enter Tryz.func43, Tryz.ntmps43
  go_wp2_with fail
  refine FD.out.mono ?_
  rintro e w1 ⟨rfl, b1⟩
  go_wp2_with fail
  go_ret2
  exact ⟨rfl, b1⟩
theorem get_some (lb : Nat) (ev : Value) (ps : List Pr) (nx id : Int) (w : World) (h : LR w lb ev ps nx) (hps : ps.length <= 1000000) {k : Nat} {p : Pr} (hf : findP ps id = some k) (hp : ps[k]? = some p) (hn : p.1.1.fields.length <= 1000000) :
    Calls Tryz.prog 43 #[ptr lb, .int .i64 id] w fun e w' => ∃ x, e = .returned (.tuple #[x, .bool true]) /\ w'.ownsRow w.heap.size 55 2 x p.1.1.fields.length (cellsF p.1.1.fields) /\ Below w.heap.size w w' := by
  have FD := Lib.hid (find_any lb ev ps nx id w h hps)
  have H := Lib.hid h
  clear h
  unfold ptr at *
  rw [hf] at FD
  unfold foundV at FD
  dsimp only at FD
  have hk := (List.getElem?_eq_some_iff.1 hp).1
  have HP := Lib.hid hp
  clear hf hp
  go_enter Tryz.func43, Tryz.ntmps43
  go_wp2_with fail
  refine FD.out.mono ?_
  rintro e w1 ⟨rfl, b1⟩
  have L1 := H.out.below b1 (Nat.le_refl _)
  obtain ⟨g, cap', pa, pc, rfl, hle, _, e2, _, _, d2, _⟩ := L1.ents.here HP.out
  have c0 : w1.cell? ⟨lb, 0, none⟩ = some (.slice (some ⟨g, 0, none⟩) ps.length cap') := L1.head.cell 0
  have hfr := L1.ents.each p (List.mem_of_getElem? HP.out)
  rw [e2] at d2 hfr
  have CL := Lib.hid (clone_any _ _ _ hfr.1 hfr.2 hn)
  have B1 := Lib.hid b1
  have hz := b1.size
  clear L1 FD b1 hfr
  go_wp2_with fail
  refine CL.out.mono ?_
  rintro e w2 ⟨x, rfl, hx, b2⟩
  have hb2 := B1.out.trans (b2.mono hz)
  have hx2 := rowBase hx hz
  obtain ⟨xa, xc, rfl, _⟩ := own_slice hx
  have HX := Lib.hid hx2
  clear hx hx2 CL
  go_wp2_with fail
  go_ret2
  exact ⟨_, rfl, HX.out, hb2⟩
def gapP (ps : List Pr) (behind : Int) : Option Nat := if behind = 0 then some 0 else (findP ps behind).map (· + 1)
theorem gap_any (lb : Nat) (ev : Value) (ps : List Pr) (nx id : Int) (w : World) (h : LR w lb ev ps nx) (hps : ps.length <= 1000000) :
    Calls Tryz.prog 93 #[ptr lb, .int .i64 id] w fun e w' => (∃ k : Nat, e = .returned (.tuple #[.int .i64 k, .bool (gapP ps id).isSome]) /\ ∀ j, gapP ps id = some j -> k = j) /\ Below w.heap.size w w' := by
  have FD := Lib.hid (find_any lb ev ps nx id w h hps)
  clear h
  unfold ptr at *
  by_cases h0 : id = 0
  . subst h0
    go_enter Tryz.func93, Tryz.ntmps93
    go_wp2_with fail
    go_ret2
    exact ⟨⟨0, rfl, fun j h => by cases h; rfl⟩, Below.refl _ _⟩
  have h1 : ((id : Int) == 0) = false := beq_eq_false_iff_ne.2 h0
  unfold gapP
  rw [if_neg h0]
  cases hf : findP ps id with
  | none =>
    rw [hf] at FD
    unfold foundV at FD
    dsimp only at FD
    go_enter Tryz.func93, Tryz.ntmps93
    go_wp2_with fail
    refine FD.out.mono ?_
    rintro e w1 ⟨rfl, b1⟩
    go_wp2_with fail
    go_ret2
    exact ⟨⟨1, rfl, fun j h => by cases h⟩, b1⟩
  | some k =>
  obtain ⟨p, hp, _, _⟩ := findP_lt hf
  have hk := (List.getElem?_eq_some_iff.1 hp).1
  rw [hf] at FD
  unfold foundV at FD
  dsimp only at FD
  clear hf hp
  go_enter Tryz.func93, Tryz.ntmps93
  go_wp2_with fail
  refine FD.out.mono ?_
  rintro e w1 ⟨rfl, b1⟩
  go_wp2_with fail
  go_ret2
  exact ⟨⟨k + 1, rfl, fun j h => by cases h; rfl⟩, b1⟩
end Go.Proofs.YtfjklpgmnakcaaaGreatDoor
namespace Go.Proofs.YtfjklpgmnakcaaaGreatDoor
open Go.RowKit
def calm (ops : Array Oper) : Bool := ops.all fun o => match o.op with | .defer _ => false | _ => true
theorem calm_of {ops : Array Oper} (h : calm ops = true) {i : Nat} {o : Oper} (ho : ops[i]? = some o) : ∀ c, o.op ≠ .defer c := by
  intro c e
  have hm := Array.mem_of_getElem? ho
  have := (Array.all_eq_true_iff_forall_mem.1 h) o hm
  simp [e] at this
theorem opIn_round {n l : Nat} {P : Program} {o : Oper} {a : Act} {w : World} {next : Act -> World -> Prop} {Q : Exit -> Act -> World -> Prop} (h : ∀ c, o.op ≠ .defer c)
    (g : o.wpIn Fence.wide n P a w next Q) : o.wpIn (Fence.wide.inRound l) n P a w next Q := by
  refine ⟨g.1, ?_⟩
  have g2 := g.2
  rw [Oper.semAt_eq _ _ _ h] at g2 ⊢
  generalize (execOp a.eval o).run P w = r at g2 ⊢
  cases r with
  | ok x w' => cases x <;> exact g2
  | halt x w' => cases x <;> exact g2
theorem opsIn_round {n l : Nat} {P : Program} {md : Region.Mode} {ops : Array Oper} {Q : Exit -> Act -> World -> Prop} (h : calm ops = true) : ∀ (fuel : Nat) (listed : Array Bool) (a : Act) (w : World),
    wpAnyIn Fence.wide n P md ops Q fuel listed a w -> wpAnyIn (Fence.wide.inRound l) n P md ops Q fuel listed a w
  | 0, _, _, _, g => g
  | fuel + 1, listed, a, w, g => by
    refine ⟨g.1, fun i hi => ?_⟩
    have g2 := g.2 i hi
    unfold wpOpIn at g2 ⊢
    cases ho : ops[i]? with
    | none => rw [ho] at g2; exact opsIn_round h fuel _ _ _ g2
    | some o =>
    rw [ho] at g2
    simp only at g2 ⊢
    split at g2
    . rename_i hw
      rw [if_pos hw]
      exact opIn_round (calm_of h ho) (opIn_mono (fun a w => opsIn_round h fuel _ a w) g2)
    rename_i hw
    rw [if_neg hw]
    exact ⟨g2.1, opsIn_round h fuel _ _ _ g2.2⟩
where
  opIn_mono {n : Nat} {P : Program} {o : Oper} {a : Act} {w : World} {K K' : Act -> World -> Prop} {Q : Exit -> Act -> World -> Prop} (h : ∀ a w, K a w -> K' a w) (g : o.wpIn Fence.wide n P a w K Q) : o.wpIn Fence.wide n P a w K' Q := by
    refine ⟨g.1, ?_⟩
    have g2 := g.2
    generalize (Oper.semAt Fence.wide.round a.eval o).run P w = r at g2 ⊢
    cases r with
    | ok x w' =>
      cases x with
      | enter f args => exact ⟨g2.1, g2.2.mono fun e w hh => by cases e <;> first | exact h _ _ hh | exact hh⟩
      | row f args => exact ⟨g2.1, fun c cs hr => by obtain ⟨v, w', hv, hs⟩ := g2.2 c cs hr; exact ⟨v, w', h _ _ hv, hs⟩⟩
      | round l f t x y => exact ⟨g2.1, g2.2.mono fun e w hh => by cases e <;> first | exact h _ _ hh | exact hh⟩
      | value v => exact h _ _ g2
      | skip => exact h _ _ g2
      | defer d => exact h _ _ g2
      | _ => exact g2
    | halt x w' => cases x <;> exact g2
end Go.Proofs.YtfjklpgmnakcaaaGreatDoor
namespace Go.Proofs.YtfjklpgmnakcaaaGreatDoor
open Go.RowKit
theorem rows_wide {n : Nat} {P : Program} {row : String} {args : Array Value} {w : World} {R : Value -> World -> Prop} (h : Rows P row args w R) : RowsIn Fence.wide n P row args w R := by
  intro c cs _
  obtain ⟨v, w', r, s⟩ := h c cs
  exact ⟨v, w', r, stepsIn_wide.2 s⟩
theorem oper_wide {n : Nat} {P : Program} {o : Oper} {a : Act} {w : World} {K : Act -> World -> Prop} {Q : Exit -> Act -> World -> Prop} (h : ∀ c, o.op ≠ .defer c) (g : o.wp P a w K Q) : o.wpIn Fence.wide n P a w K Q := by
  refine ⟨fun _ _ => trivial, ?_⟩
  unfold Oper.wp at g
  rw [Oper.semAt_eq _ _ _ h]
  generalize (execOp a.eval o).run P w = r at g ⊢
  cases r with
  | ok x w' =>
    cases x with
    | enter f args => exact ⟨fun q => by simp [Fence.wide] at q, callsIn_wide.2 g⟩
    | row f args => exact ⟨fun q => by simp [Fence.wide] at q, rows_wide g⟩
    | round l f t x y => exact g.elim
    | value v => exact g
    | skip => exact g
    | defer d => exact g
    | _ => exact g
  | halt x w' => cases x <;> exact g
theorem ops_wide {n : Nat} {P : Program} {md : Region.Mode} {ops : Array Oper} {Q : Exit -> Act -> World -> Prop} (h : calm ops = true) (hno : ¬ LetsOut Q) : ∀ (fuel : Nat) (listed : Array Bool) (a : Act) (w : World),
    wpAny P md ops Q fuel listed a w -> wpAnyIn Fence.wide n P md ops Q fuel listed a w
  | 0, _, _, _, g => g
  | fuel + 1, listed, a, w, g => by
    refine ⟨g.1, fun i hi => ?_⟩
    have g2 := g.2 i hi
    unfold wpOpIn
    unfold wpOp at g2
    cases ho : ops[i]? with
    | none => rw [ho] at g2; exact ops_wide h hno fuel _ _ _ g2
    | some o =>
    rw [ho] at g2
    simp only at g2 ⊢
    split at g2
    . rename_i hw
      rw [if_pos hw]
      exact oper_wide (calm_of h ho) (Oper.wp_mono (fun a w => ops_wide h hno fuel _ a w) (g2.resolve_right fun q => hno q.2))
    rename_i hw
    rw [if_neg hw]
    exact ⟨fun _ _ => trivial, ops_wide h hno fuel _ _ _ g2⟩
theorem wp_region_round {n r : Nat} {P : Program} {id : Nat} {ops : Array Oper} {Q : Exit -> Act -> World -> Prop} {a : Act} {w : World} (hd : calm ops = true) (hno : ¬ LetsOut Q) (hm : P.follows .mixedOrders = true) (h : wpAny P .any ops Q ops.size (Array.replicate ops.size false) a w.drew) :
    (Code.region id ops true).wpIn (Fence.wide.inRound r) n P Q a w :=
  wpIn_region_any hm (opsIn_round hd _ _ _ _ (ops_wide hd hno _ _ _ _ h))
end Go.Proofs.YtfjklpgmnakcaaaGreatDoor
namespace Go.Proofs.YtfjklpgmnakcaaaGreatDoor
open Go.RowKit Go.Shelf
def ops29 : Array Oper := #[{ dst := some 106, op := Op.buildSlice 46 0 #[], type := 46, pos := "ref.go:71", after := #[], guard := none }, { dst := some 107, op := Op.fieldAddr 80 (Operand.tmp 9) 2, type := 0, pos := "ref.go:71", after := #[], guard := none }, { dst := some 108, op := Op.load 46 (Operand.tmp 107), type := 46, pos := "ref.go:71", after := #[{ on := 1, ground := Ground.data }], guard := none }, { dst := some 109, op := Op.call { callee := Callee.builtin Builtin.append, args := #[Operand.tmp 106, Operand.tmp 108], argTypes := #[46, 46] }, type := 46, pos := "ref.go:71", after := #[{ on := 0, ground := Ground.data }, { on := 2, ground := Ground.data }], guard := none }, { dst := some 110, op := Op.load 55 (Operand.tmp 13), type := 55, pos := "ref.go:71", after := #[], guard := none }, { dst := some 111, op := Op.buildSlice 46 1 #[(0, Operand.tmp 110)], type := 46, pos := "ref.go:71", after := #[{ on := 4, ground := Ground.data }], guard := none }, { dst := some 112, op := Op.call { callee := Callee.builtin Builtin.append, args := #[Operand.tmp 109, Operand.tmp 111], argTypes := #[46, 46] }, type := 46, pos := "ref.go:71", after := #[{ on := 3, ground := Ground.data }, { on := 5, ground := Ground.data }, { on := 3, ground := Ground.chain }], guard := none }, { dst := some 113, op := Op.fieldAddr 80 (Operand.tmp 9) 2, type := 0, pos := "ref.go:71", after := #[{ on := 0, ground := Ground.phase }, { on := 1, ground := Ground.phase }, { on := 2, ground := Ground.phase }, { on := 3, ground := Ground.phase }, { on := 4, ground := Ground.phase }, { on := 5, ground := Ground.phase }, { on := 6, ground := Ground.phase }], guard := none }, { dst := none, op := Op.store 46 (Operand.tmp 113) (Operand.tmp 112), type := 0, pos := "ref.go:71", after := #[{ on := 7, ground := Ground.data }, { on := 6, ground := Ground.data }, { on := 6, ground := Ground.chain }, { on := 0, ground := Ground.phase }, { on := 1, ground := Ground.phase }, { on := 2, ground := Ground.phase }, { on := 3, ground := Ground.phase }, { on := 4, ground := Ground.phase }, { on := 5, ground := Ground.phase }, { on := 6, ground := Ground.phase }], guard := none }]
theorem done29 : ∀ b0 b1 b2 b3 b4 b5 b6 b7 b8 : Bool, Region.ready .any ops29 #[b0, b1, b2, b3, b4, b5, b6, b7, b8] = [] -> b8 = true := by decide +kernel
theorem ev29 {a : Act} {i : Nat} {v : Value} (h : a.tmps[i]? = some v) : a.eval (.tmp i) = v := by
  show a.tmps.getD i undef = v
  rw [Array.getD_eq_getD_getElem?, h]; rfl
theorem put29 {a : Act} {d : Nat} {v : Value} (hd : d < a.tmps.size) (j : Nat) : (a.put (some d) v).tmps[j]? = if j = d then some v else a.tmps[j]? := by
  show (a.tmps.setIfInBounds d v)[j]? = _
  rw [Array.getElem?_setIfInBounds]
  by_cases h : d = j
  . subst h; simp [hd]
  rw [if_neg h, if_neg (Ne.symm h)]
theorem size29 (a : Act) (d : Nat) (v : Value) : (a.put (some d) v).tmps.size = a.tmps.size := by show (a.tmps.setIfInBounds d v).size = _; simp
theorem go_lit0 {o : Oper} {a : Act} {w : World} {K : Act -> World -> Prop} {Q : Exit -> Act -> World -> Prop} (ho : o.op = Op.buildSlice 46 0 #[]) (hK : K (a.put o.dst (.slice (some ⟨w.heap.size, 0, none⟩) 0 0)) (w.alloc (.cells #[] 55))) : Oper.wp Tryz.prog o a w K Q := by
  unfold Oper.wp
  have e : (execOp a.eval o).run Tryz.prog w = .ok (.value (.slice (some ⟨w.heap.size, 0, none⟩) 0 0)) (w.alloc (.cells #[] 55)) := by
    simp only [execOp, ho]
    kernel_rfl
  rw [e]; exact hK
theorem go_lit1 {o : Oper} {a : Act} {w : World} {K : Act -> World -> Prop} {Q : Exit -> Act -> World -> Prop} {x : Operand} {s t : ByteArray} (ho : o.op = Op.buildSlice 46 1 #[(0, x)]) (hx : a.eval x = .agg #[.string s, .string t]) (hK : K (a.put o.dst (.slice (some ⟨w.heap.size, 0, none⟩) 1 1)) (w.alloc (.cells #[.string s, .string t] 55))) : Oper.wp Tryz.prog o a w K Q := by
  unfold Oper.wp
  have e : (execOp a.eval o).run Tryz.prog w = .ok (.value (.slice (some ⟨w.heap.size, 0, none⟩) 1 1)) (w.alloc (.cells #[.string s, .string t] 55)) := by
    simp only [execOp, ho]
    rw [show (Array.map (fun (p : Nat × Operand) => match p with | (i, x) => (i, a.eval x)) #[((0 : Nat), x)]) = #[((0 : Nat), Value.agg #[.string s, .string t])] from by rw [<- hx]; simp]
    kernel_rfl
  rw [e]; exact hK
theorem go_faddr {o : Oper} {a : Act} {w : World} {K : Act -> World -> Prop} {Q : Exit -> Act -> World -> Prop} {x : Operand} {b : Nat} (ho : o.op = Op.fieldAddr 80 x 2) (hx : a.eval x = .pointer (some ⟨b, 0, none⟩)) (hK : K (a.put o.dst (.pointer (some ⟨b, 2, none⟩))) w) : Oper.wp Tryz.prog o a w K Q := by
  unfold Oper.wp
  have e : (execOp a.eval o).run Tryz.prog w = .ok (.value (.pointer (some ⟨b, 2, none⟩))) w := by
    simp only [execOp, ho, hx]
    simp [go_sem, Result.andThen]
  rw [e]; exact hK
theorem go_load1 {o : Oper} {a : Act} {w : World} {K : Act -> World -> Prop} {Q : Exit -> Act -> World -> Prop} {x : Operand} {p : Addr} {v : Value} (ho : o.op = Op.load 46 x) (hx : a.eval x = .pointer (some p)) (hc : w.cell? p = some v) (hK : K (a.put o.dst v) w) : Oper.wp Tryz.prog o a w K Q := by
  unfold Oper.wp
  have e : (execOp a.eval o).run Tryz.prog w = .ok (.value v) w := by
    simp only [execOp, ho, hx]
    simp [go_sem, Result.andThen, hc]
  rw [e]; exact hK
theorem go_load2 {o : Oper} {a : Act} {w : World} {K : Act -> World -> Prop} {Q : Exit -> Act -> World -> Prop} {x : Operand} {b : Nat} {u v : Value} (ho : o.op = Op.load 55 x) (hx : a.eval x = .pointer (some ⟨b, 0, none⟩)) (hc : w.cell? ⟨b, 0, none⟩ = some u) (hd : w.cell? ⟨b, 1, none⟩ = some v) (hK : K (a.put o.dst (.agg #[u, v])) w) : Oper.wp Tryz.prog o a w K Q := by
  unfold Oper.wp
  have e : (execOp a.eval o).run Tryz.prog w = .ok (.value (.agg #[u, v])) w := by
    simp only [execOp, ho, hx]
    simp [go_sem, Result.andThen, hc, hd]
  rw [e]; exact hK
theorem go_store1 {o : Oper} {a : Act} {w : World} {K : Act -> World -> Prop} {Q : Exit -> Act -> World -> Prop} {x y : Operand} {p : Addr} {u : Value} {g : Option Addr} {n c : Nat} (ho : o.op = Op.store 46 x y) (hx : a.eval x = .pointer (some p)) (hy : a.eval y = .slice g n c) (hc : w.cell? p = some u) (hf : w.frozen? p = false) (hK : K (a.put o.dst undef) (w.setCell p (.slice g n c))) : Oper.wp Tryz.prog o a w K Q := by
  unfold Oper.wp
  have e : (execOp a.eval o).run Tryz.prog w = .ok .skip (w.setCell p (.slice g n c)) := by
    simp only [execOp, ho, hx, hy]
    simp [go_sem, Result.andThen, hc, hf]
  rw [e]; exact hK
end Go.Proofs.YtfjklpgmnakcaaaGreatDoor
