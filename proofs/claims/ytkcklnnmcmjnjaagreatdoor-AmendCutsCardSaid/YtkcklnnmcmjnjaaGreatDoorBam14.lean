/- Texts put together: UD, UE, TG, TJ, UF, RI, RQ, RK, QI, QJ, UG, UH. -/
import Derived.Deep.RegionHeld3
import Derived.WalkKit
import Derived.Orders
import Derived.Sort.BigQuietIn
import Derived.Shelf.RegionOpen
import Derived.Test.YtkcklnnmcmjnjaaGreatDoorBam5
import Derived.Test.YtkcklnnmcmjnjaaGreatDoorBam10
import Derived.Test.YtkcklnnmcmjnjaaGreatDoorBam11
import Derived.Test.YtkcklnnmcmjnjaaGreatDoorBam12
import Derived.Test.YtkcklnnmcmjnjaaGreatDoorBam13
set_option linter.unusedVariables false
namespace Go.Proofs.YtkcklnnmcmjnjaaGreatDoor
open Go.RowKit Go.Shelf
attribute [local go_sem] Oper.semAt_some

/-- A list in memory, readable: its block, its entries' slice. -/
structure LR (w : World) (lb : Nat) (ev : Value) (ps : List Pr) (nx : Int) : Prop where
  head : Cells w lb 153 #[ev, .int .i64 (nx - 1)]
  ents : EntsR w ev ps
theorem LR.below {w w' : World} {lb : Nat} {ev : Value} {ps : List Pr} {nx : Int} {n : Nat} (h : LR w lb ev ps nx) (hb : Below n w w') (hn : w.heap.size ≤ n) : LR w' lb ev ps nx :=
  ⟨h.head.below hb (Nat.lt_of_lt_of_le h.head.lt hn), h.ents.below hb hn⟩
abbrev ptr (b : Nat) : Value := .pointer (some ⟨b, 0, none⟩)
theorem all_any (lb : Nat) (ev : Value) (ps : List Pr) (nx : Int) (w : World) (h : LR w lb ev ps nx) :
    Calls Tryz.prog 65 #[ptr lb] w fun e w' => e = .returned ev ∧ w = w' := by
  obtain ⟨A, cap, rfl, hle⟩ := h.ents.empty
  have c0 : w.cell? ⟨lb, 0, none⟩ = some (.slice A ps.length cap) := h.head.cell 0
  clear h
  unfold ptr
  go_enter Tryz.func65, Tryz.ntmps65
  go_wp2_with fail
  go_ret
  exact ⟨rfl, rfl⟩
theorem all_none (w : World) : Calls Tryz.prog 65 #[.pointer none] w fun e w' => e = .returned (.slice none 0 0) ∧ w = w' := by
  go_enter Tryz.func65, Tryz.ntmps65
  go_wp2_with fail
  go_ret
  exact ⟨rfl, rfl⟩
/-- Where the stanza of a number stands. -/
def findP (ps : List Pr) (id : Int) : Option Nat := ((stzP 0 ps).find? fun x => x.2.1.2 == id).map Prod.fst
def foundV (o : Option Nat) : Value := match o with | none => .tuple #[.int .i64 0, .bool false] | some k => .tuple #[.int .i64 (k : Nat), .bool true]
theorem entsNone (w : World) : EntsR w (.slice none 0 0) [] := ⟨⟨rfl, .inl ⟨rfl, rfl⟩⟩, fun p h => by cases h⟩
/-- What all answers: of a list, or of none. -/
def AllR (w : World) (l v : Value) (ps : List Pr) : Prop := EntsR w v ps ∧ Calls Tryz.prog 65 #[l] w fun e w' => e = .returned v ∧ w = w'
theorem AllR.of {w : World} {lb : Nat} {ev : Value} {ps : List Pr} {nx : Int} (h : LR w lb ev ps nx) : AllR w (ptr lb) ev ps := ⟨h.ents, all_any lb ev ps nx w h⟩
theorem AllR.none (w : World) : AllR w (.pointer none) (.slice none 0 0) [] := ⟨entsNone w, all_none w⟩
theorem find_none {ps : List Pr} {id : Int} (h : ∀ y ∈ stzP 0 ps, y.2.1.2 ≠ id) : findP ps id = none := by
  unfold findP
  rw [List.find?_eq_none.2 (fun x hx => by simpa using h x hx)]; rfl
theorem find_some {ps : List Pr} {id : Int} {pre post : List (Nat × Pr)} {x : Nat × Pr} (h : stzP 0 ps = pre ++ x :: post) (h1 : ∀ y ∈ pre, y.2.1.2 ≠ id) (h2 : x.2.1.2 = id) : findP ps id = some x.1 := by
  unfold findP
  rw [h, List.find?_append, List.find?_eq_none.2 (fun y hy => by simpa using h1 y hy), List.find?_cons_of_pos (by simpa using h2)]; rfl
theorem entBox {W : World} {Bx : Nat} {p : Pr} (h : Cells W Bx 118 #[.int .i64 p.1.1.kind, .string (B p.1.1.raw), p.2, .int .i64 p.1.2]) : W.cell? ⟨Bx, 0, none⟩ = some (.int .i64 p.1.1.kind) ∧ W.cell? ⟨Bx, 1, none⟩ = some (.string (B p.1.1.raw)) ∧ W.cell? ⟨Bx, 2, none⟩ = some p.2 ∧ W.cell? ⟨Bx, 3, none⟩ = some (.int .i64 p.1.2) :=
  ⟨h.cell 0, h.cell 1, h.cell 2, h.cell 3⟩
theorem findOut {Q : Ending → World → Prop} (w W : World) (v e : Value) (tmps : Array Value) (hv1 : v.oneCell' = true) (he1 : e.oneCell' = true) (h4 : Boxed W (w.heap.size + 1) 3 v) (h5 : Boxed W (w.heap.size + 1 + 1) 4 e) (hB : Below w.heap.size w W)
    (hK : W.heap[w.heap.size + 4]? = some (.deferred (some []))) (t4 : tmps[4]? = some (.pointer (some ⟨w.heap.size + 1, 0, none⟩))) (t5 : tmps[5]? = some (.pointer (some ⟨w.heap.size + 1 + 1, 0, none⟩)))
    (hQ : ∀ W', Below w.heap.size w W' → Q (.returned (.tuple #[v, e])) W') :
    bodyPostM Fence.wide 9 Tryz.prog Tryz.f134 Q .ret { tmps := tmps, defers := [{ target := .collected (w.heap.size + 4), args := #[] }] } W := by
  have p1 := grownBy_putObj' W (w.heap.size + 4) (.deferred none)
  have r4 : Boxed (W.putObj (w.heap.size + 4) (.deferred none)) (w.heap.size + 1) 3 v := (p1.block _ h4.lt (fun e => by have := Option.some.inj e; omega)).trans h4
  have r5 : Boxed (W.putObj (w.heap.size + 4) (.deferred none)) (w.heap.size + 1 + 1) 4 e := (p1.block _ h5.lt (fun e => by have := Option.some.inj e; omega)).trans h5
  have c4 := r4.cell
  have c5 := r5.cell
  refine ⟨by simp, .inl ⟨_, _, rfl, run_takeDeferred hK, ?_⟩⟩
  exact ⟨.tuple #[v, e], by simp [results, Tryz.f134, go_sem, t4, t5, c4, c5], hQ _ (hB.trans (belowK_b (w := w) (Nat.le_refl _) W _ _ _ (by omega) hK rfl rfl))⟩
set_option maxRecDepth 100000 in
set_option maxHeartbeats 4000000 in
theorem find_gen (ps : List Pr) (v : Value) (q : Option Addr) (id : Int) (w : World) (hl : ∀ W, Below w.heap.size w W → AllR W (.pointer q) v ps) (hps : ps.length ≤ 1000000) :
    Calls Tryz.prog 134 #[.pointer q, .int .i64 id] w fun e w' => e = .returned (foundV (findP ps id)) ∧ Below w.heap.size w w' := by
  obtain ⟨A, cap, hv, hle⟩ := (hl w (Below.refl _ _)).1.empty
  have ALL := Lib.hid (fun W hB => callsIn_wide (n := 8).2 (hl W hB).2)
  have HE := Lib.hid (fun W hB => (hl W hB).1)
  have ST := Lib.hid (fun W => callsIn_wide (n := 8).2 (stz7_any v W A ps.length cap hv))
  have HV := Lib.hid hv
  clear hl hv
  refine callsIn_wide (n := 9).1 ?_
  refine callsIn_of_wp_marks Tryz.func134 rfl trivial ?_ rfl
  simp only [Tryz.ntmps134, List.size_toArray, List.length_cons, List.length_nil, Nat.reduceAdd, Nat.reduceSub, Array.replicate_succ, Array.replicate_zero, List.push_toArray, List.append_toArray, List.nil_append, List.cons_append]
  gi_wp2_with fail
  have hb0 : Below w.heap.size w (((w.alloc (.cells #[.int .i64 id] 3)).alloc (.cells #[.int .i64 0] 3)).alloc (.cells #[.bool false] 4)) := (((Below.refl _ w).alloc (Nat.le_refl _) _).alloc (by simp) _).alloc (by simp; omega) _
  refine ⟨trivial, (ALL.out _ hb0).mono ?_⟩
  rintro e w1 ⟨rfl, rfl⟩
  gi_wp2_with fail
  refine ⟨trivial, (ST.out _).mono ?_⟩
  rintro e w1 ⟨rfl, rfl⟩
  gi_wp2_with fail
  obtain ⟨w1, hw1⟩ : ∃ w1, w1 = ((((w.alloc (.cells #[.int .i64 id] 3)).alloc (.cells #[.int .i64 0] 3)).alloc (.cells #[.bool false] 4)).alloc (.cells #[v] 115)) := ⟨_, rfl⟩
  have hz : w1.heap.size = w.heap.size + 4 := by rw [hw1]; simp
  have B0 : Boxed w1 w.heap.size 3 (.int .i64 id) := by rw [hw1]; exact (((Boxed.new w _ _).alloc _).alloc _).alloc _
  have B1 : Boxed w1 (w.heap.size + 1) 3 (.int .i64 0) := by rw [hw1]; exact ((boxNew2 w _ _ _).alloc _).alloc _
  have B2 : Boxed w1 (w.heap.size + 1 + 1) 4 (.bool false) := by rw [hw1]; exact (boxNew3 w _ _ _ _).alloc _
  have B3 : Boxed w1 (w.heap.size + 1 + 1 + 1) 115 v := by rw [hw1]; exact boxNew4 w _ _ _ _ _
  have hb1 : Below w.heap.size w w1 := by rw [hw1]; exact hb0.alloc (by simp; omega) _
  rw [← hw1]
  clear hw1 hb0
  have HH := stz_hands ps v _ w1 B3 hps (HE.out _ hb1)
  refine wp_rangedKA (gf := 102) (lb := #[.pointer (some ⟨w.heap.size + 1 + 1 + 1, 0, none⟩)]) rfl (enters_of Tryz.func102 (by kernel_rfl) rfl) HH (fun _ => rfl)
    (fun pre W => (∀ y ∈ pre, y.2.1.2 ≠ id) ∧ Boxed W w.heap.size 3 (.int .i64 id) ∧ Boxed W (w.heap.size + 1) 3 (.int .i64 0) ∧ Boxed W (w.heap.size + 1 + 1) 4 (.bool false) ∧ Boxed W (w.heap.size + 1 + 1 + 1) 115 v ∧ Below w.heap.size w W)
    (fun c pre W => c = .ret ∧ (∃ k, findP ps id = some k ∧ Boxed W (w.heap.size + 1) 3 (.int .i64 (k : Nat)) ∧ Boxed W (w.heap.size + 1 + 1) 4 (.bool true) ∧ Below w.heap.size w W))
    (by
      rw [hz]
      exact (Abide.pure _ _ _).and ((Abide.box (.inl (by omega)) _).and ((Abide.box (.inl (by omega)) _).and ((Abide.box (.inl (by omega)) _).and ((Abide.box (.inl (by omega)) _).and (Abide.below (Nat.le_refl _) (by omega)))))))
    (by
      rw [hz]
      rintro c s W W' ⟨h0, k, h1, h2, h3, h4⟩ ht
      exact ⟨h0, k, h1, ht.box h2 (.inl (by omega)), ht.box h3 (.inl (by omega)), h4.trans (ht.below (by omega) (by have := h4.size; omega))⟩)
    ⟨(fun y h => by cases h), B0, B1, B2, B3, hb1⟩
    (fun pre W h => ⟨HE.out _ h.2.2.2.2.2, h.2.2.2.2.1⟩)
    (fun a pre x a' W => ∃ Bx, w.heap.size + 8 ≤ Bx ∧ a' = { tmps := (((a.tmps.setIfInBounds 11 (.int .i64 (x.1 : Nat))).setIfInBounds 12 (entV x.2)).setIfInBounds 6 (.int .i64 (x.1 : Nat))).setIfInBounds 7 (ptr Bx), defers := [] } ∧ Cells W Bx 118 #[.int .i64 x.2.1.1.kind, .string (B x.2.1.1.raw), x.2.2, .int .i64 x.2.1.2] ∧
      (∀ y ∈ pre, y.2.1.2 ≠ id) ∧ Boxed W w.heap.size 3 (.int .i64 id) ∧ Boxed W (w.heap.size + 1) 3 (.int .i64 0) ∧ Boxed W (w.heap.size + 1 + 1) 4 (.bool false) ∧ Boxed W (w.heap.size + 1 + 1 + 1) 115 v ∧ Below w.heap.size w W)
    ?hM ?assign ?body ?done ?stop
  case hM =>
    rw [hz]
    rintro a pre x a' _ W W' ⟨Bx, h1, h2, h3, h4, h5, h6, h7, h8, h9⟩ ht
    exact ⟨Bx, h1, h2, (ht.same Bx h3.lt (.inr (by omega))).trans h3, h4, ht.box h5 (.inl (by omega)), ht.box h6 (.inl (by omega)), ht.box h7 (.inl (by omega)), ht.box h8 (.inl (by omega)), h9.trans (ht.below (by omega) (by have := h9.size; omega))⟩
  case assign =>
    rw [hz]
    intro l pre x post W hx hsz hi
    have hfr : ∃ fa fc, x.2.2 = .slice fa x.2.1.1.fields.length fc := by
      have hm := stzG_mem 0 ps x (by rw [show stzG (fun p : Pr => p.1.1.kind) 0 ps = _ from hx]; simp)
      exact ((HE.out _ hi.2.2.2.2.2).each x.2 (List.mem_of_getElem? hm.2.1)).form
    obtain ⟨k, ⟨⟨⟨kd, raw, fs⟩, num⟩, fv⟩⟩ := x
    obtain ⟨fa, fc, e⟩ := hfr
    dsimp only at e
    subst e
    clear hx
    dsimp only [entV]
    gi_wp2
    exact ⟨(Stay.refl _ _ W).alloc hsz _, W.heap.size, by omega, rfl, Cells.new _ _ _, hi.1, hi.2.1.alloc _, hi.2.2.1.alloc _, hi.2.2.2.1.alloc _, hi.2.2.2.2.1.alloc _, hi.2.2.2.2.2.alloc hi.2.2.2.2.2.size _⟩
  case body =>
    rw [hz]
    rintro l pre x post a' W hx hsz ⟨Bx, hB, rfl, hc, hpre, b0, b1, b2, b3, hb⟩
    simp only [List.setIfInBounds_toArray, List.set_cons_zero, List.set_cons_succ, entV]
    have q3 := (entBox hc).2.2.2
    have c0 := b0.cell
    have c1 := b1.cell
    have c2 := b2.cell
    have f1 := b1.frozen
    have f2 := b2.frozen
    have FS := Lib.hid (fun h => find_some hx hpre h)
    have HPRE := Lib.hid hpre
    clear hpre hx
    by_cases hq : x.2.1.2 = id
    · rw [hq] at q3
      gi_wp2_with fail
      have hst : Stay (w.heap.size + 4) 4 W ((W.setCell ⟨w.heap.size + 1, 0, none⟩ (.int .i64 (x.1 : Nat))).setCell ⟨w.heap.size + 1 + 1, 0, none⟩ (.bool true)) := ((Stay.refl _ _ W).setCell (.inl (by show w.heap.size + 1 < _; omega)) _).setCell (.inl (by show w.heap.size + 1 + 1 < _; omega)) _
      refine ⟨hst, rfl, x.1, FS.out hq, (Boxed.set _ b1).other (by show w.heap.size + 1 ≠ w.heap.size + 1 + 1; omega) _, Boxed.set _ (b2.other (by show w.heap.size + 1 + 1 ≠ w.heap.size + 1; omega) _), ?_⟩
      exact (hb.setCell (p := ⟨w.heap.size + 1, 0, none⟩) (by show w.heap.size ≤ w.heap.size + 1; omega) _).setCell (p := ⟨w.heap.size + 1 + 1, 0, none⟩) (by show w.heap.size ≤ w.heap.size + 1 + 1; omega) _
    · have hq' : ((x.2.1.2 : Int) == id) = false := beq_eq_false_iff_ne.2 hq
      gi_wp2_with fail
      refine ⟨Stay.refl _ _ _, ?_, b0, b1, b2, b3, hb⟩
      intro y hy
      rcases List.mem_append.1 hy with h | h
      · exact HPRE.out y h
      · rw [List.mem_singleton.1 h]; exact hq
  case done =>
    rw [hz]
    rintro W ⟨hpre, b0, b1, b2, b3, hb⟩ hK
    have c1 := b1.cell
    have c2 := b2.cell
    have f1 := b1.frozen
    have f2 := b2.frozen
    have FN := Lib.hid (find_none hpre)
    have zK := (Array.getElem?_eq_some_iff.1 hK).1
    clear hpre
    gi_wp2_with fail
    refine findOut w _ (.int .i64 0) (.bool false) _ rfl rfl ((Boxed.set _ b1).other (by show w.heap.size + 1 ≠ w.heap.size + 1 + 1; omega) _) (Boxed.set _ (b2.other (by show w.heap.size + 1 + 1 ≠ w.heap.size + 1; omega) _))
      ((hb.setCell (p := ⟨w.heap.size + 1, 0, none⟩) (by show w.heap.size ≤ w.heap.size + 1; omega) _).setCell (p := ⟨w.heap.size + 1 + 1, 0, none⟩) (by show w.heap.size ≤ w.heap.size + 1 + 1; omega) _)
      (((Below.heap_setCell _ _ _ _ (by show w.heap.size + 4 ≠ w.heap.size + 1 + 1; omega)).trans (Below.heap_setCell _ _ _ _ (by show w.heap.size + 4 ≠ w.heap.size + 1; omega))).trans hK) rfl rfl (fun W' h => ⟨?_, h⟩)
    rw [FN.out]; rfl
  case stop =>
    rw [hz]
    rintro c pre W _ ⟨rfl, k, hk, b1, b2, hb⟩ hK
    gi_wp2_with fail
    refine findOut w _ (.int .i64 (k : Nat)) (.bool true) _ rfl rfl b1 b2 hb hK rfl rfl (fun W' h => ⟨?_, h⟩)
    rw [hk]; rfl
end Go.Proofs.YtkcklnnmcmjnjaaGreatDoor

namespace Go.Proofs.YtkcklnnmcmjnjaaGreatDoor
open Go.RowKit Go.Shelf
attribute [local go_sem] Oper.semAt_some

set_option maxRecDepth 100000 in
set_option maxHeartbeats 4000000 in
theorem len_gen (ps : List Pr) (v : Value) (q : Option Addr) (w : World) (hl : ∀ W, Below w.heap.size w W → AllR W (.pointer q) v ps) (hps : ps.length ≤ 1000000) :
    Calls Tryz.prog 41 #[.pointer q] w fun e w' => e = .returned (.int .i64 ((stzP 0 ps).length : Nat)) ∧ Below w.heap.size w w' := by
  obtain ⟨A, cap, hv, hle⟩ := (hl w (Below.refl _ _)).1.empty
  have ALL := Lib.hid (fun W hB => callsIn_wide (n := 8).2 (hl W hB).2)
  have HE := Lib.hid (fun W hB => (hl W hB).1)
  have ST := Lib.hid (fun W => callsIn_wide (n := 8).2 (stz7_any v W A ps.length cap hv))
  have HSL := Lib.hid (Nat.le_trans (stzG_len (κ := fun p : Pr => p.1.1.kind) 0 ps) hps)
  clear hl hv
  refine callsIn_wide (n := 9).1 ?_
  refine callsIn_of_wp_marks Tryz.func41 rfl trivial ?_ rfl
  simp only [Tryz.ntmps41, List.size_toArray, List.length_cons, List.length_nil, Nat.reduceAdd, Nat.reduceSub, Array.replicate_succ, Array.replicate_zero, List.push_toArray, List.append_toArray, List.nil_append, List.cons_append]
  gi_wp2_with fail
  have hb0 : Below w.heap.size w (w.alloc (.cells #[.int .i64 0] 3)) := (Below.refl _ w).alloc (Nat.le_refl _) _
  refine ⟨trivial, (ALL.out _ hb0).mono ?_⟩
  rintro e w1 ⟨rfl, rfl⟩
  gi_wp2_with fail
  refine ⟨trivial, (ST.out _).mono ?_⟩
  rintro e w1 ⟨rfl, rfl⟩
  gi_wp2_with fail
  obtain ⟨w1, hw1⟩ : ∃ w1, w1 = ((w.alloc (.cells #[.int .i64 0] 3)).alloc (.cells #[v] 115)) := ⟨_, rfl⟩
  have hz : w1.heap.size = w.heap.size + 2 := by rw [hw1]; simp
  have B0 : Boxed w1 w.heap.size 3 (.int .i64 0) := by rw [hw1]; exact (Boxed.new w _ _).alloc _
  have B1 : Boxed w1 (w.heap.size + 1) 115 v := by rw [hw1]; exact boxNew2 w _ _ _
  have hb1 : Below w.heap.size w w1 := by rw [hw1]; exact hb0.alloc (by simp) _
  rw [← hw1]
  clear hw1 hb0
  have HH := stz_hands ps v _ w1 B1 hps (HE.out _ hb1)
  refine wp_rangedKA (gf := 102) (lb := #[.pointer (some ⟨w.heap.size + 1, 0, none⟩)]) rfl (enters_of Tryz.func102 (by kernel_rfl) rfl) HH (fun _ => rfl)
    (fun pre W => Boxed W w.heap.size 3 (.int .i64 (pre.length : Nat)) ∧ Boxed W (w.heap.size + 1) 115 v ∧ Below w.heap.size w W)
    (fun _ _ _ => False)
    (by
      rw [hz]
      exact (Abide.box (.inl (by omega)) (fun pre : List (Nat × Pr) => .int .i64 (pre.length : Nat))).and ((Abide.box (.inl (by omega)) _).and (Abide.below (Nat.le_refl _) (by omega))))
    (fun _ _ _ _ hs _ => hs)
    ⟨B0, B1, hb1⟩
    (fun pre W h => ⟨HE.out _ h.2.2, h.2.1⟩)
    (fun a pre x a' W => a' = { tmps := (a.tmps.setIfInBounds 7 (.int .i64 (x.1 : Nat))).setIfInBounds 8 (entV x.2), defers := [] } ∧
      Boxed W w.heap.size 3 (.int .i64 (pre.length : Nat)) ∧ Boxed W (w.heap.size + 1) 115 v ∧ Below w.heap.size w W)
    ?hM ?assign ?body ?done ?stop
  case hM =>
    rw [hz]
    rintro a pre x a' _ W W' ⟨h1, h2, h3, h4⟩ ht
    exact ⟨h1, ht.box h2 (.inl (by omega)), ht.box h3 (.inl (by omega)), h4.trans (ht.below (by omega) (by have := h4.size; omega))⟩
  case assign =>
    rw [hz]
    intro l pre x post W hx hsz hi
    clear hx
    gi_wp2
    exact ⟨Stay.refl _ _ _, rfl, hi⟩
  case body =>
    rw [hz]
    rintro l pre x post a' W hx hsz ⟨rfl, b0, b1, hb⟩
    have hn : pre.length ≤ 1000000 := by have := congrArg List.length hx; have h2 := HSL.out; rw [this] at h2; simp at h2; omega
    simp only [List.setIfInBounds_toArray, List.set_cons_zero, List.set_cons_succ, entV]
    have c0 := b0.cell
    have f0 := b0.frozen
    clear hx
    gi_wp2_with fail
    have hwr : (((pre ++ [x]).length : Nat) : Int) = (pre.length : Int) + 1 := by simp
    refine ⟨(Stay.refl _ _ W).setCell (.inl (by show w.heap.size < _; omega)) _, ?_, b1.other (by show w.heap.size + 1 ≠ w.heap.size; omega) _, hb.setCell (p := ⟨w.heap.size, 0, none⟩) (Nat.le_refl _) _⟩
    rw [hwr]; exact Boxed.set _ b0
  case done =>
    rw [hz]
    rintro W ⟨b0, b1, hb⟩ hK
    have c := b0.cell
    gi_wp2
    refine ⟨by simp, .inl ⟨_, _, rfl, run_takeDeferred hK, ?_⟩⟩
    exact ⟨_, results_tmp rfl _ _ _, rfl, hb.trans (belowK_b (w := w) (Nat.le_refl _) W _ _ _ (by omega) hK rfl rfl)⟩
  case stop =>
    intro c pre W _ h _
    exact h.elim
end Go.Proofs.YtkcklnnmcmjnjaaGreatDoor

namespace Go.Proofs.YtkcklnnmcmjnjaaGreatDoor
open Go.RowKit Go.Shelf

theorem AccM.set {w W : World} {v : Value} {fvs : List Value} {its : List It} {b : Nat} {cs : Array Value} (h : AccM w W v fvs its) (i : Nat) (hc : Cells W b 105 cs) (hne : v.ownBlock ≠ some b) (hb : w.heap.size ≤ b) (x : Value) : AccM w (W.setCell ⟨b, i, none⟩ x) v fvs its := by
  refine ⟨row_cell (p := ⟨b, i, none⟩) h.row hne x, h.len, fun j y s hy hs => row_cell (p := ⟨b, i, none⟩) (h.each j y s hy hs) (fun e => ?_) x, h.below.setCell (p := ⟨b, i, none⟩) hb x⟩
  rcases (h.each j y s hy hs).2 with ⟨rfl, _⟩ | ⟨g, cap, cur, rfl, _, hg, _⟩
  · cases e
  · cases e
    have h4 := hc
    unfold Cells at h4
    rw [h4] at hg
    injection hg with hg
    injection hg with _ h2 _
    exact absurd h2 (by decide)
theorem row_ne {W : World} {base n : Nat} {e : TypeId} {sz : Nat} {v : Value} {xs : List Value} (h : W.ownsRow base e sz v n xs) : v.ownBlock ≠ some W.heap.size := fun q => by have := (h.lt _ q).2; omega
end Go.Proofs.YtkcklnnmcmjnjaaGreatDoor

namespace Go.Proofs.YtkcklnnmcmjnjaaGreatDoor
open Go.RowKit Go.Shelf

set_option maxRecDepth 100000 in
theorem ret_i1 {fn : Func} {p : Tmp} (h : fn.results = #[.cell p 105]) (tmps : Array Value) (w : World) (b : Nat) (cur : Array Value) (hp : tmps.getD p undef = .pointer (some ⟨b, 0, none⟩))
    (hc : Cells w b 105 cur) (hz : cur.size = 3) : (results fn tmps).run Tryz.prog w = .ok (.agg cur) w := by
  have L := run_loadVar_row (P := Tryz.prog) w b 105 105 cur (0, 0) _ hc Tryz.underlying105 rfl (by rw [hz]; kernel_rfl)
  rw [results_cell1 h, hp]
  show (loadVar _ _).run _ _ = _
  exact L
end Go.Proofs.YtkcklnnmcmjnjaaGreatDoor

namespace Go.Proofs.YtkcklnnmcmjnjaaGreatDoor
open Go.RowKit Go.Shelf
attribute [local go_sem] Oper.semAt_some

/-- What is asked of entries: how long they are. -/
structure EntsOk (ps : List Pr) : Prop where
  len : ps.length ≤ 10000
  raw : ∀ p ∈ ps, p.1.1.raw.length ≤ 100000
  fields : ∀ p ∈ ps, p.1.1.fields.length ≤ 1000000
  num : ∀ p ∈ ps, -1000000 ≤ p.1.2 ∧ p.1.2 ≤ 1000000
set_option maxRecDepth 100000 in
theorem ret_item {fn : Func} {p : Tmp} (h : fn.results = #[.cell p 105]) (tmps : Array Value) (w : World) (b : Nat) (cur : Array Value) (hp : tmps.getD p undef = .pointer (some ⟨b, 0, none⟩))
    (hc : Cells w b 105 cur) (hz : cur.size = 3) : (results fn tmps).run Tryz.prog w = .ok (.agg cur) w := ret_i1 h tmps w b cur hp hc hz
set_option maxRecDepth 100000 in
set_option maxHeartbeats 4000000 in
theorem item7_any (p : Pr) (w : World) (h : FldR w p.2 p.1.1.fields) (hn : p.1.1.fields.length ≤ 1000000) :
    Calls Tryz.prog 130 #[entV p] w fun e w' => ∃ x, e = .returned (.agg #[.int .i64 p.1.1.kind, .string (B p.1.1.raw), x]) ∧ w'.ownsRow w.heap.size 35 2 x p.1.1.fields.length (cellsF p.1.1.fields) ∧ Below w.heap.size w w' := by
  obtain ⟨⟨⟨kd, raw, fs⟩, num⟩, fv⟩ := p
  dsimp only at h hn ⊢
  obtain ⟨fa, fc, rfl⟩ := h.form
  unfold entV
  dsimp only
  generalize B raw = rw_ at *
  have hb3 : Below w.heap.size w (((w.alloc (.cells #[.int .i64 kd, .string rw_, .slice fa fs.length fc, .int .i64 num] 118)).alloc (.cells #[.int .i64 0, .string ⟨#[]⟩, .slice none 0 0] 105)).alloc (.cells #[.int .i64 kd, .string rw_, .slice fa fs.length fc] 105)) := (((Below.refl _ w).alloc (Nat.le_refl _) _).alloc (by simp) _).alloc (by simp; omega) _
  have CL := Lib.hid (clone_any fs (.slice fa fs.length fc) _ (h.1.below hb3 (Nat.le_refl _)) h.2 hn)
  have BX := Lib.hid (Cells.new ((w.alloc (.cells #[.int .i64 kd, .string rw_, .slice fa fs.length fc, .int .i64 num] 118)).alloc (.cells #[.int .i64 0, .string ⟨#[]⟩, .slice none 0 0] 105)) 105 #[.int .i64 kd, .string rw_, .slice fa fs.length fc])
  have BR := Lib.hid ((Cells.new (w.alloc (.cells #[.int .i64 kd, .string rw_, .slice fa fs.length fc, .int .i64 num] 118)) 105 #[.int .i64 0, .string ⟨#[]⟩, .slice none 0 0]).alloc (.cells #[.int .i64 kd, .string rw_, .slice fa fs.length fc] 105))
  have HB3 := Lib.hid hb3
  clear h hb3
  go_enter Tryz.func130, Tryz.ntmps130
  go_wp2_with fail
  refine CL.out.mono ?_
  rintro e w1 ⟨x, rfl, hx, b1⟩
  obtain ⟨xa, xc, rfl, _⟩ := own_slice hx
  have R1 := cells_kept BX.out b1 (by simp)
  have R2 := cells_kept BR.out b1 (by simp)
  rw [World.size_alloc, World.size_alloc] at R1
  rw [World.size_alloc] at R2
  have hz := b1.size
  simp only [World.size_alloc] at hz
  have c0 := R1.cell 0
  have c1 := R1.cell 1
  have c2 := R1.cell 2
  have f2 := R1.frozen 2
  have d0 := R2.cell 0
  have d1 := R2.cell 1
  have d2 := R2.cell 2
  have g0 := R2.frozen 0
  have g1 := R2.frozen 1
  have g2 := R2.frozen 2
  have HX := Lib.hid hx
  have hb1 := Lib.hid (HB3.out.trans (b1.mono HB3.out.size))
  have S1 := Lib.hid R1
  have S2 := Lib.hid R2
  simp only [List.getElem?_toArray, List.getElem?_cons_zero, List.getElem?_cons_succ] at c0 c1 c2 d0 d1 d2
  clear CL BX BR hx R1 R2 b1
  go_wp2_with fail
  have hne : ∀ k, k < w.heap.size + 3 → ∀ y : Value, (Value.slice xa fs.length xc).ownBlock ≠ some k := fun k hk y e => by
    have := (HX.out.lt k e).1
    simp at this
    omega
  have RE := (((S2.out.other (p := ⟨w.heap.size + 1 + 1, 2, none⟩) (by show w.heap.size + 1 ≠ w.heap.size + 1 + 1; omega) (.slice xa fs.length xc)).set 0 (.int .i64 kd)).set 1 (.string rw_)).set 2 (.slice xa fs.length xc)
  rw [set3] at RE
  refine bodyPost_ret (ret_item rfl _ _ (w.heap.size + 1) _ rfl RE rfl) rfl ?_
  refine ⟨_, rfl, rowBase (row_cell (row_cell (row_cell (row_cell HX.out ?_ _) ?_ _) ?_ _) ?_ _) (by simp; omega), ?_⟩
  · exact hne _ (by show w.heap.size + 1 + 1 < _; omega) undef
  · exact hne _ (by show w.heap.size + 1 < _; omega) undef
  · exact hne _ (by show w.heap.size + 1 < _; omega) undef
  · exact hne _ (by show w.heap.size + 1 < _; omega) undef
  · exact (((hb1.out.setCell (p := ⟨w.heap.size + 1 + 1, 2, none⟩) (by show w.heap.size ≤ w.heap.size + 1 + 1; omega) _).setCell (p := ⟨w.heap.size + 1, 0, none⟩) (by show w.heap.size ≤ w.heap.size + 1; omega) _).setCell (p := ⟨w.heap.size + 1, 1, none⟩) (by show w.heap.size ≤ w.heap.size + 1; omega) _).setCell (p := ⟨w.heap.size + 1, 2, none⟩) (by show w.heap.size ≤ w.heap.size + 1; omega) _
/-- The items of entries. -/
def itsP (ps : List Pr) : List It := ps.map fun p => p.1.1
theorem find_any (lb : Nat) (ev : Value) (ps : List Pr) (nx id : Int) (w : World) (h : LR w lb ev ps nx) (hps : ps.length ≤ 1000000) :
    Calls Tryz.prog 134 #[ptr lb, .int .i64 id] w fun e w' => e = .returned (foundV (findP ps id)) ∧ Below w.heap.size w w' :=
  find_gen ps ev (some ⟨lb, 0, none⟩) id w (fun _ hB => AllR.of (h.below hB (Nat.le_refl _))) hps
theorem findP_lt {ps : List Pr} {id : Int} {k : Nat} (h : findP ps id = some k) : ∃ p, ps[k]? = some p ∧ p.1.1.kind = 3 ∧ p.1.2 = id := by
  unfold findP at h
  obtain ⟨x, hx, rfl⟩ := Option.map_eq_some_iff.1 h
  have hm := List.mem_of_find?_eq_some hx
  have hq := List.find?_some hx
  obtain ⟨_, a, b⟩ := stzG_mem 0 ps x hm
  exact ⟨x.2, a, b, by simpa using hq⟩
/-- Where one is inserted behind a number. -/
def gapP (ps : List Pr) (behind : Int) : Option Nat := if behind = 0 then some 0 else (findP ps behind).map (· + 1)
set_option maxRecDepth 100000 in
set_option maxHeartbeats 4000000 in
theorem gap_any (lb : Nat) (ev : Value) (ps : List Pr) (nx id : Int) (w : World) (h : LR w lb ev ps nx) (hps : ps.length ≤ 1000000) :
    Calls Tryz.prog 171 #[ptr lb, .int .i64 id] w fun e w' => (∃ k : Nat, e = .returned (.tuple #[.int .i64 k, .bool (gapP ps id).isSome]) ∧ ∀ j, gapP ps id = some j → k = j) ∧ Below w.heap.size w w' := by
  have FD := Lib.hid (find_any lb ev ps nx id w h hps)
  clear h
  unfold ptr at *
  by_cases h0 : id = 0
  · subst h0
    go_enter Tryz.func171, Tryz.ntmps171
    go_wp2_with fail
    go_ret2
    exact ⟨⟨0, rfl, fun j h => by cases h; rfl⟩, Below.refl _ _⟩
  · have h1 : ((id : Int) == 0) = false := beq_eq_false_iff_ne.2 h0
    unfold gapP
    rw [if_neg h0]
    cases hf : findP ps id with
    | none =>
      rw [hf] at FD
      unfold foundV at FD
      dsimp only at FD
      go_enter Tryz.func171, Tryz.ntmps171
      go_wp2_with fail
      refine FD.out.mono ?_
      rintro e w1 ⟨rfl, b1⟩
      go_wp2_with fail
      go_ret2
      exact ⟨⟨1, rfl, fun j h => by cases h⟩, b1⟩
    | some k =>
      obtain ⟨p, hp, _, _⟩ := findP_lt hf
      have hk := (List.getElem?_eq_some_iff.1 hp).1
      rw [hf] at FD
      unfold foundV at FD
      dsimp only at FD
      clear hf hp
      go_enter Tryz.func171, Tryz.ntmps171
      go_wp2_with fail
      refine FD.out.mono ?_
      rintro e w1 ⟨rfl, b1⟩
      go_wp2_with fail
      go_ret2
      exact ⟨⟨k + 1, rfl, fun j h => by cases h; rfl⟩, b1⟩
end Go.Proofs.YtkcklnnmcmjnjaaGreatDoor

namespace Go.Proofs.YtkcklnnmcmjnjaaGreatDoor
open Go.RowKit
def todo (l : Array Bool) : Nat := (l.toList.filter (fun b => !b)).length
theorem ready_spec {ops : Array Oper} {l : Array Bool} {i : Nat} (h : i ∈ Region.ready .any ops l) :
    ∃ o, ops[i]? = some o ∧ l.getD i true = false ∧ ∀ e ∈ o.after, Region.binds .any e = true → l.getD e.on false = true := by
  unfold Region.ready at h
  rw [List.mem_filter] at h
  obtain ⟨hi, h⟩ := h
  rw [List.mem_range] at hi
  have ho : ops[i]? = some ops[i] := Array.getElem?_eq_getElem hi
  rw [ho] at h
  simp only [Option.map_some, Option.getD_some, Bool.and_eq_true, Bool.not_eq_true'] at h
  refine ⟨_, ho, h.1, fun e he hb => ?_⟩
  have := (Array.all_eq_true_iff_forall_mem.1 h.2) e he
  simpa [hb] using this
theorem wpAny_inv {P : Program} {ops : Array Oper} {Q : Exit → Act → World → Prop} (I : Array Bool → Act → World → Prop)
    (step : ∀ l i o a w, I l a w → l.size = ops.size → ops[i]? = some o → l.getD i true = false → (∀ e ∈ o.after, Region.binds .any e = true → l.getD e.on false = true) →
      wpOp P ops Q i (fun a' w' => I (l.setIfInBounds i true) a' w') a w)
    (done : ∀ l a w, I l a w → l.size = ops.size → Region.ready .any ops l = [] → Q .normal a w) :
    ∀ (n : Nat) (l : Array Bool) (a : Act) (w : World), I l a w → l.size = ops.size → todo l ≤ n → wpAny P .any ops Q n l a w := by
  intro n
  induction n with
  | zero =>
    intro l a w hI hs hn
    have hr : Region.ready .any ops l = [] := by
      cases hq : Region.ready .any ops l with
      | nil => rfl
      | cons i rs =>
        obtain ⟨o, ho, hl, _⟩ := ready_spec (show i ∈ Region.ready .any ops l by rw [hq]; simp)
        exfalso
        have hi : i < l.size := by
          rcases Nat.lt_or_ge i l.size with h | h
          · exact h
          · simp [Array.getD, Nat.not_lt.2 h] at hl
        have hm : l[i] ∈ l.toList.filter (fun b => !b) := by
          rw [List.mem_filter]
          refine ⟨by simp, ?_⟩
          simp [Array.getD, hi] at hl
          simp [hl]
        have : 0 < todo l := List.length_pos_of_mem hm
        omega
    exact ⟨hr, done l a w hI hs hr⟩
  | succ n ih =>
    intro l a w hI hs hn
    refine ⟨fun hr => done l a w hI hs hr, fun i hi => ?_⟩
    obtain ⟨o, ho, hl, he⟩ := ready_spec hi
    refine wpOp_mono (fun a' w' hI' => ih _ _ _ hI' (by simpa using hs) ?_) (step l i o a w hI hs ho hl he)
    have hi' : i < l.size := by
      rcases Nat.lt_or_ge i l.size with h | h
      · exact h
      · simp [Array.getD, Nat.not_lt.2 h] at hl
    have hlf : l[i] = false := by simpa [Array.getD, hi'] using hl
    have key : ∀ (xs : List Bool) (j : Nat) (hj : j < xs.length), xs[j] = false → ((xs.set j true).filter (fun b => !b)).length + 1 = (xs.filter (fun b => !b)).length := by
      intro xs
      induction xs with
      | nil => intro j hj; simp at hj
      | cons x xs ih2 =>
        intro j hj hx
        cases j with
        | zero => simp at hx; subst hx; simp
        | succ j =>
          have := ih2 j (by simpa using hj) (by simpa using hx)
          cases x <;> simp at this ⊢ <;> omega
    have h2 := key l.toList i (by simpa using hi') (by simpa using hlf)
    unfold todo at hn ⊢
    have e : (l.setIfInBounds i true).toList = l.toList.set i true := by simp
    rw [e]
    omega
end Go.Proofs.YtkcklnnmcmjnjaaGreatDoor

namespace Go.Proofs.YtkcklnnmcmjnjaaGreatDoor
open Go.RowKit

def calm (ops : Array Oper) : Bool := ops.all fun o => match o.op with | .defer _ => false | _ => true
theorem calm_of {ops : Array Oper} (h : calm ops = true) {i : Nat} {o : Oper} (ho : ops[i]? = some o) : ∀ c, o.op ≠ .defer c := by
  intro c e
  have hm := Array.mem_of_getElem? ho
  have := (Array.all_eq_true_iff_forall_mem.1 h) o hm
  simp [e] at this

theorem opIn_round {n l : Nat} {P : Program} {o : Oper} {a : Act} {w : World} {next : Act → World → Prop} {Q : Exit → Act → World → Prop} (h : ∀ c, o.op ≠ .defer c)
    (g : o.wpIn Fence.wide n P a w next Q) : o.wpIn (Fence.wide.inRound l) n P a w next Q := by
  refine ⟨g.1, ?_⟩
  have g2 := g.2
  rw [Oper.semAt_eq _ _ _ h] at g2 ⊢
  generalize (execOp a.eval o).run P w = r at g2 ⊢
  cases r with
  | ok x w' => cases x <;> exact g2
  | halt x w' => cases x <;> exact g2
theorem opsIn_round {n l : Nat} {P : Program} {md : Region.Mode} {ops : Array Oper} {Q : Exit → Act → World → Prop} (h : calm ops = true) : ∀ (fuel : Nat) (listed : Array Bool) (a : Act) (w : World),
    wpAnyIn Fence.wide n P md ops Q fuel listed a w → wpAnyIn (Fence.wide.inRound l) n P md ops Q fuel listed a w
  | 0, _, _, _, g => g
  | fuel + 1, listed, a, w, g => by
    refine ⟨g.1, fun i hi => ?_⟩
    have g2 := g.2 i hi
    unfold wpOpIn at g2 ⊢
    cases ho : ops[i]? with
    | none => rw [ho] at g2; exact opsIn_round h fuel _ _ _ g2
    | some o =>
      rw [ho] at g2
      simp only at g2 ⊢
      split at g2
      · rename_i hw
        rw [if_pos hw]
        exact opIn_round (calm_of h ho) (opIn_mono (fun a w => opsIn_round h fuel _ a w) g2)
      · rename_i hw
        rw [if_neg hw]
        exact ⟨g2.1, opsIn_round h fuel _ _ _ g2.2⟩
where
  opIn_mono {n : Nat} {P : Program} {o : Oper} {a : Act} {w : World} {K K' : Act → World → Prop} {Q : Exit → Act → World → Prop} (h : ∀ a w, K a w → K' a w) (g : o.wpIn Fence.wide n P a w K Q) : o.wpIn Fence.wide n P a w K' Q := by
    refine ⟨g.1, ?_⟩
    have g2 := g.2
    generalize (Oper.semAt Fence.wide.round a.eval o).run P w = r at g2 ⊢
    cases r with
    | ok x w' =>
      cases x with
      | enter f args => exact ⟨g2.1, g2.2.mono fun e w hh => by cases e <;> first | exact h _ _ hh | exact hh⟩
      | row f args => exact ⟨g2.1, fun c cs hr => by obtain ⟨v, w', hv, hs⟩ := g2.2 c cs hr; exact ⟨v, w', h _ _ hv, hs⟩⟩
      | round l f t x y => exact ⟨g2.1, g2.2.mono fun e w hh => by cases e <;> first | exact h _ _ hh | exact hh⟩
      | value v => exact h _ _ g2
      | skip => exact h _ _ g2
      | defer d => exact h _ _ g2
      | _ => exact g2
    | halt x w' => cases x <;> exact g2

end Go.Proofs.YtkcklnnmcmjnjaaGreatDoor

namespace Go.Proofs.YtkcklnnmcmjnjaaGreatDoor
open Go.RowKit

theorem rows_wide {n : Nat} {P : Program} {row : String} {args : Array Value} {w : World} {R : Value → World → Prop} (h : Rows P row args w R) : RowsIn Fence.wide n P row args w R := by
  intro c cs _
  obtain ⟨v, w', r, s⟩ := h c cs
  exact ⟨v, w', r, stepsIn_wide.2 s⟩
theorem oper_wide {n : Nat} {P : Program} {o : Oper} {a : Act} {w : World} {K : Act → World → Prop} {Q : Exit → Act → World → Prop} (h : ∀ c, o.op ≠ .defer c) (g : o.wp P a w K Q) : o.wpIn Fence.wide n P a w K Q := by
  refine ⟨fun _ _ => trivial, ?_⟩
  unfold Oper.wp at g
  rw [Oper.semAt_eq _ _ _ h]
  generalize (execOp a.eval o).run P w = r at g ⊢
  cases r with
  | ok x w' =>
    cases x with
    | enter f args => exact ⟨fun q => by simp [Fence.wide] at q, callsIn_wide.2 g⟩
    | row f args => exact ⟨fun q => by simp [Fence.wide] at q, rows_wide g⟩
    | round l f t x y => exact g.elim
    | value v => exact g
    | skip => exact g
    | defer d => exact g
    | _ => exact g
  | halt x w' => cases x <;> exact g
theorem ops_wide {n : Nat} {P : Program} {md : Region.Mode} {ops : Array Oper} {Q : Exit → Act → World → Prop} (h : calm ops = true) (hno : ¬ LetsOut Q) : ∀ (fuel : Nat) (listed : Array Bool) (a : Act) (w : World),
    wpAny P md ops Q fuel listed a w → wpAnyIn Fence.wide n P md ops Q fuel listed a w
  | 0, _, _, _, g => g
  | fuel + 1, listed, a, w, g => by
    refine ⟨g.1, fun i hi => ?_⟩
    have g2 := g.2 i hi
    unfold wpOpIn
    unfold wpOp at g2
    cases ho : ops[i]? with
    | none => rw [ho] at g2; exact ops_wide h hno fuel _ _ _ g2
    | some o =>
      rw [ho] at g2
      simp only at g2 ⊢
      split at g2
      · rename_i hw
        rw [if_pos hw]
        exact oper_wide (calm_of h ho) (Oper.wp_mono (fun a w => ops_wide h hno fuel _ a w) (g2.resolve_right fun q => hno q.2))
      · rename_i hw
        rw [if_neg hw]
        exact ⟨fun _ _ => trivial, ops_wide h hno fuel _ _ _ g2⟩
theorem wp_region_round {n r : Nat} {P : Program} {id : Nat} {ops : Array Oper} {Q : Exit → Act → World → Prop} {a : Act} {w : World} (hd : calm ops = true) (hno : ¬ LetsOut Q) (hm : P.follows .mixedOrders = true) (h : wpAny P .any ops Q ops.size (Array.replicate ops.size false) a w.drew) :
    (Code.region id ops true).wpIn (Fence.wide.inRound r) n P Q a w :=
  wpIn_region_any hm (opsIn_round hd _ _ _ _ (ops_wide hd hno _ _ _ _ h))
end Go.Proofs.YtkcklnnmcmjnjaaGreatDoor

namespace Go.Proofs.YtkcklnnmcmjnjaaGreatDoor
open Go.RowKit Go.Shelf

end Go.Proofs.YtkcklnnmcmjnjaaGreatDoor

namespace Go.Proofs.YtkcklnnmcmjnjaaGreatDoor
open Go.RowKit Go.Shelf

def fl (l : Array Bool) (j : Nat) : Bool := l.getD j false
abbrev sl (g n c : Nat) : Value := .slice (some ⟨g, 0, none⟩) n c
end Go.Proofs.YtkcklnnmcmjnjaaGreatDoor

namespace Go.Proofs.YtkcklnnmcmjnjaaGreatDoor
open Go.RowKit Go.Shelf
attribute [local go_sem] Oper.semAt_some

def cellAt (b i : Nat) (W : World) : Value := match W.cell? ⟨b, i, none⟩ with | some v => v | none => undef
theorem putS {a : Act} {d : Nat} {v : Value} (hd : d < a.tmps.size) (j : Nat) : (a.put (some d) v).tmps[j]? = if j = d then some v else a.tmps[j]? := by
  show (a.tmps.setIfInBounds d v)[j]? = _
  rw [Array.getElem?_setIfInBounds]
  by_cases h : d = j
  · subst h; simp [hd]
  · rw [if_neg h, if_neg (Ne.symm h)]
/-- What is known behind the first c of the others. -/
def FactS (W0 : World) (sb lo n : Nat) (p : Pr) (v0 : Value) (xs : List Value) (a : Act) (w : World) : Nat → Prop
  | 0 => Below W0.heap.size W0 w
  | 1 => Below W0.heap.size W0 w ∧ a.tmps[12]? = some (entV p)
  | 2 => Below W0.heap.size W0 w ∧ ∃ x, a.tmps[13]? = some (.agg #[.int .i64 p.1.2, x]) ∧ w.ownsRow W0.heap.size 35 2 x p.1.1.fields.length (cellsF p.1.1.fields)
  | 3 => Below W0.heap.size W0 w ∧ ∃ x b, a.tmps[14]? = some (sl b 1 1) ∧ w.ownsRow W0.heap.size 35 2 x p.1.1.fields.length (cellsF p.1.1.fields) ∧ W0.heap.size ≤ b ∧ Cells w b 58 #[.int .i64 p.1.2, x]
  | 4 => ∃ x g c, a.tmps[15]? = some (sl g (n + 1) c) ∧ w.ownsRow W0.heap.size 35 2 x p.1.1.fields.length (cellsF p.1.1.fields) ∧ w.ownsRow lo 58 2 (sl g (n + 1) c) (n + 1) (xs ++ [.int .i64 p.1.2, x]) ∧ Only (fun r => v0.ownBlock = some r) W0 w
  | _ => ∃ x g c w2, w2.ownsRow W0.heap.size 35 2 x p.1.1.fields.length (cellsF p.1.1.fields) ∧ w2.ownsRow lo 58 2 (sl g (n + 1) c) (n + 1) (xs ++ [.int .i64 p.1.2, x]) ∧ Only (fun r => v0.ownBlock = some r) W0 w2 ∧ w = w2.setCell ⟨sb, 0, none⟩ (sl g (n + 1) c)
theorem FactS.below {W0 : World} {sb lo n : Nat} {p : Pr} {v0 : Value} {xs : List Value} {a : Act} {w : World} {c : Nat} (h : FactS W0 sb lo n p v0 xs a w c) (hc : c ≤ 3) : Below W0.heap.size W0 w := by
  match c, h with
  | 0, h => exact h
  | 1, h => exact h.1
  | 2, h => exact h.1
  | 3, h => exact h.1
  | n + 4, _ => omega
theorem FactS.put {W0 : World} {sb lo n : Nat} {p : Pr} {v0 : Value} {xs : List Value} {a : Act} {w : World} {c : Nat} (h : FactS W0 sb lo n p v0 xs a w c) (hs : 16 ≤ a.tmps.size) (v : Value) : FactS W0 sb lo n p v0 xs (a.put (some 11) v) w c := by
  have T := fun j => putS (a := a) (d := 11) (v := v) (by omega) j
  match c, h with
  | 0, h => exact h
  | 1, h => exact ⟨h.1, by rw [T, if_neg (by decide)]; exact h.2⟩
  | 2, h => obtain ⟨h1, x, h2, h3⟩ := h; exact ⟨h1, x, by rw [T, if_neg (by decide)]; exact h2, h3⟩
  | 3, h => obtain ⟨h1, x, b, h2, h3⟩ := h; exact ⟨h1, x, b, by rw [T, if_neg (by decide)]; exact h2, h3⟩
  | 4, h => obtain ⟨x, g, c, h2, h3⟩ := h; exact ⟨x, g, c, by rw [T, if_neg (by decide)]; exact h2, h3⟩
  | n + 5, h => exact h
end Go.Proofs.YtkcklnnmcmjnjaaGreatDoor

namespace Go.Proofs.YtkcklnnmcmjnjaaGreatDoor
open Go.RowKit Go.Shelf
attribute [local go_sem] Oper.semAt_some

/-- A stanza: its number, its fields. -/
abbrev Stz := Int × List Fld
def stzCells : List Stz → List Value → List Value
  | s :: l, v :: vs => .int .i64 s.1 :: v :: stzCells l vs
  | _, _ => []
theorem stzCells_snoc : ∀ (l : List Stz) (vs : List Value) (s : Stz) (v : Value), vs.length = l.length → stzCells (l ++ [s]) (vs ++ [v]) = stzCells l vs ++ [.int .i64 s.1, v]
  | [], [], s, v, _ => rfl
  | [], _ :: _, _, _, h => by simp at h
  | a :: l, [], s, v, h => by simp at h
  | a :: l, u :: vs, s, v, h => by
    have := stzCells_snoc l vs s v (by simpa using h)
    simp only [List.cons_append, stzCells, this]
/-- The stanzas so far, in new memory from lo on. -/
structure AccZ (lo : Nat) (w wr : World) (v : Value) (fvs : List Value) (rs : List Stz) : Prop where
  row : wr.ownsRow lo 58 2 v rs.length (stzCells rs fvs)
  len : fvs.length = rs.length
  each : ∀ (j : Nat) s x, rs[j]? = some s → fvs[j]? = some x → wr.ownsRow lo 35 2 x s.2.length (cellsF s.2)
  below : Below w.heap.size w wr
theorem AccZ.start (lo : Nat) (w wr : World) (hb : Below w.heap.size w wr) : AccZ lo w wr (.slice none 0 0) [] [] := ⟨⟨rfl, .inl ⟨rfl, rfl⟩⟩, rfl, fun j s x h => by simp at h, hb⟩
theorem AccZ.turned {lo B k : Nat} {w W W' : World} {v : Value} {fvs : List Value} {rs : List Stz} (h : AccZ lo w W v fvs rs) (ht : Turned B k W W') (hB : w.heap.size ≤ B) (hlo : B + k ≤ lo) : AccZ lo w W' v fvs rs :=
  ⟨ht.row h.row (fun b e => .inr (by have := (h.row.lt b e).1; omega)), h.len, fun j s x h1 h2 => ht.row (h.each j s x h1 h2) (fun b e => .inr (by have := ((h.each j s x h1 h2).lt b e).1; omega)), h.below.trans (ht.below hB h.below.size)⟩
theorem AccZ.alloc {lo : Nat} {w W : World} {v : Value} {fvs : List Value} {rs : List Stz} (h : AccZ lo w W v fvs rs) (o : Obj) : AccZ lo w (W.alloc o) v fvs rs :=
  have hb := (Below.refl W.heap.size W).alloc (Nat.le_refl _) o
  ⟨own_kept h.row hb (Nat.le_refl _), h.len, fun j s x h1 h2 => own_kept (h.each j s x h1 h2) hb (Nat.le_refl _), h.below.alloc h.below.size o⟩
theorem stz_ne {W : World} {lo n m : Nat} {v x : Value} {xs ys : List Value} (hv : W.ownsRow lo 58 2 v n xs) (hx : W.ownsRow lo 35 2 x m ys) : ∀ b, x.ownBlock = some b → ¬ v.ownBlock = some b := by
  intro b hb e
  rcases hx.2 with ⟨rfl, _⟩ | ⟨g, cap, cur, rfl, _, hc, _⟩
  · cases hb
  · cases hb
    rcases hv.2 with ⟨rfl, _⟩ | ⟨g', cap', cur', rfl, _, hc', _⟩
    · cases e
    · have : g' = g := Option.some.inj e
      subst this
      rw [hc] at hc'
      injection hc' with hc'
      injection hc' with _ h2 _
      exact absurd h2 (by decide)
theorem AccZ.snoc {lo : Nat} {w W w2 : World} {v : Value} {fvs : List Value} {rs : List Stz} {s : Stz} {x : Value} {g c : Nat} (h : AccZ lo w W v fvs rs) (hlo : w.heap.size ≤ lo) (hx : w2.ownsRow lo 35 2 x s.2.length (cellsF s.2)) (hr : w2.ownsRow lo 58 2 (sl g (rs.length + 1) c) (rs.length + 1) (stzCells rs fvs ++ [.int .i64 s.1, x]))
    (ho : Only (fun r => v.ownBlock = some r) W w2) : AccZ lo w w2 (sl g (rs.length + 1) c) (fvs ++ [x]) (rs ++ [s]) := by
  refine ⟨by rw [List.length_append, stzCells_snoc _ _ _ _ h.len]; exact hr, by simp [h.len], fun j y u hy hu => ?_, h.below.trans (ho.to_below h.below.size (fun r hr e => by have := (h.row.lt r e).1; omega))⟩
  rcases snoc_at hy with ⟨q, hy⟩ | ⟨q, rfl⟩
  · rw [List.getElem?_append_left (by rw [h.len]; exact q)] at hu
    exact row_only (h.each j y u hy hu) ho (stz_ne h.row (h.each j y u hy hu))
  · rw [q, ← h.len, List.getElem?_append_right (Nat.le_refl _)] at hu
    simp at hu
    subst hu; exact hx
theorem AccZ.set {lo : Nat} {w W : World} {v : Value} {fvs : List Value} {rs : List Stz} {b : Nat} (h : AccZ lo w W v fvs rs) (hb : b < lo) (hbw : w.heap.size ≤ b) (u : Value) : AccZ lo w (W.setCell ⟨b, 0, none⟩ u) v fvs rs :=
  ⟨row_cell h.row (fun e => by have := (h.row.lt b e).1; omega) _, h.len, fun j s x h1 h2 => row_cell (h.each j s x h1 h2) (fun e => by have := ((h.each j s x h1 h2).lt b e).1; omega) _, h.below.setCell (p := ⟨b, 0, none⟩) hbw _⟩
end Go.Proofs.YtkcklnnmcmjnjaaGreatDoor

