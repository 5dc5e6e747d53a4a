/- Texts put together: UB, UC, UD, UE. -/
import Derived.Test.YtflnlenkgbphpaaGreatDoorBaf3
import Derived.Test.YtflnlenkgbphpaaGreatDoorBaf10
import Derived.Test.YtflnlenkgbphpaaGreatDoorBaf11
set_option linter.unusedVariables false
namespace Go.Proofs.YtflnlenkgbphpaaGreatDoor
open Go.RowKit Go.Shelf

/-- An entry and its fields' slice. -/
abbrev Pr := En × Value
def entCell (p : Pr) : List Value := [.int .i64 p.1.1.kind, .string (B p.1.1.raw), p.2, .int .i64 p.1.2]
def entCells (ps : List Pr) : List Value := ps.flatMap entCell
theorem entCells_snoc (ps : List Pr) (p : Pr) : entCells (ps ++ [p]) = entCells ps ++ entCell p := by unfold entCells; simp
theorem entCells_append (ps qs : List Pr) : entCells (ps ++ qs) = entCells ps ++ entCells qs := by unfold entCells; simp
theorem entCells_take : ∀ (ps : List Pr) (k : Nat), entCells (ps.take k) = (entCells ps).take (k * 4)
  | [], k => by simp [entCells]
  | p :: r, 0 => by simp [entCells]
  | p :: r, k + 1 => by
    have ih := entCells_take r k
    have e : entCells (p :: r) = entCell p ++ entCells r := rfl
    rw [List.take_succ_cons, e, show entCells (p :: r.take k) = entCell p ++ entCells (r.take k) from rfl, ih, List.take_append]
    have hl : (entCell p).length = 4 := rfl
    rw [hl, List.take_of_length_le (l := entCell p) (by rw [hl]; omega), show (k + 1) * 4 - 4 = k * 4 by omega]
theorem entCells_drop : ∀ (ps : List Pr) (k : Nat), entCells (ps.drop k) = (entCells ps).drop (k * 4)
  | [], k => by simp [entCells]
  | p :: r, 0 => by simp
  | p :: r, k + 1 => by
    have ih := entCells_drop r k
    have e : entCells (p :: r) = entCell p ++ entCells r := rfl
    have hl : (entCell p).length = 4 := rfl
    rw [List.drop_succ_cons, e, ih, List.drop_append, hl, List.drop_of_length_le (l := entCell p) (by rw [hl]; omega), show (k + 1) * 4 - 4 = k * 4 by omega, List.nil_append]
theorem entCells_at : ∀ (ps : List Pr) (i : Nat) (p : Pr), ps[i]? = some p → ∀ j u, (entCell p)[j]? = some u → (entCells ps)[i * 4 + j]? = some u
  | [], i, p, h => by simp at h
  | q :: r, 0, p, h => by
    simp at h; subst h
    intro j u hj
    have e : entCells (q :: r) = entCell q ++ entCells r := rfl
    rw [e, Nat.zero_mul, Nat.zero_add, List.getElem?_append_left (by have := (List.getElem?_eq_some_iff.1 hj).1; exact this)]
    exact hj
  | q :: r, i + 1, p, h => by
    intro j u hj
    have ih := entCells_at r i p (by simpa using h) j u hj
    have e : entCells (q :: r) = entCell q ++ entCells r := rfl
    have hl : (entCell q).length = 4 := rfl
    rw [e, List.getElem?_append_right (by rw [hl]; omega), hl, show (i + 1) * 4 + j - 4 = i * 4 + j by omega]
    exact ih
theorem entCells_one {ps : List Pr} (h : ∀ p ∈ ps, p.2.oneCell' = true) : ∀ u ∈ entCells ps, u.oneCell' = true := by
  intro u hu
  obtain ⟨p, hp, hu⟩ := List.mem_flatMap.1 hu
  unfold entCell at hu
  simp at hu
  rcases hu with rfl | rfl | rfl | rfl
  · rfl
  · rfl
  · exact h p hp
  · rfl
/-- Fields that can be copied. -/
def FldR (w : World) (v : Value) (fs : List Fld) : Prop := Flds w v fs ∧ ∀ n c, v = .slice none n c → c = 0
theorem FldR.below {w w' : World} {v : Value} {fs : List Fld} {n : Nat} (h : FldR w v fs) (hb : Below n w w') (hn : w.heap.size ≤ n) : FldR w' v fs := ⟨h.1.below hb hn, h.2⟩
theorem FldR.form {w : World} {v : Value} {fs : List Fld} (h : FldR w v fs) : ∃ A c, v = .slice A fs.length c := by
  obtain ⟨A, c, e, _⟩ := h.1
  exact ⟨A, c, e⟩
theorem FldR.own {w : World} {base : Nat} {v : Value} {fs : List Fld} (h : w.ownsRow base 35 2 v fs.length (cellsF fs)) : FldR w v fs :=
  ⟨flds_of_own h, fun n c e => by
    rcases h.2 with ⟨q, _⟩ | ⟨g, cap, cur, q, _⟩
    · rw [q] at e; cases e; rfl
    · rw [q] at e; cases e⟩
/-- The entries, readable. -/
structure EntsR (w : World) (v : Value) (ps : List Pr) : Prop where
  row : w.ownsRow 0 101 4 v ps.length (entCells ps)
  each : ∀ p ∈ ps, FldR w p.2 p.1.1.fields
theorem EntsR.below {w w' : World} {v : Value} {ps : List Pr} {n : Nat} (h : EntsR w v ps) (hb : Below n w w') (hn : w.heap.size ≤ n) : EntsR w' v ps :=
  ⟨own_kept h.row hb hn, fun p hp => (h.each p hp).below hb hn⟩
theorem EntsR.here {w : World} {v : Value} {ps : List Pr} (h : EntsR w v ps) {i : Nat} {p : Pr} (hi : ps[i]? = some p) : ∃ g cap A c, v = .slice (some ⟨g, 0, none⟩) ps.length cap ∧ ps.length ≤ cap ∧ g < w.heap.size ∧ p.2 = .slice A p.1.1.fields.length c ∧
    w.cell? ⟨g, i * 4, none⟩ = some (.int .i64 p.1.1.kind) ∧ w.cell? ⟨g, i * 4 + 1, none⟩ = some (.string (B p.1.1.raw)) ∧ w.cell? ⟨g, i * 4 + 1 + 1, none⟩ = some p.2 ∧ w.cell? ⟨g, i * 4 + 1 + 1 + 1, none⟩ = some (.int .i64 p.1.2) := by
  have hlt : i < ps.length := (List.getElem?_eq_some_iff.1 hi).1
  obtain ⟨A, c, hA⟩ := (h.each p (List.mem_of_getElem? hi)).form
  have hr := h.row
  rcases h.row.2 with ⟨_, hn⟩ | ⟨g, cap, cur, e, _, hg, hle, _⟩
  · omega
  · rw [e] at hr
    have at_ := entCells_at ps i p hi
    refine ⟨g, cap, A, c, e, hle, (World.ownsRow.lt hr g rfl).2, hA, ?_, ?_, ?_, ?_⟩
    · rw [World.ownsRow.cellAt hr (i * 4) (by omega)]; exact at_ 0 _ rfl
    · rw [World.ownsRow.cellAt hr (i * 4 + 1) (by omega)]; exact at_ 1 _ rfl
    · rw [World.ownsRow.cellAt hr (i * 4 + 1 + 1) (by omega)]; exact at_ 2 _ rfl
    · rw [World.ownsRow.cellAt hr (i * 4 + 1 + 1 + 1) (by omega)]; exact at_ 3 _ rfl
theorem EntsR.empty {w : World} {v : Value} {ps : List Pr} (h : EntsR w v ps) : ∃ A cap, v = .slice A ps.length cap ∧ ps.length ≤ cap := by
  rcases h.row.2 with ⟨e, hn⟩ | ⟨g, cap, cur, e, _, hg, hle, _⟩
  · exact ⟨none, 0, by rw [e, hn], by omega⟩
  · exact ⟨_, cap, e, hle⟩
/-- An entry as a value. -/
def entV (p : Pr) : Value := .agg #[.int .i64 p.1.1.kind, .string (B p.1.1.raw), p.2, .int .i64 p.1.2]
/-- The stanzas among the entries. -/
abbrev stzP : Nat → List Pr → List (Nat × Pr) := stzG fun p => p.1.1.kind

theorem from7_any (v : Value) (w : World) (A : Option Addr) (n c : Nat) (hv : v = .slice A n c) :
    Calls Tryz.prog 80 #[v] w fun e w' => e = .returned (.func (.func 110) #[] #[.pointer (some ⟨w.heap.size + 1, 0, none⟩), .pointer (some ⟨w.heap.size, 0, none⟩)]) ∧
      w' = (w.alloc (.cells #[v] 96)).alloc (.cells #[.int .i64 0] 3) := by
  subst hv
  go_enter Tryz.func80, Tryz.ntmps80
  go_wp2
  go_ret
  exact ⟨rfl, rfl⟩
/-- What the closure answers. -/
def NextR (ps : List Pr) (n : Nat) (Bn : Nat) (w : World) (e : Ending) (w' : World) : Prop :=
  ∃ n', Boxed w' Bn 3 (.int .i64 (n' : Nat)) ∧ Only (· = Bn) w w' ∧ n' ≤ ps.length ∧
    ((e = .returned (.tuple #[.int .i64 0, .bool false]) ∧ stzP n (ps.drop n) = []) ∨
      ∃ k p, n ≤ k ∧ n' = k + 1 ∧ e = .returned (.tuple #[.int .i64 (k : Nat), .bool true]) ∧ ps[k]? = some p ∧ stzP n (ps.drop n) = (k, p) :: stzP n' (ps.drop n'))
set_option maxRecDepth 100000 in
set_option maxHeartbeats 4000000 in
theorem next7_any (ps : List Pr) (v : Value) (n Bn Be : Nat) (w : World) (hn : n ≤ ps.length) (hps : ps.length ≤ 1000000) (hbn : Boxed w Bn 3 (.int .i64 (n : Nat))) (hbe : Boxed w Be 96 v) (hne : Be ≠ Bn) (hE : EntsR w v ps) (hg : ∀ g, v.ownBlock = some g → g ≠ Bn) :
    Calls Tryz.prog 110 #[.pointer (some ⟨Bn, 0, none⟩), .pointer (some ⟨Be, 0, none⟩)] w fun e w' => NextR ps n Bn w e w' := by
  obtain ⟨A, cap, rfl, hle⟩ := hE.empty
  have HE := Lib.hid hE
  have HG := Lib.hid hg
  have HBE := Lib.hid hbe
  have HN := Lib.hid hne
  have HBN := Lib.hid hbn
  clear hE hg hbe hbn
  go_enter Tryz.func110, Tryz.ntmps110
  go_wp2_with fail
  go_loopw [4] (fun _ wr => ∃ k : Nat, n ≤ k ∧ k ≤ ps.length ∧ Boxed wr Bn 3 (.int .i64 (k : Nat)) ∧ Only (· = Bn) w wr ∧ stzP n (ps.drop n) = stzP k (ps.drop k)) (fun _ wr => ps.length - atOf Bn wr)
  case atStart => exact ⟨n, Nat.le_refl _, hn, HBN.out, Only.refl _ _, rfl⟩
  case round =>
    obtain ⟨k, hk1, hk2, hb, ho, hs⟩ := hrel
    have c0 := hb.cell
    have f0 := hb.frozen
    have c1 : wr.cell? ⟨Be, 0, none⟩ = some (.slice A ps.length cap) := Boxed.cell (show Boxed wr Be _ _ from (ho.same Be HBE.out.lt HN.out).trans HBE.out)
    have HB := Lib.hid hb
    have HO := Lib.hid ho
    have HS := Lib.hid hs
    have hk3 : k ≤ 1000000 := by omega
    clear hb ho hs
    by_cases hlt : k < ps.length
    · obtain ⟨p, hp⟩ : ∃ p, ps[k]? = some p := ⟨_, List.getElem?_eq_getElem hlt⟩
      obtain ⟨g, cap', pa, pc, e, _, hgl, _, d0, _⟩ := HE.out.here hp
      cases e
      have hgn : g ≠ Bn := HG.out g rfl
      replace d0 : wr.cell? ⟨g, k * 4, none⟩ = some (.int .i64 p.1.1.kind) := (World.cell?_of_block (w := w) (a := ⟨g, k * 4, none⟩) (HO.out.same g hgl hgn)).trans d0
      have hbe2 : Be ≠ Bn := HN.out
      have SD := Lib.hid (stzG_drop (κ := fun p : Pr => p.1.1.kind) ps 0 k p hp)
      have HP := Lib.hid hp
      clear hp
      by_cases hk : p.1.1.kind = 3
      · rw [hk] at d0
        go_wp2_with fail
        go_ret2
        refine ⟨k + 1, ?_, HO.out.cellS 0 _, hlt, .inr ⟨k, p, hk1, rfl, rfl, HP.out, ?_⟩⟩
        · exact Boxed.set _ HB.out
        · rw [HS.out]
          have := SD.out
          rw [if_pos hk, Nat.zero_add, Nat.zero_add] at this
          exact this
      · have hk' : ((p.1.1.kind : Int) == 3) = false := beq_eq_false_iff_ne.2 hk
        go_wp2_with fail
        go_roundw
        case rel =>
          refine ⟨k + 1, by omega, hlt, Boxed.set _ HB.out, HO.out.cellS 0 _, ?_⟩
          rw [HS.out]
          have := SD.out
          rw [if_neg hk, Nat.zero_add, Nat.zero_add] at this
          exact this
        case measure =>
          rw [atOf_eq HB.out, atOf_eq (B := Bn) (n := k + 1) (w := wr.setCell ⟨Bn, 0, none⟩ (.int .i64 ((k : Int) + 1))) (Boxed.set (.int .i64 ((k : Int) + 1)) HB.out)]
          omega
    · obtain rfl : k = ps.length := by omega
      go_wp2_with fail
      go_ret2
      refine ⟨ps.length, HB.out, HO.out, Nat.le_refl _, .inl ⟨rfl, ?_⟩⟩
      rw [HS.out, List.drop_of_length_le (Nat.le_refl _)]; rfl
end Go.Proofs.YtflnlenkgbphpaaGreatDoor

namespace Go.Proofs.YtflnlenkgbphpaaGreatDoor
open Go.RowKit Go.Shelf
attribute [local go_sem] Oper.semAt_some

theorem stz7_any (v : Value) (w : World) (A : Option Addr) (n c : Nat) (hv : v = .slice A n c) :
    Calls Tryz.prog 54 #[v] w fun e w' => e = .returned (.func (.func 79) #[] #[.pointer (some ⟨w.heap.size, 0, none⟩)]) ∧ w' = w.alloc (.cells #[v] 96) := by
  subst hv
  go_enter Tryz.func54, Tryz.ntmps54
  go_wp2
  go_ret
  exact ⟨rfl, rfl⟩
set_option maxRecDepth 100000 in
set_option maxHeartbeats 4000000 in
theorem stz_hands (ps : List Pr) (v : Value) (Be : Nat) (w : World) (hbox : Boxed w Be 96 v) (hps : ps.length ≤ 1000000) (hE : EntsR w v ps) :
    HandsK Tryz.prog 79 #[.pointer (some ⟨Be, 0, none⟩)] (fun x => #[.int .i64 (x.1 : Nat), entV x.2]) 2 (stzP 0 ps) (fun W => EntsR W v ps ∧ Boxed W Be 96 v) w := by
  intro l J Jx W hW hJ hK hY h0
  have hb : Boxed W Be 96 v := (hW.block Be hbox.lt).trans hbox
  have hEW := hE.below hW (Nat.le_refl _)
  have hgw : ∀ g, v.ownBlock = some g → g < W.heap.size := fun g e => (hEW.row.lt g e).2
  obtain ⟨A, cap, hv, hle⟩ := hE.empty
  have c0 := hb.cell
  have hbw := hb.lt
  have FR := callsIn_wide (n := 7).2 (from7_any v W A ps.length cap hv)
  have HV := Lib.hid hv
  have HE0 := Lib.hid hEW
  clear hE hEW hv
  refine callsIn_of_wp Tryz.func79 rfl trivial ?_ rfl
  simp only [Tryz.ntmps79, List.size_toArray, List.length_cons, List.length_nil, Nat.reduceAdd, Nat.reduceSub, Array.replicate_succ, Array.replicate_zero, List.push_toArray, List.append_toArray, List.nil_append, List.cons_append]
  gi_wp2_with (refine ⟨trivial, ?_⟩; gi_at_call 80; refine FR.mono ?_; rintro e w' ⟨rfl, rfl⟩)
  gi_loopw [4, 5] (fun _ _ wr => ∃ (pre : List (Nat × Pr)) (n : Nat), n ≤ ps.length ∧ stzP 0 ps = pre ++ stzP n (ps.drop n) ∧ Boxed wr W.heap.size 96 v ∧ Boxed wr (W.heap.size + 1) 3 (.int .i64 (n : Nat)) ∧ J pre wr)
    (fun _ _ wr => ps.length - atOf (W.heap.size + 1) wr)
  case atStart =>
    refine ⟨[], 0, Nat.zero_le _, rfl, ?_, ?_, hJ.alloc _ (hJ.alloc _ h0)⟩
    · exact (Boxed.new W _ _).alloc _
    · have := Boxed.new (W.alloc (.cells #[v] 96)) 3 (.int .i64 0)
      rw [World.size_alloc] at this; exact this
  case round =>
    obtain ⟨pre, n, hn, hx, b1, b2, hj⟩ := hrel
    obtain ⟨hE1, hb1⟩ := hK _ _ hj
    have NX0 := next7_any ps v n (W.heap.size + 1) W.heap.size wr hn hps b2 b1 (by omega) hE1 (fun g e => by have := hgw g e; omega)
    have HX := Lib.hid hx
    have HE1 := Lib.hid hE1
    have HB1 := Lib.hid hb1
    have B1 := Lib.hid b1
    have B2 := Lib.hid b2
    clear hE1 hb1 hx b1 b2
    have turn : ∀ (w' : World), Only (· = W.heap.size + 1) wr w' → Turned W.heap.size 2 wr w' := fun w' ho => ⟨ho.os, ho.tape, ho.output, ho.size, fun r a b => ho.same r a (by omega)⟩
    cases hq : stzP n (ps.drop n) with
    | nil =>
      have NX := callsIn_wide (n := 7).2 (NX0.mono (R' := fun e w' => e = .returned (.tuple #[.int .i64 0, .bool false]) ∧ Only (· = W.heap.size + 1) wr w') (by
        rintro e w' ⟨n', b2', ho, hn', (⟨rfl, hs⟩ | ⟨k, p, hk, hk2, rfl, hp, hs⟩)⟩
        · exact ⟨rfl, ho⟩
        · rw [hs] at hq; cases hq))
      have HQ := Lib.hid hq
      clear NX0 hq
      gi_wp2_with (refine ⟨trivial, ?_⟩; gi_at_call 110; refine NX.mono ?_; clear NX; rintro e w' ⟨rfl, ho⟩)
      refine ⟨fun _ h => (by cases h), ?_⟩
      gi_wp2
      refine bodyPost_ret (results_none rfl _ _ _) rfl ⟨⟨_, rfl⟩, .inl ?_⟩
      have e0 : stzP 0 ps = pre := by rw [HX.out, HQ.out, List.append_nil]
      rw [e0]
      exact hJ _ _ _ hj (turn _ ho)
    | cons x post =>
      obtain ⟨k, p⟩ := x
      have NX := callsIn_wide (n := 7).2 (NX0.mono (R' := fun e w' => e = .returned (.tuple #[.int .i64 (k : Nat), .bool true]) ∧ Only (· = W.heap.size + 1) wr w' ∧ n ≤ k ∧ k < ps.length ∧ Boxed w' (W.heap.size + 1) 3 (.int .i64 (k + 1 : Nat)) ∧ ps[k]? = some p ∧ post = stzP (k + 1) (ps.drop (k + 1))) (by
        rintro e w' ⟨n', b2', ho, hn', (⟨rfl, hs⟩ | ⟨k', p', hk, hk2, rfl, hp, hs⟩)⟩
        · rw [hs] at hq; cases hq
        · rw [hs] at hq
          cases hq
          subst hk2
          exact ⟨rfl, ho, hk, hn', b2', hp, rfl⟩))
      have HQ := Lib.hid hq
      have hpk : ps[k]? = some p := by
        have := (stzG_mem n (ps.drop n) (k, p) (by rw [show stzG (fun p : Pr => p.1.1.kind) n (ps.drop n) = _ from hq]; exact List.mem_cons_self)).2.1
        have h2 := (stzG_mem n (ps.drop n) (k, p) (by rw [show stzG (fun p : Pr => p.1.1.kind) n (ps.drop n) = _ from hq]; exact List.mem_cons_self)).1
        rw [List.getElem?_drop, show n + ((k, p).1 - n) = k by simp only at h2 ⊢; omega] at this
        exact this
      have hkl0 := (List.getElem?_eq_some_iff.1 hpk).1
      obtain ⟨g, cap', pa, pc, e1, _, hg, e2, d0, d1, d2, d3⟩ := HE1.out.here hpk
      have q0 : wr.cell? ⟨Be, 0, none⟩ = some v := HB1.out.cell
      have hgw' := hgw g (by rw [e1]; rfl)
      rw [e2] at d2
      rw [e1] at q0
      have moved : ∀ (w' : World), Only (· = W.heap.size + 1) wr w' → w'.cell? ⟨Be, 0, none⟩ = some (.slice (some ⟨g, 0, none⟩) ps.length cap') ∧ w'.cell? ⟨g, k * 4, none⟩ = some (.int .i64 p.1.1.kind) ∧ w'.cell? ⟨g, k * 4 + 1, none⟩ = some (.string (B p.1.1.raw)) ∧ w'.cell? ⟨g, k * 4 + 1 + 1, none⟩ = some (.slice pa p.1.1.fields.length pc) ∧ w'.cell? ⟨g, k * 4 + 1 + 1 + 1, none⟩ = some (.int .i64 p.1.2) := fun w' ho =>
        ⟨(World.cell?_of_block (w := wr) (a := ⟨Be, 0, none⟩) (ho.same Be HB1.out.lt (by omega))).trans q0, (World.cell?_of_block (w := wr) (a := ⟨g, k * 4, none⟩) (ho.same g hg (by omega))).trans d0, (World.cell?_of_block (w := wr) (a := ⟨g, k * 4 + 1, none⟩) (ho.same g hg (by omega))).trans d1, (World.cell?_of_block (w := wr) (a := ⟨g, k * 4 + 1 + 1, none⟩) (ho.same g hg (by omega))).trans d2, (World.cell?_of_block (w := wr) (a := ⟨g, k * 4 + 1 + 1 + 1, none⟩) (ho.same g hg (by omega))).trans d3⟩
      have MV := Lib.hid moved
      have T := Lib.hid turn
      have E1 := Lib.hid e1
      have E2 := Lib.hid e2
      have HPK := Lib.hid hpk
      clear NX0 hq moved d0 d1 d2 d3 e1 e2 q0 hpk turn
      gi_wp2_with (refine ⟨trivial, ?_⟩; gi_at_call 110; refine NX.mono ?_; clear NX; rintro e w' ⟨rfl, ho, hk, hkl, b2', hp, hpost⟩; obtain ⟨m0, m1, m2, m3, m4⟩ := MV.out _ ho; clear hp; have HPO := Lib.hid hpost; clear hpost)
      have jw : J pre w' := hJ _ _ _ hj (T.out _ ho)
      have hz := ho.size
      have hz1 := B1.out.lt
      have hz2 := B2.out.lt
      have hxp : stzP 0 ps = pre ++ (k, p) :: post := by rw [HX.out, HQ.out]
      obtain ⟨fn, tmps, assign, body, hy, hR⟩ := hY pre (k, p) post w' hxp (by omega) jw
      dsimp only [entV] at hy
      rw [E2.out] at hy
      rw [hy, Oper.uponIn_round]
      refine ⟨fun h => (by cases h), hR.mono ?_⟩
      clear hR hy
      rintro e W3 (⟨rfl, hJ3, hk3⟩ | ⟨rfl, hJx3⟩)
      · gi_wp2
        go_roundw
        case rel =>
          refine ⟨pre ++ [(k, p)], k + 1, hkl, ?_, ?_, ?_, hJ3⟩
          · rw [hxp, HPO.out, List.append_assoc, List.singleton_append]
          · exact (hk3.same _ (by omega) (by omega)).trans ((ho.same _ hz1 (by omega)).trans B1.out)
          · exact (hk3.same _ (by omega) (by omega)).trans b2'
        case measure =>
          rw [atOf_eq B2.out, atOf_eq (B := W.heap.size + 1) (w := W3) (n := k + 1) ((hk3.same _ (by omega) (by omega)).trans b2')]
          omega
      · gi_wp2
        refine bodyPost_ret (results_none rfl _ _ _) rfl ⟨⟨_, rfl⟩, .inr ⟨_, ⟨post, ?_⟩, hJx3⟩⟩
        rw [hxp, List.append_assoc, List.singleton_append]
end Go.Proofs.YtflnlenkgbphpaaGreatDoor

namespace Go.Proofs.YtflnlenkgbphpaaGreatDoor
open Go.RowKit Go.Shelf
attribute [local go_sem] Oper.semAt_some

/-- A list in memory, readable: its block, its entries' slice. -/
structure LR (w : World) (lb : Nat) (ev : Value) (ps : List Pr) (nx : Int) : Prop where
  head : Cells w lb 106 #[ev, .int .i64 (nx - 1)]
  ents : EntsR w ev ps
theorem LR.below {w w' : World} {lb : Nat} {ev : Value} {ps : List Pr} {nx : Int} {n : Nat} (h : LR w lb ev ps nx) (hb : Below n w w') (hn : w.heap.size ≤ n) : LR w' lb ev ps nx :=
  ⟨h.head.below hb (Nat.lt_of_lt_of_le h.head.lt hn), h.ents.below hb hn⟩
abbrev ptr (b : Nat) : Value := .pointer (some ⟨b, 0, none⟩)
theorem all_any (lb : Nat) (ev : Value) (ps : List Pr) (nx : Int) (w : World) (h : LR w lb ev ps nx) :
    Calls Tryz.prog 55 #[ptr lb] w fun e w' => e = .returned ev ∧ w = w' := by
  obtain ⟨A, cap, rfl, hle⟩ := h.ents.empty
  have c0 : w.cell? ⟨lb, 0, none⟩ = some (.slice A ps.length cap) := h.head.cell 0
  clear h
  unfold ptr
  go_enter Tryz.func55, Tryz.ntmps55
  go_wp2_with fail
  go_ret
  exact ⟨rfl, rfl⟩
theorem all_none (w : World) : Calls Tryz.prog 55 #[.pointer none] w fun e w' => e = .returned (.slice none 0 0) ∧ w = w' := by
  go_enter Tryz.func55, Tryz.ntmps55
  go_wp2_with fail
  go_ret
  exact ⟨rfl, rfl⟩
/-- Where the stanza of a number stands. -/
def findP (ps : List Pr) (id : Int) : Option Nat := ((stzP 0 ps).find? fun x => x.2.1.2 == id).map Prod.fst
def foundV (o : Option Nat) : Value := match o with | none => .tuple #[.int .i64 0, .bool false] | some k => .tuple #[.int .i64 (k : Nat), .bool true]
theorem entsNone (w : World) : EntsR w (.slice none 0 0) [] := ⟨⟨rfl, .inl ⟨rfl, rfl⟩⟩, fun p h => by cases h⟩
/-- What all answers: of a list, or of none. -/
def AllR (w : World) (l v : Value) (ps : List Pr) : Prop := EntsR w v ps ∧ Calls Tryz.prog 55 #[l] w fun e w' => e = .returned v ∧ w = w'
theorem AllR.of {w : World} {lb : Nat} {ev : Value} {ps : List Pr} {nx : Int} (h : LR w lb ev ps nx) : AllR w (ptr lb) ev ps := ⟨h.ents, all_any lb ev ps nx w h⟩
theorem AllR.none (w : World) : AllR w (.pointer none) (.slice none 0 0) [] := ⟨entsNone w, all_none w⟩
theorem find_none {ps : List Pr} {id : Int} (h : ∀ y ∈ stzP 0 ps, y.2.1.2 ≠ id) : findP ps id = none := by
  unfold findP
  rw [List.find?_eq_none.2 (fun x hx => by simpa using h x hx)]; rfl
theorem find_some {ps : List Pr} {id : Int} {pre post : List (Nat × Pr)} {x : Nat × Pr} (h : stzP 0 ps = pre ++ x :: post) (h1 : ∀ y ∈ pre, y.2.1.2 ≠ id) (h2 : x.2.1.2 = id) : findP ps id = some x.1 := by
  unfold findP
  rw [h, List.find?_append, List.find?_eq_none.2 (fun y hy => by simpa using h1 y hy), List.find?_cons_of_pos (by simpa using h2)]; rfl
theorem entBox {W : World} {Bx : Nat} {p : Pr} (h : Cells W Bx 101 #[.int .i64 p.1.1.kind, .string (B p.1.1.raw), p.2, .int .i64 p.1.2]) : W.cell? ⟨Bx, 0, none⟩ = some (.int .i64 p.1.1.kind) ∧ W.cell? ⟨Bx, 1, none⟩ = some (.string (B p.1.1.raw)) ∧ W.cell? ⟨Bx, 2, none⟩ = some p.2 ∧ W.cell? ⟨Bx, 3, none⟩ = some (.int .i64 p.1.2) :=
  ⟨h.cell 0, h.cell 1, h.cell 2, h.cell 3⟩
theorem findOut {Q : Ending → World → Prop} (w W : World) (v e : Value) (tmps : Array Value) (hv1 : v.oneCell' = true) (he1 : e.oneCell' = true) (h4 : Boxed W (w.heap.size + 1) 3 v) (h5 : Boxed W (w.heap.size + 1 + 1) 4 e) (hB : Below w.heap.size w W)
    (hK : W.heap[w.heap.size + 4]? = some (.deferred (some []))) (t4 : tmps[4]? = some (.pointer (some ⟨w.heap.size + 1, 0, none⟩))) (t5 : tmps[5]? = some (.pointer (some ⟨w.heap.size + 1 + 1, 0, none⟩)))
    (hQ : ∀ W', Below w.heap.size w W' → Q (.returned (.tuple #[v, e])) W') :
    bodyPostM Fence.wide 9 Tryz.prog Tryz.f111 Q .ret { tmps := tmps, defers := [{ target := .collected (w.heap.size + 4), args := #[] }] } W := by
  have p1 := grownBy_putObj' W (w.heap.size + 4) (.deferred none)
  have r4 : Boxed (W.putObj (w.heap.size + 4) (.deferred none)) (w.heap.size + 1) 3 v := (p1.block _ h4.lt (fun e => by have := Option.some.inj e; omega)).trans h4
  have r5 : Boxed (W.putObj (w.heap.size + 4) (.deferred none)) (w.heap.size + 1 + 1) 4 e := (p1.block _ h5.lt (fun e => by have := Option.some.inj e; omega)).trans h5
  have c4 := r4.cell
  have c5 := r5.cell
  refine ⟨by simp, .inl ⟨_, _, rfl, run_takeDeferred hK, ?_⟩⟩
  exact ⟨.tuple #[v, e], by simp [results, Tryz.f111, go_sem, t4, t5, c4, c5], hQ _ (hB.trans (belowK_b (w := w) (Nat.le_refl _) W _ _ _ (by omega) hK rfl rfl))⟩
set_option maxRecDepth 100000 in
set_option maxHeartbeats 4000000 in
theorem find_gen (ps : List Pr) (v : Value) (q : Option Addr) (id : Int) (w : World) (hl : ∀ W, Below w.heap.size w W → AllR W (.pointer q) v ps) (hps : ps.length ≤ 1000000) :
    Calls Tryz.prog 111 #[.pointer q, .int .i64 id] w fun e w' => e = .returned (foundV (findP ps id)) ∧ Below w.heap.size w w' := by
  obtain ⟨A, cap, hv, hle⟩ := (hl w (Below.refl _ _)).1.empty
  have ALL := Lib.hid (fun W hB => callsIn_wide (n := 8).2 (hl W hB).2)
  have HE := Lib.hid (fun W hB => (hl W hB).1)
  have ST := Lib.hid (fun W => callsIn_wide (n := 8).2 (stz7_any v W A ps.length cap hv))
  have HV := Lib.hid hv
  clear hl hv
  refine callsIn_wide (n := 9).1 ?_
  refine callsIn_of_wp_marks Tryz.func111 rfl trivial ?_ rfl
  simp only [Tryz.ntmps111, List.size_toArray, List.length_cons, List.length_nil, Nat.reduceAdd, Nat.reduceSub, Array.replicate_succ, Array.replicate_zero, List.push_toArray, List.append_toArray, List.nil_append, List.cons_append]
  gi_wp2_with fail
  have hb0 : Below w.heap.size w (((w.alloc (.cells #[.int .i64 id] 3)).alloc (.cells #[.int .i64 0] 3)).alloc (.cells #[.bool false] 4)) := (((Below.refl _ w).alloc (Nat.le_refl _) _).alloc (by simp) _).alloc (by simp; omega) _
  refine ⟨trivial, (ALL.out _ hb0).mono ?_⟩
  rintro e w1 ⟨rfl, rfl⟩
  gi_wp2_with fail
  refine ⟨trivial, (ST.out _).mono ?_⟩
  rintro e w1 ⟨rfl, rfl⟩
  gi_wp2_with fail
  obtain ⟨w1, hw1⟩ : ∃ w1, w1 = ((((w.alloc (.cells #[.int .i64 id] 3)).alloc (.cells #[.int .i64 0] 3)).alloc (.cells #[.bool false] 4)).alloc (.cells #[v] 96)) := ⟨_, rfl⟩
  have hz : w1.heap.size = w.heap.size + 4 := by rw [hw1]; simp
  have B0 : Boxed w1 w.heap.size 3 (.int .i64 id) := by rw [hw1]; exact (((Boxed.new w _ _).alloc _).alloc _).alloc _
  have B1 : Boxed w1 (w.heap.size + 1) 3 (.int .i64 0) := by rw [hw1]; exact ((boxNew2 w _ _ _).alloc _).alloc _
  have B2 : Boxed w1 (w.heap.size + 1 + 1) 4 (.bool false) := by rw [hw1]; exact (boxNew3 w _ _ _ _).alloc _
  have B3 : Boxed w1 (w.heap.size + 1 + 1 + 1) 96 v := by rw [hw1]; exact boxNew4 w _ _ _ _ _
  have hb1 : Below w.heap.size w w1 := by rw [hw1]; exact hb0.alloc (by simp; omega) _
  rw [← hw1]
  clear hw1 hb0
  have HH := stz_hands ps v _ w1 B3 hps (HE.out _ hb1)
  refine wp_rangedKA (gf := 79) (lb := #[.pointer (some ⟨w.heap.size + 1 + 1 + 1, 0, none⟩)]) rfl (enters_of Tryz.func79 (by kernel_rfl) rfl) HH (fun _ => rfl)
    (fun pre W => (∀ y ∈ pre, y.2.1.2 ≠ id) ∧ Boxed W w.heap.size 3 (.int .i64 id) ∧ Boxed W (w.heap.size + 1) 3 (.int .i64 0) ∧ Boxed W (w.heap.size + 1 + 1) 4 (.bool false) ∧ Boxed W (w.heap.size + 1 + 1 + 1) 96 v ∧ Below w.heap.size w W)
    (fun c pre W => c = .ret ∧ (∃ k, findP ps id = some k ∧ Boxed W (w.heap.size + 1) 3 (.int .i64 (k : Nat)) ∧ Boxed W (w.heap.size + 1 + 1) 4 (.bool true) ∧ Below w.heap.size w W))
    (by
      rw [hz]
      exact (Abide.pure _ _ _).and ((Abide.box (.inl (by omega)) _).and ((Abide.box (.inl (by omega)) _).and ((Abide.box (.inl (by omega)) _).and ((Abide.box (.inl (by omega)) _).and (Abide.below (Nat.le_refl _) (by omega)))))))
    (by
      rw [hz]
      rintro c s W W' ⟨h0, k, h1, h2, h3, h4⟩ ht
      exact ⟨h0, k, h1, ht.box h2 (.inl (by omega)), ht.box h3 (.inl (by omega)), h4.trans (ht.below (by omega) (by have := h4.size; omega))⟩)
    ⟨(fun y h => by cases h), B0, B1, B2, B3, hb1⟩
    (fun pre W h => ⟨HE.out _ h.2.2.2.2.2, h.2.2.2.2.1⟩)
    (fun a pre x a' W => ∃ Bx, w.heap.size + 8 ≤ Bx ∧ a' = { tmps := (((a.tmps.setIfInBounds 11 (.int .i64 (x.1 : Nat))).setIfInBounds 12 (entV x.2)).setIfInBounds 6 (.int .i64 (x.1 : Nat))).setIfInBounds 7 (ptr Bx), defers := [] } ∧ Cells W Bx 101 #[.int .i64 x.2.1.1.kind, .string (B x.2.1.1.raw), x.2.2, .int .i64 x.2.1.2] ∧
      (∀ y ∈ pre, y.2.1.2 ≠ id) ∧ Boxed W w.heap.size 3 (.int .i64 id) ∧ Boxed W (w.heap.size + 1) 3 (.int .i64 0) ∧ Boxed W (w.heap.size + 1 + 1) 4 (.bool false) ∧ Boxed W (w.heap.size + 1 + 1 + 1) 96 v ∧ Below w.heap.size w W)
    ?hM ?assign ?body ?done ?stop
  case hM =>
    rw [hz]
    rintro a pre x a' _ W W' ⟨Bx, h1, h2, h3, h4, h5, h6, h7, h8, h9⟩ ht
    exact ⟨Bx, h1, h2, (ht.same Bx h3.lt (.inr (by omega))).trans h3, h4, ht.box h5 (.inl (by omega)), ht.box h6 (.inl (by omega)), ht.box h7 (.inl (by omega)), ht.box h8 (.inl (by omega)), h9.trans (ht.below (by omega) (by have := h9.size; omega))⟩
  case assign =>
    rw [hz]
    intro l pre x post W hx hsz hi
    have hfr : ∃ fa fc, x.2.2 = .slice fa x.2.1.1.fields.length fc := by
      have hm := stzG_mem 0 ps x (by rw [show stzG (fun p : Pr => p.1.1.kind) 0 ps = _ from hx]; simp)
      exact ((HE.out _ hi.2.2.2.2.2).each x.2 (List.mem_of_getElem? hm.2.1)).form
    obtain ⟨k, ⟨⟨⟨kd, raw, fs⟩, num⟩, fv⟩⟩ := x
    obtain ⟨fa, fc, e⟩ := hfr
    dsimp only at e
    subst e
    clear hx
    dsimp only [entV]
    gi_wp2
    exact ⟨(Stay.refl _ _ W).alloc hsz _, W.heap.size, by omega, rfl, Cells.new _ _ _, hi.1, hi.2.1.alloc _, hi.2.2.1.alloc _, hi.2.2.2.1.alloc _, hi.2.2.2.2.1.alloc _, hi.2.2.2.2.2.alloc hi.2.2.2.2.2.size _⟩
  case body =>
    rw [hz]
    rintro l pre x post a' W hx hsz ⟨Bx, hB, rfl, hc, hpre, b0, b1, b2, b3, hb⟩
    simp only [List.setIfInBounds_toArray, List.set_cons_zero, List.set_cons_succ, entV]
    have q3 := (entBox hc).2.2.2
    have c0 := b0.cell
    have c1 := b1.cell
    have c2 := b2.cell
    have f1 := b1.frozen
    have f2 := b2.frozen
    have FS := Lib.hid (fun h => find_some hx hpre h)
    have HPRE := Lib.hid hpre
    clear hpre hx
    by_cases hq : x.2.1.2 = id
    · rw [hq] at q3
      gi_wp2_with fail
      have hst : Stay (w.heap.size + 4) 4 W ((W.setCell ⟨w.heap.size + 1, 0, none⟩ (.int .i64 (x.1 : Nat))).setCell ⟨w.heap.size + 1 + 1, 0, none⟩ (.bool true)) := ((Stay.refl _ _ W).setCell (.inl (by show w.heap.size + 1 < _; omega)) _).setCell (.inl (by show w.heap.size + 1 + 1 < _; omega)) _
      refine ⟨hst, rfl, x.1, FS.out hq, (Boxed.set _ b1).other (by show w.heap.size + 1 ≠ w.heap.size + 1 + 1; omega) _, Boxed.set _ (b2.other (by show w.heap.size + 1 + 1 ≠ w.heap.size + 1; omega) _), ?_⟩
      exact (hb.setCell (p := ⟨w.heap.size + 1, 0, none⟩) (by show w.heap.size ≤ w.heap.size + 1; omega) _).setCell (p := ⟨w.heap.size + 1 + 1, 0, none⟩) (by show w.heap.size ≤ w.heap.size + 1 + 1; omega) _
    · have hq' : ((x.2.1.2 : Int) == id) = false := beq_eq_false_iff_ne.2 hq
      gi_wp2_with fail
      refine ⟨Stay.refl _ _ _, ?_, b0, b1, b2, b3, hb⟩
      intro y hy
      rcases List.mem_append.1 hy with h | h
      · exact HPRE.out y h
      · rw [List.mem_singleton.1 h]; exact hq
  case done =>
    rw [hz]
    rintro W ⟨hpre, b0, b1, b2, b3, hb⟩ hK
    have c1 := b1.cell
    have c2 := b2.cell
    have f1 := b1.frozen
    have f2 := b2.frozen
    have FN := Lib.hid (find_none hpre)
    have zK := (Array.getElem?_eq_some_iff.1 hK).1
    clear hpre
    gi_wp2_with fail
    refine findOut w _ (.int .i64 0) (.bool false) _ rfl rfl ((Boxed.set _ b1).other (by show w.heap.size + 1 ≠ w.heap.size + 1 + 1; omega) _) (Boxed.set _ (b2.other (by show w.heap.size + 1 + 1 ≠ w.heap.size + 1; omega) _))
      ((hb.setCell (p := ⟨w.heap.size + 1, 0, none⟩) (by show w.heap.size ≤ w.heap.size + 1; omega) _).setCell (p := ⟨w.heap.size + 1 + 1, 0, none⟩) (by show w.heap.size ≤ w.heap.size + 1 + 1; omega) _)
      (((Below.heap_setCell _ _ _ _ (by show w.heap.size + 4 ≠ w.heap.size + 1 + 1; omega)).trans (Below.heap_setCell _ _ _ _ (by show w.heap.size + 4 ≠ w.heap.size + 1; omega))).trans hK) rfl rfl (fun W' h => ⟨?_, h⟩)
    rw [FN.out]; rfl
  case stop =>
    rw [hz]
    rintro c pre W _ ⟨rfl, k, hk, b1, b2, hb⟩ hK
    gi_wp2_with fail
    refine findOut w _ (.int .i64 (k : Nat)) (.bool true) _ rfl rfl b1 b2 hb hK rfl rfl (fun W' h => ⟨?_, h⟩)
    rw [hk]; rfl
end Go.Proofs.YtflnlenkgbphpaaGreatDoor

namespace Go.Proofs.YtflnlenkgbphpaaGreatDoor
open Go.RowKit Go.Shelf
attribute [local go_sem] Oper.semAt_some

/-- Which one a stanza is. -/
def placeP (ps : List Pr) (id : Int) : Int := match (stzP 0 ps).findIdx? fun x => x.2.1.2 == id with | none => -1 | some k => (k : Nat)
theorem place_none {ps : List Pr} {id : Int} (h : ∀ y ∈ stzP 0 ps, y.2.1.2 ≠ id) : placeP ps id = -1 := by
  unfold placeP
  rw [List.findIdx?_eq_none_iff.2 (fun x hx => by simpa using h x hx)]
theorem place_some {ps : List Pr} {id : Int} {pre post : List (Nat × Pr)} {x : Nat × Pr} (h : stzP 0 ps = pre ++ x :: post) (h1 : ∀ y ∈ pre, y.2.1.2 ≠ id) (h2 : x.2.1.2 = id) : placeP ps id = (pre.length : Nat) := by
  unfold placeP
  rw [h, List.findIdx?_append, List.findIdx?_eq_none_iff.2 (fun y hy => by simpa using h1 y hy), List.findIdx?_cons, h2]
  simp
theorem placeOut {Q : Ending → World → Prop} (w W : World) (v : Value) (tmps : Array Value) (hv1 : v.oneCell' = true) (h4 : Boxed W (w.heap.size + 1) 3 v) (hB : Below w.heap.size w W)
    (hK : W.heap[w.heap.size + 4]? = some (.deferred (some []))) (t4 : tmps[4]? = some (.pointer (some ⟨w.heap.size + 1, 0, none⟩)))
    (hQ : ∀ W', Below w.heap.size w W' → Q (.returned v) W') :
    bodyPostM Fence.wide 9 Tryz.prog Tryz.f112 Q .ret { tmps := tmps, defers := [{ target := .collected (w.heap.size + 4), args := #[] }] } W := by
  have p1 := grownBy_putObj' W (w.heap.size + 4) (.deferred none)
  have r4 : Boxed (W.putObj (w.heap.size + 4) (.deferred none)) (w.heap.size + 1) 3 v := (p1.block _ h4.lt (fun e => by have := Option.some.inj e; omega)).trans h4
  have c4 := r4.cell
  refine ⟨by simp, .inl ⟨_, _, rfl, run_takeDeferred hK, ?_⟩⟩
  exact ⟨v, by simp [results, Tryz.f112, go_sem, t4, c4], hQ _ (hB.trans (belowK_b (w := w) (Nat.le_refl _) W _ _ _ (by omega) hK rfl rfl))⟩
set_option maxRecDepth 100000 in
set_option maxHeartbeats 4000000 in
theorem place_gen (ps : List Pr) (v : Value) (q : Option Addr) (id : Int) (w : World) (hl : ∀ W, Below w.heap.size w W → AllR W (.pointer q) v ps) (hps : ps.length ≤ 1000000) :
    Calls Tryz.prog 112 #[.pointer q, .int .i64 id] w fun e w' => e = .returned (.int .i64 (placeP ps id)) ∧ Below w.heap.size w w' := by
  obtain ⟨A, cap, hv, hle⟩ := (hl w (Below.refl _ _)).1.empty
  have ALL := Lib.hid (fun W hB => callsIn_wide (n := 8).2 (hl W hB).2)
  have HE := Lib.hid (fun W hB => (hl W hB).1)
  have ST := Lib.hid (fun W => callsIn_wide (n := 8).2 (stz7_any v W A ps.length cap hv))
  have HV := Lib.hid hv
  clear hl hv
  refine callsIn_wide (n := 9).1 ?_
  refine callsIn_of_wp_marks Tryz.func112 rfl trivial ?_ rfl
  simp only [Tryz.ntmps112, List.size_toArray, List.length_cons, List.length_nil, Nat.reduceAdd, Nat.reduceSub, Array.replicate_succ, Array.replicate_zero, List.push_toArray, List.append_toArray, List.nil_append, List.cons_append]
  gi_wp2_with fail
  have hb0 : Below w.heap.size w (((w.alloc (.cells #[.int .i64 id] 3)).alloc (.cells #[.int .i64 0] 3)).alloc (.cells #[.int .i64 0] 3)) := (((Below.refl _ w).alloc (Nat.le_refl _) _).alloc (by simp) _).alloc (by simp; omega) _
  refine ⟨trivial, (ALL.out _ hb0).mono ?_⟩
  rintro e w1 ⟨rfl, rfl⟩
  gi_wp2_with fail
  refine ⟨trivial, (ST.out _).mono ?_⟩
  rintro e w1 ⟨rfl, rfl⟩
  gi_wp2_with fail
  obtain ⟨w1, hw1⟩ : ∃ w1, w1 = ((((w.alloc (.cells #[.int .i64 id] 3)).alloc (.cells #[.int .i64 0] 3)).alloc (.cells #[.int .i64 0] 3)).alloc (.cells #[v] 96)) := ⟨_, rfl⟩
  have hz : w1.heap.size = w.heap.size + 4 := by rw [hw1]; simp
  have B0 : Boxed w1 w.heap.size 3 (.int .i64 id) := by rw [hw1]; exact (((Boxed.new w _ _).alloc _).alloc _).alloc _
  have B1 : Boxed w1 (w.heap.size + 1) 3 (.int .i64 0) := by rw [hw1]; exact ((boxNew2 w _ _ _).alloc _).alloc _
  have B2 : Boxed w1 (w.heap.size + 1 + 1) 3 (.int .i64 0) := by rw [hw1]; exact (boxNew3 w _ _ _ _).alloc _
  have B3 : Boxed w1 (w.heap.size + 1 + 1 + 1) 96 v := by rw [hw1]; exact boxNew4 w _ _ _ _ _
  have hb1 : Below w.heap.size w w1 := by rw [hw1]; exact hb0.alloc (by simp; omega) _
  rw [← hw1]
  clear hw1 hb0
  have HH := stz_hands ps v _ w1 B3 hps (HE.out _ hb1)
  refine wp_rangedKA (gf := 79) (lb := #[.pointer (some ⟨w.heap.size + 1 + 1 + 1, 0, none⟩)]) rfl (enters_of Tryz.func79 (by kernel_rfl) rfl) HH (fun _ => rfl)
    (fun pre W => (∀ y ∈ pre, y.2.1.2 ≠ id) ∧ Boxed W w.heap.size 3 (.int .i64 id) ∧ Boxed W (w.heap.size + 1) 3 (.int .i64 0) ∧ Boxed W (w.heap.size + 1 + 1) 3 (.int .i64 (pre.length : Nat)) ∧ Boxed W (w.heap.size + 1 + 1 + 1) 96 v ∧ Below w.heap.size w W)
    (fun c pre W => c = .ret ∧ (Boxed W (w.heap.size + 1) 3 (.int .i64 (placeP ps id)) ∧ Below w.heap.size w W))
    (by
      rw [hz]
      exact (Abide.pure _ _ _).and ((Abide.box (.inl (by omega)) _).and ((Abide.box (.inl (by omega)) _).and ((Abide.box (.inl (by omega)) (fun pre : List (Nat × Pr) => .int .i64 (pre.length : Nat))).and ((Abide.box (.inl (by omega)) _).and (Abide.below (Nat.le_refl _) (by omega)))))))
    (by
      rw [hz]
      rintro c s W W' ⟨h0, h2, h4⟩ ht
      exact ⟨h0, ht.box h2 (.inl (by omega)), h4.trans (ht.below (by omega) (by have := h4.size; omega))⟩)
    ⟨(fun y h => by cases h), B0, B1, B2, B3, hb1⟩
    (fun pre W h => ⟨HE.out _ h.2.2.2.2.2, h.2.2.2.2.1⟩)
    (fun a pre x a' W => ∃ Bx, w.heap.size + 8 ≤ Bx ∧ a' = { tmps := ((a.tmps.setIfInBounds 11 (.int .i64 (x.1 : Nat))).setIfInBounds 12 (entV x.2)).setIfInBounds 7 (ptr Bx), defers := [] } ∧ Cells W Bx 101 #[.int .i64 x.2.1.1.kind, .string (B x.2.1.1.raw), x.2.2, .int .i64 x.2.1.2] ∧
      (∀ y ∈ pre, y.2.1.2 ≠ id) ∧ Boxed W w.heap.size 3 (.int .i64 id) ∧ Boxed W (w.heap.size + 1) 3 (.int .i64 0) ∧ Boxed W (w.heap.size + 1 + 1) 3 (.int .i64 (pre.length : Nat)) ∧ Boxed W (w.heap.size + 1 + 1 + 1) 96 v ∧ Below w.heap.size w W)
    ?hM ?assign ?body ?done ?stop
  case hM =>
    rw [hz]
    rintro a pre x a' _ W W' ⟨Bx, h1, h2, h3, h4, h5, h6, h7, h8, h9⟩ ht
    exact ⟨Bx, h1, h2, (ht.same Bx h3.lt (.inr (by omega))).trans h3, h4, ht.box h5 (.inl (by omega)), ht.box h6 (.inl (by omega)), ht.box h7 (.inl (by omega)), ht.box h8 (.inl (by omega)), h9.trans (ht.below (by omega) (by have := h9.size; omega))⟩
  case assign =>
    rw [hz]
    intro l pre x post W hx hsz hi
    have hfr : ∃ fa fc, x.2.2 = .slice fa x.2.1.1.fields.length fc := by
      have hm := stzG_mem 0 ps x (by rw [show stzG (fun p : Pr => p.1.1.kind) 0 ps = _ from hx]; simp)
      exact ((HE.out _ hi.2.2.2.2.2).each x.2 (List.mem_of_getElem? hm.2.1)).form
    obtain ⟨k, ⟨⟨⟨kd, raw, fs⟩, num⟩, fv⟩⟩ := x
    obtain ⟨fa, fc, e⟩ := hfr
    dsimp only at e
    subst e
    clear hx
    dsimp only [entV]
    gi_wp2
    exact ⟨(Stay.refl _ _ W).alloc hsz _, W.heap.size, by omega, rfl, Cells.new _ _ _, hi.1, hi.2.1.alloc _, hi.2.2.1.alloc _, hi.2.2.2.1.alloc _, hi.2.2.2.2.1.alloc _, hi.2.2.2.2.2.alloc hi.2.2.2.2.2.size _⟩
  case body =>
    rw [hz]
    rintro l pre x post a' W hx hsz ⟨Bx, hB, rfl, hc, hpre, b0, b1, b2, b3, hb⟩
    simp only [List.setIfInBounds_toArray, List.set_cons_zero, List.set_cons_succ, entV]
    have q3 := (entBox hc).2.2.2
    have c0 := b0.cell
    have c1 := b1.cell
    have c2 := b2.cell
    have f1 := b1.frozen
    have f2 := b2.frozen
    have FS := Lib.hid (fun h => place_some hx hpre h)
    have hn : pre.length ≤ 1000000 := by have h1 := congrArg List.length hx; have h2 := stzG_len (κ := fun p : Pr => p.1.1.kind) 0 ps; simp at h1; simp only [stzP] at h1 h2; omega
    have HPRE := Lib.hid hpre
    clear hpre hx
    by_cases hq : x.2.1.2 = id
    · rw [hq] at q3
      gi_wp2_with fail
      have hst : Stay (w.heap.size + 4) (2 + 2) W (W.setCell ⟨w.heap.size + 1, 0, none⟩ (.int .i64 (pre.length : Nat))) := (Stay.refl _ _ W).setCell (.inl (by show w.heap.size + 1 < _; omega)) _
      refine ⟨hst, rfl, ?_, hb.setCell (p := ⟨w.heap.size + 1, 0, none⟩) (by show w.heap.size ≤ w.heap.size + 1; omega) _⟩
      rw [FS.out hq]
      exact Boxed.set _ b1
    · have hq' : ((x.2.1.2 : Int) == id) = false := beq_eq_false_iff_ne.2 hq
      gi_wp2_with fail
      have hwr : (((pre ++ [x]).length : Nat) : Int) = (pre.length : Int) + 1 := by simp
      refine ⟨(Stay.refl _ _ W).setCell (.inl (by show w.heap.size + 1 + 1 < _; omega)) _, ?_, b0.other (by show w.heap.size ≠ w.heap.size + 1 + 1; omega) _, b1.other (by show w.heap.size + 1 ≠ w.heap.size + 1 + 1; omega) _, ?_, b3.other (by show w.heap.size + 1 + 1 + 1 ≠ w.heap.size + 1 + 1; omega) _, hb.setCell (p := ⟨w.heap.size + 1 + 1, 0, none⟩) (by show w.heap.size ≤ w.heap.size + 1 + 1; omega) _⟩
      · intro y hy
        rcases List.mem_append.1 hy with h | h
        · exact HPRE.out y h
        · rw [List.mem_singleton.1 h]; exact hq
      · rw [hwr]; exact Boxed.set _ b2
  case done =>
    rw [hz]
    rintro W ⟨hpre, b0, b1, b2, b3, hb⟩ hK
    have c1 := b1.cell
    have f1 := b1.frozen
    have FN := Lib.hid (place_none hpre)
    have zK := (Array.getElem?_eq_some_iff.1 hK).1
    clear hpre
    gi_wp2_with fail
    refine placeOut w _ (.int .i64 (-1)) _ rfl (Boxed.set _ b1) (hb.setCell (p := ⟨w.heap.size + 1, 0, none⟩) (by show w.heap.size ≤ w.heap.size + 1; omega) _)
      ((Below.heap_setCell _ _ _ _ (by show w.heap.size + 4 ≠ w.heap.size + 1; omega)).trans hK) rfl (fun W' h => ⟨?_, h⟩)
    rw [FN.out]
  case stop =>
    rw [hz]
    rintro c pre W _ ⟨rfl, b1, hb⟩ hK
    gi_wp2_with fail
    exact placeOut w _ (.int .i64 (placeP ps id)) _ rfl b1 hb hK rfl (fun W' h => ⟨rfl, h⟩)
set_option maxRecDepth 100000 in
set_option maxHeartbeats 4000000 in
theorem len_gen (ps : List Pr) (v : Value) (q : Option Addr) (w : World) (hl : ∀ W, Below w.heap.size w W → AllR W (.pointer q) v ps) (hps : ps.length ≤ 1000000) :
    Calls Tryz.prog 35 #[.pointer q] w fun e w' => e = .returned (.int .i64 ((stzP 0 ps).length : Nat)) ∧ Below w.heap.size w w' := by
  obtain ⟨A, cap, hv, hle⟩ := (hl w (Below.refl _ _)).1.empty
  have ALL := Lib.hid (fun W hB => callsIn_wide (n := 8).2 (hl W hB).2)
  have HE := Lib.hid (fun W hB => (hl W hB).1)
  have ST := Lib.hid (fun W => callsIn_wide (n := 8).2 (stz7_any v W A ps.length cap hv))
  have HSL := Lib.hid (Nat.le_trans (stzG_len (κ := fun p : Pr => p.1.1.kind) 0 ps) hps)
  clear hl hv
  refine callsIn_wide (n := 9).1 ?_
  refine callsIn_of_wp_marks Tryz.func35 rfl trivial ?_ rfl
  simp only [Tryz.ntmps35, List.size_toArray, List.length_cons, List.length_nil, Nat.reduceAdd, Nat.reduceSub, Array.replicate_succ, Array.replicate_zero, List.push_toArray, List.append_toArray, List.nil_append, List.cons_append]
  gi_wp2_with fail
  have hb0 : Below w.heap.size w (w.alloc (.cells #[.int .i64 0] 3)) := (Below.refl _ w).alloc (Nat.le_refl _) _
  refine ⟨trivial, (ALL.out _ hb0).mono ?_⟩
  rintro e w1 ⟨rfl, rfl⟩
  gi_wp2_with fail
  refine ⟨trivial, (ST.out _).mono ?_⟩
  rintro e w1 ⟨rfl, rfl⟩
  gi_wp2_with fail
  obtain ⟨w1, hw1⟩ : ∃ w1, w1 = ((w.alloc (.cells #[.int .i64 0] 3)).alloc (.cells #[v] 96)) := ⟨_, rfl⟩
  have hz : w1.heap.size = w.heap.size + 2 := by rw [hw1]; simp
  have B0 : Boxed w1 w.heap.size 3 (.int .i64 0) := by rw [hw1]; exact (Boxed.new w _ _).alloc _
  have B1 : Boxed w1 (w.heap.size + 1) 96 v := by rw [hw1]; exact boxNew2 w _ _ _
  have hb1 : Below w.heap.size w w1 := by rw [hw1]; exact hb0.alloc (by simp) _
  rw [← hw1]
  clear hw1 hb0
  have HH := stz_hands ps v _ w1 B1 hps (HE.out _ hb1)
  refine wp_rangedKA (gf := 79) (lb := #[.pointer (some ⟨w.heap.size + 1, 0, none⟩)]) rfl (enters_of Tryz.func79 (by kernel_rfl) rfl) HH (fun _ => rfl)
    (fun pre W => Boxed W w.heap.size 3 (.int .i64 (pre.length : Nat)) ∧ Boxed W (w.heap.size + 1) 96 v ∧ Below w.heap.size w W)
    (fun _ _ _ => False)
    (by
      rw [hz]
      exact (Abide.box (.inl (by omega)) (fun pre : List (Nat × Pr) => .int .i64 (pre.length : Nat))).and ((Abide.box (.inl (by omega)) _).and (Abide.below (Nat.le_refl _) (by omega))))
    (fun _ _ _ _ hs _ => hs)
    ⟨B0, B1, hb1⟩
    (fun pre W h => ⟨HE.out _ h.2.2, h.2.1⟩)
    (fun a pre x a' W => a' = { tmps := (a.tmps.setIfInBounds 7 (.int .i64 (x.1 : Nat))).setIfInBounds 8 (entV x.2), defers := [] } ∧
      Boxed W w.heap.size 3 (.int .i64 (pre.length : Nat)) ∧ Boxed W (w.heap.size + 1) 96 v ∧ Below w.heap.size w W)
    ?hM ?assign ?body ?done ?stop
  case hM =>
    rw [hz]
    rintro a pre x a' _ W W' ⟨h1, h2, h3, h4⟩ ht
    exact ⟨h1, ht.box h2 (.inl (by omega)), ht.box h3 (.inl (by omega)), h4.trans (ht.below (by omega) (by have := h4.size; omega))⟩
  case assign =>
    rw [hz]
    intro l pre x post W hx hsz hi
    clear hx
    gi_wp2
    exact ⟨Stay.refl _ _ _, rfl, hi⟩
  case body =>
    rw [hz]
    rintro l pre x post a' W hx hsz ⟨rfl, b0, b1, hb⟩
    have hn : pre.length ≤ 1000000 := by have := congrArg List.length hx; have h2 := HSL.out; rw [this] at h2; simp at h2; omega
    simp only [List.setIfInBounds_toArray, List.set_cons_zero, List.set_cons_succ, entV]
    have c0 := b0.cell
    have f0 := b0.frozen
    clear hx
    gi_wp2_with fail
    have hwr : (((pre ++ [x]).length : Nat) : Int) = (pre.length : Int) + 1 := by simp
    refine ⟨(Stay.refl _ _ W).setCell (.inl (by show w.heap.size < _; omega)) _, ?_, b1.other (by show w.heap.size + 1 ≠ w.heap.size; omega) _, hb.setCell (p := ⟨w.heap.size, 0, none⟩) (Nat.le_refl _) _⟩
    rw [hwr]; exact Boxed.set _ b0
  case done =>
    rw [hz]
    rintro W ⟨b0, b1, hb⟩ hK
    have c := b0.cell
    gi_wp2
    refine ⟨by simp, .inl ⟨_, _, rfl, run_takeDeferred hK, ?_⟩⟩
    exact ⟨_, results_tmp rfl _ _ _, rfl, hb.trans (belowK_b (w := w) (Nat.le_refl _) W _ _ _ (by omega) hK rfl rfl)⟩
  case stop =>
    intro c pre W _ h _
    exact h.elim
theorem next_none (w : World) : Calls Tryz.prog 29 #[.pointer none] w fun e w' => e = .returned (.int .i64 0) ∧ w = w' := by
  go_enter Tryz.func29, Tryz.ntmps29
  go_wp2_with fail
  go_ret
  exact ⟨rfl, rfl⟩
end Go.Proofs.YtflnlenkgbphpaaGreatDoor

