/- Texts put together: YI, ZB, XH, ZC, ZD, ZE, ZF, XI, XJ, XK, XL, RI. -/
import Derived.Laws.ResultCell
import Derived.Laws.Rows
import Derived.Deep.RegionLaw
import Derived.Deep.RegionHeld3
import Derived.Deep.DrawnRows
import Derived.WalkKit
import Derived.Orders
import Derived.Test.YtembondddgfpcaaBvp5
import Derived.Test.YtembondddgfpcaaBvp6
set_option linter.unusedVariables false
namespace Go.Proofs.Ytembondddgfpcaa
open Go.RowKit Go.Maps

/-- What long answers: false only of what is short. -/
def LongR (ops : List OpV) (W : World) (e : Ending) (w' : World) : Prop := (∃ b, e = .returned (.bool b) ∧ (b = false → Short ops)) ∧ Below W.heap.size W w'
set_option maxRecDepth 100000 in
set_option maxHeartbeats 4000000 in
theorem long_any (v : Value) (ops : List OpV) (a : Addr) (W : World) (hs : Script W v ops a) :
    Calls Try.prog 6 #[v] W (LongR ops W) := by
  obtain ⟨ao, cap, rfl, hao⟩ := hs.val
  have hlm := hs.len
  unfold maxLen at hlm
  have HS := Lib.hid hs
  have HA := Lib.hid hao
  clear hs hao
  go_enter Try.func6, Try.ntmps6
  go_wp2
  go_loopw [7] (fun i wr => ∃ k : Nat, k ≤ ops.length ∧ k ≤ 61 ∧ i = .int .i64 k ∧ (∀ i (h : i < ops.length), i < k → shortOp ops[i]) ∧ Below W.heap.size W wr) (fun i _ => ops.length - (intOf i).toNat)
  case atStart => exact ⟨0, Nat.zero_le _, Nat.zero_le _, rfl, fun i _ h => by omega, Below.refl _ _⟩
  case round =>
    obtain ⟨k, hk, hk61, rfl, hsh, hbel⟩ := hrel
    by_cases hlt : k < ops.length
    · obtain rfl := HA.out (by omega)
      obtain ⟨q0, q1, q2, q3, q4⟩ := HS.out.cells wr hbel k hlt
      obtain ⟨⟨⟨ao2, cap2, hkv, _⟩, _, _⟩, hkl, hnl, htl, _, _⟩ := HS.out.ok ops[k] (List.getElem_mem hlt)
      have hlta : a.block < wr.heap.size := Nat.lt_of_lt_of_le (HS.out.lt (by omega)) hbel.size
      unfold maxLen at hkl hnl htl
      rw [hkv] at q4
      have HB := Lib.hid (hbel.alloc hbel.size (.cells #[.int .i64 ops[k].kind, .int .i64 ops[k].n, .string ops[k].name, .string ops[k].text, .slice ao2 ops[k].ks.length cap2] 40))
      have HSH := Lib.hid hsh
      have HO : Hid (shortOp ops[k] = (ops[k].text.size ≤ 200 ∧ ops[k].name.size ≤ 100 ∧ ops[k].ks.length ≤ 60)) := rfl
      have HE : Hid (ops[k] = ops[k]) := rfl
      generalize ho : ops[k] = o at *
      have HOE := Lib.hid ho
      clear hsh hbel ho hkv
      by_cases hgood : k ≤ 60 ∧ o.text.size ≤ 200 ∧ o.name.size ≤ 100 ∧ o.ks.length ≤ 60
      · obtain ⟨g1, g2, g3, g4⟩ := hgood
        have d1 : decide ((60 : Int) < (k : Int)) = false := decide_eq_false (by omega)
        have d2 : decide ((200 : Int) < (o.text.size : Int)) = false := decide_eq_false (by omega)
        have d3 : decide ((100 : Int) < (o.name.size : Int)) = false := decide_eq_false (by omega)
        have d4 : decide ((60 : Int) < (o.ks.length : Int)) = false := decide_eq_false (by omega)
        go_wp2
        go_roundw
        case rel =>
          refine ⟨k + 1, by omega, by omega, by go_num, fun i h hi => ?_, HB.out⟩
          by_cases hik : i < k
          · exact HSH.out i h hik
          · obtain rfl : i = k := by omega
            rw [HOE.out]
            exact ⟨g2, g3, g4⟩
        case measure => simp [intOf]; omega
      · have hc : 60 < k ∨ (k ≤ 60 ∧ 200 < o.text.size) ∨ (k ≤ 60 ∧ o.text.size ≤ 200 ∧ 100 < o.name.size) ∨ (k ≤ 60 ∧ o.text.size ≤ 200 ∧ o.name.size ≤ 100 ∧ 60 < o.ks.length) := by omega
        clear hgood
        rcases hc with hc | ⟨hc, hc2⟩ | ⟨hc, hc2, hc3⟩ | ⟨hc, hc2, hc3, hc4⟩
        · have d1 : decide ((60 : Int) < (k : Int)) = true := decide_eq_true (by omega)
          go_wp2
          go_ret
          exact ⟨⟨true, rfl, fun h => by cases h⟩, HB.out⟩
        · have d1 : decide ((60 : Int) < (k : Int)) = false := decide_eq_false (by omega)
          have d2 : decide ((200 : Int) < (o.text.size : Int)) = true := decide_eq_true (by omega)
          go_wp2
          go_ret
          exact ⟨⟨true, rfl, fun h => by cases h⟩, HB.out⟩
        · have d1 : decide ((60 : Int) < (k : Int)) = false := decide_eq_false (by omega)
          have d2 : decide ((200 : Int) < (o.text.size : Int)) = false := decide_eq_false (by omega)
          have d3 : decide ((100 : Int) < (o.name.size : Int)) = true := decide_eq_true (by omega)
          go_wp2
          go_ret
          exact ⟨⟨true, rfl, fun h => by cases h⟩, HB.out⟩
        · have d1 : decide ((60 : Int) < (k : Int)) = false := decide_eq_false (by omega)
          have d2 : decide ((200 : Int) < (o.text.size : Int)) = false := decide_eq_false (by omega)
          have d3 : decide ((100 : Int) < (o.name.size : Int)) = false := decide_eq_false (by omega)
          have d4 : decide ((60 : Int) < (o.ks.length : Int)) = true := decide_eq_true (by omega)
          go_wp2
          go_ret
          exact ⟨⟨true, rfl, fun h => by cases h⟩, HB.out⟩
    · have hk2 : k = ops.length := by omega
      have P := Lib.hid (show Short ops ∧ Below W.heap.size W wr from ⟨⟨by omega, fun i h => hsh i h (by omega)⟩, hbel⟩)
      clear hsh hbel
      go_wp2
      go_ret
      exact ⟨⟨false, rfl, fun _ => P.out.1⟩, P.out.2⟩
end Go.Proofs.Ytembondddgfpcaa

namespace Go.Proofs.Ytembondddgfpcaa
open Go.RowKit Go.Maps

set_option maxRecDepth 100000 in
set_option maxHeartbeats 2000000 in
theorem refgood (s : ByteArray) (hs : s.size ≤ 1000) (w : World) : Calls Try.prog 63 #[.string s] w fun e w' => e = .returned (.bool (goodB s)) ∧ w = w' := by
  by_cases hlen : 1 ≤ s.size ∧ s.size ≤ 20
  · obtain ⟨h1, h2⟩ := hlen
    have d1 : decide ((s.size : Int) < 1) = false := decide_eq_false (by omega)
    have d2 : decide (20 < (s.size : Int)) = false := decide_eq_false (by omega)
    have hg : goodB s = s.data.toList.all goodC := by unfold goodB; simp [h1, h2]
    rw [hg]
    clear hg
    generalize hB0 : s.data.toList.all goodC = B
    have HB := Lib.hid hB0
    clear hB0
    go_enter Try.func63, Try.ntmps63
    go_wp2
    go_loopw [3] (fun i wr => ∃ k : Nat, k ≤ s.size ∧ i = .int .i64 k ∧ wr = w ∧ ∀ c ∈ s.data.toList.take k, goodC c = true) (fun i _ => s.size - (intOf i).toNat)
    case atStart => exact ⟨0, Nat.zero_le _, rfl, rfl, by simp⟩
    case round =>
      obtain ⟨k, hk, rfl, rfl, hpre⟩ := hrel
      by_cases hlt : k < s.size
      · have hl' : k < s.data.toList.length := by rw [← Lib.size_eq]; exact hlt
        have HP := Lib.hid hpre
        clear hpre
        have hx : s.data.toList[k] = s[k] := rfl
        have hgd : goodC s[k] = true ↔ (97 ≤ s[k].toNat ∧ s[k].toNat ≤ 122) ∨ (48 ≤ s[k].toNat ∧ s[k].toNat ≤ 57) ∨ s[k].toNat = 46 := by
          unfold goodC; simp [or_assoc]
        have HX := Lib.hid hx
        clear hx
        by_cases hgc : goodC s[k] = true
        · have HN : Hid (∀ c ∈ s.data.toList.take (k + 1), goodC c = true) := fun c hc => by
            rw [List.take_succ_eq_append_getElem hl'] at hc
            rcases List.mem_append.1 hc with h | h
            · exact HP.out c h
            · rw [List.mem_singleton.1 h, HX.out]; exact hgc
          have hin := hgd.1 hgc
          clear hgc hgd HP HX
          by_cases a1 : 97 ≤ s[k].toNat
          all_goals by_cases a2 : s[k].toNat ≤ 122
          all_goals by_cases a3 : 48 ≤ s[k].toNat
          all_goals by_cases a4 : s[k].toNat ≤ 57
          all_goals by_cases a5 : s[k].toNat = 46
          all_goals try omega
          all_goals clear hin
          all_goals
            go_wp2
            go_roundw
            case rel => exact ⟨k + 1, by omega, by go_num, trivial, HN.out⟩
            case measure => simp [intOf]; omega
        · have hin : ¬ ((97 ≤ s[k].toNat ∧ s[k].toNat ≤ 122) ∨ (48 ≤ s[k].toNat ∧ s[k].toNat ≤ 57) ∨ s[k].toNat = 46) := fun h => hgc (hgd.2 h)
          have hall : s.data.toList.all goodC = false := by
            rw [List.all_eq_false]
            exact ⟨_, List.getElem_mem hl', by rw [HX.out]; exact hgc⟩
          obtain rfl : B = false := HB.out.symm.trans hall
          clear hgc hgd HP HX hall HB
          by_cases a1 : 97 ≤ s[k].toNat
          all_goals by_cases a2 : s[k].toNat ≤ 122
          all_goals by_cases a3 : 48 ≤ s[k].toNat
          all_goals by_cases a4 : s[k].toNat ≤ 57
          all_goals by_cases a5 : s[k].toNat = 46
          all_goals try omega
          all_goals clear hin
          all_goals go_wp2
          all_goals first | (exfalso; rename_i h; simp at h; omega) | (go_ret; exact ⟨rfl, rfl⟩)
      · obtain rfl : k = s.size := by omega
        have hall : s.data.toList.all goodC = true := by
          rw [List.all_eq_true]
          intro c hc
          exact hpre c (by rw [List.take_of_length_le (by rw [← Lib.size_eq]; exact Nat.le_refl _)]; exact hc)
        obtain rfl : B = true := HB.out.symm.trans hall
        clear hpre hall HB
        go_wp2
        go_ret
        exact ⟨rfl, rfl⟩
  · have hg : goodB s = false := by unfold goodB; simp; omega
    rw [hg]
    rcases (show s.size < 1 ∨ (1 ≤ s.size ∧ 20 < s.size) by omega) with h | ⟨h, h2⟩
    · have d1 : decide ((s.size : Int) < 1) = true := decide_eq_true (by omega)
      go_enter Try.func63, Try.ntmps63
      go_wp2
      go_ret
      exact ⟨rfl, rfl⟩
    · have d1 : decide ((s.size : Int) < 1) = false := decide_eq_false (by omega)
      have d2 : decide (20 < (s.size : Int)) = true := decide_eq_true (by omega)
      go_enter Try.func63, Try.ntmps63
      go_wp2
      go_ret
      exact ⟨rfl, rfl⟩
end Go.Proofs.Ytembondddgfpcaa

namespace Go.Proofs.Ytembondddgfpcaa
open Go.RowKit Go.Maps

/-- The values of a disk of the reference. -/
def refA (room units left : Int) (armed gone : Bool) (vf vs vm va : Value) : Value := .agg #[.int .i64 room, vf, vs, vm, .int .i64 units, .int .i64 left, .bool armed, .bool gone, va]
def askedI (r : Nat × Nat) : Int := if r.2 = 0 then r.1 else -1
theorem dget_mem {l : Dir} {k : List UInt8} {f : Nat} (h : dget l k = some f) : ∃ x ∈ l, x.2 = f := by
  unfold dget at h
  cases hq : l.find? (fun p => p.1 == k) with
  | none => rw [hq] at h; simp at h
  | some p => rw [hq] at h; simp at h; exact ⟨p, List.mem_of_find?_eq_some hq, h⟩

set_option maxRecDepth 100000 in
set_option maxHeartbeats 4000000 in
theorem refasked_any (room units left : Int) (armed gone : Bool) (vf vs vm va : Value) (sure : Dir) (waits : List ChangeA) (z : ByteArray) (hz : z.size ≤ 1000) (w : World) (hs : EntryRow w vs sure) (hm : MovesRow w vm waits) (hr : Rising sure) (h1 : SmallD sure) (h2 : SmallC waits) (hl : sure.length + waits.length ≤ 1000000) :
    Calls Try.prog 56 #[refA room units left armed gone vf vs vm va, .string z] w fun e w' =>
      e = .returned (.tuple #[.int .i64 (askedI (findR (readyE gone [z]) (dget (dplay waits sure) z.data.toList))), .int .i64 (findR (readyE gone [z]) (dget (dplay waits sure) z.data.toList)).2]) ∧ Below w.heap.size w w' := by
  have G := Lib.hid (refgood z hz)
  have D := fun (W : World) (hb : Below w.heap.size w W) => refdir_any room units left armed gone vf vs vm va sure waits W (row_below hs hb (Nat.le_refl _)) (row_below hm hb (Nat.le_refl _)) hr h1 h2 hl
  have F := fun (W : World) (v : Value) (h : EntryRow W v (dplay waits sure)) => reffind_any (dplay waits sure) v z.data.toList W h (by have := dplay_length waits sure; omega) (by rw [← Lib.size_eq]; omega) (fun x hx => (dplay_small waits h2 h1 x hx).1)
  simp only [bs_of] at F
  have hfl : ∀ f, dget (dplay waits sure) z.data.toList = some f → f ≤ 1000000 := fun f hf => by
    obtain ⟨x, hx, rfl⟩ := dget_mem hf
    exact (dplay_small waits h2 h1 x hx).2
  have D := Lib.hid D
  have F := Lib.hid F
  have B := Lib.hid (fun o : Obj => (Below.refl _ w).alloc (Nat.le_refl _) o)
  clear hs hm hr h1 h2 hl
  unfold refA
  cases hg : goodB z
  · have e1 : readyE gone [z] = 1 := by unfold readyE; simp [hg]
    rw [e1]
    rw [hg] at G
    clear hg e1
    go_enter Try.func56, Try.ntmps56
    go_wp2_with fail
    refine (G.out _).mono ?_
    rintro e w1 ⟨rfl, rfl⟩
    go_wp2
    go_ret2
    exact ⟨rfl, B.out _⟩
  · rw [hg] at G
    cases gone with
    | true =>
      have e1 : readyE true [z] = 3 := by unfold readyE; simp [hg]
      rw [e1]
      clear hg e1
      go_enter Try.func56, Try.ntmps56
      go_wp2_with fail
      refine (G.out _).mono ?_
      rintro e w1 ⟨rfl, rfl⟩
      go_wp2
      go_ret2
      exact ⟨rfl, B.out _⟩
    | false =>
      have e1 : readyE false [z] = 0 := by unfold readyE; simp [hg]
      rw [e1]
      clear hg e1
      cases hq : dget (dplay waits sure) z.data.toList with
      | none =>
        rw [hq] at F
        go_enter Try.func56, Try.ntmps56
        go_wp2_with fail
        refine (G.out _).mono ?_
        rintro e w1 ⟨rfl, rfl⟩
        go_wp2_with fail
        refine (D.out _ (B.out _)).mono ?_
        rintro e w1 ⟨v', rfl, hrow, hb1⟩
        have HB := Lib.hid ((B.out _).trans (hb1.mono (B.out _).size))
        have F2 := Lib.hid (F.out w1 v' hrow)
        clear hb1 hrow
        go_wp2_with fail
        refine F2.out.mono ?_
        rintro e w2 ⟨rfl, rfl⟩
        unfold foundI
        go_wp2
        go_ret2
        exact ⟨rfl, HB.out⟩
      | some f =>
        rw [hq] at F
        have hf := hfl f hq
        go_enter Try.func56, Try.ntmps56
        go_wp2_with fail
        refine (G.out _).mono ?_
        rintro e w1 ⟨rfl, rfl⟩
        go_wp2_with fail
        refine (D.out _ (B.out _)).mono ?_
        rintro e w1 ⟨v', rfl, hrow, hb1⟩
        have HB := Lib.hid ((B.out _).trans (hb1.mono (B.out _).size))
        have F2 := Lib.hid (F.out w1 v' hrow)
        clear hb1 hrow
        go_wp2_with fail
        refine F2.out.mono ?_
        rintro e w2 ⟨rfl, rfl⟩
        unfold foundI
        go_wp2
        go_ret2
        exact ⟨rfl, HB.out⟩
end Go.Proofs.Ytembondddgfpcaa

namespace Go.Proofs.Ytembondddgfpcaa
open Go.RowKit Go.Maps

end Go.Proofs.Ytembondddgfpcaa

namespace Go.Proofs.Ytembondddgfpcaa
open Go.RowKit Go.Maps

def rows9 : Array Value := #[.int .i64 0, .slice none 0 0, .slice none 0 0, .slice none 0 0, .int .i64 0, .int .i64 0, .bool false, .bool false, .slice none 0 0]
/-- The cells of a box of the empty disk. -/
structure Box9 (w : World) (b : Nat) : Prop where
  c0 : w.cell? ⟨b, 0, none⟩ = some (.int .i64 0)
  c1 : w.cell? ⟨b, 1, none⟩ = some (.slice none 0 0)
  c2 : w.cell? ⟨b, 2, none⟩ = some (.slice none 0 0)
  c3 : w.cell? ⟨b, 3, none⟩ = some (.slice none 0 0)
  c4 : w.cell? ⟨b, 4, none⟩ = some (.int .i64 0)
  c5 : w.cell? ⟨b, 5, none⟩ = some (.int .i64 0)
  c6 : w.cell? ⟨b, 6, none⟩ = some (.bool false)
  c7 : w.cell? ⟨b, 7, none⟩ = some (.bool false)
  c8 : w.cell? ⟨b, 8, none⟩ = some (.slice none 0 0)
  lt : b < w.heap.size
  f0 : w.frozen? ⟨b, 0, none⟩ = false
  f1 : w.frozen? ⟨b, 1, none⟩ = false
  f2 : w.frozen? ⟨b, 2, none⟩ = false
  f3 : w.frozen? ⟨b, 3, none⟩ = false
  f4 : w.frozen? ⟨b, 4, none⟩ = false
  f5 : w.frozen? ⟨b, 5, none⟩ = false
  f6 : w.frozen? ⟨b, 6, none⟩ = false
  f7 : w.frozen? ⟨b, 7, none⟩ = false
  f8 : w.frozen? ⟨b, 8, none⟩ = false
theorem Box9.of {w : World} {b : Nat} {t : TypeId} (h : Cells w b t rows9) : Box9 w b := ⟨h.cell 0, h.cell 1, h.cell 2, h.cell 3, h.cell 4, h.cell 5, h.cell 6, h.cell 7, h.cell 8, h.lt, h.frozen 0, h.frozen 1, h.frozen 2, h.frozen 3, h.frozen 4, h.frozen 5, h.frozen 6, h.frozen 7, h.frozen 8⟩
set_option maxRecDepth 100000 in
theorem ret_box {fn : Func} {p u : Tmp} (h : fn.results = #[.cell p 37, .tmp u]) (tmps : Array Value) (w : World) (b : Nat) (cur : Array Value) (hp : tmps.getD p undef = .pointer (some ⟨b, 0, none⟩))
    (hc : Cells w b 37 cur) (hz : cur.size = 9) : (results fn tmps).run Try.prog w = .ok (.tuple #[.agg cur, tmps.getD u undef]) w := by
  have L := run_loadVar_row (P := Try.prog) w b 37 37 cur (0, 0) _ hc Try.underlying37 rfl (by rw [hz]; kernel_rfl)
  rw [results_cell_tmp h, hp]
  show ((loadVar _ _).run _ _).andThen _ = _
  rw [L]; rfl
/-- A box written whole. -/
def setBox (w : World) (b : Nat) (v0 v1 v2 v3 v4 v5 v6 v7 v8 : Value) : World := ((((((((w.setCell ⟨b, 0, none⟩ v0).setCell ⟨b, 1, none⟩ v1).setCell ⟨b, 2, none⟩ v2).setCell ⟨b, 3, none⟩ v3).setCell ⟨b, 4, none⟩ v4).setCell ⟨b, 5, none⟩ v5).setCell ⟨b, 6, none⟩ v6).setCell ⟨b, 7, none⟩ v7).setCell ⟨b, 8, none⟩ v8
theorem setBox_cells {w : World} {b : Nat} {t : TypeId} {cur : Array Value} (h : Cells w b t cur) (hz : cur.size = 9) (v0 v1 v2 v3 v4 v5 v6 v7 v8 : Value) : ∃ cur', cur'.size = 9 ∧ Cells (setBox w b v0 v1 v2 v3 v4 v5 v6 v7 v8) b t cur' :=
  ⟨_, by simp [hz], ((((((((h.set 0 v0).set 1 v1).set 2 v2).set 3 v3).set 4 v4).set 5 v5).set 6 v6).set 7 v7).set 8 v8⟩
theorem set9 (c0 c1 c2 c3 c4 c5 c6 c7 c8 v0 v1 v2 v3 v4 v5 v6 v7 v8 : Value) : ((((((((#[c0, c1, c2, c3, c4, c5, c6, c7, c8].setIfInBounds 0 v0).setIfInBounds 1 v1).setIfInBounds 2 v2).setIfInBounds 3 v3).setIfInBounds 4 v4).setIfInBounds 5 v5).setIfInBounds 6 v6).setIfInBounds 7 v7).setIfInBounds 8 v8 = #[v0, v1, v2, v3, v4, v5, v6, v7, v8] := by
  simp [List.setIfInBounds_toArray, List.set]
theorem setBox_to {w : World} {b : Nat} {t : TypeId} {c0 c1 c2 c3 c4 c5 c6 c7 c8 : Value} (h : Cells w b t #[c0, c1, c2, c3, c4, c5, c6, c7, c8]) (v0 v1 v2 v3 v4 v5 v6 v7 v8 : Value) : Cells (setBox w b v0 v1 v2 v3 v4 v5 v6 v7 v8) b t #[v0, v1, v2, v3, v4, v5, v6, v7, v8] := by
  have h2 := ((((((((h.set 0 v0).set 1 v1).set 2 v2).set 3 v3).set 4 v4).set 5 v5).set 6 v6).set 7 v7).set 8 v8
  rw [set9] at h2
  exact h2
theorem setBox_below {B : Nat} {a w : World} {b : Nat} (h : Below B a w) (hb : B ≤ b) (v0 v1 v2 v3 v4 v5 v6 v7 v8 : Value) : Below B a (setBox w b v0 v1 v2 v3 v4 v5 v6 v7 v8) :=
  ((((((((h.setCell hb v0).setCell hb v1).setCell hb v2).setCell hb v3).setCell hb v4).setCell hb v5).setCell hb v6).setCell hb v7).setCell hb v8
end Go.Proofs.Ytembondddgfpcaa

namespace Go.Proofs.Ytembondddgfpcaa
open Go.RowKit Go.Maps

end Go.Proofs.Ytembondddgfpcaa

namespace Go.Proofs.Ytembondddgfpcaa
open Go.RowKit Go.Maps
attribute [local go_sem ↓] Go.wp_at_zero Go.wp_at_succ
attribute [local go_sem] World.cell?_alloc_some

theorem results_cell1 {fn : Func} {p : Tmp} {ty : TypeId} (h : fn.results = #[.cell p ty]) (tmps : Array Value) (P : Program) (w : World) :
    (results fn tmps).run P w = ((asAddr (tmps.getD p undef)).run P w).andThen fun a w₁ => (loadVar ty a).run P w₁ := by
  simp only [results, h]
  simp [Sem.run_bind, Result.andThen]
set_option maxRecDepth 100000 in
theorem ret_box1 {fn : Func} {p : Tmp} (h : fn.results = #[.cell p 37]) (tmps : Array Value) (w : World) (b : Nat) (cur : Array Value) (hp : tmps.getD p undef = .pointer (some ⟨b, 0, none⟩))
    (hc : Cells w b 37 cur) (hz : cur.size = 9) : (results fn tmps).run Try.prog w = .ok (.agg cur) w := by
  have L := run_loadVar_row (P := Try.prog) w b 37 37 cur (0, 0) _ hc Try.underlying37 rfl (by rw [hz]; kernel_rfl)
  rw [results_cell1 h, hp]
  show (loadVar _ _).run _ _ = _
  exact L
/-- Three boxes behind what keeps what lay. -/
theorem boxes3 {w W' : World} {t0 t1 t2 : TypeId} {x0 x1 x2 : Array Value} (hb : Below (w.heap.size + 3) (((w.alloc (.cells x0 t0)).alloc (.cells x1 t1)).alloc (.cells x2 t2)) W') :
    Cells W' w.heap.size t0 x0 ∧ Cells W' (w.heap.size + 1) t1 x1 ∧ Cells W' (w.heap.size + 1 + 1) t2 x2 := by
  have e1 : (w.alloc (.cells x0 t0)).heap.size = w.heap.size + 1 := by simp
  have e2 : ((w.alloc (.cells x0 t0)).alloc (.cells x1 t1)).heap.size = w.heap.size + 1 + 1 := by simp
  have h0 := (((Cells.new w t0 x0).alloc (.cells x1 t1)).alloc (.cells x2 t2)).below hb (by omega)
  have h1 := ((Cells.new (w.alloc (.cells x0 t0)) t1 x1).alloc (.cells x2 t2)).below hb (by omega)
  have h2 := (Cells.new ((w.alloc (.cells x0 t0)).alloc (.cells x1 t1)) t2 x2).below hb (by omega)
  rw [e1] at h1
  rw [e2] at h2
  exact ⟨h0, h1, h2⟩
theorem new_at (w : World) {n : Nat} (hn : w.heap.size = n) (t : TypeId) (cs : List Value) : ∀ j u, cs[j]? = some u → (w.alloc (.cells cs.toArray t)).cell? ((⟨n, 0, none⟩ : Addr).add j) = some u := by
  subst hn; exact cells_new_add w t cs
theorem cells9 {w : World} {b : Nat} {t : TypeId} {v0 v1 v2 v3 v4 v5 v6 v7 v8 : Value} (h : Cells w b t #[v0, v1, v2, v3, v4, v5, v6, v7, v8]) : w.cell? ⟨b, 0, none⟩ = some v0 ∧ w.cell? ⟨b, 1, none⟩ = some v1 ∧ w.cell? ⟨b, 2, none⟩ = some v2 ∧ w.cell? ⟨b, 3, none⟩ = some v3 ∧ w.cell? ⟨b, 4, none⟩ = some v4 ∧ w.cell? ⟨b, 5, none⟩ = some v5 ∧ w.cell? ⟨b, 6, none⟩ = some v6 ∧ w.cell? ⟨b, 7, none⟩ = some v7 ∧ w.cell? ⟨b, 8, none⟩ = some v8 :=
  ⟨h.cell 0, h.cell 1, h.cell 2, h.cell 3, h.cell 4, h.cell 5, h.cell 6, h.cell 7, h.cell 8⟩
end Go.Proofs.Ytembondddgfpcaa

namespace Go.Proofs.Ytembondddgfpcaa
open Go.RowKit Go.Maps
attribute [local go_sem] World.cell?_alloc_some

def filesCellsM (l : List (FileM × Value)) : List Value := l.flatMap fun p => [.string p.1.sure, p.2]
theorem filesM_at : ∀ (l : List (FileM × Value)) (k : Nat) (h : k < l.length), (filesCellsM l)[k * 2]? = some (.string l[k].1.sure) ∧ (filesCellsM l)[k * 2 + 1]? = some l[k].2
  | x :: r, 0, _ => ⟨rfl, rfl⟩
  | x :: r, k + 1, h => by
    have ih := filesM_at r k (by simpa using h)
    have e : filesCellsM (x :: r) = [.string x.1.sure, x.2] ++ filesCellsM r := rfl
    have el : ([.string x.1.sure, x.2] : List Value).length = 2 := rfl
    rw [e, List.getElem?_append_right (by rw [el]; omega), List.getElem?_append_right (by rw [el]; omega), el]
    rw [show (k + 1) * 2 - 2 = k * 2 by omega, show (k + 1) * 2 + 1 - 2 = k * 2 + 1 by omega]
    exact ih
def FilesRow (w : World) (v : Value) (l : List (FileM × Value)) : Prop := w.ownsRow 0 87 2 v l.length (filesCellsM l) ∧ ∀ p ∈ l, WaitsRow w p.2 p.1.waits
theorem FilesRow.below {w w' : World} {v : Value} {l : List (FileM × Value)} {B : Nat} (h : FilesRow w v l) (hb : Below B w w') (hB : w.heap.size ≤ B) : FilesRow w' v l :=
  ⟨row_below h.1 hb hB, fun p hp => row_below (h.2 p hp) hb hB⟩
/-- A file is small. -/
structure SmallF (f : FileM) : Prop where
  sure : f.sure.size ≤ 1000000
  many : f.waits.length ≤ 1000000
  cuts : ∀ x ∈ f.waits, x.at_ ≤ 1000000

set_option maxRecDepth 100000 in
set_option maxHeartbeats 2000000 in
theorem refseen_any (f : FileM) (v : Value) (w : World) (h : WaitsRow w v f.waits) (hf : SmallF f) :
    Calls Try.prog 61 #[.agg #[.string f.sure, v]] w fun e w' => e = .returned (.string (bs f.seen)) ∧ Below w.heap.size w w' := by
  have B := fun (o : Obj) => (Below.refl _ w).alloc (Nat.le_refl _) o
  have C := fun (W : World) (hb : Below w.heap.size w W) => refbehind_any f.sure f.waits v f.waits.length W (row_below h hb (Nat.le_refl _)) hf.many hf.sure ⟨by omega, by have := hf.many; omega⟩ hf.cuts
  have e : behindM f.sure.data.toList f.waits (f.waits.length : Int) = f.seen := by unfold behindM FileM.seen; rw [Int.toNat_natCast, List.take_length]
  rw [e] at C
  obtain ⟨mo, mcap, rfl, hmo⟩ := row_shape h
  have hm := hf.many
  have C := Lib.hid C
  have B := Lib.hid B
  clear h hf e hmo
  go_enter Try.func61, Try.ntmps61
  go_wp2_with fail
  refine (C.out _ (B.out _)).mono ?_
  rintro e w1 ⟨rfl, hb1⟩
  go_wp2
  go_ret
  exact ⟨rfl, (B.out _).trans (hb1.mono (B.out _).size)⟩

def slices (f s m a : Option Addr × Nat × Nat) (room units left : Int) (armed gone : Bool) : Value := refA room units left armed gone (.slice f.1 f.2.1 f.2.2) (.slice s.1 s.2.1 s.2.2) (.slice m.1 m.2.1 m.2.2) (.slice a.1 a.2.1 a.2.2)
theorem cells_new2 (w : World) (o : Obj) (t : TypeId) (cur : Array Value) : Cells ((w.alloc o).alloc (.cells cur t)) (w.heap.size + 1) t cur := by
  have h := Cells.new (w.alloc o) t cur
  rw [show (w.alloc o).heap.size = w.heap.size + 1 by simp] at h
  exact h
set_option maxRecDepth 100000 in
set_option maxHeartbeats 2000000 in
theorem refunit_free (room units left : Int) (gone : Bool) (f s m a : Option Addr × Nat × Nat) (hu : 0 ≤ units ∧ units ≤ 1000000000) (w : World) :
    Calls Try.prog 57 #[slices f s m a room units left false gone] w fun e w' => e = .returned (.tuple #[slices f s m a room (units + 1) left false gone, .bool true]) ∧ Below w.heap.size w w' := by
  have B := Lib.hid (fun o : Obj => (Below.refl _ w).alloc (Nat.le_refl _) o)
  obtain ⟨f1, f2, f3⟩ := f
  obtain ⟨s1, s2, s3⟩ := s
  obtain ⟨m1, m2, m3⟩ := m
  obtain ⟨a1, a2, a3⟩ := a
  unfold slices refA
  dsimp only
  go_enter Try.func57, Try.ntmps57
  go_wp2
  refine bodyPost_ret (ret_box rfl _ _ (w.heap.size + 1) #[.int .i64 room, .slice f1 f2 f3, .slice s1 s2 s3, .slice m1 m2 m3, .int .i64 (units + 1), .int .i64 left, .bool false, .bool gone, .slice a1 a2 a3] rfl (cells_new2 w _ _ _) rfl) rfl ?_
  exact ⟨rfl, (B.out _).alloc (by simp) _⟩
set_option maxRecDepth 100000 in
set_option maxHeartbeats 2000000 in
theorem refunit_left (room units left : Int) (gone : Bool) (f s m a : Option Addr × Nat × Nat) (hu : 0 ≤ units ∧ units ≤ 1000000000) (hl : 1 ≤ left ∧ left ≤ 9223372036854775807) (w : World) :
    Calls Try.prog 57 #[slices f s m a room units left true gone] w fun e w' => e = .returned (.tuple #[slices f s m a room (units + 1) (left - 1) true gone, .bool true]) ∧ Below w.heap.size w w' := by
  have B := Lib.hid (fun o : Obj => (Below.refl _ w).alloc (Nat.le_refl _) o)
  obtain ⟨f1, f2, f3⟩ := f
  obtain ⟨s1, s2, s3⟩ := s
  obtain ⟨m1, m2, m3⟩ := m
  obtain ⟨a1, a2, a3⟩ := a
  unfold slices refA
  dsimp only
  go_enter Try.func57, Try.ntmps57
  go_wp2
  refine bodyPost_ret (ret_box rfl _ _ (w.heap.size + 1) #[.int .i64 room, .slice f1 f2 f3, .slice s1 s2 s3, .slice m1 m2 m3, .int .i64 (units + 1), .int .i64 (left - 1), .bool true, .bool gone, .slice a1 a2 a3] rfl (cells_new2 w _ _ _) rfl) rfl ?_
  exact ⟨rfl, (B.out _).alloc (by simp) _⟩
set_option maxRecDepth 100000 in
set_option maxHeartbeats 2000000 in
theorem refunit_gone (room units : Int) (gone : Bool) (f s m a : Option Addr × Nat × Nat) (hu : 0 ≤ units ∧ units ≤ 1000000000) (w : World) :
    Calls Try.prog 57 #[slices f s m a room units 0 true gone] w fun e w' => e = .returned (.tuple #[slices f s m a room units 0 true true, .bool false]) ∧ Below w.heap.size w w' := by
  have B := Lib.hid (fun o : Obj => (Below.refl _ w).alloc (Nat.le_refl _) o)
  obtain ⟨f1, f2, f3⟩ := f
  obtain ⟨s1, s2, s3⟩ := s
  obtain ⟨m1, m2, m3⟩ := m
  obtain ⟨a1, a2, a3⟩ := a
  unfold slices refA
  dsimp only
  go_enter Try.func57, Try.ntmps57
  go_wp2
  refine bodyPost_ret (ret_box rfl _ _ (w.heap.size + 1) #[.int .i64 room, .slice f1 f2 f3, .slice s1 s2 s3, .slice m1 m2 m3, .int .i64 units, .int .i64 0, .bool true, .bool true, .slice a1 a2 a3] rfl (cells_new2 w _ _ _) rfl) rfl ?_
  exact ⟨rfl, (B.out _).alloc (by simp) _⟩
/-- unit, of a disk of the reference. -/
theorem refunit_any (M : RefM) (f s m a : Option Addr × Nat × Nat) (hu : 0 ≤ M.units ∧ M.units ≤ 1000000000) (hl : 0 ≤ M.left ∧ M.left ≤ 9223372036854775807) (w : World) :
    Calls Try.prog 57 #[slices f s m a M.room M.units M.left M.armed M.gone] w fun e w' =>
      e = .returned (.tuple #[if canM M then slices f s m a M.room (doneM M).units (doneM M).left M.armed M.gone else slices f s m a M.room M.units M.left M.armed true, .bool (canM M)]) ∧ Below w.heap.size w w' := by
  obtain ⟨room, files, sure, waits, units, left, armed, gone, acts⟩ := M
  unfold canM doneM
  dsimp only at hu hl ⊢
  cases armed with
  | false => exact refunit_free room units left gone f s m a hu w
  | true =>
    by_cases h : left = 0
    · subst h; exact refunit_gone room units gone f s m a hu w
    · simp only [h, decide_false, Bool.and_false, Bool.not_false, if_true]
      exact refunit_left room units left gone f s m a hu ⟨by omega, hl.2⟩ w
end Go.Proofs.Ytembondddgfpcaa

namespace Go.Proofs.Ytembondddgfpcaa
open Go.RowKit Go.Maps

def sliceV (x : Option Addr × Nat × Nat) : Value := .slice x.1 x.2.1 x.2.2
structure RefAt (w : World) (M : RefM) (f s m a : Option Addr × Nat × Nat) : Prop where
  files : ∃ l : List (FileM × Value), l.map (·.1) = M.files ∧ FilesRow w (sliceV f) l
  sure : EntryRow w (sliceV s) M.sure
  moves : MovesRow w (sliceV m) M.waits
  acts : w.ownsRow 0 90 5 (sliceV a) M.acts.length (actsCells M.acts)
theorem RefAt.below {w w' : World} {M : RefM} {f s m a : Option Addr × Nat × Nat} {B : Nat} (h : RefAt w M f s m a) (hb : Below B w w') (hB : w.heap.size ≤ B) : RefAt w' M f s m a :=
  ⟨by obtain ⟨l, e, h⟩ := h.files; exact ⟨l, e, h.below hb hB⟩, row_below h.sure hb hB, row_below h.moves hb hB, row_below h.acts hb hB⟩
/-- A disk of the reference is small. -/
structure Fit (M : RefM) : Prop where
  units : 0 ≤ M.units ∧ M.units ≤ 1000000000
  left : 0 ≤ M.left ∧ M.left ≤ 9223372036854775807
  rising : Rising M.sure
  names : SmallD M.sure
  moves : SmallC M.waits
  dirs : M.sure.length + M.waits.length ≤ 1000000
  nfiles : M.files.length ≤ 1000000
  files : ∀ f ∈ M.files, SmallF f
  nacts : M.acts.length ≤ 1000000
  sureF : ∀ x ∈ M.sure, x.2 < M.files.length
  movesF : ∀ c ∈ M.waits, c.file < M.files.length
theorem Fit.dir_lt {M : RefM} (h : Fit M) : ∀ x ∈ M.dir, x.2 < M.files.length := by
  intro x hx
  rcases dplay_mem hx with hx | ⟨c, hc, e⟩
  · exact h.sureF x hx
  · rw [e]; exact h.movesF c hc
theorem Fit.asked_lt {M : RefM} (h : Fit M) {zs : List ByteArray} {z : ByteArray} (hq : (askedM M zs z).2 = 0) : (askedM M zs z).1 < M.files.length := by
  unfold askedM findR at hq ⊢
  split at hq
  · rename_i hr
    rw [if_pos hr]
    cases hd : dget M.dir z.data.toList with
    | none => rw [hd] at hq; exact absurd hq (by decide)
    | some f =>
      obtain ⟨x, hx, rfl⟩ := dget_mem hd
      exact h.dir_lt x hx
  · exact absurd hq ‹_›
theorem asked_call {M : RefM} {f s m a : Option Addr × Nat × Nat} (hF : Fit M) (z : ByteArray) (hz : z.size ≤ 1000) (w : World) (h : RefAt w M f s m a) :
    Calls Try.prog 56 #[slices f s m a M.room M.units M.left M.armed M.gone, .string z] w fun e w' => e = .returned (.tuple #[.int .i64 (askedI (askedM M [z] z)), .int .i64 (askedM M [z] z).2]) ∧ Below w.heap.size w w' :=
  refasked_any M.room M.units M.left M.armed M.gone (sliceV f) (sliceV s) (sliceV m) (sliceV a) M.sure M.waits z hz w h.sure h.moves hF.rising hF.names hF.moves hF.dirs
theorem asked_codes (M : RefM) (zs : List ByteArray) (z : ByteArray) : (askedM M zs z).2 = 0 ∨ (askedM M zs z).2 = 1 ∨ (askedM M zs z).2 = 3 ∨ (askedM M zs z).2 = 7 := by
  unfold askedM findR
  split
  · split <;> simp
  · rcases readyE_cases M.gone zs with e | e | e <;> rw [e] <;> simp

set_option maxRecDepth 100000 in
set_option maxHeartbeats 4000000 in
theorem refread_any (M : RefM) (f s m a : Option Addr × Nat × Nat) (hF : Fit M) (z : ByteArray) (hz : z.size ≤ 1000) (w : World) (h : RefAt w M f s m a) :
    Calls Try.prog 37 #[slices f s m a M.room M.units M.left M.armed M.gone, .string z] w fun e w' => e = .returned (.tuple #[.string (readM M z).1, .int .i64 (readM M z).2]) ∧ Below w.heap.size w w' := by
  have A := fun (W : World) (hb : Below w.heap.size w W) => asked_call hF z hz W (h.below hb (Nat.le_refl _))
  obtain ⟨l, hl, hfr⟩ := h.files
  obtain ⟨f1, f2, f3⟩ := f
  obtain ⟨s1, s2, s3⟩ := s
  obtain ⟨m1, m2, m3⟩ := m
  obtain ⟨a1, a2, a3⟩ := a
  unfold sliceV at hfr
  unfold slices refA at A ⊢
  dsimp only at hfr A ⊢
  have B := Lib.hid (fun o : Obj => (Below.refl _ w).alloc (Nat.le_refl _) o)
  have A := Lib.hid A
  have R := Lib.hid (show readM M z = _ from rfl)
  have hlt := fun hq => hF.asked_lt (zs := [z]) (z := z) hq
  have hcode := asked_codes M [z] z
  have hfs := hF.files
  unfold readM at R
  unfold readM
  have HL := hF.nfiles
  rw [← hl] at hlt hfs HL
  rw [List.length_map] at HL
  rw [← hl]
  clear R hF h
  generalize askedM M [z] z = q at *
  obtain ⟨q1, q2⟩ := q
  generalize M.gone = gone at *
  dsimp only at hlt hcode A ⊢
  unfold askedI at A
  dsimp only at A
  cases gone with
  | true =>
    go_enter Try.func37, Try.ntmps37
    go_wp2
    go_ret2
    exact ⟨rfl, B.out _⟩
  | false =>
    by_cases h0 : q2 = 0
    · subst h0
      have hq : q1 < l.length := by have := hlt rfl; rw [List.length_map] at this; exact this
      clear hlt
      have H := Lib.hid hfr
      have HFS := Lib.hid (hfs l[q1].1 (List.mem_map.2 ⟨l[q1], List.getElem_mem hq, rfl⟩))
      have e1 : (l.map (·.1))[q1]? = some l[q1].1 := by rw [List.getElem?_map, List.getElem?_eq_getElem hq]; rfl
      rw [e1]
      simp only [if_true] at A
      clear hfr hfs hl e1 hcode
      go_enter Try.func37, Try.ntmps37
      go_wp2_with fail
      refine (A.out _ (B.out _)).mono ?_
      rintro e w1 ⟨rfl, hb1⟩
      have HB := Lib.hid ((B.out _).trans (hb1.mono (B.out _).size))
      have hfr1 := H.out.below HB.out (Nat.le_refl _)
      have hc := (Cells.new w 37 #[.int .i64 M.room, .slice f1 f2 f3, .slice s1 s2 s3, .slice m1 m2 m3, .int .i64 M.units, .int .i64 M.left, .bool M.armed, .bool false, .slice a1 a2 a3]).below hb1 (by simp)
      have b1 := hc.cell 1
      have hwl := hc.lt
      simp at b1
      obtain ⟨g0, cap, ⟨⟩, _⟩ := Joins.ownsRow_form hfr1.1 (by omega)
      obtain ⟨c0, c1⟩ := filesM_at l q1 hq
      have r0 := row_at hfr1.1 c0
      have r1 := row_at hfr1.1 c1
      have S := Lib.hid (fun (W : World) (hb : Below w1.heap.size w1 W) => refseen_any l[q1].1 l[q1].2 W (row_below (hfr1.2 _ (List.getElem_mem hq)) hb (Nat.le_refl _)) HFS.out)
      have hg := (hfr1.1.lt g0 rfl).2
      obtain ⟨wo, wcap, ew, _⟩ := row_shape (hfr1.2 _ (List.getElem_mem hq))
      have hpv : l[q1].2 = .slice wo l[q1].1.waits.length wcap := ew
      have S := S
      rw [hpv] at r1 S
      clear hc hb1
      have hq1 : (q1 : Int) < (l.length : Int) := by omega
      have hl6 : l.length ≤ 1000000 := HL
      go_wp2_with fail
      refine (S.out _ (Below.refl _ _)).mono ?_
      rintro e w2 ⟨rfl, hb2⟩
      go_wp2
      go_ret2
      exact ⟨rfl, HB.out.trans (hb2.mono HB.out.size)⟩
    · have e1 : (if q2 = 0 then (q1 : Int) else -1) = -1 := if_neg h0
      rw [e1] at A
      have hne : ((q2 : Int) == 0) = false := by rw [beq_eq_false_iff_ne]; omega
      simp only [Bool.false_eq_true, if_false, ne_eq, h0, not_false_eq_true, if_true]
      clear hfr hfs hl e1 hlt
      go_enter Try.func37, Try.ntmps37
      go_wp2_with fail
      refine (A.out _ (B.out _)).mono ?_
      rintro e w1 ⟨rfl, hb1⟩
      have HB := Lib.hid ((B.out _).trans (hb1.mono (B.out _).size))
      clear hb1
      go_wp2
      go_ret2
      exact ⟨rfl, HB.out⟩
end Go.Proofs.Ytembondddgfpcaa

namespace Go.Proofs.Ytembondddgfpcaa
open Go.RowKit Go.Maps

end Go.Proofs.Ytembondddgfpcaa

namespace Go.Proofs.Ytembondddgfpcaa
open Go.RowKit Go.Maps

theorem totalL_take (sz : Nat → Nat) (l : Dir) (k : Nat) (h : k < l.length) : totalL sz (l.take (k + 1)) = totalL sz (l.take k) + sz l[k].2 := by
  unfold totalL
  rw [List.take_succ_eq_append_getElem h, List.map_append, List.sum_append]
  simp only [List.map_cons, List.map_nil, List.sum_cons, List.sum_nil, Nat.add_zero]
theorem totalL_le (sz : Nat → Nat) (m : Nat) (hm : ∀ f, sz f ≤ m) : ∀ l : Dir, totalL sz l ≤ l.length * m
  | [] => Nat.zero_le _
  | x :: r => by
    have h := totalL_le sz m hm r
    have := hm x.2
    have e : totalL sz (x :: r) = sz x.2 + totalL sz r := rfl
    rw [e, List.length_cons, Nat.succ_mul]; omega
theorem SmallF.seen {f : FileM} (h : SmallF f) : f.seen.length ≤ 2000000 := by
  have := steps_length f.waits f.sure.data.toList
  have h1 := h.sure; have h2 := h.many
  rw [Lib.size_eq] at h1
  unfold FileM.seen; omega
theorem Fit.size_le {M : RefM} (h : Fit M) (f : Nat) : sizeM M f ≤ 2000000 := by
  unfold sizeM
  cases e : M.files[f]? with
  | none => exact Nat.zero_le _
  | some x => exact (h.files x (List.mem_of_getElem? e)).seen
theorem keep_alloc {w w' : World} {o : Obj} (h : Below w.heap.size w w') : Below w.heap.size w (w'.alloc o) := h.alloc h.size o
theorem keep_call {w w' w'' : World} (h : Below w.heap.size w w') (h2 : Below w'.heap.size w' w'') : Below w.heap.size w w'' := h.trans (h2.mono h.size)

set_option maxRecDepth 100000 in
set_option maxHeartbeats 8000000 in
theorem reffree_any (M : RefM) (f s m a : Option Addr × Nat × Nat) (hF : Fit M) (hroom : 0 ≤ M.room ∧ M.room ≤ 9223372036854775807) (w : World) (h : RefAt w M f s m a) :
    Calls Try.prog 41 #[slices f s m a M.room M.units M.left M.armed M.gone] w fun e w' => e = .returned (.int .i64 (freeM M)) ∧ Below w.heap.size w w' := by
  have D := fun (W : World) (hb : Below w.heap.size w W) => refdir_any M.room M.units M.left M.armed M.gone (sliceV f) (sliceV s) (sliceV m) (sliceV a) M.sure M.waits W (row_below h.sure hb (Nat.le_refl _)) (row_below h.moves hb (Nat.le_refl _)) hF.rising hF.names hF.moves hF.dirs
  change ∀ W, Below w.heap.size w W → Calls Try.prog 38 _ W fun e w' => ∃ v', e = .returned v' ∧ EntryRow w' v' M.dir ∧ Below W.heap.size W w' at D
  obtain ⟨l, hl, hfr⟩ := h.files
  have hdl : M.dir.length ≤ 1000000 := by have := dplay_length M.waits M.sure; have := hF.dirs; unfold RefM.dir; omega
  obtain ⟨f1, f2, f3⟩ := f
  obtain ⟨s1, s2, s3⟩ := s
  obtain ⟨m1, m2, m3⟩ := m
  obtain ⟨a1, a2, a3⟩ := a
  unfold sliceV at hfr D
  unfold slices refA
  dsimp only at hfr D ⊢
  have B := Lib.hid (fun o : Obj => (Below.refl _ w).alloc (Nat.le_refl _) o)
  have D := Lib.hid D
  have HF := Lib.hid hF
  have HFR := Lib.hid hfr
  have HL := Lib.hid hl
  have HT := Lib.hid (fun k => totalL_le (sizeM M) 2000000 hF.size_le (M.dir.take k))
  clear h hF hfr hl
  go_enter Try.func41, Try.ntmps41
  go_wp2_with fail
  refine (D.out _ (B.out _)).mono ?_
  rintro e w1 ⟨cv, rfl, hrow, hb1⟩
  have hc := (Cells.new w 37 #[.int .i64 M.room, .slice f1 f2 f3, .slice s1 s2 s3, .slice m1 m2 m3, .int .i64 M.units, .int .i64 M.left, .bool M.armed, .bool M.gone, .slice a1 a2 a3]).below hb1 (by simp)
  have HB := Lib.hid ((B.out _).trans (hb1.mono (B.out _).size))
  obtain ⟨ao, cap, rfl, hao⟩ := row_shape hrow
  have b0 := hc.cell 0
  simp at b0
  have hwl := hc.lt
  have HC := Lib.hid hc
  have HR := Lib.hid hrow
  have HA := Lib.hid hao
  clear hc hrow hao hb1
  go_wp2_with fail
  go_loopw [4, 5] (fun c i wr => ∃ (k : Nat), k ≤ M.dir.length ∧ i = .int .i64 k ∧ c = .int .i64 (M.room - (totalL (sizeM M) (M.dir.take k) : Nat)) ∧ Below w1.heap.size w1 wr) (fun _ i _ => M.dir.length - (intOf i).toNat)
  case atStart => exact ⟨0, Nat.zero_le _, rfl, by simp [totalL], Below.refl _ _⟩
  case round =>
    obtain ⟨k, hk, rfl, rfl, hb⟩ := hrel
    rename_i wr
    have ht := HT.out k
    rw [List.length_take] at ht
    have ht2 : totalL (sizeM M) (M.dir.take k) ≤ 2000000000000 := by
      have : min k M.dir.length * 2000000 ≤ 1000000 * 2000000 := Nat.mul_le_mul_right _ (by omega)
      omega
    by_cases hlt : k < M.dir.length
    · obtain ⟨ge, rfl, _⟩ := HA.out (by omega)
      obtain ⟨_, q1⟩ := entries_at M.dir k hlt
      have hiF := HF.out.dir_lt _ (List.getElem_mem hlt)
      rw [← HL.out, List.length_map] at hiF
      have hnf := HF.out.nfiles
      rw [← HL.out, List.length_map] at hnf
      have hsz : sizeM M M.dir[k].2 = (l[M.dir[k].2]).1.seen.length := by
        unfold sizeM
        rw [← HL.out, List.getElem?_map, List.getElem?_eq_getElem hiF]; rfl
      have htk := totalL_take (sizeM M) M.dir k hlt
      rw [hsz] at htk
      have hsmall := HF.out.files l[M.dir[k].2].1 (by rw [← HL.out]; exact List.mem_map.2 ⟨_, List.getElem_mem hiF, rfl⟩)
      obtain ⟨gf, capf, ⟨⟩, _⟩ := Joins.ownsRow_form HFR.out.1 (by omega)
      obtain ⟨c0, c1⟩ := filesM_at l M.dir[k].2 hiF
      have hwf := HFR.out.2 _ (List.getElem_mem hiF)
      generalize M.dir[k].2 = i at *
      generalize l[i] = p at *
      obtain ⟨wo, wcap, ew, _⟩ := row_shape hwf
      obtain ⟨p1, p2⟩ := p
      dsimp only at ew hwf c0 c1 hsmall hsz htk
      subst ew
      have hseen := hsmall.seen
      have hbw : Below w.heap.size w wr := HB.out.trans (hb.mono HB.out.size)
      have hfw := HFR.out.below hbw (Nat.le_refl _)
      have hrw := row_below HR.out hb (Nat.le_refl _)
      have hcw := HC.out.below hb HC.out.lt
      have SE := Lib.hid (fun (W : World) (hB : Below wr.heap.size wr W) => refseen_any p1 (.slice wo p1.waits.length wcap) W (row_below (row_below hwf hbw (Nat.le_refl _)) hB (Nat.le_refl _)) hsmall)
      have HS := Lib.hid (show ∀ W, Below wr.heap.size wr W → (Below wr.heap.size wr W ∧ W.cell? ⟨w.heap.size, 1, none⟩ = some (.slice (some ⟨gf, 0, none⟩) l.length f3) ∧ W.cell? ⟨ge, k * 2 + 1, none⟩ = some (.int .i64 i) ∧ W.cell? ⟨gf, i * 2, none⟩ = some (.string p1.sure) ∧ W.cell? ⟨gf, i * 2 + 1, none⟩ = some (.slice wo p1.waits.length wcap)) from fun W hB => ⟨hB, (hcw.below hB hcw.lt).cell 1, row_at (row_below hrw hB (Nat.le_refl _)) q1, row_at (row_below hfw.1 hB (Nat.le_refl _)) c0, row_at (row_below hfw.1 hB (Nat.le_refl _)) c1⟩)
      have hss := bs_size p1.seen
      have HTK := Lib.hid htk
      have HB2 := Lib.hid hb
      clear hsmall hwf hfw hrw hcw c0 c1 q1 htk hsz hb
      generalize totalL (sizeM M) (M.dir.take k) = tt at *
      go_wp2_with fail
      go_region_held3 (fun W => Below wr.heap.size wr W ∧ W.cell? ⟨w.heap.size, 1, none⟩ = some (.slice (some ⟨gf, 0, none⟩) l.length f3) ∧ W.cell? ⟨ge, k * 2 + 1, none⟩ = some (.int .i64 i) ∧ W.cell? ⟨gf, i * 2, none⟩ = some (.string p1.sure) ∧ W.cell? ⟨gf, i * 2 + 1, none⟩ = some (.slice wo p1.waits.length wcap)) ((refine HS.out _ ?_; repeat (first | exact Below.refl _ _ | assumption | (refine Below.drew ?_) | (refine keep_alloc ?_) | (refine keep_call ?_ (by assumption))))) ((go_at_call 61; refine (SE.out _ ?_).mono ?_; (focus (repeat (first | exact Below.refl _ _ | assumption | (refine Below.drew ?_) | (refine keep_alloc ?_) | (refine keep_call ?_ (by assumption))))); rintro e w5 ⟨rfl, hb5⟩))
      all_goals go_wp2_with fail
      all_goals
        have hbk : Below wr.heap.size wr w5 := keep_call (Below.drew (Below.refl _ _)) hb5
        have hwr : IntKind.i64.wrap (M.room - (tt : Int) - (p1.seen.length : Int)) = M.room - (tt : Int) - (p1.seen.length : Int) := IntWalk.i64_in _ (by omega)
        refine ⟨⟨k + 1, hlt, by go_num, ?_, HB2.out.trans (hbk.mono HB2.out.size)⟩, by simp [intOf]; omega⟩
        rw [HTK.out, hwr]
        congr 1
        omega
    · have hkl : k = M.dir.length := by omega
      have hfree : freeM M = max (M.room - (totalL (sizeM M) (M.dir.take k) : Nat)) 0 := by unfold freeM; rw [hkl, List.take_length]
      have HFREE := Lib.hid hfree
      have HB2 := Lib.hid (HB.out.trans (hb.mono HB.out.size))
      clear hfree hkl hb
      generalize totalL (sizeM M) (M.dir.take k) = tt at *
      by_cases hneg : M.room - (tt : Int) < 0
      · go_wp2
        go_ret
        exact ⟨by rw [HFREE.out, show max (M.room - (tt : Int)) 0 = 0 by omega]; rfl, HB2.out⟩
      · go_wp2
        go_ret
        exact ⟨by rw [HFREE.out, show max (M.room - (tt : Int)) 0 = M.room - tt by omega]; rfl, HB2.out⟩
end Go.Proofs.Ytembondddgfpcaa

namespace Go.Proofs.Ytembondddgfpcaa
open Go.RowKit
def todo (l : Array Bool) : Nat := (l.toList.filter (fun b => !b)).length
theorem ready_spec {ops : Array Oper} {l : Array Bool} {i : Nat} (h : i ∈ Region.ready .any ops l) :
    ∃ o, ops[i]? = some o ∧ l.getD i true = false ∧ ∀ e ∈ o.after, Region.binds .any e = true → l.getD e.on false = true := by
  unfold Region.ready at h
  rw [List.mem_filter] at h
  obtain ⟨hi, h⟩ := h
  rw [List.mem_range] at hi
  have ho : ops[i]? = some ops[i] := Array.getElem?_eq_getElem hi
  rw [ho] at h
  simp only [Option.map_some, Option.getD_some, Bool.and_eq_true, Bool.not_eq_true'] at h
  refine ⟨_, ho, h.1, fun e he hb => ?_⟩
  have := (Array.all_eq_true_iff_forall_mem.1 h.2) e he
  simpa [hb] using this
theorem wpAny_inv {P : Program} {ops : Array Oper} {Q : Exit → Act → World → Prop} (I : Array Bool → Act → World → Prop)
    (step : ∀ l i o a w, I l a w → l.size = ops.size → ops[i]? = some o → l.getD i true = false → (∀ e ∈ o.after, Region.binds .any e = true → l.getD e.on false = true) →
      wpOp P ops Q i (fun a' w' => I (l.setIfInBounds i true) a' w') a w)
    (done : ∀ l a w, I l a w → l.size = ops.size → Region.ready .any ops l = [] → Q .normal a w) :
    ∀ (n : Nat) (l : Array Bool) (a : Act) (w : World), I l a w → l.size = ops.size → todo l ≤ n → wpAny P .any ops Q n l a w := by
  intro n
  induction n with
  | zero =>
    intro l a w hI hs hn
    have hr : Region.ready .any ops l = [] := by
      cases hq : Region.ready .any ops l with
      | nil => rfl
      | cons i rs =>
        obtain ⟨o, ho, hl, _⟩ := ready_spec (show i ∈ Region.ready .any ops l by rw [hq]; simp)
        exfalso
        have hi : i < l.size := by
          rcases Nat.lt_or_ge i l.size with h | h
          · exact h
          · simp [Array.getD, Nat.not_lt.2 h] at hl
        have hm : l[i] ∈ l.toList.filter (fun b => !b) := by
          rw [List.mem_filter]
          refine ⟨by simp, ?_⟩
          simp [Array.getD, hi] at hl
          simp [hl]
        have : 0 < todo l := List.length_pos_of_mem hm
        omega
    exact ⟨hr, done l a w hI hs hr⟩
  | succ n ih =>
    intro l a w hI hs hn
    refine ⟨fun hr => done l a w hI hs hr, fun i hi => ?_⟩
    obtain ⟨o, ho, hl, he⟩ := ready_spec hi
    refine wpOp_mono (fun a' w' hI' => ih _ _ _ hI' (by simpa using hs) ?_) (step l i o a w hI hs ho hl he)
    have hi' : i < l.size := by
      rcases Nat.lt_or_ge i l.size with h | h
      · exact h
      · simp [Array.getD, Nat.not_lt.2 h] at hl
    have hlf : l[i] = false := by simpa [Array.getD, hi'] using hl
    have key : ∀ (xs : List Bool) (j : Nat) (hj : j < xs.length), xs[j] = false → ((xs.set j true).filter (fun b => !b)).length + 1 = (xs.filter (fun b => !b)).length := by
      intro xs
      induction xs with
      | nil => intro j hj; simp at hj
      | cons x xs ih2 =>
        intro j hj hx
        cases j with
        | zero => simp at hx; subst hx; simp
        | succ j =>
          have := ih2 j (by simpa using hj) (by simpa using hx)
          cases x <;> simp at this ⊢ <;> omega
    have h2 := key l.toList i (by simpa using hi') (by simpa using hlf)
    unfold todo at hn ⊢
    have e : (l.setIfInBounds i true).toList = l.toList.set i true := by simp
    rw [e]
    omega
/-- the rule: I at the start; each operation that may come up keeps it; where none may come up, the region is done. -/
theorem wp_region_inv {P : Program} {id : Nat} {ops : Array Oper} {Q : Exit → Act → World → Prop} {a : Act} {w : World} (hm : P.follows .mixedOrders = true) (I : Array Bool → Act → World → Prop)
    (start : I (Array.replicate ops.size false) a w.drew)
    (step : ∀ l i o a w, I l a w → l.size = ops.size → ops[i]? = some o → l.getD i true = false → (∀ e ∈ o.after, Region.binds .any e = true → l.getD e.on false = true) →
      wpOp P ops Q i (fun a' w' => I (l.setIfInBounds i true) a' w') a w)
    (done : ∀ l a w, I l a w → l.size = ops.size → Region.ready .any ops l = [] → Q .normal a w) :
    (Code.region id ops true).wp P Q a w :=
  wp_region_any hm (wpAny_inv I step done ops.size _ a _ start (by simp) (by
    unfold todo
    simp))
end Go.Proofs.Ytembondddgfpcaa

