/- Errors at places, by their numbers; the law's fixed fact. -/
import Derived.Test.YtngngamfceoklaaDoorPJ
namespace Go.Proofs.YtngngamfceoklaaDoor
open Go.RowKit Go.Shelf

theorem assertErrF (q : Option Addr) (w : World) : (Instr.typeAssert (.iface 78 (.pointer q)) 25 39 true).run Tryd.prog w = .ok (.tuple #[.int .i64 0, .bool false]) w := by kernel_rfl
theorem assertFaultF (q : Option Addr) (w : World) : (Instr.typeAssert (.iface 78 (.pointer q)) 25 78 true).run Tryd.prog w = .ok (.tuple #[.pointer q, .bool true]) w := by kernel_rfl
theorem assertFaultE (n : Int) (w : World) : (Instr.typeAssert (.iface 39 (.int .i64 n)) 25 78 true).run Tryd.prog w = .ok (.tuple #[.pointer none, .bool false]) w := by kernel_rfl
theorem assertFault0 (w : World) : (Instr.typeAssert .nilIface 25 78 true).run Tryd.prog w = .ok (.tuple #[.pointer none, .bool false]) w := by kernel_rfl
theorem assertErrN (n : Int) (w : World) : (Instr.typeAssert (.iface 39 (.int .i64 n)) 25 39 true).run Tryd.prog w = .ok (.tuple #[.int .i64 n, .bool true]) w := by kernel_rfl
attribute [local go_sem] errV_0 assertErrF assertFaultF assertFaultE assertFault0 assertErrN
set_option maxRecDepth 100000 in
set_option maxHeartbeats 2000000 in
theorem num_fault {lo : Nat} {w : World} {v : Value} {a n : Nat} (h : FaultAt lo w v a n) (h1 : n ≠ 0) (h2 : n ≤ 1000) : Calls Tryd.prog 11 #[v] w fun e w' => e = .returned (.int .i64 n) ∧ w = w' := by
  obtain ⟨q, _, rfl, hc⟩ := h
  have c1 : w.cell? ⟨q, 1, none⟩ = some (.iface 39 (.int .i64 n)) := by rw [hc.cell 1]; show some (errV n) = _; rw [errV_pos n (by omega)]
  have hl := hc.lt
  have hne : ((n : Int) != 0) = true := by simp; omega
  have hne2 : ((n : Int) == 0) = false := by simp; omega
  clear hc h1
  go_enter Tryd.func11, Tryd.ntmps11
  go_wp2
  refine wp_loop_rounds 2 ?_
  rw [rounds_succ]
  go_wp2
  rw [rounds_succ]
  go_wp2
  go_ret
  exact ⟨rfl, rfl⟩
set_option maxRecDepth 100000 in
set_option maxHeartbeats 2000000 in
theorem is_fault {lo : Nat} {w : World} {v : Value} {a n : Nat} (h : FaultAt lo w v a n) (h1 : n ≠ 0) (h2 : n ≤ 1000) (m : Nat) : Calls Tryd.prog 19 #[v, .int .i64 m] w fun e w' => e = .returned (.bool (n == m)) ∧ w = w' := by
  have N := num_fault h h1 h2
  have e2 : (n == m) = ((n : Int) == m) := by rw [Bool.eq_iff_iff]; simp; omega
  rw [e2]
  obtain ⟨q, _, rfl, hc⟩ := h
  clear hc
  go_enter Tryd.func19, Tryd.ntmps19
  go_wp2_with fail
  refine N.mono ?_
  rintro e w1 ⟨rfl, rfl⟩
  go_wp2
  go_ret
  exact ⟨rfl, rfl⟩
set_option maxRecDepth 100000 in
set_option maxHeartbeats 2000000 in
theorem at_fault {lo : Nat} {w : World} {v : Value} {a n : Nat} (h : FaultAt lo w v a n) : Calls Tryd.prog 12 #[v] w fun e w' => e = .returned (.int .i64 a) ∧ w = w' := by
  obtain ⟨q, _, rfl, hc⟩ := h
  have c0 : w.cell? ⟨q, 0, none⟩ = some (.int .i64 a) := hc.cell 0
  have hl := hc.lt
  clear hc
  go_enter Tryd.func12, Tryd.ntmps12
  go_wp2
  go_ret
  exact ⟨rfl, rfl⟩
theorem at_nil (w : World) : Calls Tryd.prog 12 #[.nilIface] w fun e w' => e = .returned (.int .i64 (-9)) ∧ w = w' := by
  go_enter Tryd.func12, Tryd.ntmps12
  go_wp2
  go_ret
  exact ⟨rfl, rfl⟩
theorem at_err (n : Int) (w : World) : Calls Tryd.prog 12 #[.iface 39 (.int .i64 n)] w fun e w' => e = .returned (.int .i64 (-9)) ∧ w = w' := by
  go_enter Tryd.func12, Tryd.ntmps12
  go_wp2
  go_ret
  exact ⟨rfl, rfl⟩
set_option maxHeartbeats 1000000 in
theorem parse_long (s : ByteArray) (hs : 60000 < s.size) (h2 : s.size ≤ maxLen) (w : World) :
    Calls Tryd.prog 9 #[.string s] w fun e w' => e = .returned (.tuple #[.slice none 0 0, .iface 39 (.int .i64 1)]) ∧ Below w.heap.size w w' := by
  unfold maxLen at h2
  refine callsIn_wide (n := 9).1 ?_
  refine callsIn_of_wp_marks Tryd.func9 rfl trivial ?_ rfl
  simp only [Tryd.ntmps9, List.size_toArray, List.length_cons, List.length_nil, Nat.reduceAdd, Nat.reduceSub, Array.replicate_succ, Array.replicate_zero, List.push_toArray, List.append_toArray, List.nil_append, List.cons_append]
  gi_wp2_with fail
  have h0 : Cells ((w.alloc (.cells #[.slice none 0 0] 23)).alloc (.cells #[.iface 39 (.int .i64 1)] 25)) w.heap.size 23 #[.slice none 0 0] := (Cells.new w _ _).alloc _
  have h1 := Cells.new (w.alloc (.cells #[.slice none 0 0] 23)) 25 #[.iface 39 (.int .i64 1)]
  rw [World.size_alloc] at h1
  have c0 := h0.cell 0
  have c1 := h1.cell 0
  simp only [List.getElem?_toArray, List.getElem?_cons_zero] at c0 c1
  exact ⟨.tuple #[.slice none 0 0, .iface 39 (.int .i64 1)], by simp [results, Tryd.f9, go_sem, c0, c1], rfl, ((Below.refl _ w).alloc (Nat.le_refl _) _).alloc (by simp) _⟩
theorem Its.at_ {w : World} {v : Value} {its : List It} (h : Its w v its) {i : Nat} {it : It} (hi : its[i]? = some it) : ∃ b off cap fa fc, v = .slice (some ⟨b, off, none⟩) its.length cap ∧ its.length ≤ cap ∧ b < w.heap.size ∧ w.cell? ⟨b, off + i * 3, none⟩ = some (.int .i64 it.kind) ∧ w.cell? ⟨b, off + i * 3 + 1, none⟩ = some (.string (B it.raw)) ∧ w.cell? ⟨b, off + i * 3 + 1 + 1, none⟩ = some (.slice fa it.fields.length fc) ∧ it.fields.length ≤ fc := by
  obtain ⟨A, cap, rfl, hle, hc⟩ := h
  obtain ⟨b, off, fv, rfl, hlt, c0, c1, c2, fa, fc, rfl, hfl, _⟩ := hc i it hi
  exact ⟨b, off, cap, fa, fc, rfl, hle, hlt, c0, c1, c2, hfl⟩
theorem alive_parse : parseL [65, 58, 32, 49, 10, 35, 32, 120, 10, 10] = .ok [⟨3, [65, 58, 32, 49, 10, 35, 32, 120, 10], [([65], [49])]⟩, ⟨1, [10], []⟩] := by kernel_rfl
set_option maxRecDepth 100000 in
set_option maxHeartbeats 4000000 in
theorem alive_any (w : World) : Calls Tryd.prog 8 #[] w fun e w' => e = .returned (.bool true) ∧ Below w.heap.size w w' := by
  have P := parse_any ⟨#[65, 58, 32, 49, 10, 35, 32, 120, 10, 10]⟩ (by decide) w
  go_enter Tryd.func8, Tryd.ntmps8
  go_wp2_with fail
  refine P.mono ?_
  rintro e w1 ⟨b1, hP⟩
  simp only [alive_parse] at hP
  obtain ⟨v, rfl, hI⟩ := hP
  obtain ⟨b, off, cap, fa, fc, rfl, hle, hlt, c0, c1, c2, hfl⟩ := hI.at_ (i := 0) rfl
  obtain ⟨b', off', cap', fa', fc', e, _, _, d0, _, _, _⟩ := hI.at_ (i := 1) rfl
  cases e
  simp only [List.length_cons, List.length_nil, Nat.reduceAdd, Nat.zero_mul, Nat.add_zero, Nat.one_mul] at *
  have hb : ((B [65, 58, 32, 49, 10, 35, 32, 120, 10]).toList == [65, 58, 32, 49, 10, 35, 32, 120, 10]) = true := by kernel_rfl
  clear hI P
  go_wp2
  go_ret
  exact ⟨rfl, b1⟩
end Go.Proofs.YtngngamfceoklaaDoor
