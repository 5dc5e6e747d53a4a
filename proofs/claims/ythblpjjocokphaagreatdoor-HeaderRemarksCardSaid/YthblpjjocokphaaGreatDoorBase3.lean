/- Texts put together: WB, WC, WD, WE, WF, FA, FB, FC, FD, FE, FF, FG, FH, FI, FJ, PF, PG, PH. -/
import Derived.Deep.RegionWith
import Derived.Deep.AppendLies
import Derived.Deep.RegionHeld3
import Derived.Deep.DeepCutAuto
import Derived.Shelf.Abstract
import Derived.Shelf.RegionOpen
import Derived.OwnWalkIn
import Derived.TacticsInMore
import Derived.LoopNIn
import Derived.LoopIn
import Derived.Shelf.Strings.SlTrimAscii
import Derived.Shelf.Strings.Split
import Derived.Lib.IndexBytes
import Derived.OwnWalk
import Derived.Laws.AppendOwn
import Derived.Laws.OwnMore
import Derived.Lib.SmallJoins
import Derived.StillTailTactics
import Derived.Laws.ResultCell
import Derived.Laws.Rows
import Derived.Test.YthblpjjocokphaaGreatDoorBase2
set_option linter.unusedVariables false
/- The closure that answers a text's lines one by one. -/
namespace Go.Proofs.YthblpjjocokphaaGreatDoor
open Go.RowKit

def restS (s : ByteArray) : ByteArray := if nl s.data.toList then s.extract ((head s.data.toList).length + 1) s.size else ⟨#[]⟩
theorem takeWhile_all {p : UInt8 → Bool} : ∀ {l : List UInt8}, (∀ x ∈ l, p x = true) → l.takeWhile p = l
  | [], _ => rfl
  | a :: l, h => by rw [List.takeWhile_cons, h a (by simp), if_pos rfl, takeWhile_all fun x hx => h x (by simp [hx])]
theorem cut_line (s : ByteArray) (w : World) (hs : s.size ≤ maxLen) :
    Calls Tryz.prog 15 #[.string s, .string ⟨#[10]⟩] w fun e w' => e = .returned (.tuple #[.string ⟨(head s.data.toList).toArray⟩, .string (restS s), .bool (nl s.data.toList)]) ∧ ∃ n, w' = w.drewN n := by
  by_cases h : (10 : UInt8) ∈ s.data.toList
  · have e1 : nl s.data.toList = true := by unfold nl; simpa using h
    have e2 : s.extract 0 (s.data.toList.takeWhile (· != 10)).length = ⟨(head s.data.toList).toArray⟩ := by
      have h0 := Lib.extract_data s 0 (s.data.toList.takeWhile (· != 10)).length
      rw [← Lib.mk_data (s.extract 0 _), h0]
      have : List.take ((s.data.toList.takeWhile (· != 10)).length - 0) (List.drop 0 s.data.toList) = head s.data.toList := by
        rw [List.drop_zero, Nat.sub_zero]
        exact (List.prefix_iff_eq_take.1 (List.takeWhile_prefix _)).symm
      rw [this]
    refine (cut_yes s 10 w hs h).mono ?_
    rintro e w' ⟨rfl, n, rfl⟩
    refine ⟨?_, n, rfl⟩
    rw [e1, e2]; unfold restS; rw [if_pos e1]; rfl
  · have e1 : nl s.data.toList = false := by unfold nl; simpa using h
    have e2 : head s.data.toList = s.data.toList := by
      exact takeWhile_all fun x hx => by simp; rintro rfl; exact h hx
    refine (cut_no s 10 w h).mono ?_
    rintro e w' ⟨rfl, n, rfl⟩
    refine ⟨?_, n, rfl⟩
    rw [e1, e2, Lib.mk_data]; unfold restS; rw [e1]; rfl

/-- Whatever lay lies as it lay, but for two blocks. -/
structure Two (b c : Nat) (W W' : World) : Prop where
  os : W'.os = W.os
  tape : W'.tape = W.tape
  output : W'.output = W.output
  size : W.heap.size ≤ W'.heap.size
  same : ∀ r, r < W.heap.size → r ≠ b → r ≠ c → W'.heap[r]? = W.heap[r]?
theorem Two.refl (b c : Nat) (W : World) : Two b c W W := ⟨rfl, rfl, rfl, Nat.le_refl _, fun _ _ _ _ => rfl⟩
theorem Two.alloc {b c : Nat} {X Y : World} (h : Two b c X Y) (o : Obj) : Two b c X (Y.alloc o) :=
  ⟨h.os, h.tape, h.output, by simp; have := h.size; omega, fun r a x y => (Below.heap_alloc _ _ _ (Nat.lt_of_lt_of_le a h.size)).trans (h.same r a x y)⟩
theorem Two.setCell {b c : Nat} {X Y : World} (h : Two b c X Y) {p : Addr} (hp : p.block = b ∨ p.block = c ∨ X.heap.size ≤ p.block) (u : Value) : Two b c X (Y.setCell p u) :=
  ⟨h.os, h.tape, h.output, by simp only [World.setCell, Array.size_modify]; exact h.size, fun r a x y => (Below.heap_setCell _ _ _ _ (by omega)).trans (h.same r a x y)⟩
theorem Two.drew {b c : Nat} {X Y : World} (h : Two b c X Y) : Two b c X Y.drew := ⟨h.os, h.tape, h.output, h.size, h.same⟩
theorem Two.drewN {b c : Nat} {X Y : World} (h : Two b c X Y) (n : Nat) : Two b c X (Y.drewN n) := ⟨h.os, h.tape, h.output, h.size, h.same⟩
theorem Two.box {b c d : Nat} {X Y : World} {t : TypeId} {v : Value} (h : Two b c X Y) (hv : Boxed X d t v) (x : d ≠ b) (y : d ≠ c) : Boxed Y d t v :=
  (h.same d hv.lt x y).trans hv
theorem Two.turned {b c B k : Nat} {X Y : World} (h : Two b c X Y) (hb : B ≤ b ∧ b < B + k) (hc : B ≤ c ∧ c < B + k) : Turned B k X Y :=
  ⟨h.os, h.tape, h.output, h.size, fun r a x => h.same r a (by omega) (by omega)⟩

set_option maxHeartbeats 400000 in
theorem next_no (s : ByteArray) (at_ : Nat) (Bat Btx Bno : Nat) (w : World) (hat : Boxed w Bat 3 (.int .i64 at_)) (htx : Boxed w Btx 9 (.string s)) (he : at_ = s.size) :
    Calls Tryz.prog 35 #[.pointer (some ⟨Bat, 0, none⟩), .pointer (some ⟨Btx, 0, none⟩), .pointer (some ⟨Bno, 0, none⟩)] w fun e w' =>
      e = .returned (.tuple #[.agg #[.int .i64 0, .int .i64 0, .string ⟨#[]⟩, .bool false], .bool false]) ∧ Two Bno Bat w w' := by
  have c1 := hat.cell
  have c2 := htx.cell
  have z1 := hat.lt
  have z2 := htx.lt
  have e1 : ((at_ : Int) == (s.size : Int)) = true := by rw [he]; simp
  go_enter Tryz.func35, Tryz.ntmps35
  go_wp2
  refine bodyPost_ret (v := .tuple #[.agg #[.int .i64 0, .int .i64 0, .string ⟨#[]⟩, .bool false], .bool false]) (by simp [results, Tryz.results35, go_sem]) rfl ⟨rfl, ?_⟩
  exact (Two.refl _ _ _).alloc _

set_option maxHeartbeats 8000000 in
theorem next_yes (s : ByteArray) (at_ no : Nat) (Bat Btx Bno : Nat) (w : World) (hat : Boxed w Bat 3 (.int .i64 at_)) (htx : Boxed w Btx 9 (.string s)) (hno : Boxed w Bno 3 (.int .i64 no))
    (h1 : at_ < s.size) (h2 : no < s.size) (hs : s.size ≤ 4294967295) (d1 : Bat ≠ Btx) (d2 : Bat ≠ Bno) (d3 : Btx ≠ Bno) :
    Calls Tryz.prog 35 #[.pointer (some ⟨Bat, 0, none⟩), .pointer (some ⟨Btx, 0, none⟩), .pointer (some ⟨Bno, 0, none⟩)] w fun e w' =>
      e = .returned (.tuple #[.agg (lineV ⟨no, at_, head (s.data.toList.drop at_), nl (s.data.toList.drop at_)⟩), .bool true]) ∧ Two Bno Bat w w' ∧ Boxed w' Bno 3 (.int .i64 (no + 1 : Nat)) ∧ Boxed w' Bat 3 (.int .i64 (at_ + used (s.data.toList.drop at_) : Nat)) := by
  have c1 := hat.cell
  have c2 := htx.cell
  have c3 := hno.cell
  have f1 := hat.frozen
  have f3 := hno.frozen
  have z1 := hat.lt
  have z2 := htx.lt
  have z3 := hno.lt
  have e1 : ((at_ : Int) == (s.size : Int)) = false := by rw [beq_eq_false_iff_ne]; omega
  go_enter Tryz.func35, Tryz.ntmps35
  go_wp2_with fail
  have hx : (s.extract at_ s.size).data.toList = s.data.toList.drop at_ := Lib.extract_to_end s at_
  have hz : (s.extract at_ s.size).size ≤ maxLen := by rw [Lib.size_eq, hx]; unfold maxLen; simp only [List.length_drop, ← Lib.size_eq]; omega
  refine (cut_line (s.extract at_ s.size) _ hz).mono ?_
  rw [hx]
  rintro e w1 ⟨rfl, n1, rfl⟩
  have hu : (head (s.data.toList.drop at_)).length + (endS (nl (s.data.toList.drop at_))).size = used (s.data.toList.drop at_) := by
    unfold used endS; cases nl (s.data.toList.drop at_) <;> rfl
  have hul := used_le (s.data.toList.drop at_)
  rw [List.length_drop, ← Lib.size_eq] at hul
  have hu' : (⟨(head (s.data.toList.drop at_)).toArray⟩ : ByteArray).size = (head (s.data.toList.drop at_)).length := by simp [Lib.size_eq]
  generalize hhd : head (s.data.toList.drop at_) = hd at *
  generalize hen : nl (s.data.toList.drop at_) = en at *
  generalize hus : used (s.data.toList.drop at_) = us at *
  have H1 := Lib.hid hhd
  have H2 := Lib.hid hen
  have H3 := Lib.hid hus
  clear hhd hen hus
  generalize restS (s.extract at_ s.size) = rs at *
  have HU := Lib.hid hu
  have HU' := Lib.hid hu'
  clear hu hu' hx hz
  have hat2 : Boxed (w.alloc (.cells #[.int .i64 0, .int .i64 0, .string ⟨#[]⟩, .bool false] 47)) Bat 3 (.int .i64 at_) := hat.alloc _
  go_upto_region 5 with fail
  go_cut [] (fun wx => Two Bno Bat w wx ∧ wx.heap.size = w.heap.size + 1 + 1 ∧ Boxed wx Bno 3 (.int .i64 (no + 1 : Nat)) ∧ Boxed wx Bat 3 (.int .i64 at_) ∧
    Cells wx w.heap.size 47 #[.int .i64 0, .int .i64 0, .string ⟨#[]⟩, .bool false] ∧ Cells wx (w.heap.size + 1) 47 #[.int .i64 no, .int .i64 at_, .string ⟨hd.toArray⟩, .bool en])
  case first =>
    go_wp2_with fail
    go_meet
    refine ⟨?_, ?_, ?_, ?_, ?_, ?_⟩
    · exact (((((((Two.refl Bno Bat w).alloc _).alloc _).drewN n1).setCell (.inr (.inr (by simp))) _).setCell (.inr (.inr (by simp))) _).setCell (.inl rfl) _)
    · simp [World.setCell]
    · exact Boxed.set _ (Cells.other (Cells.other (((Cells.alloc (Cells.alloc hno _) _).drewN n1)) (by simp; omega) _) (by simp; omega) _)
    · exact Cells.other (Cells.other (Cells.other (((Cells.alloc (Cells.alloc hat _) _).drewN n1)) (by simp; omega) _) (by simp; omega) _) d2 _
    · exact Cells.other (Cells.other (Cells.other (((Cells.alloc (Cells.new w _ _) _).drewN n1)) (by simp) _) (by simp) _) (by simp; omega) _
    · have h0 := Cells.new (w.alloc (.cells #[.int .i64 0, .int .i64 0, .string ⟨#[]⟩, .bool false] 47)) 47 #[.int .i64 no, .int .i64 at_, .string ⟨#[]⟩, .bool false]
      rw [World.size_alloc] at h0
      exact Cells.other (((h0.drewN n1).set 2 (.string ⟨hd.toArray⟩)).set 3 (.bool en)) (by simp; omega) _
  case rest =>
    obtain ⟨t1, t2, t3, t4, t5, t6⟩ := hcut
    have t3' := Lib.hid t3
    have q0 := t4.cell
    have q1 := t4.frozen
    have q2 : wc.cell? ⟨w.heap.size + 1, 2, none⟩ = some (.string ⟨hd.toArray⟩) := t6.cell 2
    have q3 : wc.cell? ⟨w.heap.size + 1, 0, none⟩ = some (.int .i64 no) := t6.cell 0
    have q4 : wc.cell? ⟨w.heap.size + 1, 1, none⟩ = some (.int .i64 at_) := t6.cell 1
    have g1 : (wc.alloc (.cells #[.int .i64 no, .int .i64 at_, .string ⟨hd.toArray⟩, .bool en] 47)).cell? ⟨Bat, 0, none⟩ = some (.int .i64 at_) := (Boxed.alloc t4 _).cell
    have g2 : (wc.alloc (.cells #[.int .i64 no, .int .i64 at_, .string ⟨hd.toArray⟩, .bool en] 47)).frozen? ⟨Bat, 0, none⟩ = false := (Boxed.alloc t4 _).frozen
    have keepA : ∀ o, ((wc.alloc o).cell? ⟨w.heap.size + 1, 0, none⟩ = some (.int .i64 no) ∧ (wc.alloc o).cell? ⟨w.heap.size + 1, 1, none⟩ = some (.int .i64 at_) ∧ (wc.alloc o).cell? ⟨w.heap.size + 1, 2, none⟩ = some (.string ⟨hd.toArray⟩) ∧ (wc.alloc o).cell? ⟨w.heap.size + 1, 3, none⟩ = some (.bool en)) :=
      fun o => ⟨(Cells.alloc t6 o).cell 0, (Cells.alloc t6 o).cell 1, (Cells.alloc t6 o).cell 2, (Cells.alloc t6 o).cell 3⟩
    have keepB : ∀ o v, (((wc.alloc o).setCell ⟨Bat, 0, none⟩ v).cell? ⟨w.heap.size + 1, 0, none⟩ = some (.int .i64 no) ∧ ((wc.alloc o).setCell ⟨Bat, 0, none⟩ v).cell? ⟨w.heap.size + 1, 1, none⟩ = some (.int .i64 at_) ∧ ((wc.alloc o).setCell ⟨Bat, 0, none⟩ v).cell? ⟨w.heap.size + 1, 2, none⟩ = some (.string ⟨hd.toArray⟩) ∧ ((wc.alloc o).setCell ⟨Bat, 0, none⟩ v).cell? ⟨w.heap.size + 1, 3, none⟩ = some (.bool en)) :=
      fun o v => by
        have hne : w.heap.size + 1 ≠ Bat := by omega
        exact ⟨((Cells.alloc t6 o).other hne v).cell 0, ((Cells.alloc t6 o).other hne v).cell 1, ((Cells.alloc t6 o).other hne v).cell 2, ((Cells.alloc t6 o).other hne v).cell 3⟩
    have g3 : (wc.alloc (.cells #[.int .i64 no, .int .i64 at_, .string ⟨hd.toArray⟩, .bool en] 47)).cell? ⟨w.heap.size + 1, 2, none⟩ = some (.string ⟨hd.toArray⟩) := (Cells.alloc t6 _).cell 2
    clear keepA keepB
    have n0 : (endS en).size ≤ 1 := by unfold endS; cases en <;> decide
    have n1 : hd.length ≤ 4294967295 := by have := HU.out; omega
    have n2 : hd.length + (endS en).size ≤ s.size - at_ := by have := HU.out; omega
    have n3 : IntKind.i64.wrap ((hd.length : Int) + ((endS en).size : Int)) = (hd.length : Int) + ((endS en).size : Int) := IntWalk.i64_in _ (by omega)
    have n4 : IntKind.i64.wrap ((at_ : Int) + ((hd.length : Int) + ((endS en).size : Int))) = (at_ : Int) + ((hd.length : Int) + ((endS en).size : Int)) := IntWalk.i64_in _ (by omega)
    have q5 : wc.cell? ⟨w.heap.size + 1, 3, none⟩ = some (.bool en) := t6.cell 3
    go_upto_region 6 with fail
    go_cut [] (fun wx => Two Bno Bat w wx ∧ Boxed wx Bno 3 (.int .i64 (no + 1 : Nat)) ∧ Boxed wx Bat 3 (.int .i64 (at_ + us : Nat)) ∧
      Cells wx w.heap.size 47 #[.int .i64 0, .int .i64 0, .string ⟨#[]⟩, .bool false] ∧ Cells wx (w.heap.size + 1) 47 #[.int .i64 no, .int .i64 at_, .string ⟨hd.toArray⟩, .bool en])
    case first =>
      go_region_with (go_at_call 36; refine (end_any _ _ _ _ _).mono ?_; rintro e w1 ⟨rfl, rfl⟩)
      all_goals
        go_wp2_with fail
        go_meet
        have e9 : Value.int .i64 ((at_ : Int) + ((hd.length : Int) + ((endS en).size : Int))) = Value.int .i64 ((at_ + us : Nat) : Int) := by have := HU.out; congr 1; omega
        rw [e9]
        exact ⟨((t1.alloc _).setCell (.inr (.inl rfl)) _).drew, Cells.other (Cells.alloc t3 _) (fun e => d2 e.symm) _, Boxed.set _ (Boxed.alloc t4 _), Cells.other (Cells.alloc t5 _) (by simp; omega) _, Cells.other (Cells.alloc t6 _) (by simp; omega) _⟩
    case rest =>
      obtain ⟨r1, r2, r3, r4, r5⟩ := hcut
      have s0 : wc.cell? ⟨w.heap.size + 1, 0, none⟩ = some (.int .i64 no) := r5.cell 0
      have s1 : wc.cell? ⟨w.heap.size + 1, 1, none⟩ = some (.int .i64 at_) := r5.cell 1
      have s2 : wc.cell? ⟨w.heap.size + 1, 2, none⟩ = some (.string ⟨hd.toArray⟩) := r5.cell 2
      have s3 : wc.cell? ⟨w.heap.size + 1, 3, none⟩ = some (.bool en) := r5.cell 3
      have s4 : wc.cell? ⟨w.heap.size, 0, none⟩ = some (.int .i64 0) := r4.cell 0
      have s5 : wc.cell? ⟨w.heap.size, 1, none⟩ = some (.int .i64 0) := r4.cell 1
      have s6 : wc.cell? ⟨w.heap.size, 2, none⟩ = some (.string ⟨#[]⟩) := r4.cell 2
      have s7 : wc.cell? ⟨w.heap.size, 3, none⟩ = some (.bool false) := r4.cell 3
      have y0 := r4.frozen 0
      have y1 := r4.frozen 1
      have y2 := r4.frozen 2
      have y3 := r4.frozen 3
      go_wp2_with fail
      have k4 := (((r4.set 0 (.int .i64 no)).set 1 (.int .i64 at_)).set 2 (.string ⟨hd.toArray⟩)).set 3 (.bool en)
      have w0 := k4.cell 0
      have w1 := k4.cell 1
      have w2 := k4.cell 2
      have w3 := k4.cell 3
      simp at w0 w1 w2 w3
      refine bodyPost_ret (v := .tuple #[.agg #[.int .i64 no, .int .i64 at_, .string ⟨hd.toArray⟩, .bool en], .bool true]) (by simp [results, Tryz.results35, go_sem, w0, w1, w2, w3]) rfl ?_
      have z5 : Bat ≠ w.heap.size := by omega
      have z6 : Bno ≠ w.heap.size := by omega
      refine ⟨by rw [H1.out, H2.out]; rfl, ?_, ?_, ?_⟩
      · exact (((r1.setCell (.inr (.inr (Nat.le_refl _))) _).setCell (.inr (.inr (Nat.le_refl _))) _).setCell (.inr (.inr (Nat.le_refl _))) _).setCell (.inr (.inr (Nat.le_refl _))) _
      · exact Cells.other (Cells.other (Cells.other (Cells.other r2 z6 _) z6 _) z6 _) z6 _
      · rw [H3.out]; exact Cells.other (Cells.other (Cells.other (Cells.other r3 z5 _) z5 _) z5 _) z5 _
end Go.Proofs.YthblpjjocokphaaGreatDoor
/- The iterator over a text's lines: its contract. -/
namespace Go.Proofs.YthblpjjocokphaaGreatDoor
open Go.RowKit Go.Shelf
attribute [local go_sem] Oper.semAt_some

theorem from_any (s : ByteArray) (w : World) :
    Calls Tryz.prog 21 #[.string s] w fun e w' => e = .returned (.func (.func 35) #[] #[.pointer (some ⟨w.heap.size + 1 + 1, 0, none⟩), .pointer (some ⟨w.heap.size, 0, none⟩), .pointer (some ⟨w.heap.size + 1, 0, none⟩)]) ∧
      w' = ((w.alloc (.cells #[.string s] 9)).alloc (.cells #[.int .i64 0] 3)).alloc (.cells #[.int .i64 0] 3) := by
  go_enter Tryz.func21, Tryz.ntmps21
  go_wp2
  go_ret
  exact ⟨rfl, rfl⟩

theorem next_yes2 (s : ByteArray) (at_ no : Nat) (Bat Btx Bno : Nat) (w : World) (hat : Boxed w Bat 3 (.int .i64 at_)) (htx : Boxed w Btx 9 (.string s)) (hno : Boxed w Bno 3 (.int .i64 no))
    (h1 : at_ < s.size) (h2 : no < s.size) (hs : s.size ≤ 4294967295) (d1 : Bat ≠ Btx) (d2 : Bat ≠ Bno) (d3 : Btx ≠ Bno) (hd : List UInt8) (en : Bool) (us : Nat)
    (H1 : head (s.data.toList.drop at_) = hd) (H2 : nl (s.data.toList.drop at_) = en) (H3 : used (s.data.toList.drop at_) = us) :
    Calls Tryz.prog 35 #[.pointer (some ⟨Bat, 0, none⟩), .pointer (some ⟨Btx, 0, none⟩), .pointer (some ⟨Bno, 0, none⟩)] w fun e w' =>
      e = .returned (.tuple #[.agg #[.int .i64 no, .int .i64 at_, .string ⟨hd.toArray⟩, .bool en], .bool true]) ∧ Two Bno Bat w w' ∧ Boxed w' Bno 3 (.int .i64 (no + 1 : Nat)) ∧ Boxed w' Bat 3 (.int .i64 (at_ + us : Nat)) := by
  subst H1 H2 H3
  exact next_yes s at_ no Bat Btx Bno w hat htx hno h1 h2 hs d1 d2 d3

def atOf (B : Nat) (w : World) : Nat := match w.cell? ⟨B, 0, none⟩ with | some (.int _ n) => n.toNat | _ => 0
theorem atOf_eq {B : Nat} {w : World} {t : TypeId} {n : Nat} (h : Boxed w B t (.int .i64 n)) : atOf B w = n := by unfold atOf; rw [h.cell]; simp

set_option maxRecDepth 100000 in
set_option maxHeartbeats 2000000 in
theorem split_hands (s : ByteArray) (Bs : Nat) (w : World) (hbox : Boxed w Bs 9 (.string s)) (hs : s.size ≤ 4294967295) :
    Hands Tryz.prog 20 #[.pointer (some ⟨Bs, 0, none⟩)] (fun x => #[.agg (lineV x)]) 3 (linesOf s.data.toList) w := by
  intro l J Jx W hW hJ hY h0
  have hb : Boxed W Bs 9 (.string s) := (hW.block Bs hbox.lt).trans hbox
  have c0 := hb.cell
  refine callsIn_of_wp Tryz.func20 rfl trivial ?_ rfl
  simp only [Tryz.ntmps20, List.size_toArray, List.length_cons, List.length_nil, Nat.reduceAdd, Nat.reduceSub, Array.replicate_succ, Array.replicate_zero, List.push_toArray, List.append_toArray, List.nil_append, List.cons_append]
  gi_wp2_with (refine ⟨trivial, ?_⟩; gi_at_call 21; refine (callsIn_wide.2 (from_any s _)).mono ?_; rintro e w' ⟨rfl, rfl⟩)
  gi_loopw [4] (fun _ wr => ∃ pre at_, linesOf s.data.toList = pre ++ linesOn pre.length at_ (s.data.toList.drop at_) ∧ at_ ≤ s.size ∧ pre.length ≤ at_ ∧ Boxed wr W.heap.size 9 (.string s) ∧
      Boxed wr (W.heap.size + 1) 3 (.int .i64 (pre.length : Nat)) ∧ Boxed wr (W.heap.size + 1 + 1) 3 (.int .i64 at_) ∧ J pre wr)
    (fun _ wr => s.size - atOf (W.heap.size + 1 + 1) wr)
  case atStart =>
    refine ⟨[], 0, rfl, Nat.zero_le _, Nat.le_refl _, ?_, ?_, ?_, hJ.alloc _ (hJ.alloc _ (hJ.alloc _ h0))⟩
    · exact ((Boxed.new W _ _).alloc _).alloc _
    · have := (Boxed.new (W.alloc (.cells #[.string s] 9)) 3 (.int .i64 0)).alloc (.cells #[.int .i64 0] 3)
      rw [World.size_alloc] at this; exact this
    · have := Boxed.new ((W.alloc (.cells #[.string s] 9)).alloc (.cells #[.int .i64 0] 3)) 3 (.int .i64 0)
      rw [World.size_alloc, World.size_alloc] at this; exact this
  case round =>
    obtain ⟨pre, at_, hx, ha, hn, b1, b2, b3, hj⟩ := hrel
    by_cases he : at_ = s.size
    · gi_wp2_with (refine ⟨trivial, ?_⟩; gi_at_call 35; refine (callsIn_wide.2 (next_no s at_ _ _ _ _ b3 b1 he)).mono ?_; rintro e w' ⟨rfl, h2⟩)
      refine ⟨fun _ h => (by cases h), ?_⟩
      gi_wp2
      refine bodyPost_ret (results_none rfl _ _ _) rfl ⟨⟨_, rfl⟩, .inl ?_⟩
      rw [he, List.drop_of_length_le (by rw [← Lib.size_eq]; exact Nat.le_refl _), linesOn_nil, List.append_nil] at hx
      rw [hx]
      exact hJ.alloc _ (hJ _ _ _ hj (h2.turned (by omega) (by omega)))
    · have hlt : at_ < s.size := by omega
      have hne : s.data.toList.drop at_ ≠ [] := by
        intro e; have := congrArg List.length e; rw [List.length_drop, ← Lib.size_eq] at this; simp at this; omega
      rw [linesOn_cons _ _ _ hne, List.drop_drop] at hx
      have hu := used_pos _ hne
      have hul := used_le (s.data.toList.drop at_)
      rw [List.length_drop, ← Lib.size_eq] at hul
      generalize hhd : head (s.data.toList.drop at_) = hd at *
      generalize hen : nl (s.data.toList.drop at_) = en at *
      generalize hus : used (s.data.toList.drop at_) = us at *
      have N := callsIn_wide (n := 7).2 (next_yes2 s at_ pre.length _ _ _ _ b3 b1 b2 hlt (by omega) hs (by omega) (by omega) (by omega) hd en us hhd hen hus)
      have HX := Lib.hid hx
      clear hhd hen hus hx hne he
      gi_wp2_with (refine ⟨trivial, ?_⟩; gi_at_call 35; refine N.mono ?_; clear N; rintro e w' ⟨rfl, h2, h3, h4⟩)
      have hz := h2.size
      have hz3 := b3.lt
      have jw : J pre w' := hJ _ _ _ hj (h2.turned (by omega) (by omega))
      obtain ⟨fn, tmps, assign, body, hy, hR⟩ := hY pre ⟨pre.length, at_, hd, en⟩ _ (w'.alloc (.cells #[.int .i64 pre.length, .int .i64 at_, .string ⟨hd.toArray⟩, .bool en] 47)) HX.out (by simp; omega) (hJ.alloc _ jw)
      dsimp only [lineV] at hy
      rw [hy, Oper.uponIn_round]
      refine ⟨fun h => (by cases h), hR.mono ?_⟩
      clear hR hy
      rintro e W3 (⟨rfl, hJ3, hk3⟩ | ⟨rfl, hJx3⟩)
      · gi_wp2
        go_roundw
        case rel =>
          refine ⟨pre ++ [⟨pre.length, at_, hd, en⟩], at_ + us, ?_, by omega, by simp; omega, ?_, ?_, ?_, hJ3⟩
          · rw [List.append_assoc, List.singleton_append, List.length_append]; exact HX.out
          · exact (hk3.same _ (by omega) (by omega)).trans ((h2.box b1 (by omega) (by omega)).alloc _)
          · rw [List.length_append]; exact (hk3.same _ (by omega) (by omega)).trans (Boxed.alloc h3 _)
          · exact (hk3.same _ (by omega) (by omega)).trans (Boxed.alloc h4 _)
        case measure =>
          rw [atOf_eq b3, atOf_eq (B := W.heap.size + 1 + 1) (w := W3) (n := at_ + us) ((hk3.same _ (by omega) (by omega)).trans (Boxed.alloc h4 _))]
          omega
      · gi_wp2
        refine bodyPost_ret (results_none rfl _ _ _) rfl ⟨⟨_, rfl⟩, .inr ⟨_, ⟨linesOn (pre.length + 1) (at_ + us) (List.drop (at_ + us) s.data.toList), ?_⟩, hJx3⟩⟩
        rw [HX.out, List.append_assoc, List.singleton_append]
end Go.Proofs.YthblpjjocokphaaGreatDoor
/- Split, Count, and the law's fixed fact. -/
namespace Go.Proofs.YthblpjjocokphaaGreatDoor
open Go.RowKit Go.Shelf
attribute [local go_sem] Oper.semAt_some

theorem split_any (s : ByteArray) (w : World) :
    Calls Tryz.prog 10 #[.string s] w fun e w' => e = .returned (.func (.func 20) #[] #[.pointer (some ⟨w.heap.size, 0, none⟩)]) ∧ w' = w.alloc (.cells #[.string s] 9) := by
  go_enter Tryz.func10, Tryz.ntmps10
  go_wp2
  go_ret
  exact ⟨rfl, rfl⟩

theorem boxNew2 (w : World) (o : Obj) (t : TypeId) (v : Value) : Boxed ((w.alloc o).alloc (.cells #[v] t)) (w.heap.size + 1) t v := by
  have := Boxed.new (w.alloc o) t v
  rwa [World.size_alloc] at this

end Go.Proofs.YthblpjjocokphaaGreatDoor
/- beginsBlank, Key, Kind and Cut. -/
namespace Go.Proofs.YthblpjjocokphaaGreatDoor
open Go.RowKit Go.Shelf

theorem ne_of_cons {s : ByteArray} {c : UInt8} {t : List UInt8} (h : s.data.toList = c :: t) : s.toList.isEmpty = false ∧ ¬ s.toList = [] ∧ 1 ≤ s.size := by
  rw [Lib.toList_data, h]
  exact ⟨rfl, by simp, by rw [Lib.size_eq, h]; simp⟩
theorem empty_of {s : ByteArray} (h : s.data.toList = []) : s = ⟨#[]⟩ := by
  rw [← Lib.mk_data s, h]
theorem ind_blank (c : UInt8) : decide (0 ≤ Lib.indexByte [32, 9] c) = blankB c := by
  unfold blankB
  by_cases h1 : c = 32
  · subst h1; decide
  · by_cases h2 : c = 9
    · subst h2; decide
    · have a : ((32 : UInt8) == c) = false := by simp [Ne.symm h1]
      have b : ((9 : UInt8) == c) = false := by simp [Ne.symm h2]
      simp [Lib.indexByte, a, b, h1, h2]
theorem ind_has (l : List UInt8) (c : UInt8) : decide (0 ≤ Lib.indexByte l c) = l.contains c := by
  rcases indexByte_cases l c with ⟨h1, h2⟩ | ⟨h1, h2⟩
  · rw [h1]; simp [h2]
  · rw [h1]; simp [h2]
theorem pre_hash (l : List UInt8) : Lib.hasPrefix l [35] = hashB l := by
  unfold Lib.hasPrefix hashB
  cases l with
  | nil => rfl
  | cons a t => simp [List.isPrefixOf, Bool.beq_comm]
set_option maxHeartbeats 400000 in
theorem begins_no (w : World) :
    Calls Tryz.prog 39 #[.string ⟨#[]⟩] w fun e w' => e = .returned (.bool false) ∧ w = w' := by
  go_enter Tryz.func39, Tryz.ntmps39
  go_wp2
  go_ret
  exact ⟨rfl, rfl⟩
set_option maxHeartbeats 400000 in
theorem begins_yes (s : ByteArray) (c : UInt8) (t : List UInt8) (h : s.data.toList = c :: t) (hs : s.size ≤ maxLen) (w : World) :
    Calls Tryz.prog 39 #[.string s] w fun e w' => e = .returned (.bool (blankB c)) ∧ w = w' := by
  have hz : 1 ≤ s.size := by rw [Lib.size_eq, h]; simp
  have e1 : s.extract 0 1 = ⟨#[c]⟩ := by
    have := Lib.extract_data s 0 1
    rw [h] at this
    rw [← Lib.mk_data (s.extract 0 1), this]; rfl
  obtain ⟨n1, n2, n3⟩ := ne_of_cons h
  clear h
  unfold maxLen at hs
  go_enter Tryz.func39, Tryz.ntmps39
  go_wp2_with fail
  refine (Tryz.strings_Contains_one ⟨#[32, 9]⟩ c _).mono ?_
  rw [show (⟨#[32, 9]⟩ : ByteArray).data.toList = [32, 9] from rfl, ind_blank]
  rintro e w' ⟨rfl, rfl⟩
  go_wp2
  go_ret
  exact ⟨rfl, rfl⟩
theorem begins_any (s : ByteArray) (hs : s.size ≤ maxLen) (w : World) :
    Calls Tryz.prog 39 #[.string s] w fun e w' => e = .returned (.bool (beginsB s.data.toList)) ∧ w = w' := by
  cases h : s.data.toList with
  | nil => rw [empty_of h]; exact begins_no w
  | cons c t => exact begins_yes s c t h hs w
theorem has_any (s : ByteArray) (c : UInt8) (w : World) :
    Calls Tryz.prog 37 #[.string s, .string ⟨#[c]⟩] w fun e w' => e = .returned (.bool (hasB s.data.toList c)) ∧ w = w' := by
  refine (Tryz.strings_Contains_one s c _).mono ?_
  rw [ind_has]
  rintro e w' ⟨rfl, rfl⟩
  exact ⟨rfl, rfl⟩
theorem hash_any (s : ByteArray) (w : World) :
    Calls Tryz.prog 18 #[.string s, .string ⟨#[35]⟩] w fun e w' => e = .returned (.bool (hashB s.data.toList)) ∧ w = w' := by
  refine (Tryz.strings_HasPrefix s ⟨#[35]⟩ _).mono ?_
  rw [show (⟨#[35]⟩ : ByteArray).data.toList = [35] from rfl, pre_hash]
  rintro e w' ⟨rfl, rfl⟩
  exact ⟨rfl, rfl⟩
theorem trim_any (s : ByteArray) (hs : s.size ≤ 9223372036854775807) (w : World) :
    Calls Tryz.prog 38 #[.string s, .string ⟨#[32, 9]⟩] w fun e w' => e = .returned (.string ⟨(Lib.trimS s.data.toList [32, 9]).toArray⟩) ∧ Below w.heap.size w w' :=
  Any.strings_Trim_laid Tryz.lays160 (by kernel_rfl) s ⟨#[32, 9]⟩ w hs (by decide) (ascii_of_all (by decide))

set_option maxHeartbeats 1000000 in
theorem key_any (s : ByteArray) (hs : s.size ≤ maxLen) (w : World) :
    Calls Tryz.prog 40 #[.string s] w fun e w' => e = .returned (.bool (goodKey s.data.toList)) ∧ w = w' := by
  cases h : s.data.toList with
  | nil =>
    rw [empty_of h]
    go_enter Tryz.func40, Tryz.ntmps40
    go_wp2
    go_ret
    exact ⟨rfl, rfl⟩
  | cons c t =>
    rw [← h]
    obtain ⟨n1, n2, n3⟩ := ne_of_cons h
    clear h
    have n4 : 1 ≤ s.data.toList.length := by rw [← Lib.size_eq]; exact n3
    have n5 := Lib.size_eq s
    have g1 := begins_any s hs
    unfold maxLen at hs
    by_cases h1 : s.size ≤ 32
    · rw [n5] at h1
      have e1 : goodKey s.data.toList = (!beginsB s.data.toList && !hashB s.data.toList && !hasB s.data.toList 58 && !hasB s.data.toList 10) := by
        unfold goodKey; rw [decide_eq_true n4, decide_eq_true h1]; simp
      rw [e1]
      rw [← n5] at h1
      clear n5 n4 e1
      cases h2 : beginsB s.data.toList with
      | true =>
        go_enter Tryz.func40, Tryz.ntmps40
        go_wp2_with (go_at_call 39; refine (g1 _).mono ?_; rw [h2]; rintro e w1 ⟨rfl, rfl⟩)
        go_ret
        exact ⟨rfl, rfl⟩
      | false =>
        cases h3 : hashB s.data.toList with
        | true =>
          go_enter Tryz.func40, Tryz.ntmps40
          go_wp2_with (first | (go_at_call 39; refine (g1 _).mono ?_; rw [h2]; rintro e w1 ⟨rfl, rfl⟩) | (go_at_call 18; refine (hash_any _ _).mono ?_; rw [h3]; rintro e w1 ⟨rfl, rfl⟩))
          go_ret
          exact ⟨rfl, rfl⟩
        | false =>
          cases h4 : hasB s.data.toList 58 with
          | true =>
            go_enter Tryz.func40, Tryz.ntmps40
            go_wp2_with (first | (go_at_call 39; refine (g1 _).mono ?_; rw [h2]; rintro e w1 ⟨rfl, rfl⟩) | (go_at_call 18; refine (hash_any _ _).mono ?_; rw [h3]; rintro e w1 ⟨rfl, rfl⟩) | (go_at_call 37; refine (has_any _ _ _).mono ?_; rw [h4]; rintro e w1 ⟨rfl, rfl⟩))
            go_ret
            exact ⟨rfl, rfl⟩
          | false =>
            cases h5 : hasB s.data.toList 10
            all_goals
              go_enter Tryz.func40, Tryz.ntmps40
              go_wp2_with (first | (go_at_call 39; refine (g1 _).mono ?_; rw [h2]; rintro e w1 ⟨rfl, rfl⟩) | (go_at_call 18; refine (hash_any _ _).mono ?_; rw [h3]; rintro e w1 ⟨rfl, rfl⟩) | (go_at_call 37; refine (has_any _ _ _).mono ?_; (first | rw [h4] | rw [h5]); rintro e w1 ⟨rfl, rfl⟩))
              go_ret
              exact ⟨rfl, rfl⟩
    · have e1 : goodKey s.data.toList = false := by
        unfold goodKey; rw [← n5, decide_eq_false h1]; simp
      rw [e1]
      have h1' : 32 < s.size := by omega
      clear n5 n4 e1
      go_enter Tryz.func40, Tryz.ntmps40
      go_wp2
      go_ret
      exact ⟨rfl, rfl⟩
end Go.Proofs.YthblpjjocokphaaGreatDoor
/- Kind and Cut. -/
namespace Go.Proofs.YthblpjjocokphaaGreatDoor
open Go.RowKit Go.Shelf

theorem Below.drewN {B : Nat} {a w : World} (h : Below B a w) (n : Nat) : Below B a (w.drewN n) := ⟨h.os, h.tape, h.output, h.size, h.block⟩
def trimmed (s : ByteArray) : ByteArray := ⟨(Lib.trimS s.data.toList [32, 9]).toArray⟩
def preS (s : ByteArray) : ByteArray := s.extract 0 (before s.data.toList).length
def postS (s : ByteArray) : ByteArray := s.extract ((before s.data.toList).length + 1) s.size

theorem blank_contains (c : UInt8) : ([32, 9] : List UInt8).contains c = blankB c := by
  unfold blankB
  by_cases h1 : c = 32
  · subst h1; rfl
  · by_cases h2 : c = 9
    · subst h2; rfl
    · simp [h1, h2]
theorem dropWhile_nil {p : UInt8 → Bool} : ∀ {l : List UInt8}, l.dropWhile p = [] ↔ l.all p = true
  | [] => by simp
  | a :: l => by
    rw [List.dropWhile_cons]
    cases h : p a <;> simp [h, dropWhile_nil]
theorem trim_nil (l : List UInt8) : Lib.trimS l [32, 9] = [] ↔ blankAll l = true := by
  have e : (fun c => ([32, 9] : List UInt8).contains c) = blankB := funext blank_contains
  unfold Lib.trimS Lib.trimLeftS Lib.trimRightS blankAll
  rw [e, dropWhile_nil, List.all_reverse]
  constructor
  · intro h
    have h2 : (l.reverse.takeWhile blankB ++ l.reverse.dropWhile blankB).all blankB = true := by rw [List.all_append, h, List.all_takeWhile]; rfl
    rw [List.takeWhile_append_dropWhile, List.all_reverse] at h2
    exact h2
  · intro h
    have : l.reverse.dropWhile blankB = [] := dropWhile_nil.2 (by rw [List.all_reverse]; exact h)
    rw [this]; rfl
theorem trim_yes (s : ByteArray) (hs : s.size ≤ 9223372036854775807) (h : blankAll s.data.toList = true) (w : World) :
    Calls Tryz.prog 38 #[.string s, .string ⟨#[32, 9]⟩] w fun e w' => e = .returned (.string ⟨#[]⟩) ∧ Below w.heap.size w w' := by
  have := trim_any s hs w
  rwa [(trim_nil _).2 h] at this
theorem trim_no (s : ByteArray) (hs : s.size ≤ 9223372036854775807) (w : World) :
    Calls Tryz.prog 38 #[.string s, .string ⟨#[32, 9]⟩] w fun e w' => e = .returned (.string (trimmed s)) ∧ Below w.heap.size w w' := trim_any s hs w
theorem trimmed_ne (s : ByteArray) (h : blankAll s.data.toList = false) : (trimmed s).toList.isEmpty = false ∧ ¬ (trimmed s).toList = [] := by
  have : Lib.trimS s.data.toList [32, 9] ≠ [] := fun e => by rw [(trim_nil _).1 e] at h; cases h
  have e : (trimmed s).toList = Lib.trimS s.data.toList [32, 9] := by rw [Lib.toList_data]; rfl
  rw [e]
  exact ⟨by simpa using this, this⟩
theorem preS_data (s : ByteArray) : (preS s).data.toList = before s.data.toList := by
  unfold preS
  rw [Lib.extract_data, List.drop_zero, Nat.sub_zero]
  exact (List.prefix_iff_eq_take.1 (List.takeWhile_prefix _)).symm
theorem preS_size (s : ByteArray) : (preS s).size ≤ s.size := by
  rw [Lib.size_eq, preS_data, Lib.size_eq]
  exact (List.takeWhile_prefix _).length_le
theorem colon_yes (s : ByteArray) (w : World) (hs : s.size ≤ maxLen) (h : hasB s.data.toList 58 = true) :
    Calls Tryz.prog 15 #[.string s, .string ⟨#[58]⟩] w fun e w' => e = .returned (.tuple #[.string (preS s), .string (postS s), .bool true]) ∧ ∃ n, w' = w.drewN n :=
  cut_yes s 58 w hs (by unfold hasB at h; simpa using h)
theorem colon_no (s : ByteArray) (w : World) (h : hasB s.data.toList 58 = false) :
    Calls Tryz.prog 15 #[.string s, .string ⟨#[58]⟩] w fun e w' => e = .returned (.tuple #[.string s, .string ⟨#[]⟩, .bool false]) ∧ ∃ n, w' = w.drewN n :=
  cut_no s 58 w (by unfold hasB at h; simpa using h)
theorem keyPre_any (s : ByteArray) (hs : s.size ≤ maxLen) (w : World) :
    Calls Tryz.prog 40 #[.string (preS s)] w fun e w' => e = .returned (.bool (goodKey (before s.data.toList))) ∧ w = w' := by
  have := key_any (preS s) (Nat.le_trans (preS_size s) hs) w
  rwa [preS_data] at this

set_option maxHeartbeats 1000000 in
theorem kind_any (s : ByteArray) (hs : s.size ≤ maxLen) (w : World) :
    Calls Tryz.prog 22 #[.string s] w fun e w' => e = .returned (.int .i64 (kindL s.data.toList : Nat)) ∧ Below w.heap.size w w' := by
  have hs2 : s.size ≤ 9223372036854775807 := by unfold maxLen at hs; omega
  cases h1 : hasB s.data.toList 10 with
  | true =>
    have hk : kindL s.data.toList = 5 := by unfold kindL; rw [if_pos h1]
    rw [hk]; clear hk
    go_enter Tryz.func22, Tryz.ntmps22
    go_wp2_with (first | (go_at_call 37; refine (has_any _ _ _).mono ?_; rw [h1]; rintro e w1 ⟨rfl, rfl⟩))
    go_ret
    exact ⟨rfl, Below.refl _ _⟩
  | false =>
    cases h2 : blankAll s.data.toList with
    | true =>
      have hk : kindL s.data.toList = 1 := by unfold kindL; rw [h1, if_neg (by decide), if_pos h2]
      rw [hk]; clear hk
      go_enter Tryz.func22, Tryz.ntmps22
      go_wp2_with (first | (go_at_call 37; refine (has_any _ _ _).mono ?_; rw [h1]; rintro e w1 ⟨rfl, rfl⟩) | (go_at_call 38; refine (trim_yes s hs2 h2 _).mono ?_; rintro e w1 ⟨rfl, b1⟩))
      go_ret
      exact ⟨rfl, b1⟩
    | false =>
      obtain ⟨t1, t2⟩ := trimmed_ne s h2
      have B1 := begins_any s hs
      cases h3 : hashB s.data.toList with
      | true =>
        have hk : kindL s.data.toList = 2 := by unfold kindL; rw [h1, if_neg (by decide), h2, if_neg (by decide), if_pos h3]
        rw [hk]; clear hk
        go_enter Tryz.func22, Tryz.ntmps22
        go_wp2_with (first | (go_at_call 37; refine (has_any _ _ _).mono ?_; rw [h1]; rintro e w1 ⟨rfl, rfl⟩) | (go_at_call 38; refine (trim_no s hs2 _).mono ?_; rintro e w1 ⟨rfl, b1⟩) | (go_at_call 18; refine (hash_any _ _).mono ?_; rw [h3]; rintro e w2 ⟨rfl, rfl⟩))
        go_ret
        exact ⟨rfl, b1⟩
      | false =>
        cases h4 : beginsB s.data.toList with
        | true =>
          have hk : kindL s.data.toList = 3 := by unfold kindL; rw [h1, if_neg (by decide), h2, if_neg (by decide), h3, if_neg (by decide), if_pos h4]
          rw [hk]; clear hk
          go_enter Tryz.func22, Tryz.ntmps22
          go_wp2_with (first | (go_at_call 37; refine (has_any _ _ _).mono ?_; rw [h1]; rintro e w1 ⟨rfl, rfl⟩) | (go_at_call 38; refine (trim_no s hs2 _).mono ?_; rintro e w1 ⟨rfl, b1⟩) | (go_at_call 18; refine (hash_any _ _).mono ?_; rw [h3]; rintro e w2 ⟨rfl, rfl⟩) | (go_at_call 39; refine (B1 _).mono ?_; rw [h4]; rintro e w2 ⟨rfl, rfl⟩))
          go_ret
          exact ⟨rfl, b1⟩
        | false =>
          cases h5 : hasB s.data.toList 58 with
          | false =>
            have hk : kindL s.data.toList = 5 := by unfold kindL; rw [h1, if_neg (by decide), h2, if_neg (by decide), h3, if_neg (by decide), h4, if_neg (by decide), if_neg (by rw [h5]; simp)]
            rw [hk]; clear hk
            have C := fun w => colon_no s w h5
            go_enter Tryz.func22, Tryz.ntmps22
            go_wp2_with (first | (go_at_call 37; refine (has_any _ _ _).mono ?_; rw [h1]; rintro e w1 ⟨rfl, rfl⟩) | (go_at_call 38; refine (trim_no s hs2 _).mono ?_; rintro e w1 ⟨rfl, b1⟩) | (go_at_call 18; refine (hash_any _ _).mono ?_; rw [h3]; rintro e w2 ⟨rfl, rfl⟩) | (go_at_call 39; refine (B1 _).mono ?_; rw [h4]; rintro e w2 ⟨rfl, rfl⟩) | (go_at_call 15; refine (C _).mono ?_; rintro e w2 ⟨rfl, n, rfl⟩))
            go_ret
            exact ⟨rfl, Below.drewN b1 n⟩
          | true =>
            have C := fun w => colon_yes s w hs h5
            have K := keyPre_any s hs
            have hk : kindL s.data.toList = if goodKey (before s.data.toList) = true then 4 else 5 := by
              unfold kindL; rw [h1, if_neg (by decide), h2, if_neg (by decide), h3, if_neg (by decide), h4, if_neg (by decide), h5]; simp
            cases h6 : goodKey (before s.data.toList)
            all_goals
              rw [h6] at hk
              rw [hk]; clear hk
              go_enter Tryz.func22, Tryz.ntmps22
              go_wp2_with (first | (go_at_call 37; refine (has_any _ _ _).mono ?_; rw [h1]; rintro e w1 ⟨rfl, rfl⟩) | (go_at_call 38; refine (trim_no s hs2 _).mono ?_; rintro e w1 ⟨rfl, b1⟩) | (go_at_call 18; refine (hash_any _ _).mono ?_; rw [h3]; rintro e w2 ⟨rfl, rfl⟩) | (go_at_call 39; refine (B1 _).mono ?_; rw [h4]; rintro e w2 ⟨rfl, rfl⟩) | (go_at_call 15; refine (C _).mono ?_; rintro e w2 ⟨rfl, n, rfl⟩) | (go_at_call 40; refine (K _).mono ?_; rw [h6]; rintro e w3 ⟨rfl, rfl⟩))
              go_ret
              exact ⟨rfl, Below.drewN b1 n⟩
end Go.Proofs.YthblpjjocokphaaGreatDoor
/- lines.Cut (as WG, without its law's fixed fact). -/
namespace Go.Proofs.YthblpjjocokphaaGreatDoor
open Go.RowKit Go.Shelf

set_option maxHeartbeats 1000000 in
theorem cut_pair (s : ByteArray) (hs : s.size ≤ maxLen) (h : kindL s.data.toList = 4) (w : World) :
    Calls Tryz.prog 62 #[.string s] w fun e w' => e = .returned (.tuple #[.string (preS s), .string (postS s), .bool true]) ∧ Below w.heap.size w w' := by
  have h5 : hasB s.data.toList 58 = true := by
    unfold kindL at h
    split at h; · cases h
    split at h; · cases h
    split at h; · cases h
    split at h; · cases h
    split at h
    · rename_i q; exact q.1
    · cases h
  have C := fun w => colon_yes s w hs h5
  have K := kind_any s hs
  rw [h] at K
  go_enter Tryz.func62, Tryz.ntmps62
  go_wp2_with (first | (go_at_call 22; refine (K _).mono ?_; rintro e w1 ⟨rfl, b1⟩) | (go_at_call 15; refine (C _).mono ?_; rintro e w2 ⟨rfl, n, rfl⟩))
  go_ret3
  exact ⟨rfl, Below.drewN b1 n⟩
set_option maxHeartbeats 1000000 in
theorem cut_else (s : ByteArray) (hs : s.size ≤ maxLen) (h : kindL s.data.toList ≠ 4) (w : World) :
    Calls Tryz.prog 62 #[.string s] w fun e w' => e = .returned (.tuple #[.string ⟨#[]⟩, .string ⟨#[]⟩, .bool false]) ∧ Below w.heap.size w w' := by
  have K := kind_any s hs
  have e1 : ((kindL s.data.toList : Nat) : Int) ≠ 4 := by omega
  generalize kindL s.data.toList = k at *
  have e2 : ((k : Int) == 4) = false := beq_eq_false_iff_ne.2 e1
  have e3 : ((k : Int) != 4) = true := by rw [bne, e2]; rfl
  clear h e1
  go_enter Tryz.func62, Tryz.ntmps62
  go_wp2_with (first | (go_at_call 22; refine (K _).mono ?_; rintro e w1 ⟨rfl, b1⟩))
  go_ret3
  exact ⟨rfl, b1⟩
end Go.Proofs.YthblpjjocokphaaGreatDoor
/- The answers by definition: blank, Key, Cut, Kind. -/
namespace Go.Proofs.YthblpjjocokphaaGreatDoor
open Go.RowKit Go.Shelf

/-- A byte's test in the walk's spelling. -/
theorem byte_eq {c d : UInt8} (n : Int) (hn : (d.toNat : Int) = n) : ((c.toNat : Int) == n) = (c == d) := by
  by_cases h : c = d
  · subst h; simp [hn]
  · have : (c.toNat : Int) ≠ n := by intro e; apply h; apply UInt8.toNat_inj.1; omega
    rw [beq_eq_false_iff_ne.2 this]; simp [h]
theorem has_no (l : List UInt8) (c : UInt8) (k : Nat) (h : ∀ i, i < k → l[i]? ≠ some c) (hk : l.length ≤ k) : hasB l c = false := by
  unfold hasB
  cases hc : l.contains c with
  | false => rfl
  | true =>
    exfalso
    have hm : c ∈ l := by simpa using hc
    obtain ⟨i, hi, e⟩ := List.mem_iff_getElem.1 hm
    exact h i (by omega) (by rw [List.getElem?_eq_getElem hi, e])
theorem has_yes (l : List UInt8) (c : UInt8) (i : Nat) (h : l[i]? = some c) : hasB l c = true := by
  unfold hasB
  have : c ∈ l := List.mem_of_getElem? h
  simpa using this

end Go.Proofs.YthblpjjocokphaaGreatDoor
/- The answers by definition: Cut and Kind. -/
namespace Go.Proofs.YthblpjjocokphaaGreatDoor
open Go.RowKit Go.Shelf

theorem before_take (l : List UInt8) : ∀ (k : Nat), l[k]? = some 58 → (∀ j, j < k → l[j]? ≠ some 58) → (before l).length = k := by
  induction l with
  | nil => intro k h; simp at h
  | cons a t ih =>
    intro k h hn
    unfold before at ih ⊢
    cases k with
    | zero =>
      have : a = 58 := by simpa using h
      subst this; rfl
    | succ k =>
      have ha : a ≠ 58 := fun e => hn 0 (by omega) (by rw [e]; rfl)
      rw [List.takeWhile_cons, if_pos (by simpa using ha), List.length_cons, ih k (by simpa using h) (fun j hj => by have := hn (j + 1) (by omega); simpa using this)]

theorem before_lt (l : List UInt8) (h : hasB l 58 = true) : l[(before l).length]? = some 58 ∧ ∀ j, j < (before l).length → l[j]? ≠ some 58 := by
  unfold hasB at h
  have hm : (58 : UInt8) ∈ l := by simpa using h
  clear h
  unfold before
  induction l with
  | nil => cases hm
  | cons a t ih =>
    by_cases ha : a = 58
    · subst ha
      refine ⟨rfl, fun j hj => ?_⟩
      simp at hj
    · have hm' : (58 : UInt8) ∈ t := by
        rcases List.mem_cons.1 hm with h | h
        · exact absurd h.symm ha
        · exact h
      obtain ⟨h1, h2⟩ := ih hm'
      rw [List.takeWhile_cons, if_pos (by simpa using ha), List.length_cons]
      refine ⟨by simpa using h1, fun j hj => ?_⟩
      cases j with
      | zero => simpa using ha
      | succ j => have := h2 j (by omega); simpa using this

theorem blankTo_snoc (s : ByteArray) (k : Nat) (h : k < s.size) : blankAll (s.data.toList.take (k + 1)) = (blankAll (s.data.toList.take k) && blankB s[k]) := by
  unfold blankAll
  rw [List.take_succ_eq_append_getElem (by simpa using h), List.all_append]
  simp; rfl

end Go.Proofs.YthblpjjocokphaaGreatDoor
/- Kind by definition; the laws of kinds and of keys. -/
namespace Go.Proofs.YthblpjjocokphaaGreatDoor
open Go.RowKit Go.Shelf

theorem kind4 {l : List UInt8} (h : kindL l = 4) : hasB l 10 = false ∧ hasB l 58 = true ∧ goodKey (before l) = true := by
  unfold kindL at h
  split at h; · cases h
  rename_i h10
  split at h; · cases h
  split at h; · cases h
  split at h; · cases h
  split at h
  · rename_i q; exact ⟨by simpa using h10, q.1, q.2⟩
  · cases h
theorem pre_post (s : ByteArray) (h : hasB s.data.toList 58 = true) : (preS s ++ ⟨#[58]⟩) ++ postS s = s := by
  obtain ⟨b1, b2⟩ := before_lt _ h
  have e1 : ((preS s ++ ⟨#[58]⟩) ++ postS s).data.toList = s.data.toList := by
    rw [ByteArray.data_append, ByteArray.data_append, Array.toList_append, Array.toList_append, preS_data]
    have e2 : (postS s).data.toList = s.data.toList.drop ((before s.data.toList).length + 1) := by
      unfold postS
      exact Lib.extract_to_end s _
    rw [e2]
    show (before s.data.toList ++ [58]) ++ _ = _
    have e3 : before s.data.toList = s.data.toList.take (before s.data.toList).length := List.prefix_iff_eq_take.1 (List.takeWhile_prefix _)
    have hlt : (before s.data.toList).length < s.data.toList.length := by
      rcases Nat.lt_or_ge (before s.data.toList).length s.data.toList.length with q | q
      · exact q
      · rw [List.getElem?_eq_none q] at b1; cases b1
    generalize before s.data.toList = b at *
    generalize b.length = n at *
    rw [e3]
    have e4 : s.data.toList = s.data.toList.take n ++ s.data.toList.drop n := (List.take_append_drop n _).symm
    conv => rhs; rw [e4, List.drop_eq_getElem_cons hlt]
    have e5 : s.data.toList[n] = 58 := by
      rw [List.getElem?_eq_getElem hlt] at b1; exact Option.some.inj b1
    rw [e5]; simp
  rw [← Lib.mk_data ((preS s ++ ⟨#[58]⟩) ++ postS s), e1, Lib.mk_data]
end Go.Proofs.YthblpjjocokphaaGreatDoor
/- The pieces of fold: firstLine, furtherLine, Check (and Check by definition); strings.Split at line ends. -/
namespace Go.Proofs.YthblpjjocokphaaGreatDoor
open Go.RowKit Go.Shelf

theorem B_empty {l : List UInt8} (h : l ≠ []) : (B l).toList.isEmpty = false ∧ ¬ (B l).toList = [] := by
  rw [Lib.toList_data, B_data]; exact ⟨by simpa using h, h⟩
theorem mkB (l : List UInt8) : (⟨l.toArray⟩ : ByteArray) = B l := rfl
theorem pre_dot (l : List UInt8) : Lib.hasPrefix l [46] = (l.head? == some 46) := by
  unfold Lib.hasPrefix
  cases l with
  | nil => rfl
  | cons a t => simp [List.isPrefixOf, Bool.beq_comm]
theorem dot_any (l : List UInt8) (w : World) :
    Calls Tryz.prog 18 #[.string (B l), .string ⟨#[46]⟩] w fun e w' => e = .returned (.bool (l.head? == some 46)) ∧ w = w' := by
  refine (Tryz.strings_HasPrefix (B l) ⟨#[46]⟩ _).mono ?_
  rw [show (⟨#[46]⟩ : ByteArray).data.toList = [46] from rfl, pre_dot, B_data]
  rintro e w' ⟨rfl, rfl⟩
  exact ⟨rfl, rfl⟩
def fieldV (k v : List UInt8) : Value := .agg #[.string (B k), .string (B v)]
attribute [local go_sem] errV_0 errV_5 errV_6
set_option maxHeartbeats 1000000 in
theorem check_any (k v : List UInt8) (hk : k.length ≤ 1000000) (hv : v.length ≤ 1000000) (w : World) :
    Calls Tryz.prog 43 #[fieldV k v] w fun e w' => e = .returned (errV (checkN k v)) ∧ Below w.heap.size w w' := by
  have K := fun w => key_any (B k) (by rw [B_size]; unfold maxLen; omega) w
  rw [B_data] at K
  have hz := B_size v
  unfold checkN fieldV
  generalize B k = s at *
  cases hg : goodKey k with
  | false =>
    rw [hg] at K
    generalize B v = t at *
    go_enter Tryz.func43, Tryz.ntmps43
    go_wp2_with (go_at_call 40; refine (K _).mono ?_; rintro e w1 ⟨rfl, rfl⟩)
    go_ret
    exact ⟨rfl, (Below.refl _ _).alloc (Nat.le_refl _) _⟩
  | true =>
    rw [hg] at K
    by_cases h : v.length ≤ 1000
    · rw [if_pos rfl, if_pos h]
      rw [← hz] at h
      generalize B v = t at *
      go_enter Tryz.func43, Tryz.ntmps43
      go_wp2_with (go_at_call 40; refine (K _).mono ?_; rintro e w1 ⟨rfl, rfl⟩)
      go_ret
      exact ⟨rfl, (Below.refl _ _).alloc (Nat.le_refl _) _⟩
    · rw [if_pos rfl, if_neg h]
      rw [← hz] at h
      generalize B v = t at *
      go_enter Tryz.func43, Tryz.ntmps43
      go_wp2_with (go_at_call 40; refine (K _).mono ?_; rintro e w1 ⟨rfl, rfl⟩)
      go_ret
      exact ⟨rfl, (Below.refl _ _).alloc (Nat.le_refl _) _⟩
theorem parts_first (l : List UInt8) (h : (10 : UInt8) ∈ l) : partsL l = l.take (l.takeWhile (· != 10)).length :: partsL (l.drop ((l.takeWhile (· != 10)).length + 1)) := by
  have e : l = l.takeWhile (· != 10) ++ 10 :: l.drop ((l.takeWhile (· != 10)).length + 1) := by
    have a := head_split l
    unfold head nl used at a
    have hc : l.contains 10 = true := by simpa using h
    unfold head nl at a
    rw [if_pos hc, if_pos hc] at a
    simpa using a
  have hp : (10 : UInt8) ∉ l.takeWhile (· != 10) := fun hm => by have := List.all_eq_true.1 (List.all_takeWhile (l := l) (p := (· != 10))) _ hm; simp at this
  have ht : l.take (l.takeWhile (· != 10)).length = l.takeWhile (· != 10) := (List.prefix_iff_eq_take.1 (List.takeWhile_prefix _)).symm
  rw [ht]
  conv => lhs; rw [e]
  exact partsL_pre _ _ hp
theorem splitK_parts : ∀ (k : Nat) (l : List UInt8), l.count 10 = k → Lib.splitK [10] 0 k l = partsL l
  | 0, l, h => by
    have : (10 : UInt8) ∉ l := List.count_eq_zero.1 h
    rw [partsL_one l this]; rfl
  | k + 1, l, h => by
    have hm : (10 : UInt8) ∈ l := List.count_pos_iff.1 (by omega)
    have hp := parts_first l hm
    have hl := partsL_len l
    rcases indexByte_cases l 10 with ⟨_, h2⟩ | ⟨h1, _⟩
    · exact absurd hm h2
    · unfold Lib.splitK
      rw [Lib.index_one, h1]
      rw [hp] at hl
      have hl2 := partsL_len (l.drop ((l.takeWhile (· != 10)).length + 1))
      rw [if_neg (by simp <;> omega), hp]
      simp only [Int.toNat_natCast, Nat.add_zero, List.length_singleton]
      rw [splitK_parts k _ (by simp only [List.length_cons] at hl; omega)]
theorem split_pieces (l : List UInt8) : Lib.splitB ⟨#[10]⟩ 0 (Lib.countB (B l) ⟨#[10]⟩) (B l) = (partsL l).map B ∧ Lib.countB (B l) ⟨#[10]⟩ + 1 = (partsL l).length := by
  have hc : Lib.countB (B l) ⟨#[10]⟩ = l.count 10 := by
    show Lib.count (B l).data.toList [10] = _
    rw [Lib.count_one, B_data]
  have h := Lib.splitB_data ⟨#[10]⟩ 0 (Lib.countB (B l) ⟨#[10]⟩) (B l)
  rw [B_data, hc] at h
  rw [hc]
  refine ⟨?_, (partsL_len l).symm⟩
  have h2 : Lib.splitK (⟨#[10]⟩ : ByteArray).data.toList 0 (l.count 10) l = partsL l := splitK_parts _ l rfl
  rw [h2] at h
  rw [← h, List.map_map]
  conv => lhs; rw [← List.map_id (Lib.splitB ⟨#[10]⟩ 0 (l.count 10) (B l))]
  exact List.map_congr_left fun s _ => (B_of s).symm
theorem fieldInfo : (Tryz.prog.info? 9).map (fun i => (i.zero, i.size, i.bytes)) = some (some (.string ByteArray.empty), 1, 16) := by kernel_rfl
end Go.Proofs.YthblpjjocokphaaGreatDoor
/- A field's lines. -/
namespace Go.Proofs.YthblpjjocokphaaGreatDoor
open Go.RowKit Go.Shelf

theorem own_kept {w w' : World} {base N : Nat} {e : TypeId} {size : Nat} {v : Value} {n : Nat} {xs : List Value} (h : w.ownsRow base e size v n xs) (hb : Below N w w') (hN : w.heap.size ≤ N) : w'.ownsRow base e size v n xs := by
  refine ⟨h.1, ?_⟩
  rcases h.2 with hn | ⟨g, cap, cur, hv, hg, hc, rest⟩
  · exact .inl hn
  · refine .inr ⟨g, cap, cur, hv, hg, ?_, rest⟩
    have : g < w.heap.size := (Array.getElem?_eq_some_iff.1 hc).1
    exact (hb.block g (by omega)).trans hc
/-- An owned row of texts. -/
def OwnS (w : World) (base : Nat) (v : Value) (ss : List ByteArray) : Prop := w.ownsRow base 9 1 v ss.length (ss.map Value.string)
theorem OwnS.kept {w w' : World} {base N : Nat} {v : Value} {ss : List ByteArray} (h : OwnS w base v ss) (hb : Below N w w') (hN : w.heap.size ≤ N) : OwnS w' base v ss := own_kept h hb hN
theorem OwnS.strs {w : World} {base : Nat} {v : Value} {ss : List ByteArray} (h : OwnS w base v ss) : Strs w v ss := by
  rcases Joins.ownsRow_forms h with ⟨rfl, hn⟩ | ⟨g, cap, rfl⟩
  · have : ss = [] := by cases ss with | nil => rfl | cons _ _ => simp at hn
    subst this
    exact Strs.none _ _
  · refine ⟨_, cap, rfl, (by rcases h.2 with ⟨q, _⟩ | ⟨g', cap', cur, q, _, _, q2, _⟩; cases q; cases q; exact q2), fun i s hs => ⟨g, 0, rfl, (World.ownsRow.lt h g rfl).2, ?_⟩⟩
    have hi : i < ss.length := by
      rcases Nat.lt_or_ge i ss.length with q | q
      · exact q
      · rw [List.getElem?_eq_none q] at hs; cases hs
    rw [Nat.zero_add, World.ownsRow.cellAt h i (by omega), List.getElem?_map, hs]; rfl
theorem OwnS.one (w : World) (base : Nat) (hb : base ≤ w.heap.size) (s : ByteArray) : OwnS (w.alloc (.cells #[.string s] 9)) base (.slice (some ⟨w.heap.size, 0, none⟩) 1 1) [s] :=
  World.ownsRow_lit w #[.string s] 1 hb (by decide) rfl
theorem strCell (W : World) (x : ByteArray) (t : TypeId) : ∀ (j : Nat) u, [Value.string x][j]? = some u → (W.alloc (.cells #[.string x] t)).cell? ((⟨W.heap.size, 0, none⟩ : Addr).add j) = some u := by
  intro j u h
  have hadd : (⟨W.heap.size, 0, none⟩ : Addr).add j = ⟨W.heap.size, j, none⟩ := by unfold Addr.add; split <;> simp_all
  rw [hadd, World.cell?_alloc_at _ _ _ _ rfl]
  match j, h with
  | 0, h => simpa using h
theorem linesLen {k v : List UInt8} {p : List UInt8} {r : List (List UInt8)} (h : partsL v = p :: r) : linesL k v = firstL k p :: r.map furtherL := by unfold linesL; rw [h]; rfl
theorem le_sum : ∀ (r : List (List UInt8)) (q : List UInt8), q ∈ r → q.length ≤ (r.map List.length).sum
  | [], q, h => by simp at h
  | a :: r, q, h => by
    rcases List.mem_cons.1 h with rfl | h
    · simp
    · have := le_sum r q h; simp; omega
theorem piece_le {v p : List UInt8} {r : List (List UInt8)} (h : partsL v = p :: r) : p.length ≤ v.length ∧ (∀ q ∈ r, q.length ≤ v.length) ∧ r.length ≤ v.length := by
  have a := parts_le v
  rw [h] at a
  simp only [List.map_cons, List.sum_cons, List.length_cons] at a
  refine ⟨by omega, fun q hq => ?_, by omega⟩
  have : q.length ≤ (r.map List.length).sum := le_sum _ _ hq
  omega

attribute [local go_sem] errV_0
end Go.Proofs.YthblpjjocokphaaGreatDoor
/- A good field's lines. -/
namespace Go.Proofs.YthblpjjocokphaaGreatDoor
open Go.RowKit Go.Shelf

attribute [local go_sem] errV_0
theorem infoStr : (Tryz.prog.info? 9).map (fun i => (i.zero, i.size, i.bytes)) = some (some (.string ⟨#[]⟩), 1, 16) := by kernel_rfl
end Go.Proofs.YthblpjjocokphaaGreatDoor
/- Whether lines say a field, and what they say. -/
namespace Go.Proofs.YthblpjjocokphaaGreatDoor
open Go.RowKit Go.Shelf

def sayG (want : Nat) : List (List UInt8) → Bool
  | [] => true
  | a :: r => (kindL a == want) && sayG 3 r
theorem sayG_all : ∀ r : List (List UInt8), sayG 3 r = r.all (fun l => kindL l == 3)
  | [] => rfl
  | a :: r => by unfold sayG; rw [sayG_all r, List.all_cons]
theorem sayF_eq (ls : List (List UInt8)) : sayF ls = (decide (0 < ls.length) && sayG 4 ls) := by
  cases ls with
  | nil => rfl
  | cons a r => unfold sayF sayG; rw [sayG_all]; simp
theorem sayG_drop (ls : List (List UInt8)) (k want : Nat) (x : List UInt8) (h : ls[k]? = some x) : sayG want (ls.drop k) = ((kindL x == want) && sayG 3 (ls.drop (k + 1))) := by
  have hk : k < ls.length := by
    rcases Nat.lt_or_ge k ls.length with q | q
    · exact q
    · rw [List.getElem?_eq_none q] at h; cases h
  rw [List.drop_eq_getElem_cons hk]
  rw [List.getElem?_eq_getElem hk] at h
  rw [Option.some.inj h]; rfl
theorem kindL_le (l : List UInt8) : kindL l ≤ 5 := by
  unfold kindL
  split; · decide
  split; · decide
  split; · decide
  split; · decide
  split <;> decide
theorem cellB {w : World} {A : Option Addr} {ls : List (List UInt8)} (hc : ∀ (i : Nat) (s : ByteArray), (ls.map B)[i]? = some s → ∃ b off, A = some ⟨b, off, none⟩ ∧ b < w.heap.size ∧ w.cell? ⟨b, off + i, none⟩ = some (.string s)) :
    ∀ (i : Nat) (x : List UInt8), ls[i]? = some x → ∃ b off, A = some ⟨b, off, none⟩ ∧ b < w.heap.size ∧ w.cell? ⟨b, off + i, none⟩ = some (.string (B x)) :=
  fun i x hx => hc i (B x) (by rw [List.getElem?_map, hx]; rfl)

set_option maxHeartbeats 1000000 in
theorem say_any (ls : List (List UInt8)) (v : Value) (w : World) (hs : Strs w v (ls.map B)) (hl : ∀ l ∈ ls, l.length ≤ 100000) (hn : ls.length ≤ 100000) :
    Calls Tryz.prog 41 #[v] w fun e w' => e = .returned (.bool (sayF ls)) ∧ Below w.heap.size w w' := by
  obtain ⟨A, cap, rfl, hle, hc⟩ := hs
  have hcb := cellB hc
  have PC := Lib.hid hcb
  have HF := Lib.hid (sayF_eq ls)
  clear hc hcb
  rw [List.length_map]
  go_enter Tryz.func41, Tryz.ntmps41
  go_wp2_with fail
  go_loopw [3, 8] (fun v3 i wr => ∃ k want : Nat, k ≤ ls.length ∧ want ≤ 5 ∧ i = .int .i64 k ∧ v3 = .int .i64 want ∧ sayG 4 ls = sayG want (ls.drop k) ∧ Below w.heap.size w wr) (fun _ i _ => ls.length - (intOf i).toNat)
  case atStart => exact ⟨0, 4, Nat.zero_le _, by decide, rfl, rfl, rfl, Below.refl _ _⟩
  case round =>
    obtain ⟨k, want, hk, hwt, rfl, rfl, hG, hb⟩ := hrel
    by_cases hlt : k < ls.length
    · obtain ⟨x, hx⟩ : ∃ x, ls[k]? = some x := ⟨_, List.getElem?_eq_getElem hlt⟩
      obtain ⟨b, off, rfl, hbb, hcell⟩ := PC.out k x hx
      have hcx := (hb.cell (p := ⟨b, off + k, none⟩) hbb).trans hcell
      have hxl := hl x (List.mem_of_getElem? hx)
      have KX := fun w => kind_any (B x) (by rw [B_size]; unfold maxLen; omega) w
      rw [B_data] at KX
      rw [sayG_drop ls k want x hx] at hG
      have GH := Lib.hid hG
      have hk5 := kindL_le x
      clear hx hcell hG
      generalize kindL x = kx at *
      go_wp2_with fail
      refine (KX _).mono ?_
      rintro e w1 ⟨rfl, b1⟩
      by_cases hkx : kx = want
      · subst hkx
        go_wp2_with fail
        go_roundw
        case rel => exact ⟨k + 1, 3, hlt, by decide, by go_num, rfl, by rw [GH.out]; simp, hb.trans (b1.mono hb.size)⟩
        case measure => simp [intOf]; omega
      · have e1 : ((kx : Int) == (want : Int)) = false := by rw [beq_eq_false_iff_ne]; omega
        have e2 : ((kx : Int) != (want : Int)) = true := by rw [bne, e1]; rfl
        have e3 : (kx == want) = false := by rw [beq_eq_false_iff_ne]; exact hkx
        rw [e3] at GH
        clear hkx e3
        go_wp2_with fail
        go_ret
        exact ⟨by rw [HF.out, GH.out]; simp, hb.trans (b1.mono hb.size)⟩
    · obtain rfl : k = ls.length := by omega
      rw [List.drop_length] at hG
      have GH := Lib.hid hG
      clear hG
      go_wp2_with fail
      go_ret
      exact ⟨by rw [HF.out, GH.out]; simp [sayG], hb⟩
theorem trim_sp (l : List UInt8) (w : World) :
    Calls Tryz.prog 16 #[.string (B l), .string ⟨#[32]⟩] w fun e w' => e = .returned (.string (B (dropSp l))) ∧ w = w' := by
  refine (Tryz.strings_TrimPrefix (B l) ⟨#[32]⟩ _).mono ?_
  rintro e w' ⟨rfl, rfl⟩
  refine ⟨?_, rfl⟩
  rw [B_data, show (⟨#[32]⟩ : ByteArray).data.toList = [32] from rfl]
  unfold Lib.trimPrefix Lib.hasPrefix dropSp B
  cases l with
  | nil => rfl
  | cons a t =>
    by_cases h : a = 32
    · subst h; simp [List.isPrefixOf]
    · have h2 : ((32 : UInt8) == a) = false := by rw [beq_eq_false_iff_ne]; exact Ne.symm h
      simp [List.isPrefixOf, h2, h]
theorem trim_dot (l : List UInt8) (w : World) :
    Calls Tryz.prog 16 #[.string (B l), .string ⟨#[46]⟩] w fun e w' => e = .returned (.string (B (dropDot l))) ∧ w = w' := by
  refine (Tryz.strings_TrimPrefix (B l) ⟨#[46]⟩ _).mono ?_
  rintro e w' ⟨rfl, rfl⟩
  refine ⟨?_, rfl⟩
  rw [B_data, show (⟨#[46]⟩ : ByteArray).data.toList = [46] from rfl]
  unfold Lib.trimPrefix Lib.hasPrefix dropDot B
  cases l with
  | nil => rfl
  | cons a t =>
    by_cases h : a = 46
    · subst h; simp [List.isPrefixOf]
    · have h2 : ((46 : UInt8) == a) = false := by rw [beq_eq_false_iff_ne]; exact Ne.symm h
      simp [List.isPrefixOf, h2, h]
theorem joinNl_eq : ∀ ls : List (List UInt8), Lib.join ls [10] = joinNl ls
  | [] => rfl
  | [p] => by simp [Lib.join, List.intercalate, joinNl]
  | p :: q :: r => by
    have ih := joinNl_eq (q :: r)
    unfold Lib.join at ih ⊢
    show _ = p ++ 10 :: joinNl (q :: r)
    rw [← ih]
    simp [List.intercalate, List.intersperse]
theorem pre_B (a : List UInt8) : preS (B a) = B (before a) := by
  rw [← B_of (preS (B a)), preS_data, B_data]
theorem post_B (a : List UInt8) : postS (B a) = B (afterC a) := by
  rw [← B_of (postS (B a))]
  unfold postS afterC
  rw [Lib.extract_to_end, B_data]
theorem kind3 {x : List UInt8} (h : kindL x = 3) : ∃ c d t, x = c :: d :: t := by
  unfold kindL at h
  split at h; · cases h
  split at h; · cases h
  rename_i hb
  split at h; · cases h
  split at h
  · rename_i hg
    cases x with
    | nil => cases hg
    | cons c t =>
      cases t with
      | nil =>
        exfalso; apply hb
        have : blankB c = true := hg
        simp [blankAll, this]
      | cons d t => exact ⟨c, d, t, rfl⟩
  · split at h <;> cases h
theorem tail_B (c : UInt8) (t : List UInt8) : (B (c :: t)).extract 1 (B (c :: t)).size = B t := by
  rw [← B_of ((B (c :: t)).extract 1 _), Lib.extract_to_end, B_data]; rfl
end Go.Proofs.YthblpjjocokphaaGreatDoor
/- What lines of a field say. -/
namespace Go.Proofs.YthblpjjocokphaaGreatDoor
open Go.RowKit Go.Shelf

theorem results_cell1 {fn : Func} {p : Tmp} {ty : TypeId} (h : fn.results = #[.cell p ty]) (tmps : Array Value) (P : Program) (w : World) :
    (results fn tmps).run P w = ((asAddr (tmps.getD p undef)).run P w).andThen fun a w₁ => (loadVar ty a).run P w₁ := by
  simp only [results, h]
  simp [Sem.run_bind, Result.andThen]
set_option maxRecDepth 100000 in
theorem ret_f1 {fn : Func} {p : Tmp} (h : fn.results = #[.cell p 69]) (tmps : Array Value) (w : World) (b : Nat) (cur : Array Value) (hp : tmps.getD p undef = .pointer (some ⟨b, 0, none⟩))
    (hc : Cells w b 69 cur) (hz : cur.size = 2) : (results fn tmps).run Tryz.prog w = .ok (.agg cur) w := by
  have L := run_loadVar_row (P := Tryz.prog) w b 69 69 cur (0, 0) _ hc Tryz.underlying69 rfl (by rw [hz]; kernel_rfl)
  rw [results_cell1 h, hp]
  show (loadVar _ _).run _ _ = _
  exact L
set_option maxRecDepth 100000 in
theorem ret_f2 {fn : Func} {p u : Tmp} (h : fn.results = #[.cell p 69, .tmp u]) (tmps : Array Value) (w : World) (b : Nat) (cur : Array Value) (hp : tmps.getD p undef = .pointer (some ⟨b, 0, none⟩))
    (hc : Cells w b 69 cur) (hz : cur.size = 2) : (results fn tmps).run Tryz.prog w = .ok (.tuple #[.agg cur, tmps.getD u undef]) w := by
  have L := run_loadVar_row (P := Tryz.prog) w b 69 69 cur (0, 0) _ hc Tryz.underlying69 rfl (by rw [hz]; kernel_rfl)
  rw [results_cell_tmp h, hp]
  show ((loadVar _ _).run _ _).andThen _ = _
  rw [L]; rfl
theorem cells_kept {w w' : World} {b N : Nat} {t : TypeId} {cur : Array Value} (h : Cells w b t cur) (hb : Below N w w') (hN : b < N) : Cells w' b t cur := (hb.block b hN).trans h
theorem set2 (c0 c1 v0 v1 : Value) : ((#[c0, c1].setIfInBounds 0 v0).setIfInBounds 1 v1) = #[v0, v1] := by
  simp [List.setIfInBounds_toArray, List.set]

set_option maxRecDepth 100000 in
set_option maxHeartbeats 2000000 in
theorem said_any (a : List UInt8) (r : List (List UInt8)) (v : Value) (w : World) (hs : Strs w v ((a :: r).map B)) (ha : a.length ≤ 100000) (hr : ∀ l ∈ r, l.length ≤ 100000 ∧ kindL l = 3) (hka : kindL a = 4) (hn : r.length ≤ 100000)
    (hj : (saidV (a :: r)).length ≤ 100000000) :
    Calls Tryz.prog 42 #[v] w fun e w' => e = .returned (fieldV (before a) (saidV (a :: r))) ∧ Below w.heap.size w w' := by
  obtain ⟨A, cap, rfl, hle, hc⟩ := hs
  have hcb := cellB hc
  obtain ⟨b, off, rfl, hbb, hca⟩ := hcb 0 a rfl
  have PC := Lib.hid (fun (j : Nat) x (hx : r[j]? = some x) => (show w.cell? ⟨b, off + (j + 1), none⟩ = some (.string (B x)) by
    obtain ⟨b', off', e, _, h⟩ := hcb (j + 1) x (by simpa using hx)
    cases e; exact h))
  clear hc hcb
  rw [List.length_map, List.length_cons] at hle ⊢
  have CP := fun w => cut_pair (B a) (by rw [B_size]; unfold maxLen; omega) (by rw [B_data]; exact hka) w
  rw [pre_B, post_B] at CP
  have TS := fun w => trim_sp (afterC a) w
  have HS : Hid (saidP (a :: r) = dropSp (afterC a) :: r.map (fun l => dropDot l.tail)) := rfl
  have HJ : Hid (Lib.join (((dropSp (afterC a) :: r.map (fun l => dropDot l.tail)).map B).map (·.data.toList)) [10] = saidV (a :: r)) := by
    show _ = _
    unfold saidV
    rw [← joinNl_eq, HS.out, List.map_map]
    congr 1
    conv => rhs; rw [← List.map_id (dropSp (afterC a) :: r.map (fun l => dropDot l.tail))]
    exact List.map_congr_left fun l _ => B_data l
  generalize dropSp (afterC a) = p0 at *
  generalize afterC a = ac at *
  obtain ⟨i0, hi, hz0, hz1, hz2⟩ := info_parts infoStr
  rw [Nat.add_zero] at hca
  go_enter Tryz.func42, Tryz.ntmps42
  go_wp2_with fail
  refine (CP _).mono ?_
  rintro e w1 ⟨rfl, b1⟩
  go_wp2_with fail
  refine (TS _).mono ?_
  rintro e w2 ⟨rfl, rfl⟩
  have RB : Cells w1 w.heap.size 69 #[.string ⟨#[]⟩, .string ⟨#[]⟩] := cells_kept (Cells.new w _ _) b1 (by simp)
  have hb1 : Below w.heap.size w w1 := ((Below.refl _ _).alloc (Nat.le_refl _) _).trans (b1.mono (by simp))
  have PC1 := Lib.hid (fun (j : Nat) x (hx : r[j]? = some x) => (hb1.cell (p := ⟨b, off + (j + 1), none⟩) hbb).trans (PC.out j x hx))
  have hs1 := b1.size
  simp only [World.size_alloc] at hs1
  have hb1lt : b < w1.heap.size := by omega
  have BW := Lib.hid hb1
  clear b1 PC hca hb1 CP TS
  have hw1 := BW.out.size
  go_wp2_with fail
  all_goals
    go_loopw [6, 23] (fun v6 i wr => ∃ (k : Nat), k ≤ r.length ∧ i = .int .i64 k ∧ OwnS wr w1.heap.size v6 ((p0 :: (r.take k).map (fun l => dropDot l.tail)).map B) ∧ Below w1.heap.size w1 wr) (fun _ i _ => r.length - (intOf i).toNat)
    case atStart => exact ⟨0, Nat.zero_le _, rfl, OwnS.one w1 _ (Nat.le_refl _) _, (Below.refl _ _).alloc (Nat.le_refl _) _⟩
    case round =>
      obtain ⟨k, hkr, rfl, hown, hb⟩ := hrel
      by_cases hkl : k < r.length
      · first
        | (exfalso; omega)
        | (obtain ⟨x, hx⟩ : ∃ x, r[k]? = some x := ⟨_, List.getElem?_eq_getElem hkl⟩
           have hcx := PC1.out k x hx
           have hcx2 := (hb.cell (p := ⟨b, off + (k + 1), none⟩) hb1lt).trans hcx
           rw [show off + (k + 1) = off + 1 + k by omega] at hcx2
           obtain ⟨hxl, hx3⟩ := hr x (List.mem_of_getElem? hx)
           obtain ⟨c, d, t, rfl⟩ := kind3 hx3
           have TK : Hid ((p0 :: (r.take (k + 1)).map (fun l => dropDot l.tail)).map B = (p0 :: (r.take k).map (fun l => dropDot l.tail)).map B ++ [B (dropDot (d :: t))]) := by
             show _ = _
             rw [List.take_add_one, hx]; simp
           have TD := fun w => trim_dot (d :: t) w
           have hll : ((p0 :: (r.take k).map (fun l => dropDot l.tail)).map B).length = k + 1 := by simp; omega
           have HLL := Lib.hid hll
           have hsz : (B (c :: d :: t)).size = t.length + 2 := by rw [B_size]; rfl
           have hex := tail_B c (d :: t)
           rw [hsz] at hex
           clear hx hcx hx3
           generalize (p0 :: (r.take k).map (fun l => dropDot l.tail)).map B = ls at *
           generalize dropDot (d :: t) = y at *
           generalize B (c :: d :: t) = X at *
           generalize B (d :: t) = Y at *
           go_wp2_with fail
           refine (TD _).mono ?_
           rintro e w4 ⟨rfl, rfl⟩
           have hs3 := hb.size
           have HC := Lib.hid (strCell wr (B y) 9)
           have hown4 : wr.ownsRow w1.heap.size 9 1 u6 ls.length (ls.map Value.string) := hown
           clear hown
           go_wp2_with (at_builtin; refine wpList_append_own _ rfl _ _ 38 rfl w1.heap.size 9 i0 _ 1 16 Tryz.underlying38 hi hz0 hz1 hz2 rfl (by decide) _ _ _ rfl (hown4.alloc _) ⟨wr.heap.size, 0, none⟩ 1 1 _ rfl rfl HC.out ?c2 ?c3 ?c4 ?c5 ?_)
           case c2 => intro u hu; simp at hu; subst hu; rfl
           case c3 => unfold maxLen; omega
           case c4 => omega
           case c5 => simp; omega
           intro v' w5 hown' hgrow _
           obtain ⟨g', cap', rfl⟩ := ownsRow_succ hown'
           have hb5 : Below w1.heap.size w1 w5 := (hb.alloc (by omega) _).grown hgrow (by simp; omega) (fun j ej => (hown4.lt j ej).1)
           go_wp2_with fail
           go_roundw
           case rel =>
             refine ⟨k + 1, hkl, by go_num, ?_, hb5⟩
             rw [TK.out]
             unfold OwnS
             rw [List.length_append, List.map_append, HLL.out]; exact hown'
           case measure => simp [intOf]; omega)
      · obtain rfl : k = r.length := by omega
        rw [List.take_length] at hown
        obtain ⟨g, cap', e⟩ := Joins.ownsRow_form hown (by simp)
        subst e
        have hst := hown.strs
        obtain ⟨A', cap2, e, hle2, hc2⟩ := hst
        cases e
        have RBr := cells_kept RB hb (by omega)
        have JN := Tryz.strings_Join g 0 cap' _ ⟨#[10]⟩ wr (fun j x hx => by obtain ⟨b', o', e, _, h⟩ := hc2 j x hx; cases e; exact h) (by obtain ⟨b', o', e, h, _⟩ := hc2 0 _ rfl; cases e; exact h) (by simp; omega) hle2 (by show (Lib.join _ [10]).length ≤ _; rw [HJ.out]; omega)
        rw [show (⟨#[10]⟩ : ByteArray).data.toList = [10] from rfl, HJ.out] at JN
        simp only [List.length_map, List.length_cons] at JN ⊢
        have hbw := hb.size
        have hbA := BW.out.trans (hb.mono hw1)
        clear hown hc2 hle2 HJ
        go_wp2_with fail
        refine JN.mono ?_
        rintro e w5 ⟨rfl, b5⟩
        have R5 := cells_kept RBr b5 (by omega)
        have c0 := R5.cell 0
        have c1 := R5.cell 1
        have f0 := R5.frozen 0
        have f1 := R5.frozen 1
        have hb5 := hbA.trans (b5.mono (by omega))
        simp only [List.getElem?_toArray, List.getElem?_cons_zero, List.getElem?_cons_succ] at c0 c1
        rw [mkB]
        have RE := (R5.set 0 (.string (B (before a)))).set 1 (.string (B (saidV (a :: r))))
        rw [set2] at RE
        go_wp2_with fail
        refine bodyPost_ret (ret_f1 rfl _ _ w.heap.size _ rfl RE rfl) rfl ?_
        exact ⟨rfl, (hb5.setCell (Nat.le_refl _) _).setCell (Nat.le_refl _) _⟩
end Go.Proofs.YthblpjjocokphaaGreatDoor
/- Unfold. -/
namespace Go.Proofs.YthblpjjocokphaaGreatDoor
open Go.RowKit Go.Shelf

attribute [local go_sem] errV_0 errV_2 errV_6
theorem sayF_parts {ls : List (List UInt8)} (h : sayF ls = true) : ∃ a r, ls = a :: r ∧ kindL a = 4 ∧ ∀ l ∈ r, kindL l = 3 := by
  cases ls with
  | nil => cases h
  | cons a r =>
    refine ⟨a, r, rfl, ?_⟩
    unfold sayF at h
    simp only [Bool.and_eq_true, beq_iff_eq, List.all_eq_true] at h
    exact h
theorem unfold_no {ls : List (List UInt8)} (h : sayF ls = false) : unfoldN ls = 2 ∧ unfoldK ls = [] ∧ unfoldV ls = [] := by
  have e : unfoldN ls = 2 := by unfold unfoldN; rw [h]; rfl
  exact ⟨e, by unfold unfoldK; rw [e]; rfl, by unfold unfoldV; rw [e]; rfl⟩
theorem unfold_long {ls : List (List UInt8)} (h : sayF ls = true) (hl : ¬ (saidV ls).length ≤ 1000) : unfoldN ls = 6 ∧ unfoldK ls = [] ∧ unfoldV ls = [] := by
  have e : unfoldN ls = 6 := by unfold unfoldN; rw [h, if_pos rfl, if_neg hl]
  exact ⟨e, by unfold unfoldK; rw [e]; rfl, by unfold unfoldV; rw [e]; rfl⟩
theorem unfold_yes {a : List UInt8} {r : List (List UInt8)} (h : sayF (a :: r) = true) (hl : (saidV (a :: r)).length ≤ 1000) : unfoldN (a :: r) = 0 ∧ unfoldK (a :: r) = before a ∧ unfoldV (a :: r) = saidV (a :: r) := by
  have e : unfoldN (a :: r) = 0 := by unfold unfoldN; rw [h, if_pos rfl, if_pos hl]
  exact ⟨e, by unfold unfoldK; rw [e]; rfl, by unfold unfoldV; rw [e]; rfl⟩
theorem before_len (a : List UInt8) : (before a).length ≤ a.length := (List.takeWhile_prefix _).length_le

set_option maxRecDepth 100000 in
set_option maxHeartbeats 2000000 in
theorem unfold_any (ls : List (List UInt8)) (v : Value) (w : World) (hs : Strs w v (ls.map B)) (hl : ∀ l ∈ ls, l.length ≤ 100000) (hn : ls.length ≤ 100000) (hj : (saidV ls).length ≤ 1000000) :
    Calls Tryz.prog 27 #[v] w fun e w' => e = .returned (.tuple #[fieldV (unfoldK ls) (unfoldV ls), errV (unfoldN ls)]) ∧ Below w.heap.size w w' := by
  have ST := Lib.hid (fun (o : Obj) => (hs.alloc o))
  cases hF : sayF ls with
  | false =>
    obtain ⟨e1, e2, e3⟩ := unfold_no hF
    rw [e1, e2, e3]
    unfold fieldV
    go_enter Tryz.func27, Tryz.ntmps27
    go_wp2_with fail
    refine (say_any ls v _ (ST.out _) hl hn).mono ?_
    rw [hF]
    rintro e w1 ⟨rfl, b1⟩
    have R1 := cells_kept (Cells.new w 69 #[.string ⟨#[]⟩, .string ⟨#[]⟩]) b1 (by simp)
    have c0 := R1.cell 0
    have c1 := R1.cell 1
    have f0 := R1.frozen 0
    have f1 := R1.frozen 1
    have hb1 : Below w.heap.size w w1 := ((Below.refl _ _).alloc (Nat.le_refl _) _).trans (b1.mono (by simp))
    simp only [List.getElem?_toArray, List.getElem?_cons_zero, List.getElem?_cons_succ] at c0 c1
    have RE := (R1.set 0 (.string ⟨#[]⟩)).set 1 (.string ⟨#[]⟩)
    rw [set2] at RE
    clear b1 ST
    go_wp2_with fail
    refine bodyPost_ret (ret_f2 rfl _ _ w.heap.size _ rfl RE rfl) rfl ?_
    exact ⟨rfl, (hb1.setCell (Nat.le_refl _) _).setCell (Nat.le_refl _) _⟩
  | true =>
    obtain ⟨a, r, rfl, hka, hkr⟩ := sayF_parts hF
    have hg : goodKey (before a) = true := (kind4 hka).2.2
    have hal := hl a (by simp)
    have hbl := before_len a
    have SD := fun w' (h : Strs w' v ((a :: r).map B)) => said_any a r v w' h hal (fun l hm => ⟨hl l (List.mem_cons_of_mem _ hm), hkr l hm⟩) hka (by simp at hn; omega) (by omega)
    have CK := fun w' => check_any (before a) (saidV (a :: r)) (by omega) hj w'
    have hchk : checkN (before a) (saidV (a :: r)) = if (saidV (a :: r)).length ≤ 1000 then 0 else 6 := by unfold checkN; rw [hg]; rfl
    rw [hchk] at CK
    have SAY := fun w' (h : Strs w' v ((a :: r).map B)) => say_any (a :: r) v w' h hl hn
    rw [hF] at SAY
    by_cases hlen : (saidV (a :: r)).length ≤ 1000
    · rw [if_pos hlen] at CK
      obtain ⟨e1, e2, e3⟩ := unfold_yes hF hlen
      rw [e1, e2, e3]
      unfold fieldV at *
      generalize B (before a) = K at *
      generalize B (saidV (a :: r)) = V at *
      go_enter Tryz.func27, Tryz.ntmps27
      go_wp2_with fail
      refine (SAY _ (ST.out _)).mono ?_
      rintro e w1 ⟨rfl, b1⟩
      have S1 := (ST.out (.cells #[.string ⟨#[]⟩, .string ⟨#[]⟩] 69)).below b1 (Nat.le_refl _)
      have R1 := cells_kept (Cells.new w 69 #[.string ⟨#[]⟩, .string ⟨#[]⟩]) b1 (by simp)
      have hb1 : Below w.heap.size w w1 := ((Below.refl _ _).alloc (Nat.le_refl _) _).trans (b1.mono (by simp))
      have hs1 := b1.size
      simp only [World.size_alloc] at hs1
      clear b1 ST
      go_wp2_with fail
      refine (SD _ S1).mono ?_
      rintro e w2 ⟨rfl, b2⟩
      have R2 := cells_kept R1 b2 (by omega)
      have hb2 := hb1.trans (b2.mono (by omega))
      have hs2 := b2.size
      clear b2 R1 S1 hb1
      have NB := Cells.new w2 69 #[.string K, .string V]
      have OB := R2.alloc (.cells #[.string K, .string V] 69)
      have hb3 := hb2.alloc (by omega) (.cells #[.string K, .string V] 69)
      go_wp2_with fail
      refine (CK _).mono ?_
      rintro e w4 ⟨rfl, b4⟩
      have N4 := cells_kept NB b4 (by simp)
      have O4 := cells_kept OB b4 (by simp; omega)
      have hb4 := hb3.trans (b4.mono (by simp; omega))
      have n0 := N4.cell 0
      have n1 := N4.cell 1
      have c0 := O4.cell 0
      have c1 := O4.cell 1
      have f0 := O4.frozen 0
      have f1 := O4.frozen 1
      simp only [List.getElem?_toArray, List.getElem?_cons_zero, List.getElem?_cons_succ] at c0 c1 n0 n1
      have RE := (O4.set 0 (.string K)).set 1 (.string V)
      rw [set2] at RE
      clear b4 NB OB R2 hb3 hb2
      go_wp2_with fail
      refine bodyPost_ret (ret_f2 rfl _ _ w.heap.size _ rfl RE rfl) rfl ?_
      exact ⟨rfl, (hb4.setCell (Nat.le_refl _) _).setCell (Nat.le_refl _) _⟩
    · rw [if_neg hlen] at CK
      obtain ⟨e1, e2, e3⟩ := unfold_long hF hlen
      rw [e1, e2, e3]
      unfold fieldV at *
      generalize B (before a) = K at *
      generalize B (saidV (a :: r)) = V at *
      go_enter Tryz.func27, Tryz.ntmps27
      go_wp2_with fail
      refine (SAY _ (ST.out _)).mono ?_
      rintro e w1 ⟨rfl, b1⟩
      have S1 := (ST.out (.cells #[.string ⟨#[]⟩, .string ⟨#[]⟩] 69)).below b1 (Nat.le_refl _)
      have R1 := cells_kept (Cells.new w 69 #[.string ⟨#[]⟩, .string ⟨#[]⟩]) b1 (by simp)
      have hb1 : Below w.heap.size w w1 := ((Below.refl _ _).alloc (Nat.le_refl _) _).trans (b1.mono (by simp))
      have hs1 := b1.size
      simp only [World.size_alloc] at hs1
      clear b1 ST
      go_wp2_with fail
      refine (SD _ S1).mono ?_
      rintro e w2 ⟨rfl, b2⟩
      have R2 := cells_kept R1 b2 (by omega)
      have hb2 := hb1.trans (b2.mono (by omega))
      have hs2 := b2.size
      clear b2 R1 S1 hb1
      have NB := Cells.new w2 69 #[.string K, .string V]
      have OB := R2.alloc (.cells #[.string K, .string V] 69)
      have hb3 := hb2.alloc (by omega) (.cells #[.string K, .string V] 69)
      go_wp2_with fail
      refine (CK _).mono ?_
      rintro e w4 ⟨rfl, b4⟩
      have N4 := cells_kept NB b4 (by simp)
      have O4 := cells_kept OB b4 (by simp; omega)
      have hb4 := hb3.trans (b4.mono (by simp; omega))
      have n0 := N4.cell 0
      have n1 := N4.cell 1
      have c0 := O4.cell 0
      have c1 := O4.cell 1
      have f0 := O4.frozen 0
      have f1 := O4.frozen 1
      simp only [List.getElem?_toArray, List.getElem?_cons_zero, List.getElem?_cons_succ] at c0 c1 n0 n1
      have RE := (O4.set 0 (.string ⟨#[]⟩)).set 1 (.string ⟨#[]⟩)
      rw [set2] at RE
      clear b4 NB OB R2 hb3 hb2
      go_wp2_with fail
      refine bodyPost_ret (ret_f2 rfl _ _ w.heap.size _ rfl RE rfl) rfl ?_
      exact ⟨rfl, (hb4.setCell (Nat.le_refl _) _).setCell (Nat.le_refl _) _⟩
end Go.Proofs.YthblpjjocokphaaGreatDoor
/- A field is ended: endField. -/
namespace Go.Proofs.YthblpjjocokphaaGreatDoor
open Go.RowKit Go.Shelf
attribute [local go_sem] errV_0

/-- An error at a place. -/
def FaultAt (lo : Nat) (w : World) (e : Value) (at_ n : Nat) : Prop := ∃ q, lo ≤ q ∧ e = .iface 64 (.pointer (some ⟨q, 0, none⟩)) ∧ Cells w q 66 #[.int .i64 at_, errV n]
theorem FaultAt.below {lo : Nat} {w w' : World} {e : Value} {a n N : Nat} (h : FaultAt lo w e a n) (hb : Below N w w') (hN : w.heap.size ≤ N) : FaultAt lo w' e a n := by
  obtain ⟨q, h0, h1, h2⟩ := h
  exact ⟨q, h0, h1, (hb.block q (Nat.lt_of_lt_of_le h2.lt hN)).trans h2⟩
theorem FaultAt.mono {lo lo' : Nat} {w : World} {e : Value} {a n : Nat} (h : FaultAt lo w e a n) (hl : lo' ≤ lo) : FaultAt lo' w e a n := by
  obtain ⟨q, h0, h1, h2⟩ := h
  exact ⟨q, Nat.le_trans hl h0, h1, h2⟩
theorem FaultAt.new (w : World) (a n lo q : Nat) (hq : w.heap.size = q) (hl : lo ≤ q) : FaultAt lo (w.alloc (.cells #[.int .i64 a, errV n] 66)) (.iface 64 (.pointer (some ⟨q, 0, none⟩))) a n := by subst hq; exact ⟨w.heap.size, hl, rfl, Cells.new _ _ _⟩
theorem ParserV.field {w w' : World} {T : Nat → Nat} {R b : Nat} {text : ByteArray} {p p' : PS} {V : PV} (h : ParserV w T R b text p V) (hR : R ≤ w.heap.size) (v6' : Value)
    (hc : Cells w' b 42 (pCells p' text (.slice none 0 0) V.v3 v6')) (hr : w'.ownsRow 0 69 2 v6' p'.fields.length (cellsF p'.fields)) (hk : sameOr w.heap.size w'.heap.size V.v6.ownBlock v6'.ownBlock)
    (ho : Only (fun r => r = b ∨ some r = V.v6.ownBlock) w w') (e1 : p'.items = p.items) (e2 : p'.said = []) :
    ∃ T', ParserV w' T' R b text p' { V with v1 := .slice none 0 0, v6 := v6' } ∧ PStep w T w' T' := by
  have hs : ∀ k, T k ≠ 0 → T k ≠ 1 → T k ≠ 4 → w'.heap[k]? = w.heap[k]? := fun k h0 h1 h2 => ho.same k (h.low k h0).2 (by
    rintro (e | e)
    · exact h1 (by rw [e]; exact h.tp)
    · exact h2 (h.t6 k e.symm))
  have s : ∀ {o : Option Nat} {t : Nat}, tagged T o t → t ≠ 0 → t ≠ 1 → t ≠ 4 → ∀ k, o = some k → w'.heap[k]? = w.heap[k]? := fun ht h0 h1 h3 k hk => hs k (by rw [ht k hk]; exact h0) (by rw [ht k hk]; exact h1) (by rw [ht k hk]; exact h3)
  have lo : ∀ {o : Option Nat} {t : Nat}, tagged T o t → t ≠ 0 → ∀ k, o = some k → k < w.heap.size := fun ht hne k hk => (h.low k (by rw [ht k hk]; exact hne)).2
  refine ⟨retag T w.heap.size v6'.ownBlock 4, ⟨hc, by rw [retag_old h.lt]; exact h.tp, ?_, (fun k hk => by cases hk), ?_, retag_other h.t3 (lo h.t3 (by decide)), hr, retag_same hk h.t6, by rw [e1]; exact h.nf, fun i it v h1 h2 => ?_, retag_both h.low ho.size hR hk h.t6 (by decide)⟩,
    ⟨ho.mono fun r hr' e => ?_, fun r hr' => by rw [retag_old hr']⟩⟩
  · rw [e2]; exact ⟨by simp [saidCells], .inl ⟨rfl, rfl⟩⟩
  · rw [e1]; exact row_same h.r3 (s h.t3 (by decide) (by decide) (by decide))
  · obtain ⟨a, c⟩ := h.rf i it v (by rw [← e1]; exact h1) h2
    exact ⟨row_same a (s c (by decide) (by decide) (by decide)), retag_other c (lo c (by decide))⟩
  · rcases e with e | e
    · rw [e, h.tp]; decide
    · rw [h.t6 r e.symm]; decide
theorem ParserV.strs {w : World} {T : Nat → Nat} {R b : Nat} {text : ByteArray} {p : PS} {V : PV} (h : ParserV w T R b text p V) : Strs w V.v1 (p.said.map B) := by
  refine OwnS.strs (base := 0) ?_
  unfold OwnS
  rw [List.length_map, List.map_map]
  exact h.r1
theorem infoFld0 : (Tryz.prog.info? 69).map (fun i => (i.zero, i.size, i.bytes)) = some (some (.agg #[.string ⟨#[]⟩, .string ⟨#[]⟩]), 2, 32) := by kernel_rfl
def EndField (w : World) (T : Nat → Nat) (R b : Nat) (text : ByteArray) (p : PS) (e : Ending) (w' : World) : Prop :=
  if endFieldN p = 0 then e = .returned .nilIface ∧ ∃ T', ParserAt w' T' R b text (endFieldP p) ∧ PStep w T w' T'
  else ∃ v, e = .returned v ∧ FaultAt w.heap.size w' v p.begin_ (endFieldN p) ∧ Below w.heap.size w w'
theorem EndField.no {w : World} {T : Nat → Nat} {R b : Nat} {text : ByteArray} {p : PS} {v : Value} {w' : World} (h : endFieldN p ≠ 0) (h1 : FaultAt w.heap.size w' v p.begin_ (endFieldN p)) (h2 : Below w.heap.size w w') : EndField w T R b text p (.returned v) w' := by
  unfold EndField; rw [if_neg h]; exact ⟨v, rfl, h1, h2⟩
theorem EndField.yes {w : World} {T T' : Nat → Nat} {R b : Nat} {text : ByteArray} {p : PS} {w' : World} (h : endFieldN p = 0) (h1 : ParserAt w' T' R b text (endFieldP p)) (h2 : PStep w T w' T') : EndField w T R b text p (.returned .nilIface) w' := by
  unfold EndField; rw [if_pos h]; exact ⟨rfl, T', h1, h2⟩

set_option maxRecDepth 100000 in
set_option maxHeartbeats 4000000 in
theorem endField_any {w : World} {T : Nat → Nat} {R b : Nat} {text : ByteArray} {p : PS} (h : ParserAt w T R b text p) (hR : R ≤ w.heap.size) (hsum : (p.said.map List.length).sum + p.said.length ≤ 90000) (hf : p.fields.length ≤ 1000000) :
    Calls Tryz.prog 12 #[.pointer (some ⟨b, 0, none⟩)] w fun e w' => EndField w T R b text p e w' := by
  obtain ⟨V, h⟩ := h
  by_cases hs : p.said = []
  · have h0 : endFieldN p = 0 := by unfold endFieldN; rw [if_pos hs]
    have hp : endFieldP p = p := by unfold endFieldP; rw [if_pos hs]
    have U := under_any h
    rw [show (!p.said.isEmpty) = false by rw [hs]; rfl] at U
    have hl := h.lt
    have FIN : EndField w T R b text p (.returned .nilIface) w := .yes h0 (by rw [hp]; exact ⟨V, h⟩) (PStep.refl _ _)
    clear h hsum
    go_enter Tryz.func12, Tryz.ntmps12
    go_wp2_with fail
    refine U.mono ?_
    rintro e w1 ⟨rfl, rfl⟩
    go_wp2
    go_ret
    exact FIN
  · have U := under_any h
    rw [show (!p.said.isEmpty) = true by cases hq : p.said with | nil => exact absurd hq hs | cons a r => rfl] at U
    have hl := h.lt
    obtain ⟨a1, c1, e1, _⟩ := own_slice h.r1
    have q1 : w.cell? ⟨b, 1, none⟩ = some (.slice a1 p.said.length c1) := by rw [← e1]; exact h.cells.cell 1
    have q0 : w.cell? ⟨b, 0, none⟩ = some (.int .i64 p.begin_) := h.cells.cell 0
    have hlen : p.said.length ≤ 100000 := by omega
    have heach : ∀ l ∈ p.said, l.length ≤ 100000 := fun l hm => by have := le_sum _ _ hm; omega
    have hsv := saidV_le p.said
    have UF := unfold_any p.said V.v1 w h.strs heach hlen (by omega)
    rw [e1] at UF
    have hn0 : endFieldN p = if unfoldN p.said ≠ 0 then unfoldN p.said else if fullP p then 11 else 0 := by unfold endFieldN; rw [if_neg hs]
    have hn1 := unfoldN_le p.said
    have H := Lib.hid h
    by_cases hu : unfoldN p.said = 0
    · rw [hu, if_neg (by simp)] at hn0
      rw [hu] at UF
      rw [errV_0] at UF
      have FU := Lib.hid (fun w' (hb : Below w.heap.size w w') => full_any (H.out.below hb))
      cases hfull : fullP p with
      | true =>
        rw [hfull, if_pos rfl] at hn0
        have FIN := Lib.hid (fun v w' h1 h2 => EndField.no (w := w) (T := T) (R := R) (b := b) (text := text) (p := p) (v := v) (w' := w') (by rw [hn0]; decide) h1 h2)
        rw [hn0] at FIN
        rw [hfull] at FU
        generalize unfoldK p.said = K at *
        generalize unfoldV p.said = Z at *
        unfold fieldV at UF
        clear h hsum heach hsv
        go_enter Tryz.func12, Tryz.ntmps12
        go_wp2_with fail
        refine U.mono ?_
        rintro e w1 ⟨rfl, rfl⟩
        go_wp2_with fail
        refine UF.mono ?_
        rintro e w1 ⟨rfl, b1⟩
        have hzb := b1.size
        go_wp2_with fail
        have hP := H.out.below b1
        have r0 : w1.cell? ⟨b, 0, none⟩ = some (.int .i64 p.begin_) := hP.cells.cell 0
        have hl1 := hP.lt
        have b2 := b1.alloc hzb (.cells #[.string (B K), .string (B Z)] 69)
        have FU2 := FU.out _ b2
        go_wp2_with fail
        refine FU2.mono ?_
        rintro e w2 ⟨rfl, rfl⟩
        have r1 : (w1.alloc (.cells #[.string (B K), .string (B Z)] 69)).cell? ⟨b, 0, none⟩ = some (.int .i64 p.begin_) := by
          rw [World.cell?_alloc_old _ _ _ (Nat.ne_of_lt hl1)]; exact r0
        go_wp2
        go_ret
        exact FIN.out _ _ (FaultAt.new _ _ 11 _ (w1.heap.size + 1) (by simp) (by omega)) (b2.alloc (by simp; omega) _)
      | false =>
        rw [hfull, if_neg (by simp)] at hn0
        have e0 : endFieldP p = { p with fields := p.fields ++ [(unfoldK p.said, unfoldV p.said)], said := [] } := by unfold endFieldP; rw [if_neg hs]
        have FIN := Lib.hid (fun T' w' h1 h2 => EndField.yes (w := w) (T := T) (T' := T') (R := R) (b := b) (text := text) (p := p) (w' := w') hn0 h1 h2)
        rw [e0] at FIN
        rw [hfull] at FU
        generalize unfoldK p.said = K at *
        generalize unfoldV p.said = Z at *
        unfold fieldV at UF
        obtain ⟨i0, hi, hz0, hz1, hz2⟩ := info_parts infoFld0
        obtain ⟨a6, c6, e6, _⟩ := own_slice h.r6
        clear h hsum heach hsv e0
        go_enter Tryz.func12, Tryz.ntmps12
        go_wp2_with fail
        refine U.mono ?_
        rintro e w1 ⟨rfl, rfl⟩
        go_wp2_with fail
        refine UF.mono ?_
        rintro e w1 ⟨rfl, b1⟩
        have hzb := b1.size
        have hP := H.out.below b1
        have hl1 := hP.lt
        have b2 := b1.alloc hzb (.cells #[.string (B K), .string (B Z)] 69)
        have FU2 := FU.out _ b2
        go_wp2_with fail
        refine FU2.mono ?_
        rintro e w2 ⟨rfl, rfl⟩
        have P2 := Lib.hid (H.out.below b2)
        have g0 : (w1.alloc (.cells #[.string (B K), .string (B Z)] 69)).cell? ⟨w1.heap.size, 0, none⟩ = some (.string (B K)) := (Cells.new _ _ _).cell 0
        have g1 : (w1.alloc (.cells #[.string (B K), .string (B Z)] 69)).cell? ⟨w1.heap.size, 1, none⟩ = some (.string (B Z)) := (Cells.new _ _ _).cell 1
        have hz2' : w1.heap.size < (w1.alloc (.cells #[.string (B K), .string (B Z)] 69)).heap.size := by simp
        have B2 := Lib.hid b2
        have hlt2 : w.heap.size ≤ (w1.alloc (.cells #[.string (B K), .string (B Z)] 69)).heap.size := b2.size
        clear FU FU2 UF U hP b1 b2
        generalize w1.alloc (.cells #[.string (B K), .string (B Z)] 69) = w2 at *
        generalize w1.heap.size = bx at *
        have hl2 := P2.out.lt
        have q6 : w2.cell? ⟨b, 6, none⟩ = some (.slice a6 p.fields.length c6) := by rw [← e6]; exact P2.out.cells.cell 6
        have HC := Lib.hid P2.out.cells
        have HO := Lib.hid P2.out.r6
        have HE := Lib.hid (rowBlock_ne (w := w2) P2.out.tp P2.out.t6 (by decide))
        rw [e6] at HO HE
        have HF := Lib.hid (fun w' v6' hc hr hk ho => ParserV.field (p' := { p with fields := p.fields ++ [(K, Z)], said := [] }) P2.out (Nat.le_trans hR hlt2) (w' := w') v6' hc hr hk ho rfl rfl)
        go_wp2
        go_cut [] (fun wx => ∃ g' cap', Cells wx b 42 (pCells p text V.v1 V.v3 (.slice (some ⟨g', 0, none⟩) (p.fields.length + 1) cap')) ∧
          wx.ownsRow 0 69 2 (.slice (some ⟨g', 0, none⟩) (p.fields.length + 1) cap') (p.fields.length + 1) (cellsF p.fields ++ [.string (B K), .string (B Z)]) ∧
          sameOr w2.heap.size wx.heap.size V.v6.ownBlock (Value.slice (some ⟨g', 0, none⟩) (p.fields.length + 1) cap').ownBlock ∧ g' ≠ b ∧ Only (fun r => r = b ∨ some r = V.v6.ownBlock) w2 wx)
        case first =>
          go_region_law ((refine step_append_own rfl (.tmp 41) (.tmp 43) 30 rfl 69 i0 _ 2 32 Tryz.underlying30 hi hz0 hz1 hz2 rfl (by decide) (.slice a6 p.fields.length c6) p.fields.length (cellsF p.fields) (by simp [Act.eval]) (by exact (HO.out.alloc _).drew) ⟨w2.heap.size, 0, none⟩ 1 1 [.string (B K), .string (B Z)] (by simp [Act.eval]) rfl (cells_new_add w2 69 [.string (B K), .string (B Z)]) (by intro u hu; simp at hu; rcases hu with rfl | rfl <;> rfl) (by unfold maxLen; omega) (by omega) ?_); intro v' w' ho hgr hbk; obtain ⟨⟨g', cap', rfl⟩, hg', hbx, hk, hon⟩ := appended HC.out HO.out HE.out (((Below.refl _ w2).alloc (Nat.le_refl _) _).drew) ho hgr hbk; have k6' : w'.cell? ⟨b, 6, none⟩ = some V.v6 := hg'.cell 6; have kf6' := hg'.frozen 6)
          all_goals
            go_wp2
            go_meet
            have hvg : g' ≠ b := by
              intro e
              rcases hk with h | ⟨k, h, h2, _⟩
              · exact HE.out (h.symm.trans (by rw [e]; rfl))
              · have hh : g' = k := Option.some.inj (show some g' = some k from h)
                omega
            rw [← e6] at hk hon
            refine ⟨g', cap', ?_, row_cell (p := ⟨b, 6, none⟩) ho (fun e => hvg (by cases e; rfl)) _, ?_, hvg, (hon.mono (fun r _ h => .inr h)).setCell (p := ⟨b, 6, none⟩) (.inl (.inl rfl)) _⟩
            · simpa [pCells] using hg'.set 6 (.slice (some ⟨g', 0, none⟩) (p.fields.length + 1) cap')
            · unfold sameOr; simpa [World.setCell] using hk
        case rest =>
          obtain ⟨g', cap', hc, hr, hk, hvg, ho⟩ := hcut
          have k1 : wc.cell? ⟨b, 1, none⟩ = some V.v1 := hc.cell 1
          have kf1 := hc.frozen 1
          rw [e1] at k1
          go_wp2
          go_ret
          refine Exists.elim (HF.out _ (.slice (some ⟨g', 0, none⟩) (p.fields.length + 1) cap') ?k1 ?k2 ?k3 ?k4) fun T' g => FIN.out T' _ ⟨_, g.1⟩ ((PStep.below B2.out).trans g.2)
          case k1 => simpa [pCells] using hc.set 1 (.slice none 0 0)
          case k2 =>
            rw [cellsF_snoc, List.length_append]
            exact row_cell (p := ⟨b, 1, none⟩) hr (fun e => hvg (by cases e; rfl)) _
          case k3 => unfold sameOr at hk ⊢; simpa [World.setCell] using hk
          case k4 => exact ho.setCell (p := ⟨b, 1, none⟩) (.inl (.inl rfl)) _
    · rw [if_pos hu] at hn0
      have hup : 0 < unfoldN p.said := Nat.pos_of_ne_zero hu
      have FIN := Lib.hid (fun v w' h1 h2 => EndField.no (w := w) (T := T) (R := R) (b := b) (text := text) (p := p) (v := v) (w' := w') (by rw [hn0]; exact hu) h1 h2)
      rw [hn0] at FIN
      have hev := errV_pos _ hup
      have HEV := Lib.hid hev
      rw [hev] at UF
      generalize unfoldN p.said = n at *
      generalize unfoldK p.said = K at *
      generalize unfoldV p.said = Z at *
      unfold fieldV at UF
      clear h hsum heach hsv hev
      go_enter Tryz.func12, Tryz.ntmps12
      go_wp2_with fail
      refine U.mono ?_
      rintro e w1 ⟨rfl, rfl⟩
      go_wp2_with fail
      refine UF.mono ?_
      rintro e w1 ⟨rfl, b1⟩
      have hzb := b1.size
      have hP := H.out.below b1
      have r0 : w1.cell? ⟨b, 0, none⟩ = some (.int .i64 p.begin_) := hP.cells.cell 0
      have hl1 := hP.lt
      have b2 := b1.alloc hzb (.cells #[.string (B K), .string (B Z)] 69)
      have r1 : (w1.alloc (.cells #[.string (B K), .string (B Z)] 69)).cell? ⟨b, 0, none⟩ = some (.int .i64 p.begin_) := by
        rw [World.cell?_alloc_old _ _ _ (Nat.ne_of_lt hl1)]; exact r0
      go_wp2
      go_ret
      rw [← HEV.out]
      exact FIN.out _ _ (FaultAt.new _ _ n _ (w1.heap.size + 1) (by simp) (by omega)) (b2.alloc (by simp; omega) _)
end Go.Proofs.YthblpjjocokphaaGreatDoor
/- A line is taken: take. -/
namespace Go.Proofs.YthblpjjocokphaaGreatDoor
open Go.RowKit Go.Shelf
attribute [local go_sem] errV_0 errV_2

theorem lineAgg (x : Ln) : Value.agg (lineV x) = .agg #[.int .i64 x.no, .int .i64 x.at_, .string (B x.text), .bool x.ended] := rfl
/-- What a line comes to. -/
def Taken (w : World) (T : Nat → Nat) (R b : Nat) (text : ByteArray) (p : PS) (x : Ln) (e : Ending) (w' : World) : Prop :=
  match takeP text.data.toList p x with
  | .error (a, n) => ∃ v, e = .returned v ∧ FaultAt w.heap.size w' v a n ∧ Only (fun r => T r ≠ 0) w w'
  | .ok q => e = .returned .nilIface ∧ ∃ T', ParserAt w' T' R b text q ∧ PStep w T w' T'
theorem Taken.no {w : World} {T : Nat → Nat} {R b : Nat} {text : ByteArray} {p : PS} {x : Ln} {v : Value} {w' : World} {a n : Nat} (h : takeP text.data.toList p x = .error (a, n)) (h1 : FaultAt w.heap.size w' v a n) (h2 : Only (fun r => T r ≠ 0) w w') : Taken w T R b text p x (.returned v) w' := by
  unfold Taken; rw [h]; exact ⟨v, rfl, h1, h2⟩
theorem Taken.yes {w : World} {T T' : Nat → Nat} {R b : Nat} {text : ByteArray} {p q : PS} {x : Ln} {w' : World} (h : takeP text.data.toList p x = .ok q) (h1 : ParserAt w' T' R b text q) (h2 : PStep w T w' T') : Taken w T R b text p x (.returned .nilIface) w' := by
  unfold Taken; rw [h]; exact ⟨rfl, T', h1, h2⟩
/-- The line's box, beside the parser. -/
theorem lineBox {w w' : World} {T T' : Nat → Nat} {R b z : Nat} {text : ByteArray} {p : PS} {cur : Array Value} (h : ParserAt w T R b text p) (hz : T z = 0) (hc : Cells w z 47 cur) (hs : PStep w T w' T') : Cells w' z 47 cur :=
  hc.only hs.only (fun e => e hz)
theorem low_of {w : World} {T : Nat → Nat} {R b : Nat} {text : ByteArray} {p : PS} (h : ParserAt w T R b text p) : T w.heap.size = 0 := by
  obtain ⟨V, h⟩ := h
  rcases Nat.decEq (T w.heap.size) 0 with e | e
  · have := (h.low _ e).2; omega
  · exact e
theorem ParserAt.lt {w : World} {T : Nat → Nat} {R b : Nat} {text : ByteArray} {p : PS} (h : ParserAt w T R b text p) : b < w.heap.size := by obtain ⟨V, h⟩ := h; exact h.lt
theorem endField_any2 {w w1 : World} {T T1 : Nat → Nat} {R b : Nat} {text : ByteArray} {p q : PS} (h : ParserAt w1 T1 R b text q) (hs : PStep w T w1 T1) (hR : R ≤ w.heap.size) (hsum : (q.said.map List.length).sum + q.said.length ≤ 90000) (hf : q.fields.length ≤ 1000000) :
    Calls Tryz.prog 12 #[.pointer (some ⟨b, 0, none⟩)] w1 fun e w' =>
      if endFieldN q = 0 then e = .returned .nilIface ∧ ∃ T', ParserAt w' T' R b text (endFieldP q) ∧ PStep w T w' T' ∧ PStep w1 T1 w' T'
      else ∃ v, e = .returned v ∧ FaultAt w.heap.size w' v q.begin_ (endFieldN q) ∧ Only (fun r => T r ≠ 0) w w' ∧ v ≠ .nilIface ∧ ∃ a, v = .iface 64 (.pointer a) := by
  have hz := hs.only.size
  refine (endField_any h (Nat.le_trans hR hz) hsum hf).mono fun e w' g => ?_
  unfold EndField at g
  split
  · rename_i h0
    rw [if_pos h0] at g
    obtain ⟨g1, T', g2, g3⟩ := g
    exact ⟨g1, T', g2, hs.trans g3, g3⟩
  · rename_i h0
    rw [if_neg h0] at g
    obtain ⟨v, g1, g2, g3⟩ := g
    refine ⟨v, g1, g2.mono hz, hs.only.below g3 hz, ?_, ?_⟩
    · obtain ⟨q, _, e, _⟩ := g2; rw [e]; intro h; cases h
    · obtain ⟨q, _, e, _⟩ := g2; exact ⟨_, e⟩

set_option maxRecDepth 100000 in
set_option maxHeartbeats 4000000 in
theorem take_on {w : World} {T : Nat → Nat} {R b : Nat} {text : ByteArray} {p : PS} (h : ParserAt w T R b text p) (hR : R ≤ w.heap.size) (x : Ln) (hi : Inv p x.at_) (hx : x.at_ + x.text.length + 1 ≤ 70000) (hno : x.no ≤ x.at_) (hg : goesP p x = true) :
    Calls Tryz.prog 11 #[.pointer (some ⟨b, 0, none⟩), .agg #[.int .i64 x.no, .int .i64 x.at_, .string (B x.text), .bool x.ended]] w fun e w' => Taken w T R b text p x e w' := by
  have hk : kindL x.text = 3 := by unfold goesP at hg; simp at hg; exact hg.1
  have hu : (!p.said.isEmpty) = true := by unfold goesP at hg; simp at hg; simp [hg.2]
  have K : ∀ w, Calls Tryz.prog 22 #[.string (B x.text)] w fun e w' => e = .returned (.int .i64 3) ∧ Below w.heap.size w w' := fun w => by
    have := kind_any (B x.text) (by rw [B_size]; unfold maxLen; omega) w
    rw [B_data, hk] at this
    exact this
  have hl := h.lt
  have hb0 := PStep.below (T := T) ((Below.refl w.heap.size w).alloc (Nat.le_refl _) (.cells #[.int .i64 x.no, .int .i64 x.at_, .string (B x.text), .bool x.ended] 47))
  have c0 := Cells.new w 47 #[.int .i64 x.no, .int .i64 x.at_, .string (B x.text), .bool x.ended]
  have l0 := low_of h
  have hw : wentP p x = goOnP p x := by unfold wentP; rw [if_pos hg]; rfl
  have hwr : wrongP p x = !x.ended := by unfold wrongP; rw [hk, hg]; simp
  have hen : endsP p x = !x.ended := by unfold endsP; rw [hwr, hg]; simp
  have hb := hi.said
  have hsum : ((goOnP p x).said.map List.length).sum + (goOnP p x).said.length ≤ 90000 := by simp [goOnP]; omega
  have hff : (goOnP p x).fields.length ≤ 1000000 := by have := hi.fields; show p.fields.length ≤ _; omega
  have hn : p.said.length ≤ 1000000 := by omega
  have GO := Lib.hid (fun w1 (T1 : Nat → Nat) V1 (g : ParserV w1 T1 R b text p V1) hR1 => goOn_any g hR1 x hn)
  have EF := Lib.hid (fun w1 T1 (g : ParserAt w1 T1 R b text (goOnP p x)) (s : PStep w T w1 T1) => endField_any2 (p := p) g s hR hsum hff)
  have H := Lib.hid h
  have C0 := Lib.hid c0
  have HB0 := Lib.hid hb0
  cases hend : x.ended with
  | true =>
    rw [hend] at hwr hen
    simp only [Bool.not_true] at hwr hen
    have FIN := Lib.hid (fun T' w' h1 h2 => Taken.yes (w := w) (T := T) (T' := T') (R := R) (b := b) (text := text) (p := p) (q := goOnP p x) (x := x) (w' := w') (by unfold takeP; rw [hen, hwr]; simp [thenP, hen, putP, hk, hw]) h1 h2)
    rw [hend] at GO C0 HB0
    clear h c0 hb0 hi EF hsum hff hb
    go_enter Tryz.func11, Tryz.ntmps11
    go_wp2_with fail
    refine (K _).mono ?_
    rintro e w1 ⟨rfl, b1⟩
    have s1 := HB0.out.trans (PStep.below b1)
    have P1 : ParserAt w1 T R b text p := (H.out.below ((Below.refl _ _).alloc (Nat.le_refl _) _)).below b1
    have l1 := P1.lt
    obtain ⟨V1, P1⟩ := P1
    have C1 := cells_kept C0.out b1 (by simp)
    have hz1 := s1.only.size
    have hz1' : R ≤ w1.drew.heap.size := Nat.le_trans hR hz1
    clear b1 H C0 HB0
    go_wp2_with fail
    refine (under_any P1).mono ?_
    rw [hu]
    rintro e w2 ⟨rfl, rfl⟩
    have d0 : w1.cell? ⟨w.heap.size, 0, none⟩ = some (.int .i64 x.no) := C1.cell 0
    have d1 : w1.cell? ⟨w.heap.size, 1, none⟩ = some (.int .i64 x.at_) := C1.cell 1
    have d2 : w1.cell? ⟨w.heap.size, 2, none⟩ = some (.string (B x.text)) := C1.cell 2
    have d3 : w1.cell? ⟨w.heap.size, 3, none⟩ = some (.bool true) := C1.cell 3
    have lz := C1.lt
    have P1d : Hid (ParserV w1.drew T R b text p V1) := P1.same (fun _ _ => rfl) (Nat.le_refl _)
    have C1d : Hid (Cells w1.drew w.heap.size 47 _) := C1
    have S1 : Hid (PStep w T w1.drew T) := s1.drewN 1
    clear P1 C1 s1
    go_wp2
    go_region_with (go_at_call 24; refine (GO.out _ T V1 P1d.out hz1').mono ?_; rintro e w2 ⟨rfl, T2, g2, s2⟩; have C2 := C1d.out.only s2.only (fun e => e l0); have d3 : w2.cell? ⟨w.heap.size, 3, none⟩ = some (.bool true) := C2.cell 3)
    all_goals
      go_wp2
      go_ret
      exact FIN.out T2 _ g2 (S1.out.trans s2)
  | false =>
    rw [hend] at hwr hen
    simp only [Bool.not_false] at hwr hen
    rw [hend] at GO C0 HB0
    by_cases h0 : endFieldN (goOnP p x) = 0
    · have FIN := Lib.hid (fun v w' h1 h2 => Taken.no (w := w) (T := T) (R := R) (b := b) (text := text) (p := p) (x := x) (v := v) (w' := w') (a := x.no) (n := 2) (by unfold takeP; rw [hen, hwr, hw, h0]; simp) h1 h2)
      clear h c0 hb0 hi hsum hff hb
      go_enter Tryz.func11, Tryz.ntmps11
      go_wp2_with fail
      refine (K _).mono ?_
      rintro e w1 ⟨rfl, b1⟩
      have s1 := HB0.out.trans (PStep.below b1)
      have P1 : ParserAt w1 T R b text p := (H.out.below ((Below.refl _ _).alloc (Nat.le_refl _) _)).below b1
      have l1 := P1.lt
      obtain ⟨V1, P1⟩ := P1
      have C1 := cells_kept C0.out b1 (by simp)
      have hz1 := s1.only.size
      have hz1' : R ≤ w1.drew.heap.size := Nat.le_trans hR hz1
      clear b1 H C0 HB0
      go_wp2_with fail
      refine (under_any P1).mono ?_
      rw [hu]
      rintro e w2 ⟨rfl, rfl⟩
      have d0 : w1.cell? ⟨w.heap.size, 0, none⟩ = some (.int .i64 x.no) := C1.cell 0
      have d1 : w1.cell? ⟨w.heap.size, 1, none⟩ = some (.int .i64 x.at_) := C1.cell 1
      have d2 : w1.cell? ⟨w.heap.size, 2, none⟩ = some (.string (B x.text)) := C1.cell 2
      have d3 : w1.cell? ⟨w.heap.size, 3, none⟩ = some (.bool false) := C1.cell 3
      have lz := C1.lt
      have P1d : Hid (ParserV w1.drew T R b text p V1) := P1.same (fun _ _ => rfl) (Nat.le_refl _)
      have C1d : Hid (Cells w1.drew w.heap.size 47 _) := C1
      have S1 : Hid (PStep w T w1.drew T) := s1.drewN 1
      clear P1 C1 s1
      go_wp2
      go_region_with (go_at_call 24; refine (GO.out _ T V1 P1d.out hz1').mono ?_; rintro e w2 ⟨rfl, T2, g2, s2⟩; have C2 := C1d.out.only s2.only (fun e => e l0); have d3 : w2.cell? ⟨w.heap.size, 3, none⟩ = some (.bool false) := C2.cell 3)
      all_goals
        go_wp2_with fail
        refine (EF.out _ T2 g2 (S1.out.trans s2)).mono ?_
        rintro e w3 hE
        rw [if_pos h0] at hE
        obtain ⟨rfl, T3, g3, s3, s23⟩ := hE
        have C3 := C2.only s23.only (fun e => e ((s2.old _ lz).2 l0))
        have d0' : w3.cell? ⟨w.heap.size, 0, none⟩ = some (.int .i64 x.no) := C3.cell 0
        have lz3 := C3.lt
        go_wp2
        go_ret
        exact FIN.out _ _ (FaultAt.new _ _ 2 _ w3.heap.size rfl (by omega)) (s3.only.alloc _)
    · have FIN := Lib.hid (fun v w' h1 h2 => Taken.no (w := w) (T := T) (R := R) (b := b) (text := text) (p := p) (x := x) (v := v) (w' := w') (a := (goOnP p x).begin_) (n := endFieldN (goOnP p x)) (by unfold takeP; rw [hen, hw, if_pos ⟨rfl, h0⟩]) h1 h2)
      clear h c0 hb0 hi hsum hff hb
      go_enter Tryz.func11, Tryz.ntmps11
      go_wp2_with fail
      refine (K _).mono ?_
      rintro e w1 ⟨rfl, b1⟩
      have s1 := HB0.out.trans (PStep.below b1)
      have P1 : ParserAt w1 T R b text p := (H.out.below ((Below.refl _ _).alloc (Nat.le_refl _) _)).below b1
      have l1 := P1.lt
      obtain ⟨V1, P1⟩ := P1
      have C1 := cells_kept C0.out b1 (by simp)
      have hz1 := s1.only.size
      have hz1' : R ≤ w1.drew.heap.size := Nat.le_trans hR hz1
      clear b1 H C0 HB0
      go_wp2_with fail
      refine (under_any P1).mono ?_
      rw [hu]
      rintro e w2 ⟨rfl, rfl⟩
      have d0 : w1.cell? ⟨w.heap.size, 0, none⟩ = some (.int .i64 x.no) := C1.cell 0
      have d1 : w1.cell? ⟨w.heap.size, 1, none⟩ = some (.int .i64 x.at_) := C1.cell 1
      have d2 : w1.cell? ⟨w.heap.size, 2, none⟩ = some (.string (B x.text)) := C1.cell 2
      have d3 : w1.cell? ⟨w.heap.size, 3, none⟩ = some (.bool false) := C1.cell 3
      have lz := C1.lt
      have P1d : Hid (ParserV w1.drew T R b text p V1) := P1.same (fun _ _ => rfl) (Nat.le_refl _)
      have C1d : Hid (Cells w1.drew w.heap.size 47 _) := C1
      have S1 : Hid (PStep w T w1.drew T) := s1.drewN 1
      clear P1 C1 s1
      go_wp2
      go_region_with (go_at_call 24; refine (GO.out _ T V1 P1d.out hz1').mono ?_; rintro e w2 ⟨rfl, T2, g2, s2⟩; have C2 := C1d.out.only s2.only (fun e => e l0); have d3 : w2.cell? ⟨w.heap.size, 3, none⟩ = some (.bool false) := C2.cell 3)
      all_goals
        go_wp2_with fail
        refine (EF.out _ T2 g2 (S1.out.trans s2)).mono ?_
        rintro e w3 hE
        rw [if_neg h0] at hE
        obtain ⟨v, rfl, f3, o3, _, a3, rfl⟩ := hE
        go_wp2
        go_ret
        exact FIN.out _ _ f3 o3
end Go.Proofs.YthblpjjocokphaaGreatDoor
/- A line is taken that doesn't go on with a field. (Written by gen_take.py.) -/
namespace Go.Proofs.YthblpjjocokphaaGreatDoor
open Go.RowKit Go.Shelf
attribute [local go_sem] errV_0 errV_2

set_option maxRecDepth 100000 in
set_option maxHeartbeats 4000000 in
theorem take_off1 {w : World} {T : Nat → Nat} {R b : Nat} {text : ByteArray} {p : PS} (h : ParserAt w T R b text p) (hR : R ≤ w.heap.size) (x : Ln) (hi : Inv p x.at_) (hx : x.at_ + x.bytes.length ≤ text.size) (ht : text.size ≤ 70000) (hno : x.no ≤ x.at_) (hg : goesP p x = false) (hk : kindL x.text = 1) :
    Calls Tryz.prog 11 #[.pointer (some ⟨b, 0, none⟩), .agg #[.int .i64 x.no, .int .i64 x.at_, .string (B x.text), .bool x.ended]] w fun e w' => Taken w T R b text p x e w' := by
  have hbl : x.text.length ≤ x.bytes.length := by unfold Ln.bytes; simp
  have K : ∀ w, Calls Tryz.prog 22 #[.string (B x.text)] w fun e w' => e = .returned (.int .i64 1) ∧ Below w.heap.size w w' := fun w => by
    have := kind_any (B x.text) (by rw [B_size]; unfold maxLen; omega) w
    rw [B_data, hk] at this
    exact this
  have hu : kindL x.text = 3 → (!p.said.isEmpty) = false := by
    intro h3; unfold goesP at hg; rw [h3] at hg; simpa using hg
  have hl := h.lt
  have l0 := low_of h
  have H := Lib.hid h
  have C0 := Lib.hid (Cells.new w 47 #[.int .i64 x.no, .int .i64 x.at_, .string (B x.text), .bool x.ended])
  have HB0 := Lib.hid (PStep.below (T := T) ((Below.refl w.heap.size w).alloc (Nat.le_refl _) (.cells #[.int .i64 x.no, .int .i64 x.at_, .string (B x.text), .bool x.ended] 47)))
  have hw : wentP p x = p := by unfold wentP; rw [hg]; rfl
  have hen : endsP p x = true := by unfold endsP; rw [hg]; simp
  have hth : thenP p x = endFieldP p := by unfold thenP; rw [hen, if_pos rfl, hw]
  have hb := hi.said
  have hff : p.fields.length ≤ 1000000 := by have := hi.fields; omega
  have EF := Lib.hid (fun w1 T1 (g : ParserAt w1 T1 R b text p) (s : PStep w T w1 T1) => endField_any2 (p := p) g s hR (by omega) hff)
  clear h
  by_cases h0 : endFieldN p = 0
  · have NO := Lib.hid (fun (hwr : wrongP p x = true) v w' h1 h2 => Taken.no (w := w) (T := T) (R := R) (b := b) (text := text) (p := p) (x := x) (v := v) (w' := w') (a := x.no) (n := 2) (by unfold takeP; rw [hen, hwr, hw, h0]; simp) h1 h2)
    have YES := Lib.hid (fun (hwr : wrongP p x = false) T' w' h1 h2 => Taken.yes (w := w) (T := T) (T' := T') (R := R) (b := b) (text := text) (p := p) (q := putP text.data.toList (endFieldP p) x) (x := x) (w' := w') (by unfold takeP; rw [hen, hwr, hw, h0, hth]; simp) h1 h2)
    cases hend : x.ended
    case false =>
      rw [hend] at C0 HB0
      have hwr : wrongP p x = true := by unfold wrongP; rw [hk, hg, hend]; rfl
      have FIN := Lib.hid (NO.out hwr)
      clear YES NO
      clear hi hb hff hx
      go_enter Tryz.func11, Tryz.ntmps11
      go_wp2_with fail
      refine (K _).mono ?_
      rintro e w1 ⟨rfl, b1⟩
      have s1 := HB0.out.trans (PStep.below b1)
      have P1 : ParserAt w1 T R b text p := (H.out.below ((Below.refl _ _).alloc (Nat.le_refl _) _)).below b1
      have l1 := P1.lt
      have C1 := cells_kept C0.out b1 (by simp)
      have hz1 := s1.only.size
      have d0 : w1.cell? ⟨w.heap.size, 0, none⟩ = some (.int .i64 x.no) := C1.cell 0
      have d1 : w1.cell? ⟨w.heap.size, 1, none⟩ = some (.int .i64 x.at_) := C1.cell 1
      have d2 : w1.cell? ⟨w.heap.size, 2, none⟩ = some (.string (B x.text)) := C1.cell 2
      have d3 : w1.cell? ⟨w.heap.size, 3, none⟩ = some (.bool false) := C1.cell 3
      have lz := C1.lt
      clear b1 H C0 HB0
      go_wp2_with fail
      refine (EF.out _ T P1 s1).mono ?_
      rintro e w3 hE
      rw [if_pos h0] at hE
      obtain ⟨rfl, T3, g3, s3, s13⟩ := hE
      have C3 := C1.only s13.only (fun e => e (l0))
      have d0' : w3.cell? ⟨w.heap.size, 0, none⟩ = some (.int .i64 x.no) := C3.cell 0
      have d1' : w3.cell? ⟨w.heap.size, 1, none⟩ = some (.int .i64 x.at_) := C3.cell 1
      have d2' : w3.cell? ⟨w.heap.size, 2, none⟩ = some (.string (B x.text)) := C3.cell 2
      have lz3 := C3.lt
      have l3 := g3.lt
      go_wp2
      go_ret
      exact FIN.out _ _ (FaultAt.new _ _ 2 _ w3.heap.size rfl (by omega)) (s3.only.alloc _)
    case true =>
      rw [hend] at C0 HB0
      have hwr : wrongP p x = false := by unfold wrongP; rw [hk, hg, hend]; rfl
      have FIN := Lib.hid (YES.out hwr)
      clear YES NO
      have hbe : x.bytes.length = x.text.length + 1 := by unfold Ln.bytes; rw [hend]; simp
      have eP : putP text.data.toList (endFieldP p) x = endItemP text.data.toList (endBlockP text.data.toList (endFieldP p) x.at_) 1 (x.at_ + x.text.length + 1) := by unfold putP; rw [hk]; rfl
      rw [eP] at FIN
      have hi2 := hi.endField
      have hi3 := hi2.endBlock text.data.toList x.at_ hi2.at_ (Nat.le_refl _)
      have a3 := endBlock_at text.data.toList (endFieldP p) x.at_ hi2.at_
      have n1 : IntKind.i64.wrap ((x.at_ : Int) + (x.text.length : Int)) = (x.at_ : Int) + (x.text.length : Int) := IntWalk.i64_in _ (by omega)
      have n2 : IntKind.i64.wrap ((x.at_ : Int) + (x.text.length : Int) + 1) = (x.at_ : Int) + (x.text.length : Int) + 1 := IntWalk.i64_in _ (by omega)
      have zB := B_size x.text
      have HB := Lib.hid (fun w3 T3 (g : ParserAt w3 T3 R b text (endFieldP p)) hR3 => endBlock_any g hR3 x.at_ hi2.at_ (by omega) (by omega) (by have := hi2.items; have := hi2.at_; omega) (by have := hi2.stanzas; have := hi2.at_; omega))
      have HI := Lib.hid (fun w3 T3 V3 (g : ParserV w3 T3 R b text (endBlockP text.data.toList (endFieldP p) x.at_) V3) hR3 => endItem_any g hR3 1 (x.at_ + x.text.length + 1) (by omega) (by omega) (by omega) (by have := hi3.items; omega))
      clear hi hb hff hi3 hi2 a3
      go_enter Tryz.func11, Tryz.ntmps11
      go_wp2_with fail
      refine (K _).mono ?_
      rintro e w1 ⟨rfl, b1⟩
      have s1 := HB0.out.trans (PStep.below b1)
      have P1 : ParserAt w1 T R b text p := (H.out.below ((Below.refl _ _).alloc (Nat.le_refl _) _)).below b1
      have l1 := P1.lt
      have C1 := cells_kept C0.out b1 (by simp)
      have hz1 := s1.only.size
      have d0 : w1.cell? ⟨w.heap.size, 0, none⟩ = some (.int .i64 x.no) := C1.cell 0
      have d1 : w1.cell? ⟨w.heap.size, 1, none⟩ = some (.int .i64 x.at_) := C1.cell 1
      have d2 : w1.cell? ⟨w.heap.size, 2, none⟩ = some (.string (B x.text)) := C1.cell 2
      have d3 : w1.cell? ⟨w.heap.size, 3, none⟩ = some (.bool true) := C1.cell 3
      have lz := C1.lt
      clear b1 H C0 HB0
      go_wp2_with fail
      refine (EF.out _ T P1 s1).mono ?_
      rintro e w3 hE
      rw [if_pos h0] at hE
      obtain ⟨rfl, T3, g3, s3, s13⟩ := hE
      have C3 := C1.only s13.only (fun e => e (l0))
      have d0' : w3.cell? ⟨w.heap.size, 0, none⟩ = some (.int .i64 x.no) := C3.cell 0
      have d1' : w3.cell? ⟨w.heap.size, 1, none⟩ = some (.int .i64 x.at_) := C3.cell 1
      have d2' : w3.cell? ⟨w.heap.size, 2, none⟩ = some (.string (B x.text)) := C3.cell 2
      have lz3 := C3.lt
      have l3 := g3.lt
      have hz3 : R ≤ w3.heap.size := Nat.le_trans hR s3.only.size
      go_wp2_with fail
      refine (HB.out _ T3 g3 hz3).mono ?_
      rintro e w4 ⟨rfl, T4, g4, s4⟩
      have C4 := C3.only s4.only (fun e => e ((s13.old _ lz).2 l0))
      have e1' : w4.cell? ⟨w.heap.size, 1, none⟩ = some (.int .i64 x.at_) := C4.cell 1
      have e2' : w4.cell? ⟨w.heap.size, 2, none⟩ = some (.string (B x.text)) := C4.cell 2
      have lz4 := C4.lt
      have hz4 : R ≤ w4.heap.size := Nat.le_trans hz3 s4.only.size
      have l4 := g4.lt
      obtain ⟨V4, g4⟩ := g4
      go_wp2_with fail
      rw [show Value.int .i64 ((x.at_ : Int) + (x.text.length : Int) + 1) = Value.int .i64 ((x.at_ + x.text.length + 1 : Nat) : Int) from rfl]
      refine (HI.out _ T4 V4 g4 hz4).mono ?_
      rintro e w5 ⟨rfl, T5, g5, s5⟩
      go_wp2
      go_ret
      exact FIN.out T5 _ g5 ((s3.trans s4).trans s5)
  · have FIN := Lib.hid (fun v w' h1 h2 => Taken.no (w := w) (T := T) (R := R) (b := b) (text := text) (p := p) (x := x) (v := v) (w' := w') (a := p.begin_) (n := endFieldN p) (by unfold takeP; rw [hen, hw, if_pos ⟨rfl, h0⟩]) h1 h2)
    clear hi hb hff hx
    cases hend : x.ended
    case false =>
      rw [hend] at C0 HB0
      go_enter Tryz.func11, Tryz.ntmps11
      go_wp2_with fail
      refine (K _).mono ?_
      rintro e w1 ⟨rfl, b1⟩
      have s1 := HB0.out.trans (PStep.below b1)
      have P1 : ParserAt w1 T R b text p := (H.out.below ((Below.refl _ _).alloc (Nat.le_refl _) _)).below b1
      have l1 := P1.lt
      have C1 := cells_kept C0.out b1 (by simp)
      have hz1 := s1.only.size
      have d0 : w1.cell? ⟨w.heap.size, 0, none⟩ = some (.int .i64 x.no) := C1.cell 0
      have d1 : w1.cell? ⟨w.heap.size, 1, none⟩ = some (.int .i64 x.at_) := C1.cell 1
      have d2 : w1.cell? ⟨w.heap.size, 2, none⟩ = some (.string (B x.text)) := C1.cell 2
      have d3 : w1.cell? ⟨w.heap.size, 3, none⟩ = some (.bool false) := C1.cell 3
      have lz := C1.lt
      clear b1 H C0 HB0
      go_wp2_with fail
      refine (EF.out _ T P1 s1).mono ?_
      rintro e w3 hE
      rw [if_neg h0] at hE
      obtain ⟨v, rfl, f3, o3, _, a3, rfl⟩ := hE
      go_wp2
      go_ret
      exact FIN.out _ _ f3 o3
    case true =>
      rw [hend] at C0 HB0
      go_enter Tryz.func11, Tryz.ntmps11
      go_wp2_with fail
      refine (K _).mono ?_
      rintro e w1 ⟨rfl, b1⟩
      have s1 := HB0.out.trans (PStep.below b1)
      have P1 : ParserAt w1 T R b text p := (H.out.below ((Below.refl _ _).alloc (Nat.le_refl _) _)).below b1
      have l1 := P1.lt
      have C1 := cells_kept C0.out b1 (by simp)
      have hz1 := s1.only.size
      have d0 : w1.cell? ⟨w.heap.size, 0, none⟩ = some (.int .i64 x.no) := C1.cell 0
      have d1 : w1.cell? ⟨w.heap.size, 1, none⟩ = some (.int .i64 x.at_) := C1.cell 1
      have d2 : w1.cell? ⟨w.heap.size, 2, none⟩ = some (.string (B x.text)) := C1.cell 2
      have d3 : w1.cell? ⟨w.heap.size, 3, none⟩ = some (.bool true) := C1.cell 3
      have lz := C1.lt
      clear b1 H C0 HB0
      go_wp2_with fail
      refine (EF.out _ T P1 s1).mono ?_
      rintro e w3 hE
      rw [if_neg h0] at hE
      obtain ⟨v, rfl, f3, o3, _, a3, rfl⟩ := hE
      go_wp2
      go_ret
      exact FIN.out _ _ f3 o3
set_option maxRecDepth 100000 in
set_option maxHeartbeats 4000000 in
theorem take_off2 {w : World} {T : Nat → Nat} {R b : Nat} {text : ByteArray} {p : PS} (h : ParserAt w T R b text p) (hR : R ≤ w.heap.size) (x : Ln) (hi : Inv p x.at_) (hx : x.at_ + x.bytes.length ≤ text.size) (ht : text.size ≤ 70000) (hno : x.no ≤ x.at_) (hg : goesP p x = false) (hk : kindL x.text = 2) :
    Calls Tryz.prog 11 #[.pointer (some ⟨b, 0, none⟩), .agg #[.int .i64 x.no, .int .i64 x.at_, .string (B x.text), .bool x.ended]] w fun e w' => Taken w T R b text p x e w' := by
  have hbl : x.text.length ≤ x.bytes.length := by unfold Ln.bytes; simp
  have K : ∀ w, Calls Tryz.prog 22 #[.string (B x.text)] w fun e w' => e = .returned (.int .i64 2) ∧ Below w.heap.size w w' := fun w => by
    have := kind_any (B x.text) (by rw [B_size]; unfold maxLen; omega) w
    rw [B_data, hk] at this
    exact this
  have hu : kindL x.text = 3 → (!p.said.isEmpty) = false := by
    intro h3; unfold goesP at hg; rw [h3] at hg; simpa using hg
  have hl := h.lt
  have l0 := low_of h
  have H := Lib.hid h
  have C0 := Lib.hid (Cells.new w 47 #[.int .i64 x.no, .int .i64 x.at_, .string (B x.text), .bool x.ended])
  have HB0 := Lib.hid (PStep.below (T := T) ((Below.refl w.heap.size w).alloc (Nat.le_refl _) (.cells #[.int .i64 x.no, .int .i64 x.at_, .string (B x.text), .bool x.ended] 47)))
  have hw : wentP p x = p := by unfold wentP; rw [hg]; rfl
  have hen : endsP p x = true := by unfold endsP; rw [hg]; simp
  have hth : thenP p x = endFieldP p := by unfold thenP; rw [hen, if_pos rfl, hw]
  have hb := hi.said
  have hff : p.fields.length ≤ 1000000 := by have := hi.fields; omega
  have EF := Lib.hid (fun w1 T1 (g : ParserAt w1 T1 R b text p) (s : PStep w T w1 T1) => endField_any2 (p := p) g s hR (by omega) hff)
  clear h
  by_cases h0 : endFieldN p = 0
  · have NO := Lib.hid (fun (hwr : wrongP p x = true) v w' h1 h2 => Taken.no (w := w) (T := T) (R := R) (b := b) (text := text) (p := p) (x := x) (v := v) (w' := w') (a := x.no) (n := 2) (by unfold takeP; rw [hen, hwr, hw, h0]; simp) h1 h2)
    have YES := Lib.hid (fun (hwr : wrongP p x = false) T' w' h1 h2 => Taken.yes (w := w) (T := T) (T' := T') (R := R) (b := b) (text := text) (p := p) (q := putP text.data.toList (endFieldP p) x) (x := x) (w' := w') (by unfold takeP; rw [hen, hwr, hw, h0, hth]; simp) h1 h2)
    cases hend : x.ended
    case false =>
      rw [hend] at C0 HB0
      have hwr : wrongP p x = true := by unfold wrongP; rw [hk, hg, hend]; rfl
      have FIN := Lib.hid (NO.out hwr)
      clear YES NO
      clear hi hb hff hx
      go_enter Tryz.func11, Tryz.ntmps11
      go_wp2_with fail
      refine (K _).mono ?_
      rintro e w1 ⟨rfl, b1⟩
      have s1 := HB0.out.trans (PStep.below b1)
      have P1 : ParserAt w1 T R b text p := (H.out.below ((Below.refl _ _).alloc (Nat.le_refl _) _)).below b1
      have l1 := P1.lt
      have C1 := cells_kept C0.out b1 (by simp)
      have hz1 := s1.only.size
      have d0 : w1.cell? ⟨w.heap.size, 0, none⟩ = some (.int .i64 x.no) := C1.cell 0
      have d1 : w1.cell? ⟨w.heap.size, 1, none⟩ = some (.int .i64 x.at_) := C1.cell 1
      have d2 : w1.cell? ⟨w.heap.size, 2, none⟩ = some (.string (B x.text)) := C1.cell 2
      have d3 : w1.cell? ⟨w.heap.size, 3, none⟩ = some (.bool false) := C1.cell 3
      have lz := C1.lt
      clear b1 H C0 HB0
      go_wp2_with fail
      refine (EF.out _ T P1 s1).mono ?_
      rintro e w3 hE
      rw [if_pos h0] at hE
      obtain ⟨rfl, T3, g3, s3, s13⟩ := hE
      have C3 := C1.only s13.only (fun e => e (l0))
      have d0' : w3.cell? ⟨w.heap.size, 0, none⟩ = some (.int .i64 x.no) := C3.cell 0
      have d1' : w3.cell? ⟨w.heap.size, 1, none⟩ = some (.int .i64 x.at_) := C3.cell 1
      have d2' : w3.cell? ⟨w.heap.size, 2, none⟩ = some (.string (B x.text)) := C3.cell 2
      have lz3 := C3.lt
      have l3 := g3.lt
      go_wp2
      go_ret
      exact FIN.out _ _ (FaultAt.new _ _ 2 _ w3.heap.size rfl (by omega)) (s3.only.alloc _)
    case true =>
      rw [hend] at C0 HB0
      have hwr : wrongP p x = false := by unfold wrongP; rw [hk, hg, hend]; rfl
      have FIN := Lib.hid (YES.out hwr)
      clear YES NO
      have hbe : x.bytes.length = x.text.length + 1 := by unfold Ln.bytes; rw [hend]; simp
      have eP : putP text.data.toList (endFieldP p) x = endFieldP p := by unfold putP; rw [hk]; rfl
      rw [eP] at FIN
      clear hi hb hff hx
      go_enter Tryz.func11, Tryz.ntmps11
      go_wp2_with fail
      refine (K _).mono ?_
      rintro e w1 ⟨rfl, b1⟩
      have s1 := HB0.out.trans (PStep.below b1)
      have P1 : ParserAt w1 T R b text p := (H.out.below ((Below.refl _ _).alloc (Nat.le_refl _) _)).below b1
      have l1 := P1.lt
      have C1 := cells_kept C0.out b1 (by simp)
      have hz1 := s1.only.size
      have d0 : w1.cell? ⟨w.heap.size, 0, none⟩ = some (.int .i64 x.no) := C1.cell 0
      have d1 : w1.cell? ⟨w.heap.size, 1, none⟩ = some (.int .i64 x.at_) := C1.cell 1
      have d2 : w1.cell? ⟨w.heap.size, 2, none⟩ = some (.string (B x.text)) := C1.cell 2
      have d3 : w1.cell? ⟨w.heap.size, 3, none⟩ = some (.bool true) := C1.cell 3
      have lz := C1.lt
      clear b1 H C0 HB0
      go_wp2_with fail
      refine (EF.out _ T P1 s1).mono ?_
      rintro e w3 hE
      rw [if_pos h0] at hE
      obtain ⟨rfl, T3, g3, s3, s13⟩ := hE
      have C3 := C1.only s13.only (fun e => e (l0))
      have d0' : w3.cell? ⟨w.heap.size, 0, none⟩ = some (.int .i64 x.no) := C3.cell 0
      have d1' : w3.cell? ⟨w.heap.size, 1, none⟩ = some (.int .i64 x.at_) := C3.cell 1
      have d2' : w3.cell? ⟨w.heap.size, 2, none⟩ = some (.string (B x.text)) := C3.cell 2
      have lz3 := C3.lt
      have l3 := g3.lt
      go_wp2
      go_ret
      exact FIN.out _ _ g3 s3
  · have FIN := Lib.hid (fun v w' h1 h2 => Taken.no (w := w) (T := T) (R := R) (b := b) (text := text) (p := p) (x := x) (v := v) (w' := w') (a := p.begin_) (n := endFieldN p) (by unfold takeP; rw [hen, hw, if_pos ⟨rfl, h0⟩]) h1 h2)
    clear hi hb hff hx
    cases hend : x.ended
    case false =>
      rw [hend] at C0 HB0
      go_enter Tryz.func11, Tryz.ntmps11
      go_wp2_with fail
      refine (K _).mono ?_
      rintro e w1 ⟨rfl, b1⟩
      have s1 := HB0.out.trans (PStep.below b1)
      have P1 : ParserAt w1 T R b text p := (H.out.below ((Below.refl _ _).alloc (Nat.le_refl _) _)).below b1
      have l1 := P1.lt
      have C1 := cells_kept C0.out b1 (by simp)
      have hz1 := s1.only.size
      have d0 : w1.cell? ⟨w.heap.size, 0, none⟩ = some (.int .i64 x.no) := C1.cell 0
      have d1 : w1.cell? ⟨w.heap.size, 1, none⟩ = some (.int .i64 x.at_) := C1.cell 1
      have d2 : w1.cell? ⟨w.heap.size, 2, none⟩ = some (.string (B x.text)) := C1.cell 2
      have d3 : w1.cell? ⟨w.heap.size, 3, none⟩ = some (.bool false) := C1.cell 3
      have lz := C1.lt
      clear b1 H C0 HB0
      go_wp2_with fail
      refine (EF.out _ T P1 s1).mono ?_
      rintro e w3 hE
      rw [if_neg h0] at hE
      obtain ⟨v, rfl, f3, o3, _, a3, rfl⟩ := hE
      go_wp2
      go_ret
      exact FIN.out _ _ f3 o3
    case true =>
      rw [hend] at C0 HB0
      go_enter Tryz.func11, Tryz.ntmps11
      go_wp2_with fail
      refine (K _).mono ?_
      rintro e w1 ⟨rfl, b1⟩
      have s1 := HB0.out.trans (PStep.below b1)
      have P1 : ParserAt w1 T R b text p := (H.out.below ((Below.refl _ _).alloc (Nat.le_refl _) _)).below b1
      have l1 := P1.lt
      have C1 := cells_kept C0.out b1 (by simp)
      have hz1 := s1.only.size
      have d0 : w1.cell? ⟨w.heap.size, 0, none⟩ = some (.int .i64 x.no) := C1.cell 0
      have d1 : w1.cell? ⟨w.heap.size, 1, none⟩ = some (.int .i64 x.at_) := C1.cell 1
      have d2 : w1.cell? ⟨w.heap.size, 2, none⟩ = some (.string (B x.text)) := C1.cell 2
      have d3 : w1.cell? ⟨w.heap.size, 3, none⟩ = some (.bool true) := C1.cell 3
      have lz := C1.lt
      clear b1 H C0 HB0
      go_wp2_with fail
      refine (EF.out _ T P1 s1).mono ?_
      rintro e w3 hE
      rw [if_neg h0] at hE
      obtain ⟨v, rfl, f3, o3, _, a3, rfl⟩ := hE
      go_wp2
      go_ret
      exact FIN.out _ _ f3 o3
set_option maxRecDepth 100000 in
set_option maxHeartbeats 4000000 in
theorem take_off3 {w : World} {T : Nat → Nat} {R b : Nat} {text : ByteArray} {p : PS} (h : ParserAt w T R b text p) (hR : R ≤ w.heap.size) (x : Ln) (hi : Inv p x.at_) (hx : x.at_ + x.bytes.length ≤ text.size) (ht : text.size ≤ 70000) (hno : x.no ≤ x.at_) (hg : goesP p x = false) (hk : kindL x.text = 3) :
    Calls Tryz.prog 11 #[.pointer (some ⟨b, 0, none⟩), .agg #[.int .i64 x.no, .int .i64 x.at_, .string (B x.text), .bool x.ended]] w fun e w' => Taken w T R b text p x e w' := by
  have hbl : x.text.length ≤ x.bytes.length := by unfold Ln.bytes; simp
  have K : ∀ w, Calls Tryz.prog 22 #[.string (B x.text)] w fun e w' => e = .returned (.int .i64 3) ∧ Below w.heap.size w w' := fun w => by
    have := kind_any (B x.text) (by rw [B_size]; unfold maxLen; omega) w
    rw [B_data, hk] at this
    exact this
  have hu : kindL x.text = 3 → (!p.said.isEmpty) = false := by
    intro h3; unfold goesP at hg; rw [h3] at hg; simpa using hg
  have hl := h.lt
  have l0 := low_of h
  have H := Lib.hid h
  have C0 := Lib.hid (Cells.new w 47 #[.int .i64 x.no, .int .i64 x.at_, .string (B x.text), .bool x.ended])
  have HB0 := Lib.hid (PStep.below (T := T) ((Below.refl w.heap.size w).alloc (Nat.le_refl _) (.cells #[.int .i64 x.no, .int .i64 x.at_, .string (B x.text), .bool x.ended] 47)))
  have hw : wentP p x = p := by unfold wentP; rw [hg]; rfl
  have hen : endsP p x = true := by unfold endsP; rw [hg]; simp
  have hth : thenP p x = endFieldP p := by unfold thenP; rw [hen, if_pos rfl, hw]
  have hb := hi.said
  have hff : p.fields.length ≤ 1000000 := by have := hi.fields; omega
  have EF := Lib.hid (fun w1 T1 (g : ParserAt w1 T1 R b text p) (s : PStep w T w1 T1) => endField_any2 (p := p) g s hR (by omega) hff)
  clear h
  by_cases h0 : endFieldN p = 0
  · have NO := Lib.hid (fun (hwr : wrongP p x = true) v w' h1 h2 => Taken.no (w := w) (T := T) (R := R) (b := b) (text := text) (p := p) (x := x) (v := v) (w' := w') (a := x.no) (n := 2) (by unfold takeP; rw [hen, hwr, hw, h0]; simp) h1 h2)
    have YES := Lib.hid (fun (hwr : wrongP p x = false) T' w' h1 h2 => Taken.yes (w := w) (T := T) (T' := T') (R := R) (b := b) (text := text) (p := p) (q := putP text.data.toList (endFieldP p) x) (x := x) (w' := w') (by unfold takeP; rw [hen, hwr, hw, h0, hth]; simp) h1 h2)
    cases hend : x.ended
    case false =>
      rw [hend] at C0 HB0
      have hwr : wrongP p x = true := by unfold wrongP; rw [hk, hg, hend]; rfl
      have FIN := Lib.hid (NO.out hwr)
      clear YES NO
      clear hi hb hff hx
      go_enter Tryz.func11, Tryz.ntmps11
      go_wp2_with fail
      refine (K _).mono ?_
      rintro e w1 ⟨rfl, b1⟩
      have s1 := HB0.out.trans (PStep.below b1)
      have P1 : ParserAt w1 T R b text p := (H.out.below ((Below.refl _ _).alloc (Nat.le_refl _) _)).below b1
      have l1 := P1.lt
      have C1 := cells_kept C0.out b1 (by simp)
      have hz1 := s1.only.size
      have d0 : w1.cell? ⟨w.heap.size, 0, none⟩ = some (.int .i64 x.no) := C1.cell 0
      have d1 : w1.cell? ⟨w.heap.size, 1, none⟩ = some (.int .i64 x.at_) := C1.cell 1
      have d2 : w1.cell? ⟨w.heap.size, 2, none⟩ = some (.string (B x.text)) := C1.cell 2
      have d3 : w1.cell? ⟨w.heap.size, 3, none⟩ = some (.bool false) := C1.cell 3
      have lz := C1.lt
      clear b1 H C0 HB0
      go_wp2_with fail
      obtain ⟨V1, PV1⟩ := P1
      refine (under_any PV1).mono ?_
      rw [hu hk]
      rintro e w2 ⟨rfl, rfl⟩
      replace P1 : ParserAt w1 T R b text p := ⟨V1, PV1⟩
      clear PV1
      go_wp2_with fail
      refine (EF.out _ T P1 s1).mono ?_
      rintro e w3 hE
      rw [if_pos h0] at hE
      obtain ⟨rfl, T3, g3, s3, s13⟩ := hE
      have C3 := C1.only s13.only (fun e => e (l0))
      have d0' : w3.cell? ⟨w.heap.size, 0, none⟩ = some (.int .i64 x.no) := C3.cell 0
      have d1' : w3.cell? ⟨w.heap.size, 1, none⟩ = some (.int .i64 x.at_) := C3.cell 1
      have d2' : w3.cell? ⟨w.heap.size, 2, none⟩ = some (.string (B x.text)) := C3.cell 2
      have lz3 := C3.lt
      have l3 := g3.lt
      go_wp2
      go_ret
      exact FIN.out _ _ (FaultAt.new _ _ 2 _ w3.heap.size rfl (by omega)) (s3.only.alloc _)
    case true =>
      rw [hend] at C0 HB0
      have hwr : wrongP p x = true := by unfold wrongP; rw [hk, hg, hend]; rfl
      have FIN := Lib.hid (NO.out hwr)
      clear YES NO
      clear hi hb hff hx
      go_enter Tryz.func11, Tryz.ntmps11
      go_wp2_with fail
      refine (K _).mono ?_
      rintro e w1 ⟨rfl, b1⟩
      have s1 := HB0.out.trans (PStep.below b1)
      have P1 : ParserAt w1 T R b text p := (H.out.below ((Below.refl _ _).alloc (Nat.le_refl _) _)).below b1
      have l1 := P1.lt
      have C1 := cells_kept C0.out b1 (by simp)
      have hz1 := s1.only.size
      have d0 : w1.cell? ⟨w.heap.size, 0, none⟩ = some (.int .i64 x.no) := C1.cell 0
      have d1 : w1.cell? ⟨w.heap.size, 1, none⟩ = some (.int .i64 x.at_) := C1.cell 1
      have d2 : w1.cell? ⟨w.heap.size, 2, none⟩ = some (.string (B x.text)) := C1.cell 2
      have d3 : w1.cell? ⟨w.heap.size, 3, none⟩ = some (.bool true) := C1.cell 3
      have lz := C1.lt
      clear b1 H C0 HB0
      go_wp2_with fail
      obtain ⟨V1, PV1⟩ := P1
      refine (under_any PV1).mono ?_
      rw [hu hk]
      rintro e w2 ⟨rfl, rfl⟩
      replace P1 : ParserAt w1 T R b text p := ⟨V1, PV1⟩
      clear PV1
      go_wp2_with fail
      refine (EF.out _ T P1 s1).mono ?_
      rintro e w3 hE
      rw [if_pos h0] at hE
      obtain ⟨rfl, T3, g3, s3, s13⟩ := hE
      have C3 := C1.only s13.only (fun e => e (l0))
      have d0' : w3.cell? ⟨w.heap.size, 0, none⟩ = some (.int .i64 x.no) := C3.cell 0
      have d1' : w3.cell? ⟨w.heap.size, 1, none⟩ = some (.int .i64 x.at_) := C3.cell 1
      have d2' : w3.cell? ⟨w.heap.size, 2, none⟩ = some (.string (B x.text)) := C3.cell 2
      have lz3 := C3.lt
      have l3 := g3.lt
      go_wp2
      go_ret
      exact FIN.out _ _ (FaultAt.new _ _ 2 _ w3.heap.size rfl (by omega)) (s3.only.alloc _)
  · have FIN := Lib.hid (fun v w' h1 h2 => Taken.no (w := w) (T := T) (R := R) (b := b) (text := text) (p := p) (x := x) (v := v) (w' := w') (a := p.begin_) (n := endFieldN p) (by unfold takeP; rw [hen, hw, if_pos ⟨rfl, h0⟩]) h1 h2)
    clear hi hb hff hx
    cases hend : x.ended
    case false =>
      rw [hend] at C0 HB0
      go_enter Tryz.func11, Tryz.ntmps11
      go_wp2_with fail
      refine (K _).mono ?_
      rintro e w1 ⟨rfl, b1⟩
      have s1 := HB0.out.trans (PStep.below b1)
      have P1 : ParserAt w1 T R b text p := (H.out.below ((Below.refl _ _).alloc (Nat.le_refl _) _)).below b1
      have l1 := P1.lt
      have C1 := cells_kept C0.out b1 (by simp)
      have hz1 := s1.only.size
      have d0 : w1.cell? ⟨w.heap.size, 0, none⟩ = some (.int .i64 x.no) := C1.cell 0
      have d1 : w1.cell? ⟨w.heap.size, 1, none⟩ = some (.int .i64 x.at_) := C1.cell 1
      have d2 : w1.cell? ⟨w.heap.size, 2, none⟩ = some (.string (B x.text)) := C1.cell 2
      have d3 : w1.cell? ⟨w.heap.size, 3, none⟩ = some (.bool false) := C1.cell 3
      have lz := C1.lt
      clear b1 H C0 HB0
      go_wp2_with fail
      obtain ⟨V1, PV1⟩ := P1
      refine (under_any PV1).mono ?_
      rw [hu hk]
      rintro e w2 ⟨rfl, rfl⟩
      replace P1 : ParserAt w1 T R b text p := ⟨V1, PV1⟩
      clear PV1
      go_wp2_with fail
      refine (EF.out _ T P1 s1).mono ?_
      rintro e w3 hE
      rw [if_neg h0] at hE
      obtain ⟨v, rfl, f3, o3, _, a3, rfl⟩ := hE
      go_wp2
      go_ret
      exact FIN.out _ _ f3 o3
    case true =>
      rw [hend] at C0 HB0
      go_enter Tryz.func11, Tryz.ntmps11
      go_wp2_with fail
      refine (K _).mono ?_
      rintro e w1 ⟨rfl, b1⟩
      have s1 := HB0.out.trans (PStep.below b1)
      have P1 : ParserAt w1 T R b text p := (H.out.below ((Below.refl _ _).alloc (Nat.le_refl _) _)).below b1
      have l1 := P1.lt
      have C1 := cells_kept C0.out b1 (by simp)
      have hz1 := s1.only.size
      have d0 : w1.cell? ⟨w.heap.size, 0, none⟩ = some (.int .i64 x.no) := C1.cell 0
      have d1 : w1.cell? ⟨w.heap.size, 1, none⟩ = some (.int .i64 x.at_) := C1.cell 1
      have d2 : w1.cell? ⟨w.heap.size, 2, none⟩ = some (.string (B x.text)) := C1.cell 2
      have d3 : w1.cell? ⟨w.heap.size, 3, none⟩ = some (.bool true) := C1.cell 3
      have lz := C1.lt
      clear b1 H C0 HB0
      go_wp2_with fail
      obtain ⟨V1, PV1⟩ := P1
      refine (under_any PV1).mono ?_
      rw [hu hk]
      rintro e w2 ⟨rfl, rfl⟩
      replace P1 : ParserAt w1 T R b text p := ⟨V1, PV1⟩
      clear PV1
      go_wp2_with fail
      refine (EF.out _ T P1 s1).mono ?_
      rintro e w3 hE
      rw [if_neg h0] at hE
      obtain ⟨v, rfl, f3, o3, _, a3, rfl⟩ := hE
      go_wp2
      go_ret
      exact FIN.out _ _ f3 o3
set_option maxRecDepth 100000 in
set_option maxHeartbeats 4000000 in
theorem take_off4 {w : World} {T : Nat → Nat} {R b : Nat} {text : ByteArray} {p : PS} (h : ParserAt w T R b text p) (hR : R ≤ w.heap.size) (x : Ln) (hi : Inv p x.at_) (hx : x.at_ + x.bytes.length ≤ text.size) (ht : text.size ≤ 70000) (hno : x.no ≤ x.at_) (hg : goesP p x = false) (hk : kindL x.text = 4) :
    Calls Tryz.prog 11 #[.pointer (some ⟨b, 0, none⟩), .agg #[.int .i64 x.no, .int .i64 x.at_, .string (B x.text), .bool x.ended]] w fun e w' => Taken w T R b text p x e w' := by
  have hbl : x.text.length ≤ x.bytes.length := by unfold Ln.bytes; simp
  have K : ∀ w, Calls Tryz.prog 22 #[.string (B x.text)] w fun e w' => e = .returned (.int .i64 4) ∧ Below w.heap.size w w' := fun w => by
    have := kind_any (B x.text) (by rw [B_size]; unfold maxLen; omega) w
    rw [B_data, hk] at this
    exact this
  have hu : kindL x.text = 3 → (!p.said.isEmpty) = false := by
    intro h3; unfold goesP at hg; rw [h3] at hg; simpa using hg
  have hl := h.lt
  have l0 := low_of h
  have H := Lib.hid h
  have C0 := Lib.hid (Cells.new w 47 #[.int .i64 x.no, .int .i64 x.at_, .string (B x.text), .bool x.ended])
  have HB0 := Lib.hid (PStep.below (T := T) ((Below.refl w.heap.size w).alloc (Nat.le_refl _) (.cells #[.int .i64 x.no, .int .i64 x.at_, .string (B x.text), .bool x.ended] 47)))
  have hw : wentP p x = p := by unfold wentP; rw [hg]; rfl
  have hen : endsP p x = true := by unfold endsP; rw [hg]; simp
  have hth : thenP p x = endFieldP p := by unfold thenP; rw [hen, if_pos rfl, hw]
  have hb := hi.said
  have hff : p.fields.length ≤ 1000000 := by have := hi.fields; omega
  have EF := Lib.hid (fun w1 T1 (g : ParserAt w1 T1 R b text p) (s : PStep w T w1 T1) => endField_any2 (p := p) g s hR (by omega) hff)
  clear h
  by_cases h0 : endFieldN p = 0
  · have NO := Lib.hid (fun (hwr : wrongP p x = true) v w' h1 h2 => Taken.no (w := w) (T := T) (R := R) (b := b) (text := text) (p := p) (x := x) (v := v) (w' := w') (a := x.no) (n := 2) (by unfold takeP; rw [hen, hwr, hw, h0]; simp) h1 h2)
    have YES := Lib.hid (fun (hwr : wrongP p x = false) T' w' h1 h2 => Taken.yes (w := w) (T := T) (T' := T') (R := R) (b := b) (text := text) (p := p) (q := putP text.data.toList (endFieldP p) x) (x := x) (w' := w') (by unfold takeP; rw [hen, hwr, hw, h0, hth]; simp) h1 h2)
    cases hend : x.ended
    case false =>
      rw [hend] at C0 HB0
      have hwr : wrongP p x = true := by unfold wrongP; rw [hk, hg, hend]; rfl
      have FIN := Lib.hid (NO.out hwr)
      clear YES NO
      clear hi hb hff hx
      go_enter Tryz.func11, Tryz.ntmps11
      go_wp2_with fail
      refine (K _).mono ?_
      rintro e w1 ⟨rfl, b1⟩
      have s1 := HB0.out.trans (PStep.below b1)
      have P1 : ParserAt w1 T R b text p := (H.out.below ((Below.refl _ _).alloc (Nat.le_refl _) _)).below b1
      have l1 := P1.lt
      have C1 := cells_kept C0.out b1 (by simp)
      have hz1 := s1.only.size
      have d0 : w1.cell? ⟨w.heap.size, 0, none⟩ = some (.int .i64 x.no) := C1.cell 0
      have d1 : w1.cell? ⟨w.heap.size, 1, none⟩ = some (.int .i64 x.at_) := C1.cell 1
      have d2 : w1.cell? ⟨w.heap.size, 2, none⟩ = some (.string (B x.text)) := C1.cell 2
      have d3 : w1.cell? ⟨w.heap.size, 3, none⟩ = some (.bool false) := C1.cell 3
      have lz := C1.lt
      clear b1 H C0 HB0
      go_wp2_with fail
      refine (EF.out _ T P1 s1).mono ?_
      rintro e w3 hE
      rw [if_pos h0] at hE
      obtain ⟨rfl, T3, g3, s3, s13⟩ := hE
      have C3 := C1.only s13.only (fun e => e (l0))
      have d0' : w3.cell? ⟨w.heap.size, 0, none⟩ = some (.int .i64 x.no) := C3.cell 0
      have d1' : w3.cell? ⟨w.heap.size, 1, none⟩ = some (.int .i64 x.at_) := C3.cell 1
      have d2' : w3.cell? ⟨w.heap.size, 2, none⟩ = some (.string (B x.text)) := C3.cell 2
      have lz3 := C3.lt
      have l3 := g3.lt
      go_wp2
      go_ret
      exact FIN.out _ _ (FaultAt.new _ _ 2 _ w3.heap.size rfl (by omega)) (s3.only.alloc _)
    case true =>
      rw [hend] at C0 HB0
      have hwr : wrongP p x = false := by unfold wrongP; rw [hk, hg, hend]; rfl
      have FIN := Lib.hid (YES.out hwr)
      clear YES NO
      have hbe : x.bytes.length = x.text.length + 1 := by unfold Ln.bytes; rw [hend]; simp
      have eP : putP text.data.toList (endFieldP p) x = startP (endFieldP p) x := by unfold putP startP; rw [hk, if_pos rfl]
      rw [eP] at FIN
      have HS := Lib.hid (fun w3 T3 V3 (g : ParserV w3 T3 R b text (endFieldP p) V3) hR3 => start_any g hR3 x)
      rw [hend] at HS
      clear hi hb hff hx
      go_enter Tryz.func11, Tryz.ntmps11
      go_wp2_with fail
      refine (K _).mono ?_
      rintro e w1 ⟨rfl, b1⟩
      have s1 := HB0.out.trans (PStep.below b1)
      have P1 : ParserAt w1 T R b text p := (H.out.below ((Below.refl _ _).alloc (Nat.le_refl _) _)).below b1
      have l1 := P1.lt
      have C1 := cells_kept C0.out b1 (by simp)
      have hz1 := s1.only.size
      have d0 : w1.cell? ⟨w.heap.size, 0, none⟩ = some (.int .i64 x.no) := C1.cell 0
      have d1 : w1.cell? ⟨w.heap.size, 1, none⟩ = some (.int .i64 x.at_) := C1.cell 1
      have d2 : w1.cell? ⟨w.heap.size, 2, none⟩ = some (.string (B x.text)) := C1.cell 2
      have d3 : w1.cell? ⟨w.heap.size, 3, none⟩ = some (.bool true) := C1.cell 3
      have lz := C1.lt
      clear b1 H C0 HB0
      go_wp2_with fail
      refine (EF.out _ T P1 s1).mono ?_
      rintro e w3 hE
      rw [if_pos h0] at hE
      obtain ⟨rfl, T3, g3, s3, s13⟩ := hE
      have C3 := C1.only s13.only (fun e => e (l0))
      have d0' : w3.cell? ⟨w.heap.size, 0, none⟩ = some (.int .i64 x.no) := C3.cell 0
      have d1' : w3.cell? ⟨w.heap.size, 1, none⟩ = some (.int .i64 x.at_) := C3.cell 1
      have d2' : w3.cell? ⟨w.heap.size, 2, none⟩ = some (.string (B x.text)) := C3.cell 2
      have lz3 := C3.lt
      have l3 := g3.lt
      have d3' : w3.cell? ⟨w.heap.size, 3, none⟩ = some (.bool true) := C3.cell 3
      obtain ⟨V3, g3⟩ := g3
      have P3d : Hid (ParserV w3.drew T3 R b text (endFieldP p) V3) := g3.same (fun _ _ => rfl) (Nat.le_refl _)
      have S3 : Hid (PStep w T w3.drew T3) := s3.drewN 1
      have hz3 : R ≤ w3.drew.heap.size := Nat.le_trans hR s3.only.size
      clear g3 s3 s13
      go_wp2
      go_region_with (go_at_call 25; refine (HS.out _ T3 V3 P3d.out hz3).mono ?_; rintro e w4 ⟨rfl, T4, g4, s4⟩)
      all_goals
        go_wp2
        go_ret
        exact FIN.out T4 _ g4 (S3.out.trans s4)
  · have FIN := Lib.hid (fun v w' h1 h2 => Taken.no (w := w) (T := T) (R := R) (b := b) (text := text) (p := p) (x := x) (v := v) (w' := w') (a := p.begin_) (n := endFieldN p) (by unfold takeP; rw [hen, hw, if_pos ⟨rfl, h0⟩]) h1 h2)
    clear hi hb hff hx
    cases hend : x.ended
    case false =>
      rw [hend] at C0 HB0
      go_enter Tryz.func11, Tryz.ntmps11
      go_wp2_with fail
      refine (K _).mono ?_
      rintro e w1 ⟨rfl, b1⟩
      have s1 := HB0.out.trans (PStep.below b1)
      have P1 : ParserAt w1 T R b text p := (H.out.below ((Below.refl _ _).alloc (Nat.le_refl _) _)).below b1
      have l1 := P1.lt
      have C1 := cells_kept C0.out b1 (by simp)
      have hz1 := s1.only.size
      have d0 : w1.cell? ⟨w.heap.size, 0, none⟩ = some (.int .i64 x.no) := C1.cell 0
      have d1 : w1.cell? ⟨w.heap.size, 1, none⟩ = some (.int .i64 x.at_) := C1.cell 1
      have d2 : w1.cell? ⟨w.heap.size, 2, none⟩ = some (.string (B x.text)) := C1.cell 2
      have d3 : w1.cell? ⟨w.heap.size, 3, none⟩ = some (.bool false) := C1.cell 3
      have lz := C1.lt
      clear b1 H C0 HB0
      go_wp2_with fail
      refine (EF.out _ T P1 s1).mono ?_
      rintro e w3 hE
      rw [if_neg h0] at hE
      obtain ⟨v, rfl, f3, o3, _, a3, rfl⟩ := hE
      go_wp2
      go_ret
      exact FIN.out _ _ f3 o3
    case true =>
      rw [hend] at C0 HB0
      go_enter Tryz.func11, Tryz.ntmps11
      go_wp2_with fail
      refine (K _).mono ?_
      rintro e w1 ⟨rfl, b1⟩
      have s1 := HB0.out.trans (PStep.below b1)
      have P1 : ParserAt w1 T R b text p := (H.out.below ((Below.refl _ _).alloc (Nat.le_refl _) _)).below b1
      have l1 := P1.lt
      have C1 := cells_kept C0.out b1 (by simp)
      have hz1 := s1.only.size
      have d0 : w1.cell? ⟨w.heap.size, 0, none⟩ = some (.int .i64 x.no) := C1.cell 0
      have d1 : w1.cell? ⟨w.heap.size, 1, none⟩ = some (.int .i64 x.at_) := C1.cell 1
      have d2 : w1.cell? ⟨w.heap.size, 2, none⟩ = some (.string (B x.text)) := C1.cell 2
      have d3 : w1.cell? ⟨w.heap.size, 3, none⟩ = some (.bool true) := C1.cell 3
      have lz := C1.lt
      clear b1 H C0 HB0
      go_wp2_with fail
      refine (EF.out _ T P1 s1).mono ?_
      rintro e w3 hE
      rw [if_neg h0] at hE
      obtain ⟨v, rfl, f3, o3, _, a3, rfl⟩ := hE
      go_wp2
      go_ret
      exact FIN.out _ _ f3 o3
set_option maxRecDepth 100000 in
set_option maxHeartbeats 4000000 in
theorem take_off5 {w : World} {T : Nat → Nat} {R b : Nat} {text : ByteArray} {p : PS} (h : ParserAt w T R b text p) (hR : R ≤ w.heap.size) (x : Ln) (hi : Inv p x.at_) (hx : x.at_ + x.bytes.length ≤ text.size) (ht : text.size ≤ 70000) (hno : x.no ≤ x.at_) (hg : goesP p x = false) (hk : kindL x.text = 5) :
    Calls Tryz.prog 11 #[.pointer (some ⟨b, 0, none⟩), .agg #[.int .i64 x.no, .int .i64 x.at_, .string (B x.text), .bool x.ended]] w fun e w' => Taken w T R b text p x e w' := by
  have hbl : x.text.length ≤ x.bytes.length := by unfold Ln.bytes; simp
  have K : ∀ w, Calls Tryz.prog 22 #[.string (B x.text)] w fun e w' => e = .returned (.int .i64 5) ∧ Below w.heap.size w w' := fun w => by
    have := kind_any (B x.text) (by rw [B_size]; unfold maxLen; omega) w
    rw [B_data, hk] at this
    exact this
  have hu : kindL x.text = 3 → (!p.said.isEmpty) = false := by
    intro h3; unfold goesP at hg; rw [h3] at hg; simpa using hg
  have hl := h.lt
  have l0 := low_of h
  have H := Lib.hid h
  have C0 := Lib.hid (Cells.new w 47 #[.int .i64 x.no, .int .i64 x.at_, .string (B x.text), .bool x.ended])
  have HB0 := Lib.hid (PStep.below (T := T) ((Below.refl w.heap.size w).alloc (Nat.le_refl _) (.cells #[.int .i64 x.no, .int .i64 x.at_, .string (B x.text), .bool x.ended] 47)))
  have hw : wentP p x = p := by unfold wentP; rw [hg]; rfl
  have hen : endsP p x = true := by unfold endsP; rw [hg]; simp
  have hth : thenP p x = endFieldP p := by unfold thenP; rw [hen, if_pos rfl, hw]
  have hb := hi.said
  have hff : p.fields.length ≤ 1000000 := by have := hi.fields; omega
  have EF := Lib.hid (fun w1 T1 (g : ParserAt w1 T1 R b text p) (s : PStep w T w1 T1) => endField_any2 (p := p) g s hR (by omega) hff)
  clear h
  by_cases h0 : endFieldN p = 0
  · have NO := Lib.hid (fun (hwr : wrongP p x = true) v w' h1 h2 => Taken.no (w := w) (T := T) (R := R) (b := b) (text := text) (p := p) (x := x) (v := v) (w' := w') (a := x.no) (n := 2) (by unfold takeP; rw [hen, hwr, hw, h0]; simp) h1 h2)
    have YES := Lib.hid (fun (hwr : wrongP p x = false) T' w' h1 h2 => Taken.yes (w := w) (T := T) (T' := T') (R := R) (b := b) (text := text) (p := p) (q := putP text.data.toList (endFieldP p) x) (x := x) (w' := w') (by unfold takeP; rw [hen, hwr, hw, h0, hth]; simp) h1 h2)
    cases hend : x.ended
    case false =>
      rw [hend] at C0 HB0
      have hwr : wrongP p x = true := by unfold wrongP; rw [hk, hg, hend]; rfl
      have FIN := Lib.hid (NO.out hwr)
      clear YES NO
      clear hi hb hff hx
      go_enter Tryz.func11, Tryz.ntmps11
      go_wp2_with fail
      refine (K _).mono ?_
      rintro e w1 ⟨rfl, b1⟩
      have s1 := HB0.out.trans (PStep.below b1)
      have P1 : ParserAt w1 T R b text p := (H.out.below ((Below.refl _ _).alloc (Nat.le_refl _) _)).below b1
      have l1 := P1.lt
      have C1 := cells_kept C0.out b1 (by simp)
      have hz1 := s1.only.size
      have d0 : w1.cell? ⟨w.heap.size, 0, none⟩ = some (.int .i64 x.no) := C1.cell 0
      have d1 : w1.cell? ⟨w.heap.size, 1, none⟩ = some (.int .i64 x.at_) := C1.cell 1
      have d2 : w1.cell? ⟨w.heap.size, 2, none⟩ = some (.string (B x.text)) := C1.cell 2
      have d3 : w1.cell? ⟨w.heap.size, 3, none⟩ = some (.bool false) := C1.cell 3
      have lz := C1.lt
      clear b1 H C0 HB0
      go_wp2_with fail
      refine (EF.out _ T P1 s1).mono ?_
      rintro e w3 hE
      rw [if_pos h0] at hE
      obtain ⟨rfl, T3, g3, s3, s13⟩ := hE
      have C3 := C1.only s13.only (fun e => e (l0))
      have d0' : w3.cell? ⟨w.heap.size, 0, none⟩ = some (.int .i64 x.no) := C3.cell 0
      have d1' : w3.cell? ⟨w.heap.size, 1, none⟩ = some (.int .i64 x.at_) := C3.cell 1
      have d2' : w3.cell? ⟨w.heap.size, 2, none⟩ = some (.string (B x.text)) := C3.cell 2
      have lz3 := C3.lt
      have l3 := g3.lt
      go_wp2
      go_ret
      exact FIN.out _ _ (FaultAt.new _ _ 2 _ w3.heap.size rfl (by omega)) (s3.only.alloc _)
    case true =>
      rw [hend] at C0 HB0
      have hwr : wrongP p x = true := by unfold wrongP; rw [hk, hg, hend]; rfl
      have FIN := Lib.hid (NO.out hwr)
      clear YES NO
      clear hi hb hff hx
      go_enter Tryz.func11, Tryz.ntmps11
      go_wp2_with fail
      refine (K _).mono ?_
      rintro e w1 ⟨rfl, b1⟩
      have s1 := HB0.out.trans (PStep.below b1)
      have P1 : ParserAt w1 T R b text p := (H.out.below ((Below.refl _ _).alloc (Nat.le_refl _) _)).below b1
      have l1 := P1.lt
      have C1 := cells_kept C0.out b1 (by simp)
      have hz1 := s1.only.size
      have d0 : w1.cell? ⟨w.heap.size, 0, none⟩ = some (.int .i64 x.no) := C1.cell 0
      have d1 : w1.cell? ⟨w.heap.size, 1, none⟩ = some (.int .i64 x.at_) := C1.cell 1
      have d2 : w1.cell? ⟨w.heap.size, 2, none⟩ = some (.string (B x.text)) := C1.cell 2
      have d3 : w1.cell? ⟨w.heap.size, 3, none⟩ = some (.bool true) := C1.cell 3
      have lz := C1.lt
      clear b1 H C0 HB0
      go_wp2_with fail
      refine (EF.out _ T P1 s1).mono ?_
      rintro e w3 hE
      rw [if_pos h0] at hE
      obtain ⟨rfl, T3, g3, s3, s13⟩ := hE
      have C3 := C1.only s13.only (fun e => e (l0))
      have d0' : w3.cell? ⟨w.heap.size, 0, none⟩ = some (.int .i64 x.no) := C3.cell 0
      have d1' : w3.cell? ⟨w.heap.size, 1, none⟩ = some (.int .i64 x.at_) := C3.cell 1
      have d2' : w3.cell? ⟨w.heap.size, 2, none⟩ = some (.string (B x.text)) := C3.cell 2
      have lz3 := C3.lt
      have l3 := g3.lt
      go_wp2
      go_ret
      exact FIN.out _ _ (FaultAt.new _ _ 2 _ w3.heap.size rfl (by omega)) (s3.only.alloc _)
  · have FIN := Lib.hid (fun v w' h1 h2 => Taken.no (w := w) (T := T) (R := R) (b := b) (text := text) (p := p) (x := x) (v := v) (w' := w') (a := p.begin_) (n := endFieldN p) (by unfold takeP; rw [hen, hw, if_pos ⟨rfl, h0⟩]) h1 h2)
    clear hi hb hff hx
    cases hend : x.ended
    case false =>
      rw [hend] at C0 HB0
      go_enter Tryz.func11, Tryz.ntmps11
      go_wp2_with fail
      refine (K _).mono ?_
      rintro e w1 ⟨rfl, b1⟩
      have s1 := HB0.out.trans (PStep.below b1)
      have P1 : ParserAt w1 T R b text p := (H.out.below ((Below.refl _ _).alloc (Nat.le_refl _) _)).below b1
      have l1 := P1.lt
      have C1 := cells_kept C0.out b1 (by simp)
      have hz1 := s1.only.size
      have d0 : w1.cell? ⟨w.heap.size, 0, none⟩ = some (.int .i64 x.no) := C1.cell 0
      have d1 : w1.cell? ⟨w.heap.size, 1, none⟩ = some (.int .i64 x.at_) := C1.cell 1
      have d2 : w1.cell? ⟨w.heap.size, 2, none⟩ = some (.string (B x.text)) := C1.cell 2
      have d3 : w1.cell? ⟨w.heap.size, 3, none⟩ = some (.bool false) := C1.cell 3
      have lz := C1.lt
      clear b1 H C0 HB0
      go_wp2_with fail
      refine (EF.out _ T P1 s1).mono ?_
      rintro e w3 hE
      rw [if_neg h0] at hE
      obtain ⟨v, rfl, f3, o3, _, a3, rfl⟩ := hE
      go_wp2
      go_ret
      exact FIN.out _ _ f3 o3
    case true =>
      rw [hend] at C0 HB0
      go_enter Tryz.func11, Tryz.ntmps11
      go_wp2_with fail
      refine (K _).mono ?_
      rintro e w1 ⟨rfl, b1⟩
      have s1 := HB0.out.trans (PStep.below b1)
      have P1 : ParserAt w1 T R b text p := (H.out.below ((Below.refl _ _).alloc (Nat.le_refl _) _)).below b1
      have l1 := P1.lt
      have C1 := cells_kept C0.out b1 (by simp)
      have hz1 := s1.only.size
      have d0 : w1.cell? ⟨w.heap.size, 0, none⟩ = some (.int .i64 x.no) := C1.cell 0
      have d1 : w1.cell? ⟨w.heap.size, 1, none⟩ = some (.int .i64 x.at_) := C1.cell 1
      have d2 : w1.cell? ⟨w.heap.size, 2, none⟩ = some (.string (B x.text)) := C1.cell 2
      have d3 : w1.cell? ⟨w.heap.size, 3, none⟩ = some (.bool true) := C1.cell 3
      have lz := C1.lt
      clear b1 H C0 HB0
      go_wp2_with fail
      refine (EF.out _ T P1 s1).mono ?_
      rintro e w3 hE
      rw [if_neg h0] at hE
      obtain ⟨v, rfl, f3, o3, _, a3, rfl⟩ := hE
      go_wp2
      go_ret
      exact FIN.out _ _ f3 o3
end Go.Proofs.YthblpjjocokphaaGreatDoor
