/- Texts put together: WB, WC, WD, RH, DG, DH, DI, DJ, DK, DL, WE, WF, FA, FB. -/
import Derived.Deep.RegionWith
import Derived.Deep.AppendLies
import Derived.Deep.RegionHeld3
import Derived.Deep.DeepCutAuto
import Derived.Shelf.Abstract
import Derived.Shelf.RegionOpen
import Derived.OwnWalkIn
import Derived.TacticsInMore
import Derived.LoopNIn
import Derived.LoopIn
import Derived.Shelf.Strings.SlTrimAscii
import Derived.Test.YtoadimagpibfoaaGreatDoorBase2
set_option linter.unusedVariables false
/- The closure that answers a text's lines one by one. -/
namespace Go.Proofs.YtoadimagpibfoaaGreatDoor
open Go.RowKit

def restS (s : ByteArray) : ByteArray := if nl s.data.toList then s.extract ((head s.data.toList).length + 1) s.size else ⟨#[]⟩
theorem takeWhile_all {p : UInt8 → Bool} : ∀ {l : List UInt8}, (∀ x ∈ l, p x = true) → l.takeWhile p = l
  | [], _ => rfl
  | a :: l, h => by rw [List.takeWhile_cons, h a (by simp), if_pos rfl, takeWhile_all fun x hx => h x (by simp [hx])]
theorem cut_line (s : ByteArray) (w : World) (hs : s.size ≤ maxLen) :
    Calls Tryz.prog 23 #[.string s, .string ⟨#[10]⟩] w fun e w' => e = .returned (.tuple #[.string ⟨(head s.data.toList).toArray⟩, .string (restS s), .bool (nl s.data.toList)]) ∧ ∃ n, w' = w.drewN n := by
  by_cases h : (10 : UInt8) ∈ s.data.toList
  · have e1 : nl s.data.toList = true := by unfold nl; simpa using h
    have e2 : s.extract 0 (s.data.toList.takeWhile (· != 10)).length = ⟨(head s.data.toList).toArray⟩ := by
      have h0 := Lib.extract_data s 0 (s.data.toList.takeWhile (· != 10)).length
      rw [← Lib.mk_data (s.extract 0 _), h0]
      have : List.take ((s.data.toList.takeWhile (· != 10)).length - 0) (List.drop 0 s.data.toList) = head s.data.toList := by
        rw [List.drop_zero, Nat.sub_zero]
        exact (List.prefix_iff_eq_take.1 (List.takeWhile_prefix _)).symm
      rw [this]
    refine (cut_yes s 10 w hs h).mono ?_
    rintro e w' ⟨rfl, n, rfl⟩
    refine ⟨?_, n, rfl⟩
    rw [e1, e2]; unfold restS; rw [if_pos e1]; rfl
  · have e1 : nl s.data.toList = false := by unfold nl; simpa using h
    have e2 : head s.data.toList = s.data.toList := by
      exact takeWhile_all fun x hx => by simp; rintro rfl; exact h hx
    refine (cut_no s 10 w h).mono ?_
    rintro e w' ⟨rfl, n, rfl⟩
    refine ⟨?_, n, rfl⟩
    rw [e1, e2, Lib.mk_data]; unfold restS; rw [e1]; rfl

/-- Whatever lay lies as it lay, but for two blocks. -/
structure Two (b c : Nat) (W W' : World) : Prop where
  os : W'.os = W.os
  tape : W'.tape = W.tape
  output : W'.output = W.output
  size : W.heap.size ≤ W'.heap.size
  same : ∀ r, r < W.heap.size → r ≠ b → r ≠ c → W'.heap[r]? = W.heap[r]?
theorem Two.refl (b c : Nat) (W : World) : Two b c W W := ⟨rfl, rfl, rfl, Nat.le_refl _, fun _ _ _ _ => rfl⟩
theorem Two.alloc {b c : Nat} {X Y : World} (h : Two b c X Y) (o : Obj) : Two b c X (Y.alloc o) :=
  ⟨h.os, h.tape, h.output, by simp; have := h.size; omega, fun r a x y => (Below.heap_alloc _ _ _ (Nat.lt_of_lt_of_le a h.size)).trans (h.same r a x y)⟩
theorem Two.setCell {b c : Nat} {X Y : World} (h : Two b c X Y) {p : Addr} (hp : p.block = b ∨ p.block = c ∨ X.heap.size ≤ p.block) (u : Value) : Two b c X (Y.setCell p u) :=
  ⟨h.os, h.tape, h.output, by simp only [World.setCell, Array.size_modify]; exact h.size, fun r a x y => (Below.heap_setCell _ _ _ _ (by omega)).trans (h.same r a x y)⟩
theorem Two.drew {b c : Nat} {X Y : World} (h : Two b c X Y) : Two b c X Y.drew := ⟨h.os, h.tape, h.output, h.size, h.same⟩
theorem Two.drewN {b c : Nat} {X Y : World} (h : Two b c X Y) (n : Nat) : Two b c X (Y.drewN n) := ⟨h.os, h.tape, h.output, h.size, h.same⟩
theorem Two.box {b c d : Nat} {X Y : World} {t : TypeId} {v : Value} (h : Two b c X Y) (hv : Boxed X d t v) (x : d ≠ b) (y : d ≠ c) : Boxed Y d t v :=
  (h.same d hv.lt x y).trans hv
theorem Two.turned {b c B k : Nat} {X Y : World} (h : Two b c X Y) (hb : B ≤ b ∧ b < B + k) (hc : B ≤ c ∧ c < B + k) : Turned B k X Y :=
  ⟨h.os, h.tape, h.output, h.size, fun r a x => h.same r a (by omega) (by omega)⟩

set_option maxHeartbeats 400000 in
theorem next_no (s : ByteArray) (at_ : Nat) (Bat Btx Bno : Nat) (w : World) (hat : Boxed w Bat 3 (.int .i64 at_)) (htx : Boxed w Btx 9 (.string s)) (he : at_ = s.size) :
    Calls Tryz.prog 75 #[.pointer (some ⟨Bat, 0, none⟩), .pointer (some ⟨Btx, 0, none⟩), .pointer (some ⟨Bno, 0, none⟩)] w fun e w' =>
      e = .returned (.tuple #[.agg #[.int .i64 0, .int .i64 0, .string ⟨#[]⟩, .bool false], .bool false]) ∧ Two Bno Bat w w' := by
  have c1 := hat.cell
  have c2 := htx.cell
  have z1 := hat.lt
  have z2 := htx.lt
  have e1 : ((at_ : Int) == (s.size : Int)) = true := by rw [he]; simp
  go_enter Tryz.func75, Tryz.ntmps75
  go_wp2
  refine bodyPost_ret (v := .tuple #[.agg #[.int .i64 0, .int .i64 0, .string ⟨#[]⟩, .bool false], .bool false]) (by simp [results, Tryz.results75, go_sem]) rfl ⟨rfl, ?_⟩
  exact (Two.refl _ _ _).alloc _

set_option maxHeartbeats 8000000 in
theorem next_yes (s : ByteArray) (at_ no : Nat) (Bat Btx Bno : Nat) (w : World) (hat : Boxed w Bat 3 (.int .i64 at_)) (htx : Boxed w Btx 9 (.string s)) (hno : Boxed w Bno 3 (.int .i64 no))
    (h1 : at_ < s.size) (h2 : no < s.size) (hs : s.size ≤ 4294967295) (d1 : Bat ≠ Btx) (d2 : Bat ≠ Bno) (d3 : Btx ≠ Bno) :
    Calls Tryz.prog 75 #[.pointer (some ⟨Bat, 0, none⟩), .pointer (some ⟨Btx, 0, none⟩), .pointer (some ⟨Bno, 0, none⟩)] w fun e w' =>
      e = .returned (.tuple #[.agg (lineV ⟨no, at_, head (s.data.toList.drop at_), nl (s.data.toList.drop at_)⟩), .bool true]) ∧ Two Bno Bat w w' ∧ Boxed w' Bno 3 (.int .i64 (no + 1 : Nat)) ∧ Boxed w' Bat 3 (.int .i64 (at_ + used (s.data.toList.drop at_) : Nat)) := by
  have c1 := hat.cell
  have c2 := htx.cell
  have c3 := hno.cell
  have f1 := hat.frozen
  have f3 := hno.frozen
  have z1 := hat.lt
  have z2 := htx.lt
  have z3 := hno.lt
  have e1 : ((at_ : Int) == (s.size : Int)) = false := by rw [beq_eq_false_iff_ne]; omega
  go_enter Tryz.func75, Tryz.ntmps75
  go_wp2_with fail
  have hx : (s.extract at_ s.size).data.toList = s.data.toList.drop at_ := Lib.extract_to_end s at_
  have hz : (s.extract at_ s.size).size ≤ maxLen := by rw [Lib.size_eq, hx]; unfold maxLen; simp only [List.length_drop, ← Lib.size_eq]; omega
  refine (cut_line (s.extract at_ s.size) _ hz).mono ?_
  rw [hx]
  rintro e w1 ⟨rfl, n1, rfl⟩
  have hu : (head (s.data.toList.drop at_)).length + (endS (nl (s.data.toList.drop at_))).size = used (s.data.toList.drop at_) := by
    unfold used endS; cases nl (s.data.toList.drop at_) <;> rfl
  have hul := used_le (s.data.toList.drop at_)
  rw [List.length_drop, ← Lib.size_eq] at hul
  have hu' : (⟨(head (s.data.toList.drop at_)).toArray⟩ : ByteArray).size = (head (s.data.toList.drop at_)).length := by simp [Lib.size_eq]
  generalize hhd : head (s.data.toList.drop at_) = hd at *
  generalize hen : nl (s.data.toList.drop at_) = en at *
  generalize hus : used (s.data.toList.drop at_) = us at *
  have H1 := Lib.hid hhd
  have H2 := Lib.hid hen
  have H3 := Lib.hid hus
  clear hhd hen hus
  generalize restS (s.extract at_ s.size) = rs at *
  have HU := Lib.hid hu
  have HU' := Lib.hid hu'
  clear hu hu' hx hz
  have hat2 : Boxed (w.alloc (.cells #[.int .i64 0, .int .i64 0, .string ⟨#[]⟩, .bool false] 58)) Bat 3 (.int .i64 at_) := hat.alloc _
  go_upto_region 5 with fail
  go_cut [] (fun wx => Two Bno Bat w wx ∧ wx.heap.size = w.heap.size + 1 + 1 ∧ Boxed wx Bno 3 (.int .i64 (no + 1 : Nat)) ∧ Boxed wx Bat 3 (.int .i64 at_) ∧
    Cells wx w.heap.size 58 #[.int .i64 0, .int .i64 0, .string ⟨#[]⟩, .bool false] ∧ Cells wx (w.heap.size + 1) 58 #[.int .i64 no, .int .i64 at_, .string ⟨hd.toArray⟩, .bool en])
  case first =>
    go_wp2_with fail
    go_meet
    refine ⟨?_, ?_, ?_, ?_, ?_, ?_⟩
    · exact (((((((Two.refl Bno Bat w).alloc _).alloc _).drewN n1).setCell (.inr (.inr (by simp))) _).setCell (.inr (.inr (by simp))) _).setCell (.inl rfl) _)
    · simp [World.setCell]
    · exact Boxed.set _ (Cells.other (Cells.other (((Cells.alloc (Cells.alloc hno _) _).drewN n1)) (by simp; omega) _) (by simp; omega) _)
    · exact Cells.other (Cells.other (Cells.other (((Cells.alloc (Cells.alloc hat _) _).drewN n1)) (by simp; omega) _) (by simp; omega) _) d2 _
    · exact Cells.other (Cells.other (Cells.other (((Cells.alloc (Cells.new w _ _) _).drewN n1)) (by simp) _) (by simp) _) (by simp; omega) _
    · have h0 := Cells.new (w.alloc (.cells #[.int .i64 0, .int .i64 0, .string ⟨#[]⟩, .bool false] 58)) 58 #[.int .i64 no, .int .i64 at_, .string ⟨#[]⟩, .bool false]
      rw [World.size_alloc] at h0
      exact Cells.other (((h0.drewN n1).set 2 (.string ⟨hd.toArray⟩)).set 3 (.bool en)) (by simp; omega) _
  case rest =>
    obtain ⟨t1, t2, t3, t4, t5, t6⟩ := hcut
    have t3' := Lib.hid t3
    have q0 := t4.cell
    have q1 := t4.frozen
    have q2 : wc.cell? ⟨w.heap.size + 1, 2, none⟩ = some (.string ⟨hd.toArray⟩) := t6.cell 2
    have q3 : wc.cell? ⟨w.heap.size + 1, 0, none⟩ = some (.int .i64 no) := t6.cell 0
    have q4 : wc.cell? ⟨w.heap.size + 1, 1, none⟩ = some (.int .i64 at_) := t6.cell 1
    have g1 : (wc.alloc (.cells #[.int .i64 no, .int .i64 at_, .string ⟨hd.toArray⟩, .bool en] 58)).cell? ⟨Bat, 0, none⟩ = some (.int .i64 at_) := (Boxed.alloc t4 _).cell
    have g2 : (wc.alloc (.cells #[.int .i64 no, .int .i64 at_, .string ⟨hd.toArray⟩, .bool en] 58)).frozen? ⟨Bat, 0, none⟩ = false := (Boxed.alloc t4 _).frozen
    have keepA : ∀ o, ((wc.alloc o).cell? ⟨w.heap.size + 1, 0, none⟩ = some (.int .i64 no) ∧ (wc.alloc o).cell? ⟨w.heap.size + 1, 1, none⟩ = some (.int .i64 at_) ∧ (wc.alloc o).cell? ⟨w.heap.size + 1, 2, none⟩ = some (.string ⟨hd.toArray⟩) ∧ (wc.alloc o).cell? ⟨w.heap.size + 1, 3, none⟩ = some (.bool en)) :=
      fun o => ⟨(Cells.alloc t6 o).cell 0, (Cells.alloc t6 o).cell 1, (Cells.alloc t6 o).cell 2, (Cells.alloc t6 o).cell 3⟩
    have keepB : ∀ o v, (((wc.alloc o).setCell ⟨Bat, 0, none⟩ v).cell? ⟨w.heap.size + 1, 0, none⟩ = some (.int .i64 no) ∧ ((wc.alloc o).setCell ⟨Bat, 0, none⟩ v).cell? ⟨w.heap.size + 1, 1, none⟩ = some (.int .i64 at_) ∧ ((wc.alloc o).setCell ⟨Bat, 0, none⟩ v).cell? ⟨w.heap.size + 1, 2, none⟩ = some (.string ⟨hd.toArray⟩) ∧ ((wc.alloc o).setCell ⟨Bat, 0, none⟩ v).cell? ⟨w.heap.size + 1, 3, none⟩ = some (.bool en)) :=
      fun o v => by
        have hne : w.heap.size + 1 ≠ Bat := by omega
        exact ⟨((Cells.alloc t6 o).other hne v).cell 0, ((Cells.alloc t6 o).other hne v).cell 1, ((Cells.alloc t6 o).other hne v).cell 2, ((Cells.alloc t6 o).other hne v).cell 3⟩
    have g3 : (wc.alloc (.cells #[.int .i64 no, .int .i64 at_, .string ⟨hd.toArray⟩, .bool en] 58)).cell? ⟨w.heap.size + 1, 2, none⟩ = some (.string ⟨hd.toArray⟩) := (Cells.alloc t6 _).cell 2
    clear keepA keepB
    have n0 : (endS en).size ≤ 1 := by unfold endS; cases en <;> decide
    have n1 : hd.length ≤ 4294967295 := by have := HU.out; omega
    have n2 : hd.length + (endS en).size ≤ s.size - at_ := by have := HU.out; omega
    have n3 : IntKind.i64.wrap ((hd.length : Int) + ((endS en).size : Int)) = (hd.length : Int) + ((endS en).size : Int) := IntWalk.i64_in _ (by omega)
    have n4 : IntKind.i64.wrap ((at_ : Int) + ((hd.length : Int) + ((endS en).size : Int))) = (at_ : Int) + ((hd.length : Int) + ((endS en).size : Int)) := IntWalk.i64_in _ (by omega)
    have q5 : wc.cell? ⟨w.heap.size + 1, 3, none⟩ = some (.bool en) := t6.cell 3
    go_upto_region 6 with fail
    go_cut [] (fun wx => Two Bno Bat w wx ∧ Boxed wx Bno 3 (.int .i64 (no + 1 : Nat)) ∧ Boxed wx Bat 3 (.int .i64 (at_ + us : Nat)) ∧
      Cells wx w.heap.size 58 #[.int .i64 0, .int .i64 0, .string ⟨#[]⟩, .bool false] ∧ Cells wx (w.heap.size + 1) 58 #[.int .i64 no, .int .i64 at_, .string ⟨hd.toArray⟩, .bool en])
    case first =>
      go_region_with (go_at_call 76; refine (end_any _ _ _ _ _).mono ?_; rintro e w1 ⟨rfl, rfl⟩)
      all_goals
        go_wp2_with fail
        go_meet
        have e9 : Value.int .i64 ((at_ : Int) + ((hd.length : Int) + ((endS en).size : Int))) = Value.int .i64 ((at_ + us : Nat) : Int) := by have := HU.out; congr 1; omega
        rw [e9]
        exact ⟨((t1.alloc _).setCell (.inr (.inl rfl)) _).drew, Cells.other (Cells.alloc t3 _) (fun e => d2 e.symm) _, Boxed.set _ (Boxed.alloc t4 _), Cells.other (Cells.alloc t5 _) (by simp; omega) _, Cells.other (Cells.alloc t6 _) (by simp; omega) _⟩
    case rest =>
      obtain ⟨r1, r2, r3, r4, r5⟩ := hcut
      have s0 : wc.cell? ⟨w.heap.size + 1, 0, none⟩ = some (.int .i64 no) := r5.cell 0
      have s1 : wc.cell? ⟨w.heap.size + 1, 1, none⟩ = some (.int .i64 at_) := r5.cell 1
      have s2 : wc.cell? ⟨w.heap.size + 1, 2, none⟩ = some (.string ⟨hd.toArray⟩) := r5.cell 2
      have s3 : wc.cell? ⟨w.heap.size + 1, 3, none⟩ = some (.bool en) := r5.cell 3
      have s4 : wc.cell? ⟨w.heap.size, 0, none⟩ = some (.int .i64 0) := r4.cell 0
      have s5 : wc.cell? ⟨w.heap.size, 1, none⟩ = some (.int .i64 0) := r4.cell 1
      have s6 : wc.cell? ⟨w.heap.size, 2, none⟩ = some (.string ⟨#[]⟩) := r4.cell 2
      have s7 : wc.cell? ⟨w.heap.size, 3, none⟩ = some (.bool false) := r4.cell 3
      have y0 := r4.frozen 0
      have y1 := r4.frozen 1
      have y2 := r4.frozen 2
      have y3 := r4.frozen 3
      go_wp2_with fail
      have k4 := (((r4.set 0 (.int .i64 no)).set 1 (.int .i64 at_)).set 2 (.string ⟨hd.toArray⟩)).set 3 (.bool en)
      have w0 := k4.cell 0
      have w1 := k4.cell 1
      have w2 := k4.cell 2
      have w3 := k4.cell 3
      simp at w0 w1 w2 w3
      refine bodyPost_ret (v := .tuple #[.agg #[.int .i64 no, .int .i64 at_, .string ⟨hd.toArray⟩, .bool en], .bool true]) (by simp [results, Tryz.results75, go_sem, w0, w1, w2, w3]) rfl ?_
      have z5 : Bat ≠ w.heap.size := by omega
      have z6 : Bno ≠ w.heap.size := by omega
      refine ⟨by rw [H1.out, H2.out]; rfl, ?_, ?_, ?_⟩
      · exact (((r1.setCell (.inr (.inr (Nat.le_refl _))) _).setCell (.inr (.inr (Nat.le_refl _))) _).setCell (.inr (.inr (Nat.le_refl _))) _).setCell (.inr (.inr (Nat.le_refl _))) _
      · exact Cells.other (Cells.other (Cells.other (Cells.other r2 z6 _) z6 _) z6 _) z6 _
      · rw [H3.out]; exact Cells.other (Cells.other (Cells.other (Cells.other r3 z5 _) z5 _) z5 _) z5 _
end Go.Proofs.YtoadimagpibfoaaGreatDoor
/- The iterator over a text's lines: its contract. -/
namespace Go.Proofs.YtoadimagpibfoaaGreatDoor
open Go.RowKit Go.Shelf
attribute [local go_sem] Oper.semAt_some

theorem from_any (s : ByteArray) (w : World) :
    Calls Tryz.prog 59 #[.string s] w fun e w' => e = .returned (.func (.func 75) #[] #[.pointer (some ⟨w.heap.size + 1 + 1, 0, none⟩), .pointer (some ⟨w.heap.size, 0, none⟩), .pointer (some ⟨w.heap.size + 1, 0, none⟩)]) ∧
      w' = ((w.alloc (.cells #[.string s] 9)).alloc (.cells #[.int .i64 0] 3)).alloc (.cells #[.int .i64 0] 3) := by
  go_enter Tryz.func59, Tryz.ntmps59
  go_wp2
  go_ret
  exact ⟨rfl, rfl⟩

theorem next_yes2 (s : ByteArray) (at_ no : Nat) (Bat Btx Bno : Nat) (w : World) (hat : Boxed w Bat 3 (.int .i64 at_)) (htx : Boxed w Btx 9 (.string s)) (hno : Boxed w Bno 3 (.int .i64 no))
    (h1 : at_ < s.size) (h2 : no < s.size) (hs : s.size ≤ 4294967295) (d1 : Bat ≠ Btx) (d2 : Bat ≠ Bno) (d3 : Btx ≠ Bno) (hd : List UInt8) (en : Bool) (us : Nat)
    (H1 : head (s.data.toList.drop at_) = hd) (H2 : nl (s.data.toList.drop at_) = en) (H3 : used (s.data.toList.drop at_) = us) :
    Calls Tryz.prog 75 #[.pointer (some ⟨Bat, 0, none⟩), .pointer (some ⟨Btx, 0, none⟩), .pointer (some ⟨Bno, 0, none⟩)] w fun e w' =>
      e = .returned (.tuple #[.agg #[.int .i64 no, .int .i64 at_, .string ⟨hd.toArray⟩, .bool en], .bool true]) ∧ Two Bno Bat w w' ∧ Boxed w' Bno 3 (.int .i64 (no + 1 : Nat)) ∧ Boxed w' Bat 3 (.int .i64 (at_ + us : Nat)) := by
  subst H1 H2 H3
  exact next_yes s at_ no Bat Btx Bno w hat htx hno h1 h2 hs d1 d2 d3

def atOf (B : Nat) (w : World) : Nat := match w.cell? ⟨B, 0, none⟩ with | some (.int _ n) => n.toNat | _ => 0
theorem atOf_eq {B : Nat} {w : World} {t : TypeId} {n : Nat} (h : Boxed w B t (.int .i64 n)) : atOf B w = n := by unfold atOf; rw [h.cell]; simp

set_option maxRecDepth 100000 in
set_option maxHeartbeats 2000000 in
theorem split_hands (s : ByteArray) (Bs : Nat) (w : World) (hbox : Boxed w Bs 9 (.string s)) (hs : s.size ≤ 4294967295) :
    Hands Tryz.prog 58 #[.pointer (some ⟨Bs, 0, none⟩)] (fun x => #[.agg (lineV x)]) 3 (linesOf s.data.toList) w := by
  intro l J Jx W hW hJ hY h0
  have hb : Boxed W Bs 9 (.string s) := (hW.block Bs hbox.lt).trans hbox
  have c0 := hb.cell
  refine callsIn_of_wp Tryz.func58 rfl trivial ?_ rfl
  simp only [Tryz.ntmps58, List.size_toArray, List.length_cons, List.length_nil, Nat.reduceAdd, Nat.reduceSub, Array.replicate_succ, Array.replicate_zero, List.push_toArray, List.append_toArray, List.nil_append, List.cons_append]
  gi_wp2_with (refine ⟨trivial, ?_⟩; gi_at_call 59; refine (callsIn_wide.2 (from_any s _)).mono ?_; rintro e w' ⟨rfl, rfl⟩)
  gi_loopw [4] (fun _ wr => ∃ pre at_, linesOf s.data.toList = pre ++ linesOn pre.length at_ (s.data.toList.drop at_) ∧ at_ ≤ s.size ∧ pre.length ≤ at_ ∧ Boxed wr W.heap.size 9 (.string s) ∧
      Boxed wr (W.heap.size + 1) 3 (.int .i64 (pre.length : Nat)) ∧ Boxed wr (W.heap.size + 1 + 1) 3 (.int .i64 at_) ∧ J pre wr)
    (fun _ wr => s.size - atOf (W.heap.size + 1 + 1) wr)
  case atStart =>
    refine ⟨[], 0, rfl, Nat.zero_le _, Nat.le_refl _, ?_, ?_, ?_, hJ.alloc _ (hJ.alloc _ (hJ.alloc _ h0))⟩
    · exact ((Boxed.new W _ _).alloc _).alloc _
    · have := (Boxed.new (W.alloc (.cells #[.string s] 9)) 3 (.int .i64 0)).alloc (.cells #[.int .i64 0] 3)
      rw [World.size_alloc] at this; exact this
    · have := Boxed.new ((W.alloc (.cells #[.string s] 9)).alloc (.cells #[.int .i64 0] 3)) 3 (.int .i64 0)
      rw [World.size_alloc, World.size_alloc] at this; exact this
  case round =>
    obtain ⟨pre, at_, hx, ha, hn, b1, b2, b3, hj⟩ := hrel
    by_cases he : at_ = s.size
    · gi_wp2_with (refine ⟨trivial, ?_⟩; gi_at_call 75; refine (callsIn_wide.2 (next_no s at_ _ _ _ _ b3 b1 he)).mono ?_; rintro e w' ⟨rfl, h2⟩)
      refine ⟨fun _ h => (by cases h), ?_⟩
      gi_wp2
      refine bodyPost_ret (results_none rfl _ _ _) rfl ⟨⟨_, rfl⟩, .inl ?_⟩
      rw [he, List.drop_of_length_le (by rw [← Lib.size_eq]; exact Nat.le_refl _), linesOn_nil, List.append_nil] at hx
      rw [hx]
      exact hJ.alloc _ (hJ _ _ _ hj (h2.turned (by omega) (by omega)))
    · have hlt : at_ < s.size := by omega
      have hne : s.data.toList.drop at_ ≠ [] := by
        intro e; have := congrArg List.length e; rw [List.length_drop, ← Lib.size_eq] at this; simp at this; omega
      rw [linesOn_cons _ _ _ hne, List.drop_drop] at hx
      have hu := used_pos _ hne
      have hul := used_le (s.data.toList.drop at_)
      rw [List.length_drop, ← Lib.size_eq] at hul
      generalize hhd : head (s.data.toList.drop at_) = hd at *
      generalize hen : nl (s.data.toList.drop at_) = en at *
      generalize hus : used (s.data.toList.drop at_) = us at *
      have N := callsIn_wide (n := 7).2 (next_yes2 s at_ pre.length _ _ _ _ b3 b1 b2 hlt (by omega) hs (by omega) (by omega) (by omega) hd en us hhd hen hus)
      have HX := Lib.hid hx
      clear hhd hen hus hx hne he
      gi_wp2_with (refine ⟨trivial, ?_⟩; gi_at_call 75; refine N.mono ?_; clear N; rintro e w' ⟨rfl, h2, h3, h4⟩)
      have hz := h2.size
      have hz3 := b3.lt
      have jw : J pre w' := hJ _ _ _ hj (h2.turned (by omega) (by omega))
      obtain ⟨fn, tmps, assign, body, hy, hR⟩ := hY pre ⟨pre.length, at_, hd, en⟩ _ (w'.alloc (.cells #[.int .i64 pre.length, .int .i64 at_, .string ⟨hd.toArray⟩, .bool en] 58)) HX.out (by simp; omega) (hJ.alloc _ jw)
      dsimp only [lineV] at hy
      rw [hy, Oper.uponIn_round]
      refine ⟨fun h => (by cases h), hR.mono ?_⟩
      clear hR hy
      rintro e W3 (⟨rfl, hJ3, hk3⟩ | ⟨rfl, hJx3⟩)
      · gi_wp2
        go_roundw
        case rel =>
          refine ⟨pre ++ [⟨pre.length, at_, hd, en⟩], at_ + us, ?_, by omega, by simp; omega, ?_, ?_, ?_, hJ3⟩
          · rw [List.append_assoc, List.singleton_append, List.length_append]; exact HX.out
          · exact (hk3.same _ (by omega) (by omega)).trans ((h2.box b1 (by omega) (by omega)).alloc _)
          · rw [List.length_append]; exact (hk3.same _ (by omega) (by omega)).trans (Boxed.alloc h3 _)
          · exact (hk3.same _ (by omega) (by omega)).trans (Boxed.alloc h4 _)
        case measure =>
          rw [atOf_eq b3, atOf_eq (B := W.heap.size + 1 + 1) (w := W3) (n := at_ + us) ((hk3.same _ (by omega) (by omega)).trans (Boxed.alloc h4 _))]
          omega
      · gi_wp2
        refine bodyPost_ret (results_none rfl _ _ _) rfl ⟨⟨_, rfl⟩, .inr ⟨_, ⟨linesOn (pre.length + 1) (at_ + us) (List.drop (at_ + us) s.data.toList), ?_⟩, hJx3⟩⟩
        rw [HX.out, List.append_assoc, List.singleton_append]
end Go.Proofs.YtoadimagpibfoaaGreatDoor
/- Split, Count, and the law's fixed fact. -/
namespace Go.Proofs.YtoadimagpibfoaaGreatDoor
open Go.RowKit Go.Shelf
attribute [local go_sem] Oper.semAt_some

theorem split_any (s : ByteArray) (w : World) :
    Calls Tryz.prog 39 #[.string s] w fun e w' => e = .returned (.func (.func 58) #[] #[.pointer (some ⟨w.heap.size, 0, none⟩)]) ∧ w' = w.alloc (.cells #[.string s] 9) := by
  go_enter Tryz.func39, Tryz.ntmps39
  go_wp2
  go_ret
  exact ⟨rfl, rfl⟩

theorem boxNew2 (w : World) (o : Obj) (t : TypeId) (v : Value) : Boxed ((w.alloc o).alloc (.cells #[v] t)) (w.heap.size + 1) t v := by
  have := Boxed.new (w.alloc o) t v
  rwa [World.size_alloc] at this

end Go.Proofs.YtoadimagpibfoaaGreatDoor
/- What a range over the lines wants: boxes, rows, the rule of the statement with the act as it stands. -/
namespace Go.Proofs.YtoadimagpibfoaaGreatDoor
open Go.RowKit Go.Shelf
attribute [local go_sem] Oper.semAt_some

theorem under {W W' : World} {b n : Nat} {t : TypeId} {v : Value} (h : Boxed W b t v) (hb : Below n W W') (hn : b < n) : Boxed W' b t v := (hb.block b hn).trans h
theorem rowBase {W : World} {base base' : Nat} {e : TypeId} {size : Nat} {v : Value} {n : Nat} {xs : List Value} (h : W.ownsRow base e size v n xs) (hb : base' ≤ base) : W.ownsRow base' e size v n xs := by
  refine ⟨h.1, ?_⟩
  rcases h.2 with hn | ⟨g, cap, cur, hv, hg, rest⟩
  · exact .inl hn
  · exact .inr ⟨g, cap, cur, hv, Nat.le_trans hb hg, rest⟩
theorem rowForm {W : World} {base : Nat} {e : TypeId} {size : Nat} {v : Value} {n : Nat} {xs : List Value} (h : W.ownsRow base e size v n xs) : ∃ ao cap, v = .slice ao n cap := by
  rcases h.2 with ⟨rfl, rfl⟩ | ⟨g, cap, cur, rfl, _⟩
  · exact ⟨none, 0, rfl⟩
  · exact ⟨_, cap, rfl⟩
theorem boxNew3 (w : World) (o1 o2 : Obj) (t : TypeId) (v : Value) : Boxed (((w.alloc o1).alloc o2).alloc (.cells #[v] t)) (w.heap.size + 2) t v := by
  have := boxNew2 (w.alloc o1) o2 t v
  rwa [World.size_alloc] at this
theorem boxNew4 (w : World) (o1 o2 o3 : Obj) (t : TypeId) (v : Value) : Boxed ((((w.alloc o1).alloc o2).alloc o3).alloc (.cells #[v] t)) (w.heap.size + 3) t v := by
  have := boxNew3 (w.alloc o1) o2 o3 t v
  rwa [World.size_alloc] at this
theorem wp_rangedA {P : Program} {α : Type} {g : Operand} {ps : Array Tmp} {assign body : Code} {Q : Exit → Act → World → Prop} {a : Act} {w : World}
    {gf : Nat} {lb : Array Value} (hg : a.eval g = .func (.func gf) #[] lb) (eg : ∀ args w, (callFunc gf args).run P w = .ok (.enter gf args) w)
    {encs : α → Array Value} {k : Nat} {xs : List α} (hseq : Hands P gf lb encs k xs w) (hps : ∀ x, (encs x).size = ps.size)
    (I : List α → World → Prop) (Ix : Code → List α → World → Prop) (hI : Abide w.heap.size (k + 2) I) (hIx : ∀ c, Abide w.heap.size 2 (Ix c)) (h0 : I [] w)
    (M : Act → List α → α → Act → World → Prop) (hM : ∀ a pre x a', Abide w.heap.size 2 (fun (_ : Unit) W => M a pre x a' W))
    (hassign : ∀ (l : Nat) (pre : List α) (x : α) (post : List α) (W : World), xs = pre ++ x :: post → w.heap.size + (k + 2) ≤ W.heap.size → I pre W →
      assign.wpIn (Fence.wide.inRound l) 7 P (assigned w.heap.size (k + 2) (M a pre x) W) { tmps := (ps.zip (encs x)).foldl (fun t (p, v) => t.setIfInBounds p v) a.tmps, defers := [] } W)
    (hbody : ∀ (l : Nat) (pre : List α) (x : α) (post : List α) (a' : Act) (W : World), xs = pre ++ x :: post → w.heap.size + (k + 2) ≤ W.heap.size → M a pre x a' W →
      body.wpIn (Fence.wide.inRound l) 7 P (left w.heap.size (k + 2) I Ix (pre ++ [x]) W) a' W)
    (hdone : ∀ (W : World), I xs W → W.heap[w.heap.size]? = some (.deferred (some [])) → Q .normal { a with defers := { target := .collected w.heap.size, args := #[] } :: a.defers } W)
    (hstop : ∀ (c : Code) (pre : List α) (W : World), pre <+: xs → Ix c pre W → W.heap[w.heap.size]? = some (.deferred (some [])) → c.wpIn Fence.wide 9 P Q { a with defers := { target := .collected w.heap.size, args := #[] } :: a.defers } W) :
    (Code.rangeFunc g ps assign body).wpIn Fence.wide 9 P Q a w :=
  wp_ranged hg eg hseq hps I Ix hI hIx h0 (M a) (hM a) hassign hbody hdone hstop
theorem mkAppend (a b : List UInt8) : (⟨a.toArray⟩ : ByteArray) ++ ⟨b.toArray⟩ = ⟨(a ++ b).toArray⟩ := by
  rw [← Lib.mk_data ((⟨a.toArray⟩ : ByteArray) ++ ⟨b.toArray⟩), ByteArray.data_append, Array.toList_append]
theorem setOther {W : World} {b c : Nat} {t : TypeId} {v : Value} (h : Boxed W b t v) (hne : b ≠ c) (u : Value) : Boxed (W.setCell ⟨c, 0, none⟩ u) b t v := h.other hne u
theorem foldOne (p : Tmp) (v : Value) (t : Array Value) : ((#[p] : Array Tmp).zip #[v]).foldl (fun t (x : Tmp × Value) => t.setIfInBounds x.1 x.2) t = t.setIfInBounds p v := by simp
theorem boxStored {W : World} {b : Nat} {t : TypeId} {u v : Value} (h : Boxed (W.setCell ⟨b, 0, none⟩ v) b t u) : Boxed (W.setCell ⟨b, 0, none⟩ v) b t v := by
  unfold Boxed World.setCell at h ⊢
  simp only [Array.getElem?_modify, if_pos] at h ⊢
  cases ho : W.heap[b]? with
  | none => rw [ho] at h; cases h
  | some o =>
    rw [ho] at h
    cases o with
    | cells c e fr =>
      simp only [Option.map_some, Option.some.injEq, Obj.cells.injEq, Option.isSome_none, Bool.false_eq_true, if_false] at h ⊢
      obtain ⟨h1, h2, h3⟩ := h
      refine ⟨?_, h2, h3⟩
      have hs := congrArg Array.size h1
      simp at hs
      apply Array.ext
      · simp [hs]
      · intro i hi1 hi2
        have : i = 0 := by simp at hi2; omega
        subst this
        simp
    | _ => simp at h
end Go.Proofs.YtoadimagpibfoaaGreatDoor
/- Good: of lines, of bytes; the program's. -/
namespace Go.Proofs.YtoadimagpibfoaaGreatDoor
open Go.Lib

def goodLn (x : Ln) : Bool := x.ended && hasPrefix x.text [32]
theorem sp_clean : ∀ (h : List UInt8), (10 : UInt8) ∉ h → sp false h = true ∧ fresh false h = false
  | [], _ => ⟨rfl, rfl⟩
  | c :: h, hc => by
    have hc1 : c ≠ 10 := fun e => hc (e ▸ List.mem_cons_self)
    have ih := sp_clean h (fun q => hc (List.mem_cons_of_mem _ q))
    have e : (c == 10) = false := by simpa using hc1
    refine ⟨by simp [sp, e, ih.1], ?_⟩
    have := ih.2
    unfold fresh at *
    rw [List.getLast?_cons]
    cases hl : h.getLast? with
    | none => simpa using hc1
    | some d => rw [hl] at this; simpa using this
theorem sp_line (h : List UInt8) (hc : (10 : UInt8) ∉ h) : sp true (h ++ [10]) = hasPrefix h [32] := by
  cases h with
  | nil => rfl
  | cons c h =>
    have hc1 : c ≠ 10 := fun e => hc (e ▸ List.mem_cons_self)
    have h1 := sp_clean h (fun q => hc (List.mem_cons_of_mem _ q))
    have e : (c == 10) = false := by simpa using hc1
    rw [List.cons_append]
    unfold sp
    rw [e, sp_append, h1.1, h1.2]
    by_cases h32 : c = 32
    · subst h32; rfl
    · have e1 : (c == 32) = false := by simpa using h32
      have e2 : hasPrefix (c :: h) [32] = ((32 == c) && true) := by simp [hasPrefix, List.isPrefixOf]
      have e3 : ((32 : UInt8) == c) = false := by simpa using fun e => h32 e.symm
      rw [e1, e2, e3]; rfl
theorem takeWhile_no : ∀ {l : List UInt8}, (10 : UInt8) ∈ head l → False
  | [], h => by simp [head] at h
  | c :: l, h => by
    unfold head at h
    rw [List.takeWhile_cons] at h
    by_cases hc : c = 10
    · subst hc; simp at h
    · have e : (c != 10) = true := by simpa using hc
      rw [if_pos e] at h
      rcases List.mem_cons.1 h with h | h
      · exact hc h.symm
      · exact takeWhile_no h
theorem good_lines : ∀ (n no at_ : Nat) (l : List UInt8), l.length ≤ n → ((linesOn no at_ l).all goodLn = true ↔ (sp true l = true ∧ (l = [] ∨ lastNl l = true)))
  | n, no, at_, l, hn => by
    by_cases h0 : l = []
    · subst h0; simp [linesOn_nil, sp]
    · rw [linesOn_cons no at_ l h0, List.all_cons]
      have hs := head_split l
      have hu := used_pos l h0
      have hlen := used_le l
      have hc : (10 : UInt8) ∉ head l := by
        intro hm
        exact takeWhile_no hm
      cases hnl : nl l with
      | false =>
        have h10 : (10 : UInt8) ∉ l := by unfold nl at hnl; simpa using hnl
        have : lastNl l = false := by
          unfold lastNl
          cases hg : l.getLast? with
          | none => rfl
          | some c =>
            have := List.mem_of_getLast? hg
            have : c ≠ 10 := fun e => h10 (e ▸ this)
            simpa using this
        simp [goodLn, this, h0]
      | true =>
        match n, hn with
        | 0, hn => exact absurd (List.eq_nil_of_length_eq_zero (by omega)) h0
        | n + 1, hn =>
          have ih := good_lines n (no + 1) (at_ + used l) (l.drop (used l)) (by rw [List.length_drop]; omega)
          rw [hnl, if_pos rfl] at hs
          rw [Bool.and_eq_true, ih]
          generalize l.drop (used l) = r at *
          generalize hh : head l = h at *
          subst hs
          rw [sp_append, sp_line h hc, fresh_append h [10] true (by simp)]
          have e2 : fresh true ([10] : List UInt8) = true := rfl
          rw [e2]
          have e3 : lastNl (h ++ [10] ++ r) = true ↔ (r = [] ∨ lastNl r = true) := by
            unfold lastNl
            rw [List.getLast?_append]
            cases hr : r.getLast? with
            | none => rw [List.getLast?_eq_none_iff.1 hr]; simp
            | some c =>
              have : r ≠ [] := fun e => by rw [e] at hr; cases hr
              simp [this]
          rw [e3]
          simp [goodLn, and_assoc]
theorem good_of (l : List UInt8) : goodR l = (decide (2 ≤ (l.length : Int) ∧ (l.length : Int) ≤ 50000) && (linesOf l).all goodLn) := by
  rw [Bool.eq_iff_iff, good_iff, Bool.and_eq_true]
  unfold linesOf
  rw [good_lines l.length 0 0 l (Nat.le_refl _)]
  constructor
  · rintro ⟨a, b, c, d⟩
    exact ⟨by simp; omega, d, .inr c⟩
  · rintro ⟨a, d, c⟩
    simp at a
    have : l ≠ [] := by rintro rfl; simp at a
    exact ⟨by omega, by omega, c.resolve_left this, d⟩
namespace Fr
open Go.RowKit Go.Shelf
attribute [local go_sem] Oper.semAt_some

def InvG (w : World) (pre : List Ln) (W : World) : Prop := Boxed W w.heap.size 4 (.bool false) ∧ Below w.heap.size w W ∧ pre.all goodLn = true
def OutG (w : World) (c : Code) (pre : List Ln) (W : World) : Prop := Boxed W w.heap.size 4 (.bool false) ∧ Below w.heap.size w W ∧ c = .ret ∧ pre.all goodLn = false
theorem goodOut (w W : World) (b : Bool) (tmps : Array Value) (h : Boxed W w.heap.size 4 (.bool b)) (hK : W.heap[w.heap.size + 2]? = some (.deferred (some []))) (hB : Below w.heap.size w W) (t2 : tmps[2]? = some (.pointer (some ⟨w.heap.size, 0, none⟩))) :
    bodyPostM Fence.wide 9 Tryz.prog Tryz.f20 (fun e w' => e = .returned (.bool b) ∧ Below w.heap.size w w') .ret { tmps := tmps, defers := [{ target := .collected (w.heap.size + 2), args := #[] }] } W := by
  have p1 := grownBy_putObj' W (w.heap.size + 2) (.deferred none)
  have zW : w.heap.size + 2 < W.heap.size := (Array.getElem?_eq_some_iff.1 hK).1
  have r : Boxed (W.putObj (w.heap.size + 2) (.deferred none)) w.heap.size 4 (.bool b) := (p1.block _ (by omega) (fun e => by have := Option.some.inj e; omega)).trans h
  have c := r.cell
  refine ⟨by simp, .inl ⟨_, _, rfl, run_takeDeferred hK, ?_⟩⟩
  exact ⟨.bool b, by simp [results, Tryz.f20, go_sem, t2, c], rfl, hB.trans (belowK_b (w := w) (Nat.le_refl _) W _ _ _ (by omega) hK rfl rfl)⟩
set_option maxRecDepth 100000 in
set_option maxHeartbeats 4000000 in
theorem good_str (s : ByteArray) (hsz : s.size ≤ 1000000) (w : World) :
    Calls Tryz.prog 20 #[.string s] w fun e w' => e = .returned (.bool (goodR s.data.toList)) ∧ Below w.heap.size w w' := by
  have hg := good_of s.data.toList
  rw [← Lib.size_eq] at hg
  have FT := Lib.hid (fits_any (s.size : Int))
  generalize goodR s.data.toList = g at *
  obtain ⟨xs, hxs⟩ : ∃ xs, linesOf s.data.toList = xs := ⟨_, rfl⟩
  rw [hxs] at hg
  have HXS := Lib.hid hxs
  have HH := fun w b => split_hands s b w
  rw [hxs] at HH
  clear hxs
  refine callsIn_wide (n := 9).1 ?_
  refine callsIn_of_wp_marks Tryz.func20 rfl trivial ?_ rfl
  simp only [Tryz.ntmps20, List.size_toArray, List.length_cons, List.length_nil, Nat.reduceAdd, Nat.reduceSub, Array.replicate_succ, Array.replicate_zero, List.push_toArray, List.append_toArray, List.nil_append, List.cons_append]
  have k1 := Boxed.new w 4 (.bool false)
  have kb : Below w.heap.size w (w.alloc (.cells #[.bool false] 4)) := (Below.refl _ w).alloc (Nat.le_refl _) _
  cases hf : decide (2 ≤ (s.size : Int) ∧ (s.size : Int) ≤ 50000) with
  | false =>
    rw [hf] at hg FT
    simp only [Bool.false_and] at hg
    subst hg
    clear hf HH
    gi_wp2_with fail
    refine ⟨trivial, (callsIn_wide.2 (FT.out _)).mono ?_⟩
    rintro e w3 ⟨rfl, rfl⟩
    gi_wp2
    have c := k1.cell
    exact ⟨.bool false, by simp [results, Tryz.f20, go_sem, c], rfl, kb⟩
  | true =>
    rw [hf] at hg FT
    simp only [Bool.true_and] at hg
    clear hf
    gi_wp2_with fail
    refine ⟨trivial, (callsIn_wide.2 (FT.out _)).mono ?_⟩
    rintro e w3 ⟨rfl, rfl⟩
    gi_wp2_with fail
    refine ⟨trivial, (callsIn_wide.2 (split_any s _)).mono ?_⟩
    rintro e w3 ⟨rfl, rfl⟩
    gi_wp2_with fail
    have k2 := boxNew2 w (.cells #[.bool false] 4) 9 (.string s)
    have kb2 := kb.alloc (o := .cells #[.string s] 9) kb.size
    have k1b := k1.alloc (.cells #[.string s] 9)
    have kz : ((w.alloc (.cells #[.bool false] 4)).alloc (.cells #[.string s] 9)).heap.size = w.heap.size + 2 := by simp
    generalize (w.alloc (.cells #[.bool false] 4)).alloc (.cells #[.string s] 9) = w1 at *
    clear k1 kb FT
    have ab : ∀ k, k ≤ 5 → Abide (w.heap.size + 2) k (InvG w) := fun k hk pre W W' h ht =>
      ⟨ht.box h.1 (.inl (by omega)), h.2.1.trans (ht.below (by omega) h.2.1.size), h.2.2⟩
    refine wp_rangedA (gf := 58) (lb := #[.pointer (some ⟨w.heap.size + 1, 0, none⟩)]) rfl (enters_of Tryz.func58 (by kernel_rfl) rfl) (HH w1 _ k2 (by omega)) (fun _ => rfl)
      (InvG w) (OutG w) (by rw [kz]; exact ab _ (by omega)) (fun c pre W W' h ht => ⟨ht.box h.1 (.inl (by rw [kz]; omega)), h.2.1.trans (ht.below (by rw [kz]; omega) h.2.1.size), h.2.2⟩) ⟨k1b, kb2, rfl⟩
      (fun a pre x a' W => ∃ Bx, w.heap.size + 2 + 5 ≤ Bx ∧ a' = { tmps := (a.tmps.setIfInBounds 10 (.agg (lineV x))).setIfInBounds 3 (.pointer (some ⟨Bx, 0, none⟩)), defers := [] } ∧ Cells W Bx 58 (lineV x) ∧ InvG w pre W)
      ?hM ?assign ?body ?done ?stop
    case hM =>
      rw [kz]
      rintro a pre x a' _ W W' ⟨Bx, h1, h2, h3, h4⟩ ht
      exact ⟨Bx, h1, h2, (ht.same Bx h3.lt (.inr (by omega))).trans h3, ab 2 (by omega) pre W W' h4 ht⟩
    case assign =>
      rw [kz]
      intro l pre x post W hx hsz hi
      clear hx
      dsimp only [lineV]
      gi_wp2
      exact ⟨(Stay.refl _ _ W).alloc hsz _, W.heap.size, by omega, rfl, Cells.new _ _ _, hi.1.alloc _, hi.2.1.alloc hi.2.1.size _, hi.2.2⟩
    case body =>
      rw [kz]
      rintro l pre x post a' W hx hsz ⟨Bx, hB, rfl, hc, h1, h2, h3⟩
      clear hx
      simp only [List.setIfInBounds_toArray, List.set_cons_zero, List.set_cons_succ, lineV] at hc ⊢
      have hne : Bx ≠ w.heap.size := by omega
      have gx : goodLn x = (x.ended && Lib.hasPrefix x.text [32]) := rfl
      have gs : (pre ++ [x]).all goodLn = goodLn x := by rw [List.all_append, h3]; simp
      have c3 := h1.cell
      have f3 := h1.frozen
      have p2 : W.cell? ⟨Bx, 2, none⟩ = some (.string ⟨x.text.toArray⟩) := hc.cell 2
      have p3 : W.cell? ⟨Bx, 3, none⟩ = some (.bool x.ended) := hc.cell 3
      generalize x.ended = en at *
      cases en with
      | false =>
        gi_wp2_with fail
        refine ⟨trivial, ?_⟩
        gi_wp2
        exact ⟨(Stay.refl _ _ _).setCell (.inl (by show w.heap.size < _; omega)) _, Boxed.set _ h1, h2.setCell (p := ⟨w.heap.size, 0, none⟩) (Nat.le_refl _) _, rfl, by rw [gs, gx]; rfl⟩
      | true =>
        gi_wp2_with fail
        refine ⟨trivial, ((callsIn_wide.2 (Tryz.strings_HasPrefix ⟨x.text.toArray⟩ ⟨#[32]⟩ W)).inRound l).mono ?_⟩
        rintro e V ⟨rfl, rfl⟩
        have eh : Lib.hasPrefix (⟨x.text.toArray⟩ : ByteArray).data.toList (⟨#[32]⟩ : ByteArray).data.toList = Lib.hasPrefix x.text [32] := rfl
        rw [eh]
        rw [Bool.true_and] at gx
        generalize Lib.hasPrefix x.text [32] = hp at *
        cases hp with
        | false =>
          gi_wp2
          exact ⟨(Stay.refl _ _ _).setCell (.inl (by show w.heap.size < _; omega)) _, Boxed.set _ h1, h2.setCell (p := ⟨w.heap.size, 0, none⟩) (Nat.le_refl _) _, rfl, by rw [gs, gx]⟩
        | true =>
          gi_wp2
          exact ⟨Stay.refl _ _ _, h1, h2, by rw [gs, gx]⟩
    case done =>
      rw [kz]
      rintro W ⟨h1, h2, h3⟩ hmark
      have zW : w.heap.size + 2 < W.heap.size := (Array.getElem?_eq_some_iff.1 hmark).1
      have c3 := h1.cell
      have f3 := h1.frozen
      rw [h3] at hg
      subst hg
      gi_wp2
      exact goodOut w _ true _ (Boxed.set _ h1) ((Below.heap_setCell _ _ _ _ (by show w.heap.size + 2 ≠ w.heap.size; omega)).trans hmark) (h2.setCell (p := ⟨w.heap.size, 0, none⟩) (Nat.le_refl _) _) rfl
    case stop =>
      rw [kz]
      rintro c pre W hpre ⟨h1, h2, rfl, h3⟩ hmark
      have hg0 : g = false := by
        rw [hg]
        obtain ⟨z, rfl⟩ := hpre
        rw [List.all_append, h3]; rfl
      subst hg0
      gi_wp2
      exact goodOut w W false _ h1 hmark h2 rfl
theorem good_any (l : List UInt8) (hl : l.length ≤ 1000000) (w : World) :
    Calls Tryz.prog 20 #[.string (B l)] w fun e w' => e = .returned (.bool (goodR l)) ∧ Below w.heap.size w w' := by
  have := good_str (B l) (by rw [B_size]; exact hl) w
  rwa [B_data] at this
end Fr
end Go.Proofs.YtoadimagpibfoaaGreatDoor
/- announced, beginsHead, beginsBody, beginsFoot. -/
namespace Go.Proofs.YtoadimagpibfoaaGreatDoor.Fr
open Go.RowKit Go.Shelf
attribute [local go_sem] Oper.semAt_some

theorem ext_to (X : List UInt8) (i j : Nat) : (B X).extract i j = B ((X.drop i).take (j - i)) := by
  apply ByteArray.ext
  apply Array.toList_inj.1
  rw [Lib.extract_data, B_data, B_data]
theorem ext_drop (X : List UInt8) (i : Nat) : (B X).extract i (B X).size = B (X.drop i) := by
  rw [ext_to, B_size, List.take_of_length_le (by simp)]
theorem ext_take (X : List UInt8) (j : Nat) : (B X).extract 0 j = B (X.take j) := by rw [ext_to]; simp
theorem no_all {l : List UInt8} {c : UInt8} (h : c ∉ l) : ∀ x ∈ l, (x != c) = true := fun x hx => by
  have : x ≠ c := fun e => h (by rw [← e]; exact hx)
  simpa using this
theorem cutB_any (l : List UInt8) (c : UInt8) (hl : l.length ≤ 1000000) (w : World) :
    Calls Tryz.prog 23 #[.string (B l), .string ⟨#[c]⟩] w fun e w' =>
      e = .returned (.tuple #[.string (B (l.takeWhile (· != c))), .string (B (l.drop ((l.takeWhile (· != c)).length + 1))), .bool (l.contains c)]) ∧ Below w.heap.size w w' := by
  by_cases h : c ∈ l
  · refine (cut_yes (B l) c w (by rw [B_size]; unfold maxLen; omega) (by rw [B_data]; exact h)).mono ?_
    rintro e w' ⟨rfl, n, rfl⟩
    refine ⟨?_, ⟨rfl, rfl, rfl, Nat.le_refl _, fun _ _ => rfl⟩⟩
    have hp : l.take (l.takeWhile (· != c)).length = l.takeWhile (· != c) := (List.prefix_iff_eq_take.1 (List.takeWhile_prefix _)).symm
    rw [B_data, ext_drop, ext_take, hp]
    simp [h]
  · refine (cut_no (B l) c w (by rw [B_data]; exact h)).mono ?_
    rintro e w' ⟨rfl, n, rfl⟩
    refine ⟨?_, ⟨rfl, rfl, rfl, Nat.le_refl _, fun _ _ => rfl⟩⟩
    have hp : l.takeWhile (· != c) = l := takeWhile_all (no_all h)
    rw [hp, List.drop_of_length_le (by omega)]
    simp [h]; rfl
def numP (l : List UInt8) : List UInt8 := (Lib.trimPrefix l AMD).takeWhile (· != 32)
def figP (l : List UInt8) : List UInt8 := (Lib.trimPrefix l AMD).drop ((numP l).length + 1)
def annM (l : List UInt8) : Int := atoiV (numP l)
def annB (l : List UInt8) : Bool := (Sm.takes (figP l)).isSome && decide (2 ≤ annM l ∧ annM l ≤ 50000) && decide (headR (annM l).toNat (figP l) = l)
theorem annB_of {l : List UInt8} {n : Nat} {f : List UInt8} (h : IsHead l n f) : annB l = true ∧ annM l = n := by
  have e1 : Lib.trimPrefix l AMD = Lib.decDigits n ++ 32 :: f := by
    rw [h.eq]; unfold headR Lib.trimPrefix
    have : Lib.hasPrefix (AMD ++ (Lib.decDigits n ++ 32 :: f)) AMD = true := by unfold Lib.hasPrefix; rw [List.isPrefixOf_iff_prefix]; exact List.prefix_append _ _
    rw [if_pos this, List.drop_left]
  have e2 : numP l = Lib.decDigits n := by
    unfold numP
    rw [e1, List.takeWhile_append_of_pos (no_all (dec_no32 n))]
    simp
  have e3 : figP l = f := by unfold figP; rw [e2, e1, ← List.drop_drop, List.drop_left]; rfl
  have hn : I64 (n : Int) := by have := h.hi; unfold I64; omega
  have e4 : annM l = n := by unfold annM; rw [e2, ← Lib.itoa_nonneg, atoiV_itoa hn]
  have h2 := h.lo
  have h5 := h.hi
  obtain ⟨x, hx⟩ := h.fig
  refine ⟨?_, e4⟩
  unfold annB
  rw [e4, e3, hx, h.eq]
  simp; omega
theorem annB_head {l : List UInt8} (h : annB l = true) : ∃ n f, IsHead l n f := by
  unfold annB at h
  simp only [Bool.and_eq_true, decide_eq_true_eq] at h
  obtain ⟨⟨h1, h2, h3⟩, h4⟩ := h
  obtain ⟨x, hx⟩ := Option.isSome_iff_exists.1 h1
  exact ⟨(annM l).toNat, figP l, by omega, by omega, ⟨x, hx⟩, h4.symm⟩
theorem annB_iff {l : List UInt8} : annB l = true ↔ ∃ n f, IsHead l n f := ⟨annB_head, fun ⟨_, _, h⟩ => (annB_of h).1⟩
theorem takeV_is (s : List UInt8) : Sm.takeV s = .tuple #[.int .u32 ((Sm.takes s).getD 0 : Nat), .bool (Sm.takes s).isSome] := by
  cases h : Sm.takes s with
  | none => rw [Sm.takeV_not h]; rfl
  | some n => rw [Sm.takeV_of h]; rfl
set_option maxRecDepth 100000 in
set_option maxHeartbeats 2000000 in
theorem announced_any (l : List UInt8) (hl : l.length ≤ 900000) (w : World) (ht : TabsN w) :
    Calls Tryz.prog 26 #[.string (B l)] w fun e w' => e = .returned (.tuple #[.int .i64 (annM l), .bool (annB l)]) ∧ Below w.heap.size w w' := by
  have T1 := Lib.hid (Tryz.strings_TrimPrefix (B l) (B AMD) w)
  have hp : (Lib.trimPrefix l AMD).length ≤ 900000 := Nat.le_trans (Lib.trimPrefix_le l AMD) hl
  have C1 := Lib.hid (fun w => cutB_any (Lib.trimPrefix l AMD) 32 (by omega) w)
  have e1 : (Lib.trimPrefix l AMD).takeWhile (· != 32) = numP l := rfl
  have e2 : (Lib.trimPrefix l AMD).drop ((numP l).length + 1) = figP l := rfl
  have hn : (numP l).length ≤ 900000 := Nat.le_trans (List.takeWhile_sublist _).length_le hp
  have hf : (figP l).length ≤ 900000 := by rw [← e2, List.length_drop]; omega
  have K1 := Lib.hid (fun w => Sm.take_any (B (figP l)) w (by rw [B_size]; unfold maxLen; omega))
  have A1 := Lib.hid (fun w ht => atoi_any (numP l) (by omega) w ht)
  have F1 := Lib.hid (fits_any (annM l))
  have hm : atoiV (numP l) = annM l := rfl
  rw [hm] at A1
  rw [e1, e2] at C1
  simp only [takeV_is, B_data] at K1
  simp only [B_data] at T1
  have e3 : (⟨(Lib.trimPrefix l AMD).toArray⟩ : ByteArray) = B (Lib.trimPrefix l AMD) := rfl
  rw [e3] at T1
  have NS := Lib.hid hn
  have hb : annB l = ((Sm.takes (figP l)).isSome && decide (2 ≤ annM l ∧ annM l ≤ 50000) && decide (headR (annM l).toNat (figP l) = l)) := rfl
  have H1 := Lib.hid (fun (n : Nat) (h : n ≤ 50000) w ht => head_any n (by omega) (figP l) (by omega) w ht)
  have ba : (⟨#[37, 97, 109, 101, 110, 100, 32]⟩ : ByteArray) = B AMD := rfl
  have same : ∀ x : List UInt8, ((B x).toList == (B l).toList) = decide (x = l) := fun x => by rw [Lib.toList_data, Lib.toList_data, B_data, B_data, Bool.eq_iff_iff]; simp
  generalize (Sm.takes (figP l)).getD 0 = tv at *
  generalize (Sm.takes (figP l)).isSome = tb at *
  generalize annM l = m at *
  generalize annB l = q at *
  clear e1 e2 hm hn hp e3
  go_enter Tryz.func26, Tryz.ntmps26
  rw [ba]
  go_wp2_with fail
  refine T1.out.mono ?_
  rintro e w1 ⟨rfl, rfl⟩
  go_wp2_with fail
  refine (C1.out _).mono ?_
  rintro e w1 ⟨rfl, hb1⟩
  go_wp2_with fail
  refine (K1.out _).mono ?_
  rintro e w2 ⟨rfl, rfl⟩
  go_wp2_with fail
  refine (A1.out _ (ht.below hb1 (Nat.le_refl _))).mono ?_
  rintro e w3 ⟨⟨T, v, he⟩, hb3⟩
  have ht3 := (ht.below hb1 (Nat.le_refl _)).below hb3 (Nat.le_refl _)
  have hb13 := hb1.trans (hb3.mono hb1.size)
  rcases he with rfl | rfl
  all_goals
    cases tb with
    | false =>
      simp only [Bool.false_and] at hb
      subst hb
      go_wp2_with fail
      go_ret2
      exact ⟨rfl, hb13⟩
    | true =>
      cases hf : decide (2 ≤ m ∧ m ≤ 50000) with
      | false =>
        rw [hf] at hb F1
        simp only [Bool.true_and, Bool.false_and] at hb
        subst hb
        go_wp2_with fail
        refine (F1.out _).mono ?_
        rintro e w4 ⟨rfl, rfl⟩
        go_wp2_with fail
        go_ret2
        exact ⟨rfl, hb13⟩
      | true =>
        rw [hf] at hb F1
        have hf' := of_decide_eq_true hf
        obtain ⟨n, rfl⟩ : ∃ n : Nat, m = n := ⟨m.toNat, by omega⟩
        simp only [Bool.true_and, Int.toNat_natCast] at hb
        go_wp2_with fail
        refine (F1.out _).mono ?_
        rintro e w4 ⟨rfl, rfl⟩
        go_wp2_with fail
        refine (H1.out n (by omega) _ ht3).mono ?_
        rintro e w4 ⟨rfl, hb4⟩
        go_wp2_with fail
        go_ret2
        exact ⟨by rw [hb]; rfl, hb13.trans (hb4.mono hb13.size)⟩
theorem longB : B longest = B (headR 50000 zeros) := by rw [longest_eq]
set_option maxRecDepth 100000 in
set_option maxHeartbeats 2000000 in
theorem beginsHead_any (l : List UInt8) (hl : l.length ≤ 800000) (w : World) (ht : TabsN w) :
    Calls Tryz.prog 25 #[.string (B l)] w fun e w' => ∃ q : Bool, (q = true ↔ HeadPart l) ∧ e = .returned (.bool q) ∧ Below w.heap.size w w' := by
  have H1 := Lib.hid (head_any 50000 (by omega) zeros (by decide) w ht)
  rw [← longB] at H1
  have zs : (⟨#[48, 48, 48, 48, 48, 48, 48, 48]⟩ : ByteArray) = B zeros := rfl
  have ls : (B longest).size = 21 := rfl
  have bl := B_size l
  by_cases h21 : 21 < l.length
  · have hno : ¬ HeadPart l := fun h => by have := part_len h; omega
    have q1 : (21 : Int) < ((B l).size : Int) := by rw [bl]; omega
    go_enter Tryz.func25, Tryz.ntmps25
    rw [zs]
    go_wp2_with fail
    refine H1.out.mono ?_
    rintro e w1 ⟨rfl, hb1⟩
    go_wp2_with fail
    go_ret
    exact ⟨false, by simp [hno], rfl, hb1⟩
  · have q1 : ¬ (21 : Int) < ((B l).size : Int) := by rw [bl]; omega
    have bs : (B l).size ≤ 21 := by rw [bl]; omega
    have hp := head_parts (l := l)
    have A1 := Lib.hid (fun k w ht => announced_any (l ++ longest.drop k) (by rw [List.length_append, List.length_drop]; have : longest.length = 21 := rfl; omega) w ht)
    have E1 : Hid (∀ k, B l ++ (B longest).extract k 21 = B (l ++ longest.drop k)) := fun k => by
      have := ext_drop longest k
      rw [ls] at this
      rw [this, B_append]
    generalize hL : B longest = L at *
    go_enter Tryz.func25, Tryz.ntmps25
    rw [zs]
    go_wp2_with fail
    refine H1.out.mono ?_
    rintro e w1 ⟨rfl, hb1⟩
    go_wp2_with fail
    go_loopw [16] (fun i wr => ∃ k : Nat, k ≤ 22 ∧ i = .int .i64 k ∧ Below w.heap.size w wr ∧ ∀ j, j < k → annB (l ++ longest.drop j) = false) (fun i _ => 22 - (intOf i).toNat)
    case atStart => exact ⟨0, by omega, rfl, hb1, fun j hj => by omega⟩
    case round =>
      obtain ⟨k, hk, rfl, hb, hj⟩ := hrel
      have HJ := Lib.hid hj
      clear hj
      by_cases hlt : k < 22
      · have hk2 : (k : Int) ≤ 21 := by omega
        go_wp2_with fail
        rw [E1.out k]
        refine (A1.out k _ (ht.below hb (Nat.le_refl _))).mono ?_
        rintro e w2 ⟨rfl, hb2⟩
        have hb' := hb.trans (hb2.mono hb.size)
        cases hq : annB (l ++ longest.drop k) with
        | true =>
          have hyes : HeadPart l := hp.2 ⟨k, by omega, annB_head hq⟩
          clear hq
          go_wp2_with fail
          go_ret
          exact ⟨true, by simp [hyes], rfl, hb'⟩
        | false =>
          have HN : Hid (∀ j, j < k + 1 → annB (l ++ longest.drop j) = false) := by
            intro j hj
            by_cases e : j = k
            · rw [e]; exact hq
            · exact HJ.out j (by omega)
          clear hq
          go_wp2_with fail
          go_roundw
          case rel => exact ⟨k + 1, by omega, by go_num, hb', HN.out⟩
          case measure => simp [intOf]; omega
      · obtain rfl : k = 22 := by omega
        go_wp2_with fail
        go_ret
        refine ⟨false, ?_, rfl, hb⟩
        rw [hp]
        constructor
        · intro h; cases h
        · rintro ⟨j, hj, n, f, h⟩
          have := annB_iff.2 ⟨n, f, h⟩
          rw [HJ.out j (by omega)] at this
          cases this
end Go.Proofs.YtoadimagpibfoaaGreatDoor.Fr
/- beginsBody, beginsFoot, Record, Length. -/
namespace Go.Proofs.YtoadimagpibfoaaGreatDoor.Fr
open Go.RowKit Go.Shelf
attribute [local go_sem] Oper.semAt_some

theorem repeat_spaces (k : Nat) : Lib.repeatL [32] k = List.replicate k 32 := by
  induction k with
  | zero => rfl
  | succ k ih => rw [List.replicate_succ, ← ih]; rfl
set_option maxRecDepth 100000 in
set_option maxHeartbeats 2000000 in
theorem beginsBody_any (t : List UInt8) (n : Nat) (h2 : 2 ≤ n) (h5 : n ≤ 50000) (hl : t.length < n) (w : World) :
    Calls Tryz.prog 27 #[.string (B t), .int .i64 (n : Int)] w fun e w' => e = .returned (.bool (bodyPart t n)) ∧ Below w.heap.size w w' := by
  have bt := B_size t
  have e10 : (B [32]).size = 1 := rfl
  have hc0 : (B [32]).size * (n - t.length - 1) ≤ 140737488355328 := by simp only [e10]; omega
  have R1 := Lib.hid (Tryz.strings_Repeat (B [32]) (n - t.length - 1) w (by omega) hc0)
  have G1 := Lib.hid (fun w => good_any (t ++ (List.replicate (n - t.length - 1) 32 ++ [10])) (by simp; omega) w)
  have hk : ((n - t.length - 1 : Nat) : Int) = (n : Int) - (t.length : Int) - 1 := by omega
  rw [hk, B_data, repeat_spaces, show (⟨(List.replicate (n - t.length - 1) (32 : UInt8)).toArray⟩ : ByteArray) = B (List.replicate (n - t.length - 1) 32) from rfl] at R1
  have E1 : Hid (B t ++ B (List.replicate (n - t.length - 1) 32) ++ ⟨#[10]⟩ = B (t ++ (List.replicate (n - t.length - 1) 32 ++ [10]))) := by
    show _ = _
    rw [show (⟨#[10]⟩ : ByteArray) = B [10] from rfl, B_append, B_append, List.append_assoc]
  have s1 : (B (List.replicate (n - t.length - 1) 32)).size ≤ 50000 := by rw [B_size]; simp; omega
  have s2 : (B t ++ B (List.replicate (n - t.length - 1) 32)).size ≤ 100000 := by rw [ByteArray.size_append]; omega
  have s0 : (B t).size ≤ 50000 := by omega
  simp only [body_tail h2 h5 hl] at G1
  have z1 : (⟨#[32]⟩ : ByteArray) = B [32] := rfl
  have w1 : IntKind.i64.wrap ((n : Int) - (t.length : Int)) = (n : Int) - (t.length : Int) := IntWalk.i64_in _ (by omega)
  have w2 : IntKind.i64.wrap ((n : Int) - (t.length : Int) - 1) = (n : Int) - (t.length : Int) - 1 := IntWalk.i64_in _ (by omega)
  generalize B (List.replicate (n - t.length - 1) 32) = R at *
  generalize bodyPart t n = q at *
  clear hk
  rw [← bt] at w1 w2 R1
  generalize hX : B t = X at *
  clear bt hX
  go_enter Tryz.func27, Tryz.ntmps27
  rw [z1]
  go_wp2_with fail
  refine R1.out.mono ?_
  rintro e w3 ⟨rfl, hb1⟩
  go_wp2_with fail
  rw [E1.out]
  refine (G1.out _).mono ?_
  rintro e w4 ⟨rfl, hb2⟩
  go_wp2_with fail
  go_ret
  exact ⟨rfl, hb1.trans (hb2.mono hb1.size)⟩
/-- A true beginning of the line behind a body. -/
def footB (t : List UInt8) (n : Nat) : Bool := !(decide (t = footR n)) && Lib.hasPrefix (footR n) t
theorem footB_iff {t : List UInt8} {n : Nat} : footB t n = true ↔ ∃ z, t ++ z = footR n ∧ z ≠ [] := by
  unfold footB Lib.hasPrefix
  simp only [Bool.and_eq_true, Bool.not_eq_true', decide_eq_false_iff_not, List.isPrefixOf_iff_prefix]
  constructor
  · rintro ⟨h1, z, h2⟩
    exact ⟨z, h2, fun e => h1 (by rw [← h2, e]; simp)⟩
  · rintro ⟨z, h2, h3⟩
    refine ⟨fun e => ?_, z, h2⟩
    rw [e] at h2
    exact h3 (by simpa using h2)
set_option maxRecDepth 100000 in
set_option maxHeartbeats 2000000 in
theorem beginsFoot_any (t : List UInt8) (n : Nat) (h5 : n ≤ 50000) (w : World) (ht : TabsN w) :
    Calls Tryz.prog 28 #[.string (B t), .int .i64 (n : Int)] w fun e w' => e = .returned (.bool (footB t n)) ∧ Below w.heap.size w w' := by
  have F1 := Lib.hid (foot_any n (by omega) w ht)
  have P1 := Lib.hid (fun w => Tryz.strings_HasPrefix (B (footR n)) (B t) w)
  simp only [B_data] at P1
  have same : ((B t).toList == (B (footR n)).toList) = decide (t = footR n) := by rw [Lib.toList_data, Lib.toList_data, B_data, B_data, Bool.eq_iff_iff]; simp
  have hq : footB t n = (!(decide (t = footR n)) && Lib.hasPrefix (footR n) t) := rfl
  generalize footB t n = q at *
  generalize Lib.hasPrefix (footR n) t = p at *
  generalize decide (t = footR n) = d at *
  generalize B (footR n) = f at *
  generalize B t = X at *
  cases d with
  | true =>
    go_enter Tryz.func28, Tryz.ntmps28
    go_wp2_with fail
    refine F1.out.mono ?_
    rintro e w1 ⟨rfl, hb1⟩
    go_wp2_with fail
    go_ret
    exact ⟨by rw [hq]; rfl, hb1⟩
  | false =>
    go_enter Tryz.func28, Tryz.ntmps28
    go_wp2_with fail
    refine F1.out.mono ?_
    rintro e w1 ⟨rfl, hb1⟩
    go_wp2_with fail
    refine (P1.out _).mono ?_
    rintro e w2 ⟨rfl, rfl⟩
    go_wp2_with fail
    go_ret
    exact ⟨by rw [hq]; rfl, hb1⟩
theorem strs1 (a : ByteArray) (w : World) : Sm.Strs (w.alloc (.cells #[.string a] 9)) (.slice (some ⟨w.heap.size, 0, none⟩) 1 1) [a] := by
  refine ⟨_, 1, rfl, ?_⟩
  intro i s h
  refine ⟨w.heap.size, 0, rfl, by simp, ?_⟩
  rw [World.cell?_alloc_at _ _ _ _ rfl]
  match i, h with
  | 0, h => simp at h; subst h; rfl
  | n + 1, h => simp at h
theorem sum1_any (a : ByteArray) (ha : a.size ≤ maxLen) (w : World) :
    Calls Tryz.prog 22 #[.slice (some ⟨w.heap.size, 0, none⟩) 1 1] (w.alloc (.cells #[.string a] 9)) fun e w' => e = .returned (.int .u32 (Sm.M.crc a.data.toList : Nat)) ∧ Below w.heap.size w w' :=
  (Sm.sum_any _ [a] _ (strs1 a w) (by simp [maxLen]) (fun i s h => by
    match i, h with
    | 0, h => simp at h; subst h; exact ha
    | n + 1, h => simp at h)).mono fun e w' ⟨he, hb⟩ => ⟨by rw [he]; simp [Sm.cat, Sm.M.crc], ((Below.refl _ _).alloc (Nat.le_refl _) _).trans (hb.mono (by simp))⟩
theorem full_size {b : List UInt8} (hg : goodR b = true) : (fullR b).length = b.length + 27 + 2 * (Lib.decDigits b.length).length - 4 := by
  have := fig_len (figsB_ok b)
  unfold fullR recR headR footR AMD END
  simp; omega
theorem full_le {b : List UInt8} (hg : goodR b = true) : (fullR b).length ≤ 50100 := by
  obtain ⟨h2, h5, _, _⟩ := good_iff.1 hg
  have := dec_len5 (show b.length ≤ 99999 by omega)
  have := full_size hg
  omega
set_option maxRecDepth 100000 in
set_option maxHeartbeats 2000000 in
theorem record_yes (l : List UInt8) (hg : goodR l = true) (w : World) (ht : TabsN w) :
    Calls Tryz.prog 9 #[.string (B l)] w fun e w' => e = .returned (.tuple #[.string (B (fullR l)), .nilIface]) ∧ Below w.heap.size w w' := by
  obtain ⟨h2, h5, _, _⟩ := good_iff.1 hg
  have bl := B_size l
  have G1 := Lib.hid (good_any l (by omega) w)
  rw [hg] at G1
  have S1 := Lib.hid (fun w => sum1_any (B l) (by rw [bl]; unfold maxLen; omega) w)
  simp only [B_data] at S1
  have F1 := Lib.hid (fun w => Sm.figures_any (Sm.M.crc l) (Sm.M.crc_lt l) w)
  have eF : Sm.figs (Sm.M.crc l) = B (figsB l) := (B_of _).symm
  simp only [eF] at F1
  have H1 := Lib.hid (fun w ht => head_any l.length (by omega) (figsB l) (by rw [fig_len (figsB_ok l)]; omega) w ht)
  have T1 := Lib.hid (fun w ht => foot_any l.length (by omega) w ht)
  have hh : (headR l.length (figsB l)).length ≤ 30 := by
    have := fig_len (figsB_ok l)
    have := dec_len5 (show l.length ≤ 99999 by omega)
    unfold headR AMD; simp; omega
  have E1 : Hid (B (headR l.length (figsB l)) ++ ⟨#[10]⟩ ++ B l ++ B (footR l.length) = B (fullR l)) := by
    show _ = _
    rw [show (⟨#[10]⟩ : ByteArray) = B [10] from rfl, B_append, B_append, B_append]
    congr 1
    unfold fullR; rw [rec_def]; simp
  have s1 : (B (headR l.length (figsB l))).size ≤ 30 := by rw [B_size]; exact hh
  have s2 : (B (headR l.length (figsB l)) ++ ⟨#[10]⟩).size ≤ 31 := by rw [ByteArray.size_append]; show _ + 1 ≤ _; omega
  have s3 : (B (headR l.length (figsB l)) ++ ⟨#[10]⟩ ++ B l).size ≤ 60000 := by rw [ByteArray.size_append]; omega
  have s4 : (B (footR l.length)).size ≤ 30 := by
    have := dec_len5 (show l.length ≤ 99999 by omega)
    rw [B_size]; unfold footR END; simp; omega
  have s0 : (B l).size ≤ 50000 := by omega
  generalize B (headR l.length (figsB l)) = X at *
  generalize B (footR l.length) = Y at *
  generalize B (figsB l) = Z at *
  rw [← bl] at H1 T1
  generalize hL : B l = L at *
  clear hL bl hg hh
  go_enter Tryz.func9, Tryz.ntmps9
  go_wp2_with fail
  refine G1.out.mono ?_
  rintro e w1 ⟨rfl, hb1⟩
  go_wp2_with fail
  refine (S1.out _).mono ?_
  rintro e w2 ⟨rfl, hb2⟩
  have hb12 := hb1.trans (hb2.mono hb1.size)
  go_wp2_with fail
  refine (F1.out _).mono ?_
  rintro e w3 ⟨rfl, hb3⟩
  have hb13 := hb12.trans (hb3.mono hb12.size)
  go_wp2_with fail
  refine (H1.out _ (ht.below hb13 (Nat.le_refl _))).mono ?_
  rintro e w4 ⟨rfl, hb4⟩
  have hb14 := hb13.trans (hb4.mono hb13.size)
  go_wp2_with fail
  refine (T1.out _ (ht.below hb14 (Nat.le_refl _))).mono ?_
  rintro e w5 ⟨rfl, hb5⟩
  have hb15 := hb14.trans (hb5.mono hb14.size)
  go_wp2_with fail
  go_ret2
  exact ⟨by rw [← E1.out]; rfl, hb15⟩
set_option maxRecDepth 100000 in
theorem record_no (l : List UInt8) (hl : l.length ≤ 1000000) (hg : goodR l = false) (w : World) :
    Calls Tryz.prog 9 #[.string (B l)] w fun e w' => e = .returned (.tuple #[.string (B []), errV 2]) ∧ Below w.heap.size w w' := by
  have G1 := Lib.hid (good_any l hl w)
  rw [hg] at G1
  go_enter Tryz.func9, Tryz.ntmps9
  go_wp2_with fail
  refine G1.out.mono ?_
  rintro e w1 ⟨rfl, hb1⟩
  go_wp2_with fail
  go_ret2
  exact ⟨rfl, hb1⟩
def lenR (n : Int) : Int := if 2 ≤ n ∧ n ≤ 50000 then ((headR n.toNat zeros).length : Int) + 1 + n + ((footR n.toNat).length : Int) else 0
set_option maxRecDepth 100000 in
set_option maxHeartbeats 2000000 in
theorem length_any (n : Int) (w : World) (ht : TabsN w) :
    Calls Tryz.prog 5 #[.int .i64 n] w fun e w' => e = .returned (.int .i64 (lenR n)) ∧ Below w.heap.size w w' := by
  have F1 := Lib.hid (fits_any n w)
  by_cases h : 2 ≤ n ∧ n ≤ 50000
  · obtain ⟨k, rfl⟩ : ∃ k : Nat, n = k := ⟨n.toNat, by omega⟩
    have e0 : lenR k = ((headR k zeros).length : Int) + 1 + k + ((footR k).length : Int) := by unfold lenR; rw [if_pos h]; rfl
    rw [e0]
    have hd : decide (2 ≤ (k : Int) ∧ (k : Int) ≤ 50000) = true := by simpa using h
    rw [hd] at F1
    have H1 := Lib.hid (fun w ht => head_any k (by omega) zeros (by decide) w ht)
    have T1 := Lib.hid (fun w ht => foot_any k (by omega) w ht)
    have h5 := dec_len5 (show k ≤ 99999 by omega)
    have hh : (headR k zeros).length ≤ 30 := by unfold headR AMD zeros; simp; omega
    have hf : (footR k).length ≤ 30 := by unfold footR END; simp; omega
    have bh := B_size (headR k zeros)
    have bf := B_size (footR k)
    have zs : (⟨#[48, 48, 48, 48, 48, 48, 48, 48]⟩ : ByteArray) = B zeros := rfl
    have hk : (k : Int) ≤ 50000 := h.2
    have hh2 : (B (headR k zeros)).size ≤ 30 := by rw [bh]; exact hh
    have hf2 : (B (footR k)).size ≤ 30 := by rw [bf]; exact hf
    rw [← bh, ← bf]
    clear hh hf
    generalize B (headR k zeros) = X at *
    generalize B (footR k) = Y at *
    clear h hd e0 h5 bh bf
    have w1 : IntKind.i64.wrap ((X.size : Int) + 1) = (X.size : Int) + 1 := IntWalk.i64_in _ (by omega)
    have w2 : IntKind.i64.wrap ((X.size : Int) + 1 + k) = (X.size : Int) + 1 + k := IntWalk.i64_in _ (by omega)
    have w3 : IntKind.i64.wrap ((X.size : Int) + 1 + k + (Y.size : Int)) = (X.size : Int) + 1 + k + (Y.size : Int) := IntWalk.i64_in _ (by omega)
    go_enter Tryz.func5, Tryz.ntmps5
    rw [zs]
    go_wp2_with fail
    refine F1.out.mono ?_
    rintro e w1 ⟨rfl, rfl⟩
    go_wp2_with fail
    refine (H1.out _ ht).mono ?_
    rintro e w2 ⟨rfl, hb2⟩
    go_wp2_with fail
    refine (T1.out _ (ht.below hb2 (Nat.le_refl _))).mono ?_
    rintro e w3 ⟨rfl, hb3⟩
    go_wp2_with fail
    go_ret
    exact ⟨rfl, hb2.trans (hb3.mono hb2.size)⟩
  · have e0 : lenR n = 0 := by unfold lenR; rw [if_neg h]
    have hd : decide (2 ≤ n ∧ n ≤ 50000) = false := by simpa using h
    rw [hd] at F1
    rw [e0]
    go_enter Tryz.func5, Tryz.ntmps5
    go_wp2_with fail
    refine F1.out.mono ?_
    rintro e w1 ⟨rfl, rfl⟩
    go_wp2_with fail
    go_ret
    exact ⟨rfl, Below.refl _ _⟩
end Go.Proofs.YtoadimagpibfoaaGreatDoor.Fr
/- Read. -/
namespace Go.Proofs.YtoadimagpibfoaaGreatDoor.Fr
open Go.RowKit Go.Shelf
attribute [local go_sem] Oper.semAt_some

theorem read_part {t : List UInt8} (h : PartT t) : ReadIs t 2 [] 0 := .inr (.inl ⟨h, rfl, rfl, rfl⟩)
theorem read_odd {t : List UInt8} (h : ¬ PartT t) (h2 : ¬ ∃ b, WholeT t b) : ReadIs t 3 [] 0 := .inr (.inr ⟨h, h2, rfl, rfl, rfl⟩)
theorem line_split {l : List UInt8} (h : (10 : UInt8) ∈ l) : l = head l ++ 10 :: l.drop ((head l).length + 1) := by
  have := head_split l
  have hn : nl l = true := by unfold nl; simpa using h
  unfold used at this
  rw [hn, if_pos rfl, if_pos rfl] at this
  simpa using this
def readV (k : Nat) (b : List UInt8) (n : Nat) : Ending := .returned (.tuple #[.int .i64 (k : Int), .string (B b), .int .i64 (n : Int)])
set_option maxRecDepth 100000 in
set_option maxHeartbeats 4000000 in
theorem read_any (l : List UInt8) (hl : l.length ≤ 700000) (w : World) (ht : TabsN w) :
    Calls Tryz.prog 10 #[.string (B l)] w fun e w' => ∃ k b n, ReadIs l k b n ∧ e = readV k b n ∧ Below w.heap.size w w' := by
  have C1 := Lib.hid (cutB_any l 10 (by omega) w)
  by_cases h10 : (10 : UInt8) ∈ l
  · have hc : l.contains 10 = true := by simpa using h10
    have hln : (10 : UInt8) ∉ head l := takeWhile_no
    have hs := line_split h10
    have eh : l.takeWhile (· != 10) = head l := rfl
    rw [hc, eh] at C1
    have hh : (head l).length ≤ 700000 := by have := head_le l; omega
    have A1 := Lib.hid (fun w ht => announced_any (head l) (by omega) w ht)
    generalize head l = line at *
    generalize l.drop (line.length + 1) = r at *
    clear hc eh
    have hr : r.length ≤ 700000 := by have := congrArg List.length hs; simp at this; omega
    cases hq : annB line with
    | false =>
      have HO : Hid (ReadIs l 3 [] 0) := by
        have h := odd_line (r := r) hln (fun h => by have := annB_iff.2 h; rw [hq] at this; cases this)
        rw [← hs] at h
        exact read_odd h.1 h.2
      rw [hq] at A1
      clear hq hs hln hr
      go_enter Tryz.func10, Tryz.ntmps10
      go_wp2_with fail
      refine C1.out.mono ?_
      rintro e w1 ⟨rfl, hb1⟩
      go_wp2_with fail
      refine (A1.out _ (ht.below hb1 (Nat.le_refl _))).mono ?_
      rintro e w2 ⟨rfl, hb2⟩
      go_wp2_with fail
      go_ret3
      exact ⟨3, [], 0, HO.out, rfl, hb1.trans (hb2.mono hb1.size)⟩
    | true =>
      obtain ⟨n, f, hH⟩ := annB_head hq
      obtain ⟨_, hM⟩ := annB_of hH
      rw [hq, hM] at A1
      have h2 := hH.lo
      have h5 := hH.hi
      have hfig := hH.fig
      have hle := hH.eq
      clear hq hM
      by_cases hlt : r.length < n
      · have hlt' : ((B r).size : Int) < n := by rw [B_size]; omega
        have HS := Lib.hid (short_body (f := f) h2 h5 hfig hlt)
        rw [← hle, ← hs] at HS
        have BB := Lib.hid (fun w => beginsBody_any r n h2 h5 hlt w)
        generalize bodyPart r n = q at *
        clear hs hle hH hln hfig hlt hr
        generalize B r = R at *
        cases q with
        | true =>
          have HO : Hid (ReadIs l 2 [] 0) := read_part (HS.out.1.2 rfl)
          go_enter Tryz.func10, Tryz.ntmps10
          go_wp2_with fail
          refine C1.out.mono ?_
          rintro e w1 ⟨rfl, hb1⟩
          go_wp2_with fail
          refine (A1.out _ (ht.below hb1 (Nat.le_refl _))).mono ?_
          rintro e w2 ⟨rfl, hb2⟩
          have hb12 := hb1.trans (hb2.mono hb1.size)
          go_wp2_with fail
          refine (BB.out _).mono ?_
          rintro e w3 ⟨rfl, hb3⟩
          have hb13 := hb12.trans (hb3.mono hb12.size)
          go_wp2_with fail
          refine (partIf_yes _).mono ?_
          rintro e w4 ⟨rfl, rfl⟩
          go_wp2_with fail
          go_ret3
          exact ⟨2, [], 0, HO.out, rfl, hb13⟩
        | false =>
          have HO : Hid (ReadIs l 3 [] 0) := read_odd (fun h => by cases HS.out.1.1 h) HS.out.2
          go_enter Tryz.func10, Tryz.ntmps10
          go_wp2_with fail
          refine C1.out.mono ?_
          rintro e w1 ⟨rfl, hb1⟩
          go_wp2_with fail
          refine (A1.out _ (ht.below hb1 (Nat.le_refl _))).mono ?_
          rintro e w2 ⟨rfl, hb2⟩
          have hb12 := hb1.trans (hb2.mono hb1.size)
          go_wp2_with fail
          refine (BB.out _).mono ?_
          rintro e w3 ⟨rfl, hb3⟩
          have hb13 := hb12.trans (hb3.mono hb12.size)
          go_wp2_with fail
          refine (partIf_no _).mono ?_
          rintro e w4 ⟨rfl, rfl⟩
          go_wp2_with fail
          go_ret3
          exact ⟨3, [], 0, HO.out, rfl, hb13⟩
      · have br := B_size r
        have hlt' : ¬ ((B r).size : Int) < n := by rw [br]; omega
        have hnr : (n : Int) ≤ (B r).size := by rw [br]; omega
        have x1 : (B r).extract 0 n = B (r.take n) := ext_take r n
        have x2 : (B r).extract n (B r).size = B (r.drop n) := ext_drop r n
        have hb0 : (r.take n).length = n := by simp; omega
        have hrd : r.take n ++ r.drop n = r := List.take_append_drop n r
        have HL := Lib.hid (long_body (f := f) (b := r.take n) (r := r.drop n) h2 h5 hfig hb0)
        rw [hrd, ← hle, ← hs] at HL
        generalize hbd : r.take n = bd at *
        generalize hrs : r.drop n = rs at *
        have HF := Lib.hid (fun w ht => beginsFoot_any rs n h5 w ht)
        have HFB := Lib.hid (footB_iff (t := rs) (n := n))
        have P1 := Lib.hid (fun w => Tryz.strings_HasPrefix (B l) (B (fullR bd)) w)
        have RN := Lib.hid (record_no bd (by omega))
        have RY := Lib.hid (record_yes bd)
        have GD := Lib.hid (fun w => good_any bd (by omega) w)
        have hel : l = headR n f ++ 10 :: (bd ++ rs) := by rw [hrd, ← hle]; exact hs
        clear hbd hrs hrd hs hlt hr hle
        have bsz : (B bd).size ≤ 50000 := by rw [B_size]; omega
        have HX := Lib.hid x1
        have HY := Lib.hid x2
        clear x1 x2 br
        generalize B r = R at *
        generalize hBD : B bd = BD at *
        generalize B rs = RS at *
        have hl1 : l.length ≤ 700000 := hl
        cases hg : goodR bd with
        | false =>
          have RN2 := Lib.hid (RN.out hg)
          have GD2 := GD.out
          rw [hg] at GD2
          have GD3 := Lib.hid GD2
          have HO : Hid (ReadIs l 3 [] 0) := read_odd (fun h => by have := (HL.out.1.1 h).1; rw [hg] at this; cases this) (fun ⟨b', h⟩ => by have := ((HL.out.2 b').1 h).2.1; rw [hg] at this; cases this)
          clear GD2 GD RY RN hg hH hln hfig hel hl hl1 P1 HL HF HFB
          go_enter Tryz.func10, Tryz.ntmps10
          go_wp2_with fail
          refine C1.out.mono ?_
          rintro e w1 ⟨rfl, hb1⟩
          go_wp2_with fail
          refine (A1.out _ (ht.below hb1 (Nat.le_refl _))).mono ?_
          rintro e w2 ⟨rfl, hb2⟩
          have hb12 := hb1.trans (hb2.mono hb1.size)
          go_wp2_with fail
          go_quiet (fail)
          go_wp2_with fail
          rw [HX.out, HY.out]
          have ht2 := ht.below hb12 (Nat.le_refl _)
          have hbq : Below w.heap.size w (w2.drewN nq) := ⟨hb12.os, hb12.tape, hb12.output, hb12.size, hb12.block⟩
          have htq := ht.below hbq (Nat.le_refl _)
          generalize w2.drewN nq = w3 at *
          refine (RN2.out _).mono ?_
          rintro e w4 ⟨rfl, hb4⟩
          have hb14 := hbq.trans (hb4.mono hbq.size)
          rw [errV_2]
          go_wp2_with fail
          refine (GD3.out _).mono ?_
          rintro e w5 ⟨rfl, hb5⟩
          have hb15 := hb14.trans (hb5.mono hb14.size)
          go_wp2_with fail
          refine (partIf_no _).mono ?_
          rintro e w7 ⟨rfl, rfl⟩
          go_wp2_with fail
          go_ret3
          exact ⟨3, [], 0, HO.out, rfl, hb15⟩
        | true =>
          have RY2 := Lib.hid (RY.out hg)
          have GD2 := GD.out
          rw [hg] at GD2
          have GD3 := Lib.hid GD2
          clear GD2 GD RY RN
          have fl := full_le hg
          have e1 : Lib.hasPrefix (B l).data.toList (B (fullR bd)).data.toList = Lib.hasPrefix l (fullR bd) := by rw [B_data, B_data]
          have fs := B_size (fullR bd)
          generalize hFB : B (fullR bd) = FB at *
          cases hp : Lib.hasPrefix l (fullR bd) with
          | true =>
            have HO : Hid (ReadIs l 1 bd (fullR bd).length) := by
              refine .inl ⟨⟨hg, ?_⟩, rfl, rfl⟩
              unfold Lib.hasPrefix at hp
              obtain ⟨z, hz⟩ := List.isPrefixOf_iff_prefix.1 hp
              exact ⟨z, hz.symm⟩
            have P2 := P1.out
            rw [e1, hp] at P2
            have P3 := Lib.hid P2
            clear hp hg e1 hH hln hfig hel hl hl1 P1 P2 HL HF HFB GD3
            rw [← fs] at HO
            clear fs hFB
            go_enter Tryz.func10, Tryz.ntmps10
            go_wp2_with fail
            refine C1.out.mono ?_
            rintro e w1 ⟨rfl, hb1⟩
            go_wp2_with fail
            refine (A1.out _ (ht.below hb1 (Nat.le_refl _))).mono ?_
            rintro e w2 ⟨rfl, hb2⟩
            have hb12 := hb1.trans (hb2.mono hb1.size)
            go_wp2_with fail
            go_quiet (fail)
            go_wp2_with fail
            rw [HX.out, HY.out]
            have ht2 := ht.below hb12 (Nat.le_refl _)
            have hbq : Below w.heap.size w (w2.drewN nq) := ⟨hb12.os, hb12.tape, hb12.output, hb12.size, hb12.block⟩
            have htq := ht.below hbq (Nat.le_refl _)
            generalize w2.drewN nq = w3 at *
            refine (RY2.out _ htq).mono ?_
            rintro e w4 ⟨rfl, hb4⟩
            have hb14 := hbq.trans (hb4.mono hbq.size)
            go_wp2_with fail
            refine (P3.out _).mono ?_
            rintro e w5 ⟨rfl, rfl⟩
            go_wp2_with fail
            go_ret3
            exact ⟨1, bd, FB.size, HO.out, by rw [← hBD]; rfl, hb14⟩
          | false =>
            have P2 := P1.out
            rw [e1, hp] at P2
            have P3 := Lib.hid P2
            have hw : ¬ ∃ b, WholeT l b := by
              rintro ⟨b', h'⟩
              obtain ⟨rfl, _, _, _⟩ := (HL.out.2 b').1 h'
              obtain ⟨_, more, e⟩ := h'
              have : Lib.hasPrefix l (fullR b') = true := by unfold Lib.hasPrefix; rw [List.isPrefixOf_iff_prefix]; exact ⟨more, e.symm⟩
              rw [hp] at this; cases this
            have hpt : PartT l ↔ footB rs n = true := by
              rw [HL.out.1, HFB.out]
              exact ⟨fun h => h.2, fun h => ⟨hg, h⟩⟩
            have HO := Lib.hid (show (footB rs n = true → ReadIs l 2 [] 0) ∧ (footB rs n = false → ReadIs l 3 [] 0) from
              ⟨fun h => read_part (hpt.2 h), fun h => read_odd (fun h' => by rw [hpt.1 h'] at h; cases h) hw⟩)
            generalize footB rs n = q at *
            clear hp hg e1 hH hln hfig hel hl hl1 P1 P2 HL HFB hw hpt fs hFB
            cases q with
            | true =>
              have HO2 := Lib.hid (HO.out.1 rfl)
              go_enter Tryz.func10, Tryz.ntmps10
              go_wp2_with fail
              refine C1.out.mono ?_
              rintro e w1 ⟨rfl, hb1⟩
              go_wp2_with fail
              refine (A1.out _ (ht.below hb1 (Nat.le_refl _))).mono ?_
              rintro e w2 ⟨rfl, hb2⟩
              have hb12 := hb1.trans (hb2.mono hb1.size)
              go_wp2_with fail
              go_quiet (fail)
              go_wp2_with fail
              rw [HX.out, HY.out]
              have ht2 := ht.below hb12 (Nat.le_refl _)
              have hbq : Below w.heap.size w (w2.drewN nq) := ⟨hb12.os, hb12.tape, hb12.output, hb12.size, hb12.block⟩
              have htq := ht.below hbq (Nat.le_refl _)
              generalize w2.drewN nq = w3 at *
              refine (RY2.out _ htq).mono ?_
              rintro e w4 ⟨rfl, hb4⟩
              have hb14 := hbq.trans (hb4.mono hbq.size)
              go_wp2_with fail
              refine (P3.out _).mono ?_
              rintro e w5 ⟨rfl, rfl⟩
              go_wp2_with fail
              refine (GD3.out _).mono ?_
              rintro e w5 ⟨rfl, hb5⟩
              have hb15 := hb14.trans (hb5.mono hb14.size)
              go_wp2_with fail
              refine (HF.out _ (ht.below hb15 (Nat.le_refl _))).mono ?_
              rintro e w6 ⟨rfl, hb6⟩
              have hb16 := hb15.trans (hb6.mono hb15.size)
              go_wp2_with fail
              refine (partIf_yes _).mono ?_
              rintro e w7 ⟨rfl, rfl⟩
              go_wp2_with fail
              go_ret3
              exact ⟨2, [], 0, HO2.out, rfl, hb16⟩
            | false =>
              have HO2 := Lib.hid (HO.out.2 rfl)
              go_enter Tryz.func10, Tryz.ntmps10
              go_wp2_with fail
              refine C1.out.mono ?_
              rintro e w1 ⟨rfl, hb1⟩
              go_wp2_with fail
              refine (A1.out _ (ht.below hb1 (Nat.le_refl _))).mono ?_
              rintro e w2 ⟨rfl, hb2⟩
              have hb12 := hb1.trans (hb2.mono hb1.size)
              go_wp2_with fail
              go_quiet (fail)
              go_wp2_with fail
              rw [HX.out, HY.out]
              have ht2 := ht.below hb12 (Nat.le_refl _)
              have hbq : Below w.heap.size w (w2.drewN nq) := ⟨hb12.os, hb12.tape, hb12.output, hb12.size, hb12.block⟩
              have htq := ht.below hbq (Nat.le_refl _)
              generalize w2.drewN nq = w3 at *
              refine (RY2.out _ htq).mono ?_
              rintro e w4 ⟨rfl, hb4⟩
              have hb14 := hbq.trans (hb4.mono hbq.size)
              go_wp2_with fail
              refine (P3.out _).mono ?_
              rintro e w5 ⟨rfl, rfl⟩
              go_wp2_with fail
              refine (GD3.out _).mono ?_
              rintro e w5 ⟨rfl, hb5⟩
              have hb15 := hb14.trans (hb5.mono hb14.size)
              go_wp2_with fail
              refine (HF.out _ (ht.below hb15 (Nat.le_refl _))).mono ?_
              rintro e w6 ⟨rfl, hb6⟩
              have hb16 := hb15.trans (hb6.mono hb15.size)
              go_wp2_with fail
              refine (partIf_no _).mono ?_
              rintro e w7 ⟨rfl, rfl⟩
              go_wp2_with fail
              go_ret3
              exact ⟨3, [], 0, HO2.out, rfl, hb16⟩
  · have hc : l.contains 10 = false := by simpa using h10
    have eh : l.takeWhile (· != 10) = l := takeWhile_all (no_all h10)
    rw [hc, eh] at C1
    have BH := Lib.hid (fun w ht => beginsHead_any l (by omega) w ht)
    have HO := Lib.hid (show (HeadPart l → ReadIs l 2 [] 0) ∧ (¬ HeadPart l → ReadIs l 3 [] 0) from
      ⟨part_of, fun h => read_odd (fun h' => h ((part_line h10).1 h')) (fun ⟨b, h'⟩ => no_whole_line h10 h')⟩)
    clear hc eh h10
    generalize B (l.drop (l.length + 1)) = R at *
    go_enter Tryz.func10, Tryz.ntmps10
    go_wp2_with fail
    refine C1.out.mono ?_
    rintro e w1 ⟨rfl, hb1⟩
    go_wp2_with fail
    refine (BH.out _ (ht.below hb1 (Nat.le_refl _))).mono ?_
    rintro e w2 ⟨q, hq, rfl, hb2⟩
    have hb12 := hb1.trans (hb2.mono hb1.size)
    have HQ := Lib.hid hq
    clear hq
    go_wp2_with fail
    cases q with
    | true =>
      have HO2 := Lib.hid (HO.out.1 (HQ.out.1 rfl))
      refine (partIf_yes _).mono ?_
      rintro e w7 ⟨rfl, rfl⟩
      go_wp2_with fail
      go_ret3
      exact ⟨2, [], 0, HO2.out, rfl, hb12⟩
    | false =>
      have HO2 := Lib.hid (HO.out.2 (fun h => by cases HQ.out.2 h))
      refine (partIf_no _).mono ?_
      rintro e w7 ⟨rfl, rfl⟩
      go_wp2_with fail
      go_ret3
      exact ⟨3, [], 0, HO2.out, rfl, hb12⟩
end Go.Proofs.YtoadimagpibfoaaGreatDoor.Fr
/- The document's lines, Good, begins, around, Record, Length, decimal, hex. -/
namespace Go.Proofs.YtoadimagpibfoaaGreatDoor.Fr
open Go.RowKit Go.Shelf
attribute [local go_sem] Oper.semAt_some

theorem byteT {c : UInt8} (d : UInt8) (n : Int) (hn : (d.toNat : Int) = n) : ((c.toNat : Int) == n) = (c == d) := by
  by_cases h : c = d
  · subst h; simp [hn]
  · have : (c.toNat : Int) ≠ n := by intro e; apply h; apply UInt8.toNat_inj.1; omega
    rw [beq_eq_false_iff_ne.2 this]; simp [h]
theorem fresh_take {s : ByteArray} {m : Nat} (h : m < s.size) : fresh true (s.data.toList.take (m + 1)) = (s[m] == 10) := by
  rw [Sm.take_snoc s m h]
  unfold fresh
  simp
theorem sp_take {s : ByteArray} {k : Nat} (h : k < s.size) : sp true (s.data.toList.take (k + 1)) = (sp true (s.data.toList.take k) && (!fresh true (s.data.toList.take k) || s[k] == 32)) := by
  rw [Sm.take_snoc s k h, sp_append]
  simp [sp]
theorem sp_no {s : ByteArray} {k : Nat} (h : sp true (s.data.toList.take k) = false) : sp true s.data.toList = false := by
  rw [← List.take_append_drop k s.data.toList, sp_append, h]; rfl
theorem begins_iff {l p : List UInt8} : Lib.hasPrefix l p = true ↔ ∃ q, l = p ++ q := by
  unfold Lib.hasPrefix
  rw [List.isPrefixOf_iff_prefix]
  exact ⟨fun ⟨q, h⟩ => ⟨q, h.symm⟩, fun ⟨q, h⟩ => ⟨q, h.symm⟩⟩
theorem refFigures_nat (n : Nat) (hn : n ≤ 9223372036854775807) (w : World) : Calls Tryz.prog 31 #[.int .i64 (n : Int)] w fun e w' => e = .returned (.string (B (Lib.decDigits n))) ∧ w' = w := by
  have := figures_any (n : Int) (by unfold I64; omega) w
  rwa [Lib.itoa_nonneg] at this
set_option maxRecDepth 100000 in
set_option maxHeartbeats 2000000 in
theorem around_any (n : Nat) (hn : n ≤ 50000) (f : List UInt8) (hf : f.length ≤ 1000000) (w : World) :
    Calls Tryz.prog 16 #[.int .i64 (n : Int), .string (B f)] w fun e w' => e = .returned (.tuple #[.string (B (headR n f ++ [10])), .string (B (footR n))]) ∧ w' = w := by
  have IT := Lib.hid (fun w => refFigures_nat n (by omega) w)
  have E1 : Hid ((⟨#[37, 97, 109, 101, 110, 100, 32]⟩ : ByteArray) ++ B (Lib.decDigits n) ++ ⟨#[32]⟩ ++ B f ++ ⟨#[10]⟩ = B (headR n f ++ [10])) := by
    show _ = _
    rw [show (⟨#[37, 97, 109, 101, 110, 100, 32]⟩ : ByteArray) = B AMD from rfl, show (⟨#[32]⟩ : ByteArray) = B [32] from rfl, show (⟨#[10]⟩ : ByteArray) = B [10] from rfl, B_append, B_append, B_append, B_append]
    unfold headR; simp
  have E2 : Hid ((⟨#[37, 101, 110, 100, 32]⟩ : ByteArray) ++ B (Lib.decDigits n) ++ ⟨#[10]⟩ = B (footR n)) := by
    show _ = _
    rw [show (⟨#[37, 101, 110, 100, 32]⟩ : ByteArray) = B END from rfl, show (⟨#[10]⟩ : ByteArray) = B [10] from rfl, B_append, B_append]
    unfold footR; simp
  have hs := dec_size n (by omega)
  have hfs : (B f).size ≤ 1000000 := by rw [B_size]; exact hf
  generalize B (Lib.decDigits n) = d at *
  generalize B f = g at *
  have s1 : ((⟨#[37, 97, 109, 101, 110, 100, 32]⟩ : ByteArray) ++ d).size ≤ 27 := by rw [ByteArray.size_append]; show 7 + _ ≤ _; omega
  have s2 : ((⟨#[37, 97, 109, 101, 110, 100, 32]⟩ : ByteArray) ++ d ++ ⟨#[32]⟩).size ≤ 28 := by rw [ByteArray.size_append]; show _ + 1 ≤ _; omega
  have s3 : ((⟨#[37, 97, 109, 101, 110, 100, 32]⟩ : ByteArray) ++ d ++ ⟨#[32]⟩ ++ g).size ≤ 1000028 := by rw [ByteArray.size_append]; omega
  have s4 : ((⟨#[37, 101, 110, 100, 32]⟩ : ByteArray) ++ d).size ≤ 25 := by rw [ByteArray.size_append]; show 5 + _ ≤ _; omega
  go_enter Tryz.func16, Tryz.ntmps16
  go_wp2_with fail
  refine (IT.out _).mono ?_
  rintro e w1 ⟨rfl, rfl⟩
  go_wp2_with fail
  refine (IT.out _).mono ?_
  rintro e w1 ⟨rfl, rfl⟩
  go_wp2_with fail
  go_ret2
  exact ⟨by rw [← E1.out, ← E2.out]; rfl, rfl⟩
set_option maxRecDepth 100000 in
set_option maxHeartbeats 2000000 in
theorem refLength_any (n : Int) (w : World) :
    Calls Tryz.prog 6 #[.int .i64 n] w fun e w' => e = .returned (.int .i64 (lenR n)) ∧ w' = w := by
  by_cases h2 : 2 ≤ n
  · have q2 : ¬ n < 2 := by omega
    by_cases h5 : n ≤ 50000
    · have q5 : ¬ 50000 < n := by omega
      obtain ⟨k, rfl⟩ : ∃ k : Nat, n = k := ⟨n.toNat, by omega⟩
      have e0 : lenR k = ((headR k zeros ++ [10]).length : Int) + k + ((footR k).length : Int) := by unfold lenR; rw [if_pos ⟨h2, h5⟩]; simp
      rw [e0]
      have A1 := Lib.hid (fun w => around_any k (by omega) zeros (by decide) w)
      have hl5 := dec_len5 (show k ≤ 99999 by omega)
      have hh2 : (B (headR k zeros ++ [10])).size ≤ 31 := by rw [B_size]; unfold headR AMD zeros; simp; omega
      have hf2 : (B (footR k)).size ≤ 30 := by rw [B_size]; unfold footR END; simp; omega
      rw [← B_size, ← B_size]
      have zs : (⟨#[48, 48, 48, 48, 48, 48, 48, 48]⟩ : ByteArray) = B zeros := rfl
      generalize B (headR k zeros ++ [10]) = X at *
      generalize B (footR k) = Y at *
      clear e0 hl5
      have w1 : IntKind.i64.wrap ((X.size : Int) + k) = (X.size : Int) + k := IntWalk.i64_in _ (by omega)
      have w2 : IntKind.i64.wrap ((X.size : Int) + k + (Y.size : Int)) = (X.size : Int) + k + (Y.size : Int) := IntWalk.i64_in _ (by omega)
      go_enter Tryz.func6, Tryz.ntmps6
      rw [zs]
      go_wp2_with fail
      refine (A1.out _).mono ?_
      rintro e w1 ⟨rfl, rfl⟩
      go_wp2_with fail
      go_ret
      exact ⟨rfl, rfl⟩
    · have q5 : 50000 < n := by omega
      have e0 : lenR n = 0 := by unfold lenR; rw [if_neg (by omega)]
      rw [e0]
      go_enter Tryz.func6, Tryz.ntmps6
      go_wp2_with fail
      go_ret
      exact ⟨rfl, rfl⟩
  · have q2 : n < 2 := by omega
    have e0 : lenR n = 0 := by unfold lenR; rw [if_neg (by omega)]
    rw [e0]
    go_enter Tryz.func6, Tryz.ntmps6
    go_wp2_with fail
    go_ret
    exact ⟨rfl, rfl⟩
end Go.Proofs.YtoadimagpibfoaaGreatDoor.Fr
/- The laws' fixed fact; FrameRecords. -/
namespace Go.Proofs.YtoadimagpibfoaaGreatDoor.Fr
open Go.RowKit Go.Shelf
attribute [local go_sem] Oper.semAt_some

theorem readWhole_any {l b : List UInt8} (h : WholeT l b) (hl : l.length ≤ 700000) (w : World) (ht : TabsN w) :
    Calls Tryz.prog 10 #[.string (B l)] w fun e w' => e = .returned (.tuple #[.int .i64 1, .string (B b), .int .i64 ((fullR b).length : Int)]) ∧ Below w.heap.size w w' :=
  (read_any l hl w ht).mono fun e w' ⟨k, b', n, hr, he, hb⟩ => by
    obtain ⟨rfl, rfl, rfl⟩ := read_one hr (.inl ⟨h, rfl, rfl⟩)
    exact ⟨he, hb⟩
theorem readPart_any {l : List UInt8} (h : PartT l) (hl : l.length ≤ 700000) (w : World) (ht : TabsN w) :
    Calls Tryz.prog 10 #[.string (B l)] w fun e w' => e = .returned (.tuple #[.int .i64 2, .string (B []), .int .i64 0]) ∧ Below w.heap.size w w' :=
  (read_any l hl w ht).mono fun e w' ⟨k, b', n, hr, he, hb⟩ => by
    obtain ⟨rfl, rfl, rfl⟩ := read_one hr (read_part h)
    exact ⟨he, hb⟩
theorem readOdd_any {l : List UInt8} (h : ReadIs l 3 [] 0) (hl : l.length ≤ 700000) (w : World) (ht : TabsN w) :
    Calls Tryz.prog 10 #[.string (B l)] w fun e w' => e = .returned (.tuple #[.int .i64 3, .string (B []), .int .i64 0]) ∧ Below w.heap.size w w' :=
  (read_any l hl w ht).mono fun e w' ⟨k, b', n, hr, he, hb⟩ => by
    obtain ⟨rfl, rfl, rfl⟩ := read_one hr h
    exact ⟨he, hb⟩
def b3 : List UInt8 := [32, 97, 10]
theorem b3_good : goodR b3 = true := by decide
theorem dec3 : Lib.decDigits b3.length = [51] := by rw [show b3.length = 3 from rfl, Lib.decDigits_one (by omega)]; rfl
theorem full3 : fullR b3 = [37, 97, 109, 101, 110, 100, 32, 51, 32] ++ figsB b3 ++ [10, 32, 97, 10, 37, 101, 110, 100, 32, 51, 10] := by
  unfold fullR recR headR footR
  rw [dec3]
  unfold AMD END b3
  simp
set_option maxRecDepth 100000 in
set_option maxHeartbeats 4000000 in
theorem alive_any (w : World) (ht : TabsN w) :
    Calls Tryz.prog 4 #[] w fun e w' => e = .returned (.bool true) ∧ Below w.heap.size w w' := by
  have z3 : (⟨#[32, 97, 10]⟩ : ByteArray) = B b3 := rfl
  have R1 := Lib.hid (record_yes b3 b3_good w ht)
  have W1 : WholeT (fullR b3 ++ [120]) b3 := ⟨b3_good, [120], rfl⟩
  have hl := full_le b3_good
  have D1 := Lib.hid (fun w ht => readWhole_any W1 (by simp; omega) w ht)
  have e1 : Hid (B (fullR b3) ++ (⟨#[120]⟩ : ByteArray) = B (fullR b3 ++ [120])) := by show _ = _; rw [show (⟨#[120]⟩ : ByteArray) = B [120] from rfl, B_append]
  have S1 := Lib.hid (fun w => Sm.refSum_any (B b3) w (by decide))
  have F1 := Lib.hid (fun w => Sm.refFigures_any (Sm.M.crc b3) (Sm.M.crc_lt b3) w)
  have eF : Sm.figs (Sm.M.crc b3) = B (figsB b3) := (B_of _).symm
  simp only [eF] at F1
  simp only [B_data] at S1
  have e2 : ((⟨#[37, 97, 109, 101, 110, 100, 32, 51, 32]⟩ : ByteArray) ++ B (figsB b3) ++ (⟨#[10, 32, 97, 10, 37, 101, 110, 100, 32, 51, 10]⟩ : ByteArray)) = B (fullR b3) := by
    rw [show (⟨#[37, 97, 109, 101, 110, 100, 32, 51, 32]⟩ : ByteArray) = B [37, 97, 109, 101, 110, 100, 32, 51, 32] from rfl, show (⟨#[10, 32, 97, 10, 37, 101, 110, 100, 32, 51, 10]⟩ : ByteArray) = B [10, 32, 97, 10, 37, 101, 110, 100, 32, 51, 10] from rfl, B_append, B_append, full3]
  have fs := B_size (fullR b3)
  have zs : (B (figsB b3)).size ≤ 8 := by rw [B_size, fig_len (figsB_ok b3)]; omega
  have s1 : ((⟨#[37, 97, 109, 101, 110, 100, 32, 51, 32]⟩ : ByteArray) ++ B (figsB b3)).size ≤ 17 := by rw [ByteArray.size_append]; show 9 + _ ≤ _; omega
  have hs : (B (fullR b3)).size ≤ 50100 := by omega
  rw [← fs] at D1
  generalize B (fullR b3) = X at *
  generalize B (fullR b3 ++ [120]) = Y at *
  generalize B (figsB b3) = Z at *
  clear fs hl W1
  go_enter Tryz.func4, Tryz.ntmps4
  rw [z3]
  go_wp2_with fail
  refine R1.out.mono ?_
  rintro e w1 ⟨rfl, hb1⟩
  go_wp2_with fail
  rw [e1.out]
  refine (D1.out _ (ht.below hb1 (Nat.le_refl _))).mono ?_
  rintro e w2 ⟨rfl, hb2⟩
  have hb12 := hb1.trans (hb2.mono hb1.size)
  go_wp2_with fail
  refine (S1.out _).mono ?_
  rintro e w3 ⟨rfl, rfl⟩
  go_wp2_with fail
  refine (F1.out _).mono ?_
  rintro e w3 ⟨rfl, rfl⟩
  go_wp2_with fail
  go_ret
  exact ⟨rfl, hb12⟩
theorem len_full {b : List UInt8} (hg : goodR b = true) : lenR (b.length : Int) = ((fullR b).length : Int) := by
  obtain ⟨h2, h5, _, _⟩ := good_iff.1 hg
  have := fig_len (figsB_ok b)
  unfold lenR
  rw [if_pos (by omega)]
  unfold fullR; rw [rec_def]
  have z8 : zeros.length = 8 := rfl
  unfold headR
  simp only [List.length_append, List.length_cons, Int.toNat_natCast, z8, this]
  omega
theorem full_ne {b : List UInt8} (hg : goodR b = true) : 7 ≤ (fullR b).length := by unfold fullR recR headR AMD; simp
end Go.Proofs.YtoadimagpibfoaaGreatDoor.Fr
/- beginsBlank, Key, Kind and Cut. -/
namespace Go.Proofs.YtoadimagpibfoaaGreatDoor
open Go.RowKit Go.Shelf

theorem ne_of_cons {s : ByteArray} {c : UInt8} {t : List UInt8} (h : s.data.toList = c :: t) : s.toList.isEmpty = false ∧ ¬ s.toList = [] ∧ 1 ≤ s.size := by
  rw [Lib.toList_data, h]
  exact ⟨rfl, by simp, by rw [Lib.size_eq, h]; simp⟩
theorem empty_of {s : ByteArray} (h : s.data.toList = []) : s = ⟨#[]⟩ := by
  rw [← Lib.mk_data s, h]
theorem ind_blank (c : UInt8) : decide (0 ≤ Lib.indexByte [32, 9] c) = blankB c := by
  unfold blankB
  by_cases h1 : c = 32
  · subst h1; decide
  · by_cases h2 : c = 9
    · subst h2; decide
    · have a : ((32 : UInt8) == c) = false := by simp [Ne.symm h1]
      have b : ((9 : UInt8) == c) = false := by simp [Ne.symm h2]
      simp [Lib.indexByte, a, b, h1, h2]
theorem ind_has (l : List UInt8) (c : UInt8) : decide (0 ≤ Lib.indexByte l c) = l.contains c := by
  rcases indexByte_cases l c with ⟨h1, h2⟩ | ⟨h1, h2⟩
  · rw [h1]; simp [h2]
  · rw [h1]; simp [h2]
theorem pre_hash (l : List UInt8) : Lib.hasPrefix l [35] = hashB l := by
  unfold Lib.hasPrefix hashB
  cases l with
  | nil => rfl
  | cons a t => simp [List.isPrefixOf, Bool.beq_comm]
set_option maxHeartbeats 400000 in
theorem begins_no (w : World) :
    Calls Tryz.prog 35 #[.string ⟨#[]⟩] w fun e w' => e = .returned (.bool false) ∧ w = w' := by
  go_enter Tryz.func35, Tryz.ntmps35
  go_wp2
  go_ret
  exact ⟨rfl, rfl⟩
set_option maxHeartbeats 400000 in
theorem begins_yes (s : ByteArray) (c : UInt8) (t : List UInt8) (h : s.data.toList = c :: t) (hs : s.size ≤ maxLen) (w : World) :
    Calls Tryz.prog 35 #[.string s] w fun e w' => e = .returned (.bool (blankB c)) ∧ w = w' := by
  have hz : 1 ≤ s.size := by rw [Lib.size_eq, h]; simp
  have e1 : s.extract 0 1 = ⟨#[c]⟩ := by
    have := Lib.extract_data s 0 1
    rw [h] at this
    rw [← Lib.mk_data (s.extract 0 1), this]; rfl
  obtain ⟨n1, n2, n3⟩ := ne_of_cons h
  clear h
  unfold maxLen at hs
  go_enter Tryz.func35, Tryz.ntmps35
  go_wp2_with fail
  refine (Tryz.strings_Contains_one ⟨#[32, 9]⟩ c _).mono ?_
  rw [show (⟨#[32, 9]⟩ : ByteArray).data.toList = [32, 9] from rfl, ind_blank]
  rintro e w' ⟨rfl, rfl⟩
  go_wp2
  go_ret
  exact ⟨rfl, rfl⟩
theorem begins_any (s : ByteArray) (hs : s.size ≤ maxLen) (w : World) :
    Calls Tryz.prog 35 #[.string s] w fun e w' => e = .returned (.bool (beginsB s.data.toList)) ∧ w = w' := by
  cases h : s.data.toList with
  | nil => rw [empty_of h]; exact begins_no w
  | cons c t => exact begins_yes s c t h hs w
theorem has_any (s : ByteArray) (c : UInt8) (w : World) :
    Calls Tryz.prog 33 #[.string s, .string ⟨#[c]⟩] w fun e w' => e = .returned (.bool (hasB s.data.toList c)) ∧ w = w' := by
  refine (Tryz.strings_Contains_one s c _).mono ?_
  rw [ind_has]
  rintro e w' ⟨rfl, rfl⟩
  exact ⟨rfl, rfl⟩
theorem hash_any (s : ByteArray) (w : World) :
    Calls Tryz.prog 17 #[.string s, .string ⟨#[35]⟩] w fun e w' => e = .returned (.bool (hashB s.data.toList)) ∧ w = w' := by
  refine (Tryz.strings_HasPrefix s ⟨#[35]⟩ _).mono ?_
  rw [show (⟨#[35]⟩ : ByteArray).data.toList = [35] from rfl, pre_hash]
  rintro e w' ⟨rfl, rfl⟩
  exact ⟨rfl, rfl⟩
theorem trim_any (s : ByteArray) (hs : s.size ≤ 9223372036854775807) (w : World) :
    Calls Tryz.prog 34 #[.string s, .string ⟨#[32, 9]⟩] w fun e w' => e = .returned (.string ⟨(Lib.trimS s.data.toList [32, 9]).toArray⟩) ∧ Below w.heap.size w w' :=
  Any.strings_Trim_laid Tryz.lays160 (by kernel_rfl) s ⟨#[32, 9]⟩ w hs (by decide) (ascii_of_all (by decide))

set_option maxHeartbeats 1000000 in
theorem key_any (s : ByteArray) (hs : s.size ≤ maxLen) (w : World) :
    Calls Tryz.prog 36 #[.string s] w fun e w' => e = .returned (.bool (goodKey s.data.toList)) ∧ w = w' := by
  cases h : s.data.toList with
  | nil =>
    rw [empty_of h]
    go_enter Tryz.func36, Tryz.ntmps36
    go_wp2
    go_ret
    exact ⟨rfl, rfl⟩
  | cons c t =>
    rw [← h]
    obtain ⟨n1, n2, n3⟩ := ne_of_cons h
    clear h
    have n4 : 1 ≤ s.data.toList.length := by rw [← Lib.size_eq]; exact n3
    have n5 := Lib.size_eq s
    have g1 := begins_any s hs
    unfold maxLen at hs
    by_cases h1 : s.size ≤ 32
    · rw [n5] at h1
      have e1 : goodKey s.data.toList = (!beginsB s.data.toList && !hashB s.data.toList && !hasB s.data.toList 58 && !hasB s.data.toList 10) := by
        unfold goodKey; rw [decide_eq_true n4, decide_eq_true h1]; simp
      rw [e1]
      rw [← n5] at h1
      clear n5 n4 e1
      cases h2 : beginsB s.data.toList with
      | true =>
        go_enter Tryz.func36, Tryz.ntmps36
        go_wp2_with (go_at_call 35; refine (g1 _).mono ?_; rw [h2]; rintro e w1 ⟨rfl, rfl⟩)
        go_ret
        exact ⟨rfl, rfl⟩
      | false =>
        cases h3 : hashB s.data.toList with
        | true =>
          go_enter Tryz.func36, Tryz.ntmps36
          go_wp2_with (first | (go_at_call 35; refine (g1 _).mono ?_; rw [h2]; rintro e w1 ⟨rfl, rfl⟩) | (go_at_call 17; refine (hash_any _ _).mono ?_; rw [h3]; rintro e w1 ⟨rfl, rfl⟩))
          go_ret
          exact ⟨rfl, rfl⟩
        | false =>
          cases h4 : hasB s.data.toList 58 with
          | true =>
            go_enter Tryz.func36, Tryz.ntmps36
            go_wp2_with (first | (go_at_call 35; refine (g1 _).mono ?_; rw [h2]; rintro e w1 ⟨rfl, rfl⟩) | (go_at_call 17; refine (hash_any _ _).mono ?_; rw [h3]; rintro e w1 ⟨rfl, rfl⟩) | (go_at_call 33; refine (has_any _ _ _).mono ?_; rw [h4]; rintro e w1 ⟨rfl, rfl⟩))
            go_ret
            exact ⟨rfl, rfl⟩
          | false =>
            cases h5 : hasB s.data.toList 10
            all_goals
              go_enter Tryz.func36, Tryz.ntmps36
              go_wp2_with (first | (go_at_call 35; refine (g1 _).mono ?_; rw [h2]; rintro e w1 ⟨rfl, rfl⟩) | (go_at_call 17; refine (hash_any _ _).mono ?_; rw [h3]; rintro e w1 ⟨rfl, rfl⟩) | (go_at_call 33; refine (has_any _ _ _).mono ?_; (first | rw [h4] | rw [h5]); rintro e w1 ⟨rfl, rfl⟩))
              go_ret
              exact ⟨rfl, rfl⟩
    · have e1 : goodKey s.data.toList = false := by
        unfold goodKey; rw [← n5, decide_eq_false h1]; simp
      rw [e1]
      have h1' : 32 < s.size := by omega
      clear n5 n4 e1
      go_enter Tryz.func36, Tryz.ntmps36
      go_wp2
      go_ret
      exact ⟨rfl, rfl⟩
end Go.Proofs.YtoadimagpibfoaaGreatDoor
/- Kind and Cut. -/
namespace Go.Proofs.YtoadimagpibfoaaGreatDoor
open Go.RowKit Go.Shelf

theorem Below.drewN {B : Nat} {a w : World} (h : Below B a w) (n : Nat) : Below B a (w.drewN n) := ⟨h.os, h.tape, h.output, h.size, h.block⟩
def trimmed (s : ByteArray) : ByteArray := ⟨(Lib.trimS s.data.toList [32, 9]).toArray⟩
def preS (s : ByteArray) : ByteArray := s.extract 0 (before s.data.toList).length
def postS (s : ByteArray) : ByteArray := s.extract ((before s.data.toList).length + 1) s.size

theorem blank_contains (c : UInt8) : ([32, 9] : List UInt8).contains c = blankB c := by
  unfold blankB
  by_cases h1 : c = 32
  · subst h1; rfl
  · by_cases h2 : c = 9
    · subst h2; rfl
    · simp [h1, h2]
theorem dropWhile_nil {p : UInt8 → Bool} : ∀ {l : List UInt8}, l.dropWhile p = [] ↔ l.all p = true
  | [] => by simp
  | a :: l => by
    rw [List.dropWhile_cons]
    cases h : p a <;> simp [h, dropWhile_nil]
theorem trim_nil (l : List UInt8) : Lib.trimS l [32, 9] = [] ↔ blankAll l = true := by
  have e : (fun c => ([32, 9] : List UInt8).contains c) = blankB := funext blank_contains
  unfold Lib.trimS Lib.trimLeftS Lib.trimRightS blankAll
  rw [e, dropWhile_nil, List.all_reverse]
  constructor
  · intro h
    have h2 : (l.reverse.takeWhile blankB ++ l.reverse.dropWhile blankB).all blankB = true := by rw [List.all_append, h, List.all_takeWhile]; rfl
    rw [List.takeWhile_append_dropWhile, List.all_reverse] at h2
    exact h2
  · intro h
    have : l.reverse.dropWhile blankB = [] := dropWhile_nil.2 (by rw [List.all_reverse]; exact h)
    rw [this]; rfl
theorem trim_yes (s : ByteArray) (hs : s.size ≤ 9223372036854775807) (h : blankAll s.data.toList = true) (w : World) :
    Calls Tryz.prog 34 #[.string s, .string ⟨#[32, 9]⟩] w fun e w' => e = .returned (.string ⟨#[]⟩) ∧ Below w.heap.size w w' := by
  have := trim_any s hs w
  rwa [(trim_nil _).2 h] at this
theorem trim_no (s : ByteArray) (hs : s.size ≤ 9223372036854775807) (w : World) :
    Calls Tryz.prog 34 #[.string s, .string ⟨#[32, 9]⟩] w fun e w' => e = .returned (.string (trimmed s)) ∧ Below w.heap.size w w' := trim_any s hs w
theorem trimmed_ne (s : ByteArray) (h : blankAll s.data.toList = false) : (trimmed s).toList.isEmpty = false ∧ ¬ (trimmed s).toList = [] := by
  have : Lib.trimS s.data.toList [32, 9] ≠ [] := fun e => by rw [(trim_nil _).1 e] at h; cases h
  have e : (trimmed s).toList = Lib.trimS s.data.toList [32, 9] := by rw [Lib.toList_data]; rfl
  rw [e]
  exact ⟨by simpa using this, this⟩
theorem preS_data (s : ByteArray) : (preS s).data.toList = before s.data.toList := by
  unfold preS
  rw [Lib.extract_data, List.drop_zero, Nat.sub_zero]
  exact (List.prefix_iff_eq_take.1 (List.takeWhile_prefix _)).symm
theorem preS_size (s : ByteArray) : (preS s).size ≤ s.size := by
  rw [Lib.size_eq, preS_data, Lib.size_eq]
  exact (List.takeWhile_prefix _).length_le
theorem colon_yes (s : ByteArray) (w : World) (hs : s.size ≤ maxLen) (h : hasB s.data.toList 58 = true) :
    Calls Tryz.prog 23 #[.string s, .string ⟨#[58]⟩] w fun e w' => e = .returned (.tuple #[.string (preS s), .string (postS s), .bool true]) ∧ ∃ n, w' = w.drewN n :=
  cut_yes s 58 w hs (by unfold hasB at h; simpa using h)
theorem colon_no (s : ByteArray) (w : World) (h : hasB s.data.toList 58 = false) :
    Calls Tryz.prog 23 #[.string s, .string ⟨#[58]⟩] w fun e w' => e = .returned (.tuple #[.string s, .string ⟨#[]⟩, .bool false]) ∧ ∃ n, w' = w.drewN n :=
  cut_no s 58 w (by unfold hasB at h; simpa using h)
theorem keyPre_any (s : ByteArray) (hs : s.size ≤ maxLen) (w : World) :
    Calls Tryz.prog 36 #[.string (preS s)] w fun e w' => e = .returned (.bool (goodKey (before s.data.toList))) ∧ w = w' := by
  have := key_any (preS s) (Nat.le_trans (preS_size s) hs) w
  rwa [preS_data] at this

set_option maxHeartbeats 1000000 in
theorem kind_any (s : ByteArray) (hs : s.size ≤ maxLen) (w : World) :
    Calls Tryz.prog 18 #[.string s] w fun e w' => e = .returned (.int .i64 (kindL s.data.toList : Nat)) ∧ Below w.heap.size w w' := by
  have hs2 : s.size ≤ 9223372036854775807 := by unfold maxLen at hs; omega
  cases h1 : hasB s.data.toList 10 with
  | true =>
    have hk : kindL s.data.toList = 5 := by unfold kindL; rw [if_pos h1]
    rw [hk]; clear hk
    go_enter Tryz.func18, Tryz.ntmps18
    go_wp2_with (first | (go_at_call 33; refine (has_any _ _ _).mono ?_; rw [h1]; rintro e w1 ⟨rfl, rfl⟩))
    go_ret
    exact ⟨rfl, Below.refl _ _⟩
  | false =>
    cases h2 : blankAll s.data.toList with
    | true =>
      have hk : kindL s.data.toList = 1 := by unfold kindL; rw [h1, if_neg (by decide), if_pos h2]
      rw [hk]; clear hk
      go_enter Tryz.func18, Tryz.ntmps18
      go_wp2_with (first | (go_at_call 33; refine (has_any _ _ _).mono ?_; rw [h1]; rintro e w1 ⟨rfl, rfl⟩) | (go_at_call 34; refine (trim_yes s hs2 h2 _).mono ?_; rintro e w1 ⟨rfl, b1⟩))
      go_ret
      exact ⟨rfl, b1⟩
    | false =>
      obtain ⟨t1, t2⟩ := trimmed_ne s h2
      have B1 := begins_any s hs
      cases h3 : hashB s.data.toList with
      | true =>
        have hk : kindL s.data.toList = 2 := by unfold kindL; rw [h1, if_neg (by decide), h2, if_neg (by decide), if_pos h3]
        rw [hk]; clear hk
        go_enter Tryz.func18, Tryz.ntmps18
        go_wp2_with (first | (go_at_call 33; refine (has_any _ _ _).mono ?_; rw [h1]; rintro e w1 ⟨rfl, rfl⟩) | (go_at_call 34; refine (trim_no s hs2 _).mono ?_; rintro e w1 ⟨rfl, b1⟩) | (go_at_call 17; refine (hash_any _ _).mono ?_; rw [h3]; rintro e w2 ⟨rfl, rfl⟩))
        go_ret
        exact ⟨rfl, b1⟩
      | false =>
        cases h4 : beginsB s.data.toList with
        | true =>
          have hk : kindL s.data.toList = 3 := by unfold kindL; rw [h1, if_neg (by decide), h2, if_neg (by decide), h3, if_neg (by decide), if_pos h4]
          rw [hk]; clear hk
          go_enter Tryz.func18, Tryz.ntmps18
          go_wp2_with (first | (go_at_call 33; refine (has_any _ _ _).mono ?_; rw [h1]; rintro e w1 ⟨rfl, rfl⟩) | (go_at_call 34; refine (trim_no s hs2 _).mono ?_; rintro e w1 ⟨rfl, b1⟩) | (go_at_call 17; refine (hash_any _ _).mono ?_; rw [h3]; rintro e w2 ⟨rfl, rfl⟩) | (go_at_call 35; refine (B1 _).mono ?_; rw [h4]; rintro e w2 ⟨rfl, rfl⟩))
          go_ret
          exact ⟨rfl, b1⟩
        | false =>
          cases h5 : hasB s.data.toList 58 with
          | false =>
            have hk : kindL s.data.toList = 5 := by unfold kindL; rw [h1, if_neg (by decide), h2, if_neg (by decide), h3, if_neg (by decide), h4, if_neg (by decide), if_neg (by rw [h5]; simp)]
            rw [hk]; clear hk
            have C := fun w => colon_no s w h5
            go_enter Tryz.func18, Tryz.ntmps18
            go_wp2_with (first | (go_at_call 33; refine (has_any _ _ _).mono ?_; rw [h1]; rintro e w1 ⟨rfl, rfl⟩) | (go_at_call 34; refine (trim_no s hs2 _).mono ?_; rintro e w1 ⟨rfl, b1⟩) | (go_at_call 17; refine (hash_any _ _).mono ?_; rw [h3]; rintro e w2 ⟨rfl, rfl⟩) | (go_at_call 35; refine (B1 _).mono ?_; rw [h4]; rintro e w2 ⟨rfl, rfl⟩) | (go_at_call 23; refine (C _).mono ?_; rintro e w2 ⟨rfl, n, rfl⟩))
            go_ret
            exact ⟨rfl, Below.drewN b1 n⟩
          | true =>
            have C := fun w => colon_yes s w hs h5
            have K := keyPre_any s hs
            have hk : kindL s.data.toList = if goodKey (before s.data.toList) = true then 4 else 5 := by
              unfold kindL; rw [h1, if_neg (by decide), h2, if_neg (by decide), h3, if_neg (by decide), h4, if_neg (by decide), h5]; simp
            cases h6 : goodKey (before s.data.toList)
            all_goals
              rw [h6] at hk
              rw [hk]; clear hk
              go_enter Tryz.func18, Tryz.ntmps18
              go_wp2_with (first | (go_at_call 33; refine (has_any _ _ _).mono ?_; rw [h1]; rintro e w1 ⟨rfl, rfl⟩) | (go_at_call 34; refine (trim_no s hs2 _).mono ?_; rintro e w1 ⟨rfl, b1⟩) | (go_at_call 17; refine (hash_any _ _).mono ?_; rw [h3]; rintro e w2 ⟨rfl, rfl⟩) | (go_at_call 35; refine (B1 _).mono ?_; rw [h4]; rintro e w2 ⟨rfl, rfl⟩) | (go_at_call 23; refine (C _).mono ?_; rintro e w2 ⟨rfl, n, rfl⟩) | (go_at_call 36; refine (K _).mono ?_; rw [h6]; rintro e w3 ⟨rfl, rfl⟩))
              go_ret
              exact ⟨rfl, Below.drewN b1 n⟩
end Go.Proofs.YtoadimagpibfoaaGreatDoor
/- lines.Cut (as WG, without its law's fixed fact). -/
namespace Go.Proofs.YtoadimagpibfoaaGreatDoor
open Go.RowKit Go.Shelf

end Go.Proofs.YtoadimagpibfoaaGreatDoor
/- The answers by definition: blank, Key, Cut, Kind. -/
namespace Go.Proofs.YtoadimagpibfoaaGreatDoor
open Go.RowKit Go.Shelf

theorem refBlank_any (c : UInt8) (w : World) :
    Calls Tryz.prog 37 #[.int .u8 (c.toNat : Nat)] w fun e w' => e = .returned (.bool (blankB c)) ∧ w = w' := by
  have hb := c.toNat_lt
  by_cases h1 : c = 32
  · subst h1
    go_enter Tryz.func37, Tryz.ntmps37
    go_wp2
    go_ret
    exact ⟨rfl, rfl⟩
  · have e1 : ((c.toNat : Int) == 32) = false := by
      rw [beq_eq_false_iff_ne]; intro e; apply h1; apply UInt8.toNat_inj.1; have : (32 : UInt8).toNat = 32 := rfl; omega
    have e3 : blankB c = ((c.toNat : Int) == 9) := by
      unfold blankB
      by_cases h2 : c = 9
      · subst h2; rfl
      · have : ((c.toNat : Int) == 9) = false := by
          rw [beq_eq_false_iff_ne]; intro e; apply h2; apply UInt8.toNat_inj.1; have : (9 : UInt8).toNat = 9 := rfl; omega
        rw [this]; simp [h1, h2]
    rw [e3]
    clear e3
    go_enter Tryz.func37, Tryz.ntmps37
    go_wp2
    go_ret
    exact ⟨rfl, rfl⟩
/-- A byte's test in the walk's spelling. -/
theorem byte_eq {c d : UInt8} (n : Int) (hn : (d.toNat : Int) = n) : ((c.toNat : Int) == n) = (c == d) := by
  by_cases h : c = d
  · subst h; simp [hn]
  · have : (c.toNat : Int) ≠ n := by intro e; apply h; apply UInt8.toNat_inj.1; omega
    rw [beq_eq_false_iff_ne.2 this]; simp [h]
theorem has_no (l : List UInt8) (c : UInt8) (k : Nat) (h : ∀ i, i < k → l[i]? ≠ some c) (hk : l.length ≤ k) : hasB l c = false := by
  unfold hasB
  cases hc : l.contains c with
  | false => rfl
  | true =>
    exfalso
    have hm : c ∈ l := by simpa using hc
    obtain ⟨i, hi, e⟩ := List.mem_iff_getElem.1 hm
    exact h i (by omega) (by rw [List.getElem?_eq_getElem hi, e])
theorem has_yes (l : List UInt8) (c : UInt8) (i : Nat) (h : l[i]? = some c) : hasB l c = true := by
  unfold hasB
  have : c ∈ l := List.mem_of_getElem? h
  simpa using this

set_option maxHeartbeats 1000000 in
theorem refKey_any (s : ByteArray) (hs : s.size ≤ 4294967295) (w : World) :
    Calls Tryz.prog 57 #[.string s] w fun e w' => e = .returned (.bool (goodKey s.data.toList)) ∧ w = w' := by
  cases h : s.data.toList with
  | nil =>
    rw [empty_of h]
    go_enter Tryz.func57, Tryz.ntmps57
    go_wp2
    go_ret
    exact ⟨rfl, rfl⟩
  | cons c t =>
    have n3 : 1 ≤ s.size := by rw [Lib.size_eq, h]; simp
    have g0 : s[0] = c := by
      have : s.data.toList[0]? = some c := by rw [h]; rfl
      rw [List.getElem?_eq_getElem (by rw [← Lib.size_eq]; omega)] at this
      exact Option.some.inj this
    have eb : beginsB s.data.toList = blankB c := by rw [h]; rfl
    have eh : hashB s.data.toList = (c == 35) := by rw [h]; rfl
    rw [← h]
    clear h
    have n4 : 1 ≤ s.data.toList.length := by rw [← Lib.size_eq]; exact n3
    have n5 := Lib.size_eq s
    by_cases h1 : s.size ≤ 32
    · have h1' := h1
      rw [n5] at h1'
      have e1 : goodKey s.data.toList = (!blankB c && !(c == 35) && !hasB s.data.toList 58 && !hasB s.data.toList 10) := by
        unfold goodKey; rw [decide_eq_true n4, decide_eq_true h1', eb, eh]; simp
      rw [e1]
      clear e1 eb eh h1' n4
      cases h2 : blankB c with
      | true =>
        clear n5
        go_enter Tryz.func57, Tryz.ntmps57
        go_wp2_with (first | (go_at_call 37; refine (refBlank_any _ _).mono ?_; rw [h2]; rintro e w1 ⟨rfl, rfl⟩))
        go_ret
        exact ⟨rfl, rfl⟩
      | false =>
        have hq := byte_eq (c := c) (d := 35) 35 rfl
        cases h3 : (c == 35) with
        | true =>
          rw [h3] at hq
          clear n5
          go_enter Tryz.func57, Tryz.ntmps57
          go_wp2_with (first | (go_at_call 37; refine (refBlank_any _ _).mono ?_; rw [h2]; rintro e w1 ⟨rfl, rfl⟩))
          go_ret
          exact ⟨rfl, rfl⟩
        | false =>
          rw [h3] at hq
          have N5 := Lib.hid n5
          clear n5
          go_enter Tryz.func57, Tryz.ntmps57
          go_wp2_with (first | (go_at_call 37; refine (refBlank_any _ _).mono ?_; rw [h2]; rintro e w1 ⟨rfl, rfl⟩))
          clear hq g0
          go_loop [3] (fun i => ∃ k : Nat, k ≤ s.size ∧ i = .int .i64 k ∧ ∀ j, j < k → s.data.toList[j]? ≠ some 58 ∧ s.data.toList[j]? ≠ some 10) (fun i => s.size - (intOf i).toNat)
          case atStart => exact ⟨0, Nat.zero_le _, rfl, fun j hj => absurd hj (Nat.not_lt_zero j)⟩
          case round =>
            obtain ⟨k, hk, rfl, hno⟩ := hrel
            by_cases hlt : k < s.size
            · have e : s.data.toList[k]? = some s[k] := by
                rw [List.getElem?_eq_getElem (by rw [← Lib.size_eq]; exact hlt)]; rfl
              have E := Lib.hid e
              have NO := Lib.hid hno
              clear e hno
              have q1 := byte_eq (c := s[k]) (d := 58) 58 rfl
              have q2 := byte_eq (c := s[k]) (d := 10) 10 rfl
              cases h4 : (s[k] == 58) with
              | true =>
                rw [h4] at q1
                have h5 : hasB s.data.toList 58 = true := has_yes _ _ k (by rw [E.out]; simpa using h4)
                have H5 := Lib.hid h5
                clear q2 h5
                go_wp2
                go_ret
                exact ⟨by rw [H5.out]; rfl, rfl⟩
              | false =>
                rw [h4] at q1
                cases h5 : (s[k] == 10) with
                | true =>
                  rw [h5] at q2
                  have h6 : hasB s.data.toList 10 = true := has_yes _ _ k (by rw [E.out]; simpa using h5)
                  have H7 := Lib.hid h6
                  clear h6
                  go_wp2
                  go_ret
                  exact ⟨by rw [H7.out, Bool.not_true, Bool.and_false]; rfl, rfl⟩
                | false =>
                  rw [h5] at q2
                  go_wp2
                  go_round
                  case rel =>
                    refine ⟨k + 1, hlt, by go_num, fun j hj => ?_⟩
                    by_cases hjk : j = k
                    · subst hjk; rw [E.out]; exact ⟨by simpa using h4, by simpa using h5⟩
                    · exact NO.out j (by omega)
                  case measure => simp [intOf]; omega
            · have h58 := has_no s.data.toList 58 k (fun i hi => (hno i hi).1) (by rw [← N5.out]; omega)
              have h10 := has_no s.data.toList 10 k (fun i hi => (hno i hi).2) (by rw [← N5.out]; omega)
              have H58 := Lib.hid h58
              have H10 := Lib.hid h10
              clear hno h58 h10
              go_wp2
              go_ret
              exact ⟨by rw [H58.out, H10.out]; rfl, rfl⟩
    · have e1 : goodKey s.data.toList = false := by
        unfold goodKey; rw [← n5, decide_eq_false h1]; simp
      rw [e1]
      have h1' : 32 < s.size := by omega
      clear n5 n4 e1 eb eh
      go_enter Tryz.func57, Tryz.ntmps57
      go_wp2
      go_ret
      exact ⟨rfl, rfl⟩
end Go.Proofs.YtoadimagpibfoaaGreatDoor
