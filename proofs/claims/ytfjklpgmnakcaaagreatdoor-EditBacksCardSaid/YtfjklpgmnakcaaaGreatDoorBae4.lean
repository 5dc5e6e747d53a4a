/- Texts put together: WB, WC, WD, WE, WF, FA, FB, FC. -/
import Derived.Deep.RegionWith
import Derived.Deep.AppendLies
import Derived.Deep.RegionHeld3
import Derived.Deep.DeepCutAuto
import Derived.Shelf.Abstract
import Derived.Shelf.RegionOpen
import Derived.OwnWalkIn
import Derived.TacticsInMore
import Derived.LoopNIn
import Derived.LoopIn
import Derived.Shelf.Strings.SlTrimAscii
import Derived.Test.YtfjklpgmnakcaaaGreatDoorBae1
import Derived.Test.YtfjklpgmnakcaaaGreatDoorBae3
set_option linter.unusedVariables false
set_option maxRecDepth 100000
set_option maxHeartbeats 16000000
namespace Go.Proofs.YtfjklpgmnakcaaaGreatDoor
open Go.RowKit
def restS (s : ByteArray) : ByteArray := if nl s.data.toList then s.extract ((head s.data.toList).length + 1) s.size else ⟨#[]⟩
theorem takeWhile_all {p : UInt8 -> Bool} : ∀ {l : List UInt8}, (∀ x ∈ l, p x = true) -> l.takeWhile p = l
  | [], _ => rfl
  | a :: l, h => by rw [List.takeWhile_cons, h a (by simp), if_pos rfl, takeWhile_all fun x hx => h x (by simp [hx])]
theorem cut_line (s : ByteArray) (w : World) (hs : s.size <= maxLen) :
    Calls Tryz.prog 102 #[.string s, .string ⟨#[10]⟩] w fun e w' => e = .returned (.tuple #[.string ⟨(head s.data.toList).toArray⟩, .string (restS s), .bool (nl s.data.toList)]) /\ ∃ n, w' = w.drewN n := by
  by_cases h : (10 : UInt8) ∈ s.data.toList
  . have e1 : nl s.data.toList = true := by unfold nl; simpa using h
    have e2 : s.extract 0 (s.data.toList.takeWhile (· != 10)).length = ⟨(head s.data.toList).toArray⟩ := by
      have h0 := Lib.extract_data s 0 (s.data.toList.takeWhile (· != 10)).length
      rw [<- Lib.mk_data (s.extract 0 _), h0]
      have : List.take ((s.data.toList.takeWhile (· != 10)).length - 0) (List.drop 0 s.data.toList) = head s.data.toList := by
        rw [List.drop_zero, Nat.sub_zero]
        exact (List.prefix_iff_eq_take.1 (List.takeWhile_prefix _)).symm
      rw [this]
    refine (cut_yes s 10 w hs h).mono ?_
    rintro e w' ⟨rfl, n, rfl⟩
    refine ⟨?_, n, rfl⟩
    rw [e1, e2]; unfold restS; rw [if_pos e1]; rfl
  have e1 : nl s.data.toList = false := by unfold nl; simpa using h
  have e2 : head s.data.toList = s.data.toList := by
    exact takeWhile_all fun x hx => by simp; rintro rfl; exact h hx
  refine (cut_no s 10 w h).mono ?_
  rintro e w' ⟨rfl, n, rfl⟩
  refine ⟨?_, n, rfl⟩
  rw [e1, e2, Lib.mk_data]; unfold restS; rw [e1]; rfl
structure Two (b c : Nat) (W W' : World) : Prop where
  os : W'.os = W.os
  tape : W'.tape = W.tape
  output : W'.output = W.output
  size : W.heap.size <= W'.heap.size
  same : ∀ r, r < W.heap.size -> r ≠ b -> r ≠ c -> W'.heap[r]? = W.heap[r]?
theorem Two.refl (b c : Nat) (W : World) : Two b c W W := ⟨rfl, rfl, rfl, Nat.le_refl _, fun _ _ _ _ => rfl⟩
theorem Two.alloc {b c : Nat} {X Y : World} (h : Two b c X Y) (o : Obj) : Two b c X (Y.alloc o) :=
  ⟨h.os, h.tape, h.output, by simp; have := h.size; omega, fun r a x y => (Below.heap_alloc _ _ _ (Nat.lt_of_lt_of_le a h.size)).trans (h.same r a x y)⟩
theorem Two.setCell {b c : Nat} {X Y : World} (h : Two b c X Y) {p : Addr} (hp : p.block = b \/ p.block = c \/ X.heap.size <= p.block) (u : Value) : Two b c X (Y.setCell p u) :=
  ⟨h.os, h.tape, h.output, by simp only [World.setCell, Array.size_modify]; exact h.size, fun r a x y => (Below.heap_setCell _ _ _ _ (by omega)).trans (h.same r a x y)⟩
theorem Two.drew {b c : Nat} {X Y : World} (h : Two b c X Y) : Two b c X Y.drew := ⟨h.os, h.tape, h.output, h.size, h.same⟩
theorem Two.drewN {b c : Nat} {X Y : World} (h : Two b c X Y) (n : Nat) : Two b c X (Y.drewN n) := ⟨h.os, h.tape, h.output, h.size, h.same⟩
theorem Two.box {b c d : Nat} {X Y : World} {t : TypeId} {v : Value} (h : Two b c X Y) (hv : Boxed X d t v) (x : d ≠ b) (y : d ≠ c) : Boxed Y d t v :=
  (h.same d hv.lt x y).trans hv
theorem Two.turned {b c B k : Nat} {X Y : World} (h : Two b c X Y) (hb : B <= b /\ b < B + k) (hc : B <= c /\ c < B + k) : Turned B k X Y :=
  ⟨h.os, h.tape, h.output, h.size, fun r a x => h.same r a (by omega) (by omega)⟩
theorem next_no (s : ByteArray) (at_ : Nat) (Bat Btx Bno : Nat) (w : World) (hat : Boxed w Bat 3 (.int .i64 at_)) (htx : Boxed w Btx 9 (.string s)) (he : at_ = s.size) :
    Calls Tryz.prog 101 #[.pointer (some ⟨Bat, 0, none⟩), .pointer (some ⟨Btx, 0, none⟩), .pointer (some ⟨Bno, 0, none⟩)] w fun e w' =>
      e = .returned (.tuple #[.agg #[.int .i64 0, .int .i64 0, .string ⟨#[]⟩, .bool false], .bool false]) /\ Two Bno Bat w w' := by
  have c1 := hat.cell
  have c2 := htx.cell
  have z1 := hat.lt
  have z2 := htx.lt
  have e1 : ((at_ : Int) == (s.size : Int)) = true := by rw [he]; simp
  go_enter Tryz.func101, Tryz.ntmps101
  go_wp2
  refine bodyPost_ret (v := .tuple #[.agg #[.int .i64 0, .int .i64 0, .string ⟨#[]⟩, .bool false], .bool false]) (by simp [results, Tryz.results101, go_sem]) rfl ⟨rfl, ?_⟩
  exact (Two.refl _ _ _).alloc _
theorem next_yes (s : ByteArray) (at_ no : Nat) (Bat Btx Bno : Nat) (w : World) (hat : Boxed w Bat 3 (.int .i64 at_)) (htx : Boxed w Btx 9 (.string s)) (hno : Boxed w Bno 3 (.int .i64 no))
    (h1 : at_ < s.size) (h2 : no < s.size) (hs : s.size <= 4294967295) (d1 : Bat ≠ Btx) (d2 : Bat ≠ Bno) (d3 : Btx ≠ Bno) :
    Calls Tryz.prog 101 #[.pointer (some ⟨Bat, 0, none⟩), .pointer (some ⟨Btx, 0, none⟩), .pointer (some ⟨Bno, 0, none⟩)] w fun e w' =>
      e = .returned (.tuple #[.agg (lineV ⟨no, at_, head (s.data.toList.drop at_), nl (s.data.toList.drop at_)⟩), .bool true]) /\ Two Bno Bat w w' /\ Boxed w' Bno 3 (.int .i64 (no + 1 : Nat)) /\ Boxed w' Bat 3 (.int .i64 (at_ + used (s.data.toList.drop at_) : Nat)) := by
  have c1 := hat.cell
  have c2 := htx.cell
  have c3 := hno.cell
  have f1 := hat.frozen
  have f3 := hno.frozen
  have z1 := hat.lt
  have z2 := htx.lt
  have z3 := hno.lt
  have e1 : ((at_ : Int) == (s.size : Int)) = false := by rw [beq_eq_false_iff_ne]; omega
  go_enter Tryz.func101, Tryz.ntmps101
  go_wp2_with fail
  have hx : (s.extract at_ s.size).data.toList = s.data.toList.drop at_ := Lib.extract_to_end s at_
  have hz : (s.extract at_ s.size).size <= maxLen := by rw [Lib.size_eq, hx]; unfold maxLen; simp only [List.length_drop, <- Lib.size_eq]; omega
  refine (cut_line (s.extract at_ s.size) _ hz).mono ?_
  rw [hx]
  rintro e w1 ⟨rfl, n1, rfl⟩
  have hu : (head (s.data.toList.drop at_)).length + (endS (nl (s.data.toList.drop at_))).size = used (s.data.toList.drop at_) := by
    unfold used endS; cases nl (s.data.toList.drop at_) <;> rfl
  have hul := used_le (s.data.toList.drop at_)
  rw [List.length_drop, <- Lib.size_eq] at hul
  have hu' : (⟨(head (s.data.toList.drop at_)).toArray⟩ : ByteArray).size = (head (s.data.toList.drop at_)).length := by simp [Lib.size_eq]
  generalize hhd : head (s.data.toList.drop at_) = hd at *
  generalize hen : nl (s.data.toList.drop at_) = en at *
  generalize hus : used (s.data.toList.drop at_) = us at *
  have H1 := Lib.hid hhd
  have H2 := Lib.hid hen
  have H3 := Lib.hid hus
  clear hhd hen hus
  generalize restS (s.extract at_ s.size) = rs at *
  have HU := Lib.hid hu
  have HU' := Lib.hid hu'
  clear hu hu' hx hz
  have hat2 : Boxed (w.alloc (.cells #[.int .i64 0, .int .i64 0, .string ⟨#[]⟩, .bool false] 139)) Bat 3 (.int .i64 at_) := hat.alloc _
  go_upto_region 5 with fail
  go_cut [] (fun wx => Two Bno Bat w wx /\ wx.heap.size = w.heap.size + 1 + 1 /\ Boxed wx Bno 3 (.int .i64 (no + 1 : Nat)) /\ Boxed wx Bat 3 (.int .i64 at_) /\
    Cells wx w.heap.size 139 #[.int .i64 0, .int .i64 0, .string ⟨#[]⟩, .bool false] /\ Cells wx (w.heap.size + 1) 139 #[.int .i64 no, .int .i64 at_, .string ⟨hd.toArray⟩, .bool en])
  case first =>
    go_wp2_with fail
    go_meet
    refine ⟨?_, ?_, ?_, ?_, ?_, ?_⟩
    . exact (((((((Two.refl Bno Bat w).alloc _).alloc _).drewN n1).setCell (.inr (.inr (by simp))) _).setCell (.inr (.inr (by simp))) _).setCell (.inl rfl) _)
    . simp [World.setCell]
    . exact Boxed.set _ (Cells.other (Cells.other (((Cells.alloc (Cells.alloc hno _) _).drewN n1)) (by simp; omega) _) (by simp; omega) _)
    . exact Cells.other (Cells.other (Cells.other (((Cells.alloc (Cells.alloc hat _) _).drewN n1)) (by simp; omega) _) (by simp; omega) _) d2 _
    . exact Cells.other (Cells.other (Cells.other (((Cells.alloc (Cells.new w _ _) _).drewN n1)) (by simp) _) (by simp) _) (by simp; omega) _
    have h0 := Cells.new (w.alloc (.cells #[.int .i64 0, .int .i64 0, .string ⟨#[]⟩, .bool false] 139)) 139 #[.int .i64 no, .int .i64 at_, .string ⟨#[]⟩, .bool false]
    rw [World.size_alloc] at h0
    exact Cells.other (((h0.drewN n1).set 2 (.string ⟨hd.toArray⟩)).set 3 (.bool en)) (by simp; omega) _
  case rest =>
  obtain ⟨t1, t2, t3, t4, t5, t6⟩ := hcut
  have t3' := Lib.hid t3
  have q0 := t4.cell
  have q1 := t4.frozen
  have q2 : wc.cell? ⟨w.heap.size + 1, 2, none⟩ = some (.string ⟨hd.toArray⟩) := t6.cell 2
  have q3 : wc.cell? ⟨w.heap.size + 1, 0, none⟩ = some (.int .i64 no) := t6.cell 0
  have q4 : wc.cell? ⟨w.heap.size + 1, 1, none⟩ = some (.int .i64 at_) := t6.cell 1
  have g1 : (wc.alloc (.cells #[.int .i64 no, .int .i64 at_, .string ⟨hd.toArray⟩, .bool en] 139)).cell? ⟨Bat, 0, none⟩ = some (.int .i64 at_) := (Boxed.alloc t4 _).cell
  have g2 : (wc.alloc (.cells #[.int .i64 no, .int .i64 at_, .string ⟨hd.toArray⟩, .bool en] 139)).frozen? ⟨Bat, 0, none⟩ = false := (Boxed.alloc t4 _).frozen
  have keepA : ∀ o, ((wc.alloc o).cell? ⟨w.heap.size + 1, 0, none⟩ = some (.int .i64 no) /\ (wc.alloc o).cell? ⟨w.heap.size + 1, 1, none⟩ = some (.int .i64 at_) /\ (wc.alloc o).cell? ⟨w.heap.size + 1, 2, none⟩ = some (.string ⟨hd.toArray⟩) /\ (wc.alloc o).cell? ⟨w.heap.size + 1, 3, none⟩ = some (.bool en)) :=
    fun o => ⟨(Cells.alloc t6 o).cell 0, (Cells.alloc t6 o).cell 1, (Cells.alloc t6 o).cell 2, (Cells.alloc t6 o).cell 3⟩
  have keepB : ∀ o v, (((wc.alloc o).setCell ⟨Bat, 0, none⟩ v).cell? ⟨w.heap.size + 1, 0, none⟩ = some (.int .i64 no) /\ ((wc.alloc o).setCell ⟨Bat, 0, none⟩ v).cell? ⟨w.heap.size + 1, 1, none⟩ = some (.int .i64 at_) /\ ((wc.alloc o).setCell ⟨Bat, 0, none⟩ v).cell? ⟨w.heap.size + 1, 2, none⟩ = some (.string ⟨hd.toArray⟩) /\ ((wc.alloc o).setCell ⟨Bat, 0, none⟩ v).cell? ⟨w.heap.size + 1, 3, none⟩ = some (.bool en)) :=
    fun o v => by
      have hne : w.heap.size + 1 ≠ Bat := by omega
      exact ⟨((Cells.alloc t6 o).other hne v).cell 0, ((Cells.alloc t6 o).other hne v).cell 1, ((Cells.alloc t6 o).other hne v).cell 2, ((Cells.alloc t6 o).other hne v).cell 3⟩
  have g3 : (wc.alloc (.cells #[.int .i64 no, .int .i64 at_, .string ⟨hd.toArray⟩, .bool en] 139)).cell? ⟨w.heap.size + 1, 2, none⟩ = some (.string ⟨hd.toArray⟩) := (Cells.alloc t6 _).cell 2
  clear keepA keepB
  have n0 : (endS en).size <= 1 := by unfold endS; cases en <;> decide
  have n1 : hd.length <= 4294967295 := by have := HU.out; omega
  have n2 : hd.length + (endS en).size <= s.size - at_ := by have := HU.out; omega
  have n3 : IntKind.i64.wrap ((hd.length : Int) + ((endS en).size : Int)) = (hd.length : Int) + ((endS en).size : Int) := IntWalk.i64_in _ (by omega)
  have n4 : IntKind.i64.wrap ((at_ : Int) + ((hd.length : Int) + ((endS en).size : Int))) = (at_ : Int) + ((hd.length : Int) + ((endS en).size : Int)) := IntWalk.i64_in _ (by omega)
  have q5 : wc.cell? ⟨w.heap.size + 1, 3, none⟩ = some (.bool en) := t6.cell 3
  go_upto_region 6 with fail
  go_cut [] (fun wx => Two Bno Bat w wx /\ Boxed wx Bno 3 (.int .i64 (no + 1 : Nat)) /\ Boxed wx Bat 3 (.int .i64 (at_ + us : Nat)) /\
    Cells wx w.heap.size 139 #[.int .i64 0, .int .i64 0, .string ⟨#[]⟩, .bool false] /\ Cells wx (w.heap.size + 1) 139 #[.int .i64 no, .int .i64 at_, .string ⟨hd.toArray⟩, .bool en])
  case first =>
    go_region_with (go_at_call 103; refine (end_any _ _ _ _ _).mono ?_; rintro e w1 ⟨rfl, rfl⟩)
    all_goals
      go_wp2_with fail
      go_meet
      have e9 : Value.int .i64 ((at_ : Int) + ((hd.length : Int) + ((endS en).size : Int))) = Value.int .i64 ((at_ + us : Nat) : Int) := by have := HU.out; congr 1; omega
      rw [e9]
      exact ⟨((t1.alloc _).setCell (.inr (.inl rfl)) _).drew, Cells.other (Cells.alloc t3 _) (fun e => d2 e.symm) _, Boxed.set _ (Boxed.alloc t4 _), Cells.other (Cells.alloc t5 _) (by simp; omega) _, Cells.other (Cells.alloc t6 _) (by simp; omega) _⟩
  case rest =>
  obtain ⟨r1, r2, r3, r4, r5⟩ := hcut
  have s0 : wc.cell? ⟨w.heap.size + 1, 0, none⟩ = some (.int .i64 no) := r5.cell 0
  have s1 : wc.cell? ⟨w.heap.size + 1, 1, none⟩ = some (.int .i64 at_) := r5.cell 1
  have s2 : wc.cell? ⟨w.heap.size + 1, 2, none⟩ = some (.string ⟨hd.toArray⟩) := r5.cell 2
  have s3 : wc.cell? ⟨w.heap.size + 1, 3, none⟩ = some (.bool en) := r5.cell 3
  have s4 : wc.cell? ⟨w.heap.size, 0, none⟩ = some (.int .i64 0) := r4.cell 0
  have s5 : wc.cell? ⟨w.heap.size, 1, none⟩ = some (.int .i64 0) := r4.cell 1
  have s6 : wc.cell? ⟨w.heap.size, 2, none⟩ = some (.string ⟨#[]⟩) := r4.cell 2
  have s7 : wc.cell? ⟨w.heap.size, 3, none⟩ = some (.bool false) := r4.cell 3
  have y0 := r4.frozen 0
  have y1 := r4.frozen 1
  have y2 := r4.frozen 2
  have y3 := r4.frozen 3
  go_wp2_with fail
  have k4 := (((r4.set 0 (.int .i64 no)).set 1 (.int .i64 at_)).set 2 (.string ⟨hd.toArray⟩)).set 3 (.bool en)
  have w0 := k4.cell 0
  have w1 := k4.cell 1
  have w2 := k4.cell 2
  have w3 := k4.cell 3
  simp at w0 w1 w2 w3
  refine bodyPost_ret (v := .tuple #[.agg #[.int .i64 no, .int .i64 at_, .string ⟨hd.toArray⟩, .bool en], .bool true]) (by simp [results, Tryz.results101, go_sem, w0, w1, w2, w3]) rfl ?_
  have z5 : Bat ≠ w.heap.size := by omega
  have z6 : Bno ≠ w.heap.size := by omega
  refine ⟨by rw [H1.out, H2.out]; rfl, ?_, ?_, ?_⟩
  . exact (((r1.setCell (.inr (.inr (Nat.le_refl _))) _).setCell (.inr (.inr (Nat.le_refl _))) _).setCell (.inr (.inr (Nat.le_refl _))) _).setCell (.inr (.inr (Nat.le_refl _))) _
  . exact Cells.other (Cells.other (Cells.other (Cells.other r2 z6 _) z6 _) z6 _) z6 _
  rw [H3.out]; exact Cells.other (Cells.other (Cells.other (Cells.other r3 z5 _) z5 _) z5 _) z5 _
end Go.Proofs.YtfjklpgmnakcaaaGreatDoor
namespace Go.Proofs.YtfjklpgmnakcaaaGreatDoor
open Go.RowKit Go.Shelf
attribute [local go_sem] Oper.semAt_some
theorem from_any (s : ByteArray) (w : World) :
    Calls Tryz.prog 79 #[.string s] w fun e w' => e = .returned (.func (.func 101) #[] #[.pointer (some ⟨w.heap.size + 1 + 1, 0, none⟩), .pointer (some ⟨w.heap.size, 0, none⟩), .pointer (some ⟨w.heap.size + 1, 0, none⟩)]) /\
      w' = ((w.alloc (.cells #[.string s] 9)).alloc (.cells #[.int .i64 0] 3)).alloc (.cells #[.int .i64 0] 3) := by
  go_enter Tryz.func79, Tryz.ntmps79
  go_wp2
  go_ret
  exact ⟨rfl, rfl⟩
theorem next_yes2 (s : ByteArray) (at_ no : Nat) (Bat Btx Bno : Nat) (w : World) (hat : Boxed w Bat 3 (.int .i64 at_)) (htx : Boxed w Btx 9 (.string s)) (hno : Boxed w Bno 3 (.int .i64 no))
    (h1 : at_ < s.size) (h2 : no < s.size) (hs : s.size <= 4294967295) (d1 : Bat ≠ Btx) (d2 : Bat ≠ Bno) (d3 : Btx ≠ Bno) (hd : List UInt8) (en : Bool) (us : Nat)
    (H1 : head (s.data.toList.drop at_) = hd) (H2 : nl (s.data.toList.drop at_) = en) (H3 : used (s.data.toList.drop at_) = us) :
    Calls Tryz.prog 101 #[.pointer (some ⟨Bat, 0, none⟩), .pointer (some ⟨Btx, 0, none⟩), .pointer (some ⟨Bno, 0, none⟩)] w fun e w' =>
      e = .returned (.tuple #[.agg #[.int .i64 no, .int .i64 at_, .string ⟨hd.toArray⟩, .bool en], .bool true]) /\ Two Bno Bat w w' /\ Boxed w' Bno 3 (.int .i64 (no + 1 : Nat)) /\ Boxed w' Bat 3 (.int .i64 (at_ + us : Nat)) := by
  subst H1 H2 H3
  exact next_yes s at_ no Bat Btx Bno w hat htx hno h1 h2 hs d1 d2 d3
def atOf (B : Nat) (w : World) : Nat := match w.cell? ⟨B, 0, none⟩ with | some (.int _ n) => n.toNat | _ => 0
theorem atOf_eq {B : Nat} {w : World} {t : TypeId} {n : Nat} (h : Boxed w B t (.int .i64 n)) : atOf B w = n := by unfold atOf; rw [h.cell]; simp
theorem split_hands (s : ByteArray) (Bs : Nat) (w : World) (hbox : Boxed w Bs 9 (.string s)) (hs : s.size <= 4294967295) :
    Hands Tryz.prog 78 #[.pointer (some ⟨Bs, 0, none⟩)] (fun x => #[.agg (lineV x)]) 3 (linesOf s.data.toList) w := by
  intro l J Jx W hW hJ hY h0
  have hb : Boxed W Bs 9 (.string s) := (hW.block Bs hbox.lt).trans hbox
  have c0 := hb.cell
  refine callsIn_of_wp Tryz.func78 rfl trivial ?_ rfl
  simp only [Tryz.ntmps78, List.size_toArray, List.length_cons, List.length_nil, Nat.reduceAdd, Nat.reduceSub, Array.replicate_succ, Array.replicate_zero, List.push_toArray, List.append_toArray, List.nil_append, List.cons_append]
  gi_wp2_with (refine ⟨trivial, ?_⟩; gi_at_call 79; refine (callsIn_wide.2 (from_any s _)).mono ?_; rintro e w' ⟨rfl, rfl⟩)
  gi_loopw [4] (fun _ wr => ∃ pre at_, linesOf s.data.toList = pre ++ linesOn pre.length at_ (s.data.toList.drop at_) /\ at_ <= s.size /\ pre.length <= at_ /\ Boxed wr W.heap.size 9 (.string s) /\
      Boxed wr (W.heap.size + 1) 3 (.int .i64 (pre.length : Nat)) /\ Boxed wr (W.heap.size + 1 + 1) 3 (.int .i64 at_) /\ J pre wr)
    (fun _ wr => s.size - atOf (W.heap.size + 1 + 1) wr)
  case atStart =>
    refine ⟨[], 0, rfl, Nat.zero_le _, Nat.le_refl _, ?_, ?_, ?_, hJ.alloc _ (hJ.alloc _ (hJ.alloc _ h0))⟩
    . exact ((Boxed.new W _ _).alloc _).alloc _
    . have := (Boxed.new (W.alloc (.cells #[.string s] 9)) 3 (.int .i64 0)).alloc (.cells #[.int .i64 0] 3)
      rw [World.size_alloc] at this; exact this
    have := Boxed.new ((W.alloc (.cells #[.string s] 9)).alloc (.cells #[.int .i64 0] 3)) 3 (.int .i64 0)
    rw [World.size_alloc, World.size_alloc] at this; exact this
  case round =>
  obtain ⟨pre, at_, hx, ha, hn, b1, b2, b3, hj⟩ := hrel
  by_cases he : at_ = s.size
  . gi_wp2_with (refine ⟨trivial, ?_⟩; gi_at_call 101; refine (callsIn_wide.2 (next_no s at_ _ _ _ _ b3 b1 he)).mono ?_; rintro e w' ⟨rfl, h2⟩)
    refine ⟨fun _ h => (by cases h), ?_⟩
    gi_wp2
    refine bodyPost_ret (results_none rfl _ _ _) rfl ⟨⟨_, rfl⟩, .inl ?_⟩
    rw [he, List.drop_of_length_le (by rw [<- Lib.size_eq]; exact Nat.le_refl _), linesOn_nil, List.append_nil] at hx
    rw [hx]
    exact hJ.alloc _ (hJ _ _ _ hj (h2.turned (by omega) (by omega)))
  have hlt : at_ < s.size := by omega
  have hne : s.data.toList.drop at_ ≠ [] := by
    intro e; have := congrArg List.length e; rw [List.length_drop, <- Lib.size_eq] at this; simp at this; omega
  rw [linesOn_cons _ _ _ hne, List.drop_drop] at hx
  have hu := used_pos _ hne
  have hul := used_le (s.data.toList.drop at_)
  rw [List.length_drop, <- Lib.size_eq] at hul
  generalize hhd : head (s.data.toList.drop at_) = hd at *
  generalize hen : nl (s.data.toList.drop at_) = en at *
  generalize hus : used (s.data.toList.drop at_) = us at *
  have N := callsIn_wide (n := 7).2 (next_yes2 s at_ pre.length _ _ _ _ b3 b1 b2 hlt (by omega) hs (by omega) (by omega) (by omega) hd en us hhd hen hus)
  have HX := Lib.hid hx
  clear hhd hen hus hx hne he
  gi_wp2_with (refine ⟨trivial, ?_⟩; gi_at_call 101; refine N.mono ?_; clear N; rintro e w' ⟨rfl, h2, h3, h4⟩)
  have hz := h2.size
  have hz3 := b3.lt
  have jw : J pre w' := hJ _ _ _ hj (h2.turned (by omega) (by omega))
  obtain ⟨fn, tmps, assign, body, hy, hR⟩ := hY pre ⟨pre.length, at_, hd, en⟩ _ (w'.alloc (.cells #[.int .i64 pre.length, .int .i64 at_, .string ⟨hd.toArray⟩, .bool en] 139)) HX.out (by simp; omega) (hJ.alloc _ jw)
  dsimp only [lineV] at hy
  rw [hy, Oper.uponIn_round]
  refine ⟨fun h => (by cases h), hR.mono ?_⟩
  clear hR hy
  rintro e W3 (⟨rfl, hJ3, hk3⟩ | ⟨rfl, hJx3⟩)
  . gi_wp2
    go_roundw
    case rel =>
      refine ⟨pre ++ [⟨pre.length, at_, hd, en⟩], at_ + us, ?_, by omega, by simp; omega, ?_, ?_, ?_, hJ3⟩
      . rw [List.append_assoc, List.singleton_append, List.length_append]; exact HX.out
      . exact (hk3.same _ (by omega) (by omega)).trans ((h2.box b1 (by omega) (by omega)).alloc _)
      . rw [List.length_append]; exact (hk3.same _ (by omega) (by omega)).trans (Boxed.alloc h3 _)
      exact (hk3.same _ (by omega) (by omega)).trans (Boxed.alloc h4 _)
    case measure =>
    rw [atOf_eq b3, atOf_eq (B := W.heap.size + 1 + 1) (w := W3) (n := at_ + us) ((hk3.same _ (by omega) (by omega)).trans (Boxed.alloc h4 _))]
    omega
  gi_wp2
  refine bodyPost_ret (results_none rfl _ _ _) rfl ⟨⟨_, rfl⟩, .inr ⟨_, ⟨linesOn (pre.length + 1) (at_ + us) (List.drop (at_ + us) s.data.toList), ?_⟩, hJx3⟩⟩
  rw [HX.out, List.append_assoc, List.singleton_append]
end Go.Proofs.YtfjklpgmnakcaaaGreatDoor
namespace Go.Proofs.YtfjklpgmnakcaaaGreatDoor
open Go.RowKit Go.Shelf
attribute [local go_sem] Oper.semAt_some
theorem split_any (s : ByteArray) (w : World) :
    Calls Tryz.prog 56 #[.string s] w fun e w' => e = .returned (.func (.func 78) #[] #[.pointer (some ⟨w.heap.size, 0, none⟩)]) /\ w' = w.alloc (.cells #[.string s] 9) := by
  go_enter Tryz.func56, Tryz.ntmps56
  go_wp2
  go_ret
  exact ⟨rfl, rfl⟩
theorem boxNew2 (w : World) (o : Obj) (t : TypeId) (v : Value) : Boxed ((w.alloc o).alloc (.cells #[v] t)) (w.heap.size + 1) t v := by
  have := Boxed.new (w.alloc o) t v
  rwa [World.size_alloc] at this
end Go.Proofs.YtfjklpgmnakcaaaGreatDoor
namespace Go.Proofs.YtfjklpgmnakcaaaGreatDoor
open Go.RowKit Go.Shelf
theorem ne_of_cons {s : ByteArray} {c : UInt8} {t : List UInt8} (h : s.data.toList = c :: t) : s.toList.isEmpty = false /\ ¬ s.toList = [] /\ 1 <= s.size := by
  rw [Lib.toList_data, h]
  exact ⟨rfl, by simp, by rw [Lib.size_eq, h]; simp⟩
theorem empty_of {s : ByteArray} (h : s.data.toList = []) : s = ⟨#[]⟩ := by
  rw [<- Lib.mk_data s, h]
theorem ind_blank (c : UInt8) : decide (0 <= Lib.indexByte [32, 9] c) = blankB c := by
  unfold blankB
  by_cases h1 : c = 32
  . subst h1; decide
  by_cases h2 : c = 9
  . subst h2; decide
  have a : ((32 : UInt8) == c) = false := by simp [Ne.symm h1]
  have b : ((9 : UInt8) == c) = false := by simp [Ne.symm h2]
  simp [Lib.indexByte, a, b, h1, h2]
theorem ind_has (l : List UInt8) (c : UInt8) : decide (0 <= Lib.indexByte l c) = l.contains c := by
  rcases indexByte_cases l c with ⟨h1, h2⟩ | ⟨h1, h2⟩
  . rw [h1]; simp [h2]
  rw [h1]; simp [h2]
theorem pre_hash (l : List UInt8) : Lib.hasPrefix l [35] = hashB l := by
  unfold Lib.hasPrefix hashB
  cases l with
  | nil => rfl
  | cons a t => simp [List.isPrefixOf, Bool.beq_comm]
theorem begins_no (w : World) :
    Calls Tryz.prog 107 #[.string ⟨#[]⟩] w fun e w' => e = .returned (.bool false) /\ w = w' := by
  go_enter Tryz.func107, Tryz.ntmps107
  go_wp2
  go_ret
  exact ⟨rfl, rfl⟩
theorem begins_yes (s : ByteArray) (c : UInt8) (t : List UInt8) (h : s.data.toList = c :: t) (hs : s.size <= maxLen) (w : World) :
    Calls Tryz.prog 107 #[.string s] w fun e w' => e = .returned (.bool (blankB c)) /\ w = w' := by
  have hz : 1 <= s.size := by rw [Lib.size_eq, h]; simp
  have e1 : s.extract 0 1 = ⟨#[c]⟩ := by
    have := Lib.extract_data s 0 1
    rw [h] at this
    rw [<- Lib.mk_data (s.extract 0 1), this]; rfl
  obtain ⟨n1, n2, n3⟩ := ne_of_cons h
  clear h
  unfold maxLen at hs
  go_enter Tryz.func107, Tryz.ntmps107
  go_wp2_with fail
  refine (Tryz.strings_Contains_one ⟨#[32, 9]⟩ c _).mono ?_
  rw [show (⟨#[32, 9]⟩ : ByteArray).data.toList = [32, 9] from rfl, ind_blank]
  rintro e w' ⟨rfl, rfl⟩
  go_wp2
  go_ret
  exact ⟨rfl, rfl⟩
theorem begins_any (s : ByteArray) (hs : s.size <= maxLen) (w : World) :
    Calls Tryz.prog 107 #[.string s] w fun e w' => e = .returned (.bool (beginsB s.data.toList)) /\ w = w' := by
  cases h : s.data.toList with
  | nil => rw [empty_of h]; exact begins_no w
  | cons c t => exact begins_yes s c t h hs w
theorem has_any (s : ByteArray) (c : UInt8) (w : World) :
    Calls Tryz.prog 104 #[.string s, .string ⟨#[c]⟩] w fun e w' => e = .returned (.bool (hasB s.data.toList c)) /\ w = w' := by
  refine (Tryz.strings_Contains_one s c _).mono ?_
  rw [ind_has]
  rintro e w' ⟨rfl, rfl⟩
  exact ⟨rfl, rfl⟩
theorem hash_any (s : ByteArray) (w : World) :
    Calls Tryz.prog 106 #[.string s, .string ⟨#[35]⟩] w fun e w' => e = .returned (.bool (hashB s.data.toList)) /\ w = w' := by
  refine (Tryz.strings_HasPrefix s ⟨#[35]⟩ _).mono ?_
  rw [show (⟨#[35]⟩ : ByteArray).data.toList = [35] from rfl, pre_hash]
  rintro e w' ⟨rfl, rfl⟩
  exact ⟨rfl, rfl⟩
theorem trim_any (s : ByteArray) (hs : s.size <= 9223372036854775807) (w : World) :
    Calls Tryz.prog 105 #[.string s, .string ⟨#[32, 9]⟩] w fun e w' => e = .returned (.string ⟨(Lib.trimS s.data.toList [32, 9]).toArray⟩) /\ Below w.heap.size w w' :=
  Any.strings_Trim_laid Tryz.lays160 (by kernel_rfl) s ⟨#[32, 9]⟩ w hs (by decide) (ascii_of_all (by decide))
theorem key_any (s : ByteArray) (hs : s.size <= maxLen) (w : World) :
    Calls Tryz.prog 108 #[.string s] w fun e w' => e = .returned (.bool (goodKey s.data.toList)) /\ w = w' := by
  cases h : s.data.toList with
  | nil =>
    rw [empty_of h]
    go_enter Tryz.func108, Tryz.ntmps108
    go_wp2
    go_ret
    exact ⟨rfl, rfl⟩
  | cons c t =>
  rw [<- h]
  obtain ⟨n1, n2, n3⟩ := ne_of_cons h
  clear h
  have n4 : 1 <= s.data.toList.length := by rw [<- Lib.size_eq]; exact n3
  have n5 := Lib.size_eq s
  have g1 := begins_any s hs
  unfold maxLen at hs
  by_cases h1 : s.size <= 32
  . rw [n5] at h1
    have e1 : goodKey s.data.toList = (!beginsB s.data.toList && !hashB s.data.toList && !hasB s.data.toList 58 && !hasB s.data.toList 10) := by
      unfold goodKey; rw [decide_eq_true n4, decide_eq_true h1]; simp
    rw [e1]
    rw [<- n5] at h1
    clear n5 n4 e1
    cases h2 : beginsB s.data.toList with
    | true =>
      go_enter Tryz.func108, Tryz.ntmps108
      go_wp2_with (go_at_call 107; refine (g1 _).mono ?_; rw [h2]; rintro e w1 ⟨rfl, rfl⟩)
      go_ret
      exact ⟨rfl, rfl⟩
    | false =>
    cases h3 : hashB s.data.toList with
    | true =>
      go_enter Tryz.func108, Tryz.ntmps108
      go_wp2_with (first | (go_at_call 107; refine (g1 _).mono ?_; rw [h2]; rintro e w1 ⟨rfl, rfl⟩) | (go_at_call 106; refine (hash_any _ _).mono ?_; rw [h3]; rintro e w1 ⟨rfl, rfl⟩))
      go_ret
      exact ⟨rfl, rfl⟩
    | false =>
    cases h4 : hasB s.data.toList 58 with
    | true =>
      go_enter Tryz.func108, Tryz.ntmps108
      go_wp2_with (first | (go_at_call 107; refine (g1 _).mono ?_; rw [h2]; rintro e w1 ⟨rfl, rfl⟩) | (go_at_call 106; refine (hash_any _ _).mono ?_; rw [h3]; rintro e w1 ⟨rfl, rfl⟩) | (go_at_call 104; refine (has_any _ _ _).mono ?_; rw [h4]; rintro e w1 ⟨rfl, rfl⟩))
      go_ret
      exact ⟨rfl, rfl⟩
    | false =>
    cases h5 : hasB s.data.toList 10
    all_goals
      go_enter Tryz.func108, Tryz.ntmps108
      go_wp2_with (first | (go_at_call 107; refine (g1 _).mono ?_; rw [h2]; rintro e w1 ⟨rfl, rfl⟩) | (go_at_call 106; refine (hash_any _ _).mono ?_; rw [h3]; rintro e w1 ⟨rfl, rfl⟩) | (go_at_call 104; refine (has_any _ _ _).mono ?_; (first | rw [h4] | rw [h5]); rintro e w1 ⟨rfl, rfl⟩))
      go_ret
      exact ⟨rfl, rfl⟩
  have e1 : goodKey s.data.toList = false := by
    unfold goodKey; rw [<- n5, decide_eq_false h1]; simp
  rw [e1]
  have h1' : 32 < s.size := by omega
  clear n5 n4 e1
  go_enter Tryz.func108, Tryz.ntmps108
  go_wp2
  go_ret
  exact ⟨rfl, rfl⟩
end Go.Proofs.YtfjklpgmnakcaaaGreatDoor
namespace Go.Proofs.YtfjklpgmnakcaaaGreatDoor
open Go.RowKit Go.Shelf
theorem Below.drewN {B : Nat} {a w : World} (h : Below B a w) (n : Nat) : Below B a (w.drewN n) := ⟨h.os, h.tape, h.output, h.size, h.block⟩
def trimmed (s : ByteArray) : ByteArray := ⟨(Lib.trimS s.data.toList [32, 9]).toArray⟩
def preS (s : ByteArray) : ByteArray := s.extract 0 (before s.data.toList).length
def postS (s : ByteArray) : ByteArray := s.extract ((before s.data.toList).length + 1) s.size
theorem blank_contains (c : UInt8) : ([32, 9] : List UInt8).contains c = blankB c := by
  unfold blankB
  by_cases h1 : c = 32
  . subst h1; rfl
  by_cases h2 : c = 9
  . subst h2; rfl
  simp [h1, h2]
theorem dropWhile_nil {p : UInt8 -> Bool} : ∀ {l : List UInt8}, l.dropWhile p = [] ↔ l.all p = true
  | [] => by simp
  | a :: l => by
    rw [List.dropWhile_cons]
    cases h : p a <;> simp [h, dropWhile_nil]
theorem trim_nil (l : List UInt8) : Lib.trimS l [32, 9] = [] ↔ blankAll l = true := by
  have e : (fun c => ([32, 9] : List UInt8).contains c) = blankB := funext blank_contains
  unfold Lib.trimS Lib.trimLeftS Lib.trimRightS blankAll
  rw [e, dropWhile_nil, List.all_reverse]
  constructor
  . intro h
    have h2 : (l.reverse.takeWhile blankB ++ l.reverse.dropWhile blankB).all blankB = true := by rw [List.all_append, h, List.all_takeWhile]; rfl
    rw [List.takeWhile_append_dropWhile, List.all_reverse] at h2
    exact h2
  intro h
  have : l.reverse.dropWhile blankB = [] := dropWhile_nil.2 (by rw [List.all_reverse]; exact h)
  rw [this]; rfl
theorem trim_yes (s : ByteArray) (hs : s.size <= 9223372036854775807) (h : blankAll s.data.toList = true) (w : World) :
    Calls Tryz.prog 105 #[.string s, .string ⟨#[32, 9]⟩] w fun e w' => e = .returned (.string ⟨#[]⟩) /\ Below w.heap.size w w' := by
  have := trim_any s hs w
  rwa [(trim_nil _).2 h] at this
theorem trim_no (s : ByteArray) (hs : s.size <= 9223372036854775807) (w : World) :
    Calls Tryz.prog 105 #[.string s, .string ⟨#[32, 9]⟩] w fun e w' => e = .returned (.string (trimmed s)) /\ Below w.heap.size w w' := trim_any s hs w
theorem trimmed_ne (s : ByteArray) (h : blankAll s.data.toList = false) : (trimmed s).toList.isEmpty = false /\ ¬ (trimmed s).toList = [] := by
  have : Lib.trimS s.data.toList [32, 9] ≠ [] := fun e => by rw [(trim_nil _).1 e] at h; cases h
  have e : (trimmed s).toList = Lib.trimS s.data.toList [32, 9] := by rw [Lib.toList_data]; rfl
  rw [e]
  exact ⟨by simpa using this, this⟩
theorem preS_data (s : ByteArray) : (preS s).data.toList = before s.data.toList := by
  unfold preS
  rw [Lib.extract_data, List.drop_zero, Nat.sub_zero]
  exact (List.prefix_iff_eq_take.1 (List.takeWhile_prefix _)).symm
theorem preS_size (s : ByteArray) : (preS s).size <= s.size := by
  rw [Lib.size_eq, preS_data, Lib.size_eq]
  exact (List.takeWhile_prefix _).length_le
theorem colon_yes (s : ByteArray) (w : World) (hs : s.size <= maxLen) (h : hasB s.data.toList 58 = true) :
    Calls Tryz.prog 102 #[.string s, .string ⟨#[58]⟩] w fun e w' => e = .returned (.tuple #[.string (preS s), .string (postS s), .bool true]) /\ ∃ n, w' = w.drewN n :=
  cut_yes s 58 w hs (by unfold hasB at h; simpa using h)
theorem colon_no (s : ByteArray) (w : World) (h : hasB s.data.toList 58 = false) :
    Calls Tryz.prog 102 #[.string s, .string ⟨#[58]⟩] w fun e w' => e = .returned (.tuple #[.string s, .string ⟨#[]⟩, .bool false]) /\ ∃ n, w' = w.drewN n :=
  cut_no s 58 w (by unfold hasB at h; simpa using h)
theorem keyPre_any (s : ByteArray) (hs : s.size <= maxLen) (w : World) :
    Calls Tryz.prog 108 #[.string (preS s)] w fun e w' => e = .returned (.bool (goodKey (before s.data.toList))) /\ w = w' := by
  have := key_any (preS s) (Nat.le_trans (preS_size s) hs) w
  rwa [preS_data] at this
theorem kind_any (s : ByteArray) (hs : s.size <= maxLen) (w : World) :
    Calls Tryz.prog 80 #[.string s] w fun e w' => e = .returned (.int .i64 (kindL s.data.toList : Nat)) /\ Below w.heap.size w w' := by
  have hs2 : s.size <= 9223372036854775807 := by unfold maxLen at hs; omega
  cases h1 : hasB s.data.toList 10 with
  | true =>
    have hk : kindL s.data.toList = 5 := by unfold kindL; rw [if_pos h1]
    rw [hk]; clear hk
    go_enter Tryz.func80, Tryz.ntmps80
    go_wp2_with (first | (go_at_call 104; refine (has_any _ _ _).mono ?_; rw [h1]; rintro e w1 ⟨rfl, rfl⟩))
    go_ret
    exact ⟨rfl, Below.refl _ _⟩
  | false =>
  cases h2 : blankAll s.data.toList with
  | true =>
    have hk : kindL s.data.toList = 1 := by unfold kindL; rw [h1, if_neg (by decide), if_pos h2]
    rw [hk]; clear hk
    go_enter Tryz.func80, Tryz.ntmps80
    go_wp2_with (first | (go_at_call 104; refine (has_any _ _ _).mono ?_; rw [h1]; rintro e w1 ⟨rfl, rfl⟩) | (go_at_call 105; refine (trim_yes s hs2 h2 _).mono ?_; rintro e w1 ⟨rfl, b1⟩))
    go_ret
    exact ⟨rfl, b1⟩
  | false =>
  obtain ⟨t1, t2⟩ := trimmed_ne s h2
  have B1 := begins_any s hs
  cases h3 : hashB s.data.toList with
  | true =>
    have hk : kindL s.data.toList = 2 := by unfold kindL; rw [h1, if_neg (by decide), h2, if_neg (by decide), if_pos h3]
    rw [hk]; clear hk
    go_enter Tryz.func80, Tryz.ntmps80
    go_wp2_with (first | (go_at_call 104; refine (has_any _ _ _).mono ?_; rw [h1]; rintro e w1 ⟨rfl, rfl⟩) | (go_at_call 105; refine (trim_no s hs2 _).mono ?_; rintro e w1 ⟨rfl, b1⟩) | (go_at_call 106; refine (hash_any _ _).mono ?_; rw [h3]; rintro e w2 ⟨rfl, rfl⟩))
    go_ret
    exact ⟨rfl, b1⟩
  | false =>
  cases h4 : beginsB s.data.toList with
  | true =>
    have hk : kindL s.data.toList = 3 := by unfold kindL; rw [h1, if_neg (by decide), h2, if_neg (by decide), h3, if_neg (by decide), if_pos h4]
    rw [hk]; clear hk
    go_enter Tryz.func80, Tryz.ntmps80
    go_wp2_with (first | (go_at_call 104; refine (has_any _ _ _).mono ?_; rw [h1]; rintro e w1 ⟨rfl, rfl⟩) | (go_at_call 105; refine (trim_no s hs2 _).mono ?_; rintro e w1 ⟨rfl, b1⟩) | (go_at_call 106; refine (hash_any _ _).mono ?_; rw [h3]; rintro e w2 ⟨rfl, rfl⟩) | (go_at_call 107; refine (B1 _).mono ?_; rw [h4]; rintro e w2 ⟨rfl, rfl⟩))
    go_ret
    exact ⟨rfl, b1⟩
  | false =>
  cases h5 : hasB s.data.toList 58 with
  | false =>
    have hk : kindL s.data.toList = 5 := by unfold kindL; rw [h1, if_neg (by decide), h2, if_neg (by decide), h3, if_neg (by decide), h4, if_neg (by decide), if_neg (by rw [h5]; simp)]
    rw [hk]; clear hk
    have C := fun w => colon_no s w h5
    go_enter Tryz.func80, Tryz.ntmps80
    go_wp2_with (first | (go_at_call 104; refine (has_any _ _ _).mono ?_; rw [h1]; rintro e w1 ⟨rfl, rfl⟩) | (go_at_call 105; refine (trim_no s hs2 _).mono ?_; rintro e w1 ⟨rfl, b1⟩) | (go_at_call 106; refine (hash_any _ _).mono ?_; rw [h3]; rintro e w2 ⟨rfl, rfl⟩) | (go_at_call 107; refine (B1 _).mono ?_; rw [h4]; rintro e w2 ⟨rfl, rfl⟩) | (go_at_call 102; refine (C _).mono ?_; rintro e w2 ⟨rfl, n, rfl⟩))
    go_ret
    exact ⟨rfl, Below.drewN b1 n⟩
  | true =>
  have C := fun w => colon_yes s w hs h5
  have K := keyPre_any s hs
  have hk : kindL s.data.toList = if goodKey (before s.data.toList) = true then 4 else 5 := by
    unfold kindL; rw [h1, if_neg (by decide), h2, if_neg (by decide), h3, if_neg (by decide), h4, if_neg (by decide), h5]; simp
  cases h6 : goodKey (before s.data.toList)
  all_goals
    rw [h6] at hk
    rw [hk]; clear hk
    go_enter Tryz.func80, Tryz.ntmps80
    go_wp2_with (first | (go_at_call 104; refine (has_any _ _ _).mono ?_; rw [h1]; rintro e w1 ⟨rfl, rfl⟩) | (go_at_call 105; refine (trim_no s hs2 _).mono ?_; rintro e w1 ⟨rfl, b1⟩) | (go_at_call 106; refine (hash_any _ _).mono ?_; rw [h3]; rintro e w2 ⟨rfl, rfl⟩) | (go_at_call 107; refine (B1 _).mono ?_; rw [h4]; rintro e w2 ⟨rfl, rfl⟩) | (go_at_call 102; refine (C _).mono ?_; rintro e w2 ⟨rfl, n, rfl⟩) | (go_at_call 108; refine (K _).mono ?_; rw [h6]; rintro e w3 ⟨rfl, rfl⟩))
    go_ret
    exact ⟨rfl, Below.drewN b1 n⟩
end Go.Proofs.YtfjklpgmnakcaaaGreatDoor
namespace Go.Proofs.YtfjklpgmnakcaaaGreatDoor
open Go.RowKit Go.Shelf
theorem cut_pair (s : ByteArray) (hs : s.size <= maxLen) (h : kindL s.data.toList = 4) (w : World) :
    Calls Tryz.prog 130 #[.string s] w fun e w' => e = .returned (.tuple #[.string (preS s), .string (postS s), .bool true]) /\ Below w.heap.size w w' := by
  have h5 : hasB s.data.toList 58 = true := by
    unfold kindL at h
    split at h; · cases h
    split at h; · cases h
    split at h; · cases h
    split at h; · cases h
    split at h
    . rename_i q; exact q.1
    cases h
  have C := fun w => colon_yes s w hs h5
  have K := kind_any s hs
  rw [h] at K
  go_enter Tryz.func130, Tryz.ntmps130
  go_wp2_with (first | (go_at_call 80; refine (K _).mono ?_; rintro e w1 ⟨rfl, b1⟩) | (go_at_call 102; refine (C _).mono ?_; rintro e w2 ⟨rfl, n, rfl⟩))
  go_ret3
  exact ⟨rfl, Below.drewN b1 n⟩
end Go.Proofs.YtfjklpgmnakcaaaGreatDoor
namespace Go.Proofs.YtfjklpgmnakcaaaGreatDoor
open Go.RowKit Go.Shelf
theorem refBlank_any (c : UInt8) (w : World) :
    Calls Tryz.prog 87 #[.int .u8 (c.toNat : Nat)] w fun e w' => e = .returned (.bool (blankB c)) /\ w = w' := by
  have hb := c.toNat_lt
  by_cases h1 : c = 32
  . subst h1
    go_enter Tryz.func87, Tryz.ntmps87
    go_wp2
    go_ret
    exact ⟨rfl, rfl⟩
  have e1 : ((c.toNat : Int) == 32) = false := by
    rw [beq_eq_false_iff_ne]; intro e; apply h1; apply UInt8.toNat_inj.1; have : (32 : UInt8).toNat = 32 := rfl; omega
  have e3 : blankB c = ((c.toNat : Int) == 9) := by
    unfold blankB
    by_cases h2 : c = 9
    . subst h2; rfl
    have : ((c.toNat : Int) == 9) = false := by
      rw [beq_eq_false_iff_ne]; intro e; apply h2; apply UInt8.toNat_inj.1; have : (9 : UInt8).toNat = 9 := rfl; omega
    rw [this]; simp [h1, h2]
  rw [e3]
  clear e3
  go_enter Tryz.func87, Tryz.ntmps87
  go_wp2
  go_ret
  exact ⟨rfl, rfl⟩
theorem byte_eq {c d : UInt8} (n : Int) (hn : (d.toNat : Int) = n) : ((c.toNat : Int) == n) = (c == d) := by
  by_cases h : c = d
  . subst h; simp [hn]
  have : (c.toNat : Int) ≠ n := by intro e; apply h; apply UInt8.toNat_inj.1; omega
  rw [beq_eq_false_iff_ne.2 this]; simp [h]
theorem has_no (l : List UInt8) (c : UInt8) (k : Nat) (h : ∀ i, i < k -> l[i]? ≠ some c) (hk : l.length <= k) : hasB l c = false := by
  unfold hasB
  cases hc : l.contains c with
  | false => rfl
  | true =>
  exfalso
  have hm : c ∈ l := by simpa using hc
  obtain ⟨i, hi, e⟩ := List.mem_iff_getElem.1 hm
  exact h i (by omega) (by rw [List.getElem?_eq_getElem hi, e])
theorem has_yes (l : List UInt8) (c : UInt8) (i : Nat) (h : l[i]? = some c) : hasB l c = true := by
  unfold hasB
  have : c ∈ l := List.mem_of_getElem? h
  simpa using this
theorem refKey_any (s : ByteArray) (hs : s.size <= 4294967295) (w : World) :
    Calls Tryz.prog 112 #[.string s] w fun e w' => e = .returned (.bool (goodKey s.data.toList)) /\ w = w' := by
  cases h : s.data.toList with
  | nil =>
    rw [empty_of h]
    go_enter Tryz.func112, Tryz.ntmps112
    go_wp2
    go_ret
    exact ⟨rfl, rfl⟩
  | cons c t =>
  have n3 : 1 <= s.size := by rw [Lib.size_eq, h]; simp
  have g0 : s[0] = c := by
    have : s.data.toList[0]? = some c := by rw [h]; rfl
    rw [List.getElem?_eq_getElem (by rw [<- Lib.size_eq]; omega)] at this
    exact Option.some.inj this
  have eb : beginsB s.data.toList = blankB c := by rw [h]; rfl
  have eh : hashB s.data.toList = (c == 35) := by rw [h]; rfl
  rw [<- h]
  clear h
  have n4 : 1 <= s.data.toList.length := by rw [<- Lib.size_eq]; exact n3
  have n5 := Lib.size_eq s
  by_cases h1 : s.size <= 32
  . have h1' := h1
    rw [n5] at h1'
    have e1 : goodKey s.data.toList = (!blankB c && !(c == 35) && !hasB s.data.toList 58 && !hasB s.data.toList 10) := by
      unfold goodKey; rw [decide_eq_true n4, decide_eq_true h1', eb, eh]; simp
    rw [e1]
    clear e1 eb eh h1' n4
    cases h2 : blankB c with
    | true =>
      clear n5
      go_enter Tryz.func112, Tryz.ntmps112
      go_wp2_with (first | (go_at_call 87; refine (refBlank_any _ _).mono ?_; rw [h2]; rintro e w1 ⟨rfl, rfl⟩))
      go_ret
      exact ⟨rfl, rfl⟩
    | false =>
    have hq := byte_eq (c := c) (d := 35) 35 rfl
    cases h3 : (c == 35) with
    | true =>
      rw [h3] at hq
      clear n5
      go_enter Tryz.func112, Tryz.ntmps112
      go_wp2_with (first | (go_at_call 87; refine (refBlank_any _ _).mono ?_; rw [h2]; rintro e w1 ⟨rfl, rfl⟩))
      go_ret
      exact ⟨rfl, rfl⟩
    | false =>
    rw [h3] at hq
    have N5 := Lib.hid n5
    clear n5
    go_enter Tryz.func112, Tryz.ntmps112
    go_wp2_with (first | (go_at_call 87; refine (refBlank_any _ _).mono ?_; rw [h2]; rintro e w1 ⟨rfl, rfl⟩))
    clear hq g0
    go_loop [3] (fun i => ∃ k : Nat, k <= s.size /\ i = .int .i64 k /\ ∀ j, j < k -> s.data.toList[j]? ≠ some 58 /\ s.data.toList[j]? ≠ some 10) (fun i => s.size - (intOf i).toNat)
    case atStart => exact ⟨0, Nat.zero_le _, rfl, fun j hj => absurd hj (Nat.not_lt_zero j)⟩
    case round =>
    obtain ⟨k, hk, rfl, hno⟩ := hrel
    by_cases hlt : k < s.size
    . have e : s.data.toList[k]? = some s[k] := by
        rw [List.getElem?_eq_getElem (by rw [<- Lib.size_eq]; exact hlt)]; rfl
      have E := Lib.hid e
      have NO := Lib.hid hno
      clear e hno
      have q1 := byte_eq (c := s[k]) (d := 58) 58 rfl
      have q2 := byte_eq (c := s[k]) (d := 10) 10 rfl
      cases h4 : (s[k] == 58) with
      | true =>
        rw [h4] at q1
        have h5 : hasB s.data.toList 58 = true := has_yes _ _ k (by rw [E.out]; simpa using h4)
        have H5 := Lib.hid h5
        clear q2 h5
        go_wp2
        go_ret
        exact ⟨by rw [H5.out]; rfl, rfl⟩
      | false =>
      rw [h4] at q1
      cases h5 : (s[k] == 10) with
      | true =>
        rw [h5] at q2
        have h6 : hasB s.data.toList 10 = true := has_yes _ _ k (by rw [E.out]; simpa using h5)
        have H7 := Lib.hid h6
        clear h6
        go_wp2
        go_ret
        exact ⟨by rw [H7.out, Bool.not_true, Bool.and_false]; rfl, rfl⟩
      | false =>
      rw [h5] at q2
      go_wp2
      go_round
      case rel =>
        refine ⟨k + 1, hlt, by go_num, fun j hj => ?_⟩
        by_cases hjk : j = k
        . subst hjk; rw [E.out]; exact ⟨by simpa using h4, by simpa using h5⟩
        exact NO.out j (by omega)
      case measure => simp [intOf]; omega
    have h58 := has_no s.data.toList 58 k (fun i hi => (hno i hi).1) (by rw [<- N5.out]; omega)
    have h10 := has_no s.data.toList 10 k (fun i hi => (hno i hi).2) (by rw [<- N5.out]; omega)
    have H58 := Lib.hid h58
    have H10 := Lib.hid h10
    clear hno h58 h10
    go_wp2
    go_ret
    exact ⟨by rw [H58.out, H10.out]; rfl, rfl⟩
  have e1 : goodKey s.data.toList = false := by
    unfold goodKey; rw [<- n5, decide_eq_false h1]; simp
  rw [e1]
  have h1' : 32 < s.size := by omega
  clear n5 n4 e1 eb eh
  go_enter Tryz.func112, Tryz.ntmps112
  go_wp2
  go_ret
  exact ⟨rfl, rfl⟩
end Go.Proofs.YtfjklpgmnakcaaaGreatDoor
namespace Go.Proofs.YtfjklpgmnakcaaaGreatDoor
open Go.RowKit Go.Shelf
theorem before_take (l : List UInt8) : ∀ (k : Nat), l[k]? = some 58 -> (∀ j, j < k -> l[j]? ≠ some 58) -> (before l).length = k := by
  induction l with
  | nil => intro k h; simp at h
  | cons a t ih =>
  intro k h hn
  unfold before at ih ⊢
  cases k with
  | zero =>
    have : a = 58 := by simpa using h
    subst this; rfl
  | succ k =>
  have ha : a ≠ 58 := fun e => hn 0 (by omega) (by rw [e]; rfl)
  rw [List.takeWhile_cons, if_pos (by simpa using ha), List.length_cons, ih k (by simpa using h) (fun j hj => by have := hn (j + 1) (by omega); simpa using this)]
theorem refCut_no (s : ByteArray) (hs : s.size <= 4294967295) (w : World) (h : hasB s.data.toList 10 = true \/ hasB s.data.toList 58 = false \/ goodKey (before s.data.toList) = false) :
    Calls Tryz.prog 88 #[.string s] w fun e w' => e = .returned (.tuple #[.string ⟨#[]⟩, .string ⟨#[]⟩, .bool false]) /\ Below w.heap.size w w' := by
  have n5 := Lib.size_eq s
  have N5 := Lib.hid n5
  clear n5
  have HH := Lib.hid h
  clear h
  go_enter Tryz.func88, Tryz.ntmps88
  go_wp2_with fail
  go_loop [5] (fun i => ∃ k : Nat, k <= s.size /\ i = .int .i64 k /\ ∀ j, j < k -> s.data.toList[j]? ≠ some 10) (fun i => s.size - (intOf i).toNat)
  case atStart => exact ⟨0, Nat.zero_le _, rfl, fun j hj => absurd hj (Nat.not_lt_zero j)⟩
  case round =>
  obtain ⟨k, hk, rfl, hno⟩ := hrel
  by_cases hlt : k < s.size
  . have e : s.data.toList[k]? = some s[k] := by
      rw [List.getElem?_eq_getElem (by rw [<- Lib.size_eq]; exact hlt)]; rfl
    have E := Lib.hid e
    have NO := Lib.hid hno
    clear e hno
    have q2 := byte_eq (c := s[k]) (d := 10) 10 rfl
    cases h5 : (s[k] == 10) with
    | true =>
      rw [h5] at q2
      go_wp2
      go_ret3
      exact ⟨rfl, Below.refl _ _⟩
    | false =>
    rw [h5] at q2
    go_wp2
    go_round
    case rel =>
      refine ⟨k + 1, hlt, by go_num, fun j hj => ?_⟩
      by_cases hjk : j = k
      . subst hjk; rw [E.out]; simpa using h5
      exact NO.out j (by omega)
    case measure => simp [intOf]; omega
  have h10 := has_no s.data.toList 10 k hno (by rw [<- N5.out]; omega)
  have h2 : hasB s.data.toList 58 = false \/ goodKey (before s.data.toList) = false := by
    rcases HH.out with h | h
    . rw [h10] at h; cases h
    exact h
  have H2 := Lib.hid h2
  clear hno h10 h2 HH
  go_wp2_with fail
  go_loop [6] (fun i => ∃ k : Nat, k <= s.size /\ i = .int .i64 k /\ ∀ j, j < k -> s.data.toList[j]? ≠ some 58) (fun i => s.size - (intOf i).toNat)
  case atStart => exact ⟨0, Nat.zero_le _, rfl, fun j hj => absurd hj (Nat.not_lt_zero j)⟩
  case round =>
  obtain ⟨m, hm, rfl, hno⟩ := hrel
  by_cases hlt2 : m < s.size
  . have e : s.data.toList[m]? = some s[m] := by
      rw [List.getElem?_eq_getElem (by rw [<- Lib.size_eq]; exact hlt2)]; rfl
    have q2 := byte_eq (c := s[m]) (d := 58) 58 rfl
    cases h5 : (s[m] == 58) with
    | true =>
      rw [h5] at q2
      have e58 : s.data.toList[m]? = some 58 := by rw [e]; simpa using h5
      have hb := before_take s.data.toList m e58 hno
      have hg : goodKey (before s.data.toList) = false := by
        rcases H2.out with h | h
        . rw [has_yes _ _ m e58] at h; cases h
        exact h
      have K := fun w => refKey_any (preS s) (Nat.le_trans (preS_size s) hs) w
      rw [preS_data, hg] at K
      unfold preS at K
      rw [hb] at K
      clear e hno e58 hb hg
      go_wp2_with (first | (go_at_call 112; refine (K _).mono ?_; rintro e w1 ⟨rfl, rfl⟩))
      go_ret3
      exact ⟨rfl, Below.refl _ _⟩
    | false =>
    rw [h5] at q2
    have E := Lib.hid e
    have NO := Lib.hid hno
    clear e hno
    go_wp2
    go_round
    case rel =>
      refine ⟨m + 1, hlt2, by go_num, fun j hj => ?_⟩
      by_cases hjk : j = m
      . subst hjk; rw [E.out]; simpa using h5
      exact NO.out j (by omega)
    case measure => simp [intOf]; omega
  clear hno
  go_wp2
  go_ret3
  exact ⟨rfl, Below.refl _ _⟩
theorem before_lt (l : List UInt8) (h : hasB l 58 = true) : l[(before l).length]? = some 58 /\ ∀ j, j < (before l).length -> l[j]? ≠ some 58 := by
  unfold hasB at h
  have hm : (58 : UInt8) ∈ l := by simpa using h
  clear h
  unfold before
  induction l with
  | nil => cases hm
  | cons a t ih =>
  by_cases ha : a = 58
  . subst ha
    refine ⟨rfl, fun j hj => ?_⟩
    simp at hj
  have hm' : (58 : UInt8) ∈ t := by
    rcases List.mem_cons.1 hm with h | h
    . exact absurd h.symm ha
    exact h
  obtain ⟨h1, h2⟩ := ih hm'
  rw [List.takeWhile_cons, if_pos (by simpa using ha), List.length_cons]
  refine ⟨by simpa using h1, fun j hj => ?_⟩
  cases j with
  | zero => simpa using ha
  | succ j => have := h2 j (by omega); simpa using this
theorem refCut_yes (s : ByteArray) (hs : s.size <= 4294967295) (w : World) (h1 : hasB s.data.toList 10 = false) (h2 : hasB s.data.toList 58 = true) (h3 : goodKey (before s.data.toList) = true) :
    Calls Tryz.prog 88 #[.string s] w fun e w' => e = .returned (.tuple #[.string (preS s), .string (postS s), .bool true]) /\ Below w.heap.size w w' := by
  have n5 := Lib.size_eq s
  have N5 := Lib.hid n5
  clear n5
  have H1 := Lib.hid h1
  obtain ⟨b1, b2⟩ := before_lt _ h2
  have hbl : (before s.data.toList).length < s.size := by
    rcases Nat.lt_or_ge (before s.data.toList).length s.size with h | h
    . exact h
    rw [List.getElem?_eq_none (by rw [<- Lib.size_eq]; exact h)] at b1; cases b1
  have B1 := Lib.hid b1
  have B2 := Lib.hid b2
  have K := fun w => refKey_any (preS s) (Nat.le_trans (preS_size s) hs) w
  rw [preS_data, h3] at K
  have HP : Hid (preS s = s.extract 0 (before s.data.toList).length) := rfl
  have HQ : Hid (postS s = s.extract ((before s.data.toList).length + 1) s.size) := rfl
  unfold preS at K
  clear h1 h2 h3 b1 b2
  generalize (before s.data.toList).length = n at *
  go_enter Tryz.func88, Tryz.ntmps88
  go_wp2_with fail
  go_loop [5] (fun i => ∃ k : Nat, k <= s.size /\ i = .int .i64 k) (fun i => s.size - (intOf i).toNat)
  case atStart => exact ⟨0, Nat.zero_le _, rfl⟩
  case round =>
  obtain ⟨k, hk, rfl⟩ := hrel
  by_cases hlt : k < s.size
  . have q2 := byte_eq (c := s[k]) (d := 10) 10 rfl
    have h5 : (s[k] == 10) = false := by
      cases h5 : (s[k] == 10) with
      | false => rfl
      | true =>
      exfalso
      have := has_yes s.data.toList 10 k (by rw [List.getElem?_eq_getElem (by rw [<- Lib.size_eq]; exact hlt)]; exact congrArg some (eq_of_beq h5))
      rw [H1.out] at this; cases this
    rw [h5] at q2
    clear h5
    go_wp2
    go_round
    case rel => exact ⟨k + 1, hlt, by go_num⟩
    case measure => simp [intOf]; omega
  go_wp2_with fail
  go_loop [6] (fun i => ∃ k : Nat, k <= n /\ i = .int .i64 k) (fun i => s.size - (intOf i).toNat)
  case atStart => exact ⟨0, Nat.zero_le _, rfl⟩
  case round =>
  obtain ⟨m, hm, rfl⟩ := hrel
  have hlt2 : m < s.size := by omega
  have e : s.data.toList[m]? = some s[m] := by
    rw [List.getElem?_eq_getElem (by rw [<- Lib.size_eq]; exact hlt2)]; rfl
  have q2 := byte_eq (c := s[m]) (d := 58) 58 rfl
  by_cases hmn : m < n
  . have h5 : (s[m] == 58) = false := by
      have := B2.out m hmn
      rw [e] at this
      simpa using this
    rw [h5] at q2
    clear e h5
    go_wp2
    go_round
    case rel => exact ⟨m + 1, by omega, by go_num⟩
    case measure => simp [intOf]; omega
  obtain rfl : m = n := by omega
  have h5 : (s[m] == 58) = true := by
    have := B1.out
    rw [e] at this
    simpa using this
  rw [h5] at q2
  clear e h5
  have h6 : IntKind.i64.wrap ((m : Int) + 1) = (m : Int) + 1 := IntWalk.i64_in _ (by omega)
  go_wp2_with (first | (go_at_call 112; refine (K _).mono ?_; rintro e w1 ⟨rfl, rfl⟩))
  go_quiet (fail)
  go_wp2
  go_ret3
  exact ⟨by rw [HP.out, HQ.out]; rfl, Below.drewN (Below.refl _ _) _⟩
theorem blankTo_snoc (s : ByteArray) (k : Nat) (h : k < s.size) : blankAll (s.data.toList.take (k + 1)) = (blankAll (s.data.toList.take k) && blankB s[k]) := by
  unfold blankAll
  rw [List.take_succ_eq_append_getElem (by simpa using h), List.all_append]
  simp; rfl
theorem refKind_nl (s : ByteArray) (hs : s.size <= 4294967295) (w : World) (h1 : hasB s.data.toList 10 = true) :
    Calls Tryz.prog 61 #[.string s] w fun e w' => e = .returned (.int .i64 5) /\ Below w.heap.size w w' := by
  have n5 := Lib.size_eq s
  have N5 := Lib.hid n5
  clear n5
  have H1 := Lib.hid h1
  clear h1
  go_enter Tryz.func61, Tryz.ntmps61
  go_wp2_with fail
  go_loop [3, 4] (fun b i => ∃ (k : Nat) (x : Bool), k <= s.size /\ i = .int .i64 k /\ b = .bool x /\ ∀ j, j < k -> s.data.toList[j]? ≠ some 10) (fun _ i => s.size - (intOf i).toNat)
  case atStart => exact ⟨0, true, Nat.zero_le _, rfl, rfl, fun j hj => absurd hj (Nat.not_lt_zero j)⟩
  case round =>
  obtain ⟨k, x, hk, rfl, rfl, hno⟩ := hrel
  by_cases hlt : k < s.size
  . have e : s.data.toList[k]? = some s[k] := by
      rw [List.getElem?_eq_getElem (by rw [<- Lib.size_eq]; exact hlt)]; rfl
    have E := Lib.hid e
    have NO := Lib.hid hno
    clear e hno
    have q2 := byte_eq (c := s[k]) (d := 10) 10 rfl
    cases h5 : (s[k] == 10) with
    | true =>
      rw [h5] at q2
      go_wp2
      go_ret
      exact ⟨rfl, Below.refl _ _⟩
    | false =>
    rw [h5] at q2
    have h6 : ∀ j, j < k + 1 -> s.data.toList[j]? ≠ some 10 := fun j hj => by
      by_cases hjk : j = k
      . subst hjk; rw [E.out]; simpa using h5
      exact NO.out j (by omega)
    have H6 := Lib.hid h6
    clear h6
    cases x
    all_goals
      go_wp2_with (first | (go_at_call 87; refine (refBlank_any _ _).mono ?_; rintro e w1 ⟨rfl, rfl⟩))
      go_round
      case rel => exact ⟨k + 1, _, hlt, by go_num, rfl, H6.out⟩
      case measure => simp [intOf]; omega
  exfalso
  have := has_no s.data.toList 10 k hno (by rw [<- N5.out]; omega)
  rw [H1.out] at this; cases this
end Go.Proofs.YtfjklpgmnakcaaaGreatDoor
