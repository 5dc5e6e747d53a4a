/- The closure that answers a text's lines one by one. -/
import Derived.Test.YtngngamfceoklaaDoorWA
import Derived.Test.YtngngamfceoklaaDoorRF
import Derived.Test.YtngngamfceoklaaDoorOB
import Derived.Deep.RegionWith
import Derived.Deep.AppendLies
import Derived.Deep.RegionHeld3
import Derived.Deep.DeepCutAuto
namespace Go.Proofs.YtngngamfceoklaaDoor
open Go.RowKit

def restS (s : ByteArray) : ByteArray := if nl s.data.toList then s.extract ((head s.data.toList).length + 1) s.size else ⟨#[]⟩
theorem takeWhile_all {p : UInt8 → Bool} : ∀ {l : List UInt8}, (∀ x ∈ l, p x = true) → l.takeWhile p = l
  | [], _ => rfl
  | a :: l, h => by rw [List.takeWhile_cons, h a (by simp), if_pos rfl, takeWhile_all fun x hx => h x (by simp [hx])]
theorem cut_line (s : ByteArray) (w : World) (hs : s.size ≤ maxLen) :
    Calls Tryd.prog 57 #[.string s, .string ⟨#[10]⟩] w fun e w' => e = .returned (.tuple #[.string ⟨(head s.data.toList).toArray⟩, .string (restS s), .bool (nl s.data.toList)]) ∧ ∃ n, w' = w.drewN n := by
  by_cases h : (10 : UInt8) ∈ s.data.toList
  · have e1 : nl s.data.toList = true := by unfold nl; simpa using h
    have e2 : s.extract 0 (s.data.toList.takeWhile (· != 10)).length = ⟨(head s.data.toList).toArray⟩ := by
      have h0 := Lib.extract_data s 0 (s.data.toList.takeWhile (· != 10)).length
      rw [← Lib.mk_data (s.extract 0 _), h0]
      have : List.take ((s.data.toList.takeWhile (· != 10)).length - 0) (List.drop 0 s.data.toList) = head s.data.toList := by
        rw [List.drop_zero, Nat.sub_zero]
        exact (List.prefix_iff_eq_take.1 (List.takeWhile_prefix _)).symm
      rw [this]
    refine (cut_yes s 10 w hs h).mono ?_
    rintro e w' ⟨rfl, n, rfl⟩
    refine ⟨?_, n, rfl⟩
    rw [e1, e2]; unfold restS; rw [if_pos e1]; rfl
  · have e1 : nl s.data.toList = false := by unfold nl; simpa using h
    have e2 : head s.data.toList = s.data.toList := by
      exact takeWhile_all fun x hx => by simp; rintro rfl; exact h hx
    refine (cut_no s 10 w h).mono ?_
    rintro e w' ⟨rfl, n, rfl⟩
    refine ⟨?_, n, rfl⟩
    rw [e1, e2, Lib.mk_data]; unfold restS; rw [e1]; rfl

/-- Whatever lay lies as it lay, but for two blocks. -/
structure Two (b c : Nat) (W W' : World) : Prop where
  os : W'.os = W.os
  tape : W'.tape = W.tape
  output : W'.output = W.output
  size : W.heap.size ≤ W'.heap.size
  same : ∀ r, r < W.heap.size → r ≠ b → r ≠ c → W'.heap[r]? = W.heap[r]?
theorem Two.refl (b c : Nat) (W : World) : Two b c W W := ⟨rfl, rfl, rfl, Nat.le_refl _, fun _ _ _ _ => rfl⟩
theorem Two.alloc {b c : Nat} {X Y : World} (h : Two b c X Y) (o : Obj) : Two b c X (Y.alloc o) :=
  ⟨h.os, h.tape, h.output, by simp; have := h.size; omega, fun r a x y => (Below.heap_alloc _ _ _ (Nat.lt_of_lt_of_le a h.size)).trans (h.same r a x y)⟩
theorem Two.setCell {b c : Nat} {X Y : World} (h : Two b c X Y) {p : Addr} (hp : p.block = b ∨ p.block = c ∨ X.heap.size ≤ p.block) (u : Value) : Two b c X (Y.setCell p u) :=
  ⟨h.os, h.tape, h.output, by simp only [World.setCell, Array.size_modify]; exact h.size, fun r a x y => (Below.heap_setCell _ _ _ _ (by omega)).trans (h.same r a x y)⟩
theorem Two.drew {b c : Nat} {X Y : World} (h : Two b c X Y) : Two b c X Y.drew := ⟨h.os, h.tape, h.output, h.size, h.same⟩
theorem Two.drewN {b c : Nat} {X Y : World} (h : Two b c X Y) (n : Nat) : Two b c X (Y.drewN n) := ⟨h.os, h.tape, h.output, h.size, h.same⟩
theorem Two.box {b c d : Nat} {X Y : World} {t : TypeId} {v : Value} (h : Two b c X Y) (hv : Boxed X d t v) (x : d ≠ b) (y : d ≠ c) : Boxed Y d t v :=
  (h.same d hv.lt x y).trans hv
theorem Two.turned {b c B k : Nat} {X Y : World} (h : Two b c X Y) (hb : B ≤ b ∧ b < B + k) (hc : B ≤ c ∧ c < B + k) : Turned B k X Y :=
  ⟨h.os, h.tape, h.output, h.size, fun r a x => h.same r a (by omega) (by omega)⟩

set_option maxHeartbeats 400000 in
theorem next_no (s : ByteArray) (at_ : Nat) (Bat Btx Bno : Nat) (w : World) (hat : Boxed w Bat 3 (.int .i64 at_)) (htx : Boxed w Btx 9 (.string s)) (he : at_ = s.size) :
    Calls Tryd.prog 56 #[.pointer (some ⟨Bat, 0, none⟩), .pointer (some ⟨Btx, 0, none⟩), .pointer (some ⟨Bno, 0, none⟩)] w fun e w' =>
      e = .returned (.tuple #[.agg #[.int .i64 0, .int .i64 0, .string ⟨#[]⟩, .bool false], .bool false]) ∧ Two Bno Bat w w' := by
  have c1 := hat.cell
  have c2 := htx.cell
  have z1 := hat.lt
  have z2 := htx.lt
  have e1 : ((at_ : Int) == (s.size : Int)) = true := by rw [he]; simp
  go_enter Tryd.func56, Tryd.ntmps56
  go_wp2
  refine bodyPost_ret (v := .tuple #[.agg #[.int .i64 0, .int .i64 0, .string ⟨#[]⟩, .bool false], .bool false]) (by simp [results, Tryd.results56, go_sem]) rfl ⟨rfl, ?_⟩
  exact (Two.refl _ _ _).alloc _

set_option maxHeartbeats 8000000 in
theorem next_yes (s : ByteArray) (at_ no : Nat) (Bat Btx Bno : Nat) (w : World) (hat : Boxed w Bat 3 (.int .i64 at_)) (htx : Boxed w Btx 9 (.string s)) (hno : Boxed w Bno 3 (.int .i64 no))
    (h1 : at_ < s.size) (h2 : no < s.size) (hs : s.size ≤ 4294967295) (d1 : Bat ≠ Btx) (d2 : Bat ≠ Bno) (d3 : Btx ≠ Bno) :
    Calls Tryd.prog 56 #[.pointer (some ⟨Bat, 0, none⟩), .pointer (some ⟨Btx, 0, none⟩), .pointer (some ⟨Bno, 0, none⟩)] w fun e w' =>
      e = .returned (.tuple #[.agg (lineV ⟨no, at_, head (s.data.toList.drop at_), nl (s.data.toList.drop at_)⟩), .bool true]) ∧ Two Bno Bat w w' ∧ Boxed w' Bno 3 (.int .i64 (no + 1 : Nat)) ∧ Boxed w' Bat 3 (.int .i64 (at_ + used (s.data.toList.drop at_) : Nat)) := by
  have c1 := hat.cell
  have c2 := htx.cell
  have c3 := hno.cell
  have f1 := hat.frozen
  have f3 := hno.frozen
  have z1 := hat.lt
  have z2 := htx.lt
  have z3 := hno.lt
  have e1 : ((at_ : Int) == (s.size : Int)) = false := by rw [beq_eq_false_iff_ne]; omega
  go_enter Tryd.func56, Tryd.ntmps56
  go_wp2_with fail
  have hx : (s.extract at_ s.size).data.toList = s.data.toList.drop at_ := Lib.extract_to_end s at_
  have hz : (s.extract at_ s.size).size ≤ maxLen := by rw [Lib.size_eq, hx]; unfold maxLen; simp only [List.length_drop, ← Lib.size_eq]; omega
  refine (cut_line (s.extract at_ s.size) _ hz).mono ?_
  rw [hx]
  rintro e w1 ⟨rfl, n1, rfl⟩
  have hu : (head (s.data.toList.drop at_)).length + (endS (nl (s.data.toList.drop at_))).size = used (s.data.toList.drop at_) := by
    unfold used endS; cases nl (s.data.toList.drop at_) <;> rfl
  have hul := used_le (s.data.toList.drop at_)
  rw [List.length_drop, ← Lib.size_eq] at hul
  have hu' : (⟨(head (s.data.toList.drop at_)).toArray⟩ : ByteArray).size = (head (s.data.toList.drop at_)).length := by simp [Lib.size_eq]
  generalize hhd : head (s.data.toList.drop at_) = hd at *
  generalize hen : nl (s.data.toList.drop at_) = en at *
  generalize hus : used (s.data.toList.drop at_) = us at *
  have H1 := Lib.hid hhd
  have H2 := Lib.hid hen
  have H3 := Lib.hid hus
  clear hhd hen hus
  generalize restS (s.extract at_ s.size) = rs at *
  have HU := Lib.hid hu
  have HU' := Lib.hid hu'
  clear hu hu' hx hz
  have hat2 : Boxed (w.alloc (.cells #[.int .i64 0, .int .i64 0, .string ⟨#[]⟩, .bool false] 62)) Bat 3 (.int .i64 at_) := hat.alloc _
  go_upto_region 5 with fail
  go_cut [] (fun wx => Two Bno Bat w wx ∧ wx.heap.size = w.heap.size + 1 + 1 ∧ Boxed wx Bno 3 (.int .i64 (no + 1 : Nat)) ∧ Boxed wx Bat 3 (.int .i64 at_) ∧
    Cells wx w.heap.size 62 #[.int .i64 0, .int .i64 0, .string ⟨#[]⟩, .bool false] ∧ Cells wx (w.heap.size + 1) 62 #[.int .i64 no, .int .i64 at_, .string ⟨hd.toArray⟩, .bool en])
  case first =>
    go_wp2_with fail
    go_meet
    refine ⟨?_, ?_, ?_, ?_, ?_, ?_⟩
    · exact (((((((Two.refl Bno Bat w).alloc _).alloc _).drewN n1).setCell (.inr (.inr (by simp))) _).setCell (.inr (.inr (by simp))) _).setCell (.inl rfl) _)
    · simp [World.setCell]
    · exact Boxed.set _ (Cells.other (Cells.other (((Cells.alloc (Cells.alloc hno _) _).drewN n1)) (by simp; omega) _) (by simp; omega) _)
    · exact Cells.other (Cells.other (Cells.other (((Cells.alloc (Cells.alloc hat _) _).drewN n1)) (by simp; omega) _) (by simp; omega) _) d2 _
    · exact Cells.other (Cells.other (Cells.other (((Cells.alloc (Cells.new w _ _) _).drewN n1)) (by simp) _) (by simp) _) (by simp; omega) _
    · have h0 := Cells.new (w.alloc (.cells #[.int .i64 0, .int .i64 0, .string ⟨#[]⟩, .bool false] 62)) 62 #[.int .i64 no, .int .i64 at_, .string ⟨#[]⟩, .bool false]
      rw [World.size_alloc] at h0
      exact Cells.other (((h0.drewN n1).set 2 (.string ⟨hd.toArray⟩)).set 3 (.bool en)) (by simp; omega) _
  case rest =>
    obtain ⟨t1, t2, t3, t4, t5, t6⟩ := hcut
    have t3' := Lib.hid t3
    have q0 := t4.cell
    have q1 := t4.frozen
    have q2 : wc.cell? ⟨w.heap.size + 1, 2, none⟩ = some (.string ⟨hd.toArray⟩) := t6.cell 2
    have q3 : wc.cell? ⟨w.heap.size + 1, 0, none⟩ = some (.int .i64 no) := t6.cell 0
    have q4 : wc.cell? ⟨w.heap.size + 1, 1, none⟩ = some (.int .i64 at_) := t6.cell 1
    have g1 : (wc.alloc (.cells #[.int .i64 no, .int .i64 at_, .string ⟨hd.toArray⟩, .bool en] 62)).cell? ⟨Bat, 0, none⟩ = some (.int .i64 at_) := (Boxed.alloc t4 _).cell
    have g2 : (wc.alloc (.cells #[.int .i64 no, .int .i64 at_, .string ⟨hd.toArray⟩, .bool en] 62)).frozen? ⟨Bat, 0, none⟩ = false := (Boxed.alloc t4 _).frozen
    have keepA : ∀ o, ((wc.alloc o).cell? ⟨w.heap.size + 1, 0, none⟩ = some (.int .i64 no) ∧ (wc.alloc o).cell? ⟨w.heap.size + 1, 1, none⟩ = some (.int .i64 at_) ∧ (wc.alloc o).cell? ⟨w.heap.size + 1, 2, none⟩ = some (.string ⟨hd.toArray⟩) ∧ (wc.alloc o).cell? ⟨w.heap.size + 1, 3, none⟩ = some (.bool en)) :=
      fun o => ⟨(Cells.alloc t6 o).cell 0, (Cells.alloc t6 o).cell 1, (Cells.alloc t6 o).cell 2, (Cells.alloc t6 o).cell 3⟩
    have keepB : ∀ o v, (((wc.alloc o).setCell ⟨Bat, 0, none⟩ v).cell? ⟨w.heap.size + 1, 0, none⟩ = some (.int .i64 no) ∧ ((wc.alloc o).setCell ⟨Bat, 0, none⟩ v).cell? ⟨w.heap.size + 1, 1, none⟩ = some (.int .i64 at_) ∧ ((wc.alloc o).setCell ⟨Bat, 0, none⟩ v).cell? ⟨w.heap.size + 1, 2, none⟩ = some (.string ⟨hd.toArray⟩) ∧ ((wc.alloc o).setCell ⟨Bat, 0, none⟩ v).cell? ⟨w.heap.size + 1, 3, none⟩ = some (.bool en)) :=
      fun o v => by
        have hne : w.heap.size + 1 ≠ Bat := by omega
        exact ⟨((Cells.alloc t6 o).other hne v).cell 0, ((Cells.alloc t6 o).other hne v).cell 1, ((Cells.alloc t6 o).other hne v).cell 2, ((Cells.alloc t6 o).other hne v).cell 3⟩
    have g3 : (wc.alloc (.cells #[.int .i64 no, .int .i64 at_, .string ⟨hd.toArray⟩, .bool en] 62)).cell? ⟨w.heap.size + 1, 2, none⟩ = some (.string ⟨hd.toArray⟩) := (Cells.alloc t6 _).cell 2
    clear keepA keepB
    have n0 : (endS en).size ≤ 1 := by unfold endS; cases en <;> decide
    have n1 : hd.length ≤ 4294967295 := by have := HU.out; omega
    have n2 : hd.length + (endS en).size ≤ s.size - at_ := by have := HU.out; omega
    have n3 : IntKind.i64.wrap ((hd.length : Int) + ((endS en).size : Int)) = (hd.length : Int) + ((endS en).size : Int) := IntWalk.i64_in _ (by omega)
    have n4 : IntKind.i64.wrap ((at_ : Int) + ((hd.length : Int) + ((endS en).size : Int))) = (at_ : Int) + ((hd.length : Int) + ((endS en).size : Int)) := IntWalk.i64_in _ (by omega)
    have q5 : wc.cell? ⟨w.heap.size + 1, 3, none⟩ = some (.bool en) := t6.cell 3
    go_upto_region 6 with fail
    go_cut [] (fun wx => Two Bno Bat w wx ∧ Boxed wx Bno 3 (.int .i64 (no + 1 : Nat)) ∧ Boxed wx Bat 3 (.int .i64 (at_ + us : Nat)) ∧
      Cells wx w.heap.size 62 #[.int .i64 0, .int .i64 0, .string ⟨#[]⟩, .bool false] ∧ Cells wx (w.heap.size + 1) 62 #[.int .i64 no, .int .i64 at_, .string ⟨hd.toArray⟩, .bool en])
    case first =>
      go_region_with (go_at_call 58; refine (end_any _ _ _ _ _).mono ?_; rintro e w1 ⟨rfl, rfl⟩)
      all_goals
        go_wp2_with fail
        go_meet
        have e9 : Value.int .i64 ((at_ : Int) + ((hd.length : Int) + ((endS en).size : Int))) = Value.int .i64 ((at_ + us : Nat) : Int) := by have := HU.out; congr 1; omega
        rw [e9]
        exact ⟨((t1.alloc _).setCell (.inr (.inl rfl)) _).drew, Cells.other (Cells.alloc t3 _) (fun e => d2 e.symm) _, Boxed.set _ (Boxed.alloc t4 _), Cells.other (Cells.alloc t5 _) (by simp; omega) _, Cells.other (Cells.alloc t6 _) (by simp; omega) _⟩
    case rest =>
      obtain ⟨r1, r2, r3, r4, r5⟩ := hcut
      have s0 : wc.cell? ⟨w.heap.size + 1, 0, none⟩ = some (.int .i64 no) := r5.cell 0
      have s1 : wc.cell? ⟨w.heap.size + 1, 1, none⟩ = some (.int .i64 at_) := r5.cell 1
      have s2 : wc.cell? ⟨w.heap.size + 1, 2, none⟩ = some (.string ⟨hd.toArray⟩) := r5.cell 2
      have s3 : wc.cell? ⟨w.heap.size + 1, 3, none⟩ = some (.bool en) := r5.cell 3
      have s4 : wc.cell? ⟨w.heap.size, 0, none⟩ = some (.int .i64 0) := r4.cell 0
      have s5 : wc.cell? ⟨w.heap.size, 1, none⟩ = some (.int .i64 0) := r4.cell 1
      have s6 : wc.cell? ⟨w.heap.size, 2, none⟩ = some (.string ⟨#[]⟩) := r4.cell 2
      have s7 : wc.cell? ⟨w.heap.size, 3, none⟩ = some (.bool false) := r4.cell 3
      have y0 := r4.frozen 0
      have y1 := r4.frozen 1
      have y2 := r4.frozen 2
      have y3 := r4.frozen 3
      go_wp2_with fail
      have k4 := (((r4.set 0 (.int .i64 no)).set 1 (.int .i64 at_)).set 2 (.string ⟨hd.toArray⟩)).set 3 (.bool en)
      have w0 := k4.cell 0
      have w1 := k4.cell 1
      have w2 := k4.cell 2
      have w3 := k4.cell 3
      simp at w0 w1 w2 w3
      refine bodyPost_ret (v := .tuple #[.agg #[.int .i64 no, .int .i64 at_, .string ⟨hd.toArray⟩, .bool en], .bool true]) (by simp [results, Tryd.results56, go_sem, w0, w1, w2, w3]) rfl ?_
      have z5 : Bat ≠ w.heap.size := by omega
      have z6 : Bno ≠ w.heap.size := by omega
      refine ⟨by rw [H1.out, H2.out]; rfl, ?_, ?_, ?_⟩
      · exact (((r1.setCell (.inr (.inr (Nat.le_refl _))) _).setCell (.inr (.inr (Nat.le_refl _))) _).setCell (.inr (.inr (Nat.le_refl _))) _).setCell (.inr (.inr (Nat.le_refl _))) _
      · exact Cells.other (Cells.other (Cells.other (Cells.other r2 z6 _) z6 _) z6 _) z6 _
      · rw [H3.out]; exact Cells.other (Cells.other (Cells.other (Cells.other r3 z5 _) z5 _) z5 _) z5 _
end Go.Proofs.YtngngamfceoklaaDoor
