/- The iterator over a text's lines: its contract. -/
import Derived.Test.YtngngamfceoklaaDoorWB
import Derived.Shelf.Abstract
import Derived.Shelf.RegionOpen
import Derived.OwnWalkIn
import Derived.TacticsInMore
import Derived.LoopNIn
import Derived.LoopIn
namespace Go.Proofs.YtngngamfceoklaaDoor
open Go.RowKit Go.Shelf
attribute [local go_sem] Oper.semAt_some

theorem from_any (s : ByteArray) (w : World) :
    Calls Tryd.prog 40 #[.string s] w fun e w' => e = .returned (.func (.func 56) #[] #[.pointer (some ⟨w.heap.size + 1 + 1, 0, none⟩), .pointer (some ⟨w.heap.size, 0, none⟩), .pointer (some ⟨w.heap.size + 1, 0, none⟩)]) ∧
      w' = ((w.alloc (.cells #[.string s] 9)).alloc (.cells #[.int .i64 0] 3)).alloc (.cells #[.int .i64 0] 3) := by
  go_enter Tryd.func40, Tryd.ntmps40
  go_wp2
  go_ret
  exact ⟨rfl, rfl⟩

theorem next_yes2 (s : ByteArray) (at_ no : Nat) (Bat Btx Bno : Nat) (w : World) (hat : Boxed w Bat 3 (.int .i64 at_)) (htx : Boxed w Btx 9 (.string s)) (hno : Boxed w Bno 3 (.int .i64 no))
    (h1 : at_ < s.size) (h2 : no < s.size) (hs : s.size ≤ 4294967295) (d1 : Bat ≠ Btx) (d2 : Bat ≠ Bno) (d3 : Btx ≠ Bno) (hd : List UInt8) (en : Bool) (us : Nat)
    (H1 : head (s.data.toList.drop at_) = hd) (H2 : nl (s.data.toList.drop at_) = en) (H3 : used (s.data.toList.drop at_) = us) :
    Calls Tryd.prog 56 #[.pointer (some ⟨Bat, 0, none⟩), .pointer (some ⟨Btx, 0, none⟩), .pointer (some ⟨Bno, 0, none⟩)] w fun e w' =>
      e = .returned (.tuple #[.agg #[.int .i64 no, .int .i64 at_, .string ⟨hd.toArray⟩, .bool en], .bool true]) ∧ Two Bno Bat w w' ∧ Boxed w' Bno 3 (.int .i64 (no + 1 : Nat)) ∧ Boxed w' Bat 3 (.int .i64 (at_ + us : Nat)) := by
  subst H1 H2 H3
  exact next_yes s at_ no Bat Btx Bno w hat htx hno h1 h2 hs d1 d2 d3

def atOf (B : Nat) (w : World) : Nat := match w.cell? ⟨B, 0, none⟩ with | some (.int _ n) => n.toNat | _ => 0
theorem atOf_eq {B : Nat} {w : World} {t : TypeId} {n : Nat} (h : Boxed w B t (.int .i64 n)) : atOf B w = n := by unfold atOf; rw [h.cell]; simp

set_option maxRecDepth 100000 in
set_option maxHeartbeats 2000000 in
theorem split_hands (s : ByteArray) (Bs : Nat) (w : World) (hbox : Boxed w Bs 9 (.string s)) (hs : s.size ≤ 4294967295) :
    Hands Tryd.prog 39 #[.pointer (some ⟨Bs, 0, none⟩)] (fun x => #[.agg (lineV x)]) 3 (linesOf s.data.toList) w := by
  intro l J Jx W hW hJ hY h0
  have hb : Boxed W Bs 9 (.string s) := (hW.block Bs hbox.lt).trans hbox
  have c0 := hb.cell
  refine callsIn_of_wp Tryd.func39 rfl trivial ?_ rfl
  simp only [Tryd.ntmps39, List.size_toArray, List.length_cons, List.length_nil, Nat.reduceAdd, Nat.reduceSub, Array.replicate_succ, Array.replicate_zero, List.push_toArray, List.append_toArray, List.nil_append, List.cons_append]
  gi_wp2_with (refine ⟨trivial, ?_⟩; gi_at_call 40; refine (callsIn_wide.2 (from_any s _)).mono ?_; rintro e w' ⟨rfl, rfl⟩)
  gi_loopw [4] (fun _ wr => ∃ pre at_, linesOf s.data.toList = pre ++ linesOn pre.length at_ (s.data.toList.drop at_) ∧ at_ ≤ s.size ∧ pre.length ≤ at_ ∧ Boxed wr W.heap.size 9 (.string s) ∧
      Boxed wr (W.heap.size + 1) 3 (.int .i64 (pre.length : Nat)) ∧ Boxed wr (W.heap.size + 1 + 1) 3 (.int .i64 at_) ∧ J pre wr)
    (fun _ wr => s.size - atOf (W.heap.size + 1 + 1) wr)
  case atStart =>
    refine ⟨[], 0, rfl, Nat.zero_le _, Nat.le_refl _, ?_, ?_, ?_, hJ.alloc _ (hJ.alloc _ (hJ.alloc _ h0))⟩
    · exact ((Boxed.new W _ _).alloc _).alloc _
    · have := (Boxed.new (W.alloc (.cells #[.string s] 9)) 3 (.int .i64 0)).alloc (.cells #[.int .i64 0] 3)
      rw [World.size_alloc] at this; exact this
    · have := Boxed.new ((W.alloc (.cells #[.string s] 9)).alloc (.cells #[.int .i64 0] 3)) 3 (.int .i64 0)
      rw [World.size_alloc, World.size_alloc] at this; exact this
  case round =>
    obtain ⟨pre, at_, hx, ha, hn, b1, b2, b3, hj⟩ := hrel
    by_cases he : at_ = s.size
    · gi_wp2_with (refine ⟨trivial, ?_⟩; gi_at_call 56; refine (callsIn_wide.2 (next_no s at_ _ _ _ _ b3 b1 he)).mono ?_; rintro e w' ⟨rfl, h2⟩)
      refine ⟨fun _ h => (by cases h), ?_⟩
      gi_wp2
      refine bodyPost_ret (results_none rfl _ _ _) rfl ⟨⟨_, rfl⟩, .inl ?_⟩
      rw [he, List.drop_of_length_le (by rw [← Lib.size_eq]; exact Nat.le_refl _), linesOn_nil, List.append_nil] at hx
      rw [hx]
      exact hJ.alloc _ (hJ _ _ _ hj (h2.turned (by omega) (by omega)))
    · have hlt : at_ < s.size := by omega
      have hne : s.data.toList.drop at_ ≠ [] := by
        intro e; have := congrArg List.length e; rw [List.length_drop, ← Lib.size_eq] at this; simp at this; omega
      rw [linesOn_cons _ _ _ hne, List.drop_drop] at hx
      have hu := used_pos _ hne
      have hul := used_le (s.data.toList.drop at_)
      rw [List.length_drop, ← Lib.size_eq] at hul
      generalize hhd : head (s.data.toList.drop at_) = hd at *
      generalize hen : nl (s.data.toList.drop at_) = en at *
      generalize hus : used (s.data.toList.drop at_) = us at *
      have N := callsIn_wide (n := 7).2 (next_yes2 s at_ pre.length _ _ _ _ b3 b1 b2 hlt (by omega) hs (by omega) (by omega) (by omega) hd en us hhd hen hus)
      have HX := Lib.hid hx
      clear hhd hen hus hx hne he
      gi_wp2_with (refine ⟨trivial, ?_⟩; gi_at_call 56; refine N.mono ?_; clear N; rintro e w' ⟨rfl, h2, h3, h4⟩)
      have hz := h2.size
      have hz3 := b3.lt
      have jw : J pre w' := hJ _ _ _ hj (h2.turned (by omega) (by omega))
      obtain ⟨fn, tmps, assign, body, hy, hR⟩ := hY pre ⟨pre.length, at_, hd, en⟩ _ (w'.alloc (.cells #[.int .i64 pre.length, .int .i64 at_, .string ⟨hd.toArray⟩, .bool en] 62)) HX.out (by simp; omega) (hJ.alloc _ jw)
      dsimp only [lineV] at hy
      rw [hy, Oper.uponIn_round]
      refine ⟨fun h => (by cases h), hR.mono ?_⟩
      clear hR hy
      rintro e W3 (⟨rfl, hJ3, hk3⟩ | ⟨rfl, hJx3⟩)
      · gi_wp2
        go_roundw
        case rel =>
          refine ⟨pre ++ [⟨pre.length, at_, hd, en⟩], at_ + us, ?_, by omega, by simp; omega, ?_, ?_, ?_, hJ3⟩
          · rw [List.append_assoc, List.singleton_append, List.length_append]; exact HX.out
          · exact (hk3.same _ (by omega) (by omega)).trans ((h2.box b1 (by omega) (by omega)).alloc _)
          · rw [List.length_append]; exact (hk3.same _ (by omega) (by omega)).trans (Boxed.alloc h3 _)
          · exact (hk3.same _ (by omega) (by omega)).trans (Boxed.alloc h4 _)
        case measure =>
          rw [atOf_eq b3, atOf_eq (B := W.heap.size + 1 + 1) (w := W3) (n := at_ + us) ((hk3.same _ (by omega) (by omega)).trans (Boxed.alloc h4 _))]
          omega
      · gi_wp2
        refine bodyPost_ret (results_none rfl _ _ _) rfl ⟨⟨_, rfl⟩, .inr ⟨_, ⟨linesOn (pre.length + 1) (at_ + us) (List.drop (at_ + us) s.data.toList), ?_⟩, hJx3⟩⟩
        rw [HX.out, List.append_assoc, List.singleton_append]
end Go.Proofs.YtngngamfceoklaaDoor
