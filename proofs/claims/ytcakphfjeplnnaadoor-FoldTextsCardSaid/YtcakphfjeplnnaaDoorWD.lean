/- Split, Count, and the law's fixed fact. -/
import Derived.Test.YtcakphfjeplnnaaDoorWC
namespace Go.Proofs.YtcakphfjeplnnaaDoor
open Go.RowKit Go.Shelf
attribute [local go_sem] Oper.semAt_some

theorem split_any (s : ByteArray) (w : World) :
    Calls Tryd.prog 45 #[.string s] w fun e w' => e = .returned (.func (.func 61) #[] #[.pointer (some ⟨w.heap.size, 0, none⟩)]) ∧ w' = w.alloc (.cells #[.string s] 9) := by
  go_enter Tryd.func45, Tryd.ntmps45
  go_wp2
  go_ret
  exact ⟨rfl, rfl⟩

theorem boxNew2 (w : World) (o : Obj) (t : TypeId) (v : Value) : Boxed ((w.alloc o).alloc (.cells #[v] t)) (w.heap.size + 1) t v := by
  have := Boxed.new (w.alloc o) t v
  rwa [World.size_alloc] at this

set_option maxRecDepth 100000 in
set_option maxHeartbeats 2000000 in
theorem count_any (s : ByteArray) (w : World) (hs : s.size ≤ 4294967295) :
    Calls Tryd.prog 26 #[.string s] w fun e w' => e = .returned (.int .i64 (linesOf s.data.toList).length) ∧ Below w.heap.size w w' := by
  refine callsIn_wide (n := 9).1 ?_
  refine callsIn_of_wp_marks Tryd.func26 rfl trivial ?_ rfl
  simp only [Tryd.ntmps26, List.size_toArray, List.length_cons, List.length_nil, Nat.reduceAdd, Nat.reduceSub, Array.replicate_succ, Array.replicate_zero, List.push_toArray, List.append_toArray, List.nil_append, List.cons_append]
  gi_wp2_with (refine ⟨trivial, ?_⟩; gi_at_call 45; refine (callsIn_wide.2 (split_any s _)).mono ?_; rintro e w' ⟨rfl, rfl⟩)
  have hl := linesOf_length s.data.toList
  rw [← Lib.size_eq] at hl
  have b0 : Boxed ((w.alloc (.cells #[.int .i64 0] 3)).alloc (.cells #[.string s] 9)) w.heap.size 3 (.int .i64 0) := (Boxed.new w _ _).alloc _
  have b1 := boxNew2 w (.cells #[.int .i64 0] 3) 9 (.string s)
  have bb : Below w.heap.size w ((w.alloc (.cells #[.int .i64 0] 3)).alloc (.cells #[.string s] 9)) := ((Below.refl _ w).alloc (Nat.le_refl _) _).alloc (by simp) _
  have hz : ((w.alloc (.cells #[.int .i64 0] 3)).alloc (.cells #[.string s] 9)).heap.size = w.heap.size + 2 := by simp
  refine wp_ranged (gf := 61) (lb := #[.pointer (some ⟨w.heap.size + 1, 0, none⟩)]) rfl (enters_of Tryd.func61 (by kernel_rfl) rfl)
    (split_hands s (w.heap.size + 1) _ b1 hs) (fun _ => rfl)
    (fun pre W => Boxed W w.heap.size 3 (.int .i64 pre.length) ∧ Below w.heap.size w W) (fun _ _ _ => False)
    ((Abide.box (.inl (by rw [hz]; omega)) _).and (Abide.below (Nat.le_refl _) (by rw [hz]; omega))) (fun _ _ _ _ hs _ => hs) ⟨b0, bb⟩
    (fun pre x a' W => a' = { tmps := #[.string s, undef, .int .i64 0, .pointer (some ⟨w.heap.size, 0, none⟩), .string s, .func (.func 61) #[] #[.pointer (some ⟨w.heap.size + 1, 0, none⟩)], .agg (lineV x), undef, undef, undef], defers := [] } ∧ Boxed W w.heap.size 3 (.int .i64 pre.length) ∧ Below w.heap.size w W)
    (fun pre x a' => (Abide.pure _ _ _).and ((Abide.box (.inl (by rw [hz]; omega)) _).and (Abide.below (Nat.le_refl _) (by rw [hz]; omega)))) ?assign ?body ?done ?stop
  case assign =>
    intro l pre x post W hx hsz hi
    gi_wp2
    exact ⟨Stay.refl _ _ _, rfl, hi⟩
  case body =>
    rintro l pre x post a' W hx hsz ⟨rfl, b, hb⟩
    have hn : pre.length < s.size := by have := congrArg List.length hx; simp at this; omega
    have c := b.cell
    have f := b.frozen
    gi_wp2
    refine ⟨(Stay.refl _ _ _).setCell (.inl (by rw [hz]; show w.heap.size < _; omega)) _, ?_, hb.setCell (p := ⟨w.heap.size, 0, none⟩) (Nat.le_refl _) _⟩
    rw [List.length_append]
    exact Boxed.set _ b
  case done =>
    rintro W ⟨b, hb⟩ hK
    have c := b.cell
    gi_wp2
    refine ⟨by simp, .inl ⟨_, _, rfl, run_takeDeferred hK, ?_⟩⟩
    refine ⟨_, results_tmp rfl _ _ _, rfl, hb.trans (belowK_b (w := w) (Nat.le_refl _) W _ _ _ (by omega) hK rfl rfl)⟩
  case stop =>
    intro c pre W _ h _
    exact h.elim
end Go.Proofs.YtcakphfjeplnnaaDoor
