/- The reference, asked of an empty disk. -/
import Derived.Test.YtdfjkcdmbbmipaaZB
namespace Go.Proofs.Ytdfjkcdmbbmipaa
open Go.RowKit Go.Maps

/-- The empty disk of the reference. -/
def refE : Value := .agg #[.int .i64 0, .slice none 0 0, .slice none 0 0, .slice none 0 0, .int .i64 0, .int .i64 0, .bool false, .bool false, .slice none 0 0]
theorem refE_is : refE = .agg #[.int .i64 0, .slice none 0 0, .slice none 0 0, .slice none 0 0, .int .i64 0, .int .i64 0, .bool false, .bool false, .slice none 0 0] := rfl
set_option maxRecDepth 100000 in
set_option maxHeartbeats 1000000 in
theorem refdir_e (w : World) : Calls Try.prog 42 #[refE] w fun e w' => e = .returned (.slice none 0 0) ∧ Below w.heap.size w w' := by
  have B := Lib.hid (fun o : Obj => (Below.refl _ w).alloc (Nat.le_refl _) o)
  unfold refE
  go_enter Try.func42, Try.ntmps42
  go_wp2
  refine wp_loop_rounds 1 ?_
  rw [rounds_succ]
  go_wp2
  go_ret
  exact ⟨rfl, B.out _⟩
set_option maxRecDepth 100000 in
set_option maxHeartbeats 1000000 in
theorem reffind_e (z : ByteArray) (w : World) : Calls Try.prog 70 #[.slice none 0 0, .string z] w fun e w' => e = .returned (.int .i64 (-1)) ∧ w = w' := by
  go_enter Try.func70, Try.ntmps70
  go_wp2
  refine wp_loop_rounds 1 ?_
  rw [rounds_succ]
  go_wp2
  go_ret
  exact ⟨rfl, rfl⟩
set_option maxRecDepth 100000 in
set_option maxHeartbeats 1000000 in
theorem refasked_e (z : ByteArray) (hz : z.size ≤ 1000) (w : World) : Calls Try.prog 60 #[refE, .string z] w fun e w' => e = .returned (.tuple #[.int .i64 (-1), .int .i64 (if goodB z then 7 else 1)]) ∧ Below w.heap.size w w' := by
  have B := Lib.hid (fun o : Obj => (Below.refl _ w).alloc (Nat.le_refl _) o)
  have G := Lib.hid (refgood z hz)
  have D := Lib.hid refdir_e
  have F := Lib.hid (reffind_e z)
  rw [refE_is] at D ⊢
  cases hg : goodB z
  all_goals
    rw [hg] at G
    clear hg
    go_enter Try.func60, Try.ntmps60
    go_wp2_with fail
    refine (G.out _).mono ?_
    rintro e w1 ⟨rfl, rfl⟩
  · go_wp2
    go_ret2
    exact ⟨rfl, B.out _⟩
  · go_wp2_with fail
    refine (D.out _).mono ?_
    rintro e w1 ⟨rfl, hb1⟩
    have HB := Lib.hid ((B.out _).trans (hb1.mono (B.out _).size))
    clear hb1
    go_wp2_with fail
    refine (F.out _).mono ?_
    rintro e w2 ⟨rfl, rfl⟩
    go_wp2
    go_ret2
    exact ⟨rfl, HB.out⟩
end Go.Proofs.Ytdfjkcdmbbmipaa
