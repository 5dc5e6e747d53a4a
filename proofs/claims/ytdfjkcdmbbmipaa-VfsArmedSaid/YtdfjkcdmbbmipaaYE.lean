/- Errors as numbers; the law VfsSwaps. -/
import Derived.Test.YtdfjkcdmbbmipaaSWM
namespace Go.Proofs.Ytdfjkcdmbbmipaa
open Go.RowKit Go.Maps
attribute [local go_sem] errV_0

theorem assertErr (n : Int) (w : World) : (Instr.typeAssert (.iface 31 (.int .i64 n)) 27 31 true).run Try.prog w = .ok (.tuple #[.int .i64 n, .bool true]) w := by kernel_rfl
attribute [local go_sem] assertErr
theorem errV_pos (n : Nat) (h : 0 < n) : errV n = .iface 31 (.int .i64 (n : Int)) := by unfold errV; rw [if_neg (by omega)]
set_option maxRecDepth 100000 in
set_option maxHeartbeats 1000000 in
theorem num_any (n : Nat) (hn : n ≤ 1000) (w : World) : Calls Try.prog 32 #[errV n] w fun e w' => e = .returned (.int .i64 n) ∧ w = w' := by
  by_cases h0 : n = 0
  · subst h0
    go_enter Try.func32, Try.ntmps32
    go_wp2
    refine wp_loop_rounds 1 ?_
    rw [rounds_succ]
    go_wp2
    go_ret
    exact ⟨rfl, rfl⟩
  · rw [errV_pos n (by omega)]
    have hne : ((n : Int) != 0) = true := by simp; omega
    have hne2 : ((n : Int) == 0) = false := by simp; omega
    clear h0
    go_enter Try.func32, Try.ntmps32
    go_wp2
    refine wp_loop_rounds 1 ?_
    rw [rounds_succ]
    go_wp2
    go_ret
    exact ⟨rfl, rfl⟩
set_option maxHeartbeats 1000000 in
theorem is_any (n : Nat) (hn : n ≤ 1000) (k : Nat) (w : World) : Calls Try.prog 11 #[errV n, .int .i64 k] w fun e w' => e = .returned (.bool ((n : Int) == (k : Int))) ∧ w = w' := by
  have C := Lib.hid (num_any n hn w)
  generalize errV n = v at *
  go_enter Try.func11, Try.ntmps11
  go_wp2_with fail
  refine C.out.mono ?_
  rintro e w1 ⟨rfl, rfl⟩
  go_wp2
  go_ret
  exact ⟨rfl, rfl⟩
end Go.Proofs.Ytdfjkcdmbbmipaa
