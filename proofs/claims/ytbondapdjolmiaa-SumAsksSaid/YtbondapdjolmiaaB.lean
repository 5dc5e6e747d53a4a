import Derived.Test.YtbondapdjolmiaaA
import Derived.Lib.Hide
namespace Go.Proofs.Ytbondapdjolmiaa
open Go.RowKit
/-- the table's entries as far as they are made -/
def T (k j : Nat) : Nat := if j < k then M.stn 4 (j * 268435456) else 0
def tab (k : Nat) : Array Value := #[.int .u32 (T k 0 : Nat), .int .u32 (T k 1 : Nat), .int .u32 (T k 2 : Nat), .int .u32 (T k 3 : Nat), .int .u32 (T k 4 : Nat), .int .u32 (T k 5 : Nat), .int .u32 (T k 6 : Nat), .int .u32 (T k 7 : Nat), .int .u32 (T k 8 : Nat), .int .u32 (T k 9 : Nat), .int .u32 (T k 10 : Nat), .int .u32 (T k 11 : Nat), .int .u32 (T k 12 : Nat), .int .u32 (T k 13 : Nat), .int .u32 (T k 14 : Nat), .int .u32 (T k 15 : Nat)]
theorem tab_size (k : Nat) : (tab k).size = 16 := rfl
theorem tab_get (k j : Nat) (h : j < 16) : (tab k)[j]? = some (.int .u32 (T k j : Nat)) := by
  match j, h with
  | 0, _ | 1, _ | 2, _ | 3, _ | 4, _ | 5, _ | 6, _ | 7, _ | 8, _ | 9, _ | 10, _ | 11, _ | 12, _ | 13, _ | 14, _ | 15, _ => rfl
  | n + 16, h => omega
theorem tab_set (k : Nat) (h : k < 16) : (tab k).setIfInBounds k (.int .u32 (M.stn 4 (k * 268435456) : Nat)) = tab (k + 1) := by
  apply Array.ext_getElem?
  intro j
  rw [Array.getElem?_setIfInBounds]
  by_cases hj : j < 16
  · rw [tab_get _ _ hj, tab_get _ _ hj, tab_size]
    by_cases e : k = j
    · subst e; simp [h, T]
    · have : T (k + 1) j = T k j := by unfold T; by_cases a : j < k <;> simp [a] <;> omega
      rw [if_neg e, this]
  · have : k ≠ j := by omega
    rw [if_neg this, Array.getElem?_eq_none (by rw [tab_size]; omega), Array.getElem?_eq_none (by rw [tab_size]; omega)]
set_option maxHeartbeats 400000 in
theorem halves_any (w : World) :
    Calls Try.prog 18 #[] w fun e w' => e = .returned (.agg (tab 16)) ∧ Below w.heap.size w w' := by
  go_enter Try.func18, Try.ntmps18
  go_wp2
  go_loopw [3, 5] (fun r i wr => ∃ k : Nat, k ≤ 16 ∧ i = .int .i64 k ∧ wr = (w.alloc (.cells #[Value.int IntKind.u32 0, Value.int IntKind.u32 0, Value.int IntKind.u32 0, Value.int IntKind.u32 0, Value.int IntKind.u32 0, Value.int IntKind.u32 0, Value.int IntKind.u32 0, Value.int IntKind.u32 0, Value.int IntKind.u32 0, Value.int IntKind.u32 0, Value.int IntKind.u32 0, Value.int IntKind.u32 0, Value.int IntKind.u32 0, Value.int IntKind.u32 0, Value.int IntKind.u32 0, Value.int IntKind.u32 0] 39)).alloc (.cells (tab k) 39)) (fun _ i _ => 16 - (intOf i).toNat)
  case atStart => exact ⟨0, by omega, rfl, rfl⟩
  case round =>
    obtain ⟨k, hk, rfl, rfl⟩ := hrel
    by_cases hlt : k < 16
    · have hx : k * 268435456 < 4294967296 := by omega
      go_wp2
      go_loop [3, 11] (fun x i => ∃ j : Nat, j ≤ 4 ∧ i = .int .i64 j ∧ x = .int .u32 (M.stn j (k * 268435456) : Nat)) (fun _ i => 4 - (intOf i).toNat)
      case atStart => exact ⟨0, by omega, rfl, by simp [M.stn]⟩
      case round =>
        obtain ⟨j, hj, rfl, rfl⟩ := hrel
        have hz := M.stn_lt j _ hx
        have hst := M.stn_succ j (k * 268435456)
        have ht := tab_get k k hlt
        have hset := tab_set k hlt
        generalize hzz : M.stn j (k * 268435456) = z at *
        have HZ := Lib.hid hzz
        have HQ := Lib.hid hst
        have HS := Lib.hid hset
        clear hzz hst hset
        go_wp2
        · have ht : ((z : Int) / 2147483648 == 1) = true := by assumption
          go_round
          case rel => exact ⟨j + 1, by omega, by go_num, by rw [HQ.out, st_yes z hz ht]⟩
          case measure => simp [intOf]; omega
        · have ht : ((z : Int) / 2147483648 == 1) = false := by assumption
          go_round
          case rel => exact ⟨j + 1, by omega, by go_num, by rw [HQ.out, st_no z ht]⟩
          case measure => simp [intOf]; omega
        · have : j = 4 := by omega
          go_roundw
          case rel => exact ⟨k + 1, by omega, by go_num, by rw [← HS.out, ← HZ.out, this]⟩
          case measure => simp [intOf]; omega
    · have : k = 16 := by omega
      subst this
      simp only [tab]
      go_wp2
      exact bodyPost_ret (v := .agg (tab 16)) (by simp [results, Try.results18, go_sem, tab]) rfl ⟨rfl, by repeat (first | exact Below.refl _ _ | (refine Below.alloc ?_ (by simp) _) | (refine Below.setCell ?_ (by simp) _))⟩
end Go.Proofs.Ytbondapdjolmiaa
