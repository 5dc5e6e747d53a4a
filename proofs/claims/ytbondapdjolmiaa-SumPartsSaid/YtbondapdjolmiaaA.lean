import Derived.Test.YtbondapdjolmiaaChecked
import Derived.Test.YtbondapdjolmiaaMath
import Derived.WalkKit
import Derived.Lib.Hide
namespace Go.Proofs.Ytbondapdjolmiaa
open Go.RowKit
theorem take_snoc (s : ByteArray) (k : Nat) (h : k < s.size) : s.data.toList.take (k + 1) = s.data.toList.take k ++ [s[k]] := by
  rw [List.take_succ_eq_append_getElem (by simpa using h)]; rfl
theorem xorb (x c : Nat) (hx : x < 4294967296) (hc : c < 256) : bits .xor .u32 (x : Int) ((c : Int) * 16777216) = ((x ^^^ c * 16777216 : Nat) : Int) := by
  have h := M.m24 c hc
  have e : ((c : Int) * 16777216) = ((c * 16777216 : Nat) : Int) := by omega
  rw [e]
  exact u32_xor_nat _ _ hx h
theorem ret_int {k : IntKind} {a b : Int} (h : a = b) : Ending.returned (.int k a) = .returned (.int k b) := by rw [h]
theorem st_yes (z : Nat) (hz : z < 4294967296) (h : ((z : Int) / 2147483648 == 1) = true) : bits .xor .u32 ((z : Int) * 2 % 4294967296) 79764919 = ((M.st z : Nat) : Int) := by
  have h1 : (z : Int) / 2147483648 = 1 := by simpa using h
  have h2 : z / 2147483648 = 1 := by omega
  unfold M.st
  rw [if_pos h2]
  have e : ((z : Int) * 2 % 4294967296) = ((z * 2 % 4294967296 : Nat) : Int) := by omega
  rw [e]
  exact u32_xor_nat _ 79764919 (Nat.mod_lt _ (by decide)) (by decide)
theorem st_no (z : Nat) (h : ((z : Int) / 2147483648 == 1) = false) : ((z : Int) * 2 % 4294967296) = ((M.st z : Nat) : Int) := by
  have h1 : ¬ (z : Int) / 2147483648 = 1 := by simpa using h
  have h2 : ¬ z / 2147483648 = 1 := by omega
  unfold M.st
  rw [if_neg h2]
  omega
set_option maxHeartbeats 400000 in
theorem refAdd_any (a : Nat) (ha : a < 4294967296) (s : ByteArray) (w : World) (hs : s.size ≤ maxLen) :
    Calls Try.prog 12 #[.int .u32 a, .string s] w fun e w' => e = .returned (.int .u32 ((4294967295 - M.feed (4294967295 - a) s.data.toList : Nat) : Int)) ∧ w = w' := by
  unfold maxLen at hs
  go_enter Try.func12, Try.ntmps12
  go_wp2
  go_loop [5, 6] (fun x i => ∃ k : Nat, k ≤ s.size ∧ i = .int .i64 k ∧ x = .int .u32 (M.feed (4294967295 - a) (s.data.toList.take k) : Nat)) (fun _ i => s.size - (intOf i).toNat)
  case atStart => exact ⟨0, Nat.zero_le _, rfl, by simp [M.feed]; omega⟩
  case round =>
    obtain ⟨k, hk, rfl, rfl⟩ := hrel
    by_cases hlt : k < s.size
    · have hx := M.feed_lt (s.data.toList.take k) (4294967295 - a) (by omega)
      have hc := s[k].toNat_lt
      have HS : Hid (M.feed (4294967295 - a) (s.data.toList.take (k + 1)) = M.stn 8 (M.feed (4294967295 - a) (s.data.toList.take k) ^^^ s[k].toNat * 16777216)) := by
        rw [take_snoc s k hlt, M.feed_snoc]; rfl
      have hy : M.feed (4294967295 - a) (s.data.toList.take k) ^^^ s[k].toNat * 16777216 < 4294967296 := Nat.xor_lt_two_pow (n := 32) hx (M.m24 _ hc)
      have X := xorb _ _ hx hc
      go_wp2
      clear X
      generalize M.feed (4294967295 - a) (s.data.toList.take k) = x0 at *
      generalize hyy : x0 ^^^ s[k].toNat * 16777216 = y at *
      clear hyy
      go_loop [5, 7] (fun x i => ∃ j : Nat, j ≤ 8 ∧ i = .int .i64 j ∧ x = .int .u32 (M.stn j y : Nat)) (fun _ i => 8 - (intOf i).toNat)
      case atStart => exact ⟨0, by omega, rfl, rfl⟩
      case round =>
        obtain ⟨j, hj, rfl, rfl⟩ := hrel
        have hz := M.stn_lt j y hy
        have hst := M.stn_succ j y
        generalize hzz : M.stn j y = z at *
        have HZ := Lib.hid hzz
        clear hzz
        have HQ := Lib.hid hst
        clear hst
        go_wp2
        · have ht : ((z : Int) / 2147483648 == 1) = true := by assumption
          go_round
          case rel => exact ⟨j + 1, by omega, by go_num, by rw [HQ.out, st_yes z hz ht]⟩
          case measure => simp [intOf]; omega
        · have ht : ((z : Int) / 2147483648 == 1) = false := by assumption
          go_round
          case rel => exact ⟨j + 1, by omega, by go_num, by rw [HQ.out, st_no z ht]⟩
          case measure => simp [intOf]; omega
        · have : j = 8 := by omega
          go_round
          case rel => exact ⟨k + 1, by omega, by go_num, by rw [HS.out, ← HZ.out, this]⟩
          case measure => simp [intOf]; omega
    · go_wp2
      have : k = s.size := by omega
      subst this
      go_ret
      have hfl := M.feed_lt s.data.toList (4294967295 - a) (by omega)
      exact ⟨by rw [List.take_of_length_le (by simp)]; exact ret_int (by omega), rfl⟩
end Go.Proofs.Ytbondapdjolmiaa
