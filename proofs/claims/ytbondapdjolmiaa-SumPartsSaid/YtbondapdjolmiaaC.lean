import Derived.Test.YtbondapdjolmiaaB
namespace Go.Proofs.Ytbondapdjolmiaa
open Go.RowKit
theorem entry (y : Nat) (hy : y < 4294967296) : (tab 16)[y / 268435456]? = some (.int .u32 (M.stn 4 (y / 268435456 * 268435456) : Nat)) := by
  have h : y / 268435456 < 16 := by omega
  rw [tab_get 16 _ h]
  unfold T
  rw [if_pos h]
theorem half (y : Nat) (hy : y < 4294967296) : bits .xor .u32 ((y : Int) * 16 % 4294967296) (M.stn 4 (y / 268435456 * 268435456) : Nat) = ((M.stn 4 y : Nat) : Int) := by
  have h1 : y / 268435456 * 268435456 < 4294967296 := by omega
  have h2 := M.stn_lt 4 _ h1
  rw [M.four y hy]
  have e : ((y : Int) * 16 % 4294967296) = ((y * 16 % 4294967296 : Nat) : Int) := by omega
  rw [e]
  exact u32_xor_nat _ _ (Nat.mod_lt _ (by decide)) h2
set_option maxHeartbeats 400000 in
theorem feed_any (x : Nat) (hx : x < 4294967296) (s : ByteArray) (w : World) (hs : s.size ≤ maxLen) :
    Calls Try.prog 19 #[.int .u32 x, .agg (tab 16), .string s] w fun e w' => e = .returned (.int .u32 (M.feed x s.data.toList : Nat)) ∧ Below w.heap.size w w' := by
  unfold maxLen at hs
  go_enter Try.func19, Try.ntmps19
  go_wp2
  go_loop [0, 10] (fun r i => ∃ k : Nat, k ≤ s.size ∧ i = .int .i64 k ∧ r = .int .u32 (M.feed x (s.data.toList.take k) : Nat)) (fun _ i => s.size - (intOf i).toNat)
  case atStart => exact ⟨0, by omega, rfl, rfl⟩
  case round =>
    obtain ⟨k, hk, rfl, rfl⟩ := hrel
    by_cases hlt : k < s.size
    · have hx0 := M.feed_lt (s.data.toList.take k) x hx
      have hc := s[k].toNat_lt
      have HS : Hid (M.feed x (s.data.toList.take (k + 1)) = M.stn 4 (M.stn 4 (M.feed x (s.data.toList.take k) ^^^ s[k].toNat * 16777216))) := by
        rw [take_snoc s k hlt, M.feed_snoc]; rfl
      generalize M.feed x (s.data.toList.take k) = x0 at *
      have X := xorb _ _ hx0 hc
      have hy : x0 ^^^ s[k].toNat * 16777216 < 4294967296 := Nat.xor_lt_two_pow (n := 32) hx0 (M.m24 _ hc)
      generalize x0 ^^^ s[k].toNat * 16777216 = y at *
      have hz := M.stn_lt 4 y hy
      have c1 := entry y hy
      have x1 := half y hy
      generalize M.stn 4 y = z at *
      have c2 := entry z hz
      have x2 := half z hz
      go_wp2
      go_round
      case rel => exact ⟨k + 1, by omega, by go_num, by rw [HS.out]⟩
      case measure => simp [intOf]; omega
    · go_wp2
      have : k = s.size := by omega
      subst this
      go_ret
      exact ⟨by rw [List.take_of_length_le (by simp)]; rfl, (Below.refl _ _).alloc (Nat.le_refl _) _⟩
end Go.Proofs.Ytbondapdjolmiaa
