import Derived.Test.YtbondapdjolmiaaD
namespace Go.Proofs.Ytbondapdjolmiaa
open Go.RowKit
def M.add (x : Nat) (l : List UInt8) : Nat := 4294967295 - M.feed (4294967295 - x) l
def M.crc (l : List UInt8) : Nat := 4294967295 - M.feed 4294967295 l
theorem M.add_lt (x : Nat) (l : List UInt8) : M.add x l < 4294967296 := by unfold M.add; omega
theorem M.crc_lt (l : List UInt8) : M.crc l < 4294967296 := by unfold M.crc; omega
theorem M.add_zero (l : List UInt8) : M.add 0 l = M.crc l := rfl
theorem M.add_crc (l r : List UInt8) : M.add (M.crc l) r = M.crc (l ++ r) := by
  have := M.feed_lt l 4294967295 (by decide)
  unfold M.add M.crc
  rw [M.feed_append, show 4294967295 - (4294967295 - M.feed 4294967295 l) = M.feed 4294967295 l by omega]
theorem M.crc_feed (l : List UInt8) : M.feed 4294967295 l = 4294967295 - M.crc l := by
  have := M.feed_lt l 4294967295 (by decide)
  unfold M.crc; omega
theorem refSum_any (s : ByteArray) (w : World) (hs : s.size ≤ maxLen) :
    Calls Try.prog 9 #[.string s] w fun e w' => e = .returned (.int .u32 (M.crc s.data.toList : Nat)) ∧ w = w' := by
  go_enter Try.func9, Try.ntmps9
  go_wp2_with (go_at_call 12; refine (refAdd_any 0 (by omega) _ _ hs).mono ?_; rintro e w1 ⟨rfl, rfl⟩)
  go_ret
  exact ⟨rfl, rfl⟩
theorem add_any (x : Nat) (hx : x < 4294967296) (s : ByteArray) (w : World) (hs : s.size ≤ maxLen) :
    Calls Try.prog 11 #[.int .u32 x, .string s] w fun e w' => e = .returned (.int .u32 (M.add x s.data.toList : Nat)) ∧ Below w.heap.size w w' := by
  have h1 := compl x hx
  have hx' : 4294967295 - x < 4294967296 := by omega
  have hf := M.feed_lt s.data.toList _ hx'
  have h2 := compl _ hf
  go_enter Try.func11, Try.ntmps11
  go_wp2_with fail
  refine (halves_any _).mono ?_
  rintro e w1 ⟨rfl, hb1⟩
  go_wp2_with fail
  refine (feed_any _ hx' _ _ hs).mono ?_
  rintro e w2 ⟨rfl, hb2⟩
  go_wp2_with fail
  go_ret
  exact ⟨rfl, hb1.trans (hb2.mono hb1.size)⟩
def dg (n : Nat) : UInt8 := if n < 10 then UInt8.ofNat (48 + n) else UInt8.ofNat (87 + n)
def figs (x : Nat) : ByteArray := ⟨#[dg (x / 268435456 % 16), dg (x / 16777216 % 16), dg (x / 1048576 % 16), dg (x / 65536 % 16), dg (x / 4096 % 16), dg (x / 256 % 16), dg (x / 16 % 16), dg (x % 16)]⟩
def F (x k j : Nat) : Nat := if j < k then (dg (x / 16 ^ (7 - j) % 16)).toNat else 0
def ftab (x k : Nat) : Array Value := #[.int .u8 (F x k 0 : Nat), .int .u8 (F x k 1 : Nat), .int .u8 (F x k 2 : Nat), .int .u8 (F x k 3 : Nat), .int .u8 (F x k 4 : Nat), .int .u8 (F x k 5 : Nat), .int .u8 (F x k 6 : Nat), .int .u8 (F x k 7 : Nat)]
theorem ftab_get (x k j : Nat) (h : j < 8) : (ftab x k)[j]? = some (.int .u8 (F x k j : Nat)) := by
  match j, h with
  | 0, _ | 1, _ | 2, _ | 3, _ | 4, _ | 5, _ | 6, _ | 7, _ => rfl
  | n + 8, h => omega
theorem ftab_size (x k : Nat) : (ftab x k).size = 8 := rfl
theorem ftab_set (x k : Nat) (h : k < 8) : (ftab x k).setIfInBounds k (.int .u8 ((dg (x / 16 ^ (7 - k) % 16)).toNat : Nat)) = ftab x (k + 1) := by
  apply Array.ext_getElem?
  intro j
  rw [Array.getElem?_setIfInBounds]
  by_cases hj : j < 8
  · rw [ftab_get _ _ _ hj, ftab_get _ _ _ hj, ftab_size]
    by_cases e : k = j
    · subst e; simp [h, F]
    · have : F x (k + 1) j = F x k j := by unfold F; by_cases a : j < k <;> simp [a] <;> omega
      rw [if_neg e, this]
  · have : k ≠ j := by omega
    rw [if_neg this, Array.getElem?_eq_none (by rw [ftab_size]; omega), Array.getElem?_eq_none (by rw [ftab_size]; omega)]
theorem digit_get (d : Nat) (h : d < 16) (h' : d < (⟨#[48, 49, 50, 51, 52, 53, 54, 55, 56, 57, 97, 98, 99, 100, 101, 102]⟩ : ByteArray).size) :
    (⟨#[48, 49, 50, 51, 52, 53, 54, 55, 56, 57, 97, 98, 99, 100, 101, 102]⟩ : ByteArray)[d] = dg d := by
  match d, h with
  | 0, _ | 1, _ | 2, _ | 3, _ | 4, _ | 5, _ | 6, _ | 7, _ | 8, _ | 9, _ | 10, _ | 11, _ | 12, _ | 13, _ | 14, _ | 15, _ => rfl
  | n + 16, h => omega
theorem nib (x k : Nat) (hx : x < 4294967296) (h : k < 8) : x * 16 ^ k % 4294967296 / 268435456 = x / 16 ^ (7 - k) % 16 := by
  match k, h with
  | 0, _ | 1, _ | 2, _ | 3, _ | 4, _ | 5, _ | 6, _ | 7, _ => simp only [Nat.reduceSub, Nat.reducePow]; omega
  | n + 8, h => omega
theorem shl4 (x k : Nat) : ((x * 16 ^ k % 4294967296 : Nat) : Int) * 16 % 4294967296 = ((x * 16 ^ (k + 1) % 4294967296 : Nat) : Int) := by
  rw [Nat.pow_succ, ← Nat.mul_assoc]
  omega
def fnums (x : Nat) : List Int := [(F x 8 0 : Nat), (F x 8 1 : Nat), (F x 8 2 : Nat), (F x 8 3 : Nat), (F x 8 4 : Nat), (F x 8 5 : Nat), (F x 8 6 : Nat), (F x 8 7 : Nat)]
theorem fnums_get (x i : Nat) (h : i < 8) : (fnums x).getD i 0 = (F x 8 i : Nat) := by
  match i, h with
  | 0, _ | 1, _ | 2, _ | 3, _ | 4, _ | 5, _ | 6, _ | 7, _ => rfl
  | n + 8, h => omega
theorem fnums_str (x : Nat) : strOfNums (fnums x) = figs x := by
  simp [strOfNums, fnums, figs, F]
set_option maxHeartbeats 400000 in
theorem figures_any (x : Nat) (hx : x < 4294967296) (w : World) :
    Calls Try.prog 14 #[.int .u32 x] w fun e w' => e = .returned (.string (figs x)) ∧ Below w.heap.size w w' := by
  go_enter Try.func14, Try.ntmps14
  go_wp2
  go_loopw [0, 5] (fun r i wr => ∃ k : Nat, k ≤ 8 ∧ i = .int .i64 k ∧ r = .int .u32 (x * 16 ^ k % 4294967296 : Nat) ∧ wr = w.alloc (.cells (ftab x k) 42)) (fun _ i _ => 8 - (intOf i).toNat)
  case atStart => exact ⟨0, by omega, rfl, by simp; omega, rfl⟩
  case round =>
    obtain ⟨k, hk, rfl, rfl, rfl⟩ := hrel
    by_cases hlt : k < 8
    · have hy : x * 16 ^ k % 4294967296 < 4294967296 := Nat.mod_lt _ (by decide)
      have hn := nib x k hx hlt
      have hs := shl4 x k
      generalize x * 16 ^ k % 4294967296 = y at *
      have HN := Lib.hid hn
      have HS := Lib.hid hs
      clear hn hs
      have ht : (ftab x k)[k]? = some (.int .u8 (F x k k : Nat)) := ftab_get x k k hlt
      go_wp2
      go_round
      case rel =>
        refine ⟨k + 1, by omega, by go_num, by rw [HS.out], ?_⟩
        rw [digit_get _ (by omega), HN.out, ftab_set x k hlt]
      case measure => simp [intOf]; omega
    · have : k = 8 := by omega
      subst this
      have hcv := run_convert_bytes_arg (P := Try.prog) (w.alloc (.cells (ftab x 8) 42)) 36 5 Try.underlying36 Try.underlying5 w.heap.size 0 8 8 (fnums x) rfl (fun i hi => by
        rw [World.cell?_alloc_at _ _ _ _ rfl, Nat.zero_add, ftab_get x 8 i hi, fnums_get x i hi]) 9 Try.underlying9
      rw [fnums_str] at hcv
      go_wp2
      go_ret
      exact ⟨rfl, (Below.refl _ _).alloc (Nat.le_refl _) _⟩
end Go.Proofs.Ytbondapdjolmiaa
