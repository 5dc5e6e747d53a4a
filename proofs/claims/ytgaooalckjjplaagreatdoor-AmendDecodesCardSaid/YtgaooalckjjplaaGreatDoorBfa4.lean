/- Texts put together: CB, CC, CD, DF, WA. -/
import Derived.Test.YtgaooalckjjplaaGreatDoorChecked
import Derived.WalkKit
import Derived.Lib.Hide
import Derived.Deep.WholeRow
import Derived.Deep.QuietTactic
import Derived.BigQuiet
import Derived.ShutString
import Derived.BigCall
import Derived.RegionTactic
import Derived.ChangeAlike
import Derived.Outline
import Derived.IntWalk
import Derived.Test.YtgaooalckjjplaaGreatDoorBfa1
import Derived.Test.YtgaooalckjjplaaGreatDoorBfa3
set_option linter.unusedVariables false
namespace Go.Proofs.YtgaooalckjjplaaGreatDoor.Sm
open Go.RowKit
theorem take_snoc (s : ByteArray) (k : Nat) (h : k < s.size) : s.data.toList.take (k + 1) = s.data.toList.take k ++ [s[k]] := by
  rw [List.take_succ_eq_append_getElem (by simpa using h)]; rfl
theorem xorb (x c : Nat) (hx : x < 4294967296) (hc : c < 256) : bits .xor .u32 (x : Int) ((c : Int) * 16777216) = ((x ^^^ c * 16777216 : Nat) : Int) := by
  have h := M.m24 c hc
  have e : ((c : Int) * 16777216) = ((c * 16777216 : Nat) : Int) := by omega
  rw [e]
  exact u32_xor_nat _ _ hx h
theorem ret_int {k : IntKind} {a b : Int} (h : a = b) : Ending.returned (.int k a) = .returned (.int k b) := by rw [h]
theorem st_yes (z : Nat) (hz : z < 4294967296) (h : ((z : Int) / 2147483648 == 1) = true) : bits .xor .u32 ((z : Int) * 2 % 4294967296) 79764919 = ((M.st z : Nat) : Int) := by
  have h1 : (z : Int) / 2147483648 = 1 := by simpa using h
  have h2 : z / 2147483648 = 1 := by omega
  unfold M.st
  rw [if_pos h2]
  have e : ((z : Int) * 2 % 4294967296) = ((z * 2 % 4294967296 : Nat) : Int) := by omega
  rw [e]
  exact u32_xor_nat _ 79764919 (Nat.mod_lt _ (by decide)) (by decide)
theorem st_no (z : Nat) (h : ((z : Int) / 2147483648 == 1) = false) : ((z : Int) * 2 % 4294967296) = ((M.st z : Nat) : Int) := by
  have h1 : ¬ (z : Int) / 2147483648 = 1 := by simpa using h
  have h2 : ¬ z / 2147483648 = 1 := by omega
  unfold M.st
  rw [if_neg h2]
  omega
set_option maxHeartbeats 400000 in
theorem refAdd_any (a : Nat) (ha : a < 4294967296) (s : ByteArray) (w : World) (hs : s.size ≤ maxLen) :
    Calls Tryz.prog 105 #[.int .u32 a, .string s] w fun e w' => e = .returned (.int .u32 ((4294967295 - M.feed (4294967295 - a) s.data.toList : Nat) : Int)) ∧ w = w' := by
  unfold maxLen at hs
  go_enter Tryz.func105, Tryz.ntmps105
  go_wp2
  go_loop [5, 6] (fun x i => ∃ k : Nat, k ≤ s.size ∧ i = .int .i64 k ∧ x = .int .u32 (M.feed (4294967295 - a) (s.data.toList.take k) : Nat)) (fun _ i => s.size - (intOf i).toNat)
  case atStart => exact ⟨0, Nat.zero_le _, rfl, by simp [M.feed]; omega⟩
  case round =>
    obtain ⟨k, hk, rfl, rfl⟩ := hrel
    by_cases hlt : k < s.size
    · have hx := M.feed_lt (s.data.toList.take k) (4294967295 - a) (by omega)
      have hc := s[k].toNat_lt
      have HS : Hid (M.feed (4294967295 - a) (s.data.toList.take (k + 1)) = M.stn 8 (M.feed (4294967295 - a) (s.data.toList.take k) ^^^ s[k].toNat * 16777216)) := by
        rw [take_snoc s k hlt, M.feed_snoc]; rfl
      have hy : M.feed (4294967295 - a) (s.data.toList.take k) ^^^ s[k].toNat * 16777216 < 4294967296 := Nat.xor_lt_two_pow (n := 32) hx (M.m24 _ hc)
      have X := xorb _ _ hx hc
      go_wp2
      clear X
      generalize M.feed (4294967295 - a) (s.data.toList.take k) = x0 at *
      generalize hyy : x0 ^^^ s[k].toNat * 16777216 = y at *
      clear hyy
      go_loop [5, 7] (fun x i => ∃ j : Nat, j ≤ 8 ∧ i = .int .i64 j ∧ x = .int .u32 (M.stn j y : Nat)) (fun _ i => 8 - (intOf i).toNat)
      case atStart => exact ⟨0, by omega, rfl, rfl⟩
      case round =>
        obtain ⟨j, hj, rfl, rfl⟩ := hrel
        have hz := M.stn_lt j y hy
        have hst := M.stn_succ j y
        generalize hzz : M.stn j y = z at *
        have HZ := Lib.hid hzz
        clear hzz
        have HQ := Lib.hid hst
        clear hst
        go_wp2
        · have ht : ((z : Int) / 2147483648 == 1) = true := by assumption
          go_round
          case rel => exact ⟨j + 1, by omega, by go_num, by rw [HQ.out, st_yes z hz ht]⟩
          case measure => simp [intOf]; omega
        · have ht : ((z : Int) / 2147483648 == 1) = false := by assumption
          go_round
          case rel => exact ⟨j + 1, by omega, by go_num, by rw [HQ.out, st_no z ht]⟩
          case measure => simp [intOf]; omega
        · have : j = 8 := by omega
          go_round
          case rel => exact ⟨k + 1, by omega, by go_num, by rw [HS.out, ← HZ.out, this]⟩
          case measure => simp [intOf]; omega
    · go_wp2
      have : k = s.size := by omega
      subst this
      go_ret
      have hfl := M.feed_lt s.data.toList (4294967295 - a) (by omega)
      exact ⟨by rw [List.take_of_length_le (by simp)]; exact ret_int (by omega), rfl⟩
/-- the table's entries as far as they are made -/
def T (k j : Nat) : Nat := if j < k then M.stn 4 (j * 268435456) else 0
def tab (k : Nat) : Array Value := #[.int .u32 (T k 0 : Nat), .int .u32 (T k 1 : Nat), .int .u32 (T k 2 : Nat), .int .u32 (T k 3 : Nat), .int .u32 (T k 4 : Nat), .int .u32 (T k 5 : Nat), .int .u32 (T k 6 : Nat), .int .u32 (T k 7 : Nat), .int .u32 (T k 8 : Nat), .int .u32 (T k 9 : Nat), .int .u32 (T k 10 : Nat), .int .u32 (T k 11 : Nat), .int .u32 (T k 12 : Nat), .int .u32 (T k 13 : Nat), .int .u32 (T k 14 : Nat), .int .u32 (T k 15 : Nat)]
theorem tab_size (k : Nat) : (tab k).size = 16 := rfl
theorem tab_get (k j : Nat) (h : j < 16) : (tab k)[j]? = some (.int .u32 (T k j : Nat)) := by
  match j, h with
  | 0, _ | 1, _ | 2, _ | 3, _ | 4, _ | 5, _ | 6, _ | 7, _ | 8, _ | 9, _ | 10, _ | 11, _ | 12, _ | 13, _ | 14, _ | 15, _ => rfl
  | n + 16, h => omega
theorem tab_set (k : Nat) (h : k < 16) : (tab k).setIfInBounds k (.int .u32 (M.stn 4 (k * 268435456) : Nat)) = tab (k + 1) := by
  apply Array.ext_getElem?
  intro j
  rw [Array.getElem?_setIfInBounds]
  by_cases hj : j < 16
  · rw [tab_get _ _ hj, tab_get _ _ hj, tab_size]
    by_cases e : k = j
    · subst e; simp [h, T]
    · have : T (k + 1) j = T k j := by unfold T; by_cases a : j < k <;> simp [a] <;> omega
      rw [if_neg e, this]
  · have : k ≠ j := by omega
    rw [if_neg this, Array.getElem?_eq_none (by rw [tab_size]; omega), Array.getElem?_eq_none (by rw [tab_size]; omega)]
set_option maxHeartbeats 400000 in
theorem halves_any (w : World) :
    Calls Tryz.prog 107 #[] w fun e w' => e = .returned (.agg (tab 16)) ∧ Below w.heap.size w w' := by
  go_enter Tryz.func107, Tryz.ntmps107
  go_wp2
  go_loopw [3, 5] (fun r i wr => ∃ k : Nat, k ≤ 16 ∧ i = .int .i64 k ∧ wr = (w.alloc (.cells #[Value.int IntKind.u32 0, Value.int IntKind.u32 0, Value.int IntKind.u32 0, Value.int IntKind.u32 0, Value.int IntKind.u32 0, Value.int IntKind.u32 0, Value.int IntKind.u32 0, Value.int IntKind.u32 0, Value.int IntKind.u32 0, Value.int IntKind.u32 0, Value.int IntKind.u32 0, Value.int IntKind.u32 0, Value.int IntKind.u32 0, Value.int IntKind.u32 0, Value.int IntKind.u32 0, Value.int IntKind.u32 0] 188)).alloc (.cells (tab k) 188)) (fun _ i _ => 16 - (intOf i).toNat)
  case atStart => exact ⟨0, by omega, rfl, rfl⟩
  case round =>
    obtain ⟨k, hk, rfl, rfl⟩ := hrel
    by_cases hlt : k < 16
    · have hx : k * 268435456 < 4294967296 := by omega
      go_wp2
      go_loop [3, 11] (fun x i => ∃ j : Nat, j ≤ 4 ∧ i = .int .i64 j ∧ x = .int .u32 (M.stn j (k * 268435456) : Nat)) (fun _ i => 4 - (intOf i).toNat)
      case atStart => exact ⟨0, by omega, rfl, by simp [M.stn]⟩
      case round =>
        obtain ⟨j, hj, rfl, rfl⟩ := hrel
        have hz := M.stn_lt j _ hx
        have hst := M.stn_succ j (k * 268435456)
        have ht := tab_get k k hlt
        have hset := tab_set k hlt
        generalize hzz : M.stn j (k * 268435456) = z at *
        have HZ := Lib.hid hzz
        have HQ := Lib.hid hst
        have HS := Lib.hid hset
        clear hzz hst hset
        go_wp2
        · have ht : ((z : Int) / 2147483648 == 1) = true := by assumption
          go_round
          case rel => exact ⟨j + 1, by omega, by go_num, by rw [HQ.out, st_yes z hz ht]⟩
          case measure => simp [intOf]; omega
        · have ht : ((z : Int) / 2147483648 == 1) = false := by assumption
          go_round
          case rel => exact ⟨j + 1, by omega, by go_num, by rw [HQ.out, st_no z ht]⟩
          case measure => simp [intOf]; omega
        · have : j = 4 := by omega
          go_roundw
          case rel => exact ⟨k + 1, by omega, by go_num, by rw [← HS.out, ← HZ.out, this]⟩
          case measure => simp [intOf]; omega
    · have : k = 16 := by omega
      subst this
      simp only [tab]
      go_wp2
      exact bodyPost_ret (v := .agg (tab 16)) (by simp [results, Tryz.results107, go_sem, tab]) rfl ⟨rfl, by repeat (first | exact Below.refl _ _ | (refine Below.alloc ?_ (by simp) _) | (refine Below.setCell ?_ (by simp) _))⟩
theorem entry (y : Nat) (hy : y < 4294967296) : (tab 16)[y / 268435456]? = some (.int .u32 (M.stn 4 (y / 268435456 * 268435456) : Nat)) := by
  have h : y / 268435456 < 16 := by omega
  rw [tab_get 16 _ h]
  unfold T
  rw [if_pos h]
theorem half (y : Nat) (hy : y < 4294967296) : bits .xor .u32 ((y : Int) * 16 % 4294967296) (M.stn 4 (y / 268435456 * 268435456) : Nat) = ((M.stn 4 y : Nat) : Int) := by
  have h1 : y / 268435456 * 268435456 < 4294967296 := by omega
  have h2 := M.stn_lt 4 _ h1
  rw [M.four y hy]
  have e : ((y : Int) * 16 % 4294967296) = ((y * 16 % 4294967296 : Nat) : Int) := by omega
  rw [e]
  exact u32_xor_nat _ _ (Nat.mod_lt _ (by decide)) h2
set_option maxHeartbeats 400000 in
theorem feed_any (x : Nat) (hx : x < 4294967296) (s : ByteArray) (w : World) (hs : s.size ≤ maxLen) :
    Calls Tryz.prog 108 #[.int .u32 x, .agg (tab 16), .string s] w fun e w' => e = .returned (.int .u32 (M.feed x s.data.toList : Nat)) ∧ Below w.heap.size w w' := by
  unfold maxLen at hs
  go_enter Tryz.func108, Tryz.ntmps108
  go_wp2
  go_loop [0, 10] (fun r i => ∃ k : Nat, k ≤ s.size ∧ i = .int .i64 k ∧ r = .int .u32 (M.feed x (s.data.toList.take k) : Nat)) (fun _ i => s.size - (intOf i).toNat)
  case atStart => exact ⟨0, by omega, rfl, rfl⟩
  case round =>
    obtain ⟨k, hk, rfl, rfl⟩ := hrel
    by_cases hlt : k < s.size
    · have hx0 := M.feed_lt (s.data.toList.take k) x hx
      have hc := s[k].toNat_lt
      have HS : Hid (M.feed x (s.data.toList.take (k + 1)) = M.stn 4 (M.stn 4 (M.feed x (s.data.toList.take k) ^^^ s[k].toNat * 16777216))) := by
        rw [take_snoc s k hlt, M.feed_snoc]; rfl
      generalize M.feed x (s.data.toList.take k) = x0 at *
      have X := xorb _ _ hx0 hc
      have hy : x0 ^^^ s[k].toNat * 16777216 < 4294967296 := Nat.xor_lt_two_pow (n := 32) hx0 (M.m24 _ hc)
      generalize x0 ^^^ s[k].toNat * 16777216 = y at *
      have hz := M.stn_lt 4 y hy
      have c1 := entry y hy
      have x1 := half y hy
      generalize M.stn 4 y = z at *
      have c2 := entry z hz
      have x2 := half z hz
      go_wp2
      go_round
      case rel => exact ⟨k + 1, by omega, by go_num, by rw [HS.out]⟩
      case measure => simp [intOf]; omega
    · go_wp2
      have : k = s.size := by omega
      subst this
      go_ret
      exact ⟨by rw [List.take_of_length_le (by simp)]; rfl, (Below.refl _ _).alloc (Nat.le_refl _) _⟩
/-- a slice value that reads as these strings -/
def Strs (w : World) (v : Value) (ss : List ByteArray) : Prop :=
  ∃ A cap, v = .slice A ss.length cap ∧ (∀ i s, ss[i]? = some s → ∃ b off, A = some ⟨b, off, none⟩ ∧ b < w.heap.size ∧ w.cell? ⟨b, off + i, none⟩ = some (.string s))
theorem tab_info : (Tryz.prog.info? 188).map (·.size) = some (tab 16).size := by kernel_rfl
theorem tab_one : (tab 16).all (·.oneCell') = true := by kernel_rfl
theorem compl (x : Nat) (h : x < 4294967296) : bits .xor .u32 IntKind.u32.max (x : Int) = ((4294967295 - x : Nat) : Int) := by
  have e : IntKind.u32.max = ((4294967295 : Nat) : Int) := by decide
  rw [e, u32_xor_nat _ _ (by decide) h]
  congr 1
  apply Nat.eq_of_testBit_eq
  intro i
  have h1 : (4294967295 - x) = 2 ^ 32 - (x + 1) := by omega
  have h2 : (4294967295 : Nat) = 2 ^ 32 - 1 := by decide
  rw [h1, Nat.testBit_xor, Nat.testBit_two_pow_sub_succ h, h2, Nat.testBit_two_pow_sub_one]
  by_cases hi : i < 32
  · simp [hi]
  · have h3 : 2 ^ 32 ≤ 2 ^ i := Nat.pow_le_pow_right (by decide) (by omega)
    have : x.testBit i = false := Nat.testBit_lt_two_pow (Nat.lt_of_lt_of_le h h3)
    simp [hi, this]
def Row39 (w : World) (B : Nat) : Prop := w.heap[B]? = some (.cells (tab 16) 188 (0, 0))
set_option maxHeartbeats 400000 in
theorem sum_any (v : Value) (ss : List ByteArray) (w : World) (hv : Strs w v ss) (hl : ss.length ≤ maxLen) (hs : ∀ (i : Nat) (s : ByteArray), ss[i]? = some s → s.size ≤ maxLen) :
    Calls Tryz.prog 63 #[v] w fun e w' => e = .returned (.int .u32 (4294967295 - M.feed 4294967295 (cat ss) : Nat)) ∧ Below w.heap.size w w' := by
  obtain ⟨A, cap, rfl, hc⟩ := hv
  unfold maxLen at hl
  go_enter Tryz.func63, Tryz.ntmps63
  go_wp2_with (go_at_call 107; refine (halves_any _).mono ?_; rintro e w1 ⟨rfl, hb1⟩; have hst := run_storeCells_new (P := Tryz.prog) w1 188 #[Value.int IntKind.u32 0, Value.int IntKind.u32 0, Value.int IntKind.u32 0, Value.int IntKind.u32 0, Value.int IntKind.u32 0, Value.int IntKind.u32 0, Value.int IntKind.u32 0, Value.int IntKind.u32 0, Value.int IntKind.u32 0, Value.int IntKind.u32 0, Value.int IntKind.u32 0, Value.int IntKind.u32 0, Value.int IntKind.u32 0, Value.int IntKind.u32 0, Value.int IntKind.u32 0, Value.int IntKind.u32 0] (tab 16) tab_info (by rfl) tab_one; have hsz := tab_size 16)
  clear hst hsz
  have hrow : Row39 (w1.alloc (.cells (tab 16) 188)) w1.heap.size := heap_alloc_last _ _
  have hbw : Below w.heap.size w (w1.alloc (.cells (tab 16) 188)) := hb1.alloc hb1.size _
  have hlt : w.heap.size ≤ w1.heap.size := hb1.size
  have hlt' : w1.heap.size < (w1.alloc (.cells (tab 16) 188)).heap.size := by simp
  generalize (w1.alloc (.cells (tab 16) 188)) = w2 at *
  generalize w1.heap.size = L at *
  clear hb1
  go_loopw [4, 10] (fun r i wr => ∃ k : Nat, k ≤ ss.length ∧ i = .int .i64 k ∧ r = .int .u32 (M.feed 4294967295 (cat (ss.take k)) : Nat) ∧ Below w.heap.size w wr ∧ Row39 wr L ∧ L < wr.heap.size) (fun _ i _ => ss.length - (intOf i).toNat)
  case atStart => exact ⟨0, by omega, rfl, rfl, hbw, hrow, hlt'⟩
  case round =>
    obtain ⟨k, hk, rfl, rfl, hb, hr, hL⟩ := hrel
    by_cases hlt : k < ss.length
    · obtain ⟨s, hsk⟩ : ∃ s, ss[k]? = some s := ⟨_, List.getElem?_eq_getElem hlt⟩
      obtain ⟨b, off, rfl, hbb, hcell⟩ := hc k s hsk
      have hcw : wr.cell? ⟨b, off + k, none⟩ = some (.string s) := (hb.cell (p := ⟨b, off + k, none⟩) hbb).trans hcell
      have hx := M.feed_lt (cat (ss.take k)) 4294967295 (by decide)
      have HS : Hid (M.feed 4294967295 (cat (ss.take (k + 1))) = M.feed (M.feed 4294967295 (cat (ss.take k))) s.data.toList) := by
        rw [cat_snoc ss k s hsk, M.feed_append]; rfl
      have hsz := hs k s hsk
      generalize M.feed 4294967295 (cat (ss.take k)) = x0 at *
      clear hc hcell hbw hrow hlt' hs hsk
      go_wp2_with (first | (refine wpList_load_row rfl 188 _ rfl L rfl 188 (tab 16) (0, 0) _ hr Tryz.underlying188 rfl tab_info ?_) | (go_at_call 108; refine (feed_any _ hx _ _ hsz).mono ?_; rintro e w3 ⟨rfl, hb3⟩))
      go_roundw
      case rel => exact ⟨k + 1, by omega, by go_num, by rw [HS.out], hb.trans (hb3.mono hb.size), (hb3.block _ hL).trans hr, Nat.lt_of_lt_of_le hL hb3.size⟩
      case measure => simp [intOf]; omega
    · have : k = ss.length := by omega
      subst this
      have hfl := M.feed_lt (cat ss) 4294967295 (by decide)
      rw [List.take_length]
      go_wp2
      go_ret
      exact ⟨ret_int (compl _ hfl), hb⟩
end Go.Proofs.YtgaooalckjjplaaGreatDoor.Sm

namespace Go.Proofs.YtgaooalckjjplaaGreatDoor.Sm
open Go.RowKit
theorem refSum_any (s : ByteArray) (w : World) (hs : s.size ≤ maxLen) :
    Calls Tryz.prog 59 #[.string s] w fun e w' => e = .returned (.int .u32 (M.crc s.data.toList : Nat)) ∧ w = w' := by
  go_enter Tryz.func59, Tryz.ntmps59
  go_wp2_with (go_at_call 105; refine (refAdd_any 0 (by omega) _ _ hs).mono ?_; rintro e w1 ⟨rfl, rfl⟩)
  go_ret
  exact ⟨rfl, rfl⟩
def F (x k j : Nat) : Nat := if j < k then (dg (x / 16 ^ (7 - j) % 16)).toNat else 0
def ftab (x k : Nat) : Array Value := #[.int .u8 (F x k 0 : Nat), .int .u8 (F x k 1 : Nat), .int .u8 (F x k 2 : Nat), .int .u8 (F x k 3 : Nat), .int .u8 (F x k 4 : Nat), .int .u8 (F x k 5 : Nat), .int .u8 (F x k 6 : Nat), .int .u8 (F x k 7 : Nat)]
theorem ftab_get (x k j : Nat) (h : j < 8) : (ftab x k)[j]? = some (.int .u8 (F x k j : Nat)) := by
  match j, h with
  | 0, _ | 1, _ | 2, _ | 3, _ | 4, _ | 5, _ | 6, _ | 7, _ => rfl
  | n + 8, h => omega
theorem ftab_size (x k : Nat) : (ftab x k).size = 8 := rfl
theorem ftab_set (x k : Nat) (h : k < 8) : (ftab x k).setIfInBounds k (.int .u8 ((dg (x / 16 ^ (7 - k) % 16)).toNat : Nat)) = ftab x (k + 1) := by
  apply Array.ext_getElem?
  intro j
  rw [Array.getElem?_setIfInBounds]
  by_cases hj : j < 8
  · rw [ftab_get _ _ _ hj, ftab_get _ _ _ hj, ftab_size]
    by_cases e : k = j
    · subst e; simp [h, F]
    · have : F x (k + 1) j = F x k j := by unfold F; by_cases a : j < k <;> simp [a] <;> omega
      rw [if_neg e, this]
  · have : k ≠ j := by omega
    rw [if_neg this, Array.getElem?_eq_none (by rw [ftab_size]; omega), Array.getElem?_eq_none (by rw [ftab_size]; omega)]
theorem digit_get (d : Nat) (h : d < 16) (h' : d < (⟨#[48, 49, 50, 51, 52, 53, 54, 55, 56, 57, 97, 98, 99, 100, 101, 102]⟩ : ByteArray).size) :
    (⟨#[48, 49, 50, 51, 52, 53, 54, 55, 56, 57, 97, 98, 99, 100, 101, 102]⟩ : ByteArray)[d] = dg d := by
  match d, h with
  | 0, _ | 1, _ | 2, _ | 3, _ | 4, _ | 5, _ | 6, _ | 7, _ | 8, _ | 9, _ | 10, _ | 11, _ | 12, _ | 13, _ | 14, _ | 15, _ => rfl
  | n + 16, h => omega
theorem nib (x k : Nat) (hx : x < 4294967296) (h : k < 8) : x * 16 ^ k % 4294967296 / 268435456 = x / 16 ^ (7 - k) % 16 := by
  match k, h with
  | 0, _ | 1, _ | 2, _ | 3, _ | 4, _ | 5, _ | 6, _ | 7, _ => simp only [Nat.reduceSub, Nat.reducePow]; omega
  | n + 8, h => omega
theorem shl4 (x k : Nat) : ((x * 16 ^ k % 4294967296 : Nat) : Int) * 16 % 4294967296 = ((x * 16 ^ (k + 1) % 4294967296 : Nat) : Int) := by
  rw [Nat.pow_succ, ← Nat.mul_assoc]
  omega
def fnums (x : Nat) : List Int := [(F x 8 0 : Nat), (F x 8 1 : Nat), (F x 8 2 : Nat), (F x 8 3 : Nat), (F x 8 4 : Nat), (F x 8 5 : Nat), (F x 8 6 : Nat), (F x 8 7 : Nat)]
theorem fnums_get (x i : Nat) (h : i < 8) : (fnums x).getD i 0 = (F x 8 i : Nat) := by
  match i, h with
  | 0, _ | 1, _ | 2, _ | 3, _ | 4, _ | 5, _ | 6, _ | 7, _ => rfl
  | n + 8, h => omega
theorem fnums_str (x : Nat) : strOfNums (fnums x) = figs x := by
  simp [strOfNums, fnums, figs, F]
set_option maxRecDepth 100000 in
set_option maxHeartbeats 1000000 in
theorem figures_any (x : Nat) (hx : x < 4294967296) (w : World) :
    Calls Tryz.prog 62 #[.int .u32 x] w fun e w' => e = .returned (.string (figs x)) ∧ Below w.heap.size w w' := by
  go_enter Tryz.func62, Tryz.ntmps62
  go_wp2
  go_loopw [0, 5] (fun r i wr => ∃ k : Nat, k ≤ 8 ∧ i = .int .i64 k ∧ r = .int .u32 (x * 16 ^ k % 4294967296 : Nat) ∧ wr = w.alloc (.cells (ftab x k) 186)) (fun _ i _ => 8 - (intOf i).toNat)
  case atStart => exact ⟨0, by omega, rfl, by simp; omega, rfl⟩
  case round =>
    obtain ⟨k, hk, rfl, rfl, rfl⟩ := hrel
    by_cases hlt : k < 8
    · have hy : x * 16 ^ k % 4294967296 < 4294967296 := Nat.mod_lt _ (by decide)
      have hn := nib x k hx hlt
      have hs := shl4 x k
      generalize x * 16 ^ k % 4294967296 = y at *
      have HN := Lib.hid hn
      have HS := Lib.hid hs
      clear hn hs
      have ht : (ftab x k)[k]? = some (.int .u8 (F x k k : Nat)) := ftab_get x k k hlt
      go_wp2
      go_round
      case rel =>
        refine ⟨k + 1, by omega, by go_num, by rw [HS.out], ?_⟩
        rw [digit_get _ (by omega), HN.out, ftab_set x k hlt]
      case measure => simp [intOf]; omega
    · have : k = 8 := by omega
      subst this
      have hcv := run_convert_bytes_arg (P := Tryz.prog) (w.alloc (.cells (ftab x 8) 186)) 119 5 Tryz.underlying119 Tryz.underlying5 w.heap.size 0 8 8 (fnums x) rfl (fun i hi => by
        rw [World.cell?_alloc_at _ _ _ _ rfl, Nat.zero_add, ftab_get x 8 i hi, fnums_get x i hi]) 9 Tryz.underlying9
      rw [fnums_str] at hcv
      go_wp2
      go_ret
      exact ⟨rfl, (Below.refl _ _).alloc (Nat.le_refl _) _⟩

theorem run_dig (y : Nat) (w : World) : (Instr.slice 9 (.string ⟨#[48, 49, 50, 51, 52, 53, 54, 55, 56, 57, 97, 98, 99, 100, 101, 102]⟩) (some (.int .u32 ((y : Int) % 16))) (some (.int .u32 ((y : Int) % 16 + 1))) none).run Tryz.prog w = .ok (.string ⟨#[dg (y % 16)]⟩) w := by
  have hd : y % 16 < 16 := Nat.mod_lt _ (by decide)
  have e : (y : Int) % 16 = ((y % 16 : Nat) : Int) := by omega
  rw [e]
  generalize y % 16 = d at *
  rw [run_slice_string _ _ _ _ _ _ _ Tryz.underlying9 (by omega) (by omega) (by show (d : Int) + 1 ≤ (16 : Nat); omega)]
  match d, hd with
  | 0, _ | 1, _ | 2, _ | 3, _ | 4, _ | 5, _ | 6, _ | 7, _ | 8, _ | 9, _ | 10, _ | 11, _ | 12, _ | 13, _ | 14, _ | 15, _ => rfl
  | n + 16, h => omega
theorem joined (c : UInt8) (l : List UInt8) : (⟨#[c]⟩ ++ ⟨l.toArray⟩ : ByteArray) = ⟨(c :: l).toArray⟩ := by
  apply ByteArray.ext
  simp
theorem div16 (x k : Nat) : ((x / 16 ^ k : Nat) : Int) / 16 = ((x / 16 ^ (k + 1) : Nat) : Int) := by
  rw [Nat.pow_succ, ← Nat.div_div_eq_div_mul]
  omega
set_option maxRecDepth 100000 in
set_option maxHeartbeats 1000000 in
theorem refFigures_any (x : Nat) (hx : x < 4294967296) (w : World) :
    Calls Tryz.prog 58 #[.int .u32 x] w fun e w' => e = .returned (.string (figs x)) ∧ w = w' := by
  go_enter Tryz.func58, Tryz.ntmps58
  go_wp2
  go_loop [0, 3, 4] (fun r s i => ∃ k : Nat, k ≤ 8 ∧ i = .int .i64 k ∧ r = .int .u32 (x / 16 ^ k : Nat) ∧ s = .string ⟨((figs x).data.toList.drop (8 - k)).toArray⟩) (fun _ _ i => 8 - (intOf i).toNat)
  case atStart => exact ⟨0, by omega, rfl, by simp, rfl⟩
  case round =>
    obtain ⟨k, hk, rfl, rfl, rfl⟩ := hrel
    by_cases hlt : k < 8
    · have hy : x / 16 ^ k < 4294967296 := Nat.lt_of_le_of_lt (Nat.div_le_self _ _) hx
      have HS := Lib.hid (figs_step x k hlt)
      have HD := Lib.hid (div16 x k)
      generalize x / 16 ^ k = y at *
      have hsl := run_dig y w
      have hfs : (figs x).size ≤ 8 := Nat.le_refl 8
      go_wp2
      go_round
      case rel => exact ⟨k + 1, by omega, by go_num, by rw [HD.out], by rw [HS.out, joined]⟩
      case measure => simp [intOf]; omega
    · have : k = 8 := by omega
      subst this
      go_wp2
      go_ret
      exact ⟨rfl, rfl⟩
end Go.Proofs.YtgaooalckjjplaaGreatDoor.Sm

namespace Go.Proofs.YtgaooalckjjplaaGreatDoor.Sm
open Go.RowKit
theorem idx_fin : ∀ c : Fin 256, Lib.indexByte DIG (UInt8.ofNat c.val) = ix c.val := by decide +kernel
theorem idx (c : UInt8) : Lib.indexByte DIG c = ix c.toNat := by
  have := idx_fin ⟨c.toNat, c.toNat_lt⟩
  simpa using this
def takeV (l : List UInt8) : Value := match takes l with
  | some n => .tuple #[.int .u32 (n : Nat), .bool true]
  | none => .tuple #[.int .u32 0, .bool false]
theorem takeV_len {l : List UInt8} (h : l.length ≠ 8) : takeV l = .tuple #[.int .u32 0, .bool false] := by
  unfold takeV takes; rw [if_neg h]
theorem takeV_some {l : List UInt8} {n : Nat} (hl : l.length = 8) (h : tk 0 l = some n) : takeV l = .tuple #[.int .u32 (n : Nat), .bool true] := by
  unfold takeV takes; rw [if_pos hl, h]
theorem takeV_none {l : List UInt8} (hl : l.length = 8) (h : tk 0 l = none) : takeV l = .tuple #[.int .u32 0, .bool false] := by
  unfold takeV takes; rw [if_pos hl, h]
theorem or4 (x d : Nat) (hx : x < 4294967296) (hd : d < 16) : bits .or .u32 ((x : Int) * 16 % 4294967296) (d : Int) = ((x * 16 % 4294967296 + d : Nat) : Int) := by
  have e : ((x : Int) * 16 % 4294967296) = ((x * 16 % 4294967296 : Nat) : Int) := by omega
  rw [e, u32_or_nat _ _ (Nat.mod_lt _ (by decide)) (by omega), nat_join 4 _ _ (by omega) (by omega)]
theorem index_any (c : UInt8) (w : World) :
    Calls Tryz.prog 150 #[.string ⟨#[48, 49, 50, 51, 52, 53, 54, 55, 56, 57, 97, 98, 99, 100, 101, 102]⟩, .int .u8 (c.toNat : Int)] w fun e w' => e = .returned (.int .i64 (ix c.toNat)) ∧ w = w' :=
  (Tryz.strings_IndexByte _ _ w).mono fun _ _ ⟨he, hw⟩ => ⟨by rw [he]; exact ret_int (by rw [← idx c]; simp [DIG]), hw.symm⟩
theorem index_none (c : UInt8) (h : val c.toNat = none) (w : World) :
    Calls Tryz.prog 150 #[.string ⟨#[48, 49, 50, 51, 52, 53, 54, 55, 56, 57, 97, 98, 99, 100, 101, 102]⟩, .int .u8 (c.toNat : Int)] w fun e w' => e = .returned (.int .i64 (-1)) ∧ w = w' :=
  (index_any c w).mono fun _ _ ⟨he, hw⟩ => ⟨by rw [he, ix, h], hw⟩
theorem index_some (c : UInt8) (d : Nat) (h : val c.toNat = some d) (w : World) :
    Calls Tryz.prog 150 #[.string ⟨#[48, 49, 50, 51, 52, 53, 54, 55, 56, 57, 97, 98, 99, 100, 101, 102]⟩, .int .u8 (c.toNat : Int)] w fun e w' => e = .returned (.int .i64 (d : Int)) ∧ w = w' :=
  (index_any c w).mono fun _ _ ⟨he, hw⟩ => ⟨by rw [he, ix, h], hw⟩
set_option maxRecDepth 100000 in
set_option maxHeartbeats 1000000 in
theorem take_any (s : ByteArray) (w : World) (hs : s.size ≤ maxLen) :
    Calls Tryz.prog 111 #[.string s] w fun e w' => e = .returned (takeV s.data.toList) ∧ w = w' := by
  unfold maxLen at hs
  by_cases h8 : s.size = 8
  · have hb : (!((s.size : Int) == 8)) = false := by simp [h8]
    have hb2 : ((s.size : Int) != 8) = false := by simp [h8]
    have H8 := Lib.hid h8
    have hle : s.size ≤ 8 := by omega
    clear h8
    go_enter Tryz.func111, Tryz.ntmps111
    go_wp2_with fail
    go_loop [4, 12] (fun r i => ∃ k x : Nat, k ≤ s.size ∧ x < 4294967296 ∧ i = .int .i64 k ∧ r = .int .u32 (x : Nat) ∧ tk 0 s.data.toList = tk x (s.data.toList.drop k)) (fun _ i => s.size - (intOf i).toNat)
    case atStart => exact ⟨0, 0, by omega, by omega, rfl, rfl, rfl⟩
    case round =>
      obtain ⟨k, x, hk, hx, rfl, rfl, htk⟩ := hrel
      have HT := Lib.hid htk
      clear htk
      by_cases hlt : k < s.size
      · have hsplit : s.data.toList.drop k = s[k] :: s.data.toList.drop (k + 1) := by
          rw [List.drop_eq_getElem_cons (by simpa using hlt)]; rfl
        cases hv : val s[k].toNat with
        | none =>
          have HN : Hid (tk 0 s.data.toList = none) := by
            show _ = _
            rw [HT.out, hsplit, tk, hv]
          clear hsplit
          go_wp2_with fail
          refine (index_none _ hv _).mono ?_
          clear hv
          rintro e w1 ⟨rfl, rfl⟩
          go_wp2_with fail
          go_ret2
          exact ⟨by rw [takeV_none (by simpa using H8.out) HN.out]; rfl, rfl⟩
        | some d =>
          have hd := val_lt hv
          have HN : Hid (tk 0 s.data.toList = tk (x * 16 % 4294967296 + d) (s.data.toList.drop (k + 1))) := by
            show _ = _
            rw [HT.out, hsplit, tk, hv]
          clear hsplit
          have ho := or4 x d hx hd
          go_wp2_with fail
          refine (index_some _ _ hv _).mono ?_
          clear hv
          rintro e w1 ⟨rfl, rfl⟩
          go_wp2_with fail
          go_round
          case rel => exact ⟨k + 1, x * 16 % 4294967296 + d, by omega, by omega, by go_num, rfl, HN.out⟩
          case measure => simp [intOf]; omega
      · have HN : Hid (tk 0 s.data.toList = some x) := by
          show _ = _
          rw [HT.out, List.drop_of_length_le (by simp; omega)]; rfl
        go_wp2
        go_ret2
        exact ⟨by rw [takeV_some (by simpa using H8.out) HN.out]; rfl, rfl⟩
  · have hb : (!((s.size : Int) == 8)) = true := by simp; omega
    have hb2 : ((s.size : Int) != 8) = true := by simp; omega
    go_enter Tryz.func111, Tryz.ntmps111
    go_wp2_with fail
    go_ret2
    exact ⟨by rw [takeV_len (by simpa using h8)]; rfl, rfl⟩

theorem takeV_of {l : List UInt8} {n : Nat} (h : takes l = some n) : takeV l = .tuple #[.int .u32 (n : Nat), .bool true] := by unfold takeV; rw [h]
theorem takeV_not {l : List UInt8} (h : takes l = none) : takeV l = .tuple #[.int .u32 0, .bool false] := by unfold takeV; rw [h]
end Go.Proofs.YtgaooalckjjplaaGreatDoor.Sm

namespace Go.Proofs.YtgaooalckjjplaaGreatDoor.Fr
open Go.RowKit Go.Shelf
attribute [local go_sem] Oper.semAt_some

theorem mkB (l : List UInt8) : (⟨l.toArray⟩ : ByteArray) = B l := rfl
set_option maxRecDepth 100000 in
theorem fits_any (n : Int) (w : World) : Calls Tryz.prog 106 #[.int .i64 n] w fun e w' => e = .returned (.bool (decide (2 ≤ n ∧ n ≤ 50000))) ∧ w' = w := by
  by_cases h1 : 2 ≤ n
  · by_cases h2 : n ≤ 50000
    · have e : decide (2 ≤ n ∧ n ≤ 50000) = true := by simp [h1, h2]
      rw [e]
      go_enter Tryz.func106, Tryz.ntmps106
      go_wp2_with fail
      go_ret
      exact ⟨rfl, rfl⟩
    · have e : decide (2 ≤ n ∧ n ≤ 50000) = false := by simp [h2]
      rw [e]
      go_enter Tryz.func106, Tryz.ntmps106
      go_wp2_with fail
      go_ret
      exact ⟨rfl, rfl⟩
  · have e : decide (2 ≤ n ∧ n ≤ 50000) = false := by simp [h1]
    rw [e]
    go_enter Tryz.func106, Tryz.ntmps106
    go_wp2_with fail
    go_ret
    exact ⟨rfl, rfl⟩
theorem partIf_yes (w : World) : Calls Tryz.prog 66 #[.bool true] w fun e w' => e = .returned (.tuple #[.int .i64 2, .string (B []), .int .i64 0]) ∧ w' = w := by
  go_enter Tryz.func66, Tryz.ntmps66
  go_wp2_with fail
  go_ret3
  exact ⟨rfl, rfl⟩
theorem partIf_no (w : World) : Calls Tryz.prog 66 #[.bool false] w fun e w' => e = .returned (.tuple #[.int .i64 3, .string (B []), .int .i64 0]) ∧ w' = w := by
  go_enter Tryz.func66, Tryz.ntmps66
  go_wp2_with fail
  go_ret3
  exact ⟨rfl, rfl⟩
theorem grow_below {w : World} (n : Nat) (os : Array Obj) : Below w.heap.size w (Go.Sort.grow (w.drewN n) os) :=
  ⟨rfl, rfl, rfl, by rw [Go.Sort.size_grow]; exact Nat.le_add_right _ _, fun k hk => Go.Sort.heap_grow_old _ _ hk⟩
theorem itoa_any (n : Nat) (hn : n ≤ 9223372036854775807) (w : World) (ht : TabsN w) : Calls Tryz.prog 101 #[.int .i64 (n : Int)] w fun e w' => e = .returned (.string (B (Lib.decDigits n))) ∧ Below w.heap.size w w' :=
  (Tryz.strconv_Itoa n (by omega) (by omega) w ht.pow).mono fun e w' ⟨he, k, os, hw⟩ => ⟨by rw [he, Lib.itoa_nonneg]; rfl, by rw [hw]; exact grow_below k os⟩
theorem dec_size (n : Nat) (hn : n ≤ 9223372036854775807) : (B (Lib.decDigits n)).size ≤ 20 := by
  rw [B_size, Lib.decDigits_length]
  exact Lib.nDigits_le20 n (by omega)
set_option maxRecDepth 100000 in
theorem head_any (n : Nat) (hn : n ≤ 9223372036854775807) (f : List UInt8) (hf : f.length ≤ 1000000) (w : World) (ht : TabsN w) :
    Calls Tryz.prog 61 #[.int .i64 (n : Int), .string (B f)] w fun e w' => e = .returned (.string (B (headR n f))) ∧ Below w.heap.size w w' := by
  have IT := Lib.hid (itoa_any n hn w ht)
  have E : Hid ((⟨#[37, 97, 109, 101, 110, 100, 32]⟩ : ByteArray) ++ B (Lib.decDigits n) ++ ⟨#[32]⟩ ++ B f = B (headR n f)) := by
    show _ = _
    rw [show (⟨#[37, 97, 109, 101, 110, 100, 32]⟩ : ByteArray) = B AMD from rfl, show (⟨#[32]⟩ : ByteArray) = B [32] from rfl, B_append, B_append, B_append]
    unfold headR; simp
  have hs := dec_size n hn
  have hfs : (B f).size ≤ 1000000 := by rw [B_size]; exact hf
  generalize B (Lib.decDigits n) = d at *
  generalize B f = g at *
  have s1 : ((⟨#[37, 97, 109, 101, 110, 100, 32]⟩ : ByteArray) ++ d).size ≤ 27 := by rw [ByteArray.size_append]; show 7 + _ ≤ _; omega
  have s2 : ((⟨#[37, 97, 109, 101, 110, 100, 32]⟩ : ByteArray) ++ d ++ ⟨#[32]⟩).size ≤ 28 := by rw [ByteArray.size_append]; show _ + 1 ≤ _; omega
  clear ht
  go_enter Tryz.func61, Tryz.ntmps61
  go_wp2_with fail
  refine IT.out.mono ?_
  rintro e w1 ⟨rfl, hb⟩
  go_wp2_with fail
  go_ret
  exact ⟨by rw [← E.out]; rfl, hb⟩
set_option maxRecDepth 100000 in
theorem foot_any (n : Nat) (hn : n ≤ 9223372036854775807) (w : World) (ht : TabsN w) :
    Calls Tryz.prog 64 #[.int .i64 (n : Int)] w fun e w' => e = .returned (.string (B (footR n))) ∧ Below w.heap.size w w' := by
  have IT := Lib.hid (itoa_any n hn w ht)
  have E : Hid ((⟨#[37, 101, 110, 100, 32]⟩ : ByteArray) ++ B (Lib.decDigits n) ++ ⟨#[10]⟩ = B (footR n)) := by
    show _ = _
    rw [show (⟨#[37, 101, 110, 100, 32]⟩ : ByteArray) = B END from rfl, show (⟨#[10]⟩ : ByteArray) = B [10] from rfl, B_append, B_append]
    unfold footR; simp
  have hs := dec_size n hn
  generalize B (Lib.decDigits n) = d at *
  have s1 : ((⟨#[37, 101, 110, 100, 32]⟩ : ByteArray) ++ d).size ≤ 25 := by rw [ByteArray.size_append]; show 5 + _ ≤ _; omega
  clear ht
  go_enter Tryz.func64, Tryz.ntmps64
  go_wp2_with fail
  refine IT.out.mono ?_
  rintro e w1 ⟨rfl, hb⟩
  go_wp2_with fail
  go_ret
  exact ⟨by rw [← E.out]; rfl, hb⟩
end Go.Proofs.YtgaooalckjjplaaGreatDoor.Fr

namespace Go.Proofs.YtgaooalckjjplaaGreatDoor
open Go.RowKit

theorem indexByte_cases (l : List UInt8) (c : UInt8) : (Lib.indexByte l c = -1 ∧ c ∉ l) ∨ (Lib.indexByte l c = ((l.takeWhile (· != c)).length : Int) ∧ c ∈ l) := by
  induction l with
  | nil => left; exact ⟨rfl, by simp⟩
  | cons a t ih =>
    unfold Lib.indexByte
    by_cases h : a = c
    · subst h; right; simp
    · have hb : (a == c) = false := by simp [h]
      rcases ih with ⟨h1, h2⟩ | ⟨h1, h2⟩
      · left; rw [h1]; simp [h, h2, Ne.symm h]
      · right; rw [h1]; simp [h, h2]

set_option maxHeartbeats 400000 in
/-- internal/stringslite.Cut at one byte. -/
theorem cut0_no (s : ByteArray) (c : UInt8) (w : World) (h : c ∉ s.data.toList) :
    Calls Tryz.prog 109 #[.string s, .string ⟨#[c]⟩] w fun e w' => e = .returned (.tuple #[.string s, .string ⟨#[]⟩, .bool false]) ∧ ∃ n, w' = w.drewN n := by
  have e0 : Lib.indexByte s.data.toList c = -1 := by
    rcases indexByte_cases s.data.toList c with ⟨a, _⟩ | ⟨_, a⟩
    · exact a
    · exact absurd a h
  go_enter Tryz.func109, Tryz.ntmps109
  go_wp2_with (go_at_call 148; refine (Tryz.stringslite_Index_one s c _).mono ?_; rw [e0]; rintro e w' ⟨rfl, rfl⟩)
  go_ret3
  exact ⟨rfl, 0, rfl⟩
set_option maxHeartbeats 400000 in
theorem cut0_yes (s : ByteArray) (c : UInt8) (w : World) (hs : s.size ≤ maxLen) (h : c ∈ s.data.toList) :
    Calls Tryz.prog 109 #[.string s, .string ⟨#[c]⟩] w fun e w' => e = .returned (.tuple #[.string (s.extract 0 (s.data.toList.takeWhile (· != c)).length), .string (s.extract ((s.data.toList.takeWhile (· != c)).length + 1) s.size), .bool true]) ∧ ∃ n, w' = w.drewN n := by
  have e0 : Lib.indexByte s.data.toList c = ((s.data.toList.takeWhile (· != c)).length : Int) := by
    rcases indexByte_cases s.data.toList c with ⟨_, a⟩ | ⟨a, _⟩
    · exact absurd h a
    · exact a
  have hlt : (s.data.toList.takeWhile (· != c)).length < s.size := by
    rw [Lib.size_eq]
    rcases Nat.lt_or_ge (s.data.toList.takeWhile (· != c)).length s.data.toList.length with h1 | h1
    · exact h1
    · exfalso
      have h2 : s.data.toList.takeWhile (· != c) = s.data.toList := List.IsPrefix.eq_of_length_le (List.takeWhile_prefix _) h1
      have h3 := List.all_eq_true.1 (List.all_takeWhile (p := fun (x : UInt8) => x != c) (l := s.data.toList)) c (by rw [h2]; exact h)
      simp at h3
  unfold maxLen at hs
  generalize (s.data.toList.takeWhile (· != c)).length = i at *
  have h1 : IntKind.i64.wrap ((i : Int) + 1) = (i : Int) + 1 := IntWalk.i64_in _ (by omega)
  go_enter Tryz.func109, Tryz.ntmps109
  go_wp2_with (go_at_call 148; refine (Tryz.stringslite_Index_one s c _).mono ?_; rw [e0]; rintro e w' ⟨rfl, rfl⟩)
  go_quiet (fail)
  go_wp2
  go_ret3
  exact ⟨rfl, _, rfl⟩
set_option maxHeartbeats 400000 in
/-- strings.Cut at one byte: there is none. -/
theorem cut_no (s : ByteArray) (c : UInt8) (w : World) (h : c ∉ s.data.toList) :
    Calls Tryz.prog 65 #[.string s, .string ⟨#[c]⟩] w fun e w' => e = .returned (.tuple #[.string s, .string ⟨#[]⟩, .bool false]) ∧ ∃ n, w' = w.drewN n := by
  go_enter Tryz.func65, Tryz.ntmps65
  go_wp2_with (go_at_call 109; refine (cut0_no s c _ h).mono ?_; rintro e w' ⟨rfl, n, rfl⟩)
  go_ret3
  exact ⟨rfl, _, rfl⟩
set_option maxHeartbeats 400000 in
/-- .. there is one. -/
theorem cut_yes (s : ByteArray) (c : UInt8) (w : World) (hs : s.size ≤ maxLen) (h : c ∈ s.data.toList) :
    Calls Tryz.prog 65 #[.string s, .string ⟨#[c]⟩] w fun e w' => e = .returned (.tuple #[.string (s.extract 0 (s.data.toList.takeWhile (· != c)).length), .string (s.extract ((s.data.toList.takeWhile (· != c)).length + 1) s.size), .bool true]) ∧ ∃ n, w' = w.drewN n := by
  go_enter Tryz.func65, Tryz.ntmps65
  go_wp2_with (go_at_call 109; refine (cut0_yes s c _ hs h).mono ?_; rintro e w' ⟨rfl, n, rfl⟩)
  go_ret3
  exact ⟨rfl, _, rfl⟩
/-- A line as a value. -/
def lineV (x : Ln) : Array Value := #[.int .i64 x.no, .int .i64 x.at_, .string ⟨x.text.toArray⟩, .bool x.ended]
def endS (b : Bool) : ByteArray := if b then ⟨#[10]⟩ else ⟨#[]⟩
set_option maxHeartbeats 400000 in
theorem end_any (a b : Int) (t : ByteArray) (x : Bool) (w : World) :
    Calls Tryz.prog 104 #[.agg #[.int .i64 a, .int .i64 b, .string t, .bool x]] w fun e w' => e = .returned (.string (endS x)) ∧ w' = w.alloc (.cells #[.int .i64 a, .int .i64 b, .string t, .bool x] 172) := by
  cases x
  all_goals
    go_enter Tryz.func104, Tryz.ntmps104
    go_wp2
    go_ret
    exact ⟨rfl, rfl⟩

end Go.Proofs.YtgaooalckjjplaaGreatDoor

