import Derived.Test.YtbondapdjolmiaaE
namespace Go.Proofs.Ytbondapdjolmiaa
open Go.RowKit
theorem is_any (f : ByteArray) (v : Value) (ss : List ByteArray) (w : World) (hv : Strs w v ss) (hl : ss.length ≤ maxLen) (hs : ∀ (i : Nat) (s : ByteArray), ss[i]? = some s → s.size ≤ maxLen) :
    Calls Try.prog 13 #[.string f, v] w fun e w' => e = .returned (.bool (f.toList == (figs (M.crc (cat ss))).toList)) ∧ Below w.heap.size w w' := by
  go_enter Try.func13, Try.ntmps13
  go_wp2_with fail
  refine (sum_any v ss _ hv hl hs).mono ?_
  rintro e w1 ⟨rfl, hb1⟩
  go_wp2_with fail
  refine (figures_any _ (M.crc_lt (cat ss)) _).mono ?_
  rintro e w2 ⟨rfl, hb2⟩
  go_wp2_with fail
  go_ret
  exact ⟨rfl, hb1.trans (hb2.mono hb1.size)⟩
theorem run_dig (y : Nat) (w : World) : (Instr.slice 9 (.string ⟨#[48, 49, 50, 51, 52, 53, 54, 55, 56, 57, 97, 98, 99, 100, 101, 102]⟩) (some (.int .u32 ((y : Int) % 16))) (some (.int .u32 ((y : Int) % 16 + 1))) none).run Try.prog w = .ok (.string ⟨#[dg (y % 16)]⟩) w := by
  have hd : y % 16 < 16 := Nat.mod_lt _ (by decide)
  have e : (y : Int) % 16 = ((y % 16 : Nat) : Int) := by omega
  rw [e]
  generalize y % 16 = d at *
  rw [run_slice_string _ _ _ _ _ _ _ Try.underlying9 (by omega) (by omega) (by show (d : Int) + 1 ≤ (16 : Nat); omega)]
  match d, hd with
  | 0, _ | 1, _ | 2, _ | 3, _ | 4, _ | 5, _ | 6, _ | 7, _ | 8, _ | 9, _ | 10, _ | 11, _ | 12, _ | 13, _ | 14, _ | 15, _ => rfl
  | n + 16, h => omega
theorem figs_get (x k : Nat) (hk : k < 8) : (figs x).data.toList[k]? = some (dg (x / 16 ^ (7 - k) % 16)) := by
  match k, hk with
  | 0, _ | 1, _ | 2, _ | 3, _ | 4, _ | 5, _ | 6, _ | 7, _ => simp [figs]
  | n + 8, h => omega
theorem figs_step (x k : Nat) (hk : k < 8) : (figs x).data.toList.drop (8 - (k + 1)) = dg (x / 16 ^ k % 16) :: (figs x).data.toList.drop (8 - k) := by
  match k, hk with
  | 0, _ | 1, _ | 2, _ | 3, _ | 4, _ | 5, _ | 6, _ | 7, _ => simp [figs]
  | n + 8, h => omega
theorem joined (c : UInt8) (l : List UInt8) : (⟨#[c]⟩ ++ ⟨l.toArray⟩ : ByteArray) = ⟨(c :: l).toArray⟩ := by
  apply ByteArray.ext
  simp
theorem div16 (x k : Nat) : ((x / 16 ^ k : Nat) : Int) / 16 = ((x / 16 ^ (k + 1) : Nat) : Int) := by
  rw [Nat.pow_succ, ← Nat.div_div_eq_div_mul]
  omega
set_option maxHeartbeats 400000 in
theorem refFigures_any (x : Nat) (hx : x < 4294967296) (w : World) :
    Calls Try.prog 17 #[.int .u32 x] w fun e w' => e = .returned (.string (figs x)) ∧ w = w' := by
  go_enter Try.func17, Try.ntmps17
  go_wp2
  go_loop [0, 3, 4] (fun r s i => ∃ k : Nat, k ≤ 8 ∧ i = .int .i64 k ∧ r = .int .u32 (x / 16 ^ k : Nat) ∧ s = .string ⟨((figs x).data.toList.drop (8 - k)).toArray⟩) (fun _ _ i => 8 - (intOf i).toNat)
  case atStart => exact ⟨0, by omega, rfl, by simp, rfl⟩
  case round =>
    obtain ⟨k, hk, rfl, rfl, rfl⟩ := hrel
    by_cases hlt : k < 8
    · have hy : x / 16 ^ k < 4294967296 := Nat.lt_of_le_of_lt (Nat.div_le_self _ _) hx
      have HS := Lib.hid (figs_step x k hlt)
      have HD := Lib.hid (div16 x k)
      generalize x / 16 ^ k = y at *
      have hsl := run_dig y w
      have hfs : (figs x).size ≤ 8 := Nat.le_refl 8
      go_wp2
      go_round
      case rel => exact ⟨k + 1, by omega, by go_num, by rw [HD.out], by rw [HS.out, joined]⟩
      case measure => simp [intOf]; omega
    · have : k = 8 := by omega
      subst this
      go_wp2
      go_ret
      exact ⟨rfl, rfl⟩
end Go.Proofs.Ytbondapdjolmiaa
