/- Whole, its answer by definition, and the law. -/
import Derived.Test.YtifdcnkfanenjaaDoorWG
namespace Go.Proofs.YtifdcnkfanenjaaDoor
open Go.RowKit Go.Shelf

/-- How many of the first k bytes stand in ended lines. -/
def wholeTo (l : List UInt8) : Nat → Nat
  | 0 => 0
  | k + 1 => if l[k]? = some 10 then k + 1 else wholeTo l k
theorem wholeTo_le (l : List UInt8) : ∀ k, wholeTo l k ≤ k
  | 0 => Nat.le_refl _
  | k + 1 => by unfold wholeTo; split; exact Nat.le_refl _; exact Nat.le_trans (wholeTo_le l k) (Nat.le_succ k)
theorem wholeTo_nl (l : List UInt8) : ∀ k, wholeTo l k = 0 ∨ (1 ≤ wholeTo l k ∧ l[wholeTo l k - 1]? = some 10)
  | 0 => .inl rfl
  | k + 1 => by
    unfold wholeTo; split
    · rename_i h; exact .inr ⟨by omega, h⟩
    · exact wholeTo_nl l k
theorem wholeTo_take (l : List UInt8) (n : Nat) : ∀ k, k ≤ n → wholeTo (l.take n) k = wholeTo l k
  | 0, _ => rfl
  | k + 1, h => by
    unfold wholeTo
    rw [List.getElem?_take_of_lt (by omega), wholeTo_take l n k (by omega)]
theorem lastIdx_whole (s : ByteArray) : ∀ k, k ≤ s.size → Lib.lastIdx s 10 k + 1 = (wholeTo s.data.toList k : Nat)
  | 0, _ => rfl
  | k + 1, h => by
    have hk : k < s.data.size := by have : s.size = s.data.size := rfl; omega
    unfold Lib.lastIdx wholeTo
    have e : s.data.toList[k]? = some s.data[k] := by rw [List.getElem?_eq_getElem (by simpa using hk)]; simp
    rw [e, getElem!_pos s.data k hk]
    by_cases h10 : s.data[k] = 10
    · rw [h10]; simp
    · have : ¬ ((s.data[k].toNat : Int) = 10) := by
        intro e2; apply h10; apply UInt8.toNat_inj.1; have e3 : (10 : UInt8).toNat = 10 := rfl; omega
      rw [if_neg this, lastIdx_whole s k (by omega), if_neg (by simpa using h10)]
/-- n, within 0 and m. -/
def clampN (n : Int) (m : Nat) : Nat := min n.toNat m

set_option maxHeartbeats 400000 in
theorem whole_any (s : ByteArray) (n : Int) (w : World) (hs : s.size ≤ 4294967295) (hn : -9223372036854775808 ≤ n ∧ n ≤ 9223372036854775807) :
    Calls Tryd.prog 18 #[.string s, .int .i64 n] w fun e w' => e = .returned (.int .i64 (wholeTo s.data.toList (clampN n s.size) : Nat)) ∧ w = w' := by
  have hc : clampN n s.size ≤ s.size := Nat.min_le_right _ _
  have hz : (s.extract 0 (clampN n s.size)).size = clampN n s.size := by
    rw [Lib.size_eq, Lib.extract_data, List.drop_zero, Nat.sub_zero, List.length_take, ← Lib.size_eq]; omega
  have hd : (s.extract 0 (clampN n s.size)).data.toList = s.data.toList.take (clampN n s.size) := by
    rw [Lib.extract_data, List.drop_zero, Nat.sub_zero]
  have hl := lastIdx_whole (s.extract 0 (clampN n s.size)) (clampN n s.size) (by omega)
  rw [hd, wholeTo_take _ _ _ (Nat.le_refl _)] at hl
  have hw := wholeTo_le s.data.toList (clampN n s.size)
  have L : ∀ w, Calls Tryd.prog 32 #[.string (s.extract 0 (clampN n s.size)), .string ⟨#[10]⟩] w fun e w' => e = .returned (.int .i64 (Lib.lastIdx (s.extract 0 (clampN n s.size)) 10 (clampN n s.size))) ∧ w' = w := fun w => by
    have := Tryd.strings_LastIndex_one (s.extract 0 (clampN n s.size)) ⟨#[10]⟩ rfl (by omega) w
    unfold Lib.lastIndexByte at this
    rw [hz] at this
    exact this
  have hm : (min (max n 0) (s.size : Int)) = (clampN n s.size : Int) := by unfold clampN; omega
  generalize Lib.lastIdx (s.extract 0 (clampN n s.size)) 10 (clampN n s.size) = q at *
  have hq : -1 ≤ q ∧ q ≤ 4294967295 := by omega
  obtain ⟨q1, q2⟩ := hq
  have HL := Lib.hid hl
  clear hl hz hd
  go_enter Tryd.func18, Tryd.ntmps18
  go_wp2_with fail
  refine (L _).mono ?_
  rintro e w1 ⟨rfl, rfl⟩
  go_wp2
  go_ret
  exact ⟨by rw [← HL.out]; rfl, rfl⟩

set_option maxHeartbeats 1000000 in
theorem refWhole_any (s : ByteArray) (n : Int) (w : World) (hs : s.size ≤ 4294967295) (hn : -9223372036854775808 ≤ n ∧ n ≤ 9223372036854775807) :
    Calls Tryd.prog 19 #[.string s, .int .i64 n] w fun e w' => e = .returned (.int .i64 (wholeTo s.data.toList (clampN n s.size) : Nat)) ∧ w = w' := by
  go_enter Tryd.func19, Tryd.ntmps19
  go_wp2
  go_loop [5, 6] (fun o i => ∃ k : Nat, k ≤ clampN n s.size ∧ i = .int .i64 k ∧ o = .int .i64 (wholeTo s.data.toList k : Nat)) (fun _ i => s.size - (intOf i).toNat)
  case atStart => exact ⟨0, Nat.zero_le _, rfl, rfl⟩
  case round =>
    obtain ⟨k, hk, rfl, rfl⟩ := hrel
    have hc : clampN n s.size ≤ s.size := Nat.min_le_right _ _
    have hcn : clampN n s.size = min n.toNat s.size := rfl
    by_cases h1 : k < s.size
    · by_cases h2 : (k : Int) < n
      · have hk2 : k + 1 ≤ clampN n s.size := by omega
        have e : s.data.toList[k]? = some s[k] := by
          rw [List.getElem?_eq_getElem (by rw [← Lib.size_eq]; exact h1)]; rfl
        have hb := s[k].toNat_lt
        have HW : Hid (wholeTo s.data.toList (k + 1) = if s[k] = 10 then k + 1 else wholeTo s.data.toList k) := by
          show wholeTo _ (k + 1) = _
          rw [wholeTo, e]; simp
        have h3 : decide ((k : Int) < n) = true := decide_eq_true h2
        clear e hcn
        by_cases h4 : s[k] = 10
        · have h5 : ((s[k].toNat : Int) == 10) = true := by rw [h4]; rfl
          go_wp2
          go_round
          case rel => exact ⟨k + 1, hk2, by go_num, by rw [HW.out, if_pos h4]; go_num⟩
          case measure => simp [intOf]; omega
        · have h5 : ((s[k].toNat : Int) == 10) = false := by
            rw [beq_eq_false_iff_ne]
            intro e2; apply h4; apply UInt8.toNat_inj.1; have e3 : (10 : UInt8).toNat = 10 := rfl; omega
          go_wp2
          go_round
          case rel => exact ⟨k + 1, hk2, by go_num, by rw [HW.out, if_neg h4]⟩
          case measure => simp [intOf]; omega
      · have h3 : decide ((k : Int) < n) = false := decide_eq_false h2
        have hk3 : k = clampN n s.size := by omega
        clear hcn
        go_wp2
        go_ret
        exact ⟨rfl, rfl⟩
    · have hk3 : k = clampN n s.size := by omega
      clear hcn
      go_wp2
      go_ret
      exact ⟨rfl, rfl⟩

set_option maxHeartbeats 1000000 in
theorem wholeLaw (s : ByteArray) (n : Int) (w : World) (hm : s.size ≤ maxLen) (hw : (Lit.int .i64 n).wf = true) :
    Calls Tryd.prog 6 #[.string s, .int .i64 n] w fun e w' => e = .returned (.bool true) ∧ Below w.heap.size w w' := by
  have hn : -9223372036854775808 ≤ n ∧ n ≤ 9223372036854775807 := by
    simpa [Lit.wf, IntKind.min, IntKind.max, IntKind.signed, IntKind.bits] using hw
  unfold maxLen at hm
  by_cases h1 : 5000 < s.size
  · go_enter Tryd.func6, Tryd.ntmps6
    go_wp2_with (first | (go_at_call 8; refine (alive_any _).mono ?_; rintro e w1 ⟨rfl, b1⟩))
    go_ret
    exact ⟨rfl, b1⟩
  · have h2 : s.size ≤ 5000 := by omega
    have A := fun w => whole_any s n w (by omega) hn
    have B := fun w => refWhole_any s n w (by omega) hn
    have k1 := wholeTo_le s.data.toList (clampN n s.size)
    have k2 := wholeTo_nl s.data.toList (clampN n s.size)
    have k3 : clampN n s.size = min n.toNat s.size := rfl
    obtain ⟨n1, n2⟩ := hn
    generalize wholeTo s.data.toList (clampN n s.size) = k at *
    have k4 : k ≤ s.size := by omega
    have k5 : k = 0 ∨ (k : Int) ≤ n := by omega
    clear k1 k3
    by_cases k6 : k = 0
    · have e1 : ((k : Int) == 0) = true := by rw [k6]; rfl
      clear k2 k5 k6
      go_enter Tryd.func6, Tryd.ntmps6
      go_wp2_with (first | (go_at_call 8; refine (alive_any _).mono ?_; rintro e w1 ⟨rfl, b1⟩) | (go_at_call 18; refine (A _).mono ?_; rintro e w2 ⟨rfl, rfl⟩) | (go_at_call 19; refine (B _).mono ?_; rintro e w2 ⟨rfl, rfl⟩))
      go_ret
      exact ⟨rfl, b1⟩
    · have k7 : 1 ≤ k := by omega
      have k8 : (k : Int) ≤ n := by omega
      have k9 : s.data.toList[k - 1]? = some 10 := by rcases k2 with h | h; omega; exact h.2
      have k10 : k - 1 < s.size := by omega
      have k11 : s[k - 1] = 10 := by
        rw [List.getElem?_eq_getElem (by rw [← Lib.size_eq]; exact k10)] at k9
        exact Option.some.inj k9
      have e1 : ((k : Int) == 0) = false := by rw [beq_eq_false_iff_ne]; omega
      have e2 : decide ((k : Int) ≤ n) = true := decide_eq_true k8
      have e3 : ((s[k - 1].toNat : Int) == 10) = true := by rw [k11]; rfl
      clear k2 k5 k6 k9 k11
      go_enter Tryd.func6, Tryd.ntmps6
      go_wp2_with (first | (go_at_call 8; refine (alive_any _).mono ?_; rintro e w1 ⟨rfl, b1⟩) | (go_at_call 18; refine (A _).mono ?_; rintro e w2 ⟨rfl, rfl⟩) | (go_at_call 19; refine (B _).mono ?_; rintro e w2 ⟨rfl, rfl⟩))
      go_ret
      exact ⟨rfl, b1⟩
end Go.Proofs.YtifdcnkfanenjaaDoor
