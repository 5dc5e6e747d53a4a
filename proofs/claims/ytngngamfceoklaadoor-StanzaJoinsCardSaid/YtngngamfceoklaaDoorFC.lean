/- The answers by definition: Cut and Kind. -/
import Derived.Test.YtngngamfceoklaaDoorFB
namespace Go.Proofs.YtngngamfceoklaaDoor
open Go.RowKit Go.Shelf

theorem before_take (l : List UInt8) : ∀ (k : Nat), l[k]? = some 58 → (∀ j, j < k → l[j]? ≠ some 58) → (before l).length = k := by
  induction l with
  | nil => intro k h; simp at h
  | cons a t ih =>
    intro k h hn
    unfold before at ih ⊢
    cases k with
    | zero =>
      have : a = 58 := by simpa using h
      subst this; rfl
    | succ k =>
      have ha : a ≠ 58 := fun e => hn 0 (by omega) (by rw [e]; rfl)
      rw [List.takeWhile_cons, if_pos (by simpa using ha), List.length_cons, ih k (by simpa using h) (fun j hj => by have := hn (j + 1) (by omega); simpa using this)]

set_option maxHeartbeats 1000000 in
/-- Cut by definition, where there is a line end, or no colon, or no good key ahead of it: nothing. -/
theorem refCut_no (s : ByteArray) (hs : s.size ≤ 4294967295) (w : World) (h : hasB s.data.toList 10 = true ∨ hasB s.data.toList 58 = false ∨ goodKey (before s.data.toList) = false) :
    Calls Tryd.prog 49 #[.string s] w fun e w' => e = .returned (.tuple #[.string ⟨#[]⟩, .string ⟨#[]⟩, .bool false]) ∧ Below w.heap.size w w' := by
  have n5 := Lib.size_eq s
  have N5 := Lib.hid n5
  clear n5
  have HH := Lib.hid h
  clear h
  go_enter Tryd.func49, Tryd.ntmps49
  go_wp2_with fail
  go_loop [5] (fun i => ∃ k : Nat, k ≤ s.size ∧ i = .int .i64 k ∧ ∀ j, j < k → s.data.toList[j]? ≠ some 10) (fun i => s.size - (intOf i).toNat)
  case atStart => exact ⟨0, Nat.zero_le _, rfl, fun j hj => absurd hj (Nat.not_lt_zero j)⟩
  case round =>
    obtain ⟨k, hk, rfl, hno⟩ := hrel
    by_cases hlt : k < s.size
    · have e : s.data.toList[k]? = some s[k] := by
        rw [List.getElem?_eq_getElem (by rw [← Lib.size_eq]; exact hlt)]; rfl
      have E := Lib.hid e
      have NO := Lib.hid hno
      clear e hno
      have q2 := byte_eq (c := s[k]) (d := 10) 10 rfl
      cases h5 : (s[k] == 10) with
      | true =>
        rw [h5] at q2
        go_wp2
        go_ret3
        exact ⟨rfl, Below.refl _ _⟩
      | false =>
        rw [h5] at q2
        go_wp2
        go_round
        case rel =>
          refine ⟨k + 1, hlt, by go_num, fun j hj => ?_⟩
          by_cases hjk : j = k
          · subst hjk; rw [E.out]; simpa using h5
          · exact NO.out j (by omega)
        case measure => simp [intOf]; omega
    · have h10 := has_no s.data.toList 10 k hno (by rw [← N5.out]; omega)
      have h2 : hasB s.data.toList 58 = false ∨ goodKey (before s.data.toList) = false := by
        rcases HH.out with h | h
        · rw [h10] at h; cases h
        · exact h
      have H2 := Lib.hid h2
      clear hno h10 h2 HH
      go_wp2_with fail
      go_loop [6] (fun i => ∃ k : Nat, k ≤ s.size ∧ i = .int .i64 k ∧ ∀ j, j < k → s.data.toList[j]? ≠ some 58) (fun i => s.size - (intOf i).toNat)
      case atStart => exact ⟨0, Nat.zero_le _, rfl, fun j hj => absurd hj (Nat.not_lt_zero j)⟩
      case round =>
        obtain ⟨m, hm, rfl, hno⟩ := hrel
        by_cases hlt2 : m < s.size
        · have e : s.data.toList[m]? = some s[m] := by
            rw [List.getElem?_eq_getElem (by rw [← Lib.size_eq]; exact hlt2)]; rfl
          have q2 := byte_eq (c := s[m]) (d := 58) 58 rfl
          cases h5 : (s[m] == 58) with
          | true =>
            rw [h5] at q2
            have e58 : s.data.toList[m]? = some 58 := by rw [e]; simpa using h5
            have hb := before_take s.data.toList m e58 hno
            have hg : goodKey (before s.data.toList) = false := by
              rcases H2.out with h | h
              · rw [has_yes _ _ m e58] at h; cases h
              · exact h
            have K := fun w => refKey_any (preS s) (Nat.le_trans (preS_size s) hs) w
            rw [preS_data, hg] at K
            unfold preS at K
            rw [hb] at K
            clear e hno e58 hb hg
            go_wp2_with (first | (go_at_call 66; refine (K _).mono ?_; rintro e w1 ⟨rfl, rfl⟩))
            go_ret3
            exact ⟨rfl, Below.refl _ _⟩
          | false =>
            rw [h5] at q2
            have E := Lib.hid e
            have NO := Lib.hid hno
            clear e hno
            go_wp2
            go_round
            case rel =>
              refine ⟨m + 1, hlt2, by go_num, fun j hj => ?_⟩
              by_cases hjk : j = m
              · subst hjk; rw [E.out]; simpa using h5
              · exact NO.out j (by omega)
            case measure => simp [intOf]; omega
        · clear hno
          go_wp2
          go_ret3
          exact ⟨rfl, Below.refl _ _⟩

theorem before_lt (l : List UInt8) (h : hasB l 58 = true) : l[(before l).length]? = some 58 ∧ ∀ j, j < (before l).length → l[j]? ≠ some 58 := by
  unfold hasB at h
  have hm : (58 : UInt8) ∈ l := by simpa using h
  clear h
  unfold before
  induction l with
  | nil => cases hm
  | cons a t ih =>
    by_cases ha : a = 58
    · subst ha
      refine ⟨rfl, fun j hj => ?_⟩
      simp at hj
    · have hm' : (58 : UInt8) ∈ t := by
        rcases List.mem_cons.1 hm with h | h
        · exact absurd h.symm ha
        · exact h
      obtain ⟨h1, h2⟩ := ih hm'
      rw [List.takeWhile_cons, if_pos (by simpa using ha), List.length_cons]
      refine ⟨by simpa using h1, fun j hj => ?_⟩
      cases j with
      | zero => simpa using ha
      | succ j => have := h2 j (by omega); simpa using this

set_option maxHeartbeats 1000000 in
theorem refCut_yes (s : ByteArray) (hs : s.size ≤ 4294967295) (w : World) (h1 : hasB s.data.toList 10 = false) (h2 : hasB s.data.toList 58 = true) (h3 : goodKey (before s.data.toList) = true) :
    Calls Tryd.prog 49 #[.string s] w fun e w' => e = .returned (.tuple #[.string (preS s), .string (postS s), .bool true]) ∧ Below w.heap.size w w' := by
  have n5 := Lib.size_eq s
  have N5 := Lib.hid n5
  clear n5
  have H1 := Lib.hid h1
  obtain ⟨b1, b2⟩ := before_lt _ h2
  have hbl : (before s.data.toList).length < s.size := by
    rcases Nat.lt_or_ge (before s.data.toList).length s.size with h | h
    · exact h
    · rw [List.getElem?_eq_none (by rw [← Lib.size_eq]; exact h)] at b1; cases b1
  have B1 := Lib.hid b1
  have B2 := Lib.hid b2
  have K := fun w => refKey_any (preS s) (Nat.le_trans (preS_size s) hs) w
  rw [preS_data, h3] at K
  have HP : Hid (preS s = s.extract 0 (before s.data.toList).length) := rfl
  have HQ : Hid (postS s = s.extract ((before s.data.toList).length + 1) s.size) := rfl
  unfold preS at K
  clear h1 h2 h3 b1 b2
  generalize (before s.data.toList).length = n at *
  go_enter Tryd.func49, Tryd.ntmps49
  go_wp2_with fail
  go_loop [5] (fun i => ∃ k : Nat, k ≤ s.size ∧ i = .int .i64 k) (fun i => s.size - (intOf i).toNat)
  case atStart => exact ⟨0, Nat.zero_le _, rfl⟩
  case round =>
    obtain ⟨k, hk, rfl⟩ := hrel
    by_cases hlt : k < s.size
    · have q2 := byte_eq (c := s[k]) (d := 10) 10 rfl
      have h5 : (s[k] == 10) = false := by
        cases h5 : (s[k] == 10) with
        | false => rfl
        | true =>
          exfalso
          have := has_yes s.data.toList 10 k (by rw [List.getElem?_eq_getElem (by rw [← Lib.size_eq]; exact hlt)]; exact congrArg some (eq_of_beq h5))
          rw [H1.out] at this; cases this
      rw [h5] at q2
      clear h5
      go_wp2
      go_round
      case rel => exact ⟨k + 1, hlt, by go_num⟩
      case measure => simp [intOf]; omega
    · go_wp2_with fail
      go_loop [6] (fun i => ∃ k : Nat, k ≤ n ∧ i = .int .i64 k) (fun i => s.size - (intOf i).toNat)
      case atStart => exact ⟨0, Nat.zero_le _, rfl⟩
      case round =>
        obtain ⟨m, hm, rfl⟩ := hrel
        have hlt2 : m < s.size := by omega
        have e : s.data.toList[m]? = some s[m] := by
          rw [List.getElem?_eq_getElem (by rw [← Lib.size_eq]; exact hlt2)]; rfl
        have q2 := byte_eq (c := s[m]) (d := 58) 58 rfl
        by_cases hmn : m < n
        · have h5 : (s[m] == 58) = false := by
            have := B2.out m hmn
            rw [e] at this
            simpa using this
          rw [h5] at q2
          clear e h5
          go_wp2
          go_round
          case rel => exact ⟨m + 1, by omega, by go_num⟩
          case measure => simp [intOf]; omega
        · obtain rfl : m = n := by omega
          have h5 : (s[m] == 58) = true := by
            have := B1.out
            rw [e] at this
            simpa using this
          rw [h5] at q2
          clear e h5
          have h6 : IntKind.i64.wrap ((m : Int) + 1) = (m : Int) + 1 := IntWalk.i64_in _ (by omega)
          go_wp2_with (first | (go_at_call 66; refine (K _).mono ?_; rintro e w1 ⟨rfl, rfl⟩))
          go_quiet (fail)
          go_wp2
          go_ret3
          exact ⟨by rw [HP.out, HQ.out]; rfl, Below.drewN (Below.refl _ _) _⟩

theorem blankTo_snoc (s : ByteArray) (k : Nat) (h : k < s.size) : blankAll (s.data.toList.take (k + 1)) = (blankAll (s.data.toList.take k) && blankB s[k]) := by
  unfold blankAll
  rw [List.take_succ_eq_append_getElem (by simpa using h), List.all_append]
  simp; rfl

set_option maxHeartbeats 1000000 in
theorem refKind_nl (s : ByteArray) (hs : s.size ≤ 4294967295) (w : World) (h1 : hasB s.data.toList 10 = true) :
    Calls Tryd.prog 31 #[.string s] w fun e w' => e = .returned (.int .i64 5) ∧ Below w.heap.size w w' := by
  have n5 := Lib.size_eq s
  have N5 := Lib.hid n5
  clear n5
  have H1 := Lib.hid h1
  clear h1
  go_enter Tryd.func31, Tryd.ntmps31
  go_wp2_with fail
  go_loop [3, 4] (fun b i => ∃ (k : Nat) (x : Bool), k ≤ s.size ∧ i = .int .i64 k ∧ b = .bool x ∧ ∀ j, j < k → s.data.toList[j]? ≠ some 10) (fun _ i => s.size - (intOf i).toNat)
  case atStart => exact ⟨0, true, Nat.zero_le _, rfl, rfl, fun j hj => absurd hj (Nat.not_lt_zero j)⟩
  case round =>
    obtain ⟨k, x, hk, rfl, rfl, hno⟩ := hrel
    by_cases hlt : k < s.size
    · have e : s.data.toList[k]? = some s[k] := by
        rw [List.getElem?_eq_getElem (by rw [← Lib.size_eq]; exact hlt)]; rfl
      have E := Lib.hid e
      have NO := Lib.hid hno
      clear e hno
      have q2 := byte_eq (c := s[k]) (d := 10) 10 rfl
      cases h5 : (s[k] == 10) with
      | true =>
        rw [h5] at q2
        go_wp2
        go_ret
        exact ⟨rfl, Below.refl _ _⟩
      | false =>
        rw [h5] at q2
        have h6 : ∀ j, j < k + 1 → s.data.toList[j]? ≠ some 10 := fun j hj => by
          by_cases hjk : j = k
          · subst hjk; rw [E.out]; simpa using h5
          · exact NO.out j (by omega)
        have H6 := Lib.hid h6
        clear h6
        cases x
        all_goals
          go_wp2_with (first | (go_at_call 48; refine (refBlank_any _ _).mono ?_; rintro e w1 ⟨rfl, rfl⟩))
          go_round
          case rel => exact ⟨k + 1, _, hlt, by go_num, rfl, H6.out⟩
          case measure => simp [intOf]; omega
    · exfalso
      have := has_no s.data.toList 10 k hno (by rw [← N5.out]; omega)
      rw [H1.out] at this; cases this
end Go.Proofs.YtngngamfceoklaaDoor
