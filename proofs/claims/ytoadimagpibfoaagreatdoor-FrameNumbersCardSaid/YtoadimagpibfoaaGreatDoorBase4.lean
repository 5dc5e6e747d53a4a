/- Texts put together: FC, FD, DQ. -/
import Derived.Test.YtoadimagpibfoaaGreatDoorBase3
set_option linter.unusedVariables false
/- The answers by definition: Cut and Kind. -/
namespace Go.Proofs.YtoadimagpibfoaaGreatDoor
open Go.RowKit Go.Shelf

theorem before_take (l : List UInt8) : ∀ (k : Nat), l[k]? = some 58 → (∀ j, j < k → l[j]? ≠ some 58) → (before l).length = k := by
  induction l with
  | nil => intro k h; simp at h
  | cons a t ih =>
    intro k h hn
    unfold before at ih ⊢
    cases k with
    | zero =>
      have : a = 58 := by simpa using h
      subst this; rfl
    | succ k =>
      have ha : a ≠ 58 := fun e => hn 0 (by omega) (by rw [e]; rfl)
      rw [List.takeWhile_cons, if_pos (by simpa using ha), List.length_cons, ih k (by simpa using h) (fun j hj => by have := hn (j + 1) (by omega); simpa using this)]

set_option maxHeartbeats 1000000 in
/-- Cut by definition, where there is a line end, or no colon, or no good key ahead of it: nothing. -/
theorem refCut_no (s : ByteArray) (hs : s.size ≤ 4294967295) (w : World) (h : hasB s.data.toList 10 = true ∨ hasB s.data.toList 58 = false ∨ goodKey (before s.data.toList) = false) :
    Calls Tryz.prog 38 #[.string s] w fun e w' => e = .returned (.tuple #[.string ⟨#[]⟩, .string ⟨#[]⟩, .bool false]) ∧ Below w.heap.size w w' := by
  have n5 := Lib.size_eq s
  have N5 := Lib.hid n5
  clear n5
  have HH := Lib.hid h
  clear h
  go_enter Tryz.func38, Tryz.ntmps38
  go_wp2_with fail
  go_loop [5] (fun i => ∃ k : Nat, k ≤ s.size ∧ i = .int .i64 k ∧ ∀ j, j < k → s.data.toList[j]? ≠ some 10) (fun i => s.size - (intOf i).toNat)
  case atStart => exact ⟨0, Nat.zero_le _, rfl, fun j hj => absurd hj (Nat.not_lt_zero j)⟩
  case round =>
    obtain ⟨k, hk, rfl, hno⟩ := hrel
    by_cases hlt : k < s.size
    · have e : s.data.toList[k]? = some s[k] := by
        rw [List.getElem?_eq_getElem (by rw [← Lib.size_eq]; exact hlt)]; rfl
      have E := Lib.hid e
      have NO := Lib.hid hno
      clear e hno
      have q2 := byte_eq (c := s[k]) (d := 10) 10 rfl
      cases h5 : (s[k] == 10) with
      | true =>
        rw [h5] at q2
        go_wp2
        go_ret3
        exact ⟨rfl, Below.refl _ _⟩
      | false =>
        rw [h5] at q2
        go_wp2
        go_round
        case rel =>
          refine ⟨k + 1, hlt, by go_num, fun j hj => ?_⟩
          by_cases hjk : j = k
          · subst hjk; rw [E.out]; simpa using h5
          · exact NO.out j (by omega)
        case measure => simp [intOf]; omega
    · have h10 := has_no s.data.toList 10 k hno (by rw [← N5.out]; omega)
      have h2 : hasB s.data.toList 58 = false ∨ goodKey (before s.data.toList) = false := by
        rcases HH.out with h | h
        · rw [h10] at h; cases h
        · exact h
      have H2 := Lib.hid h2
      clear hno h10 h2 HH
      go_wp2_with fail
      go_loop [6] (fun i => ∃ k : Nat, k ≤ s.size ∧ i = .int .i64 k ∧ ∀ j, j < k → s.data.toList[j]? ≠ some 58) (fun i => s.size - (intOf i).toNat)
      case atStart => exact ⟨0, Nat.zero_le _, rfl, fun j hj => absurd hj (Nat.not_lt_zero j)⟩
      case round =>
        obtain ⟨m, hm, rfl, hno⟩ := hrel
        by_cases hlt2 : m < s.size
        · have e : s.data.toList[m]? = some s[m] := by
            rw [List.getElem?_eq_getElem (by rw [← Lib.size_eq]; exact hlt2)]; rfl
          have q2 := byte_eq (c := s[m]) (d := 58) 58 rfl
          cases h5 : (s[m] == 58) with
          | true =>
            rw [h5] at q2
            have e58 : s.data.toList[m]? = some 58 := by rw [e]; simpa using h5
            have hb := before_take s.data.toList m e58 hno
            have hg : goodKey (before s.data.toList) = false := by
              rcases H2.out with h | h
              · rw [has_yes _ _ m e58] at h; cases h
              · exact h
            have K := fun w => refKey_any (preS s) (Nat.le_trans (preS_size s) hs) w
            rw [preS_data, hg] at K
            unfold preS at K
            rw [hb] at K
            clear e hno e58 hb hg
            go_wp2_with (first | (go_at_call 57; refine (K _).mono ?_; rintro e w1 ⟨rfl, rfl⟩))
            go_ret3
            exact ⟨rfl, Below.refl _ _⟩
          | false =>
            rw [h5] at q2
            have E := Lib.hid e
            have NO := Lib.hid hno
            clear e hno
            go_wp2
            go_round
            case rel =>
              refine ⟨m + 1, hlt2, by go_num, fun j hj => ?_⟩
              by_cases hjk : j = m
              · subst hjk; rw [E.out]; simpa using h5
              · exact NO.out j (by omega)
            case measure => simp [intOf]; omega
        · clear hno
          go_wp2
          go_ret3
          exact ⟨rfl, Below.refl _ _⟩

theorem before_lt (l : List UInt8) (h : hasB l 58 = true) : l[(before l).length]? = some 58 ∧ ∀ j, j < (before l).length → l[j]? ≠ some 58 := by
  unfold hasB at h
  have hm : (58 : UInt8) ∈ l := by simpa using h
  clear h
  unfold before
  induction l with
  | nil => cases hm
  | cons a t ih =>
    by_cases ha : a = 58
    · subst ha
      refine ⟨rfl, fun j hj => ?_⟩
      simp at hj
    · have hm' : (58 : UInt8) ∈ t := by
        rcases List.mem_cons.1 hm with h | h
        · exact absurd h.symm ha
        · exact h
      obtain ⟨h1, h2⟩ := ih hm'
      rw [List.takeWhile_cons, if_pos (by simpa using ha), List.length_cons]
      refine ⟨by simpa using h1, fun j hj => ?_⟩
      cases j with
      | zero => simpa using ha
      | succ j => have := h2 j (by omega); simpa using this

set_option maxHeartbeats 1000000 in
theorem refCut_yes (s : ByteArray) (hs : s.size ≤ 4294967295) (w : World) (h1 : hasB s.data.toList 10 = false) (h2 : hasB s.data.toList 58 = true) (h3 : goodKey (before s.data.toList) = true) :
    Calls Tryz.prog 38 #[.string s] w fun e w' => e = .returned (.tuple #[.string (preS s), .string (postS s), .bool true]) ∧ Below w.heap.size w w' := by
  have n5 := Lib.size_eq s
  have N5 := Lib.hid n5
  clear n5
  have H1 := Lib.hid h1
  obtain ⟨b1, b2⟩ := before_lt _ h2
  have hbl : (before s.data.toList).length < s.size := by
    rcases Nat.lt_or_ge (before s.data.toList).length s.size with h | h
    · exact h
    · rw [List.getElem?_eq_none (by rw [← Lib.size_eq]; exact h)] at b1; cases b1
  have B1 := Lib.hid b1
  have B2 := Lib.hid b2
  have K := fun w => refKey_any (preS s) (Nat.le_trans (preS_size s) hs) w
  rw [preS_data, h3] at K
  have HP : Hid (preS s = s.extract 0 (before s.data.toList).length) := rfl
  have HQ : Hid (postS s = s.extract ((before s.data.toList).length + 1) s.size) := rfl
  unfold preS at K
  clear h1 h2 h3 b1 b2
  generalize (before s.data.toList).length = n at *
  go_enter Tryz.func38, Tryz.ntmps38
  go_wp2_with fail
  go_loop [5] (fun i => ∃ k : Nat, k ≤ s.size ∧ i = .int .i64 k) (fun i => s.size - (intOf i).toNat)
  case atStart => exact ⟨0, Nat.zero_le _, rfl⟩
  case round =>
    obtain ⟨k, hk, rfl⟩ := hrel
    by_cases hlt : k < s.size
    · have q2 := byte_eq (c := s[k]) (d := 10) 10 rfl
      have h5 : (s[k] == 10) = false := by
        cases h5 : (s[k] == 10) with
        | false => rfl
        | true =>
          exfalso
          have := has_yes s.data.toList 10 k (by rw [List.getElem?_eq_getElem (by rw [← Lib.size_eq]; exact hlt)]; exact congrArg some (eq_of_beq h5))
          rw [H1.out] at this; cases this
      rw [h5] at q2
      clear h5
      go_wp2
      go_round
      case rel => exact ⟨k + 1, hlt, by go_num⟩
      case measure => simp [intOf]; omega
    · go_wp2_with fail
      go_loop [6] (fun i => ∃ k : Nat, k ≤ n ∧ i = .int .i64 k) (fun i => s.size - (intOf i).toNat)
      case atStart => exact ⟨0, Nat.zero_le _, rfl⟩
      case round =>
        obtain ⟨m, hm, rfl⟩ := hrel
        have hlt2 : m < s.size := by omega
        have e : s.data.toList[m]? = some s[m] := by
          rw [List.getElem?_eq_getElem (by rw [← Lib.size_eq]; exact hlt2)]; rfl
        have q2 := byte_eq (c := s[m]) (d := 58) 58 rfl
        by_cases hmn : m < n
        · have h5 : (s[m] == 58) = false := by
            have := B2.out m hmn
            rw [e] at this
            simpa using this
          rw [h5] at q2
          clear e h5
          go_wp2
          go_round
          case rel => exact ⟨m + 1, by omega, by go_num⟩
          case measure => simp [intOf]; omega
        · obtain rfl : m = n := by omega
          have h5 : (s[m] == 58) = true := by
            have := B1.out
            rw [e] at this
            simpa using this
          rw [h5] at q2
          clear e h5
          have h6 : IntKind.i64.wrap ((m : Int) + 1) = (m : Int) + 1 := IntWalk.i64_in _ (by omega)
          go_wp2_with (first | (go_at_call 57; refine (K _).mono ?_; rintro e w1 ⟨rfl, rfl⟩))
          go_quiet (fail)
          go_wp2
          go_ret3
          exact ⟨by rw [HP.out, HQ.out]; rfl, Below.drewN (Below.refl _ _) _⟩

theorem blankTo_snoc (s : ByteArray) (k : Nat) (h : k < s.size) : blankAll (s.data.toList.take (k + 1)) = (blankAll (s.data.toList.take k) && blankB s[k]) := by
  unfold blankAll
  rw [List.take_succ_eq_append_getElem (by simpa using h), List.all_append]
  simp; rfl

set_option maxHeartbeats 1000000 in
theorem refKind_nl (s : ByteArray) (hs : s.size ≤ 4294967295) (w : World) (h1 : hasB s.data.toList 10 = true) :
    Calls Tryz.prog 19 #[.string s] w fun e w' => e = .returned (.int .i64 5) ∧ Below w.heap.size w w' := by
  have n5 := Lib.size_eq s
  have N5 := Lib.hid n5
  clear n5
  have H1 := Lib.hid h1
  clear h1
  go_enter Tryz.func19, Tryz.ntmps19
  go_wp2_with fail
  go_loop [3, 4] (fun b i => ∃ (k : Nat) (x : Bool), k ≤ s.size ∧ i = .int .i64 k ∧ b = .bool x ∧ ∀ j, j < k → s.data.toList[j]? ≠ some 10) (fun _ i => s.size - (intOf i).toNat)
  case atStart => exact ⟨0, true, Nat.zero_le _, rfl, rfl, fun j hj => absurd hj (Nat.not_lt_zero j)⟩
  case round =>
    obtain ⟨k, x, hk, rfl, rfl, hno⟩ := hrel
    by_cases hlt : k < s.size
    · have e : s.data.toList[k]? = some s[k] := by
        rw [List.getElem?_eq_getElem (by rw [← Lib.size_eq]; exact hlt)]; rfl
      have E := Lib.hid e
      have NO := Lib.hid hno
      clear e hno
      have q2 := byte_eq (c := s[k]) (d := 10) 10 rfl
      cases h5 : (s[k] == 10) with
      | true =>
        rw [h5] at q2
        go_wp2
        go_ret
        exact ⟨rfl, Below.refl _ _⟩
      | false =>
        rw [h5] at q2
        have h6 : ∀ j, j < k + 1 → s.data.toList[j]? ≠ some 10 := fun j hj => by
          by_cases hjk : j = k
          · subst hjk; rw [E.out]; simpa using h5
          · exact NO.out j (by omega)
        have H6 := Lib.hid h6
        clear h6
        cases x
        all_goals
          go_wp2_with (first | (go_at_call 37; refine (refBlank_any _ _).mono ?_; rintro e w1 ⟨rfl, rfl⟩))
          go_round
          case rel => exact ⟨k + 1, _, hlt, by go_num, rfl, H6.out⟩
          case measure => simp [intOf]; omega
    · exfalso
      have := has_no s.data.toList 10 k hno (by rw [← N5.out]; omega)
      rw [H1.out] at this; cases this
end Go.Proofs.YtoadimagpibfoaaGreatDoor
/- Kind by definition; the laws of kinds and of keys. -/
namespace Go.Proofs.YtoadimagpibfoaaGreatDoor
open Go.RowKit Go.Shelf

set_option maxHeartbeats 2000000 in
theorem refKind_else (s : ByteArray) (hs : s.size ≤ 4294967295) (w : World) (h1 : hasB s.data.toList 10 = false) :
    Calls Tryz.prog 19 #[.string s] w fun e w' => e = .returned (.int .i64 (kindL s.data.toList : Nat)) ∧ Below w.heap.size w w' := by
  have n5 := Lib.size_eq s
  have N5 := Lib.hid n5
  clear n5
  have H1 := Lib.hid h1
  clear h1
  go_enter Tryz.func19, Tryz.ntmps19
  go_wp2_with fail
  go_loop [3, 4] (fun b i => ∃ (k : Nat), k ≤ s.size ∧ i = .int .i64 k ∧ b = .bool (blankAll (s.data.toList.take k))) (fun _ i => s.size - (intOf i).toNat)
  case atStart => exact ⟨0, Nat.zero_le _, rfl, rfl⟩
  case round =>
    obtain ⟨k, hk, rfl, rfl⟩ := hrel
    by_cases hlt : k < s.size
    · have q2 := byte_eq (c := s[k]) (d := 10) 10 rfl
      have h5 : (s[k] == 10) = false := by
        cases h5 : (s[k] == 10) with
        | false => rfl
        | true =>
          exfalso
          have := has_yes s.data.toList 10 k (by rw [List.getElem?_eq_getElem (by rw [← Lib.size_eq]; exact hlt)]; exact congrArg some (eq_of_beq h5))
          rw [H1.out] at this; cases this
      rw [h5] at q2
      clear h5
      have HS := Lib.hid (blankTo_snoc s k hlt)
      generalize blankAll (s.data.toList.take k) = x at *
      cases x
      all_goals
        go_wp2_with (first | (go_at_call 37; refine (refBlank_any _ _).mono ?_; rintro e w1 ⟨rfl, rfl⟩))
        go_round
        case rel => exact ⟨k + 1, hlt, by go_num, by rw [HS.out]; rfl⟩
        case measure => simp [intOf]; omega
    · obtain rfl : k = s.size := by omega
      have ht : s.data.toList.take s.size = s.data.toList := by rw [Lib.size_eq]; exact List.take_length
      rw [ht]
      clear ht hlt hk
      cases h2 : blankAll s.data.toList with
      | true =>
        have hk : kindL s.data.toList = 1 := by unfold kindL; rw [H1.out, if_neg (by decide), if_pos h2]
        have HK := Lib.hid hk
        clear hk
        go_wp2
        go_ret
        exact ⟨by rw [HK.out]; rfl, Below.refl _ _⟩
      | false =>
        obtain ⟨c, t, hc⟩ := all_blank_cons h2
        have n3 : 1 ≤ s.size := by rw [N5.out, hc]; simp
        have g0 : s[0] = c := by
          have : s.data.toList[0]? = some c := by rw [hc]; rfl
          rw [List.getElem?_eq_getElem (by rw [← Lib.size_eq]; omega)] at this
          exact Option.some.inj this
        have eb : beginsB s.data.toList = blankB c := by rw [hc]; rfl
        have eh : hashB s.data.toList = (c == 35) := by rw [hc]; rfl
        clear hc
        have q1 := byte_eq (c := c) (d := 35) 35 rfl
        cases h3 : (c == 35) with
        | true =>
          have hk : kindL s.data.toList = 2 := by unfold kindL; rw [H1.out, if_neg (by decide), h2, if_neg (by decide), eh, if_pos h3]
          have HK := Lib.hid hk
          rw [h3] at q1
          clear hk h3 eb eh h2
          go_wp2
          go_ret
          exact ⟨by rw [HK.out]; rfl, Below.refl _ _⟩
        | false =>
          rw [h3] at q1
          cases h4 : blankB c with
          | true =>
            have hk : kindL s.data.toList = 3 := by unfold kindL; rw [H1.out, if_neg (by decide), h2, if_neg (by decide), eh, h3, if_neg (by decide), eb, if_pos h4]
            have HK := Lib.hid hk
            clear hk h3 eb eh h2
            go_wp2_with (first | (go_at_call 37; refine (refBlank_any _ _).mono ?_; rw [h4]; rintro e w1 ⟨rfl, rfl⟩))
            go_ret
            exact ⟨by rw [HK.out]; rfl, Below.refl _ _⟩
          | false =>
            have hk : kindL s.data.toList = if hasB s.data.toList 58 = true ∧ goodKey (before s.data.toList) = true then 4 else 5 := by
              unfold kindL; rw [H1.out, if_neg (by decide), h2, if_neg (by decide), eh, h3, if_neg (by decide), eb, h4, if_neg (by decide)]
            by_cases h6 : hasB s.data.toList 58 = true ∧ goodKey (before s.data.toList) = true
            · rw [if_pos h6] at hk
              have HK := Lib.hid hk
              have C := fun w => refCut_yes s hs w H1.out h6.1 h6.2
              clear hk h3 eb eh h2 h6
              go_wp2_with (first | (go_at_call 37; refine (refBlank_any _ _).mono ?_; rw [h4]; rintro e w1 ⟨rfl, rfl⟩) | (go_at_call 38; refine (C _).mono ?_; rintro e w1 ⟨rfl, b1⟩))
              go_ret
              exact ⟨by rw [HK.out]; rfl, b1⟩
            · rw [if_neg h6] at hk
              have HK := Lib.hid hk
              have h7 : hasB s.data.toList 58 = false ∨ goodKey (before s.data.toList) = false := by
                cases a : hasB s.data.toList 58
                · exact .inl rfl
                · cases b : goodKey (before s.data.toList)
                  · exact .inr rfl
                  · exact absurd ⟨a, b⟩ h6
              have C := fun w => refCut_no s hs w (.inr h7)
              clear hk h3 eb eh h2 h6 h7
              go_wp2_with (first | (go_at_call 37; refine (refBlank_any _ _).mono ?_; rw [h4]; rintro e w1 ⟨rfl, rfl⟩) | (go_at_call 38; refine (C _).mono ?_; rintro e w1 ⟨rfl, b1⟩))
              go_ret
              exact ⟨by rw [HK.out]; rfl, b1⟩
theorem refKind_any (s : ByteArray) (hs : s.size ≤ 4294967295) (w : World) :
    Calls Tryz.prog 19 #[.string s] w fun e w' => e = .returned (.int .i64 (kindL s.data.toList : Nat)) ∧ Below w.heap.size w w' := by
  cases h1 : hasB s.data.toList 10 with
  | true =>
    have hk : kindL s.data.toList = 5 := by unfold kindL; rw [if_pos h1]
    rw [hk]
    exact refKind_nl s hs w h1
  | false => exact refKind_else s hs w h1

theorem kind4 {l : List UInt8} (h : kindL l = 4) : hasB l 10 = false ∧ hasB l 58 = true ∧ goodKey (before l) = true := by
  unfold kindL at h
  split at h; · cases h
  rename_i h10
  split at h; · cases h
  split at h; · cases h
  split at h; · cases h
  split at h
  · rename_i q; exact ⟨by simpa using h10, q.1, q.2⟩
  · cases h
theorem pre_post (s : ByteArray) (h : hasB s.data.toList 58 = true) : (preS s ++ ⟨#[58]⟩) ++ postS s = s := by
  obtain ⟨b1, b2⟩ := before_lt _ h
  have e1 : ((preS s ++ ⟨#[58]⟩) ++ postS s).data.toList = s.data.toList := by
    rw [ByteArray.data_append, ByteArray.data_append, Array.toList_append, Array.toList_append, preS_data]
    have e2 : (postS s).data.toList = s.data.toList.drop ((before s.data.toList).length + 1) := by
      unfold postS
      exact Lib.extract_to_end s _
    rw [e2]
    show (before s.data.toList ++ [58]) ++ _ = _
    have e3 : before s.data.toList = s.data.toList.take (before s.data.toList).length := List.prefix_iff_eq_take.1 (List.takeWhile_prefix _)
    have hlt : (before s.data.toList).length < s.data.toList.length := by
      rcases Nat.lt_or_ge (before s.data.toList).length s.data.toList.length with q | q
      · exact q
      · rw [List.getElem?_eq_none q] at b1; cases b1
    generalize before s.data.toList = b at *
    generalize b.length = n at *
    rw [e3]
    have e4 : s.data.toList = s.data.toList.take n ++ s.data.toList.drop n := (List.take_append_drop n _).symm
    conv => rhs; rw [e4, List.drop_eq_getElem_cons hlt]
    have e5 : s.data.toList[n] = 58 := by
      rw [List.getElem?_eq_getElem hlt] at b1; exact Option.some.inj b1
    rw [e5]; simp
  rw [← Lib.mk_data ((preS s ++ ⟨#[58]⟩) ++ postS s), e1, Lib.mk_data]
end Go.Proofs.YtoadimagpibfoaaGreatDoor
/- FrameNumbers. -/
namespace Go.Proofs.YtoadimagpibfoaaGreatDoor.Fr
open Go.RowKit Go.Shelf
attribute [local go_sem] Oper.semAt_some

theorem at_some0 {s : ByteArray} {k : Nat} (h : k < s.size) : s.data.toList[k]? = some s[k] := by
  rw [List.getElem?_eq_getElem (by rw [← Lib.size_eq]; exact h)]; rfl
def signB (l : List UInt8) : Bool := Lib.hasPrefix l [37]
set_option maxRecDepth 100000 in
set_option maxHeartbeats 2000000 in
theorem beginsF_any (s : ByteArray) (hs : s.size ≤ 100000) (w : World) :
    Calls Tryz.prog 7 #[.string s] w fun e w' => e = .returned (.bool (signB s.data.toList && decide (kindL s.data.toList = 5))) ∧ Below w.heap.size w w' := by
  have P1 := Lib.hid (fun w => Tryz.strings_HasPrefix s ⟨#[37]⟩ w)
  have e0 : Lib.hasPrefix s.data.toList (⟨#[37]⟩ : ByteArray).data.toList = signB s.data.toList := rfl
  simp only [e0] at P1
  have K1 := Lib.hid (fun w => kind_any s (by unfold maxLen; omega) w)
  have ek : (((kindL s.data.toList : Nat) : Int) == 5) = decide (kindL s.data.toList = 5) := by rw [Bool.eq_iff_iff]; simp; omega
  generalize signB s.data.toList = q at *
  generalize decide (kindL s.data.toList = 5) = d at *
  generalize kindL s.data.toList = k at *
  cases q with
  | false =>
    go_enter Tryz.func7, Tryz.ntmps7
    go_wp2_with fail
    refine (P1.out _).mono ?_
    rintro e w1 ⟨rfl, rfl⟩
    go_wp2_with fail
    go_ret
    exact ⟨rfl, Below.refl _ _⟩
  | true =>
    go_enter Tryz.func7, Tryz.ntmps7
    go_wp2_with fail
    refine (P1.out _).mono ?_
    rintro e w1 ⟨rfl, rfl⟩
    go_wp2_with fail
    refine (K1.out _).mono ?_
    rintro e w2 ⟨rfl, hb⟩
    go_wp2_with fail
    go_ret
    exact ⟨by simp, hb⟩
set_option maxRecDepth 100000 in
set_option maxHeartbeats 2000000 in
theorem refBegins_any (s : ByteArray) (hs : s.size ≤ 100000) (w : World) :
    Calls Tryz.prog 8 #[.string s] w fun e w' => e = .returned (.bool (signB s.data.toList && decide (kindL s.data.toList = 5))) ∧ Below w.heap.size w w' := by
  have K1 := Lib.hid (fun w => refKind_any s (by omega) w)
  have ek : (((kindL s.data.toList : Nat) : Int) == 5) = decide (kindL s.data.toList = 5) := by rw [Bool.eq_iff_iff]; simp; omega
  by_cases h0 : 0 < s.size
  · have eq : signB s.data.toList = (s[0] == 37) := by
      have e := at_some0 h0
      unfold signB Lib.hasPrefix
      cases hl : s.data.toList with
      | nil => rw [hl] at e; cases e
      | cons c l =>
        rw [hl] at e
        have e := Option.some.inj e
        rw [← e]
        have e2 : List.isPrefixOf [37] (c :: l) = ((37 == c) && true) := by simp [List.isPrefixOf]
        rw [e2, Bool.and_true]
        by_cases hc : c = 37
        · subst hc; rfl
        · have e3 : (c == 37) = false := by simpa using hc
          have e4 : ((37 : UInt8) == c) = false := by simpa using fun e => hc e.symm
          rw [e3, e4]
    have c1 := byteT (c := s[0]) 37 37 rfl
    rw [eq]
    have q0 : (0 : Int) < s.size := by omega
    generalize decide (kindL s.data.toList = 5) = d at *
    generalize kindL s.data.toList = k at *
    generalize (s[0] == 37) = q at *
    cases q with
    | false =>
      go_enter Tryz.func8, Tryz.ntmps8
      go_wp2_with fail
      go_ret
      exact ⟨rfl, Below.refl _ _⟩
    | true =>
      go_enter Tryz.func8, Tryz.ntmps8
      go_wp2_with fail
      refine (K1.out _).mono ?_
      rintro e w2 ⟨rfl, hb⟩
      go_wp2_with fail
      go_ret
      exact ⟨by simp, hb⟩
  · have e0 : s.data.toList = [] := List.eq_nil_of_length_eq_zero (by rw [← Lib.size_eq]; omega)
    have q0 : ¬ (0 : Int) < s.size := by omega
    have eq : signB s.data.toList = false := by rw [e0]; rfl
    rw [eq]
    clear e0
    go_enter Tryz.func8, Tryz.ntmps8
    go_wp2_with fail
    go_ret
    exact ⟨rfl, Below.refl _ _⟩
set_option maxRecDepth 100000 in
set_option maxHeartbeats 2000000 in
theorem numbersLaw11 (n : Int) (s : ByteArray) (w : World) (ht : TabsN w) :
    Calls Tryz.prog 3 #[.int .i64 n, .string s] w fun e w' => e = .returned (.bool true) ∧ Below w.heap.size w w' := by
  have AL := Lib.hid (alive_any w ht)
  by_cases h1 : 1000 < s.size
  · have q1 : (1000 : Int) < s.size := by omega
    go_enter Tryz.func3, Tryz.ntmps3
    go_wp2_with fail
    refine AL.out.mono ?_
    rintro e w1 ⟨rfl, hb1⟩
    go_wp2_with fail
    go_ret
    exact ⟨rfl, hb1⟩
  · have q1 : ¬ (1000 : Int) < s.size := by omega
    have L1 := Lib.hid (fun w ht => length_any n w ht)
    have L2 := Lib.hid (fun w => refLength_any n w)
    have B1 := Lib.hid (fun w => beginsF_any s (by omega) w)
    have B2 := Lib.hid (fun w => refBegins_any s (by omega) w)
    generalize (signB s.data.toList && decide (kindL s.data.toList = 5)) = q at *
    generalize lenR n = k at *
    go_enter Tryz.func3, Tryz.ntmps3
    go_wp2_with fail
    refine AL.out.mono ?_
    rintro e w1 ⟨rfl, hb1⟩
    go_wp2_with fail
    refine (L1.out _ (ht.below hb1 (Nat.le_refl _))).mono ?_
    rintro e w2 ⟨rfl, hb2⟩
    have hb12 := hb1.trans (hb2.mono hb1.size)
    go_wp2_with fail
    refine (L2.out _).mono ?_
    rintro e w3 ⟨rfl, rfl⟩
    go_wp2_with fail
    refine (B1.out _).mono ?_
    rintro e w4 ⟨rfl, hb4⟩
    have hb14 := hb12.trans (hb4.mono hb12.size)
    go_wp2_with fail
    refine (B2.out _).mono ?_
    rintro e w5 ⟨rfl, hb5⟩
    go_wp2_with fail
    go_ret
    exact ⟨by simp, hb14.trans (hb5.mono hb14.size)⟩
theorem numbersCall11 (n : Int) (a : ByteArray) (W : World) (_ : (Lit.int .i64 n).wf = true) (_ : a.size ≤ maxLen) (ht : TabsN W) :
    Calls Tryz.prog 3 #[.int .i64 n, .string a] W fun e W' => e = .returned (.bool true) ∧ Below W.heap.size W W' := numbersLaw11 n a W ht
end Go.Proofs.YtoadimagpibfoaaGreatDoor.Fr
