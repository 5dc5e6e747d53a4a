/- beginsBlank, Key, Kind and Cut. -/
import Derived.Test.YtngngamfceoklaaDoorWD
import Derived.Test.YtngngamfceoklaaDoorKM
import Derived.Shelf.Strings.SlTrimAscii
namespace Go.Proofs.YtngngamfceoklaaDoor
open Go.RowKit Go.Shelf

theorem ne_of_cons {s : ByteArray} {c : UInt8} {t : List UInt8} (h : s.data.toList = c :: t) : s.toList.isEmpty = false ∧ ¬ s.toList = [] ∧ 1 ≤ s.size := by
  rw [Lib.toList_data, h]
  exact ⟨rfl, by simp, by rw [Lib.size_eq, h]; simp⟩
theorem empty_of {s : ByteArray} (h : s.data.toList = []) : s = ⟨#[]⟩ := by
  rw [← Lib.mk_data s, h]
theorem ind_blank (c : UInt8) : decide (0 ≤ Lib.indexByte [32, 9] c) = blankB c := by
  unfold blankB
  by_cases h1 : c = 32
  · subst h1; decide
  · by_cases h2 : c = 9
    · subst h2; decide
    · have a : ((32 : UInt8) == c) = false := by simp [Ne.symm h1]
      have b : ((9 : UInt8) == c) = false := by simp [Ne.symm h2]
      simp [Lib.indexByte, a, b, h1, h2]
theorem ind_has (l : List UInt8) (c : UInt8) : decide (0 ≤ Lib.indexByte l c) = l.contains c := by
  rcases indexByte_cases l c with ⟨h1, h2⟩ | ⟨h1, h2⟩
  · rw [h1]; simp [h2]
  · rw [h1]; simp [h2]
theorem pre_hash (l : List UInt8) : Lib.hasPrefix l [35] = hashB l := by
  unfold Lib.hasPrefix hashB
  cases l with
  | nil => rfl
  | cons a t => simp [List.isPrefixOf, Bool.beq_comm]
set_option maxHeartbeats 400000 in
theorem begins_no (w : World) :
    Calls Tryd.prog 62 #[.string ⟨#[]⟩] w fun e w' => e = .returned (.bool false) ∧ w = w' := by
  go_enter Tryd.func62, Tryd.ntmps62
  go_wp2
  go_ret
  exact ⟨rfl, rfl⟩
set_option maxHeartbeats 400000 in
theorem begins_yes (s : ByteArray) (c : UInt8) (t : List UInt8) (h : s.data.toList = c :: t) (hs : s.size ≤ maxLen) (w : World) :
    Calls Tryd.prog 62 #[.string s] w fun e w' => e = .returned (.bool (blankB c)) ∧ w = w' := by
  have hz : 1 ≤ s.size := by rw [Lib.size_eq, h]; simp
  have e1 : s.extract 0 1 = ⟨#[c]⟩ := by
    have := Lib.extract_data s 0 1
    rw [h] at this
    rw [← Lib.mk_data (s.extract 0 1), this]; rfl
  obtain ⟨n1, n2, n3⟩ := ne_of_cons h
  clear h
  unfold maxLen at hs
  go_enter Tryd.func62, Tryd.ntmps62
  go_wp2_with fail
  refine (Tryd.strings_Contains_one ⟨#[32, 9]⟩ c _).mono ?_
  rw [show (⟨#[32, 9]⟩ : ByteArray).data.toList = [32, 9] from rfl, ind_blank]
  rintro e w' ⟨rfl, rfl⟩
  go_wp2
  go_ret
  exact ⟨rfl, rfl⟩
theorem begins_any (s : ByteArray) (hs : s.size ≤ maxLen) (w : World) :
    Calls Tryd.prog 62 #[.string s] w fun e w' => e = .returned (.bool (beginsB s.data.toList)) ∧ w = w' := by
  cases h : s.data.toList with
  | nil => rw [empty_of h]; exact begins_no w
  | cons c t => exact begins_yes s c t h hs w
theorem has_any (s : ByteArray) (c : UInt8) (w : World) :
    Calls Tryd.prog 59 #[.string s, .string ⟨#[c]⟩] w fun e w' => e = .returned (.bool (hasB s.data.toList c)) ∧ w = w' := by
  refine (Tryd.strings_Contains_one s c _).mono ?_
  rw [ind_has]
  rintro e w' ⟨rfl, rfl⟩
  exact ⟨rfl, rfl⟩
theorem hash_any (s : ByteArray) (w : World) :
    Calls Tryd.prog 61 #[.string s, .string ⟨#[35]⟩] w fun e w' => e = .returned (.bool (hashB s.data.toList)) ∧ w = w' := by
  refine (Tryd.strings_HasPrefix s ⟨#[35]⟩ _).mono ?_
  rw [show (⟨#[35]⟩ : ByteArray).data.toList = [35] from rfl, pre_hash]
  rintro e w' ⟨rfl, rfl⟩
  exact ⟨rfl, rfl⟩
theorem trim_any (s : ByteArray) (hs : s.size ≤ 9223372036854775807) (w : World) :
    Calls Tryd.prog 60 #[.string s, .string ⟨#[32, 9]⟩] w fun e w' => e = .returned (.string ⟨(Lib.trimS s.data.toList [32, 9]).toArray⟩) ∧ Below w.heap.size w w' :=
  Any.strings_Trim_laid Tryd.lays160 (by kernel_rfl) s ⟨#[32, 9]⟩ w hs (by decide) (ascii_of_all (by decide))

set_option maxHeartbeats 1000000 in
theorem key_any (s : ByteArray) (hs : s.size ≤ maxLen) (w : World) :
    Calls Tryd.prog 63 #[.string s] w fun e w' => e = .returned (.bool (goodKey s.data.toList)) ∧ w = w' := by
  cases h : s.data.toList with
  | nil =>
    rw [empty_of h]
    go_enter Tryd.func63, Tryd.ntmps63
    go_wp2
    go_ret
    exact ⟨rfl, rfl⟩
  | cons c t =>
    rw [← h]
    obtain ⟨n1, n2, n3⟩ := ne_of_cons h
    clear h
    have n4 : 1 ≤ s.data.toList.length := by rw [← Lib.size_eq]; exact n3
    have n5 := Lib.size_eq s
    have g1 := begins_any s hs
    unfold maxLen at hs
    by_cases h1 : s.size ≤ 32
    · rw [n5] at h1
      have e1 : goodKey s.data.toList = (!beginsB s.data.toList && !hashB s.data.toList && !hasB s.data.toList 58 && !hasB s.data.toList 10) := by
        unfold goodKey; rw [decide_eq_true n4, decide_eq_true h1]; simp
      rw [e1]
      rw [← n5] at h1
      clear n5 n4 e1
      cases h2 : beginsB s.data.toList with
      | true =>
        go_enter Tryd.func63, Tryd.ntmps63
        go_wp2_with (go_at_call 62; refine (g1 _).mono ?_; rw [h2]; rintro e w1 ⟨rfl, rfl⟩)
        go_ret
        exact ⟨rfl, rfl⟩
      | false =>
        cases h3 : hashB s.data.toList with
        | true =>
          go_enter Tryd.func63, Tryd.ntmps63
          go_wp2_with (first | (go_at_call 62; refine (g1 _).mono ?_; rw [h2]; rintro e w1 ⟨rfl, rfl⟩) | (go_at_call 61; refine (hash_any _ _).mono ?_; rw [h3]; rintro e w1 ⟨rfl, rfl⟩))
          go_ret
          exact ⟨rfl, rfl⟩
        | false =>
          cases h4 : hasB s.data.toList 58 with
          | true =>
            go_enter Tryd.func63, Tryd.ntmps63
            go_wp2_with (first | (go_at_call 62; refine (g1 _).mono ?_; rw [h2]; rintro e w1 ⟨rfl, rfl⟩) | (go_at_call 61; refine (hash_any _ _).mono ?_; rw [h3]; rintro e w1 ⟨rfl, rfl⟩) | (go_at_call 59; refine (has_any _ _ _).mono ?_; rw [h4]; rintro e w1 ⟨rfl, rfl⟩))
            go_ret
            exact ⟨rfl, rfl⟩
          | false =>
            cases h5 : hasB s.data.toList 10
            all_goals
              go_enter Tryd.func63, Tryd.ntmps63
              go_wp2_with (first | (go_at_call 62; refine (g1 _).mono ?_; rw [h2]; rintro e w1 ⟨rfl, rfl⟩) | (go_at_call 61; refine (hash_any _ _).mono ?_; rw [h3]; rintro e w1 ⟨rfl, rfl⟩) | (go_at_call 59; refine (has_any _ _ _).mono ?_; (first | rw [h4] | rw [h5]); rintro e w1 ⟨rfl, rfl⟩))
              go_ret
              exact ⟨rfl, rfl⟩
    · have e1 : goodKey s.data.toList = false := by
        unfold goodKey; rw [← n5, decide_eq_false h1]; simp
      rw [e1]
      have h1' : 32 < s.size := by omega
      clear n5 n4 e1
      go_enter Tryd.func63, Tryd.ntmps63
      go_wp2
      go_ret
      exact ⟨rfl, rfl⟩
end Go.Proofs.YtngngamfceoklaaDoor
