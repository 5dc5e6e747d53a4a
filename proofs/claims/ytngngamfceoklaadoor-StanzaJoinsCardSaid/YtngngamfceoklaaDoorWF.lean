/- Kind and Cut. -/
import Derived.Test.YtngngamfceoklaaDoorWE
namespace Go.Proofs.YtngngamfceoklaaDoor
open Go.RowKit Go.Shelf

theorem Below.drewN {B : Nat} {a w : World} (h : Below B a w) (n : Nat) : Below B a (w.drewN n) := ⟨h.os, h.tape, h.output, h.size, h.block⟩
def trimmed (s : ByteArray) : ByteArray := ⟨(Lib.trimS s.data.toList [32, 9]).toArray⟩
def preS (s : ByteArray) : ByteArray := s.extract 0 (before s.data.toList).length
def postS (s : ByteArray) : ByteArray := s.extract ((before s.data.toList).length + 1) s.size

theorem blank_contains (c : UInt8) : ([32, 9] : List UInt8).contains c = blankB c := by
  unfold blankB
  by_cases h1 : c = 32
  · subst h1; rfl
  · by_cases h2 : c = 9
    · subst h2; rfl
    · simp [h1, h2]
theorem dropWhile_nil {p : UInt8 → Bool} : ∀ {l : List UInt8}, l.dropWhile p = [] ↔ l.all p = true
  | [] => by simp
  | a :: l => by
    rw [List.dropWhile_cons]
    cases h : p a <;> simp [h, dropWhile_nil]
theorem trim_nil (l : List UInt8) : Lib.trimS l [32, 9] = [] ↔ blankAll l = true := by
  have e : (fun c => ([32, 9] : List UInt8).contains c) = blankB := funext blank_contains
  unfold Lib.trimS Lib.trimLeftS Lib.trimRightS blankAll
  rw [e, dropWhile_nil, List.all_reverse]
  constructor
  · intro h
    have h2 : (l.reverse.takeWhile blankB ++ l.reverse.dropWhile blankB).all blankB = true := by rw [List.all_append, h, List.all_takeWhile]; rfl
    rw [List.takeWhile_append_dropWhile, List.all_reverse] at h2
    exact h2
  · intro h
    have : l.reverse.dropWhile blankB = [] := dropWhile_nil.2 (by rw [List.all_reverse]; exact h)
    rw [this]; rfl
theorem trim_yes (s : ByteArray) (hs : s.size ≤ 9223372036854775807) (h : blankAll s.data.toList = true) (w : World) :
    Calls Tryd.prog 60 #[.string s, .string ⟨#[32, 9]⟩] w fun e w' => e = .returned (.string ⟨#[]⟩) ∧ Below w.heap.size w w' := by
  have := trim_any s hs w
  rwa [(trim_nil _).2 h] at this
theorem trim_no (s : ByteArray) (hs : s.size ≤ 9223372036854775807) (w : World) :
    Calls Tryd.prog 60 #[.string s, .string ⟨#[32, 9]⟩] w fun e w' => e = .returned (.string (trimmed s)) ∧ Below w.heap.size w w' := trim_any s hs w
theorem trimmed_ne (s : ByteArray) (h : blankAll s.data.toList = false) : (trimmed s).toList.isEmpty = false ∧ ¬ (trimmed s).toList = [] := by
  have : Lib.trimS s.data.toList [32, 9] ≠ [] := fun e => by rw [(trim_nil _).1 e] at h; cases h
  have e : (trimmed s).toList = Lib.trimS s.data.toList [32, 9] := by rw [Lib.toList_data]; rfl
  rw [e]
  exact ⟨by simpa using this, this⟩
theorem preS_data (s : ByteArray) : (preS s).data.toList = before s.data.toList := by
  unfold preS
  rw [Lib.extract_data, List.drop_zero, Nat.sub_zero]
  exact (List.prefix_iff_eq_take.1 (List.takeWhile_prefix _)).symm
theorem preS_size (s : ByteArray) : (preS s).size ≤ s.size := by
  rw [Lib.size_eq, preS_data, Lib.size_eq]
  exact (List.takeWhile_prefix _).length_le
theorem colon_yes (s : ByteArray) (w : World) (hs : s.size ≤ maxLen) (h : hasB s.data.toList 58 = true) :
    Calls Tryd.prog 57 #[.string s, .string ⟨#[58]⟩] w fun e w' => e = .returned (.tuple #[.string (preS s), .string (postS s), .bool true]) ∧ ∃ n, w' = w.drewN n :=
  cut_yes s 58 w hs (by unfold hasB at h; simpa using h)
theorem colon_no (s : ByteArray) (w : World) (h : hasB s.data.toList 58 = false) :
    Calls Tryd.prog 57 #[.string s, .string ⟨#[58]⟩] w fun e w' => e = .returned (.tuple #[.string s, .string ⟨#[]⟩, .bool false]) ∧ ∃ n, w' = w.drewN n :=
  cut_no s 58 w (by unfold hasB at h; simpa using h)
theorem keyPre_any (s : ByteArray) (hs : s.size ≤ maxLen) (w : World) :
    Calls Tryd.prog 63 #[.string (preS s)] w fun e w' => e = .returned (.bool (goodKey (before s.data.toList))) ∧ w = w' := by
  have := key_any (preS s) (Nat.le_trans (preS_size s) hs) w
  rwa [preS_data] at this

set_option maxHeartbeats 1000000 in
theorem kind_any (s : ByteArray) (hs : s.size ≤ maxLen) (w : World) :
    Calls Tryd.prog 41 #[.string s] w fun e w' => e = .returned (.int .i64 (kindL s.data.toList : Nat)) ∧ Below w.heap.size w w' := by
  have hs2 : s.size ≤ 9223372036854775807 := by unfold maxLen at hs; omega
  cases h1 : hasB s.data.toList 10 with
  | true =>
    have hk : kindL s.data.toList = 5 := by unfold kindL; rw [if_pos h1]
    rw [hk]; clear hk
    go_enter Tryd.func41, Tryd.ntmps41
    go_wp2_with (first | (go_at_call 59; refine (has_any _ _ _).mono ?_; rw [h1]; rintro e w1 ⟨rfl, rfl⟩))
    go_ret
    exact ⟨rfl, Below.refl _ _⟩
  | false =>
    cases h2 : blankAll s.data.toList with
    | true =>
      have hk : kindL s.data.toList = 1 := by unfold kindL; rw [h1, if_neg (by decide), if_pos h2]
      rw [hk]; clear hk
      go_enter Tryd.func41, Tryd.ntmps41
      go_wp2_with (first | (go_at_call 59; refine (has_any _ _ _).mono ?_; rw [h1]; rintro e w1 ⟨rfl, rfl⟩) | (go_at_call 60; refine (trim_yes s hs2 h2 _).mono ?_; rintro e w1 ⟨rfl, b1⟩))
      go_ret
      exact ⟨rfl, b1⟩
    | false =>
      obtain ⟨t1, t2⟩ := trimmed_ne s h2
      have B1 := begins_any s hs
      cases h3 : hashB s.data.toList with
      | true =>
        have hk : kindL s.data.toList = 2 := by unfold kindL; rw [h1, if_neg (by decide), h2, if_neg (by decide), if_pos h3]
        rw [hk]; clear hk
        go_enter Tryd.func41, Tryd.ntmps41
        go_wp2_with (first | (go_at_call 59; refine (has_any _ _ _).mono ?_; rw [h1]; rintro e w1 ⟨rfl, rfl⟩) | (go_at_call 60; refine (trim_no s hs2 _).mono ?_; rintro e w1 ⟨rfl, b1⟩) | (go_at_call 61; refine (hash_any _ _).mono ?_; rw [h3]; rintro e w2 ⟨rfl, rfl⟩))
        go_ret
        exact ⟨rfl, b1⟩
      | false =>
        cases h4 : beginsB s.data.toList with
        | true =>
          have hk : kindL s.data.toList = 3 := by unfold kindL; rw [h1, if_neg (by decide), h2, if_neg (by decide), h3, if_neg (by decide), if_pos h4]
          rw [hk]; clear hk
          go_enter Tryd.func41, Tryd.ntmps41
          go_wp2_with (first | (go_at_call 59; refine (has_any _ _ _).mono ?_; rw [h1]; rintro e w1 ⟨rfl, rfl⟩) | (go_at_call 60; refine (trim_no s hs2 _).mono ?_; rintro e w1 ⟨rfl, b1⟩) | (go_at_call 61; refine (hash_any _ _).mono ?_; rw [h3]; rintro e w2 ⟨rfl, rfl⟩) | (go_at_call 62; refine (B1 _).mono ?_; rw [h4]; rintro e w2 ⟨rfl, rfl⟩))
          go_ret
          exact ⟨rfl, b1⟩
        | false =>
          cases h5 : hasB s.data.toList 58 with
          | false =>
            have hk : kindL s.data.toList = 5 := by unfold kindL; rw [h1, if_neg (by decide), h2, if_neg (by decide), h3, if_neg (by decide), h4, if_neg (by decide), if_neg (by rw [h5]; simp)]
            rw [hk]; clear hk
            have C := fun w => colon_no s w h5
            go_enter Tryd.func41, Tryd.ntmps41
            go_wp2_with (first | (go_at_call 59; refine (has_any _ _ _).mono ?_; rw [h1]; rintro e w1 ⟨rfl, rfl⟩) | (go_at_call 60; refine (trim_no s hs2 _).mono ?_; rintro e w1 ⟨rfl, b1⟩) | (go_at_call 61; refine (hash_any _ _).mono ?_; rw [h3]; rintro e w2 ⟨rfl, rfl⟩) | (go_at_call 62; refine (B1 _).mono ?_; rw [h4]; rintro e w2 ⟨rfl, rfl⟩) | (go_at_call 57; refine (C _).mono ?_; rintro e w2 ⟨rfl, n, rfl⟩))
            go_ret
            exact ⟨rfl, Below.drewN b1 n⟩
          | true =>
            have C := fun w => colon_yes s w hs h5
            have K := keyPre_any s hs
            have hk : kindL s.data.toList = if goodKey (before s.data.toList) = true then 4 else 5 := by
              unfold kindL; rw [h1, if_neg (by decide), h2, if_neg (by decide), h3, if_neg (by decide), h4, if_neg (by decide), h5]; simp
            cases h6 : goodKey (before s.data.toList)
            all_goals
              rw [h6] at hk
              rw [hk]; clear hk
              go_enter Tryd.func41, Tryd.ntmps41
              go_wp2_with (first | (go_at_call 59; refine (has_any _ _ _).mono ?_; rw [h1]; rintro e w1 ⟨rfl, rfl⟩) | (go_at_call 60; refine (trim_no s hs2 _).mono ?_; rintro e w1 ⟨rfl, b1⟩) | (go_at_call 61; refine (hash_any _ _).mono ?_; rw [h3]; rintro e w2 ⟨rfl, rfl⟩) | (go_at_call 62; refine (B1 _).mono ?_; rw [h4]; rintro e w2 ⟨rfl, rfl⟩) | (go_at_call 57; refine (C _).mono ?_; rintro e w2 ⟨rfl, n, rfl⟩) | (go_at_call 63; refine (K _).mono ?_; rw [h6]; rintro e w3 ⟨rfl, rfl⟩))
              go_ret
              exact ⟨rfl, Below.drewN b1 n⟩
end Go.Proofs.YtngngamfceoklaaDoor
