/- Kind by definition; the laws of kinds and of keys. -/
import Derived.Test.YtngngamfceoklaaDoorFC
namespace Go.Proofs.YtngngamfceoklaaDoor
open Go.RowKit Go.Shelf

set_option maxHeartbeats 2000000 in
theorem refKind_else (s : ByteArray) (hs : s.size ≤ 4294967295) (w : World) (h1 : hasB s.data.toList 10 = false) :
    Calls Tryd.prog 31 #[.string s] w fun e w' => e = .returned (.int .i64 (kindL s.data.toList : Nat)) ∧ Below w.heap.size w w' := by
  have n5 := Lib.size_eq s
  have N5 := Lib.hid n5
  clear n5
  have H1 := Lib.hid h1
  clear h1
  go_enter Tryd.func31, Tryd.ntmps31
  go_wp2_with fail
  go_loop [3, 4] (fun b i => ∃ (k : Nat), k ≤ s.size ∧ i = .int .i64 k ∧ b = .bool (blankAll (s.data.toList.take k))) (fun _ i => s.size - (intOf i).toNat)
  case atStart => exact ⟨0, Nat.zero_le _, rfl, rfl⟩
  case round =>
    obtain ⟨k, hk, rfl, rfl⟩ := hrel
    by_cases hlt : k < s.size
    · have q2 := byte_eq (c := s[k]) (d := 10) 10 rfl
      have h5 : (s[k] == 10) = false := by
        cases h5 : (s[k] == 10) with
        | false => rfl
        | true =>
          exfalso
          have := has_yes s.data.toList 10 k (by rw [List.getElem?_eq_getElem (by rw [← Lib.size_eq]; exact hlt)]; exact congrArg some (eq_of_beq h5))
          rw [H1.out] at this; cases this
      rw [h5] at q2
      clear h5
      have HS := Lib.hid (blankTo_snoc s k hlt)
      generalize blankAll (s.data.toList.take k) = x at *
      cases x
      all_goals
        go_wp2_with (first | (go_at_call 48; refine (refBlank_any _ _).mono ?_; rintro e w1 ⟨rfl, rfl⟩))
        go_round
        case rel => exact ⟨k + 1, hlt, by go_num, by rw [HS.out]; rfl⟩
        case measure => simp [intOf]; omega
    · obtain rfl : k = s.size := by omega
      have ht : s.data.toList.take s.size = s.data.toList := by rw [Lib.size_eq]; exact List.take_length
      rw [ht]
      clear ht hlt hk
      cases h2 : blankAll s.data.toList with
      | true =>
        have hk : kindL s.data.toList = 1 := by unfold kindL; rw [H1.out, if_neg (by decide), if_pos h2]
        have HK := Lib.hid hk
        clear hk
        go_wp2
        go_ret
        exact ⟨by rw [HK.out]; rfl, Below.refl _ _⟩
      | false =>
        obtain ⟨c, t, hc⟩ := all_blank_cons h2
        have n3 : 1 ≤ s.size := by rw [N5.out, hc]; simp
        have g0 : s[0] = c := by
          have : s.data.toList[0]? = some c := by rw [hc]; rfl
          rw [List.getElem?_eq_getElem (by rw [← Lib.size_eq]; omega)] at this
          exact Option.some.inj this
        have eb : beginsB s.data.toList = blankB c := by rw [hc]; rfl
        have eh : hashB s.data.toList = (c == 35) := by rw [hc]; rfl
        clear hc
        have q1 := byte_eq (c := c) (d := 35) 35 rfl
        cases h3 : (c == 35) with
        | true =>
          have hk : kindL s.data.toList = 2 := by unfold kindL; rw [H1.out, if_neg (by decide), h2, if_neg (by decide), eh, if_pos h3]
          have HK := Lib.hid hk
          rw [h3] at q1
          clear hk h3 eb eh h2
          go_wp2
          go_ret
          exact ⟨by rw [HK.out]; rfl, Below.refl _ _⟩
        | false =>
          rw [h3] at q1
          cases h4 : blankB c with
          | true =>
            have hk : kindL s.data.toList = 3 := by unfold kindL; rw [H1.out, if_neg (by decide), h2, if_neg (by decide), eh, h3, if_neg (by decide), eb, if_pos h4]
            have HK := Lib.hid hk
            clear hk h3 eb eh h2
            go_wp2_with (first | (go_at_call 48; refine (refBlank_any _ _).mono ?_; rw [h4]; rintro e w1 ⟨rfl, rfl⟩))
            go_ret
            exact ⟨by rw [HK.out]; rfl, Below.refl _ _⟩
          | false =>
            have hk : kindL s.data.toList = if hasB s.data.toList 58 = true ∧ goodKey (before s.data.toList) = true then 4 else 5 := by
              unfold kindL; rw [H1.out, if_neg (by decide), h2, if_neg (by decide), eh, h3, if_neg (by decide), eb, h4, if_neg (by decide)]
            by_cases h6 : hasB s.data.toList 58 = true ∧ goodKey (before s.data.toList) = true
            · rw [if_pos h6] at hk
              have HK := Lib.hid hk
              have C := fun w => refCut_yes s hs w H1.out h6.1 h6.2
              clear hk h3 eb eh h2 h6
              go_wp2_with (first | (go_at_call 48; refine (refBlank_any _ _).mono ?_; rw [h4]; rintro e w1 ⟨rfl, rfl⟩) | (go_at_call 49; refine (C _).mono ?_; rintro e w1 ⟨rfl, b1⟩))
              go_ret
              exact ⟨by rw [HK.out]; rfl, b1⟩
            · rw [if_neg h6] at hk
              have HK := Lib.hid hk
              have h7 : hasB s.data.toList 58 = false ∨ goodKey (before s.data.toList) = false := by
                cases a : hasB s.data.toList 58
                · exact .inl rfl
                · cases b : goodKey (before s.data.toList)
                  · exact .inr rfl
                  · exact absurd ⟨a, b⟩ h6
              have C := fun w => refCut_no s hs w (.inr h7)
              clear hk h3 eb eh h2 h6 h7
              go_wp2_with (first | (go_at_call 48; refine (refBlank_any _ _).mono ?_; rw [h4]; rintro e w1 ⟨rfl, rfl⟩) | (go_at_call 49; refine (C _).mono ?_; rintro e w1 ⟨rfl, b1⟩))
              go_ret
              exact ⟨by rw [HK.out]; rfl, b1⟩
theorem refKind_any (s : ByteArray) (hs : s.size ≤ 4294967295) (w : World) :
    Calls Tryd.prog 31 #[.string s] w fun e w' => e = .returned (.int .i64 (kindL s.data.toList : Nat)) ∧ Below w.heap.size w w' := by
  cases h1 : hasB s.data.toList 10 with
  | true =>
    have hk : kindL s.data.toList = 5 := by unfold kindL; rw [if_pos h1]
    rw [hk]
    exact refKind_nl s hs w h1
  | false => exact refKind_else s hs w h1

theorem kind4 {l : List UInt8} (h : kindL l = 4) : hasB l 10 = false ∧ hasB l 58 = true ∧ goodKey (before l) = true := by
  unfold kindL at h
  split at h; · cases h
  rename_i h10
  split at h; · cases h
  split at h; · cases h
  split at h; · cases h
  split at h
  · rename_i q; exact ⟨by simpa using h10, q.1, q.2⟩
  · cases h
theorem pre_post (s : ByteArray) (h : hasB s.data.toList 58 = true) : (preS s ++ ⟨#[58]⟩) ++ postS s = s := by
  obtain ⟨b1, b2⟩ := before_lt _ h
  have e1 : ((preS s ++ ⟨#[58]⟩) ++ postS s).data.toList = s.data.toList := by
    rw [ByteArray.data_append, ByteArray.data_append, Array.toList_append, Array.toList_append, preS_data]
    have e2 : (postS s).data.toList = s.data.toList.drop ((before s.data.toList).length + 1) := by
      unfold postS
      exact Lib.extract_to_end s _
    rw [e2]
    show (before s.data.toList ++ [58]) ++ _ = _
    have e3 : before s.data.toList = s.data.toList.take (before s.data.toList).length := List.prefix_iff_eq_take.1 (List.takeWhile_prefix _)
    have hlt : (before s.data.toList).length < s.data.toList.length := by
      rcases Nat.lt_or_ge (before s.data.toList).length s.data.toList.length with q | q
      · exact q
      · rw [List.getElem?_eq_none q] at b1; cases b1
    generalize before s.data.toList = b at *
    generalize b.length = n at *
    rw [e3]
    have e4 : s.data.toList = s.data.toList.take n ++ s.data.toList.drop n := (List.take_append_drop n _).symm
    conv => rhs; rw [e4, List.drop_eq_getElem_cons hlt]
    have e5 : s.data.toList[n] = 58 := by
      rw [List.getElem?_eq_getElem hlt] at b1; exact Option.some.inj b1
    rw [e5]; simp
  rw [← Lib.mk_data ((preS s ++ ⟨#[58]⟩) ++ postS s), e1, Lib.mk_data]
end Go.Proofs.YtngngamfceoklaaDoor
