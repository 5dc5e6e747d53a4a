/- The answers by definition: blank, Key, Cut, Kind. -/
import Derived.Test.YtngngamfceoklaaDoorFA
namespace Go.Proofs.YtngngamfceoklaaDoor
open Go.RowKit Go.Shelf

theorem refBlank_any (c : UInt8) (w : World) :
    Calls Tryd.prog 48 #[.int .u8 (c.toNat : Nat)] w fun e w' => e = .returned (.bool (blankB c)) ∧ w = w' := by
  have hb := c.toNat_lt
  by_cases h1 : c = 32
  · subst h1
    go_enter Tryd.func48, Tryd.ntmps48
    go_wp2
    go_ret
    exact ⟨rfl, rfl⟩
  · have e1 : ((c.toNat : Int) == 32) = false := by
      rw [beq_eq_false_iff_ne]; intro e; apply h1; apply UInt8.toNat_inj.1; have : (32 : UInt8).toNat = 32 := rfl; omega
    have e3 : blankB c = ((c.toNat : Int) == 9) := by
      unfold blankB
      by_cases h2 : c = 9
      · subst h2; rfl
      · have : ((c.toNat : Int) == 9) = false := by
          rw [beq_eq_false_iff_ne]; intro e; apply h2; apply UInt8.toNat_inj.1; have : (9 : UInt8).toNat = 9 := rfl; omega
        rw [this]; simp [h1, h2]
    rw [e3]
    clear e3
    go_enter Tryd.func48, Tryd.ntmps48
    go_wp2
    go_ret
    exact ⟨rfl, rfl⟩
/-- A byte's test in the walk's spelling. -/
theorem byte_eq {c d : UInt8} (n : Int) (hn : (d.toNat : Int) = n) : ((c.toNat : Int) == n) = (c == d) := by
  by_cases h : c = d
  · subst h; simp [hn]
  · have : (c.toNat : Int) ≠ n := by intro e; apply h; apply UInt8.toNat_inj.1; omega
    rw [beq_eq_false_iff_ne.2 this]; simp [h]
theorem has_no (l : List UInt8) (c : UInt8) (k : Nat) (h : ∀ i, i < k → l[i]? ≠ some c) (hk : l.length ≤ k) : hasB l c = false := by
  unfold hasB
  cases hc : l.contains c with
  | false => rfl
  | true =>
    exfalso
    have hm : c ∈ l := by simpa using hc
    obtain ⟨i, hi, e⟩ := List.mem_iff_getElem.1 hm
    exact h i (by omega) (by rw [List.getElem?_eq_getElem hi, e])
theorem has_yes (l : List UInt8) (c : UInt8) (i : Nat) (h : l[i]? = some c) : hasB l c = true := by
  unfold hasB
  have : c ∈ l := List.mem_of_getElem? h
  simpa using this

set_option maxHeartbeats 1000000 in
theorem refKey_any (s : ByteArray) (hs : s.size ≤ 4294967295) (w : World) :
    Calls Tryd.prog 66 #[.string s] w fun e w' => e = .returned (.bool (goodKey s.data.toList)) ∧ w = w' := by
  cases h : s.data.toList with
  | nil =>
    rw [empty_of h]
    go_enter Tryd.func66, Tryd.ntmps66
    go_wp2
    go_ret
    exact ⟨rfl, rfl⟩
  | cons c t =>
    have n3 : 1 ≤ s.size := by rw [Lib.size_eq, h]; simp
    have g0 : s[0] = c := by
      have : s.data.toList[0]? = some c := by rw [h]; rfl
      rw [List.getElem?_eq_getElem (by rw [← Lib.size_eq]; omega)] at this
      exact Option.some.inj this
    have eb : beginsB s.data.toList = blankB c := by rw [h]; rfl
    have eh : hashB s.data.toList = (c == 35) := by rw [h]; rfl
    rw [← h]
    clear h
    have n4 : 1 ≤ s.data.toList.length := by rw [← Lib.size_eq]; exact n3
    have n5 := Lib.size_eq s
    by_cases h1 : s.size ≤ 32
    · have h1' := h1
      rw [n5] at h1'
      have e1 : goodKey s.data.toList = (!blankB c && !(c == 35) && !hasB s.data.toList 58 && !hasB s.data.toList 10) := by
        unfold goodKey; rw [decide_eq_true n4, decide_eq_true h1', eb, eh]; simp
      rw [e1]
      clear e1 eb eh h1' n4
      cases h2 : blankB c with
      | true =>
        clear n5
        go_enter Tryd.func66, Tryd.ntmps66
        go_wp2_with (first | (go_at_call 48; refine (refBlank_any _ _).mono ?_; rw [h2]; rintro e w1 ⟨rfl, rfl⟩))
        go_ret
        exact ⟨rfl, rfl⟩
      | false =>
        have hq := byte_eq (c := c) (d := 35) 35 rfl
        cases h3 : (c == 35) with
        | true =>
          rw [h3] at hq
          clear n5
          go_enter Tryd.func66, Tryd.ntmps66
          go_wp2_with (first | (go_at_call 48; refine (refBlank_any _ _).mono ?_; rw [h2]; rintro e w1 ⟨rfl, rfl⟩))
          go_ret
          exact ⟨rfl, rfl⟩
        | false =>
          rw [h3] at hq
          have N5 := Lib.hid n5
          clear n5
          go_enter Tryd.func66, Tryd.ntmps66
          go_wp2_with (first | (go_at_call 48; refine (refBlank_any _ _).mono ?_; rw [h2]; rintro e w1 ⟨rfl, rfl⟩))
          clear hq g0
          go_loop [3] (fun i => ∃ k : Nat, k ≤ s.size ∧ i = .int .i64 k ∧ ∀ j, j < k → s.data.toList[j]? ≠ some 58 ∧ s.data.toList[j]? ≠ some 10) (fun i => s.size - (intOf i).toNat)
          case atStart => exact ⟨0, Nat.zero_le _, rfl, fun j hj => absurd hj (Nat.not_lt_zero j)⟩
          case round =>
            obtain ⟨k, hk, rfl, hno⟩ := hrel
            by_cases hlt : k < s.size
            · have e : s.data.toList[k]? = some s[k] := by
                rw [List.getElem?_eq_getElem (by rw [← Lib.size_eq]; exact hlt)]; rfl
              have E := Lib.hid e
              have NO := Lib.hid hno
              clear e hno
              have q1 := byte_eq (c := s[k]) (d := 58) 58 rfl
              have q2 := byte_eq (c := s[k]) (d := 10) 10 rfl
              cases h4 : (s[k] == 58) with
              | true =>
                rw [h4] at q1
                have h5 : hasB s.data.toList 58 = true := has_yes _ _ k (by rw [E.out]; simpa using h4)
                have H5 := Lib.hid h5
                clear q2 h5
                go_wp2
                go_ret
                exact ⟨by rw [H5.out]; rfl, rfl⟩
              | false =>
                rw [h4] at q1
                cases h5 : (s[k] == 10) with
                | true =>
                  rw [h5] at q2
                  have h6 : hasB s.data.toList 10 = true := has_yes _ _ k (by rw [E.out]; simpa using h5)
                  have H7 := Lib.hid h6
                  clear h6
                  go_wp2
                  go_ret
                  exact ⟨by rw [H7.out, Bool.not_true, Bool.and_false]; rfl, rfl⟩
                | false =>
                  rw [h5] at q2
                  go_wp2
                  go_round
                  case rel =>
                    refine ⟨k + 1, hlt, by go_num, fun j hj => ?_⟩
                    by_cases hjk : j = k
                    · subst hjk; rw [E.out]; exact ⟨by simpa using h4, by simpa using h5⟩
                    · exact NO.out j (by omega)
                  case measure => simp [intOf]; omega
            · have h58 := has_no s.data.toList 58 k (fun i hi => (hno i hi).1) (by rw [← N5.out]; omega)
              have h10 := has_no s.data.toList 10 k (fun i hi => (hno i hi).2) (by rw [← N5.out]; omega)
              have H58 := Lib.hid h58
              have H10 := Lib.hid h10
              clear hno h58 h10
              go_wp2
              go_ret
              exact ⟨by rw [H58.out, H10.out]; rfl, rfl⟩
    · have e1 : goodKey s.data.toList = false := by
        unfold goodKey; rw [← n5, decide_eq_false h1]; simp
      rw [e1]
      have h1' : 32 < s.size := by omega
      clear n5 n4 e1 eb eh
      go_enter Tryd.func66, Tryd.ntmps66
      go_wp2
      go_ret
      exact ⟨rfl, rfl⟩
end Go.Proofs.YtngngamfceoklaaDoor
