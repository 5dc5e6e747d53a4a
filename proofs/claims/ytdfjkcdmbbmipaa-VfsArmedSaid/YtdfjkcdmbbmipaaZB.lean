/- The reference: names; what is asked of an empty disk. -/
import Derived.Test.YtdfjkcdmbbmipaaZA
import Derived.Test.YtdfjkcdmbbmipaaYI
namespace Go.Proofs.Ytdfjkcdmbbmipaa
open Go.RowKit Go.Maps

set_option maxRecDepth 100000 in
set_option maxHeartbeats 2000000 in
theorem refgood (s : ByteArray) (hs : s.size ≤ 1000) (w : World) : Calls Try.prog 67 #[.string s] w fun e w' => e = .returned (.bool (goodB s)) ∧ w = w' := by
  by_cases hlen : 1 ≤ s.size ∧ s.size ≤ 20
  · obtain ⟨h1, h2⟩ := hlen
    have d1 : decide ((s.size : Int) < 1) = false := decide_eq_false (by omega)
    have d2 : decide (20 < (s.size : Int)) = false := decide_eq_false (by omega)
    have hg : goodB s = s.data.toList.all goodC := by unfold goodB; simp [h1, h2]
    rw [hg]
    clear hg
    generalize hB0 : s.data.toList.all goodC = B
    have HB := Lib.hid hB0
    clear hB0
    go_enter Try.func67, Try.ntmps67
    go_wp2
    go_loopw [3] (fun i wr => ∃ k : Nat, k ≤ s.size ∧ i = .int .i64 k ∧ wr = w ∧ ∀ c ∈ s.data.toList.take k, goodC c = true) (fun i _ => s.size - (intOf i).toNat)
    case atStart => exact ⟨0, Nat.zero_le _, rfl, rfl, by simp⟩
    case round =>
      obtain ⟨k, hk, rfl, rfl, hpre⟩ := hrel
      by_cases hlt : k < s.size
      · have hl' : k < s.data.toList.length := by rw [← Lib.size_eq]; exact hlt
        have HP := Lib.hid hpre
        clear hpre
        have hx : s.data.toList[k] = s[k] := rfl
        have hgd : goodC s[k] = true ↔ (97 ≤ s[k].toNat ∧ s[k].toNat ≤ 122) ∨ (48 ≤ s[k].toNat ∧ s[k].toNat ≤ 57) ∨ s[k].toNat = 46 := by
          unfold goodC; simp [or_assoc]
        have HX := Lib.hid hx
        clear hx
        by_cases hgc : goodC s[k] = true
        · have HN : Hid (∀ c ∈ s.data.toList.take (k + 1), goodC c = true) := fun c hc => by
            rw [List.take_succ_eq_append_getElem hl'] at hc
            rcases List.mem_append.1 hc with h | h
            · exact HP.out c h
            · rw [List.mem_singleton.1 h, HX.out]; exact hgc
          have hin := hgd.1 hgc
          clear hgc hgd HP HX
          by_cases a1 : 97 ≤ s[k].toNat
          all_goals by_cases a2 : s[k].toNat ≤ 122
          all_goals by_cases a3 : 48 ≤ s[k].toNat
          all_goals by_cases a4 : s[k].toNat ≤ 57
          all_goals by_cases a5 : s[k].toNat = 46
          all_goals try omega
          all_goals clear hin
          all_goals
            go_wp2
            go_roundw
            case rel => exact ⟨k + 1, by omega, by go_num, trivial, HN.out⟩
            case measure => simp [intOf]; omega
        · have hin : ¬ ((97 ≤ s[k].toNat ∧ s[k].toNat ≤ 122) ∨ (48 ≤ s[k].toNat ∧ s[k].toNat ≤ 57) ∨ s[k].toNat = 46) := fun h => hgc (hgd.2 h)
          have hall : s.data.toList.all goodC = false := by
            rw [List.all_eq_false]
            exact ⟨_, List.getElem_mem hl', by rw [HX.out]; exact hgc⟩
          obtain rfl : B = false := HB.out.symm.trans hall
          clear hgc hgd HP HX hall HB
          by_cases a1 : 97 ≤ s[k].toNat
          all_goals by_cases a2 : s[k].toNat ≤ 122
          all_goals by_cases a3 : 48 ≤ s[k].toNat
          all_goals by_cases a4 : s[k].toNat ≤ 57
          all_goals by_cases a5 : s[k].toNat = 46
          all_goals try omega
          all_goals clear hin
          all_goals go_wp2
          all_goals first | (exfalso; rename_i h; simp at h; omega) | (go_ret; exact ⟨rfl, rfl⟩)
      · obtain rfl : k = s.size := by omega
        have hall : s.data.toList.all goodC = true := by
          rw [List.all_eq_true]
          intro c hc
          exact hpre c (by rw [List.take_of_length_le (by rw [← Lib.size_eq]; exact Nat.le_refl _)]; exact hc)
        obtain rfl : B = true := HB.out.symm.trans hall
        clear hpre hall HB
        go_wp2
        go_ret
        exact ⟨rfl, rfl⟩
  · have hg : goodB s = false := by unfold goodB; simp; omega
    rw [hg]
    rcases (show s.size < 1 ∨ (1 ≤ s.size ∧ 20 < s.size) by omega) with h | ⟨h, h2⟩
    · have d1 : decide ((s.size : Int) < 1) = true := decide_eq_true (by omega)
      go_enter Try.func67, Try.ntmps67
      go_wp2
      go_ret
      exact ⟨rfl, rfl⟩
    · have d1 : decide ((s.size : Int) < 1) = false := decide_eq_false (by omega)
      have d2 : decide (20 < (s.size : Int)) = true := decide_eq_true (by omega)
      go_enter Try.func67, Try.ntmps67
      go_wp2
      go_ret
      exact ⟨rfl, rfl⟩
end Go.Proofs.Ytdfjkcdmbbmipaa
