/- Texts put together: DP. -/
import Derived.Test.YtbkeoiefolkjfaaGreatDoorBxa7
set_option linter.unusedVariables false
set_option maxRecDepth 100000
set_option maxHeartbeats 16000000
namespace Go.Proofs.YtbkeoiefolkjfaaGreatDoor.Fr
open Go.RowKit Go.Shelf
attribute [local go_sem] Oper.semAt_some
theorem takeWhile_len {p : UInt8 -> Bool} {l : List UInt8} {k : Nat} (hk : k <= l.length) (h1 : (l.take k).all p = true) (h2 : k = l.length \/ ∃ c, l[k]? = some c /\ p c = false) : (l.takeWhile p).length = k := by
 have e : l = l.take k ++ l.drop k := (List.take_append_drop k l).symm
 rw [e, List.takeWhile_append_of_pos (fun x hx => List.all_eq_true.1 h1 x hx)]
 have hd : (l.drop k).takeWhile p = [] := by
  rcases h2 with h | ⟨c, hc, hp⟩
  ·rw [List.drop_of_length_le (by omega)]; rfl
  obtain ⟨hlt, hc⟩ := List.getElem?_eq_some_iff.1 hc
  rw [List.drop_eq_getElem_cons hlt, List.takeWhile_cons, hc, hp]; rfl
 rw [hd, List.append_nil, List.length_take]; omega
theorem all_snoc {p : UInt8 -> Bool} {s : ByteArray} {k : Nat} (h : k < s.size) (h1 : (s.data.toList.take k).all p = true) (h2 : p s[k] = true) : (s.data.toList.take (k + 1)).all p = true := by
 rw [Sm.take_snoc s k h, List.all_append, h1]
 simp [h2]
theorem at_some {s : ByteArray} {k : Nat} (h : k < s.size) : s.data.toList[k]? = some s[k] := by
 rw [List.getElem?_eq_getElem (by rw [<- Lib.size_eq]; exact h)]; rfl
theorem decimal_any (s : ByteArray) (hs : s.size <= 1000000) (w : World) :
  Calls Tryz.prog 72 #[.string s] w fun e w' => e = .returned (.int .i64 ((s.data.toList.takeWhile dgB).length : Int)) /\ w' = w := by
 go_enter Tryz.func72, Tryz.ntmps72
 go_wp2_with fail
 go_loop [3] (fun i => ∃ k : Nat, k <= s.size /\ i = .int .i64 k /\ (s.data.toList.take k).all dgB = true) (fun i => s.size - (intOf i).toNat)
 case atStart => exact ⟨0, Nat.zero_le _, rfl, rfl⟩
 case round =>
 obtain ⟨k, hk, rfl, ha⟩ := hrel
 by_cases hlt : k < s.size
 ·have hd : dgB s[k] = (decide (48 <= s[k].toNat) && decide (s[k].toNat <= 57)) := rfl
  by_cases h1 : 48 <= s[k].toNat
  ·have q1 : (48 : Int) <= (s[k].toNat : Int) := by omega
   by_cases h2 : s[k].toNat <= 57
   ·have q2 : (s[k].toNat : Int) <= 57 := by omega
    have HN := Lib.hid (all_snoc hlt ha (by rw [hd]; simp [h1, h2]))
    clear ha hd
    go_wp2_with fail
    go_round
    case rel => exact ⟨k + 1, by omega, by go_num, HN.out⟩
    case measure => simp [intOf]; omega
   have q2 : ¬ (s[k].toNat : Int) <= 57 := by omega
   have HN := Lib.hid (takeWhile_len (p := dgB) (by rw [<- Lib.size_eq]; omega) ha (.inr ⟨_, at_some hlt, by rw [hd]; simp [h2]⟩))
   clear ha hd
   go_wp2_with fail
   go_ret
   exact ⟨by rw [HN.out]; rfl, rfl⟩
  have q1 : ¬ (48 : Int) <= (s[k].toNat : Int) := by omega
  have HN := Lib.hid (takeWhile_len (p := dgB) (by rw [<- Lib.size_eq]; omega) ha (.inr ⟨_, at_some hlt, by rw [hd]; simp [h1]⟩))
  clear ha hd
  go_wp2_with fail
  go_ret
  exact ⟨by rw [HN.out]; rfl, rfl⟩
 obtain rfl : k = s.size := by omega
 have HN := Lib.hid (takeWhile_len (p := dgB) (by rw [<- Lib.size_eq]; omega) ha (.inl (Lib.size_eq s)))
 clear ha
 go_wp2_with fail
 go_ret
 exact ⟨by rw [HN.out]; rfl, rfl⟩
theorem hexB_of (c : UInt8) : hexB c = (decide (48 <= c.toNat /\ c.toNat <= 57) || decide (97 <= c.toNat /\ c.toNat <= 102)) := by
 unfold hexB Sm.val
 by_cases h : 48 <= c.toNat /\ c.toNat <= 57
 ·rw [if_pos h]; simp [h]
 rw [if_neg h]
 by_cases h2 : 97 <= c.toNat /\ c.toNat <= 102
 ·rw [if_pos h2]; simp [h2]
 rw [if_neg h2]; simp [h, h2]
theorem hx_len {s : ByteArray} {k : Nat} (h8 : k <= 8) (hk : k <= s.size) (h1 : (s.data.toList.take k).all hexB = true) (h2 : k = s.size \/ k = 8 \/ ∃ h : k < s.size, hexB s[k] = false) : hx s.data.toList = k := by
 unfold hx
 have e := Lib.size_eq s
 refine takeWhile_len (by simp; omega) (by rw [List.take_take, Nat.min_eq_left h8]; exact h1) ?_
 rcases h2 with h | h | ⟨h, hc⟩
 ·exact .inl (by simp; omega)
 ·exact .inl (by simp; omega)
 by_cases hk8 : k = 8
 ·exact .inl (by simp; omega)
 exact .inr ⟨_, by rw [List.getElem?_take, if_pos (by omega)]; exact at_some h, hc⟩
theorem hex_any (s : ByteArray) (hs : s.size <= 1000000) (w : World) :
  Calls Tryz.prog 73 #[.string s] w fun e w' => e = .returned (.int .i64 (hx s.data.toList : Int)) /\ w' = w := by
 go_enter Tryz.func73, Tryz.ntmps73
 go_wp2_with fail
 go_loop [3] (fun i => ∃ k : Nat, k <= s.size /\ k <= 8 /\ i = .int .i64 k /\ (s.data.toList.take k).all hexB = true) (fun i => s.size - (intOf i).toNat)
 case atStart => exact ⟨0, Nat.zero_le _, Nat.zero_le _, rfl, rfl⟩
 case round =>
 obtain ⟨k, hk, hk8, rfl, ha⟩ := hrel
 by_cases hlt : k < s.size
 ·by_cases h8 : k < 8
  ·have q8 : (k : Int) < 8 := by omega
   have hh := hexB_of s[k]
   by_cases h1 : 48 <= s[k].toNat
   ·have q1 : (48 : Int) <= (s[k].toNat : Int) := by omega
    by_cases h2 : s[k].toNat <= 57
    ·have q2 : (s[k].toNat : Int) <= 57 := by omega
     have HN := Lib.hid (all_snoc (p := hexB) hlt ha (by rw [hh]; simp [h1, h2]))
     clear ha hh
     go_wp2_with fail
     go_round
     case rel => exact ⟨k + 1, by omega, by omega, by go_num, HN.out⟩
     case measure => simp [intOf]; omega
    have q2 : ¬ (s[k].toNat : Int) <= 57 := by omega
    by_cases h3 : 97 <= s[k].toNat
    ·have q3 : (97 : Int) <= (s[k].toNat : Int) := by omega
     by_cases h4 : s[k].toNat <= 102
     ·have q4 : (s[k].toNat : Int) <= 102 := by omega
      have HN := Lib.hid (all_snoc (p := hexB) hlt ha (by rw [hh]; simp [h3, h4]))
      clear ha hh
      go_wp2_with fail
      go_round
      case rel => exact ⟨k + 1, by omega, by omega, by go_num, HN.out⟩
      case measure => simp [intOf]; omega
     have q4 : ¬ (s[k].toNat : Int) <= 102 := by omega
     have HN := Lib.hid (hx_len hk8 hk ha (.inr (.inr ⟨hlt, by rw [hh]; simp [h2, h4]⟩)))
     clear ha hh
     go_wp2_with fail
     go_ret
     exact ⟨by rw [HN.out]; rfl, rfl⟩
    have q3 : ¬ (97 : Int) <= (s[k].toNat : Int) := by omega
    have HN := Lib.hid (hx_len hk8 hk ha (.inr (.inr ⟨hlt, by rw [hh]; simp [h2, h3]⟩)))
    clear ha hh
    go_wp2_with fail
    go_ret
    exact ⟨by rw [HN.out]; rfl, rfl⟩
   have q1 : ¬ (48 : Int) <= (s[k].toNat : Int) := by omega
   have h3 : ¬ 97 <= s[k].toNat := by omega
   have q3 : ¬ (97 : Int) <= (s[k].toNat : Int) := by omega
   have HN := Lib.hid (hx_len hk8 hk ha (.inr (.inr ⟨hlt, by rw [hh]; simp [h1, h3]⟩)))
   clear ha hh
   go_wp2_with fail
   go_ret
   exact ⟨by rw [HN.out]; rfl, rfl⟩
  have q8 : ¬ (k : Int) < 8 := by omega
  have HN := Lib.hid (hx_len hk8 hk ha (.inr (.inl (by omega))))
  clear ha
  go_wp2_with fail
  go_ret
  exact ⟨by rw [HN.out]; rfl, rfl⟩
 obtain rfl : k = s.size := by omega
 have HN := Lib.hid (hx_len hk8 hk ha (.inl rfl))
 clear ha
 go_wp2_with fail
 go_ret
 exact ⟨by rw [HN.out]; rfl, rfl⟩
end Go.Proofs.YtbkeoiefolkjfaaGreatDoor.Fr
