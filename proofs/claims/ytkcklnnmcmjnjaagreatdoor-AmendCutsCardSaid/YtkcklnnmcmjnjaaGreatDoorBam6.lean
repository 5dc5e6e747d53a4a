/- Texts put together: WF, FA, FB, FC, FD, FE, FF. -/
import Derived.Shelf.Strings.Split
import Derived.Lib.IndexBytes
import Derived.OwnWalk
import Derived.Laws.AppendOwn
import Derived.Laws.OwnMore
import Derived.Lib.SmallJoins
import Derived.StillTailTactics
import Derived.Test.YtkcklnnmcmjnjaaGreatDoorBam2
import Derived.Test.YtkcklnnmcmjnjaaGreatDoorBam5
set_option linter.unusedVariables false
namespace Go.Proofs.YtkcklnnmcmjnjaaGreatDoor
open Go.RowKit Go.Shelf

theorem Below.drewN {B : Nat} {a w : World} (h : Below B a w) (n : Nat) : Below B a (w.drewN n) := ⟨h.os, h.tape, h.output, h.size, h.block⟩
def trimmed (s : ByteArray) : ByteArray := ⟨(Lib.trimS s.data.toList [32, 9]).toArray⟩
def preS (s : ByteArray) : ByteArray := s.extract 0 (before s.data.toList).length
def postS (s : ByteArray) : ByteArray := s.extract ((before s.data.toList).length + 1) s.size

theorem blank_contains (c : UInt8) : ([32, 9] : List UInt8).contains c = blankB c := by
  unfold blankB
  by_cases h1 : c = 32
  · subst h1; rfl
  · by_cases h2 : c = 9
    · subst h2; rfl
    · simp [h1, h2]
theorem dropWhile_nil {p : UInt8 → Bool} : ∀ {l : List UInt8}, l.dropWhile p = [] ↔ l.all p = true
  | [] => by simp
  | a :: l => by
    rw [List.dropWhile_cons]
    cases h : p a <;> simp [h, dropWhile_nil]
theorem trim_nil (l : List UInt8) : Lib.trimS l [32, 9] = [] ↔ blankAll l = true := by
  have e : (fun c => ([32, 9] : List UInt8).contains c) = blankB := funext blank_contains
  unfold Lib.trimS Lib.trimLeftS Lib.trimRightS blankAll
  rw [e, dropWhile_nil, List.all_reverse]
  constructor
  · intro h
    have h2 : (l.reverse.takeWhile blankB ++ l.reverse.dropWhile blankB).all blankB = true := by rw [List.all_append, h, List.all_takeWhile]; rfl
    rw [List.takeWhile_append_dropWhile, List.all_reverse] at h2
    exact h2
  · intro h
    have : l.reverse.dropWhile blankB = [] := dropWhile_nil.2 (by rw [List.all_reverse]; exact h)
    rw [this]; rfl
theorem trim_yes (s : ByteArray) (hs : s.size ≤ 9223372036854775807) (h : blankAll s.data.toList = true) (w : World) :
    Calls Tryz.prog 174 #[.string s, .string ⟨#[32, 9]⟩] w fun e w' => e = .returned (.string ⟨#[]⟩) ∧ Below w.heap.size w w' := by
  have := trim_any s hs w
  rwa [(trim_nil _).2 h] at this
theorem trim_no (s : ByteArray) (hs : s.size ≤ 9223372036854775807) (w : World) :
    Calls Tryz.prog 174 #[.string s, .string ⟨#[32, 9]⟩] w fun e w' => e = .returned (.string (trimmed s)) ∧ Below w.heap.size w w' := trim_any s hs w
theorem trimmed_ne (s : ByteArray) (h : blankAll s.data.toList = false) : (trimmed s).toList.isEmpty = false ∧ ¬ (trimmed s).toList = [] := by
  have : Lib.trimS s.data.toList [32, 9] ≠ [] := fun e => by rw [(trim_nil _).1 e] at h; cases h
  have e : (trimmed s).toList = Lib.trimS s.data.toList [32, 9] := by rw [Lib.toList_data]; rfl
  rw [e]
  exact ⟨by simpa using this, this⟩
theorem preS_data (s : ByteArray) : (preS s).data.toList = before s.data.toList := by
  unfold preS
  rw [Lib.extract_data, List.drop_zero, Nat.sub_zero]
  exact (List.prefix_iff_eq_take.1 (List.takeWhile_prefix _)).symm
theorem preS_size (s : ByteArray) : (preS s).size ≤ s.size := by
  rw [Lib.size_eq, preS_data, Lib.size_eq]
  exact (List.takeWhile_prefix _).length_le
theorem colon_yes (s : ByteArray) (w : World) (hs : s.size ≤ maxLen) (h : hasB s.data.toList 58 = true) :
    Calls Tryz.prog 146 #[.string s, .string ⟨#[58]⟩] w fun e w' => e = .returned (.tuple #[.string (preS s), .string (postS s), .bool true]) ∧ ∃ n, w' = w.drewN n :=
  cut_yes s 58 w hs (by unfold hasB at h; simpa using h)
theorem colon_no (s : ByteArray) (w : World) (h : hasB s.data.toList 58 = false) :
    Calls Tryz.prog 146 #[.string s, .string ⟨#[58]⟩] w fun e w' => e = .returned (.tuple #[.string s, .string ⟨#[]⟩, .bool false]) ∧ ∃ n, w' = w.drewN n :=
  cut_no s 58 w (by unfold hasB at h; simpa using h)
theorem keyPre_any (s : ByteArray) (hs : s.size ≤ maxLen) (w : World) :
    Calls Tryz.prog 164 #[.string (preS s)] w fun e w' => e = .returned (.bool (goodKey (before s.data.toList))) ∧ w = w' := by
  have := key_any (preS s) (Nat.le_trans (preS_size s) hs) w
  rwa [preS_data] at this

set_option maxHeartbeats 1000000 in
theorem kind_any (s : ByteArray) (hs : s.size ≤ maxLen) (w : World) :
    Calls Tryz.prog 157 #[.string s] w fun e w' => e = .returned (.int .i64 (kindL s.data.toList : Nat)) ∧ Below w.heap.size w w' := by
  have hs2 : s.size ≤ 9223372036854775807 := by unfold maxLen at hs; omega
  cases h1 : hasB s.data.toList 10 with
  | true =>
    have hk : kindL s.data.toList = 5 := by unfold kindL; rw [if_pos h1]
    rw [hk]; clear hk
    go_enter Tryz.func157, Tryz.ntmps157
    go_wp2_with (first | (go_at_call 186; refine (has_any _ _ _).mono ?_; rw [h1]; rintro e w1 ⟨rfl, rfl⟩))
    go_ret
    exact ⟨rfl, Below.refl _ _⟩
  | false =>
    cases h2 : blankAll s.data.toList with
    | true =>
      have hk : kindL s.data.toList = 1 := by unfold kindL; rw [h1, if_neg (by decide), if_pos h2]
      rw [hk]; clear hk
      go_enter Tryz.func157, Tryz.ntmps157
      go_wp2_with (first | (go_at_call 186; refine (has_any _ _ _).mono ?_; rw [h1]; rintro e w1 ⟨rfl, rfl⟩) | (go_at_call 174; refine (trim_yes s hs2 h2 _).mono ?_; rintro e w1 ⟨rfl, b1⟩))
      go_ret
      exact ⟨rfl, b1⟩
    | false =>
      obtain ⟨t1, t2⟩ := trimmed_ne s h2
      have B1 := begins_any s hs
      cases h3 : hashB s.data.toList with
      | true =>
        have hk : kindL s.data.toList = 2 := by unfold kindL; rw [h1, if_neg (by decide), h2, if_neg (by decide), if_pos h3]
        rw [hk]; clear hk
        go_enter Tryz.func157, Tryz.ntmps157
        go_wp2_with (first | (go_at_call 186; refine (has_any _ _ _).mono ?_; rw [h1]; rintro e w1 ⟨rfl, rfl⟩) | (go_at_call 174; refine (trim_no s hs2 _).mono ?_; rintro e w1 ⟨rfl, b1⟩) | (go_at_call 107; refine (hash_any _ _).mono ?_; rw [h3]; rintro e w2 ⟨rfl, rfl⟩))
        go_ret
        exact ⟨rfl, b1⟩
      | false =>
        cases h4 : beginsB s.data.toList with
        | true =>
          have hk : kindL s.data.toList = 3 := by unfold kindL; rw [h1, if_neg (by decide), h2, if_neg (by decide), h3, if_neg (by decide), if_pos h4]
          rw [hk]; clear hk
          go_enter Tryz.func157, Tryz.ntmps157
          go_wp2_with (first | (go_at_call 186; refine (has_any _ _ _).mono ?_; rw [h1]; rintro e w1 ⟨rfl, rfl⟩) | (go_at_call 174; refine (trim_no s hs2 _).mono ?_; rintro e w1 ⟨rfl, b1⟩) | (go_at_call 107; refine (hash_any _ _).mono ?_; rw [h3]; rintro e w2 ⟨rfl, rfl⟩) | (go_at_call 187; refine (B1 _).mono ?_; rw [h4]; rintro e w2 ⟨rfl, rfl⟩))
          go_ret
          exact ⟨rfl, b1⟩
        | false =>
          cases h5 : hasB s.data.toList 58 with
          | false =>
            have hk : kindL s.data.toList = 5 := by unfold kindL; rw [h1, if_neg (by decide), h2, if_neg (by decide), h3, if_neg (by decide), h4, if_neg (by decide), if_neg (by rw [h5]; simp)]
            rw [hk]; clear hk
            have C := fun w => colon_no s w h5
            go_enter Tryz.func157, Tryz.ntmps157
            go_wp2_with (first | (go_at_call 186; refine (has_any _ _ _).mono ?_; rw [h1]; rintro e w1 ⟨rfl, rfl⟩) | (go_at_call 174; refine (trim_no s hs2 _).mono ?_; rintro e w1 ⟨rfl, b1⟩) | (go_at_call 107; refine (hash_any _ _).mono ?_; rw [h3]; rintro e w2 ⟨rfl, rfl⟩) | (go_at_call 187; refine (B1 _).mono ?_; rw [h4]; rintro e w2 ⟨rfl, rfl⟩) | (go_at_call 146; refine (C _).mono ?_; rintro e w2 ⟨rfl, n, rfl⟩))
            go_ret
            exact ⟨rfl, Below.drewN b1 n⟩
          | true =>
            have C := fun w => colon_yes s w hs h5
            have K := keyPre_any s hs
            have hk : kindL s.data.toList = if goodKey (before s.data.toList) = true then 4 else 5 := by
              unfold kindL; rw [h1, if_neg (by decide), h2, if_neg (by decide), h3, if_neg (by decide), h4, if_neg (by decide), h5]; simp
            cases h6 : goodKey (before s.data.toList)
            all_goals
              rw [h6] at hk
              rw [hk]; clear hk
              go_enter Tryz.func157, Tryz.ntmps157
              go_wp2_with (first | (go_at_call 186; refine (has_any _ _ _).mono ?_; rw [h1]; rintro e w1 ⟨rfl, rfl⟩) | (go_at_call 174; refine (trim_no s hs2 _).mono ?_; rintro e w1 ⟨rfl, b1⟩) | (go_at_call 107; refine (hash_any _ _).mono ?_; rw [h3]; rintro e w2 ⟨rfl, rfl⟩) | (go_at_call 187; refine (B1 _).mono ?_; rw [h4]; rintro e w2 ⟨rfl, rfl⟩) | (go_at_call 146; refine (C _).mono ?_; rintro e w2 ⟨rfl, n, rfl⟩) | (go_at_call 164; refine (K _).mono ?_; rw [h6]; rintro e w3 ⟨rfl, rfl⟩))
              go_ret
              exact ⟨rfl, Below.drewN b1 n⟩
end Go.Proofs.YtkcklnnmcmjnjaaGreatDoor

namespace Go.Proofs.YtkcklnnmcmjnjaaGreatDoor
open Go.RowKit Go.Shelf

set_option maxHeartbeats 1000000 in
theorem cut_pair (s : ByteArray) (hs : s.size ≤ maxLen) (h : kindL s.data.toList = 4) (w : World) :
    Calls Tryz.prog 216 #[.string s] w fun e w' => e = .returned (.tuple #[.string (preS s), .string (postS s), .bool true]) ∧ Below w.heap.size w w' := by
  have h5 : hasB s.data.toList 58 = true := by
    unfold kindL at h
    split at h; · cases h
    split at h; · cases h
    split at h; · cases h
    split at h; · cases h
    split at h
    · rename_i q; exact q.1
    · cases h
  have C := fun w => colon_yes s w hs h5
  have K := kind_any s hs
  rw [h] at K
  go_enter Tryz.func216, Tryz.ntmps216
  go_wp2_with (first | (go_at_call 157; refine (K _).mono ?_; rintro e w1 ⟨rfl, b1⟩) | (go_at_call 146; refine (C _).mono ?_; rintro e w2 ⟨rfl, n, rfl⟩))
  go_ret3
  exact ⟨rfl, Below.drewN b1 n⟩
end Go.Proofs.YtkcklnnmcmjnjaaGreatDoor

namespace Go.Proofs.YtkcklnnmcmjnjaaGreatDoor
open Go.RowKit Go.Shelf

theorem refBlank_any (c : UInt8) (w : World) :
    Calls Tryz.prog 152 #[.int .u8 (c.toNat : Nat)] w fun e w' => e = .returned (.bool (blankB c)) ∧ w = w' := by
  have hb := c.toNat_lt
  by_cases h1 : c = 32
  · subst h1
    go_enter Tryz.func152, Tryz.ntmps152
    go_wp2
    go_ret
    exact ⟨rfl, rfl⟩
  · have e1 : ((c.toNat : Int) == 32) = false := by
      rw [beq_eq_false_iff_ne]; intro e; apply h1; apply UInt8.toNat_inj.1; have : (32 : UInt8).toNat = 32 := rfl; omega
    have e3 : blankB c = ((c.toNat : Int) == 9) := by
      unfold blankB
      by_cases h2 : c = 9
      · subst h2; rfl
      · have : ((c.toNat : Int) == 9) = false := by
          rw [beq_eq_false_iff_ne]; intro e; apply h2; apply UInt8.toNat_inj.1; have : (9 : UInt8).toNat = 9 := rfl; omega
        rw [this]; simp [h1, h2]
    rw [e3]
    clear e3
    go_enter Tryz.func152, Tryz.ntmps152
    go_wp2
    go_ret
    exact ⟨rfl, rfl⟩
/-- A byte's test in the walk's spelling. -/
theorem byte_eq {c d : UInt8} (n : Int) (hn : (d.toNat : Int) = n) : ((c.toNat : Int) == n) = (c == d) := by
  by_cases h : c = d
  · subst h; simp [hn]
  · have : (c.toNat : Int) ≠ n := by intro e; apply h; apply UInt8.toNat_inj.1; omega
    rw [beq_eq_false_iff_ne.2 this]; simp [h]
theorem has_no (l : List UInt8) (c : UInt8) (k : Nat) (h : ∀ i, i < k → l[i]? ≠ some c) (hk : l.length ≤ k) : hasB l c = false := by
  unfold hasB
  cases hc : l.contains c with
  | false => rfl
  | true =>
    exfalso
    have hm : c ∈ l := by simpa using hc
    obtain ⟨i, hi, e⟩ := List.mem_iff_getElem.1 hm
    exact h i (by omega) (by rw [List.getElem?_eq_getElem hi, e])
theorem has_yes (l : List UInt8) (c : UInt8) (i : Nat) (h : l[i]? = some c) : hasB l c = true := by
  unfold hasB
  have : c ∈ l := List.mem_of_getElem? h
  simpa using this

set_option maxHeartbeats 1000000 in
theorem refKey_any (s : ByteArray) (hs : s.size ≤ 4294967295) (w : World) :
    Calls Tryz.prog 153 #[.string s] w fun e w' => e = .returned (.bool (goodKey s.data.toList)) ∧ w = w' := by
  cases h : s.data.toList with
  | nil =>
    rw [empty_of h]
    go_enter Tryz.func153, Tryz.ntmps153
    go_wp2
    go_ret
    exact ⟨rfl, rfl⟩
  | cons c t =>
    have n3 : 1 ≤ s.size := by rw [Lib.size_eq, h]; simp
    have g0 : s[0] = c := by
      have : s.data.toList[0]? = some c := by rw [h]; rfl
      rw [List.getElem?_eq_getElem (by rw [← Lib.size_eq]; omega)] at this
      exact Option.some.inj this
    have eb : beginsB s.data.toList = blankB c := by rw [h]; rfl
    have eh : hashB s.data.toList = (c == 35) := by rw [h]; rfl
    rw [← h]
    clear h
    have n4 : 1 ≤ s.data.toList.length := by rw [← Lib.size_eq]; exact n3
    have n5 := Lib.size_eq s
    by_cases h1 : s.size ≤ 32
    · have h1' := h1
      rw [n5] at h1'
      have e1 : goodKey s.data.toList = (!blankB c && !(c == 35) && !hasB s.data.toList 58 && !hasB s.data.toList 10) := by
        unfold goodKey; rw [decide_eq_true n4, decide_eq_true h1', eb, eh]; simp
      rw [e1]
      clear e1 eb eh h1' n4
      cases h2 : blankB c with
      | true =>
        clear n5
        go_enter Tryz.func153, Tryz.ntmps153
        go_wp2_with (first | (go_at_call 152; refine (refBlank_any _ _).mono ?_; rw [h2]; rintro e w1 ⟨rfl, rfl⟩))
        go_ret
        exact ⟨rfl, rfl⟩
      | false =>
        have hq := byte_eq (c := c) (d := 35) 35 rfl
        cases h3 : (c == 35) with
        | true =>
          rw [h3] at hq
          clear n5
          go_enter Tryz.func153, Tryz.ntmps153
          go_wp2_with (first | (go_at_call 152; refine (refBlank_any _ _).mono ?_; rw [h2]; rintro e w1 ⟨rfl, rfl⟩))
          go_ret
          exact ⟨rfl, rfl⟩
        | false =>
          rw [h3] at hq
          have N5 := Lib.hid n5
          clear n5
          go_enter Tryz.func153, Tryz.ntmps153
          go_wp2_with (first | (go_at_call 152; refine (refBlank_any _ _).mono ?_; rw [h2]; rintro e w1 ⟨rfl, rfl⟩))
          clear hq g0
          go_loop [3] (fun i => ∃ k : Nat, k ≤ s.size ∧ i = .int .i64 k ∧ ∀ j, j < k → s.data.toList[j]? ≠ some 58 ∧ s.data.toList[j]? ≠ some 10) (fun i => s.size - (intOf i).toNat)
          case atStart => exact ⟨0, Nat.zero_le _, rfl, fun j hj => absurd hj (Nat.not_lt_zero j)⟩
          case round =>
            obtain ⟨k, hk, rfl, hno⟩ := hrel
            by_cases hlt : k < s.size
            · have e : s.data.toList[k]? = some s[k] := by
                rw [List.getElem?_eq_getElem (by rw [← Lib.size_eq]; exact hlt)]; rfl
              have E := Lib.hid e
              have NO := Lib.hid hno
              clear e hno
              have q1 := byte_eq (c := s[k]) (d := 58) 58 rfl
              have q2 := byte_eq (c := s[k]) (d := 10) 10 rfl
              cases h4 : (s[k] == 58) with
              | true =>
                rw [h4] at q1
                have h5 : hasB s.data.toList 58 = true := has_yes _ _ k (by rw [E.out]; simpa using h4)
                have H5 := Lib.hid h5
                clear q2 h5
                go_wp2
                go_ret
                exact ⟨by rw [H5.out]; rfl, rfl⟩
              | false =>
                rw [h4] at q1
                cases h5 : (s[k] == 10) with
                | true =>
                  rw [h5] at q2
                  have h6 : hasB s.data.toList 10 = true := has_yes _ _ k (by rw [E.out]; simpa using h5)
                  have H7 := Lib.hid h6
                  clear h6
                  go_wp2
                  go_ret
                  exact ⟨by rw [H7.out, Bool.not_true, Bool.and_false]; rfl, rfl⟩
                | false =>
                  rw [h5] at q2
                  go_wp2
                  go_round
                  case rel =>
                    refine ⟨k + 1, hlt, by go_num, fun j hj => ?_⟩
                    by_cases hjk : j = k
                    · subst hjk; rw [E.out]; exact ⟨by simpa using h4, by simpa using h5⟩
                    · exact NO.out j (by omega)
                  case measure => simp [intOf]; omega
            · have h58 := has_no s.data.toList 58 k (fun i hi => (hno i hi).1) (by rw [← N5.out]; omega)
              have h10 := has_no s.data.toList 10 k (fun i hi => (hno i hi).2) (by rw [← N5.out]; omega)
              have H58 := Lib.hid h58
              have H10 := Lib.hid h10
              clear hno h58 h10
              go_wp2
              go_ret
              exact ⟨by rw [H58.out, H10.out]; rfl, rfl⟩
    · have e1 : goodKey s.data.toList = false := by
        unfold goodKey; rw [← n5, decide_eq_false h1]; simp
      rw [e1]
      have h1' : 32 < s.size := by omega
      clear n5 n4 e1 eb eh
      go_enter Tryz.func153, Tryz.ntmps153
      go_wp2
      go_ret
      exact ⟨rfl, rfl⟩
end Go.Proofs.YtkcklnnmcmjnjaaGreatDoor

namespace Go.Proofs.YtkcklnnmcmjnjaaGreatDoor
open Go.RowKit Go.Shelf

theorem before_take (l : List UInt8) : ∀ (k : Nat), l[k]? = some 58 → (∀ j, j < k → l[j]? ≠ some 58) → (before l).length = k := by
  induction l with
  | nil => intro k h; simp at h
  | cons a t ih =>
    intro k h hn
    unfold before at ih ⊢
    cases k with
    | zero =>
      have : a = 58 := by simpa using h
      subst this; rfl
    | succ k =>
      have ha : a ≠ 58 := fun e => hn 0 (by omega) (by rw [e]; rfl)
      rw [List.takeWhile_cons, if_pos (by simpa using ha), List.length_cons, ih k (by simpa using h) (fun j hj => by have := hn (j + 1) (by omega); simpa using this)]

set_option maxHeartbeats 1000000 in
/-- Cut by definition, where there is a line end, or no colon, or no good key ahead of it: nothing. -/
theorem refCut_no (s : ByteArray) (hs : s.size ≤ 4294967295) (w : World) (h : hasB s.data.toList 10 = true ∨ hasB s.data.toList 58 = false ∨ goodKey (before s.data.toList) = false) :
    Calls Tryz.prog 111 #[.string s] w fun e w' => e = .returned (.tuple #[.string ⟨#[]⟩, .string ⟨#[]⟩, .bool false]) ∧ Below w.heap.size w w' := by
  have n5 := Lib.size_eq s
  have N5 := Lib.hid n5
  clear n5
  have HH := Lib.hid h
  clear h
  go_enter Tryz.func111, Tryz.ntmps111
  go_wp2_with fail
  go_loop [5] (fun i => ∃ k : Nat, k ≤ s.size ∧ i = .int .i64 k ∧ ∀ j, j < k → s.data.toList[j]? ≠ some 10) (fun i => s.size - (intOf i).toNat)
  case atStart => exact ⟨0, Nat.zero_le _, rfl, fun j hj => absurd hj (Nat.not_lt_zero j)⟩
  case round =>
    obtain ⟨k, hk, rfl, hno⟩ := hrel
    by_cases hlt : k < s.size
    · have e : s.data.toList[k]? = some s[k] := by
        rw [List.getElem?_eq_getElem (by rw [← Lib.size_eq]; exact hlt)]; rfl
      have E := Lib.hid e
      have NO := Lib.hid hno
      clear e hno
      have q2 := byte_eq (c := s[k]) (d := 10) 10 rfl
      cases h5 : (s[k] == 10) with
      | true =>
        rw [h5] at q2
        go_wp2
        go_ret3
        exact ⟨rfl, Below.refl _ _⟩
      | false =>
        rw [h5] at q2
        go_wp2
        go_round
        case rel =>
          refine ⟨k + 1, hlt, by go_num, fun j hj => ?_⟩
          by_cases hjk : j = k
          · subst hjk; rw [E.out]; simpa using h5
          · exact NO.out j (by omega)
        case measure => simp [intOf]; omega
    · have h10 := has_no s.data.toList 10 k hno (by rw [← N5.out]; omega)
      have h2 : hasB s.data.toList 58 = false ∨ goodKey (before s.data.toList) = false := by
        rcases HH.out with h | h
        · rw [h10] at h; cases h
        · exact h
      have H2 := Lib.hid h2
      clear hno h10 h2 HH
      go_wp2_with fail
      go_loop [6] (fun i => ∃ k : Nat, k ≤ s.size ∧ i = .int .i64 k ∧ ∀ j, j < k → s.data.toList[j]? ≠ some 58) (fun i => s.size - (intOf i).toNat)
      case atStart => exact ⟨0, Nat.zero_le _, rfl, fun j hj => absurd hj (Nat.not_lt_zero j)⟩
      case round =>
        obtain ⟨m, hm, rfl, hno⟩ := hrel
        by_cases hlt2 : m < s.size
        · have e : s.data.toList[m]? = some s[m] := by
            rw [List.getElem?_eq_getElem (by rw [← Lib.size_eq]; exact hlt2)]; rfl
          have q2 := byte_eq (c := s[m]) (d := 58) 58 rfl
          cases h5 : (s[m] == 58) with
          | true =>
            rw [h5] at q2
            have e58 : s.data.toList[m]? = some 58 := by rw [e]; simpa using h5
            have hb := before_take s.data.toList m e58 hno
            have hg : goodKey (before s.data.toList) = false := by
              rcases H2.out with h | h
              · rw [has_yes _ _ m e58] at h; cases h
              · exact h
            have K := fun w => refKey_any (preS s) (Nat.le_trans (preS_size s) hs) w
            rw [preS_data, hg] at K
            unfold preS at K
            rw [hb] at K
            clear e hno e58 hb hg
            go_wp2_with (first | (go_at_call 153; refine (K _).mono ?_; rintro e w1 ⟨rfl, rfl⟩))
            go_ret3
            exact ⟨rfl, Below.refl _ _⟩
          | false =>
            rw [h5] at q2
            have E := Lib.hid e
            have NO := Lib.hid hno
            clear e hno
            go_wp2
            go_round
            case rel =>
              refine ⟨m + 1, hlt2, by go_num, fun j hj => ?_⟩
              by_cases hjk : j = m
              · subst hjk; rw [E.out]; simpa using h5
              · exact NO.out j (by omega)
            case measure => simp [intOf]; omega
        · clear hno
          go_wp2
          go_ret3
          exact ⟨rfl, Below.refl _ _⟩

theorem before_lt (l : List UInt8) (h : hasB l 58 = true) : l[(before l).length]? = some 58 ∧ ∀ j, j < (before l).length → l[j]? ≠ some 58 := by
  unfold hasB at h
  have hm : (58 : UInt8) ∈ l := by simpa using h
  clear h
  unfold before
  induction l with
  | nil => cases hm
  | cons a t ih =>
    by_cases ha : a = 58
    · subst ha
      refine ⟨rfl, fun j hj => ?_⟩
      simp at hj
    · have hm' : (58 : UInt8) ∈ t := by
        rcases List.mem_cons.1 hm with h | h
        · exact absurd h.symm ha
        · exact h
      obtain ⟨h1, h2⟩ := ih hm'
      rw [List.takeWhile_cons, if_pos (by simpa using ha), List.length_cons]
      refine ⟨by simpa using h1, fun j hj => ?_⟩
      cases j with
      | zero => simpa using ha
      | succ j => have := h2 j (by omega); simpa using this

set_option maxHeartbeats 1000000 in
theorem refCut_yes (s : ByteArray) (hs : s.size ≤ 4294967295) (w : World) (h1 : hasB s.data.toList 10 = false) (h2 : hasB s.data.toList 58 = true) (h3 : goodKey (before s.data.toList) = true) :
    Calls Tryz.prog 111 #[.string s] w fun e w' => e = .returned (.tuple #[.string (preS s), .string (postS s), .bool true]) ∧ Below w.heap.size w w' := by
  have n5 := Lib.size_eq s
  have N5 := Lib.hid n5
  clear n5
  have H1 := Lib.hid h1
  obtain ⟨b1, b2⟩ := before_lt _ h2
  have hbl : (before s.data.toList).length < s.size := by
    rcases Nat.lt_or_ge (before s.data.toList).length s.size with h | h
    · exact h
    · rw [List.getElem?_eq_none (by rw [← Lib.size_eq]; exact h)] at b1; cases b1
  have B1 := Lib.hid b1
  have B2 := Lib.hid b2
  have K := fun w => refKey_any (preS s) (Nat.le_trans (preS_size s) hs) w
  rw [preS_data, h3] at K
  have HP : Hid (preS s = s.extract 0 (before s.data.toList).length) := rfl
  have HQ : Hid (postS s = s.extract ((before s.data.toList).length + 1) s.size) := rfl
  unfold preS at K
  clear h1 h2 h3 b1 b2
  generalize (before s.data.toList).length = n at *
  go_enter Tryz.func111, Tryz.ntmps111
  go_wp2_with fail
  go_loop [5] (fun i => ∃ k : Nat, k ≤ s.size ∧ i = .int .i64 k) (fun i => s.size - (intOf i).toNat)
  case atStart => exact ⟨0, Nat.zero_le _, rfl⟩
  case round =>
    obtain ⟨k, hk, rfl⟩ := hrel
    by_cases hlt : k < s.size
    · have q2 := byte_eq (c := s[k]) (d := 10) 10 rfl
      have h5 : (s[k] == 10) = false := by
        cases h5 : (s[k] == 10) with
        | false => rfl
        | true =>
          exfalso
          have := has_yes s.data.toList 10 k (by rw [List.getElem?_eq_getElem (by rw [← Lib.size_eq]; exact hlt)]; exact congrArg some (eq_of_beq h5))
          rw [H1.out] at this; cases this
      rw [h5] at q2
      clear h5
      go_wp2
      go_round
      case rel => exact ⟨k + 1, hlt, by go_num⟩
      case measure => simp [intOf]; omega
    · go_wp2_with fail
      go_loop [6] (fun i => ∃ k : Nat, k ≤ n ∧ i = .int .i64 k) (fun i => s.size - (intOf i).toNat)
      case atStart => exact ⟨0, Nat.zero_le _, rfl⟩
      case round =>
        obtain ⟨m, hm, rfl⟩ := hrel
        have hlt2 : m < s.size := by omega
        have e : s.data.toList[m]? = some s[m] := by
          rw [List.getElem?_eq_getElem (by rw [← Lib.size_eq]; exact hlt2)]; rfl
        have q2 := byte_eq (c := s[m]) (d := 58) 58 rfl
        by_cases hmn : m < n
        · have h5 : (s[m] == 58) = false := by
            have := B2.out m hmn
            rw [e] at this
            simpa using this
          rw [h5] at q2
          clear e h5
          go_wp2
          go_round
          case rel => exact ⟨m + 1, by omega, by go_num⟩
          case measure => simp [intOf]; omega
        · obtain rfl : m = n := by omega
          have h5 : (s[m] == 58) = true := by
            have := B1.out
            rw [e] at this
            simpa using this
          rw [h5] at q2
          clear e h5
          have h6 : IntKind.i64.wrap ((m : Int) + 1) = (m : Int) + 1 := IntWalk.i64_in _ (by omega)
          go_wp2_with (first | (go_at_call 153; refine (K _).mono ?_; rintro e w1 ⟨rfl, rfl⟩))
          go_quiet (fail)
          go_wp2
          go_ret3
          exact ⟨by rw [HP.out, HQ.out]; rfl, Below.drewN (Below.refl _ _) _⟩

theorem blankTo_snoc (s : ByteArray) (k : Nat) (h : k < s.size) : blankAll (s.data.toList.take (k + 1)) = (blankAll (s.data.toList.take k) && blankB s[k]) := by
  unfold blankAll
  rw [List.take_succ_eq_append_getElem (by simpa using h), List.all_append]
  simp; rfl

set_option maxHeartbeats 1000000 in
theorem refKind_nl (s : ByteArray) (hs : s.size ≤ 4294967295) (w : World) (h1 : hasB s.data.toList 10 = true) :
    Calls Tryz.prog 110 #[.string s] w fun e w' => e = .returned (.int .i64 5) ∧ Below w.heap.size w w' := by
  have n5 := Lib.size_eq s
  have N5 := Lib.hid n5
  clear n5
  have H1 := Lib.hid h1
  clear h1
  go_enter Tryz.func110, Tryz.ntmps110
  go_wp2_with fail
  go_loop [3, 4] (fun b i => ∃ (k : Nat) (x : Bool), k ≤ s.size ∧ i = .int .i64 k ∧ b = .bool x ∧ ∀ j, j < k → s.data.toList[j]? ≠ some 10) (fun _ i => s.size - (intOf i).toNat)
  case atStart => exact ⟨0, true, Nat.zero_le _, rfl, rfl, fun j hj => absurd hj (Nat.not_lt_zero j)⟩
  case round =>
    obtain ⟨k, x, hk, rfl, rfl, hno⟩ := hrel
    by_cases hlt : k < s.size
    · have e : s.data.toList[k]? = some s[k] := by
        rw [List.getElem?_eq_getElem (by rw [← Lib.size_eq]; exact hlt)]; rfl
      have E := Lib.hid e
      have NO := Lib.hid hno
      clear e hno
      have q2 := byte_eq (c := s[k]) (d := 10) 10 rfl
      cases h5 : (s[k] == 10) with
      | true =>
        rw [h5] at q2
        go_wp2
        go_ret
        exact ⟨rfl, Below.refl _ _⟩
      | false =>
        rw [h5] at q2
        have h6 : ∀ j, j < k + 1 → s.data.toList[j]? ≠ some 10 := fun j hj => by
          by_cases hjk : j = k
          · subst hjk; rw [E.out]; simpa using h5
          · exact NO.out j (by omega)
        have H6 := Lib.hid h6
        clear h6
        cases x
        all_goals
          go_wp2_with (first | (go_at_call 152; refine (refBlank_any _ _).mono ?_; rintro e w1 ⟨rfl, rfl⟩))
          go_round
          case rel => exact ⟨k + 1, _, hlt, by go_num, rfl, H6.out⟩
          case measure => simp [intOf]; omega
    · exfalso
      have := has_no s.data.toList 10 k hno (by rw [← N5.out]; omega)
      rw [H1.out] at this; cases this
end Go.Proofs.YtkcklnnmcmjnjaaGreatDoor

namespace Go.Proofs.YtkcklnnmcmjnjaaGreatDoor
open Go.RowKit Go.Shelf

set_option maxHeartbeats 2000000 in
theorem refKind_else (s : ByteArray) (hs : s.size ≤ 4294967295) (w : World) (h1 : hasB s.data.toList 10 = false) :
    Calls Tryz.prog 110 #[.string s] w fun e w' => e = .returned (.int .i64 (kindL s.data.toList : Nat)) ∧ Below w.heap.size w w' := by
  have n5 := Lib.size_eq s
  have N5 := Lib.hid n5
  clear n5
  have H1 := Lib.hid h1
  clear h1
  go_enter Tryz.func110, Tryz.ntmps110
  go_wp2_with fail
  go_loop [3, 4] (fun b i => ∃ (k : Nat), k ≤ s.size ∧ i = .int .i64 k ∧ b = .bool (blankAll (s.data.toList.take k))) (fun _ i => s.size - (intOf i).toNat)
  case atStart => exact ⟨0, Nat.zero_le _, rfl, rfl⟩
  case round =>
    obtain ⟨k, hk, rfl, rfl⟩ := hrel
    by_cases hlt : k < s.size
    · have q2 := byte_eq (c := s[k]) (d := 10) 10 rfl
      have h5 : (s[k] == 10) = false := by
        cases h5 : (s[k] == 10) with
        | false => rfl
        | true =>
          exfalso
          have := has_yes s.data.toList 10 k (by rw [List.getElem?_eq_getElem (by rw [← Lib.size_eq]; exact hlt)]; exact congrArg some (eq_of_beq h5))
          rw [H1.out] at this; cases this
      rw [h5] at q2
      clear h5
      have HS := Lib.hid (blankTo_snoc s k hlt)
      generalize blankAll (s.data.toList.take k) = x at *
      cases x
      all_goals
        go_wp2_with (first | (go_at_call 152; refine (refBlank_any _ _).mono ?_; rintro e w1 ⟨rfl, rfl⟩))
        go_round
        case rel => exact ⟨k + 1, hlt, by go_num, by rw [HS.out]; rfl⟩
        case measure => simp [intOf]; omega
    · obtain rfl : k = s.size := by omega
      have ht : s.data.toList.take s.size = s.data.toList := by rw [Lib.size_eq]; exact List.take_length
      rw [ht]
      clear ht hlt hk
      cases h2 : blankAll s.data.toList with
      | true =>
        have hk : kindL s.data.toList = 1 := by unfold kindL; rw [H1.out, if_neg (by decide), if_pos h2]
        have HK := Lib.hid hk
        clear hk
        go_wp2
        go_ret
        exact ⟨by rw [HK.out]; rfl, Below.refl _ _⟩
      | false =>
        obtain ⟨c, t, hc⟩ := all_blank_cons h2
        have n3 : 1 ≤ s.size := by rw [N5.out, hc]; simp
        have g0 : s[0] = c := by
          have : s.data.toList[0]? = some c := by rw [hc]; rfl
          rw [List.getElem?_eq_getElem (by rw [← Lib.size_eq]; omega)] at this
          exact Option.some.inj this
        have eb : beginsB s.data.toList = blankB c := by rw [hc]; rfl
        have eh : hashB s.data.toList = (c == 35) := by rw [hc]; rfl
        clear hc
        have q1 := byte_eq (c := c) (d := 35) 35 rfl
        cases h3 : (c == 35) with
        | true =>
          have hk : kindL s.data.toList = 2 := by unfold kindL; rw [H1.out, if_neg (by decide), h2, if_neg (by decide), eh, if_pos h3]
          have HK := Lib.hid hk
          rw [h3] at q1
          clear hk h3 eb eh h2
          go_wp2
          go_ret
          exact ⟨by rw [HK.out]; rfl, Below.refl _ _⟩
        | false =>
          rw [h3] at q1
          cases h4 : blankB c with
          | true =>
            have hk : kindL s.data.toList = 3 := by unfold kindL; rw [H1.out, if_neg (by decide), h2, if_neg (by decide), eh, h3, if_neg (by decide), eb, if_pos h4]
            have HK := Lib.hid hk
            clear hk h3 eb eh h2
            go_wp2_with (first | (go_at_call 152; refine (refBlank_any _ _).mono ?_; rw [h4]; rintro e w1 ⟨rfl, rfl⟩))
            go_ret
            exact ⟨by rw [HK.out]; rfl, Below.refl _ _⟩
          | false =>
            have hk : kindL s.data.toList = if hasB s.data.toList 58 = true ∧ goodKey (before s.data.toList) = true then 4 else 5 := by
              unfold kindL; rw [H1.out, if_neg (by decide), h2, if_neg (by decide), eh, h3, if_neg (by decide), eb, h4, if_neg (by decide)]
            by_cases h6 : hasB s.data.toList 58 = true ∧ goodKey (before s.data.toList) = true
            · rw [if_pos h6] at hk
              have HK := Lib.hid hk
              have C := fun w => refCut_yes s hs w H1.out h6.1 h6.2
              clear hk h3 eb eh h2 h6
              go_wp2_with (first | (go_at_call 152; refine (refBlank_any _ _).mono ?_; rw [h4]; rintro e w1 ⟨rfl, rfl⟩) | (go_at_call 111; refine (C _).mono ?_; rintro e w1 ⟨rfl, b1⟩))
              go_ret
              exact ⟨by rw [HK.out]; rfl, b1⟩
            · rw [if_neg h6] at hk
              have HK := Lib.hid hk
              have h7 : hasB s.data.toList 58 = false ∨ goodKey (before s.data.toList) = false := by
                cases a : hasB s.data.toList 58
                · exact .inl rfl
                · cases b : goodKey (before s.data.toList)
                  · exact .inr rfl
                  · exact absurd ⟨a, b⟩ h6
              have C := fun w => refCut_no s hs w (.inr h7)
              clear hk h3 eb eh h2 h6 h7
              go_wp2_with (first | (go_at_call 152; refine (refBlank_any _ _).mono ?_; rw [h4]; rintro e w1 ⟨rfl, rfl⟩) | (go_at_call 111; refine (C _).mono ?_; rintro e w1 ⟨rfl, b1⟩))
              go_ret
              exact ⟨by rw [HK.out]; rfl, b1⟩
theorem refKind_any (s : ByteArray) (hs : s.size ≤ 4294967295) (w : World) :
    Calls Tryz.prog 110 #[.string s] w fun e w' => e = .returned (.int .i64 (kindL s.data.toList : Nat)) ∧ Below w.heap.size w w' := by
  cases h1 : hasB s.data.toList 10 with
  | true =>
    have hk : kindL s.data.toList = 5 := by unfold kindL; rw [if_pos h1]
    rw [hk]
    exact refKind_nl s hs w h1
  | false => exact refKind_else s hs w h1

theorem kind4 {l : List UInt8} (h : kindL l = 4) : hasB l 10 = false ∧ hasB l 58 = true ∧ goodKey (before l) = true := by
  unfold kindL at h
  split at h; · cases h
  rename_i h10
  split at h; · cases h
  split at h; · cases h
  split at h; · cases h
  split at h
  · rename_i q; exact ⟨by simpa using h10, q.1, q.2⟩
  · cases h
end Go.Proofs.YtkcklnnmcmjnjaaGreatDoor

namespace Go.Proofs.YtkcklnnmcmjnjaaGreatDoor
open Go.RowKit Go.Shelf

theorem B_empty {l : List UInt8} (h : l ≠ []) : (B l).toList.isEmpty = false ∧ ¬ (B l).toList = [] := by
  rw [Lib.toList_data, B_data]; exact ⟨by simpa using h, h⟩
theorem mkB (l : List UInt8) : (⟨l.toArray⟩ : ByteArray) = B l := rfl
set_option maxHeartbeats 400000 in
theorem first_any (k l : List UInt8) (hk : k.length ≤ 100000) (hl : l.length ≤ 100000) (w : World) :
    Calls Tryz.prog 142 #[.string (B k), .string (B l)] w fun e w' => e = .returned (.string (B (firstL k l))) ∧ w = w' := by
  by_cases h : l = []
  · have e : B (firstL k l) = B k ++ ⟨#[58]⟩ := by unfold firstL; rw [if_pos h]; exact (B_append k [58]).symm
    rw [e]
    subst h
    have hz := B_size k
    generalize B k = s at *
    rw [show B [] = ⟨#[]⟩ from rfl]
    go_enter Tryz.func142, Tryz.ntmps142
    go_wp2
    go_ret
    exact ⟨rfl, rfl⟩
  · have e : B (firstL k l) = ((B k ++ ⟨#[58]⟩) ++ ⟨#[32]⟩) ++ B l := by
      unfold firstL; rw [if_neg h]
      rw [show (⟨#[58]⟩ : ByteArray) = B [58] from rfl, show (⟨#[32]⟩ : ByteArray) = B [32] from rfl, B_append, B_append, B_append]; simp
    rw [e]
    obtain ⟨n1, n2⟩ := B_empty h
    have hz := B_size k
    have hz2 := B_size l
    generalize B k = s at *
    generalize B l = t at *
    clear e
    go_enter Tryz.func142, Tryz.ntmps142
    go_wp2
    go_ret
    exact ⟨rfl, rfl⟩
theorem pre_dot (l : List UInt8) : Lib.hasPrefix l [46] = (l.head? == some 46) := by
  unfold Lib.hasPrefix
  cases l with
  | nil => rfl
  | cons a t => simp [List.isPrefixOf, Bool.beq_comm]
theorem dot_any (l : List UInt8) (w : World) :
    Calls Tryz.prog 107 #[.string (B l), .string ⟨#[46]⟩] w fun e w' => e = .returned (.bool (l.head? == some 46)) ∧ w = w' := by
  refine (Tryz.strings_HasPrefix (B l) ⟨#[46]⟩ _).mono ?_
  rw [show (⟨#[46]⟩ : ByteArray).data.toList = [46] from rfl, pre_dot, B_data]
  rintro e w' ⟨rfl, rfl⟩
  exact ⟨rfl, rfl⟩
set_option maxHeartbeats 1000000 in
theorem further_any (l : List UInt8) (hl : l.length ≤ 100000) (w : World) :
    Calls Tryz.prog 143 #[.string (B l)] w fun e w' => e = .returned (.string (B (furtherL l))) ∧ Below w.heap.size w w' := by
  have hz := B_size l
  cases hb : blankAll l with
  | true =>
    have e : B (furtherL l) = ⟨#[32, 46]⟩ ++ B l := by
      unfold furtherL dotted; rw [hb]; exact (B_append [32, 46] l).symm
    rw [e]
    have T := fun w => trim_yes (B l) (by omega) (by rw [B_data]; exact hb) w
    clear e hb
    generalize B l = s at *
    go_enter Tryz.func143, Tryz.ntmps143
    go_wp2_with (go_at_call 174; refine (T _).mono ?_; rintro e w1 ⟨rfl, b1⟩)
    go_ret
    exact ⟨rfl, b1⟩
  | false =>
    have T := fun w => trim_no (B l) (by omega) w
    obtain ⟨n1, n2⟩ := trimmed_ne (B l) (by rw [B_data]; exact hb)
    have D := dot_any l
    generalize trimmed (B l) = tr at *
    cases hd : (l.head? == some 46) with
    | true =>
      have e : B (furtherL l) = ⟨#[32, 46]⟩ ++ B l := by
        unfold furtherL dotted; rw [hb, hd]; exact (B_append [32, 46] l).symm
      rw [e]
      rw [hd] at D
      clear e hb hd
      generalize B l = s at *
      go_enter Tryz.func143, Tryz.ntmps143
      go_wp2_with (first | (go_at_call 174; refine (T _).mono ?_; rintro e w1 ⟨rfl, b1⟩) | (go_at_call 107; refine (D _).mono ?_; rintro e w2 ⟨rfl, rfl⟩))
      go_ret
      exact ⟨rfl, b1⟩
    | false =>
      have e : B (furtherL l) = ⟨#[32]⟩ ++ B l := by
        unfold furtherL dotted; rw [hb, hd]; exact (B_append [32] l).symm
      rw [e]
      rw [hd] at D
      clear e hb hd
      generalize B l = s at *
      go_enter Tryz.func143, Tryz.ntmps143
      go_wp2_with (first | (go_at_call 174; refine (T _).mono ?_; rintro e w1 ⟨rfl, b1⟩) | (go_at_call 107; refine (D _).mono ?_; rintro e w2 ⟨rfl, rfl⟩))
      go_ret
      exact ⟨rfl, b1⟩
def fieldV (k v : List UInt8) : Value := .agg #[.string (B k), .string (B v)]
attribute [local go_sem] errV_0 errV_5 errV_6
set_option maxHeartbeats 1000000 in
theorem check_any (k v : List UInt8) (hk : k.length ≤ 1000000) (hv : v.length ≤ 1000000) (w : World) :
    Calls Tryz.prog 122 #[fieldV k v] w fun e w' => e = .returned (errV (checkN k v)) ∧ Below w.heap.size w w' := by
  have K := fun w => key_any (B k) (by rw [B_size]; unfold maxLen; omega) w
  rw [B_data] at K
  have hz := B_size v
  unfold checkN fieldV
  generalize B k = s at *
  cases hg : goodKey k with
  | false =>
    rw [hg] at K
    generalize B v = t at *
    go_enter Tryz.func122, Tryz.ntmps122
    go_wp2_with (go_at_call 164; refine (K _).mono ?_; rintro e w1 ⟨rfl, rfl⟩)
    go_ret
    exact ⟨rfl, (Below.refl _ _).alloc (Nat.le_refl _) _⟩
  | true =>
    rw [hg] at K
    by_cases h : v.length ≤ 1000
    · rw [if_pos rfl, if_pos h]
      rw [← hz] at h
      generalize B v = t at *
      go_enter Tryz.func122, Tryz.ntmps122
      go_wp2_with (go_at_call 164; refine (K _).mono ?_; rintro e w1 ⟨rfl, rfl⟩)
      go_ret
      exact ⟨rfl, (Below.refl _ _).alloc (Nat.le_refl _) _⟩
    · rw [if_pos rfl, if_neg h]
      rw [← hz] at h
      generalize B v = t at *
      go_enter Tryz.func122, Tryz.ntmps122
      go_wp2_with (go_at_call 164; refine (K _).mono ?_; rintro e w1 ⟨rfl, rfl⟩)
      go_ret
      exact ⟨rfl, (Below.refl _ _).alloc (Nat.le_refl _) _⟩
set_option maxHeartbeats 1000000 in
theorem refCheck_any (k v : List UInt8) (hk : k.length ≤ 1000000) (hv : v.length ≤ 1000000) (w : World) :
    Calls Tryz.prog 127 #[fieldV k v] w fun e w' => e = .returned (.int .i64 (checkN k v : Nat)) ∧ Below w.heap.size w w' := by
  have K := fun w => refKey_any (B k) (by rw [B_size]; omega) w
  rw [B_data] at K
  have hz := B_size v
  unfold checkN fieldV
  generalize B k = s at *
  cases hg : goodKey k with
  | false =>
    rw [hg] at K
    generalize B v = t at *
    go_enter Tryz.func127, Tryz.ntmps127
    go_wp2_with (go_at_call 153; refine (K _).mono ?_; rintro e w1 ⟨rfl, rfl⟩)
    go_ret
    exact ⟨rfl, (Below.refl _ _).alloc (Nat.le_refl _) _⟩
  | true =>
    rw [hg] at K
    by_cases h : v.length ≤ 1000
    · rw [if_pos rfl, if_pos h]
      rw [← hz] at h
      generalize B v = t at *
      go_enter Tryz.func127, Tryz.ntmps127
      go_wp2_with (go_at_call 153; refine (K _).mono ?_; rintro e w1 ⟨rfl, rfl⟩)
      go_ret
      exact ⟨rfl, (Below.refl _ _).alloc (Nat.le_refl _) _⟩
    · rw [if_pos rfl, if_neg h]
      rw [← hz] at h
      generalize B v = t at *
      go_enter Tryz.func127, Tryz.ntmps127
      go_wp2_with (go_at_call 153; refine (K _).mono ?_; rintro e w1 ⟨rfl, rfl⟩)
      go_ret
      exact ⟨rfl, (Below.refl _ _).alloc (Nat.le_refl _) _⟩

theorem parts_first (l : List UInt8) (h : (10 : UInt8) ∈ l) : partsL l = l.take (l.takeWhile (· != 10)).length :: partsL (l.drop ((l.takeWhile (· != 10)).length + 1)) := by
  have e : l = l.takeWhile (· != 10) ++ 10 :: l.drop ((l.takeWhile (· != 10)).length + 1) := by
    have a := head_split l
    unfold head nl used at a
    have hc : l.contains 10 = true := by simpa using h
    unfold head nl at a
    rw [if_pos hc, if_pos hc] at a
    simpa using a
  have hp : (10 : UInt8) ∉ l.takeWhile (· != 10) := fun hm => by have := List.all_eq_true.1 (List.all_takeWhile (l := l) (p := (· != 10))) _ hm; simp at this
  have ht : l.take (l.takeWhile (· != 10)).length = l.takeWhile (· != 10) := (List.prefix_iff_eq_take.1 (List.takeWhile_prefix _)).symm
  rw [ht]
  conv => lhs; rw [e]
  exact partsL_pre _ _ hp
theorem splitK_parts : ∀ (k : Nat) (l : List UInt8), l.count 10 = k → Lib.splitK [10] 0 k l = partsL l
  | 0, l, h => by
    have : (10 : UInt8) ∉ l := List.count_eq_zero.1 h
    rw [partsL_one l this]; rfl
  | k + 1, l, h => by
    have hm : (10 : UInt8) ∈ l := List.count_pos_iff.1 (by omega)
    have hp := parts_first l hm
    have hl := partsL_len l
    rcases indexByte_cases l 10 with ⟨_, h2⟩ | ⟨h1, _⟩
    · exact absurd hm h2
    · unfold Lib.splitK
      rw [Lib.index_one, h1]
      rw [hp] at hl
      have hl2 := partsL_len (l.drop ((l.takeWhile (· != 10)).length + 1))
      rw [if_neg (by simp <;> omega), hp]
      simp only [Int.toNat_natCast, Nat.add_zero, List.length_singleton]
      rw [splitK_parts k _ (by simp only [List.length_cons] at hl; omega)]
theorem split_pieces (l : List UInt8) : Lib.splitB ⟨#[10]⟩ 0 (Lib.countB (B l) ⟨#[10]⟩) (B l) = (partsL l).map B ∧ Lib.countB (B l) ⟨#[10]⟩ + 1 = (partsL l).length := by
  have hc : Lib.countB (B l) ⟨#[10]⟩ = l.count 10 := by
    show Lib.count (B l).data.toList [10] = _
    rw [Lib.count_one, B_data]
  have h := Lib.splitB_data ⟨#[10]⟩ 0 (Lib.countB (B l) ⟨#[10]⟩) (B l)
  rw [B_data, hc] at h
  rw [hc]
  refine ⟨?_, (partsL_len l).symm⟩
  have h2 : Lib.splitK (⟨#[10]⟩ : ByteArray).data.toList 0 (l.count 10) l = partsL l := splitK_parts _ l rfl
  rw [h2] at h
  rw [← h, List.map_map]
  conv => lhs; rw [← List.map_id (Lib.splitB ⟨#[10]⟩ 0 (l.count 10) (B l))]
  exact List.map_congr_left fun s _ => (B_of s).symm
theorem fieldInfo : (Tryz.prog.info? 9).map (fun i => (i.zero, i.size, i.bytes)) = some (some (.string ByteArray.empty), 1, 16) := by kernel_rfl
set_option maxHeartbeats 1000000 in
theorem split_any' (l : List UInt8) (hl : l.length ≤ 1000000) (w : World) :
    Calls Tryz.prog 141 #[.string (B l), .string ⟨#[10]⟩] w fun e w' =>
      e = .returned (.slice (some ⟨w.heap.size, 0, none⟩) (partsL l).length (partsL l).length) ∧ w' = w.alloc (.cells (((partsL l).map B).map Value.string).toArray 9) := by
  obtain ⟨p1, p2⟩ := split_pieces l
  have hz := B_size l
  have c := Any.strings_genSplit_core Tryz.lays221 fieldInfo (B l) ⟨#[10]⟩ 0 (-1) (Lib.countB (B l) ⟨#[10]⟩ + 1) w (by omega) (by decide) (Nat.zero_le _)
    (fun x cc hx => (Tryz.strings_Index_one x 10 _).mono (fun e w' ⟨he, hw⟩ => ⟨by rw [he]; show _ = Ending.returned (Value.int .i64 (Lib.index x.data.toList [10])); rw [Lib.index_one], hw⟩))
    ((Tryz.strings_Count_one (B l) 10 w).mono (fun e w' ⟨he, hw⟩ => ⟨by rw [he]; show _ = Ending.returned (Value.int .i64 ((Lib.count (B l).data.toList [10] : Nat) : Int)); rw [Lib.count_one]; rfl, hw⟩))
    (by decide) (by decide) (by
      have := Lib.countB_le ⟨#[10]⟩ (by decide) (B l).size (B l) (Nat.le_refl _)
      rw [if_pos (by decide)]; omega)
  rw [Nat.add_sub_cancel, p1] at c
  have e2 : Lib.cellsOf ((partsL l).map B) (Lib.countB (B l) ⟨#[10]⟩ + 1) = (((partsL l).map B).map Value.string).toArray := by
    rw [p2, show (partsL l).length = ((partsL l).map B).length by simp]; exact Lib.cellsOf_full _
  rw [e2, List.length_map, p2] at c
  generalize (partsL l).length = n at *
  generalize (((partsL l).map B).map Value.string).toArray = cs at *
  clear p1 p2 e2
  generalize B l = s at *
  go_enter Tryz.func141, Tryz.ntmps141
  go_wp2_with (go_at_call 173; refine c.mono ?_; rintro e w' ⟨rfl, rfl⟩)
  go_ret
  exact ⟨rfl, rfl⟩
end Go.Proofs.YtkcklnnmcmjnjaaGreatDoor

namespace Go.Proofs.YtkcklnnmcmjnjaaGreatDoor
open Go.RowKit Go.Shelf

theorem own_kept {w w' : World} {base N : Nat} {e : TypeId} {size : Nat} {v : Value} {n : Nat} {xs : List Value} (h : w.ownsRow base e size v n xs) (hb : Below N w w') (hN : w.heap.size ≤ N) : w'.ownsRow base e size v n xs := by
  refine ⟨h.1, ?_⟩
  rcases h.2 with hn | ⟨g, cap, cur, hv, hg, hc, rest⟩
  · exact .inl hn
  · refine .inr ⟨g, cap, cur, hv, hg, ?_, rest⟩
    have : g < w.heap.size := (Array.getElem?_eq_some_iff.1 hc).1
    exact (hb.block g (by omega)).trans hc
/-- An owned row of texts. -/
def OwnS (w : World) (base : Nat) (v : Value) (ss : List ByteArray) : Prop := w.ownsRow base 9 1 v ss.length (ss.map Value.string)
theorem OwnS.kept {w w' : World} {base N : Nat} {v : Value} {ss : List ByteArray} (h : OwnS w base v ss) (hb : Below N w w') (hN : w.heap.size ≤ N) : OwnS w' base v ss := own_kept h hb hN
theorem OwnS.strs {w : World} {base : Nat} {v : Value} {ss : List ByteArray} (h : OwnS w base v ss) : Strs w v ss := by
  rcases Joins.ownsRow_forms h with ⟨rfl, hn⟩ | ⟨g, cap, rfl⟩
  · have : ss = [] := by cases ss with | nil => rfl | cons _ _ => simp at hn
    subst this
    exact Strs.none _ _
  · refine ⟨_, cap, rfl, (by rcases h.2 with ⟨q, _⟩ | ⟨g', cap', cur, q, _, _, q2, _⟩; cases q; cases q; exact q2), fun i s hs => ⟨g, 0, rfl, (World.ownsRow.lt h g rfl).2, ?_⟩⟩
    have hi : i < ss.length := by
      rcases Nat.lt_or_ge i ss.length with q | q
      · exact q
      · rw [List.getElem?_eq_none q] at hs; cases hs
    rw [Nat.zero_add, World.ownsRow.cellAt h i (by omega), List.getElem?_map, hs]; rfl
theorem OwnS.one (w : World) (base : Nat) (hb : base ≤ w.heap.size) (s : ByteArray) : OwnS (w.alloc (.cells #[.string s] 9)) base (.slice (some ⟨w.heap.size, 0, none⟩) 1 1) [s] :=
  World.ownsRow_lit w #[.string s] 1 hb (by decide) rfl
theorem strCell (W : World) (x : ByteArray) (t : TypeId) : ∀ (j : Nat) u, [Value.string x][j]? = some u → (W.alloc (.cells #[.string x] t)).cell? ((⟨W.heap.size, 0, none⟩ : Addr).add j) = some u := by
  intro j u h
  have hadd : (⟨W.heap.size, 0, none⟩ : Addr).add j = ⟨W.heap.size, j, none⟩ := by unfold Addr.add; split <;> simp_all
  rw [hadd, World.cell?_alloc_at _ _ _ _ rfl]
  match j, h with
  | 0, h => simpa using h
theorem linesLen {k v : List UInt8} {p : List UInt8} {r : List (List UInt8)} (h : partsL v = p :: r) : linesL k v = firstL k p :: r.map furtherL := by unfold linesL; rw [h]; rfl
theorem le_sum : ∀ (r : List (List UInt8)) (q : List UInt8), q ∈ r → q.length ≤ (r.map List.length).sum
  | [], q, h => by simp at h
  | a :: r, q, h => by
    rcases List.mem_cons.1 h with rfl | h
    · simp
    · have := le_sum r q h; simp; omega
theorem piece_le {v p : List UInt8} {r : List (List UInt8)} (h : partsL v = p :: r) : p.length ≤ v.length ∧ (∀ q ∈ r, q.length ≤ v.length) ∧ r.length ≤ v.length := by
  have a := parts_le v
  rw [h] at a
  simp only [List.map_cons, List.sum_cons, List.length_cons] at a
  refine ⟨by omega, fun q hq => ?_, by omega⟩
  have : q.length ≤ (r.map List.length).sum := le_sum _ _ hq
  omega

attribute [local go_sem] errV_0
set_option maxHeartbeats 1000000 in
theorem lines_bad (k v : List UInt8) (hk : k.length ≤ 100000) (hv : v.length ≤ 100000) (w : World) (h : checkN k v ≠ 0) :
    Calls Tryz.prog 105 #[fieldV k v] w fun e w' => e = .returned (.tuple #[.slice none 0 0, errV (checkN k v)]) ∧ Below w.heap.size w w' := by
  have C := fun w => check_any k v (by omega) (by omega) w
  rw [errV_pos _ (Nat.pos_of_ne_zero h)] at C ⊢
  generalize checkN k v = n at *
  unfold fieldV at *
  generalize B k = s at *
  generalize B v = t at *
  go_enter Tryz.func105, Tryz.ntmps105
  go_wp2_with (go_at_call 122; refine (C _).mono ?_; rintro e w1 ⟨rfl, b1⟩; have c0 := b1.cell (p := ⟨w.heap.size, 0, none⟩) (by simp); have c1 := b1.cell (p := ⟨w.heap.size, 1, none⟩) (by simp))
  go_ret2
  exact ⟨rfl, ((Below.refl _ _).alloc (Nat.le_refl _) _).trans (b1.mono (by simp))⟩
end Go.Proofs.YtkcklnnmcmjnjaaGreatDoor

