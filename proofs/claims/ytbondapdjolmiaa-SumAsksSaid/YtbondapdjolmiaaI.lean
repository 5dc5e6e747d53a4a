import Derived.Test.YtbondapdjolmiaaH
namespace Go.Proofs.Ytbondapdjolmiaa
open Go.RowKit
theorem strs2 (a b : ByteArray) (w : World) : Strs (w.alloc (.cells #[.string a, .string b] 9)) (.slice (some ⟨w.heap.size, 0, none⟩) 2 2) [a, b] := by
  refine ⟨_, 2, rfl, ?_⟩
  intro i s h
  refine ⟨w.heap.size, 0, rfl, by simp, ?_⟩
  rw [World.cell?_alloc_at _ _ _ _ rfl]
  match i, h with
  | 0, h => simp at h; subst h; rfl
  | 1, h => simp at h; subst h; rfl
  | n + 2, h => simp at h
theorem sum2_any (a b : ByteArray) (ha : a.size ≤ maxLen) (hb : b.size ≤ maxLen) (w : World) :
    Calls Try.prog 10 #[.slice (some ⟨w.heap.size, 0, none⟩) 2 2] (w.alloc (.cells #[.string a, .string b] 9)) fun e w' => e = .returned (.int .u32 (M.crc (a.data.toList ++ b.data.toList) : Nat)) ∧ Below w.heap.size w w' :=
  (sum_any _ [a, b] _ (strs2 a b w) (by simp [maxLen]) (fun i s h => by
    match i, h with
    | 0, h => simp at h; subst h; exact ha
    | 1, h => simp at h; subst h; exact hb
    | n + 2, h => simp at h)).mono fun e w' ⟨he, hb⟩ => ⟨by rw [he]; simp [cat, M.crc], ((Below.refl _ _).alloc (Nat.le_refl _) _).trans (hb.mono (by simp))⟩
theorem is2_any (f a b : ByteArray) (ha : a.size ≤ maxLen) (hb : b.size ≤ maxLen) (w : World) :
    Calls Try.prog 13 #[.string f, .slice (some ⟨w.heap.size, 0, none⟩) 2 2] (w.alloc (.cells #[.string a, .string b] 9)) fun e w' => e = .returned (.bool (f.toList == (figs (M.crc (a.data.toList ++ b.data.toList))).toList)) ∧ Below w.heap.size w w' :=
  (is_any f _ [a, b] _ (strs2 a b w) (by simp [maxLen]) (fun i s h => by
    match i, h with
    | 0, h => simp at h; subst h; exact ha
    | 1, h => simp at h; subst h; exact hb
    | n + 2, h => simp at h)).mono fun e w' ⟨he, hb⟩ => ⟨by rw [he]; simp [cat], ((Below.refl _ _).alloc (Nat.le_refl _) _).trans (hb.mono (by simp))⟩
theorem example_sum : M.crc [49, 50, 51, 52, 53, 54, 55, 56, 57] = 4236843288 := by decide +kernel
set_option maxHeartbeats 400000 in
theorem alive_any (w : World) :
    Calls Try.prog 8 #[] w fun e w' => e = .returned (.bool true) ∧ Below w.heap.size w w' := by
  go_enter Try.func8, Try.ntmps8
  go_wp2_with fail
  refine (sum2_any ⟨#[49, 50, 51, 52]⟩ ⟨#[53, 54, 55, 56, 57]⟩ (by decide) (by decide) w).mono ?_
  rintro e w1 ⟨rfl, hb1⟩
  rw [show (⟨#[49, 50, 51, 52]⟩ : ByteArray).data.toList ++ (⟨#[53, 54, 55, 56, 57]⟩ : ByteArray).data.toList = [49, 50, 51, 52, 53, 54, 55, 56, 57] from rfl, example_sum]
  go_wp2_with fail
  go_ret
  exact ⟨rfl, hb1⟩
theorem below2 {w w1 w2 : World} (h : Below w.heap.size w w1) (h2 : Below w1.heap.size w1 w2) : Below w.heap.size w w2 := h.trans (h2.mono h.size)
theorem concat_list (a b : ByteArray) : (a ++ b).data.toList = a.data.toList ++ b.data.toList := by simp
theorem concat_size (a b : ByteArray) : (a ++ b).size = a.size + b.size := by simp
set_option maxHeartbeats 1000000 in
theorem sums_any (a b : ByteArray) (x : Nat) (hx : x < 4294967296) (ha : a.size ≤ maxLen) (hb : b.size ≤ maxLen) (w : World) :
    Calls Try.prog 3 #[.string a, .string b, .int .u32 x] w fun e w' => e = .returned (.bool true) ∧ Below w.heap.size w w' := by
  by_cases h1 : 5000 < a.size
  · go_enter Try.func3, Try.ntmps3
    go_wp2_with fail
    refine (alive_any _).mono ?_
    rintro e w1 ⟨rfl, hb1⟩
    go_wp2_with fail
    go_ret
    exact ⟨rfl, hb1⟩
  · by_cases h2 : 5000 < b.size
    · go_enter Try.func3, Try.ntmps3
      go_wp2_with fail
      refine (alive_any _).mono ?_
      rintro e w1 ⟨rfl, hb1⟩
      go_wp2_with fail
      go_ret
      exact ⟨rfl, hb1⟩
    · have hab : (a ++ b).size ≤ maxLen := by rw [concat_size]; unfold maxLen; omega
      go_enter Try.func3, Try.ntmps3
      go_wp2_with fail
      refine (alive_any _).mono ?_
      rintro e w1 ⟨rfl, hb1⟩
      go_wp2_with fail
      refine (refSum_any _ _ hab).mono ?_
      rintro e w2 ⟨rfl, rfl⟩
      rw [concat_list]
      go_wp2_with fail
      refine (sum2_any a b ha hb _).mono ?_
      rintro e w2 ⟨rfl, hb2⟩
      go_wp2_with fail
      refine (refSum_any _ _ ha).mono ?_
      rintro e w3 ⟨rfl, rfl⟩
      go_wp2_with fail
      refine (add_any _ (M.crc_lt _) _ _ hb).mono ?_
      rintro e w3 ⟨rfl, hb3⟩
      rw [M.add_crc]
      go_wp2_with fail
      refine (add_any _ hx _ _ hb).mono ?_
      rintro e w4 ⟨rfl, hb4⟩
      go_wp2_with fail
      refine (refAdd_any _ hx _ _ hb).mono ?_
      rintro e w5 ⟨rfl, rfl⟩
      rw [show (4294967295 - M.feed (4294967295 - x) b.data.toList) = M.add x b.data.toList from rfl]
      go_wp2_with fail
      go_ret
      exact ⟨rfl, below2 hb1 (below2 hb2 (below2 hb3 hb4))⟩
end Go.Proofs.Ytbondapdjolmiaa
