import Derived.Test.YtbondapdjolmiaaJ
namespace Go.Proofs.Ytbondapdjolmiaa
open Go.RowKit
theorem takeV_of {l : List UInt8} {n : Nat} (h : takes l = some n) : takeV l = .tuple #[.int .u32 (n : Nat), .bool true] := by unfold takeV; rw [h]
theorem takeV_not {l : List UInt8} (h : takes l = none) : takeV l = .tuple #[.int .u32 0, .bool false] := by unfold takeV; rw [h]
theorem take_yes (s : ByteArray) (n : Nat) (h : takes s.data.toList = some n) (w : World) (hs : s.size ≤ maxLen) :
    Calls Try.prog 15 #[.string s] w fun e w' => e = .returned (.tuple #[.int .u32 (n : Nat), .bool true]) ∧ w = w' :=
  (take_any s w hs).mono fun _ _ ⟨he, hw⟩ => ⟨by rw [he, takeV_of h], hw⟩
theorem take_no (s : ByteArray) (h : takes s.data.toList = none) (w : World) (hs : s.size ≤ maxLen) :
    Calls Try.prog 15 #[.string s] w fun e w' => e = .returned (.tuple #[.int .u32 0, .bool false]) ∧ w = w' :=
  (take_any s w hs).mono fun _ _ ⟨he, hw⟩ => ⟨by rw [he, takeV_not h], hw⟩
theorem refTake_yes (s : ByteArray) (n : Nat) (h : takes s.data.toList = some n) (w : World) (hs : s.size ≤ maxLen) :
    Calls Try.prog 16 #[.string s] w fun e w' => e = .returned (.tuple #[.int .u32 (n : Nat), .bool true]) ∧ Below w.heap.size w w' :=
  (refTake_any s w hs).mono fun _ _ ⟨he, hw⟩ => ⟨by rw [he, takeV_of h], hw⟩
theorem refTake_no (s : ByteArray) (h : takes s.data.toList = none) (w : World) (hs : s.size ≤ maxLen) :
    Calls Try.prog 16 #[.string s] w fun e w' => e = .returned (.tuple #[.int .u32 0, .bool false]) ∧ Below w.heap.size w w' :=
  (refTake_any s w hs).mono fun _ _ ⟨he, hw⟩ => ⟨by rw [he, takeV_not h], hw⟩
theorem toList_of {a b : ByteArray} (h : a.data.toList = b.data.toList) : a = b := by
  apply ByteArray.ext
  exact Array.toList_inj.1 h
theorem figs_beq (a b : Nat) (ha : a < 4294967296) (hb : b < 4294967296) : ((figs a).toList == (figs b).toList) = ((a : Int) == (b : Int)) := by
  by_cases h : a = b
  · subst h; simp
  · have h1 : (figs a).toList ≠ (figs b).toList := fun e => h (figs_inj ha hb (by simpa [ByteArray.toList_eq] using e))
    have h2 : (a : Int) ≠ (b : Int) := by omega
    rw [beq_eq_false_iff_ne.2 h1, beq_eq_false_iff_ne.2 h2]
theorem size_figs (x : Nat) : (figs x).size ≤ maxLen := by show 8 ≤ maxLen; unfold maxLen; omega
set_option maxHeartbeats 1000000 in
theorem figLaw_any (a b : Nat) (ha : a < 4294967296) (hb : b < 4294967296) (t : ByteArray) (ht : t.size ≤ maxLen) (w : World) :
    Calls Try.prog 5 #[.int .u32 a, .int .u32 b, .string t] w fun e w' => e = .returned (.bool true) ∧ Below w.heap.size w w' := by
  have hfb := figs_beq a b ha hb
  cases hq : takes t.data.toList with
  | none =>
    go_enter Try.func5, Try.ntmps5
    go_wp2_with fail
    refine (alive_any _).mono ?_
    rintro e w1 ⟨rfl, hb1⟩
    go_wp2_with fail
    refine (figures_any _ ha _).mono ?_
    rintro e w2 ⟨rfl, hb2⟩
    go_wp2_with fail
    refine (figures_any _ hb _).mono ?_
    rintro e w3 ⟨rfl, hb3⟩
    go_wp2_with fail
    refine (take_no _ hq _ ht).mono ?_
    rintro e w4 ⟨rfl, rfl⟩
    go_wp2_with fail
    refine (refTake_no _ hq _ ht).mono ?_
    rintro e w4 ⟨rfl, hb4⟩
    go_wp2_with fail
    refine (take_yes _ a (takes_figs a ha) _ (size_figs a)).mono ?_
    rintro e w5 ⟨rfl, rfl⟩
    go_wp2_with fail
    refine (refFigures_any _ ha _).mono ?_
    rintro e w5 ⟨rfl, rfl⟩
    go_wp2_with fail
    go_ret
    exact ⟨rfl, below2 hb1 (below2 hb2 (below2 hb3 hb4))⟩
  | some n =>
    obtain ⟨hft, hn⟩ := figs_takes hq
    have hft' : figs n = t := toList_of hft
    have HF := Lib.hid hft'
    clear hft hft'
    go_enter Try.func5, Try.ntmps5
    go_wp2_with fail
    refine (alive_any _).mono ?_
    rintro e w1 ⟨rfl, hb1⟩
    go_wp2_with fail
    refine (figures_any _ ha _).mono ?_
    rintro e w2 ⟨rfl, hb2⟩
    go_wp2_with fail
    refine (figures_any _ hb _).mono ?_
    rintro e w3 ⟨rfl, hb3⟩
    go_wp2_with fail
    refine (take_yes _ _ hq _ ht).mono ?_
    rintro e w4 ⟨rfl, rfl⟩
    go_wp2_with fail
    refine (refTake_yes _ _ hq _ ht).mono ?_
    rintro e w4 ⟨rfl, hb4⟩
    go_wp2_with fail
    refine (take_yes _ a (takes_figs a ha) _ (size_figs a)).mono ?_
    rintro e w5 ⟨rfl, rfl⟩
    go_wp2_with fail
    refine (refFigures_any _ ha _).mono ?_
    rintro e w5 ⟨rfl, rfl⟩
    go_wp2_with fail
    refine (figures_any _ hn _).mono ?_
    rintro e w5 ⟨rfl, hb5⟩
    rw [HF.out]
    go_wp2_with fail
    go_ret
    exact ⟨rfl, below2 hb1 (below2 hb2 (below2 hb3 (below2 hb4 hb5)))⟩
end Go.Proofs.Ytbondapdjolmiaa
