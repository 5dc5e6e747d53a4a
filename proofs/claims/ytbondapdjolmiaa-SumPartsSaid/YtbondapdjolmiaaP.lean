import Derived.Test.YtbondapdjolmiaaI
import Derived.Test.YtbondapdjolmiaaO
namespace Go.Proofs.Ytbondapdjolmiaa
open Go.RowKit
theorem strs1 (a : ByteArray) (w : World) : Strs (w.alloc (.cells #[.string a] 9)) (.slice (some ⟨w.heap.size, 0, none⟩) 1 1) [a] := by
  refine ⟨_, 1, rfl, ?_⟩
  intro i s h
  refine ⟨w.heap.size, 0, rfl, by simp, ?_⟩
  rw [World.cell?_alloc_at _ _ _ _ rfl]
  match i, h with
  | 0, h => simp at h; subst h; rfl
  | n + 1, h => simp at h
theorem sum1_any (a : ByteArray) (ha : a.size ≤ maxLen) (w : World) :
    Calls Try.prog 10 #[.slice (some ⟨w.heap.size, 0, none⟩) 1 1] (w.alloc (.cells #[.string a] 9)) fun e w' => e = .returned (.int .u32 (M.crc a.data.toList : Nat)) ∧ Below w.heap.size w w' :=
  (sum_any _ [a] _ (strs1 a w) (by simp [maxLen]) (fun i s h => by
    match i, h with
    | 0, h => simp at h; subst h; exact ha
    | n + 1, h => simp at h)).mono fun e w' ⟨he, hb⟩ => ⟨by rw [he]; simp [cat, M.crc], ((Below.refl _ _).alloc (Nat.le_refl _) _).trans (hb.mono (by simp))⟩
theorem is1_any (f a : ByteArray) (ha : a.size ≤ maxLen) (w : World) :
    Calls Try.prog 13 #[.string f, .slice (some ⟨w.heap.size, 0, none⟩) 1 1] (w.alloc (.cells #[.string a] 9)) fun e w' => e = .returned (.bool (f.toList == (figs (M.crc a.data.toList)).toList)) ∧ Below w.heap.size w w' :=
  (is_any f _ [a] _ (strs1 a w) (by simp [maxLen]) (fun i s h => by
    match i, h with
    | 0, h => simp at h; subst h; exact ha
    | n + 1, h => simp at h)).mono fun e w' ⟨he, hb⟩ => ⟨by rw [he]; simp [cat], ((Below.refl _ _).alloc (Nat.le_refl _) _).trans (hb.mono (by simp))⟩
theorem StrsIn.below {w w' : World} {v : Value} {ss : List ByteArray} (h : StrsIn w v ss) (hb : Below w.heap.size w w') : StrsIn w' v ss := by
  obtain ⟨⟨A, cap, hv, hc⟩, hl, he⟩ := h
  refine ⟨⟨A, cap, hv, fun i s hs => ?_⟩, hl, he⟩
  obtain ⟨b, off, hA, hlt, hcell⟩ := hc i s hs
  exact ⟨b, off, hA, Nat.lt_of_lt_of_le hlt hb.size, (hb.cell (p := ⟨b, off + i, none⟩) hlt).trans hcell⟩
/-- strings, one behind the other -/
def catB (ss : List ByteArray) : ByteArray := ⟨(cat ss).toArray⟩
theorem catB_snoc (ss : List ByteArray) (k : Nat) (s : ByteArray) (h : ss[k]? = some s) : catB (ss.take k) ++ s = catB (ss.take (k + 1)) := by
  apply ByteArray.ext
  rw [catB, catB, cat_snoc ss k s h]
  simp [catB]
theorem catB_size (ss : List ByteArray) (k : Nat) (h : ∀ i s, i < k → ss[i]? = some s → s.size ≤ 1000) : (catB (ss.take k)).size ≤ 1000 * k := by
  induction k with
  | zero => simp [catB, cat, ByteArray.size]
  | succ k ih =>
    have h' := ih fun i s hi hs => h i s (by omega) hs
    cases hs : ss[k]? with
    | none =>
      have : ss.length ≤ k := by simpa using hs
      rw [List.take_of_length_le (by omega)]
      rw [List.take_of_length_le (by omega)] at h'
      omega
    | some s =>
      rw [← catB_snoc ss k s hs, concat_size]
      have := h k s (by omega) hs
      omega
set_option maxHeartbeats 1000000 in
theorem parts_any (v : Value) (ss : List ByteArray) (w : World) (hin : StrsIn w v ss) :
    Calls Try.prog 4 #[v] w fun e w' => e = .returned (.bool true) ∧ Below w.heap.size w w' := by
  have hv := hin.strs
  obtain ⟨A, cap, rfl, hc⟩ := hv
  have hl := hin.len
  unfold maxLen at hl
  have hall := hin.each
  go_enter Try.func4, Try.ntmps4
  go_wp2_with fail
  refine (alive_any _).mono ?_
  rintro e w1 ⟨rfl, hb1⟩
  go_wp2_with fail
  go_loopw [3, 4, 11] (fun t n i wr => ∃ k : Nat, k ≤ ss.length ∧ k ≤ 51 ∧ i = .int .i64 k ∧ t = .string (catB (ss.take k)) ∧ n = .int .u32 (M.crc (cat (ss.take k)) : Nat) ∧ (∀ i s, i < k → ss[i]? = some s → s.size ≤ 1000) ∧ Below w.heap.size w wr) (fun _ _ i _ => ss.length - (intOf i).toNat)
  case atStart => exact ⟨0, by omega, by omega, rfl, rfl, by simp [cat, M.crc, M.feed], fun i s h => by omega, hb1⟩
  case round =>
    obtain ⟨k, hk, hk51, rfl, rfl, rfl, hsm, hb⟩ := hrel
    have hcs := catB_size ss k hsm
    by_cases hlt : k < ss.length
    · obtain ⟨s, hsk⟩ : ∃ s, ss[k]? = some s := ⟨_, List.getElem?_eq_getElem hlt⟩
      obtain ⟨b, off, rfl, hbb, hcell⟩ := hc k s hsk
      have hcw : wr.cell? ⟨b, off + k, none⟩ = some (.string s) := (hb.cell (p := ⟨b, off + k, none⟩) hbb).trans hcell
      have HC := Lib.hid hc
      have HA := Lib.hid hall
      have HM := Lib.hid hsm
      clear hc hall hsm hcell hbb hin
      by_cases h50 : 50 < k
      · go_wp2_with fail
        go_ret
        exact ⟨rfl, hb⟩
      · by_cases hs1 : 1000 < s.size
        · go_wp2_with fail
          go_ret
          exact ⟨rfl, hb⟩
        · have hsize : s.size ≤ maxLen := by unfold maxLen; omega
          have HB := Lib.hid (catB_snoc ss k s hsk)
          have HD : Hid (M.crc (cat (ss.take (k + 1))) = M.add (M.crc (cat (ss.take k))) s.data.toList) := by
            show _ = _
            rw [cat_snoc ss k s hsk, M.add_crc]
          have HK := Lib.hid hsk
          clear hsk
          have hx := M.crc_lt (cat (ss.take k))
          generalize M.crc (cat (ss.take k)) = x0 at *
          go_wp2_with fail
          refine (add_any _ hx _ _ hsize).mono ?_
          rintro e w2 ⟨rfl, hb2⟩
          go_wp2_with fail
          go_roundw
          case rel =>
            refine ⟨k + 1, by omega, by omega, by go_num, by rw [HB.out], by rw [HD.out], ?_, hb.trans (hb2.mono hb.size)⟩
            intro i s' hi hs'
            by_cases e : i = k
            · subst e; rw [HK.out] at hs'; injection hs' with hs'; subst hs'; omega
            · exact HM.out i s' (by omega) hs'
          case measure => simp [intOf]; omega
    · have : k = ss.length := by omega
      subst this
      rw [List.take_length]
      rw [List.take_length] at hcs
      have hin' := hin.below hb
      have hsz : (catB ss).size ≤ maxLen := by unfold maxLen; omega
      have ecat : (catB ss).data.toList = cat ss := by simp [catB]
      have HE := Lib.hid ecat
      have HI := Lib.hid hin'
      clear hin' hin hc hall hsm ecat
      go_wp2_with fail
      refine (sum_any _ ss _ HI.out.strs HI.out.len HI.out.each).mono ?_
      rintro e w2 ⟨rfl, hb2⟩
      rw [show 4294967295 - M.feed 4294967295 (cat ss) = M.crc (cat ss) from rfl]
      go_wp2_with fail
      refine (sum1_any _ hsz _).mono ?_
      rintro e w3 ⟨rfl, hb3⟩
      rw [HE.out]
      go_wp2_with fail
      refine (sum1_any _ hsz _).mono ?_
      rintro e w4 ⟨rfl, hb4⟩
      rw [HE.out]
      go_wp2_with fail
      refine (figures_any _ (M.crc_lt _) _).mono ?_
      rintro e w5 ⟨rfl, hb5⟩
      go_wp2_with fail
      have hin5 := HI.out.below (below2 hb2 (below2 hb3 (below2 hb4 hb5)))
      refine (is_any _ _ ss _ hin5.strs hin5.len hin5.each).mono ?_
      rintro e w6 ⟨rfl, hb6⟩
      go_wp2_with fail
      go_ret
      have hbl := below2 hb2 (below2 hb3 (below2 hb4 (below2 hb5 hb6)))
      exact ⟨by simp, hb.trans (hbl.mono hb.size)⟩
end Go.Proofs.Ytbondapdjolmiaa
