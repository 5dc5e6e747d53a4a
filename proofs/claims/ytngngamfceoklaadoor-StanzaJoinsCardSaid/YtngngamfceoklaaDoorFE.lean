/- The pieces of fold: firstLine, furtherLine, Check (and Check by definition); strings.Split at line ends. -/
import Derived.Test.YtngngamfceoklaaDoorFD
import Derived.Test.YtngngamfceoklaaDoorFS
import Derived.Shelf.Strings.Split
import Derived.Lib.IndexBytes
namespace Go.Proofs.YtngngamfceoklaaDoor
open Go.RowKit Go.Shelf

theorem B_empty {l : List UInt8} (h : l ≠ []) : (B l).toList.isEmpty = false ∧ ¬ (B l).toList = [] := by
  rw [Lib.toList_data, B_data]; exact ⟨by simpa using h, h⟩
theorem mkB (l : List UInt8) : (⟨l.toArray⟩ : ByteArray) = B l := rfl
set_option maxHeartbeats 400000 in
theorem first_any (k l : List UInt8) (hk : k.length ≤ 100000) (hl : l.length ≤ 100000) (w : World) :
    Calls Tryd.prog 54 #[.string (B k), .string (B l)] w fun e w' => e = .returned (.string (B (firstL k l))) ∧ w = w' := by
  by_cases h : l = []
  · have e : B (firstL k l) = B k ++ ⟨#[58]⟩ := by unfold firstL; rw [if_pos h]; exact (B_append k [58]).symm
    rw [e]
    subst h
    have hz := B_size k
    generalize B k = s at *
    rw [show B [] = ⟨#[]⟩ from rfl]
    go_enter Tryd.func54, Tryd.ntmps54
    go_wp2
    go_ret
    exact ⟨rfl, rfl⟩
  · have e : B (firstL k l) = ((B k ++ ⟨#[58]⟩) ++ ⟨#[32]⟩) ++ B l := by
      unfold firstL; rw [if_neg h]
      rw [show (⟨#[58]⟩ : ByteArray) = B [58] from rfl, show (⟨#[32]⟩ : ByteArray) = B [32] from rfl, B_append, B_append, B_append]; simp
    rw [e]
    obtain ⟨n1, n2⟩ := B_empty h
    have hz := B_size k
    have hz2 := B_size l
    generalize B k = s at *
    generalize B l = t at *
    clear e
    go_enter Tryd.func54, Tryd.ntmps54
    go_wp2
    go_ret
    exact ⟨rfl, rfl⟩
theorem pre_dot (l : List UInt8) : Lib.hasPrefix l [46] = (l.head? == some 46) := by
  unfold Lib.hasPrefix
  cases l with
  | nil => rfl
  | cons a t => simp [List.isPrefixOf, Bool.beq_comm]
theorem dot_any (l : List UInt8) (w : World) :
    Calls Tryd.prog 61 #[.string (B l), .string ⟨#[46]⟩] w fun e w' => e = .returned (.bool (l.head? == some 46)) ∧ w = w' := by
  refine (Tryd.strings_HasPrefix (B l) ⟨#[46]⟩ _).mono ?_
  rw [show (⟨#[46]⟩ : ByteArray).data.toList = [46] from rfl, pre_dot, B_data]
  rintro e w' ⟨rfl, rfl⟩
  exact ⟨rfl, rfl⟩
set_option maxHeartbeats 1000000 in
theorem further_any (l : List UInt8) (hl : l.length ≤ 100000) (w : World) :
    Calls Tryd.prog 55 #[.string (B l)] w fun e w' => e = .returned (.string (B (furtherL l))) ∧ Below w.heap.size w w' := by
  have hz := B_size l
  cases hb : blankAll l with
  | true =>
    have e : B (furtherL l) = ⟨#[32, 46]⟩ ++ B l := by
      unfold furtherL dotted; rw [hb]; exact (B_append [32, 46] l).symm
    rw [e]
    have T := fun w => trim_yes (B l) (by omega) (by rw [B_data]; exact hb) w
    clear e hb
    generalize B l = s at *
    go_enter Tryd.func55, Tryd.ntmps55
    go_wp2_with (go_at_call 60; refine (T _).mono ?_; rintro e w1 ⟨rfl, b1⟩)
    go_ret
    exact ⟨rfl, b1⟩
  | false =>
    have T := fun w => trim_no (B l) (by omega) w
    obtain ⟨n1, n2⟩ := trimmed_ne (B l) (by rw [B_data]; exact hb)
    have D := dot_any l
    generalize trimmed (B l) = tr at *
    cases hd : (l.head? == some 46) with
    | true =>
      have e : B (furtherL l) = ⟨#[32, 46]⟩ ++ B l := by
        unfold furtherL dotted; rw [hb, hd]; exact (B_append [32, 46] l).symm
      rw [e]
      rw [hd] at D
      clear e hb hd
      generalize B l = s at *
      go_enter Tryd.func55, Tryd.ntmps55
      go_wp2_with (first | (go_at_call 60; refine (T _).mono ?_; rintro e w1 ⟨rfl, b1⟩) | (go_at_call 61; refine (D _).mono ?_; rintro e w2 ⟨rfl, rfl⟩))
      go_ret
      exact ⟨rfl, b1⟩
    | false =>
      have e : B (furtherL l) = ⟨#[32]⟩ ++ B l := by
        unfold furtherL dotted; rw [hb, hd]; exact (B_append [32] l).symm
      rw [e]
      rw [hd] at D
      clear e hb hd
      generalize B l = s at *
      go_enter Tryd.func55, Tryd.ntmps55
      go_wp2_with (first | (go_at_call 60; refine (T _).mono ?_; rintro e w1 ⟨rfl, b1⟩) | (go_at_call 61; refine (D _).mono ?_; rintro e w2 ⟨rfl, rfl⟩))
      go_ret
      exact ⟨rfl, b1⟩
def fieldV (k v : List UInt8) : Value := .agg #[.string (B k), .string (B v)]
attribute [local go_sem] errV_0 errV_5 errV_6
set_option maxHeartbeats 1000000 in
theorem check_any (k v : List UInt8) (hk : k.length ≤ 1000000) (hv : v.length ≤ 1000000) (w : World) :
    Calls Tryd.prog 52 #[fieldV k v] w fun e w' => e = .returned (errV (checkN k v)) ∧ Below w.heap.size w w' := by
  have K := fun w => key_any (B k) (by rw [B_size]; unfold maxLen; omega) w
  rw [B_data] at K
  have hz := B_size v
  unfold checkN fieldV
  generalize B k = s at *
  cases hg : goodKey k with
  | false =>
    rw [hg] at K
    generalize B v = t at *
    go_enter Tryd.func52, Tryd.ntmps52
    go_wp2_with (go_at_call 63; refine (K _).mono ?_; rintro e w1 ⟨rfl, rfl⟩)
    go_ret
    exact ⟨rfl, (Below.refl _ _).alloc (Nat.le_refl _) _⟩
  | true =>
    rw [hg] at K
    by_cases h : v.length ≤ 1000
    · rw [if_pos rfl, if_pos h]
      rw [← hz] at h
      generalize B v = t at *
      go_enter Tryd.func52, Tryd.ntmps52
      go_wp2_with (go_at_call 63; refine (K _).mono ?_; rintro e w1 ⟨rfl, rfl⟩)
      go_ret
      exact ⟨rfl, (Below.refl _ _).alloc (Nat.le_refl _) _⟩
    · rw [if_pos rfl, if_neg h]
      rw [← hz] at h
      generalize B v = t at *
      go_enter Tryd.func52, Tryd.ntmps52
      go_wp2_with (go_at_call 63; refine (K _).mono ?_; rintro e w1 ⟨rfl, rfl⟩)
      go_ret
      exact ⟨rfl, (Below.refl _ _).alloc (Nat.le_refl _) _⟩
theorem parts_first (l : List UInt8) (h : (10 : UInt8) ∈ l) : partsL l = l.take (l.takeWhile (· != 10)).length :: partsL (l.drop ((l.takeWhile (· != 10)).length + 1)) := by
  have e : l = l.takeWhile (· != 10) ++ 10 :: l.drop ((l.takeWhile (· != 10)).length + 1) := by
    have a := head_split l
    unfold head nl used at a
    have hc : l.contains 10 = true := by simpa using h
    unfold head nl at a
    rw [if_pos hc, if_pos hc] at a
    simpa using a
  have hp : (10 : UInt8) ∉ l.takeWhile (· != 10) := fun hm => by have := List.all_eq_true.1 (List.all_takeWhile (l := l) (p := (· != 10))) _ hm; simp at this
  have ht : l.take (l.takeWhile (· != 10)).length = l.takeWhile (· != 10) := (List.prefix_iff_eq_take.1 (List.takeWhile_prefix _)).symm
  rw [ht]
  conv => lhs; rw [e]
  exact partsL_pre _ _ hp
theorem splitK_parts : ∀ (k : Nat) (l : List UInt8), l.count 10 = k → Lib.splitK [10] 0 k l = partsL l
  | 0, l, h => by
    have : (10 : UInt8) ∉ l := List.count_eq_zero.1 h
    rw [partsL_one l this]; rfl
  | k + 1, l, h => by
    have hm : (10 : UInt8) ∈ l := List.count_pos_iff.1 (by omega)
    have hp := parts_first l hm
    have hl := partsL_len l
    rcases indexByte_cases l 10 with ⟨_, h2⟩ | ⟨h1, _⟩
    · exact absurd hm h2
    · unfold Lib.splitK
      rw [Lib.index_one, h1]
      rw [hp] at hl
      have hl2 := partsL_len (l.drop ((l.takeWhile (· != 10)).length + 1))
      rw [if_neg (by simp <;> omega), hp]
      simp only [Int.toNat_natCast, Nat.add_zero, List.length_singleton]
      rw [splitK_parts k _ (by simp only [List.length_cons] at hl; omega)]
theorem split_pieces (l : List UInt8) : Lib.splitB ⟨#[10]⟩ 0 (Lib.countB (B l) ⟨#[10]⟩) (B l) = (partsL l).map B ∧ Lib.countB (B l) ⟨#[10]⟩ + 1 = (partsL l).length := by
  have hc : Lib.countB (B l) ⟨#[10]⟩ = l.count 10 := by
    show Lib.count (B l).data.toList [10] = _
    rw [Lib.count_one, B_data]
  have h := Lib.splitB_data ⟨#[10]⟩ 0 (Lib.countB (B l) ⟨#[10]⟩) (B l)
  rw [B_data, hc] at h
  rw [hc]
  refine ⟨?_, (partsL_len l).symm⟩
  have h2 : Lib.splitK (⟨#[10]⟩ : ByteArray).data.toList 0 (l.count 10) l = partsL l := splitK_parts _ l rfl
  rw [h2] at h
  rw [← h, List.map_map]
  conv => lhs; rw [← List.map_id (Lib.splitB ⟨#[10]⟩ 0 (l.count 10) (B l))]
  exact List.map_congr_left fun s _ => (B_of s).symm
theorem fieldInfo : (Tryd.prog.info? 9).map (fun i => (i.zero, i.size, i.bytes)) = some (some (.string ByteArray.empty), 1, 16) := by kernel_rfl
set_option maxHeartbeats 1000000 in
theorem split_any' (l : List UInt8) (hl : l.length ≤ 1000000) (w : World) :
    Calls Tryd.prog 53 #[.string (B l), .string ⟨#[10]⟩] w fun e w' =>
      e = .returned (.slice (some ⟨w.heap.size, 0, none⟩) (partsL l).length (partsL l).length) ∧ w' = w.alloc (.cells (((partsL l).map B).map Value.string).toArray 9) := by
  obtain ⟨p1, p2⟩ := split_pieces l
  have hz := B_size l
  have c := Any.strings_genSplit_core Tryd.lays221 fieldInfo (B l) ⟨#[10]⟩ 0 (-1) (Lib.countB (B l) ⟨#[10]⟩ + 1) w (by omega) (by decide) (Nat.zero_le _)
    (fun x cc hx => (Tryd.strings_Index_one x 10 _).mono (fun e w' ⟨he, hw⟩ => ⟨by rw [he]; show _ = Ending.returned (Value.int .i64 (Lib.index x.data.toList [10])); rw [Lib.index_one], hw⟩))
    ((Tryd.strings_Count_one (B l) 10 w).mono (fun e w' ⟨he, hw⟩ => ⟨by rw [he]; show _ = Ending.returned (Value.int .i64 ((Lib.count (B l).data.toList [10] : Nat) : Int)); rw [Lib.count_one]; rfl, hw⟩))
    (by decide) (by decide) (by
      have := Lib.countB_le ⟨#[10]⟩ (by decide) (B l).size (B l) (Nat.le_refl _)
      rw [if_pos (by decide)]; omega)
  rw [Nat.add_sub_cancel, p1] at c
  have e2 : Lib.cellsOf ((partsL l).map B) (Lib.countB (B l) ⟨#[10]⟩ + 1) = (((partsL l).map B).map Value.string).toArray := by
    rw [p2, show (partsL l).length = ((partsL l).map B).length by simp]; exact Lib.cellsOf_full _
  rw [e2, List.length_map, p2] at c
  generalize (partsL l).length = n at *
  generalize (((partsL l).map B).map Value.string).toArray = cs at *
  clear p1 p2 e2
  generalize B l = s at *
  go_enter Tryd.func53, Tryd.ntmps53
  go_wp2_with (go_at_call 68; refine c.mono ?_; rintro e w' ⟨rfl, rfl⟩)
  go_ret
  exact ⟨rfl, rfl⟩
end Go.Proofs.YtngngamfceoklaaDoor
