/- Texts put together: FE, FF, FG, FH, FI, FJ. -/
import Derived.Shelf.Strings.Split
import Derived.Lib.IndexBytes
import Derived.OwnWalk
import Derived.Laws.AppendOwn
import Derived.Laws.OwnMore
import Derived.Lib.SmallJoins
import Derived.StillTailTactics
import Derived.Laws.ResultCell
import Derived.Laws.Rows
import Derived.Test.YtbkeoiefolkjfaaGreatDoorBxa2
import Derived.Test.YtbkeoiefolkjfaaGreatDoorBxa7
set_option linter.unusedVariables false
set_option maxRecDepth 100000
set_option maxHeartbeats 16000000
namespace Go.Proofs.YtbkeoiefolkjfaaGreatDoor
open Go.RowKit Go.Shelf
theorem B_empty {l : List UInt8} (h : l ≠ []) : (B l).toList.isEmpty = false /\ ¬ (B l).toList = [] := by
 rw [Lib.toList_data, B_data]; exact ⟨by simpa using h, h⟩
theorem mkB (l : List UInt8) : (⟨l.toArray⟩ : ByteArray) = B l := rfl
theorem first_any (k l : List UInt8) (hk : k.length <= 100000) (hl : l.length <= 100000) (w : World) :
  Calls Tryz.prog 154 #[.string (B k), .string (B l)] w fun e w' => e = .returned (.string (B (firstL k l))) /\ w = w' := by
 by_cases h : l = []
 ·have e : B (firstL k l) = B k ++ ⟨#[58]⟩ := by unfold firstL; rw [if_pos h]; exact (B_append k [58]).symm
  rw [e]
  subst h
  have hz := B_size k
  generalize B k = s at *
  rw [show B [] = ⟨#[]⟩ from rfl]
  go_enter Tryz.func154, Tryz.ntmps154
  go_wp2
  go_ret
  exact ⟨rfl, rfl⟩
 have e : B (firstL k l) = ((B k ++ ⟨#[58]⟩) ++ ⟨#[32]⟩) ++ B l := by
  unfold firstL; rw [if_neg h]
  rw [show (⟨#[58]⟩ : ByteArray) = B [58] from rfl, show (⟨#[32]⟩ : ByteArray) = B [32] from rfl, B_append, B_append, B_append]; simp
 rw [e]
 obtain ⟨n1, n2⟩ := B_empty h
 have hz := B_size k
 have hz2 := B_size l
 generalize B k = s at *
 generalize B l = t at *
 clear e
 go_enter Tryz.func154, Tryz.ntmps154
 go_wp2
 go_ret
 exact ⟨rfl, rfl⟩
theorem pre_dot (l : List UInt8) : Lib.hasPrefix l [46] = (l.head? == some 46) := by
 unfold Lib.hasPrefix
 cases l with
 | nil => rfl
 | cons a t => simp [List.isPrefixOf, Bool.beq_comm]
theorem dot_any (l : List UInt8) (w : World) :
  Calls Tryz.prog 61 #[.string (B l), .string ⟨#[46]⟩] w fun e w' => e = .returned (.bool (l.head? == some 46)) /\ w = w' := by
 refine (Tryz.strings_HasPrefix (B l) ⟨#[46]⟩ _).mono ?_
 rw [show (⟨#[46]⟩ : ByteArray).data.toList = [46] from rfl, pre_dot, B_data]
 rintro e w' ⟨rfl, rfl⟩
 exact ⟨rfl, rfl⟩
theorem further_any (l : List UInt8) (hl : l.length <= 100000) (w : World) :
  Calls Tryz.prog 155 #[.string (B l)] w fun e w' => e = .returned (.string (B (furtherL l))) /\ Below w.heap.size w w' := by
 have hz := B_size l
 cases hb : blankAll l with
 | true =>
  have e : B (furtherL l) = ⟨#[32, 46]⟩ ++ B l := by
   unfold furtherL dotted; rw [hb]; exact (B_append [32, 46] l).symm
  rw [e]
  have T := fun w => trim_yes (B l) (by omega) (by rw [B_data]; exact hb) w
  clear e hb
  generalize B l = s at *
  go_enter Tryz.func155, Tryz.ntmps155
  go_wp2_with (go_at_call 135; refine (T _).mono ?_; rintro e w1 ⟨rfl, b1⟩)
  go_ret
  exact ⟨rfl, b1⟩
 | false =>
 have T := fun w => trim_no (B l) (by omega) w
 obtain ⟨n1, n2⟩ := trimmed_ne (B l) (by rw [B_data]; exact hb)
 have D := dot_any l
 generalize trimmed (B l) = tr at *
 cases hd : (l.head? == some 46) with
 | true =>
  have e : B (furtherL l) = ⟨#[32, 46]⟩ ++ B l := by
   unfold furtherL dotted; rw [hb, hd]; exact (B_append [32, 46] l).symm
  rw [e]
  rw [hd] at D
  clear e hb hd
  generalize B l = s at *
  go_enter Tryz.func155, Tryz.ntmps155
  go_wp2_with (first | (go_at_call 135; refine (T _).mono ?_; rintro e w1 ⟨rfl, b1⟩) | (go_at_call 61; refine (D _).mono ?_; rintro e w2 ⟨rfl, rfl⟩))
  go_ret
  exact ⟨rfl, b1⟩
 | false =>
 have e : B (furtherL l) = ⟨#[32]⟩ ++ B l := by
  unfold furtherL dotted; rw [hb, hd]; exact (B_append [32] l).symm
 rw [e]
 rw [hd] at D
 clear e hb hd
 generalize B l = s at *
 go_enter Tryz.func155, Tryz.ntmps155
 go_wp2_with (first | (go_at_call 135; refine (T _).mono ?_; rintro e w1 ⟨rfl, b1⟩) | (go_at_call 61; refine (D _).mono ?_; rintro e w2 ⟨rfl, rfl⟩))
 go_ret
 exact ⟨rfl, b1⟩
def fieldV (k v : List UInt8) : Value := .agg #[.string (B k), .string (B v)]
attribute [local go_sem] errV_0 errV_5 errV_6
theorem check_any (k v : List UInt8) (hk : k.length <= 1000000) (hv : v.length <= 1000000) (w : World) :
  Calls Tryz.prog 140 #[fieldV k v] w fun e w' => e = .returned (errV (checkN k v)) /\ Below w.heap.size w w' := by
 have K := fun w => key_any (B k) (by rw [B_size]; unfold maxLen; omega) w
 rw [B_data] at K
 have hz := B_size v
 unfold checkN fieldV
 generalize B k = s at *
 cases hg : goodKey k with
 | false =>
  rw [hg] at K
  generalize B v = t at *
  go_enter Tryz.func140, Tryz.ntmps140
  go_wp2_with (go_at_call 137; refine (K _).mono ?_; rintro e w1 ⟨rfl, rfl⟩)
  go_ret
  exact ⟨rfl, (Below.refl _ _).alloc (Nat.le_refl _) _⟩
 | true =>
 rw [hg] at K
 by_cases h : v.length <= 1000
 ·rw [if_pos rfl, if_pos h]
  rw [<- hz] at h
  generalize B v = t at *
  go_enter Tryz.func140, Tryz.ntmps140
  go_wp2_with (go_at_call 137; refine (K _).mono ?_; rintro e w1 ⟨rfl, rfl⟩)
  go_ret
  exact ⟨rfl, (Below.refl _ _).alloc (Nat.le_refl _) _⟩
 rw [if_pos rfl, if_neg h]
 rw [<- hz] at h
 generalize B v = t at *
 go_enter Tryz.func140, Tryz.ntmps140
 go_wp2_with (go_at_call 137; refine (K _).mono ?_; rintro e w1 ⟨rfl, rfl⟩)
 go_ret
 exact ⟨rfl, (Below.refl _ _).alloc (Nat.le_refl _) _⟩
theorem refCheck_any (k v : List UInt8) (hk : k.length <= 1000000) (hv : v.length <= 1000000) (w : World) :
  Calls Tryz.prog 156 #[fieldV k v] w fun e w' => e = .returned (.int .i64 (checkN k v : Nat)) /\ Below w.heap.size w w' := by
 have K := fun w => refKey_any (B k) (by rw [B_size]; omega) w
 rw [B_data] at K
 have hz := B_size v
 unfold checkN fieldV
 generalize B k = s at *
 cases hg : goodKey k with
 | false =>
  rw [hg] at K
  generalize B v = t at *
  go_enter Tryz.func156, Tryz.ntmps156
  go_wp2_with (go_at_call 148; refine (K _).mono ?_; rintro e w1 ⟨rfl, rfl⟩)
  go_ret
  exact ⟨rfl, (Below.refl _ _).alloc (Nat.le_refl _) _⟩
 | true =>
 rw [hg] at K
 by_cases h : v.length <= 1000
 ·rw [if_pos rfl, if_pos h]
  rw [<- hz] at h
  generalize B v = t at *
  go_enter Tryz.func156, Tryz.ntmps156
  go_wp2_with (go_at_call 148; refine (K _).mono ?_; rintro e w1 ⟨rfl, rfl⟩)
  go_ret
  exact ⟨rfl, (Below.refl _ _).alloc (Nat.le_refl _) _⟩
 rw [if_pos rfl, if_neg h]
 rw [<- hz] at h
 generalize B v = t at *
 go_enter Tryz.func156, Tryz.ntmps156
 go_wp2_with (go_at_call 148; refine (K _).mono ?_; rintro e w1 ⟨rfl, rfl⟩)
 go_ret
 exact ⟨rfl, (Below.refl _ _).alloc (Nat.le_refl _) _⟩
theorem parts_first (l : List UInt8) (h : (10 : UInt8) ∈ l) : partsL l = l.take (l.takeWhile (· != 10)).length :: partsL (l.drop ((l.takeWhile (· != 10)).length + 1)) := by
 have e : l = l.takeWhile (· != 10) ++ 10 :: l.drop ((l.takeWhile (· != 10)).length + 1) := by
  have a := head_split l
  unfold head nl used at a
  have hc : l.contains 10 = true := by simpa using h
  unfold head nl at a
  rw [if_pos hc, if_pos hc] at a
  simpa using a
 have hp : (10 : UInt8) ∉ l.takeWhile (· != 10) := fun hm => by have := List.all_eq_true.1 (List.all_takeWhile (l := l) (p := (· != 10))) _ hm; simp at this
 have ht : l.take (l.takeWhile (· != 10)).length = l.takeWhile (· != 10) := (List.prefix_iff_eq_take.1 (List.takeWhile_prefix _)).symm
 rw [ht]
 conv => lhs; rw [e]
 exact partsL_pre _ _ hp
theorem splitK_parts : ∀ (k : Nat) (l : List UInt8), l.count 10 = k -> Lib.splitK [10] 0 k l = partsL l
 | 0, l, h => by
  have : (10 : UInt8) ∉ l := List.count_eq_zero.1 h
  rw [partsL_one l this]; rfl
 | k + 1, l, h => by
  have hm : (10 : UInt8) ∈ l := List.count_pos_iff.1 (by omega)
  have hp := parts_first l hm
  have hl := partsL_len l
  rcases indexByte_cases l 10 with ⟨_, h2⟩ | ⟨h1, _⟩
  ·exact absurd hm h2
  unfold Lib.splitK
  rw [Lib.index_one, h1]
  rw [hp] at hl
  have hl2 := partsL_len (l.drop ((l.takeWhile (· != 10)).length + 1))
  rw [if_neg (by simp <;> omega), hp]
  simp only [Int.toNat_natCast, Nat.add_zero, List.length_singleton]
  rw [splitK_parts k _ (by simp only [List.length_cons] at hl; omega)]
theorem split_pieces (l : List UInt8) : Lib.splitB ⟨#[10]⟩ 0 (Lib.countB (B l) ⟨#[10]⟩) (B l) = (partsL l).map B /\ Lib.countB (B l) ⟨#[10]⟩ + 1 = (partsL l).length := by
 have hc : Lib.countB (B l) ⟨#[10]⟩ = l.count 10 := by
  show Lib.count (B l).data.toList [10] = _
  rw [Lib.count_one, B_data]
 have h := Lib.splitB_data ⟨#[10]⟩ 0 (Lib.countB (B l) ⟨#[10]⟩) (B l)
 rw [B_data, hc] at h
 rw [hc]
 refine ⟨?_, (partsL_len l).symm⟩
 have h2 : Lib.splitK (⟨#[10]⟩ : ByteArray).data.toList 0 (l.count 10) l = partsL l := splitK_parts _ l rfl
 rw [h2] at h
 rw [<- h, List.map_map]
 conv => lhs; rw [<- List.map_id (Lib.splitB ⟨#[10]⟩ 0 (l.count 10) (B l))]
 exact List.map_congr_left fun s _ => (B_of s).symm
theorem fieldInfo : (Tryz.prog.info? 9).map (fun i => (i.zero, i.size, i.bytes)) = some (some (.string ByteArray.empty), 1, 16) := by kernel_rfl
theorem split_any' (l : List UInt8) (hl : l.length <= 1000000) (w : World) :
  Calls Tryz.prog 153 #[.string (B l), .string ⟨#[10]⟩] w fun e w' =>
   e = .returned (.slice (some ⟨w.heap.size, 0, none⟩) (partsL l).length (partsL l).length) /\ w' = w.alloc (.cells (((partsL l).map B).map Value.string).toArray 9) := by
 obtain ⟨p1, p2⟩ := split_pieces l
 have hz := B_size l
 have c := Any.strings_genSplit_core Tryz.lays221 fieldInfo (B l) ⟨#[10]⟩ 0 (-1) (Lib.countB (B l) ⟨#[10]⟩ + 1) w (by omega) (by decide) (Nat.zero_le _)
  (fun x cc hx => (Tryz.strings_Index_one x 10 _).mono (fun e w' ⟨he, hw⟩ => ⟨by rw [he]; show _ = Ending.returned (Value.int .i64 (Lib.index x.data.toList [10])); rw [Lib.index_one], hw⟩))
  ((Tryz.strings_Count_one (B l) 10 w).mono (fun e w' ⟨he, hw⟩ => ⟨by rw [he]; show _ = Ending.returned (Value.int .i64 ((Lib.count (B l).data.toList [10] : Nat) : Int)); rw [Lib.count_one]; rfl, hw⟩))
  (by decide) (by decide) (by
   have := Lib.countB_le ⟨#[10]⟩ (by decide) (B l).size (B l) (Nat.le_refl _)
   rw [if_pos (by decide)]; omega)
 rw [Nat.add_sub_cancel, p1] at c
 have e2 : Lib.cellsOf ((partsL l).map B) (Lib.countB (B l) ⟨#[10]⟩ + 1) = (((partsL l).map B).map Value.string).toArray := by
  rw [p2, show (partsL l).length = ((partsL l).map B).length by simp]; exact Lib.cellsOf_full _
 rw [e2, List.length_map, p2] at c
 generalize (partsL l).length = n at *
 generalize (((partsL l).map B).map Value.string).toArray = cs at *
 clear p1 p2 e2
 generalize B l = s at *
 go_enter Tryz.func153, Tryz.ntmps153
 go_wp2_with (go_at_call 187; refine c.mono ?_; rintro e w' ⟨rfl, rfl⟩)
 go_ret
 exact ⟨rfl, rfl⟩
end Go.Proofs.YtbkeoiefolkjfaaGreatDoor
namespace Go.Proofs.YtbkeoiefolkjfaaGreatDoor
open Go.RowKit Go.Shelf
theorem own_kept {w w' : World} {base N : Nat} {e : TypeId} {size : Nat} {v : Value} {n : Nat} {xs : List Value} (h : w.ownsRow base e size v n xs) (hb : Below N w w') (hN : w.heap.size <= N) : w'.ownsRow base e size v n xs := by
 refine ⟨h.1, ?_⟩
 rcases h.2 with hn | ⟨g, cap, cur, hv, hg, hc, rest⟩
 ·exact .inl hn
 refine .inr ⟨g, cap, cur, hv, hg, ?_, rest⟩
 have : g < w.heap.size := (Array.getElem?_eq_some_iff.1 hc).1
 exact (hb.block g (by omega)).trans hc
def OwnS (w : World) (base : Nat) (v : Value) (ss : List ByteArray) : Prop := w.ownsRow base 9 1 v ss.length (ss.map Value.string)
theorem OwnS.kept {w w' : World} {base N : Nat} {v : Value} {ss : List ByteArray} (h : OwnS w base v ss) (hb : Below N w w') (hN : w.heap.size <= N) : OwnS w' base v ss := own_kept h hb hN
theorem OwnS.strs {w : World} {base : Nat} {v : Value} {ss : List ByteArray} (h : OwnS w base v ss) : Strs w v ss := by
 rcases Joins.ownsRow_forms h with ⟨rfl, hn⟩ | ⟨g, cap, rfl⟩
 ·have : ss = [] := by cases ss with | nil => rfl | cons _ _ => simp at hn
  subst this
  exact Strs.none _ _
 refine ⟨_, cap, rfl, (by rcases h.2 with ⟨q, _⟩ | ⟨g', cap', cur, q, _, _, q2, _⟩; cases q; cases q; exact q2), fun i s hs => ⟨g, 0, rfl, (World.ownsRow.lt h g rfl).2, ?_⟩⟩
 have hi : i < ss.length := by
  rcases Nat.lt_or_ge i ss.length with q | q
  ·exact q
  rw [List.getElem?_eq_none q] at hs; cases hs
 rw [Nat.zero_add, World.ownsRow.cellAt h i (by omega), List.getElem?_map, hs]; rfl
theorem OwnS.one (w : World) (base : Nat) (hb : base <= w.heap.size) (s : ByteArray) : OwnS (w.alloc (.cells #[.string s] 9)) base (.slice (some ⟨w.heap.size, 0, none⟩) 1 1) [s] :=
 World.ownsRow_lit w #[.string s] 1 hb (by decide) rfl
theorem strCell (W : World) (x : ByteArray) (t : TypeId) : ∀ (j : Nat) u, [Value.string x][j]? = some u -> (W.alloc (.cells #[.string x] t)).cell? ((⟨W.heap.size, 0, none⟩ : Addr).add j) = some u := by
 intro j u h
 have hadd : (⟨W.heap.size, 0, none⟩ : Addr).add j = ⟨W.heap.size, j, none⟩ := by unfold Addr.add; split <;> simp_all
 rw [hadd, World.cell?_alloc_at _ _ _ _ rfl]
 match j, h with
 | 0, h => simpa using h
theorem linesLen {k v : List UInt8} {p : List UInt8} {r : List (List UInt8)} (h : partsL v = p :: r) : linesL k v = firstL k p :: r.map furtherL := by unfold linesL; rw [h]; rfl
theorem le_sum : ∀ (r : List (List UInt8)) (q : List UInt8), q ∈ r -> q.length <= (r.map List.length).sum
 | [], q, h => by simp at h
 | a :: r, q, h => by
  rcases List.mem_cons.1 h with rfl | h
  ·simp
  have := le_sum r q h; simp; omega
theorem piece_le {v p : List UInt8} {r : List (List UInt8)} (h : partsL v = p :: r) : p.length <= v.length /\ (∀ q ∈ r, q.length <= v.length) /\ r.length <= v.length := by
 have a := parts_le v
 rw [h] at a
 simp only [List.map_cons, List.sum_cons, List.length_cons] at a
 refine ⟨by omega, fun q hq => ?_, by omega⟩
 have : q.length <= (r.map List.length).sum := le_sum _ _ hq
 omega
attribute [local go_sem] errV_0
theorem lines_bad (k v : List UInt8) (hk : k.length <= 100000) (hv : v.length <= 100000) (w : World) (h : checkN k v ≠ 0) :
  Calls Tryz.prog 123 #[fieldV k v] w fun e w' => e = .returned (.tuple #[.slice none 0 0, errV (checkN k v)]) /\ Below w.heap.size w w' := by
 have C := fun w => check_any k v (by omega) (by omega) w
 rw [errV_pos _ (Nat.pos_of_ne_zero h)] at C ⊢
 generalize checkN k v = n at *
 unfold fieldV at *
 generalize B k = s at *
 generalize B v = t at *
 go_enter Tryz.func123, Tryz.ntmps123
 go_wp2_with (go_at_call 140; refine (C _).mono ?_; rintro e w1 ⟨rfl, b1⟩; have c0 := b1.cell (p := ⟨w.heap.size, 0, none⟩) (by simp); have c1 := b1.cell (p := ⟨w.heap.size, 1, none⟩) (by simp))
 go_ret2
 exact ⟨rfl, ((Below.refl _ _).alloc (Nat.le_refl _) _).trans (b1.mono (by simp))⟩
end Go.Proofs.YtbkeoiefolkjfaaGreatDoor
namespace Go.Proofs.YtbkeoiefolkjfaaGreatDoor
open Go.RowKit Go.Shelf
attribute [local go_sem] errV_0
theorem first_still (k l : List UInt8) (hk : k.length <= 100000) (hl : l.length <= 100000) (w : World) :
  Calls Tryz.prog 154 #[.string (B k), .string (B l)] w fun e w' => e = .returned (.string (B (firstL k l))) /\ w' = w :=
 (first_any k l hk hl w).mono fun e w' ⟨a, b⟩ => ⟨a, b.symm⟩
theorem infoStr : (Tryz.prog.info? 9).map (fun i => (i.zero, i.size, i.bytes)) = some (some (.string ⟨#[]⟩), 1, 16) := by kernel_rfl
theorem lines_own (k v : List UInt8) (hk : k.length <= 100000) (hv : v.length <= 100000) (w : World) (h : checkN k v = 0) :
  Calls Tryz.prog 123 #[fieldV k v] w fun e w' => ∃ sv base, e = .returned (.tuple #[sv, .nilIface]) /\ OwnS w' base sv ((linesL k v).map B) /\ Below w.heap.size w w' := by
 have C := fun w => check_any k v (by omega) (by omega) w
 rw [h] at C
 clear h
 obtain ⟨p, r, hp⟩ : ∃ p r, partsL v = p :: r := ⟨_, _, partsL_cons v⟩
 have SP := fun w => split_any' v (by omega) w
 rw [hp] at SP
 obtain ⟨z1, z2, z3⟩ := piece_le hp
 have HL := Lib.hid (linesLen (k := k) hp)
 clear hp
 have F1 := fun w => first_still k p (by omega) (by omega) w
 unfold fieldV at *
 generalize hfl : firstL k p = fl at *
 have HF := Lib.hid hfl
 clear hfl
 generalize B k = s at *
 generalize B v = t at *
 obtain ⟨i0, hi, hz0, hz1, hz2⟩ := info_parts infoStr
 go_enter Tryz.func123, Tryz.ntmps123
 go_wp2_with fail
 refine (C _).mono ?_
 rintro e w1 ⟨rfl, b1⟩
 have c0 := b1.cell (p := ⟨w.heap.size, 0, none⟩) (by simp)
 have c1 := b1.cell (p := ⟨w.heap.size, 1, none⟩) (by simp)
 have hs1 := b1.size
 go_wp2_with fail
 refine (SP _).mono ?_
 rintro e w2 ⟨rfl, hw2⟩
 have q0 : w2.cell? ⟨w.heap.size, 0, none⟩ = some (.string s) := by
  rw [hw2, World.cell?_alloc_old _ _ _ (Nat.ne_of_lt (show w.heap.size < w1.heap.size by have := hs1; simp at this; omega)), c0, World.cell?_alloc_at _ _ _ _ rfl]; rfl
 have PC : ∀ (j : Nat) x, (p :: r)[j]? = some x -> w2.cell? ⟨w1.heap.size, j, none⟩ = some (.string (B x)) := by
  intro j x hx
  rw [hw2, World.cell?_alloc_at _ _ _ _ rfl]
  simp only [List.map_map, List.getElem?_toArray, List.getElem?_map, hx]; rfl
 have hb12 : Below w.heap.size w w2 := by
  rw [hw2]
  exact (((Below.refl _ _).alloc (Nat.le_refl _) _).trans (b1.mono (by simp))).alloc (by simp at hs1; omega) _
 have hlt : w1.heap.size < w2.heap.size := by rw [hw2]; simp
 have e0 := PC 0 p rfl
 have hz9 : w.heap.size < w1.heap.size := by simp at hs1; omega
 have BW := Lib.hid hb12
 have PCH := Lib.hid (fun (j : Nat) x (hx : r[j]? = some x) => PC (j + 1) x (by simpa using hx))
 clear hw2 c0 c1 b1 hs1 PC hb12
 generalize w1.heap.size = b0 at *
 clear w1
 rw [List.length_cons]
 go_wp2_with fail
 refine wp_region_still_tail 6 (by kernel_rfl) (by kernel_rfl) ?_
 simp only [List.take_succ_cons, List.take_zero, List.drop_succ_cons, List.drop_zero]
 still_step
 still_step
 still_step
 still_step
 still_step
 still_call (F1 _)
 refine wpStill_nil ?_
 change wpList _ _ _ _ _ w2.drew
 replace hlt : b0 < w2.drew.heap.size := hlt
 replace BW : Hid (Below w.heap.size w w2.drew) := BW.out.drew
 replace PCH : Hid (∀ (j : Nat) x, r[j]? = some x -> w2.drew.cell? ⟨b0, j + 1, none⟩ = some (.string (B x))) := PCH
 clear q0 e0 SP C F1
 generalize w2.drew = w3 at *
 have hw3 := BW.out.size
 go_wp2_with fail
 ·subst h
  go_loopw [6, 27] (fun v6 i wr => i = .int .i64 0 /\ OwnS wr w3.heap.size v6 [B fl] /\ Below w3.heap.size w3 wr) (fun _ i _ => 0)
  case atStart => exact ⟨rfl, OwnS.one w3 _ (Nat.le_refl _) _, (Below.refl _ _).alloc (Nat.le_refl _) _⟩
  case round =>
  obtain ⟨rfl, hown, hb⟩ := hrel
  go_wp2_with fail
  go_ret2
  exact ⟨_, _, rfl, by rw [HL.out]; exact hown, BW.out.trans (hb.mono hw3)⟩
 go_loopw [6, 27] (fun v6 i wr => ∃ (k : Nat), k <= r.length /\ i = .int .i64 k /\ OwnS wr w3.heap.size v6 ((fl :: (r.take k).map furtherL).map B) /\ Below w3.heap.size w3 wr) (fun _ i _ => r.length - (intOf i).toNat)
 case atStart => exact ⟨0, Nat.zero_le _, rfl, OwnS.one w3 _ (Nat.le_refl _) _, (Below.refl _ _).alloc (Nat.le_refl _) _⟩
 case round =>
 obtain ⟨k, hkr, rfl, hown, hb⟩ := hrel
 by_cases hkl : k < r.length
 ·obtain ⟨x, hx⟩ : ∃ x, r[k]? = some x := ⟨_, List.getElem?_eq_getElem hkl⟩
  have hcx := PCH.out k x hx
  have hcx2 := (hb.cell (p := ⟨b0, k + 1, none⟩) hlt).trans hcx
  rw [Nat.add_comm k 1] at hcx2
  have hxl := z2 x (List.mem_of_getElem? hx)
  have TK : Hid ((fl :: (r.take (k + 1)).map furtherL).map B = (fl :: (r.take k).map furtherL).map B ++ [B (furtherL x)]) := by
   show _ = _
   rw [List.take_add_one, hx]; simp
  have FT := fun w => further_any x (by omega) w
  have hll : ((fl :: (r.take k).map furtherL).map B).length = k + 1 := by simp; omega
  have HLL := Lib.hid hll
  clear hx hcx
  generalize (fl :: (r.take k).map furtherL).map B = ls at *
  go_wp2_with fail
  refine (FT _).mono ?_
  rintro e w4 ⟨rfl, b4⟩
  have hown4 : w4.ownsRow w3.heap.size 9 1 u6 ls.length (ls.map Value.string) := hown.kept b4 (Nat.le_refl _)
  have hs4 := b4.size
  have hs3 := hb.size
  have HC := Lib.hid (strCell w4 (B (furtherL x)) 9)
  have hb4 : Below w3.heap.size w3 w4 := hb.trans (b4.mono hs3)
  clear hown b4
  generalize furtherL x = y at *
  go_wp2_with (at_builtin; refine wpList_append_own _ rfl _ _ 100 rfl w3.heap.size 9 i0 _ 1 16 Tryz.underlying100 hi hz0 hz1 hz2 rfl (by decide) _ _ _ rfl (hown4.alloc _) ⟨w4.heap.size, 0, none⟩ 1 1 _ rfl rfl HC.out ?c2 ?c3 ?c4 ?c5 ?_)
  case c2 => intro u hu; simp at hu; subst hu; rfl
  case c3 => unfold maxLen; omega
  case c4 => omega
  case c5 => simp; omega
  intro v' w5 hown' hgrow _
  obtain ⟨g', cap', rfl⟩ := ownsRow_succ hown'
  have hb5 : Below w3.heap.size w3 w5 := (hb4.alloc (by omega) _).grown hgrow (by simp; omega) (fun j ej => (hown4.lt j ej).1)
  go_wp2_with fail
  go_roundw
  case rel =>
   refine ⟨k + 1, hkl, by go_num, ?_, hb5⟩
   rw [TK.out]
   unfold OwnS
   rw [List.length_append, List.map_append, HLL.out]; exact hown'
  case measure => simp [intOf]; omega
 obtain rfl : k = r.length := by omega
 rw [List.take_length] at hown
 go_wp2_with fail
 go_ret2
 exact ⟨_, _, rfl, by rw [HL.out]; exact hown, BW.out.trans (hb.mono hw3)⟩
end Go.Proofs.YtbkeoiefolkjfaaGreatDoor
namespace Go.Proofs.YtbkeoiefolkjfaaGreatDoor
open Go.RowKit Go.Shelf
def sayG (want : Nat) : List (List UInt8) -> Bool
 | [] => true
 | a :: r => (kindL a == want) && sayG 3 r
theorem sayG_all : ∀ r : List (List UInt8), sayG 3 r = r.all (fun l => kindL l == 3)
 | [] => rfl
 | a :: r => by unfold sayG; rw [sayG_all r, List.all_cons]
theorem sayF_eq (ls : List (List UInt8)) : sayF ls = (decide (0 < ls.length) && sayG 4 ls) := by
 cases ls with
 | nil => rfl
 | cons a r => unfold sayF sayG; rw [sayG_all]; simp
theorem sayG_drop (ls : List (List UInt8)) (k want : Nat) (x : List UInt8) (h : ls[k]? = some x) : sayG want (ls.drop k) = ((kindL x == want) && sayG 3 (ls.drop (k + 1))) := by
 have hk : k < ls.length := by
  rcases Nat.lt_or_ge k ls.length with q | q
  ·exact q
  rw [List.getElem?_eq_none q] at h; cases h
 rw [List.drop_eq_getElem_cons hk]
 rw [List.getElem?_eq_getElem hk] at h
 rw [Option.some.inj h]; rfl
theorem kindL_le (l : List UInt8) : kindL l <= 5 := by
 unfold kindL
 split; · decide
 split; · decide
 split; · decide
 split; · decide
 split <;> decide
theorem cellB {w : World} {A : Option Addr} {ls : List (List UInt8)} (hc : ∀ (i : Nat) (s : ByteArray), (ls.map B)[i]? = some s -> ∃ b off, A = some ⟨b, off, none⟩ /\ b < w.heap.size /\ w.cell? ⟨b, off + i, none⟩ = some (.string s)) :
  ∀ (i : Nat) (x : List UInt8), ls[i]? = some x -> ∃ b off, A = some ⟨b, off, none⟩ /\ b < w.heap.size /\ w.cell? ⟨b, off + i, none⟩ = some (.string (B x)) :=
 fun i x hx => hc i (B x) (by rw [List.getElem?_map, hx]; rfl)
theorem say_any (ls : List (List UInt8)) (v : Value) (w : World) (hs : Strs w v (ls.map B)) (hl : ∀ l ∈ ls, l.length <= 100000) (hn : ls.length <= 100000) :
  Calls Tryz.prog 138 #[v] w fun e w' => e = .returned (.bool (sayF ls)) /\ Below w.heap.size w w' := by
 obtain ⟨A, cap, rfl, hle, hc⟩ := hs
 have hcb := cellB hc
 have PC := Lib.hid hcb
 have HF := Lib.hid (sayF_eq ls)
 clear hc hcb
 rw [List.length_map]
 go_enter Tryz.func138, Tryz.ntmps138
 go_wp2_with fail
 go_loopw [3, 8] (fun v3 i wr => ∃ k want : Nat, k <= ls.length /\ want <= 5 /\ i = .int .i64 k /\ v3 = .int .i64 want /\ sayG 4 ls = sayG want (ls.drop k) /\ Below w.heap.size w wr) (fun _ i _ => ls.length - (intOf i).toNat)
 case atStart => exact ⟨0, 4, Nat.zero_le _, by decide, rfl, rfl, rfl, Below.refl _ _⟩
 case round =>
 obtain ⟨k, want, hk, hwt, rfl, rfl, hG, hb⟩ := hrel
 by_cases hlt : k < ls.length
 ·obtain ⟨x, hx⟩ : ∃ x, ls[k]? = some x := ⟨_, List.getElem?_eq_getElem hlt⟩
  obtain ⟨b, off, rfl, hbb, hcell⟩ := PC.out k x hx
  have hcx := (hb.cell (p := ⟨b, off + k, none⟩) hbb).trans hcell
  have hxl := hl x (List.mem_of_getElem? hx)
  have KX := fun w => kind_any (B x) (by rw [B_size]; unfold maxLen; omega) w
  rw [B_data] at KX
  rw [sayG_drop ls k want x hx] at hG
  have GH := Lib.hid hG
  have hk5 := kindL_le x
  clear hx hcell hG
  generalize kindL x = kx at *
  go_wp2_with fail
  refine (KX _).mono ?_
  rintro e w1 ⟨rfl, b1⟩
  by_cases hkx : kx = want
  ·subst hkx
   go_wp2_with fail
   go_roundw
   case rel => exact ⟨k + 1, 3, hlt, by decide, by go_num, rfl, by rw [GH.out]; simp, hb.trans (b1.mono hb.size)⟩
   case measure => simp [intOf]; omega
  have e1 : ((kx : Int) == (want : Int)) = false := by rw [beq_eq_false_iff_ne]; omega
  have e2 : ((kx : Int) != (want : Int)) = true := by rw [bne, e1]; rfl
  have e3 : (kx == want) = false := by rw [beq_eq_false_iff_ne]; exact hkx
  rw [e3] at GH
  clear hkx e3
  go_wp2_with fail
  go_ret
  exact ⟨by rw [HF.out, GH.out]; simp, hb.trans (b1.mono hb.size)⟩
 obtain rfl : k = ls.length := by omega
 rw [List.drop_length] at hG
 have GH := Lib.hid hG
 clear hG
 go_wp2_with fail
 go_ret
 exact ⟨by rw [HF.out, GH.out]; simp [sayG], hb⟩
theorem trim_sp (l : List UInt8) (w : World) :
  Calls Tryz.prog 96 #[.string (B l), .string ⟨#[32]⟩] w fun e w' => e = .returned (.string (B (dropSp l))) /\ w = w' := by
 refine (Tryz.strings_TrimPrefix (B l) ⟨#[32]⟩ _).mono ?_
 rintro e w' ⟨rfl, rfl⟩
 refine ⟨?_, rfl⟩
 rw [B_data, show (⟨#[32]⟩ : ByteArray).data.toList = [32] from rfl]
 unfold Lib.trimPrefix Lib.hasPrefix dropSp B
 cases l with
 | nil => rfl
 | cons a t =>
 by_cases h : a = 32
 ·subst h; simp [List.isPrefixOf]
 have h2 : ((32 : UInt8) == a) = false := by rw [beq_eq_false_iff_ne]; exact Ne.symm h
 simp [List.isPrefixOf, h2, h]
theorem trim_dot (l : List UInt8) (w : World) :
  Calls Tryz.prog 96 #[.string (B l), .string ⟨#[46]⟩] w fun e w' => e = .returned (.string (B (dropDot l))) /\ w = w' := by
 refine (Tryz.strings_TrimPrefix (B l) ⟨#[46]⟩ _).mono ?_
 rintro e w' ⟨rfl, rfl⟩
 refine ⟨?_, rfl⟩
 rw [B_data, show (⟨#[46]⟩ : ByteArray).data.toList = [46] from rfl]
 unfold Lib.trimPrefix Lib.hasPrefix dropDot B
 cases l with
 | nil => rfl
 | cons a t =>
 by_cases h : a = 46
 ·subst h; simp [List.isPrefixOf]
 have h2 : ((46 : UInt8) == a) = false := by rw [beq_eq_false_iff_ne]; exact Ne.symm h
 simp [List.isPrefixOf, h2, h]
theorem joinNl_eq : ∀ ls : List (List UInt8), Lib.join ls [10] = joinNl ls
 | [] => rfl
 | [p] => by simp [Lib.join, List.intercalate, joinNl]
 | p :: q :: r => by
  have ih := joinNl_eq (q :: r)
  unfold Lib.join at ih ⊢
  show _ = p ++ 10 :: joinNl (q :: r)
  rw [<- ih]
  simp [List.intercalate, List.intersperse]
theorem pre_B (a : List UInt8) : preS (B a) = B (before a) := by
 rw [<- B_of (preS (B a)), preS_data, B_data]
theorem post_B (a : List UInt8) : postS (B a) = B (afterC a) := by
 rw [<- B_of (postS (B a))]
 unfold postS afterC
 rw [Lib.extract_to_end, B_data]
theorem kind3 {x : List UInt8} (h : kindL x = 3) : ∃ c d t, x = c :: d :: t := by
 unfold kindL at h
 split at h; · cases h
 split at h; · cases h
 rename_i hb
 split at h; · cases h
 split at h
 ·rename_i hg
  cases x with
  | nil => cases hg
  | cons c t =>
  cases t with
  | nil =>
   exfalso; apply hb
   have : blankB c = true := hg
   simp [blankAll, this]
  | cons d t => exact ⟨c, d, t, rfl⟩
 split at h <;> cases h
theorem tail_B (c : UInt8) (t : List UInt8) : (B (c :: t)).extract 1 (B (c :: t)).size = B t := by
 rw [<- B_of ((B (c :: t)).extract 1 _), Lib.extract_to_end, B_data]; rfl
end Go.Proofs.YtbkeoiefolkjfaaGreatDoor
namespace Go.Proofs.YtbkeoiefolkjfaaGreatDoor
open Go.RowKit Go.Shelf
theorem results_cell1 {fn : Func} {p : Tmp} {ty : TypeId} (h : fn.results = #[.cell p ty]) (tmps : Array Value) (P : Program) (w : World) :
  (results fn tmps).run P w = ((asAddr (tmps.getD p undef)).run P w).andThen fun a w₁ => (loadVar ty a).run P w₁ := by
 simp only [results, h]
 simp [Sem.run_bind, Result.andThen]
theorem ret_f1 {fn : Func} {p : Tmp} (h : fn.results = #[.cell p 83]) (tmps : Array Value) (w : World) (b : Nat) (cur : Array Value) (hp : tmps.getD p undef = .pointer (some ⟨b, 0, none⟩))
  (hc : Cells w b 83 cur) (hz : cur.size = 2) : (results fn tmps).run Tryz.prog w = .ok (.agg cur) w := by
 have L := run_loadVar_row (P := Tryz.prog) w b 83 83 cur (0, 0) _ hc Tryz.underlying83 rfl (by rw [hz]; kernel_rfl)
 rw [results_cell1 h, hp]
 show (loadVar _ _).run _ _ = _
 exact L
theorem ret_f2 {fn : Func} {p u : Tmp} (h : fn.results = #[.cell p 83, .tmp u]) (tmps : Array Value) (w : World) (b : Nat) (cur : Array Value) (hp : tmps.getD p undef = .pointer (some ⟨b, 0, none⟩))
  (hc : Cells w b 83 cur) (hz : cur.size = 2) : (results fn tmps).run Tryz.prog w = .ok (.tuple #[.agg cur, tmps.getD u undef]) w := by
 have L := run_loadVar_row (P := Tryz.prog) w b 83 83 cur (0, 0) _ hc Tryz.underlying83 rfl (by rw [hz]; kernel_rfl)
 rw [results_cell_tmp h, hp]
 show ((loadVar _ _).run _ _).andThen _ = _
 rw [L]; rfl
theorem cells_kept {w w' : World} {b N : Nat} {t : TypeId} {cur : Array Value} (h : Cells w b t cur) (hb : Below N w w') (hN : b < N) : Cells w' b t cur := (hb.block b hN).trans h
theorem set2 (c0 c1 v0 v1 : Value) : ((#[c0, c1].setIfInBounds 0 v0).setIfInBounds 1 v1) = #[v0, v1] := by
 simp [List.setIfInBounds_toArray, List.set]
theorem said_any (a : List UInt8) (r : List (List UInt8)) (v : Value) (w : World) (hs : Strs w v ((a :: r).map B)) (ha : a.length <= 100000) (hr : ∀ l ∈ r, l.length <= 100000 /\ kindL l = 3) (hka : kindL a = 4) (hn : r.length <= 100000)
    (hj : (saidV (a :: r)).length <= 100000000) :
    Calls Tryz.prog 139 #[v] w fun e w' => e = .returned (fieldV (before a) (saidV (a :: r))) /\ Below w.heap.size w w' := by
  obtain ⟨A, cap, rfl, hle, hc⟩ := hs
  have hcb := cellB hc
  obtain ⟨b, off, rfl, hbb, hca⟩ := hcb 0 a rfl
  have PC := Lib.hid (fun (j : Nat) x (hx : r[j]? = some x) => (show w.cell? ⟨b, off + (j + 1), none⟩ = some (.string (B x)) by
    obtain ⟨b', off', e, _, h⟩ := hcb (j + 1) x (by simpa using hx)
    cases e; exact h))
  clear hc hcb
  rw [List.length_map, List.length_cons] at hle ⊢
  have CP := fun w => cut_pair (B a) (by rw [B_size]; unfold maxLen; omega) (by rw [B_data]; exact hka) w
  rw [pre_B, post_B] at CP
  have TS := fun w => trim_sp (afterC a) w
  have HS : Hid (saidP (a :: r) = dropSp (afterC a) :: r.map (fun l => dropDot l.tail)) := rfl
  have HJ : Hid (Lib.join (((dropSp (afterC a) :: r.map (fun l => dropDot l.tail)).map B).map (·.data.toList)) [10] = saidV (a :: r)) := by
    show _ = _
    unfold saidV
    rw [<- joinNl_eq, HS.out, List.map_map]
    congr 1
    conv => rhs; rw [<- List.map_id (dropSp (afterC a) :: r.map (fun l => dropDot l.tail))]
    exact List.map_congr_left fun l _ => B_data l
  generalize dropSp (afterC a) = p0 at *
  generalize afterC a = ac at *
  obtain ⟨i0, hi, hz0, hz1, hz2⟩ := info_parts infoStr
  rw [Nat.add_zero] at hca
  go_enter Tryz.func139, Tryz.ntmps139
  go_wp2_with fail
  refine (CP _).mono ?_
  rintro e w1 ⟨rfl, b1⟩
  go_wp2_with fail
  refine (TS _).mono ?_
  rintro e w2 ⟨rfl, rfl⟩
  have RB : Cells w1 w.heap.size 83 #[.string ⟨#[]⟩, .string ⟨#[]⟩] := cells_kept (Cells.new w _ _) b1 (by simp)
  have hb1 : Below w.heap.size w w1 := ((Below.refl _ _).alloc (Nat.le_refl _) _).trans (b1.mono (by simp))
  have PC1 := Lib.hid (fun (j : Nat) x (hx : r[j]? = some x) => (hb1.cell (p := ⟨b, off + (j + 1), none⟩) hbb).trans (PC.out j x hx))
  have hs1 := b1.size
  simp only [World.size_alloc] at hs1
  have hb1lt : b < w1.heap.size := by omega
  have BW := Lib.hid hb1
  clear b1 PC hca hb1 CP TS
  have hw1 := BW.out.size
  go_wp2_with fail
  all_goals
    go_loopw [6, 23] (fun v6 i wr => ∃ (k : Nat), k <= r.length /\ i = .int .i64 k /\ OwnS wr w1.heap.size v6 ((p0 :: (r.take k).map (fun l => dropDot l.tail)).map B) /\ Below w1.heap.size w1 wr) (fun _ i _ => r.length - (intOf i).toNat)
    case atStart => exact ⟨0, Nat.zero_le _, rfl, OwnS.one w1 _ (Nat.le_refl _) _, (Below.refl _ _).alloc (Nat.le_refl _) _⟩
    case round =>
    obtain ⟨k, hkr, rfl, hown, hb⟩ := hrel
    by_cases hkl : k < r.length
    . first
      | (exfalso; omega)
      | (obtain ⟨x, hx⟩ : ∃ x, r[k]? = some x := ⟨_, List.getElem?_eq_getElem hkl⟩
         have hcx := PC1.out k x hx
         have hcx2 := (hb.cell (p := ⟨b, off + (k + 1), none⟩) hb1lt).trans hcx
         rw [show off + (k + 1) = off + 1 + k by omega] at hcx2
         obtain ⟨hxl, hx3⟩ := hr x (List.mem_of_getElem? hx)
         obtain ⟨c, d, t, rfl⟩ := kind3 hx3
         have TK : Hid ((p0 :: (r.take (k + 1)).map (fun l => dropDot l.tail)).map B = (p0 :: (r.take k).map (fun l => dropDot l.tail)).map B ++ [B (dropDot (d :: t))]) := by
           show _ = _
           rw [List.take_add_one, hx]; simp
         have TD := fun w => trim_dot (d :: t) w
         have hll : ((p0 :: (r.take k).map (fun l => dropDot l.tail)).map B).length = k + 1 := by simp; omega
         have HLL := Lib.hid hll
         have hsz : (B (c :: d :: t)).size = t.length + 2 := by rw [B_size]; rfl
         have hex := tail_B c (d :: t)
         rw [hsz] at hex
         clear hx hcx hx3
         generalize (p0 :: (r.take k).map (fun l => dropDot l.tail)).map B = ls at *
         generalize dropDot (d :: t) = y at *
         generalize B (c :: d :: t) = X at *
         generalize B (d :: t) = Y at *
         go_wp2_with fail
         refine (TD _).mono ?_
         rintro e w4 ⟨rfl, rfl⟩
         have hs3 := hb.size
         have HC := Lib.hid (strCell wr (B y) 9)
         have hown4 : wr.ownsRow w1.heap.size 9 1 u6 ls.length (ls.map Value.string) := hown
         clear hown
         go_wp2_with (at_builtin; refine wpList_append_own _ rfl _ _ 100 rfl w1.heap.size 9 i0 _ 1 16 Tryz.underlying100 hi hz0 hz1 hz2 rfl (by decide) _ _ _ rfl (hown4.alloc _) ⟨wr.heap.size, 0, none⟩ 1 1 _ rfl rfl HC.out ?c2 ?c3 ?c4 ?c5 ?_)
         case c2 => intro u hu; simp at hu; subst hu; rfl
         case c3 => unfold maxLen; omega
         case c4 => omega
         case c5 => simp; omega
         intro v' w5 hown' hgrow _
         obtain ⟨g', cap', rfl⟩ := ownsRow_succ hown'
         have hb5 : Below w1.heap.size w1 w5 := (hb.alloc (by omega) _).grown hgrow (by simp; omega) (fun j ej => (hown4.lt j ej).1)
         go_wp2_with fail
         go_roundw
         case rel =>
           refine ⟨k + 1, hkl, by go_num, ?_, hb5⟩
           rw [TK.out]
           unfold OwnS
           rw [List.length_append, List.map_append, HLL.out]; exact hown'
         case measure => simp [intOf]; omega)
    obtain rfl : k = r.length := by omega
    rw [List.take_length] at hown
    obtain ⟨g, cap', e⟩ := Joins.ownsRow_form hown (by simp)
    subst e
    have hst := hown.strs
    obtain ⟨A', cap2, e, hle2, hc2⟩ := hst
    cases e
    have RBr := cells_kept RB hb (by omega)
    have JN := Tryz.strings_Join g 0 cap' _ ⟨#[10]⟩ wr (fun j x hx => by obtain ⟨b', o', e, _, h⟩ := hc2 j x hx; cases e; exact h) (by obtain ⟨b', o', e, h, _⟩ := hc2 0 _ rfl; cases e; exact h) (by simp; omega) hle2 (by show (Lib.join _ [10]).length <= _; rw [HJ.out]; omega)
    rw [show (⟨#[10]⟩ : ByteArray).data.toList = [10] from rfl, HJ.out] at JN
    simp only [List.length_map, List.length_cons] at JN ⊢
    have hbw := hb.size
    have hbA := BW.out.trans (hb.mono hw1)
    clear hown hc2 hle2 HJ
    go_wp2_with fail
    refine JN.mono ?_
    rintro e w5 ⟨rfl, b5⟩
    have R5 := cells_kept RBr b5 (by omega)
    have c0 := R5.cell 0
    have c1 := R5.cell 1
    have f0 := R5.frozen 0
    have f1 := R5.frozen 1
    have hb5 := hbA.trans (b5.mono (by omega))
    simp only [List.getElem?_toArray, List.getElem?_cons_zero, List.getElem?_cons_succ] at c0 c1
    rw [mkB]
    have RE := (R5.set 0 (.string (B (before a)))).set 1 (.string (B (saidV (a :: r))))
    rw [set2] at RE
    go_wp2_with fail
    refine bodyPost_ret (ret_f1 rfl _ _ w.heap.size _ rfl RE rfl) rfl ?_
    exact ⟨rfl, (hb5.setCell (Nat.le_refl _) _).setCell (Nat.le_refl _) _⟩
end Go.Proofs.YtbkeoiefolkjfaaGreatDoor
namespace Go.Proofs.YtbkeoiefolkjfaaGreatDoor
open Go.RowKit Go.Shelf
attribute [local go_sem] errV_0 errV_2 errV_6
theorem sayF_parts {ls : List (List UInt8)} (h : sayF ls = true) : ∃ a r, ls = a :: r /\ kindL a = 4 /\ ∀ l ∈ r, kindL l = 3 := by
 cases ls with
 | nil => cases h
 | cons a r =>
 refine ⟨a, r, rfl, ?_⟩
 unfold sayF at h
 simp only [Bool.and_eq_true, beq_iff_eq, List.all_eq_true] at h
 exact h
theorem unfold_no {ls : List (List UInt8)} (h : sayF ls = false) : unfoldN ls = 2 /\ unfoldK ls = [] /\ unfoldV ls = [] := by
 have e : unfoldN ls = 2 := by unfold unfoldN; rw [h]; rfl
 exact ⟨e, by unfold unfoldK; rw [e]; rfl, by unfold unfoldV; rw [e]; rfl⟩
theorem unfold_long {ls : List (List UInt8)} (h : sayF ls = true) (hl : ¬ (saidV ls).length <= 1000) : unfoldN ls = 6 /\ unfoldK ls = [] /\ unfoldV ls = [] := by
 have e : unfoldN ls = 6 := by unfold unfoldN; rw [h, if_pos rfl, if_neg hl]
 exact ⟨e, by unfold unfoldK; rw [e]; rfl, by unfold unfoldV; rw [e]; rfl⟩
theorem unfold_yes {a : List UInt8} {r : List (List UInt8)} (h : sayF (a :: r) = true) (hl : (saidV (a :: r)).length <= 1000) : unfoldN (a :: r) = 0 /\ unfoldK (a :: r) = before a /\ unfoldV (a :: r) = saidV (a :: r) := by
 have e : unfoldN (a :: r) = 0 := by unfold unfoldN; rw [h, if_pos rfl, if_pos hl]
 exact ⟨e, by unfold unfoldK; rw [e]; rfl, by unfold unfoldV; rw [e]; rfl⟩
theorem before_len (a : List UInt8) : (before a).length <= a.length := (List.takeWhile_prefix _).length_le
theorem unfold_any (ls : List (List UInt8)) (v : Value) (w : World) (hs : Strs w v (ls.map B)) (hl : ∀ l ∈ ls, l.length <= 100000) (hn : ls.length <= 100000) (hj : (saidV ls).length <= 1000000) :
  Calls Tryz.prog 105 #[v] w fun e w' => e = .returned (.tuple #[fieldV (unfoldK ls) (unfoldV ls), errV (unfoldN ls)]) /\ Below w.heap.size w w' := by
 have ST := Lib.hid (fun (o : Obj) => (hs.alloc o))
 cases hF : sayF ls with
 | false =>
  obtain ⟨e1, e2, e3⟩ := unfold_no hF
  rw [e1, e2, e3]
  unfold fieldV
  go_enter Tryz.func105, Tryz.ntmps105
  go_wp2_with fail
  refine (say_any ls v _ (ST.out _) hl hn).mono ?_
  rw [hF]
  rintro e w1 ⟨rfl, b1⟩
  have R1 := cells_kept (Cells.new w 83 #[.string ⟨#[]⟩, .string ⟨#[]⟩]) b1 (by simp)
  have c0 := R1.cell 0
  have c1 := R1.cell 1
  have f0 := R1.frozen 0
  have f1 := R1.frozen 1
  have hb1 : Below w.heap.size w w1 := ((Below.refl _ _).alloc (Nat.le_refl _) _).trans (b1.mono (by simp))
  simp only [List.getElem?_toArray, List.getElem?_cons_zero, List.getElem?_cons_succ] at c0 c1
  have RE := (R1.set 0 (.string ⟨#[]⟩)).set 1 (.string ⟨#[]⟩)
  rw [set2] at RE
  clear b1 ST
  go_wp2_with fail
  refine bodyPost_ret (ret_f2 rfl _ _ w.heap.size _ rfl RE rfl) rfl ?_
  exact ⟨rfl, (hb1.setCell (Nat.le_refl _) _).setCell (Nat.le_refl _) _⟩
 | true =>
 obtain ⟨a, r, rfl, hka, hkr⟩ := sayF_parts hF
 have hg : goodKey (before a) = true := (kind4 hka).2.2
 have hal := hl a (by simp)
 have hbl := before_len a
 have SD := fun w' (h : Strs w' v ((a :: r).map B)) => said_any a r v w' h hal (fun l hm => ⟨hl l (List.mem_cons_of_mem _ hm), hkr l hm⟩) hka (by simp at hn; omega) (by omega)
 have CK := fun w' => check_any (before a) (saidV (a :: r)) (by omega) hj w'
 have hchk : checkN (before a) (saidV (a :: r)) = if (saidV (a :: r)).length <= 1000 then 0 else 6 := by unfold checkN; rw [hg]; rfl
 rw [hchk] at CK
 have SAY := fun w' (h : Strs w' v ((a :: r).map B)) => say_any (a :: r) v w' h hl hn
 rw [hF] at SAY
 by_cases hlen : (saidV (a :: r)).length <= 1000
 ·rw [if_pos hlen] at CK
  obtain ⟨e1, e2, e3⟩ := unfold_yes hF hlen
  rw [e1, e2, e3]
  unfold fieldV at *
  generalize B (before a) = K at *
  generalize B (saidV (a :: r)) = V at *
  go_enter Tryz.func105, Tryz.ntmps105
  go_wp2_with fail
  refine (SAY _ (ST.out _)).mono ?_
  rintro e w1 ⟨rfl, b1⟩
  have S1 := (ST.out (.cells #[.string ⟨#[]⟩, .string ⟨#[]⟩] 83)).below b1 (Nat.le_refl _)
  have R1 := cells_kept (Cells.new w 83 #[.string ⟨#[]⟩, .string ⟨#[]⟩]) b1 (by simp)
  have hb1 : Below w.heap.size w w1 := ((Below.refl _ _).alloc (Nat.le_refl _) _).trans (b1.mono (by simp))
  have hs1 := b1.size
  simp only [World.size_alloc] at hs1
  clear b1 ST
  go_wp2_with fail
  refine (SD _ S1).mono ?_
  rintro e w2 ⟨rfl, b2⟩
  have R2 := cells_kept R1 b2 (by omega)
  have hb2 := hb1.trans (b2.mono (by omega))
  have hs2 := b2.size
  clear b2 R1 S1 hb1
  have NB := Cells.new w2 83 #[.string K, .string V]
  have OB := R2.alloc (.cells #[.string K, .string V] 83)
  have hb3 := hb2.alloc (by omega) (.cells #[.string K, .string V] 83)
  go_wp2_with fail
  refine (CK _).mono ?_
  rintro e w4 ⟨rfl, b4⟩
  have N4 := cells_kept NB b4 (by simp)
  have O4 := cells_kept OB b4 (by simp; omega)
  have hb4 := hb3.trans (b4.mono (by simp; omega))
  have n0 := N4.cell 0
  have n1 := N4.cell 1
  have c0 := O4.cell 0
  have c1 := O4.cell 1
  have f0 := O4.frozen 0
  have f1 := O4.frozen 1
  simp only [List.getElem?_toArray, List.getElem?_cons_zero, List.getElem?_cons_succ] at c0 c1 n0 n1
  have RE := (O4.set 0 (.string K)).set 1 (.string V)
  rw [set2] at RE
  clear b4 NB OB R2 hb3 hb2
  go_wp2_with fail
  refine bodyPost_ret (ret_f2 rfl _ _ w.heap.size _ rfl RE rfl) rfl ?_
  exact ⟨rfl, (hb4.setCell (Nat.le_refl _) _).setCell (Nat.le_refl _) _⟩
 rw [if_neg hlen] at CK
 obtain ⟨e1, e2, e3⟩ := unfold_long hF hlen
 rw [e1, e2, e3]
 unfold fieldV at *
 generalize B (before a) = K at *
 generalize B (saidV (a :: r)) = V at *
 go_enter Tryz.func105, Tryz.ntmps105
 go_wp2_with fail
 refine (SAY _ (ST.out _)).mono ?_
 rintro e w1 ⟨rfl, b1⟩
 have S1 := (ST.out (.cells #[.string ⟨#[]⟩, .string ⟨#[]⟩] 83)).below b1 (Nat.le_refl _)
 have R1 := cells_kept (Cells.new w 83 #[.string ⟨#[]⟩, .string ⟨#[]⟩]) b1 (by simp)
 have hb1 : Below w.heap.size w w1 := ((Below.refl _ _).alloc (Nat.le_refl _) _).trans (b1.mono (by simp))
 have hs1 := b1.size
 simp only [World.size_alloc] at hs1
 clear b1 ST
 go_wp2_with fail
 refine (SD _ S1).mono ?_
 rintro e w2 ⟨rfl, b2⟩
 have R2 := cells_kept R1 b2 (by omega)
 have hb2 := hb1.trans (b2.mono (by omega))
 have hs2 := b2.size
 clear b2 R1 S1 hb1
 have NB := Cells.new w2 83 #[.string K, .string V]
 have OB := R2.alloc (.cells #[.string K, .string V] 83)
 have hb3 := hb2.alloc (by omega) (.cells #[.string K, .string V] 83)
 go_wp2_with fail
 refine (CK _).mono ?_
 rintro e w4 ⟨rfl, b4⟩
 have N4 := cells_kept NB b4 (by simp)
 have O4 := cells_kept OB b4 (by simp; omega)
 have hb4 := hb3.trans (b4.mono (by simp; omega))
 have n0 := N4.cell 0
 have n1 := N4.cell 1
 have c0 := O4.cell 0
 have c1 := O4.cell 1
 have f0 := O4.frozen 0
 have f1 := O4.frozen 1
 simp only [List.getElem?_toArray, List.getElem?_cons_zero, List.getElem?_cons_succ] at c0 c1 n0 n1
 have RE := (O4.set 0 (.string ⟨#[]⟩)).set 1 (.string ⟨#[]⟩)
 rw [set2] at RE
 clear b4 NB OB R2 hb3 hb2
 go_wp2_with fail
 refine bodyPost_ret (ret_f2 rfl _ _ w.heap.size _ rfl RE rfl) rfl ?_
 exact ⟨rfl, (hb4.setCell (Nat.le_refl _) _).setCell (Nat.le_refl _) _⟩
end Go.Proofs.YtbkeoiefolkjfaaGreatDoor
