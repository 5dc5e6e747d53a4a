/- Texts put together: MC, MD, ME, MF, PA, PO, PQ, PR, MB, FL, OB, OC, PB, PC, PD, PE, WA, RF. -/
import Derived.Deep.RegionHeld3
import Derived.OwnWalk
import Derived.Laws.AppendOwn
import Derived.Laws.OwnMore
import Derived.Lib.SmallJoins
import Derived.Test.YthblpjjocokphaaGreatDoorProg
import Derived.WalkKit
import Derived.Maps.Own
import Derived.Maps.OwnSet
import Derived.Maps.AppendAt
import Derived.Lib.Hide
import Derived.Below
import Derived.Deep.Quiet
import Derived.Deep.WholeRow
import Derived.Deep.RegionLaw
import Derived.RegionTactic
import Derived.BigRegion
import Derived.Deep.DeepCutAuto
import Derived.Test.YthblpjjocokphaaGreatDoorChecked
import Derived.ShutString
import Derived.BigCall
import Derived.ChangeAlike
import Derived.Deep.QuietTactic
import Derived.BigQuiet
import Derived.Outline
import Derived.IntWalk
import Derived.RangeFuncNested
import Derived.RangeFuncBound
import Derived.RangeFuncCalls
import Derived.RangeFuncLeaves
import Derived.Test.YthblpjjocokphaaGreatDoorBase1
set_option linter.unusedVariables false
/- The program's calls on headers. -/
namespace Go.Proofs.YthblpjjocokphaaGreatDoor.Hd
open Go.RowKit Go.Shelf
attribute [local go_sem] Oper.semAt_some

def MaxL (w : World) : Prop := ∃ m : Int, w.cell? ⟨0, 0, none⟩ = some (.int .i64 m)
theorem MaxL.below {w w' : World} {N : Nat} (h : MaxL w) (hb : Below N w w') (hN : w.heap.size ≤ N) : MaxL w' := by
  obtain ⟨m, hm⟩ := h
  have hlt : 0 < w.heap.size := by
    rcases Nat.lt_or_ge 0 w.heap.size with h | h
    · exact h
    · have : w.heap[0]? = none := Array.getElem?_eq_none h
      simp [World.cell?, this] at hm
  exact ⟨m, (hb.cell (p := ⟨0, 0, none⟩) (by show 0 < N; omega)).trans hm⟩
/-- What the library's variables hold. -/
structure Tab (w : World) : Prop where
  nums : Fr.TabsN w
  max : MaxL w
theorem Tab.below {w w' : World} {N : Nat} (h : Tab w) (hb : Below N w w') (hN : w.heap.size ≤ N) : Tab w' := ⟨h.nums.below hb hN, h.max.below hb hN⟩
theorem grow_below {w : World} (n : Nat) (os : Array Obj) : Below w.heap.size w (Go.Sort.grow (w.drewN n) os) :=
  ⟨rfl, rfl, rfl, by rw [Go.Sort.size_grow]; exact Nat.le_add_right _ _, fun k hk => Go.Sort.heap_grow_old _ _ hk⟩
theorem itoa_any (n : Nat) (hn : n ≤ 9223372036854775807) (w : World) (ht : Tab w) : Calls Tryz.prog 9 #[.int .i64 (n : Int)] w fun e w' => e = .returned (.string (B (Lib.decDigits n))) ∧ Below w.heap.size w w' :=
  (Tryz.strconv_Itoa n (by omega) (by omega) w ht.nums.pow).mono fun e w' ⟨he, k, os, hw⟩ => ⟨by rw [he, Lib.itoa_nonneg]; rfl, by rw [hw]; exact grow_below k os⟩

theorem line_any (g : Nat) (h1 : 1 ≤ g) (h2 : g ≤ 2147483648) (w : World) (ht : Tab w) :
    Calls Tryz.prog 5 #[.int .i64 (g : Int)] w fun e w' => e = .returned (.tuple #[.string (B (headL g)), .nilIface]) ∧ Below w.heap.size w w' := by
  have IT := Lib.hid (itoa_any g (by omega) w ht)
  have E : Hid ((⟨#[35, 37, 103, 101, 110, 32]⟩ : ByteArray) ++ B (Lib.decDigits g) ++ ⟨#[10, 10]⟩ = B (headL g)) := by
    show _ = _
    rw [show (⟨#[35, 37, 103, 101, 110, 32]⟩ : ByteArray) = B SIGN from rfl, show (⟨#[10, 10]⟩ : ByteArray) = B [10, 10] from rfl, B_append, B_append]
    unfold headL; simp
  have hs : (B (Lib.decDigits g)).size ≤ 20 := by rw [B_size]; exact (dec_len g h2).2
  have q1 : ¬ (g : Int) < 1 := by omega
  have q2 : ¬ (2147483648 : Int) < g := by omega
  generalize B (Lib.decDigits g) = d at *
  have s1 : ((⟨#[35, 37, 103, 101, 110, 32]⟩ : ByteArray) ++ d).size ≤ 26 := by rw [ByteArray.size_append]; show 6 + _ ≤ _; omega
  clear ht
  go_enter Tryz.func5, Tryz.ntmps5
  go_wp2_with fail
  refine IT.out.mono ?_
  rintro e w1 ⟨rfl, hb⟩
  go_wp2_with fail
  go_ret2
  exact ⟨by rw [← E.out]; rfl, hb⟩
theorem line_not (g : Int) (h : g < 1 ∨ 2147483648 < g) (w : World) :
    Calls Tryz.prog 5 #[.int .i64 g] w fun e w' => e = .returned (.tuple #[.string (B []), errV 1]) ∧ w' = w := by
  by_cases q1 : g < 1
  · go_enter Tryz.func5, Tryz.ntmps5
    go_wp2_with fail
    go_ret2
    exact ⟨rfl, rfl⟩
  · have q2 : (2147483648 : Int) < g := by omega
    go_enter Tryz.func5, Tryz.ntmps5
    go_wp2_with fail
    go_ret2
    exact ⟨rfl, rfl⟩
/-- A text's generation, as the program finds it. -/
def genP (t : List UInt8) : Nat := if 1 ≤ atoiV (figs t) ∧ atoiV (figs t) ≤ 2147483648 ∧ Lib.hasPrefix t (headL (atoiV (figs t)).toNat) = true then (atoiV (figs t)).toNat else 0
theorem genP_is (t : List UInt8) : GenIs t (genP t) := gen_prog t
theorem trim_call (t : List UInt8) (w : World) : Calls Tryz.prog 16 #[.string (B t), .string ⟨#[35, 37, 103, 101, 110, 32]⟩] w fun e w' => e = .returned (.string (B (Lib.trimPrefix t SIGN))) ∧ w' = w :=
  (Tryz.strings_TrimPrefix (B t) ⟨#[35, 37, 103, 101, 110, 32]⟩ w).mono fun e w' ⟨he, hw⟩ => ⟨by rw [he, B_data]; rfl, hw⟩
theorem cut_call (t : List UInt8) (ht : t.length ≤ 1000000) (w : World) (hm : MaxL w) : Calls Tryz.prog 15 #[.string (B t), .string ⟨#[10, 10]⟩] w fun e w' => (∃ b c, e = .returned (.tuple #[.string (B (Lib.cut t [10, 10]).1), .string b, .bool c])) ∧ Below w.heap.size w w' := by
  obtain ⟨m, hm⟩ := hm
  refine (Tryz.strings_Cut (B t) ⟨#[10, 10]⟩ m w (by rw [B_size]; omega) hm).mono ?_
  rintro e w' ⟨rfl, n, rfl⟩
  rw [B_data]
  exact ⟨⟨_, _, rfl⟩, drewN_below (Below.refl _ _) n⟩
theorem pre_call (a b : List UInt8) (w : World) : Calls Tryz.prog 18 #[.string (B a), .string (B b)] w fun e w' => e = .returned (.bool (Lib.hasPrefix a b)) ∧ w' = w :=
  (Tryz.strings_HasPrefix (B a) (B b) w).mono fun e w' ⟨he, hw⟩ => ⟨by rw [he, B_data, B_data], hw⟩
theorem trim_len (t p : List UInt8) : (Lib.trimPrefix t p).length ≤ t.length := by
  unfold Lib.trimPrefix; split
  · rw [List.length_drop]; omega
  · omega
set_option maxHeartbeats 1000000 in
theorem gen_any (t : List UInt8) (hl : t.length ≤ 100000) (w : World) (ht : Tab w) :
    Calls Tryz.prog 8 #[.string (B t)] w fun e w' => e = .returned (.int .i64 (genP t : Nat)) ∧ Below w.heap.size w w' := by
  have TR := Lib.hid (trim_call t)
  have hfl := figs_len t
  have htl := trim_len t SIGN
  have CU := Lib.hid (fun W (hb : Below w.heap.size w W) => cut_call (Lib.trimPrefix t SIGN) (by omega) W (ht.max.below hb (Nat.le_refl _)))
  have AT := Lib.hid (fun W (hb : Below w.heap.size w W) => Fr.atoi_any (figs t) (by omega) W (ht.nums.below hb (Nat.le_refl _)))
  have PR := Lib.hid (fun g W => pre_call t (headL g) W)
  unfold genP
  rw [show (Lib.cut (Lib.trimPrefix t SIGN) [10, 10]).1 = figs t from rfl] at CU
  generalize figs t = fg at *
  generalize Lib.trimPrefix t SIGN = tr at *
  generalize atoiV fg = v at *
  by_cases hv : 1 ≤ v ∧ v ≤ 2147483648
  · obtain ⟨g, rfl⟩ : ∃ g : Nat, v = g := ⟨v.toNat, by omega⟩
    have LI := Lib.hid (fun W (hb : Below w.heap.size w W) => line_any g (by omega) (by omega) W (ht.below hb (Nat.le_refl _)))
    have PR := Lib.hid (fun W => PR.out g W)
    rw [Int.toNat_natCast]
    cases hp : Lib.hasPrefix t (headL g) with
    | true =>
      rw [if_pos ⟨hv.1, hv.2, rfl⟩]
      rw [hp] at PR
      clear ht hp
      generalize B t = bt at *
      generalize B (headL g) = bh at *
      generalize B fg = bf at *
      generalize B tr = br at *
      go_enter Tryz.func8, Tryz.ntmps8
      go_wp2_with fail
      refine (TR.out _).mono ?_
      rintro e w1 ⟨rfl, rfl⟩
      go_wp2_with fail
      refine (CU.out _ (Below.refl _ _)).mono ?_
      rintro e w2 ⟨⟨b, c, rfl⟩, hb2⟩
      go_wp2_with fail
      refine (AT.out _ hb2).mono ?_
      rintro e w3 ⟨⟨T, q, rfl | rfl⟩, hb3⟩
      all_goals
        have hb4 := hb2.trans (hb3.mono hb2.size)
        go_wp2_with fail
        refine (LI.out _ hb4).mono ?_
        rintro e w4 ⟨rfl, hb5⟩
        have hb6 := hb4.trans (hb5.mono hb4.size)
        go_wp2_with fail
        refine (PR.out _).mono ?_
        rintro e w5 ⟨rfl, rfl⟩
        go_wp2_with fail
        go_ret
        exact ⟨rfl, hb6⟩
    | false =>
      rw [if_neg (fun h => Bool.noConfusion h.2.2)]
      rw [hp] at PR
      clear ht hp
      generalize B t = bt at *
      generalize B (headL g) = bh at *
      generalize B fg = bf at *
      generalize B tr = br at *
      go_enter Tryz.func8, Tryz.ntmps8
      go_wp2_with fail
      refine (TR.out _).mono ?_
      rintro e w1 ⟨rfl, rfl⟩
      go_wp2_with fail
      refine (CU.out _ (Below.refl _ _)).mono ?_
      rintro e w2 ⟨⟨b, c, rfl⟩, hb2⟩
      go_wp2_with fail
      refine (AT.out _ hb2).mono ?_
      rintro e w3 ⟨⟨T, q, rfl | rfl⟩, hb3⟩
      all_goals
        have hb4 := hb2.trans (hb3.mono hb2.size)
        go_wp2_with fail
        refine (LI.out _ hb4).mono ?_
        rintro e w4 ⟨rfl, hb5⟩
        have hb6 := hb4.trans (hb5.mono hb4.size)
        go_wp2_with fail
        refine (PR.out _).mono ?_
        rintro e w5 ⟨rfl, rfl⟩
        go_wp2_with fail
        go_ret
        exact ⟨rfl, hb6⟩
  · rw [if_neg (fun h => hv ⟨h.1, h.2.1⟩)]
    have LI := Lib.hid (fun W => line_not v (by omega) W)
    clear ht PR
    generalize B t = bt at *
    generalize B fg = bf at *
    generalize B tr = br at *
    go_enter Tryz.func8, Tryz.ntmps8
    go_wp2_with fail
    refine (TR.out _).mono ?_
    rintro e w1 ⟨rfl, rfl⟩
    go_wp2_with fail
    refine (CU.out _ (Below.refl _ _)).mono ?_
    rintro e w2 ⟨⟨b, c, rfl⟩, hb2⟩
    go_wp2_with fail
    refine (AT.out _ hb2).mono ?_
    rintro e w3 ⟨⟨T, q, rfl | rfl⟩, hb3⟩
    all_goals
      have hb4 := hb2.trans (hb3.mono hb2.size)
      go_wp2_with fail
      refine (LI.out _).mono ?_
      rintro e w4 ⟨rfl, rfl⟩
      rw [errV_pos 1 (by omega)]
      go_wp2_with fail
      go_ret
      exact ⟨rfl, hb4⟩
/-- How many bytes a text's header has. -/
def lenP (n : Nat) : Nat := if 1 ≤ n ∧ n ≤ 2147483648 then (headL n).length else 0
theorem lenP_le {t : List UInt8} {n : Nat} (h : GenIs t n) : lenP n ≤ t.length := by
  unfold lenP
  split
  · rename_i hn
    obtain ⟨r, rfl⟩ := gen_pre h hn.1
    simp
  · omega
theorem held_on {w W W' : World} (h : Below w.heap.size w W) (hb : Below W.heap.size W W') : Below w.heap.size w W' := h.trans (hb.mono h.size)
end Go.Proofs.YthblpjjocokphaaGreatDoor.Hd
/- The document's headers. -/
namespace Go.Proofs.YthblpjjocokphaaGreatDoor.Hd
open Go.RowKit Go.Shelf
attribute [local go_sem] Oper.semAt_some

theorem byteT {c : UInt8} (d : UInt8) (n : Int) (hn : (d.toNat : Int) = n) : ((c.toNat : Int) == n) = (c == d) := by
  by_cases h : c = d
  · subst h; simp [hn]
  · have : (c.toNat : Int) ≠ n := by intro e; apply h; apply UInt8.toNat_inj.1; omega
    rw [beq_eq_false_iff_ne.2 this]; simp [h]
/-- Where the document stops looking for the line's end. -/
structure Stop (t : List UInt8) (i : Nat) : Prop where
  sign : t.take 6 = SIGN
  ge : 6 ≤ i
  le : i ≤ t.length
  no : (10 : UInt8) ∉ (t.take i).drop 6
def dsOf (t : List UInt8) (i : Nat) : List UInt8 := (t.take i).drop 6
theorem Stop.form {t : List UInt8} {i : Nat} (h : Stop t i) : t = SIGN ++ (dsOf t i ++ t.drop i) := by
  have e : t.take i = SIGN ++ dsOf t i := by
    have e1 : (t.take i).take 6 = SIGN := by rw [List.take_take, Nat.min_eq_left h.ge]; exact h.sign
    conv => lhs; rw [← List.take_append_drop 6 (t.take i), e1]
    rfl
  conv => lhs; rw [← List.take_append_drop i t, e, List.append_assoc]
theorem Stop.end_ {t : List UInt8} {i : Nat} (h : i = t.length ∨ t[i]? = some 10) : t.drop i = [] ∨ ∃ q, t.drop i = 10 :: q := by
  rcases h with h | h
  · left; rw [h]; simp
  · obtain ⟨hlt, hc⟩ := List.getElem?_eq_some_iff.1 h
    right
    exact ⟨t.drop (i + 1), by rw [List.drop_eq_getElem_cons hlt, hc]⟩
theorem dec_num {g : Nat} (h2 : g ≤ 2147483648) : Fr.numL (Lib.decDigits g) = some (g : Int) := Fr.numL_some.2 ⟨by constructor <;> omega, by rw [Lib.itoa_nonneg]⟩
theorem Stop.no_num {t : List UInt8} {i : Nat} (h : Stop t i) (he : i = t.length ∨ t[i]? = some 10) (hn : ∀ n, Fr.numL (dsOf t i) = some n → n < 1 ∨ 2147483648 < n) : GenIs t 0 := by
  rw [h.form]
  refine gen_odd h.no (fun g h1 h2 => .inl fun e => ?_) (Stop.end_ he)
  have := hn g (by rw [e]; exact dec_num h2)
  omega
theorem Stop.one {t : List UInt8} {i : Nat} (h : Stop t i) (he : i = t.length ∨ t[i]? = some 10) (hn : t[i + 1]? ≠ some 10) : GenIs t 0 := by
  rw [h.form]
  refine gen_odd h.no (fun g h1 h2 => .inr fun q e => hn ?_) (Stop.end_ he)
  have : (t.drop i)[1]? = some 10 := by rw [e]; rfl
  rwa [List.getElem?_drop] at this
theorem Stop.yes {t : List UInt8} {i g : Nat} (h : Stop t i) (h1 : 1 ≤ g) (h2 : g ≤ 2147483648) (he : t[i]? = some 10) (he2 : t[i + 1]? = some 10) (hn : Fr.numL (dsOf t i) = some (g : Int)) : GenIs t g ∧ lenP g = i + 2 := by
  have hd : dsOf t i = Lib.decDigits g := by
    have := (Fr.numL_some.1 hn).2
    rw [Lib.itoa_nonneg] at this
    exact this.symm
  obtain ⟨hlt, hc⟩ := List.getElem?_eq_some_iff.1 he
  obtain ⟨hlt2, hc2⟩ := List.getElem?_eq_some_iff.1 he2
  have e : t.drop i = 10 :: 10 :: t.drop (i + 2) := by rw [List.drop_eq_getElem_cons hlt, hc, List.drop_eq_getElem_cons hlt2, hc2]
  have hf := h.form
  rw [e] at hf
  refine ⟨by rw [hf]; exact gen_ref h.no h1 h2 hd, ?_⟩
  unfold lenP
  rw [if_pos ⟨h1, h2⟩]
  unfold headL
  have hl : (dsOf t i).length = i - 6 := by unfold dsOf; rw [List.length_drop, List.length_take]; have := h.le; omega
  rw [← hd]
  simp only [List.length_append, hl, List.length_cons, List.length_nil]
  have := h.ge
  show 6 + _ = _
  omega
theorem at_some {s : ByteArray} {k : Nat} (h : k < s.size) : s.data.toList[k]? = some s[k] := by
  rw [List.getElem?_eq_getElem (by rw [← Lib.size_eq]; exact h)]; rfl
theorem no_snoc {s : ByteArray} {k : Nat} (h6 : 6 ≤ k) (h : k < s.size) (h1 : (10 : UInt8) ∉ (s.data.toList.take k).drop 6) (h2 : (s[k] == 10) = false) : (10 : UInt8) ∉ (s.data.toList.take (k + 1)).drop 6 := by
  have hl : k < s.data.toList.length := by rw [← Lib.size_eq]; exact h
  rw [List.take_succ_eq_append_getElem hl, List.drop_append_of_le_length (by rw [List.length_take]; omega)]
  intro hm
  rcases List.mem_append.1 hm with hm | hm
  · exact h1 hm
  · have e : (10 : UInt8) = s.data.toList[k] := by simpa using hm
    have e2 : s.data.toList[k] = s[k] := rfl
    rw [← e2, ← e] at h2
    simp at h2
end Go.Proofs.YthblpjjocokphaaGreatDoor.Hd
/- The document's Take, and what is put. -/
namespace Go.Proofs.YthblpjjocokphaaGreatDoor.Hd
open Go.RowKit Go.Shelf
attribute [local go_sem] Oper.semAt_some

theorem sameB (a b : List UInt8) : ((B a).toList == (B b).toList) = decide (a = b) := by rw [Lib.toList_data, Lib.toList_data, B_data, B_data, Bool.eq_iff_iff]; simp
theorem extractB (s : ByteArray) (a b : Nat) : s.extract a b = B ((s.data.toList.take b).drop a) := by
  rw [← B_of (s.extract a b), Lib.extract_data]
  congr 1
  rw [List.drop_take]
theorem drop_zero (s : ByteArray) : B (s.data.toList.drop (lenP 0)) = s := by
  rw [show lenP 0 = 0 from rfl, List.drop_zero, B_of]
end Go.Proofs.YthblpjjocokphaaGreatDoor.Hd
/- What is put; the laws on headers. -/
namespace Go.Proofs.YthblpjjocokphaaGreatDoor.Hd
open Go.RowKit Go.Shelf
attribute [local go_sem] Oper.semAt_some

theorem head12 : headL 12 = [35, 37, 103, 101, 110, 32, 49, 50, 10, 10] := by
  unfold headL SIGN
  rw [Lib.decDigits, dif_neg (by omega), Lib.decDigits_one (by omega)]
  rfl
theorem alive12 (w : World) (ht : Tab w) : Calls Tryz.prog 4 #[] w fun e w' => e = .returned (.bool true) ∧ Below w.heap.size w w' := by
  have L := Lib.hid (line_any 12 (by omega) (by omega) w ht)
  have G := Lib.hid (fun W (hb : Below w.heap.size w W) => gen_any (headL 12 ++ [65, 58, 32, 49, 10]) (by rw [head12]; decide) W (ht.below hb (Nat.le_refl _)))
  rw [gen_one (genP_is _) (gen_put 12 (by omega) (by omega) _)] at G
  have hA : Hid (B (headL 12) ++ ⟨#[65, 58, 32, 49, 10]⟩ = B (headL 12 ++ [65, 58, 32, 49, 10])) := B_append _ _
  rw [← hA.out] at G
  have hq : ((B (headL 12)).toList == [35, 37, 103, 101, 110, 32, 49, 50, 10, 10]) = true := by rw [Lib.toList_data, B_data, head12]; rfl
  have hs : (B (headL 12)).size = 10 := by rw [B_size, head12]; rfl
  generalize B (headL 12) = X at *
  have hs2 : X.size ≤ 10 := by omega
  clear hs ht hA
  go_enter Tryz.func4, Tryz.ntmps4
  go_wp2_with fail
  refine L.out.mono ?_
  rintro e w1 ⟨rfl, hb⟩
  go_wp2_with fail
  refine (G.out _ hb).mono ?_
  rintro e w2 ⟨rfl, hb2⟩
  have hb3 := hb.trans (hb2.mono hb.size)
  go_wp2_with fail
  go_ret
  exact ⟨rfl, hb3⟩
end Go.Proofs.YthblpjjocokphaaGreatDoor.Hd
/- The parser, plainly: from line to line. -/
namespace Go.Proofs.YthblpjjocokphaaGreatDoor

abbrev Fld := List UInt8 × List UInt8
/-- An item. -/
structure It where
  kind : Int
  raw : List UInt8
  fields : List Fld
deriving DecidableEq
/-- What the lines have made so far. -/
structure PS where
  begin_ : Nat
  said : List (List UInt8)
  items : List It
  stanzas : Nat
  at_ : Nat
  fields : List Fld
deriving DecidableEq
def PS.new : PS := ⟨0, [], [], 0, 0, []⟩
/-- What comes of a step: a place and a number, or what is made. -/
abbrev Res (α : Type) := Except (Nat × Nat) α

def fullP (p : PS) : Bool := if p.fields.length = 0 then p.stanzas == 400 else p.fields.length == 40
def endFieldN (p : PS) : Nat := if p.said = [] then 0 else if unfoldN p.said ≠ 0 then unfoldN p.said else if fullP p then 11 else 0
def endFieldP (p : PS) : PS := if p.said = [] then p else { p with fields := p.fields ++ [(unfoldK p.said, unfoldV p.said)], said := [] }
def endItemP (text : List UInt8) (p : PS) (kind end_ : Nat) : PS := { p with items := p.items ++ [⟨kind, (text.take end_).drop p.at_, p.fields⟩], at_ := end_, fields := [] }
def endBlockP (text : List UInt8) (p : PS) (end_ : Nat) : PS :=
  if p.at_ = end_ then p else if p.fields.length = 0 then endItemP text p 2 end_ else { endItemP text p 3 end_ with stanzas := p.stanzas + 1 }
def goesP (p : PS) (x : Ln) : Bool := kindL x.text == 3 && !(p.said.isEmpty)
def wentP (p : PS) (x : Ln) : PS := if goesP p x then { p with said := p.said ++ [x.text] } else p
def wrongP (p : PS) (x : Ln) : Bool := kindL x.text == 5 || (kindL x.text == 3 && !goesP p x) || !x.ended
/-- Is the field that is under way ended by the line? -/
def endsP (p : PS) (x : Ln) : Bool := wrongP p x || !goesP p x
def putP (text : List UInt8) (p : PS) (x : Ln) : PS :=
  if kindL x.text = 4 then { p with begin_ := x.no, said := [x.text] }
  else if kindL x.text = 1 then endItemP text (endBlockP text p x.at_) 1 (x.at_ + x.text.length + 1)
  else p
/-- What stands behind the end of the field, if the line ends it. -/
def thenP (p : PS) (x : Ln) : PS := if endsP p x then endFieldP (wentP p x) else wentP p x
def takeP (text : List UInt8) (p : PS) (x : Ln) : Res PS :=
  if endsP p x = true ∧ endFieldN (wentP p x) ≠ 0 then .error ((wentP p x).begin_, endFieldN (wentP p x))
  else if wrongP p x then .error (x.no, 2)
  else .ok (putP text (thenP p x) x)
def runP (text : List UInt8) : PS → List Ln → Res PS
  | p, [] => .ok p
  | p, x :: xs => match takeP text p x with
    | .error e => .error e
    | .ok q => runP text q xs
def lastP (text : List UInt8) (p : PS) : Res (List It) :=
  if endFieldN p ≠ 0 then .error (p.begin_, endFieldN p) else .ok (endBlockP text (endFieldP p) text.length).items
def parseL (text : List UInt8) : Res (List It) :=
  match runP text PS.new (linesOf text) with
  | .error e => .error e
  | .ok p => lastP text p

theorem runP_append (text : List UInt8) : ∀ (p : PS) (a b : List Ln), runP text p (a ++ b) = match runP text p a with | .error e => .error e | .ok q => runP text q b
  | p, [], b => rfl
  | p, x :: a, b => by
    show (match takeP text p x with | .error e => _ | .ok q => runP text q (a ++ b)) = match (match takeP text p x with | .error e => _ | .ok q => runP text q a) with | .error e => _ | .ok q => _
    cases takeP text p x with
    | error e => rfl
    | ok q => exact runP_append text q a b

theorem unfoldN_le (ls : List (List UInt8)) : unfoldN ls ≤ 6 := by
  unfold unfoldN
  split
  · split <;> decide
  · decide
theorem endFieldN_le (p : PS) : endFieldN p ≤ 11 := by
  unfold endFieldN
  have := unfoldN_le p.said
  split
  · decide
  · split
    · omega
    · split <;> decide

/-- What keeps the parser small: c bytes are behind it. -/
structure Inv (p : PS) (c : Nat) : Prop where
  at_ : p.at_ ≤ c
  items : p.items.length ≤ p.at_
  stanzas : p.stanzas ≤ p.at_
  begin_ : p.begin_ ≤ c
  fields : p.fields.length ≤ c
  said : (p.said.map List.length).sum + p.said.length ≤ c
  both : p.fields.length + p.said.length ≤ c
theorem Inv.new : Inv PS.new 0 := ⟨Nat.le_refl _, Nat.le_refl _, Nat.le_refl _, Nat.le_refl _, Nat.le_refl _, Nat.le_refl _, Nat.le_refl _⟩
theorem Inv.mono {p : PS} {c d : Nat} (h : Inv p c) (hd : c ≤ d) : Inv p d :=
  ⟨Nat.le_trans h.at_ hd, h.items, h.stanzas, Nat.le_trans h.begin_ hd, Nat.le_trans h.fields hd, Nat.le_trans h.said hd, Nat.le_trans h.both hd⟩
theorem Inv.endField {p : PS} {c : Nat} (h : Inv p c) : Inv (endFieldP p) c := by
  unfold endFieldP
  split
  · exact h
  · rename_i hs
    have hb := h.both
    have : 1 ≤ p.said.length := by cases hp : p.said with | nil => exact absurd hp hs | cons a l => simp
    exact ⟨h.at_, h.items, h.stanzas, h.begin_, by simp; omega, by simp, by simp; omega⟩
theorem Inv.endItem {p : PS} {c : Nat} (text : List UInt8) (kind e : Nat) (h : Inv p c) (h1 : p.at_ < e) (h2 : e ≤ c) : Inv (endItemP text p kind e) c := by
  have a := h.items; have b := h.stanzas
  refine ⟨h2, ?_, ?_, h.begin_, by simp [endItemP], h.said, ?_⟩
  · simp [endItemP]; omega
  · simp [endItemP]; omega
  · have := h.both; simp [endItemP]; omega
theorem Inv.endBlock {p : PS} {c : Nat} (text : List UInt8) (e : Nat) (h : Inv p c) (h1 : p.at_ ≤ e) (h2 : e ≤ c) : Inv (endBlockP text p e) c := by
  unfold endBlockP
  split
  · exact h
  · split
    · exact h.endItem text 2 e (by omega) h2
    · have g := h.endItem text 3 e (by omega) h2
      exact ⟨g.at_, g.items, by have := h.stanzas; show p.stanzas + 1 ≤ e; omega, g.begin_, g.fields, g.said, g.both⟩
theorem endField_at (p : PS) : (endFieldP p).at_ = p.at_ := by unfold endFieldP; split <;> rfl
theorem endField_said (p : PS) : (endFieldP p).said = [] := by unfold endFieldP; split <;> simp_all
theorem endBlock_at (text : List UInt8) (p : PS) (e : Nat) (h : p.at_ ≤ e) : (endBlockP text p e).at_ = e := by
  unfold endBlockP
  split
  · assumption
  · split <;> rfl
theorem endBlock_said (text : List UInt8) (p : PS) (e : Nat) : (endBlockP text p e).said = p.said := by
  unfold endBlockP
  split
  · rfl
  · split <;> rfl
theorem wentP_at (p : PS) (x : Ln) : (wentP p x).at_ = p.at_ := by unfold wentP; split <;> rfl
theorem Inv.went {p : PS} {x : Ln} {c : Nat} (h : Inv p c) : Inv (wentP p x) (c + x.text.length + 1) := by
  unfold wentP
  split
  · have a := h.said; have b := h.both
    refine ⟨by have := h.at_; show p.at_ ≤ _; omega, h.items, h.stanzas, by have := h.begin_; show p.begin_ ≤ _; omega, by have := h.fields; show p.fields.length ≤ _; omega, ?_, ?_⟩
    · simp; omega
    · simp; omega
  · exact h.mono (by omega)
theorem Inv.then_ {p : PS} {x : Ln} {c : Nat} (h : Inv p c) : Inv (thenP p x) (c + x.text.length + 1) := by
  unfold thenP
  split
  · exact h.went.endField
  · exact h.went
theorem thenP_at (p : PS) (x : Ln) : (thenP p x).at_ = p.at_ := by
  unfold thenP
  split
  · rw [endField_at, wentP_at]
  · exact wentP_at p x
theorem thenP_said {p : PS} {x : Ln} (h : goesP p x = false) : (thenP p x).said = [] := by
  unfold thenP endsP
  rw [h]
  simp only [Bool.not_false, Bool.or_true, if_true]
  exact endField_said _
theorem goes_kind {p : PS} {x : Ln} (h : kindL x.text ≠ 3) : goesP p x = false := by unfold goesP; simp [h]
theorem Inv.take {text : List UInt8} {p q : PS} {x : Ln} (h : Inv p x.at_) (hno : x.no ≤ x.at_) (he : takeP text p x = .ok q) : Inv q (x.at_ + x.bytes.length) ∧ x.ended = true := by
  unfold takeP at he
  split at he
  · cases he
  · split at he
    · cases he
    · rename_i hw
      have hen : x.ended = true := by
        cases hx : x.ended with
        | true => rfl
        | false => exact absurd (by unfold wrongP; rw [hx]; simp) hw
      have hb : x.at_ + x.bytes.length = x.at_ + x.text.length + 1 := by unfold Ln.bytes; rw [hen]; simp; omega
      refine ⟨?_, hen⟩
      rw [hb]
      cases he
      have t := h.then_ (x := x)
      unfold putP
      split
      · rename_i hk
        have e := thenP_said (goes_kind (p := p) (x := x) (by omega))
        refine ⟨t.at_, t.items, t.stanzas, by show x.no ≤ _; omega, t.fields, by simp, ?_⟩
        have hf : (thenP p x).fields.length ≤ x.at_ := by
          have g := goes_kind (p := p) (x := x) (by omega)
          unfold thenP endsP wentP
          rw [g]
          simp only [Bool.not_false, Bool.or_true, if_true]
          exact (Inv.endField h).fields
        simp; omega
      · split
        · have ta := thenP_at p x
          have ha := h.at_
          refine Inv.endItem text 1 _ (t.endBlock text x.at_ (by omega) (by omega)) ?_ (by omega)
          rw [endBlock_at text _ _ (by omega)]; omega
        · exact t
end Go.Proofs.YthblpjjocokphaaGreatDoor
/- What a good text's items are like, plainly. -/
namespace Go.Proofs.YthblpjjocokphaaGreatDoor

structure Good (t : List UInt8) (p : PS) : Prop where
  st : p.stanzas ≤ 400
  st' : p.fields ≠ [] → p.stanzas ≤ 399
  fl : p.fields.length ≤ 40
  each : ∀ it ∈ p.items, it.fields.length ≤ 40
  join : p.items.flatMap It.raw = t.take p.at_
theorem Good.new (t : List UInt8) : Good t PS.new := ⟨by decide, fun h => absurd rfl h, by decide, (fun it h => by cases h), rfl⟩
theorem Good.endField {t : List UInt8} {p : PS} (h : Good t p) (h0 : endFieldN p = 0) : Good t (endFieldP p) := by
  unfold endFieldP
  split
  · exact h
  · rename_i hs
    unfold endFieldN at h0
    rw [if_neg hs] at h0
    split at h0
    · rename_i hu; exact absurd h0 hu
    · have hfull : fullP p = false := by
        cases hf : fullP p with
        | false => rfl
        | true => rw [hf] at h0; simp at h0
      unfold fullP at hfull
      have fl := h.fl
      have st := h.st
      refine ⟨h.st, fun _ => ?_, ?_, h.each, h.join⟩
      · show p.stanzas ≤ 399
        split at hfull
        · have : p.stanzas ≠ 400 := by simpa using hfull
          omega
        · rename_i hz
          exact h.st' (fun e => hz (by rw [e]; rfl))
      · show (p.fields ++ [_]).length ≤ 40
        rw [List.length_append]
        split at hfull
        · simp; omega
        · have : p.fields.length ≠ 40 := by simpa using hfull
          simp; omega
theorem drop_take_join (t : List UInt8) (a e : Nat) (h : a ≤ e) : t.take a ++ (t.take e).drop a = t.take e := by
  conv => rhs; rw [← List.take_append_drop a (t.take e), List.take_take, Nat.min_eq_left h]
theorem Good.endItem {t : List UInt8} {p : PS} (h : Good t p) (kind e : Nat) (hle : p.at_ ≤ e) : Good t (endItemP t p kind e) := by
  refine ⟨h.st, fun hn => absurd rfl hn, by simp [endItemP], ?_, ?_⟩
  · intro it hi
    rcases List.mem_append.1 hi with hi | hi
    · exact h.each it hi
    · rw [List.mem_singleton.1 hi]; exact h.fl
  · show (p.items ++ [_]).flatMap It.raw = t.take e
    rw [List.flatMap_append, h.join]
    simp only [List.flatMap_cons, List.flatMap_nil, List.append_nil]
    exact drop_take_join t p.at_ e hle
theorem Good.endBlock {t : List UInt8} {p : PS} (h : Good t p) (e : Nat) (hle : p.at_ ≤ e) : Good t (endBlockP t p e) := by
  unfold endBlockP
  split
  · exact h
  · split
    · exact h.endItem 2 e hle
    · rename_i hz
      have g := h.endItem 3 e hle
      have := h.st' (fun e => hz (by rw [e]; rfl))
      exact ⟨by show p.stanzas + 1 ≤ 400; omega, fun hn => absurd rfl hn, g.fl, g.each, g.join⟩
theorem Good.went {t : List UInt8} {p : PS} (h : Good t p) (x : Ln) : Good t (wentP p x) := by
  unfold wentP
  split
  · exact ⟨h.st, h.st', h.fl, h.each, h.join⟩
  · exact h
theorem take_parts {t : List UInt8} {p q : PS} {x : Ln} (he : takeP t p x = .ok q) : (endsP p x = true → endFieldN (wentP p x) = 0) ∧ wrongP p x = false ∧ q = putP t (thenP p x) x := by
  unfold takeP at he
  split at he
  · cases he
  · rename_i h1
    split at he
    · cases he
    · rename_i h2
      cases he
      refine ⟨fun hn => ?_, by simpa using h2, rfl⟩
      rcases Nat.decEq (endFieldN (wentP p x)) 0 with e | e
      · exact absurd ⟨hn, e⟩ h1
      · exact e
theorem take_of {t : List UInt8} {p : PS} {x : Ln} (h1 : endsP p x = true → endFieldN (wentP p x) = 0) (h2 : wrongP p x = false) : takeP t p x = .ok (putP t (thenP p x) x) := by
  unfold takeP
  rw [if_neg (fun h => h.2 (h1 h.1)), h2]; rfl
theorem Good.then_ {t : List UInt8} {p : PS} {x : Ln} (h : Good t p) (h1 : endsP p x = true → endFieldN (wentP p x) = 0) : Good t (thenP p x) := by
  unfold thenP
  split
  · rename_i he; exact (h.went x).endField (h1 he)
  · exact h.went x
theorem Good.put {t : List UInt8} {p : PS} {x : Ln} (h : Good t p) (ha : p.at_ ≤ x.at_) : Good t (putP t p x) := by
  unfold putP
  split
  · exact ⟨h.st, h.st', h.fl, h.each, h.join⟩
  · split
    · refine (h.endBlock x.at_ ha).endItem 1 _ ?_
      rw [endBlock_at t p _ ha]; omega
    · exact h
theorem Good.take {t : List UInt8} {p q : PS} {x : Ln} (h : Good t p) (ha : p.at_ ≤ x.at_) (he : takeP t p x = .ok q) : Good t q := by
  obtain ⟨h1, _, rfl⟩ := take_parts he
  exact (h.then_ h1).put (by rw [thenP_at]; exact ha)

/-- Lines that stand one behind the other, from a place on. -/
def Runs : Nat → Nat → List Ln → Prop
  | _, _, [] => True
  | no, c, x :: xs => x.no = no ∧ x.at_ = c ∧ 1 ≤ x.bytes.length ∧ Runs (no + 1) (c + x.bytes.length) xs
theorem runs_linesOn : ∀ (n no at_ : Nat) (l : List UInt8), l.length ≤ n → Runs no at_ (linesOn no at_ l)
  | 0, no, at_, l, h => by
    have : l = [] := List.length_eq_zero_iff.1 (by omega)
    subst this; rw [linesOn_nil]; trivial
  | n + 1, no, at_, l, h => by
    by_cases hl : l = []
    · subst hl; rw [linesOn_nil]; trivial
    · have hp := used_pos l hl
      rw [linesOn_cons _ _ _ hl]
      have hb : (Ln.bytes ⟨no, at_, head l, nl l⟩).length = used l := by
        unfold Ln.bytes used; simp only [List.length_append]; split <;> rfl
      refine ⟨rfl, rfl, by rw [hb]; exact hp, ?_⟩
      rw [hb]
      exact runs_linesOn n _ _ _ (by simp only [List.length_drop]; omega)
/-- A run that goes well. -/
theorem run_good (t : List UInt8) : ∀ (xs : List Ln) (no c : Nat) (p q : PS), Runs no c xs → no ≤ c → Inv p c → Good t p → runP t p xs = .ok q → Inv q (c + (xs.flatMap Ln.bytes).length) ∧ Good t q ∧ ∀ x ∈ xs, x.ended = true
  | [], no, c, p, q, _, _, hi, hg, he => by
    cases he
    exact ⟨by simpa using hi, hg, fun x h => by cases h⟩
  | x :: xs, no, c, p, q, hr, hn, hi, hg, he => by
    obtain ⟨r1, r2, r3, r4⟩ := hr
    unfold runP at he
    cases ht : takeP t p x with
    | error e => rw [ht] at he; cases he
    | ok p1 =>
      rw [ht] at he
      dsimp only at he
      rw [← r2] at hi
      obtain ⟨i1, e1⟩ := Inv.take hi (by omega) ht
      have g1 := hg.take hi.at_ ht
      rw [r2] at i1
      obtain ⟨a, b, d⟩ := run_good t xs (no + 1) (c + x.bytes.length) p1 q r4 (by omega) i1 g1 he
      refine ⟨?_, b, fun y hy => ?_⟩
      · rw [List.flatMap_cons, List.length_append, ← Nat.add_assoc]; exact a
      · rcases List.mem_cons.1 hy with rfl | hy
        · exact e1
        · exact d y hy
/-- The items of a good text. -/
theorem parse_good {t : List UInt8} {its : List It} (h : parseL t = .ok its) : ∃ p, runP t PS.new (linesOf t) = .ok p ∧ endFieldN p = 0 ∧ its = (endBlockP t (endFieldP p) t.length).items ∧ Good t (endBlockP t (endFieldP p) t.length) ∧ Inv (endBlockP t (endFieldP p) t.length) t.length ∧ (endFieldP p).at_ ≤ t.length := by
  unfold parseL at h
  cases hr : runP t PS.new (linesOf t) with
  | error e => rw [hr] at h; cases h
  | ok p =>
    rw [hr] at h
    dsimp only at h
    unfold lastP at h
    split at h
    · cases h
    · rename_i h0
      have h0 : endFieldN p = 0 := by simpa using h0
      cases h
      obtain ⟨a, b, _⟩ := run_good t _ 0 0 _ _ (runs_linesOn _ 0 0 t (Nat.le_refl _)) (Nat.le_refl _) Inv.new (Good.new t) hr
      rw [show linesOn 0 0 t = linesOf t from rfl, linesOf_join, Nat.zero_add] at a
      exact ⟨p, rfl, h0, rfl, (b.endField h0).endBlock _ a.endField.at_, a.endField.endBlock t _ a.endField.at_ (Nat.le_refl _), a.endField.at_⟩
theorem parse_join {t : List UInt8} {its : List It} (h : parseL t = .ok its) : its.flatMap It.raw = t ∧ its.length ≤ t.length ∧ ∀ it ∈ its, it.fields.length ≤ 40 ∧ it.raw.length ≤ t.length := by
  obtain ⟨p, _, _, rfl, g, i, hle⟩ := parse_good h
  have ha := endBlock_at t (endFieldP p) t.length hle
  have hj := g.join
  rw [ha, List.take_length] at hj
  refine ⟨hj, by have := i.items; rw [ha] at this; exact this, fun it hi => ⟨g.each it hi, ?_⟩⟩
  obtain ⟨a, b, e⟩ := List.append_of_mem hi
  rw [e, List.flatMap_append, List.flatMap_cons] at hj
  have := congrArg List.length hj
  simp only [List.length_append] at this
  omega
end Go.Proofs.YthblpjjocokphaaGreatDoor
/- A good text that is cut at a blank line, plainly. -/
namespace Go.Proofs.YthblpjjocokphaaGreatDoor

/-- A line, d lines and e bytes further on. -/
def sh (d e : Nat) (x : Ln) : Ln := ⟨d + x.no, e + x.at_, x.text, x.ended⟩
theorem sh_bytes (d e : Nat) (x : Ln) : (sh d e x).bytes = x.bytes := rfl
theorem linesOn_sh : ∀ (n d e no at_ : Nat) (l : List UInt8), l.length ≤ n → linesOn (d + no) (e + at_) l = (linesOn no at_ l).map (sh d e)
  | 0, d, e, no, at_, l, h => by
    have : l = [] := List.length_eq_zero_iff.1 (by omega)
    subst this; rfl
  | n + 1, d, e, no, at_, l, h => by
    by_cases hl : l = []
    · subst hl; rfl
    · have hp := used_pos l hl
      rw [linesOn_cons _ _ _ hl, linesOn_cons no at_ l hl, List.map_cons]
      have := linesOn_sh n d e (no + 1) (at_ + used l) (l.drop (used l)) (by simp only [List.length_drop]; omega)
      rw [← Nat.add_assoc, ← Nat.add_assoc] at this
      rw [this]; rfl
/-- Ended lines, and those behind them: of the text's two parts. -/
theorem linesOn_cut : ∀ (a b : List Ln) (no at_ : Nat) (l : List UInt8), linesOn no at_ l = a ++ b → (∀ x ∈ a, x.ended = true) →
    linesOn no at_ (l.take (a.flatMap Ln.bytes).length) = a ∧ b = linesOn (no + a.length) (at_ + (a.flatMap Ln.bytes).length) (l.drop (a.flatMap Ln.bytes).length)
  | [], b, no, at_, l, h, _ => by
    refine ⟨by simp [linesOn_nil], ?_⟩
    simpa using h.symm
  | x :: a, b, no, at_, l, h, he => by
    have hl : l ≠ [] := by rintro rfl; rw [linesOn_nil] at h; cases h
    rw [linesOn_cons _ _ _ hl, List.cons_append] at h
    obtain ⟨hx, ht⟩ := List.cons.inj h
    have hb : x.bytes.length = used l := by
      rw [← hx]; unfold Ln.bytes used; simp only [List.length_append]; split <;> rfl
    have hen : nl l = true := by have := he x List.mem_cons_self; rw [← hx] at this; exact this
    obtain ⟨i1, i2⟩ := linesOn_cut a b (no + 1) (at_ + used l) (l.drop (used l)) ht (fun y hy => he y (List.mem_cons_of_mem _ hy))
    have hsp := head_split l
    rw [hen, if_pos rfl] at hsp
    have hu : used l = (head l).length + 1 := by unfold used; rw [hen]; rfl
    have hcl := linesOn_clean _ no at_ l (Nat.le_refl _) ⟨no, at_, head l, nl l⟩ (by rw [linesOn_cons _ _ _ hl]; exact List.mem_cons_self)
    have hlen : ((x :: a).flatMap Ln.bytes).length = used l + (a.flatMap Ln.bytes).length := by rw [List.flatMap_cons, List.length_append, hb]
    rw [hlen]
    rw [hen] at hx
    clear hlen hb hen
    generalize head l = hd at *
    generalize hr : l.drop (used l) = r at *
    rw [hu] at *
    have hl2 : l = hd ++ 10 :: r := by rw [hsp]; simp
    clear hsp hu
    generalize (a.flatMap Ln.bytes).length = m at *
    have htk : l.take (hd.length + 1 + m) = hd ++ 10 :: r.take m := by
      rw [hl2, List.take_append, List.take_of_length_le (by omega), show hd.length + 1 + m - hd.length = m + 1 by omega]
      simp
    refine ⟨?_, ?_⟩
    · rw [htk, linesOn_cons _ _ _ (by simp)]
      obtain ⟨h1, h2⟩ := head_of hd (r.take m) hcl
      have hu2 : used (hd ++ 10 :: r.take m) = hd.length + 1 := by unfold used; rw [h1, h2]; rfl
      have hd2 : (hd ++ 10 :: r.take m).drop (hd.length + 1) = r.take m := by
        rw [show hd ++ 10 :: r.take m = (hd ++ [10]) ++ r.take m by simp]
        exact List.drop_left' (by simp)
      rw [h1, h2, hu2, hd2, i1, ← hx]
    · rw [i2, ← hr, List.drop_drop, List.length_cons, Nat.add_assoc no, Nat.add_comm 1, Nat.add_assoc at_]

/-- A parser, put behind another one whose block is ended, d lines and e bytes on. -/
def up (q : PS) (d e : Nat) (s : PS) : PS := ⟨d + s.begin_, s.said, q.items ++ s.items, q.stanzas + s.stanzas, e + s.at_, s.fields⟩
theorem up_goes (q : PS) (d e : Nat) (s : PS) (x : Ln) : goesP (up q d e s) (sh d e x) = goesP s x := rfl
theorem up_went (q : PS) (d e : Nat) (s : PS) (x : Ln) : wentP (up q d e s) (sh d e x) = up q d e (wentP s x) := by
  unfold wentP; rw [up_goes]; split <;> rfl
theorem up_wrong (q : PS) (d e : Nat) (s : PS) (x : Ln) : wrongP (up q d e s) (sh d e x) = wrongP s x := rfl
theorem up_ends (q : PS) (d e : Nat) (s : PS) (x : Ln) : endsP (up q d e s) (sh d e x) = endsP s x := rfl
theorem up_endField (q : PS) (d e : Nat) (s : PS) : endFieldP (up q d e s) = up q d e (endFieldP s) := by
  unfold endFieldP
  by_cases h : s.said = []
  · rw [if_pos h, if_pos (show (up q d e s).said = [] from h)]
  · rw [if_neg h, if_neg (show ¬ (up q d e s).said = [] from h)]; rfl
theorem up_endFieldN (q : PS) (d e : Nat) (s : PS) (hst : (up q d e s).stanzas ≤ 400) (h : endFieldN (up q d e s) = 0) : endFieldN s = 0 := by
  unfold endFieldN at h ⊢
  have e1 : (up q d e s).said = s.said := rfl
  rw [e1] at h
  split
  · rfl
  · rename_i hs
    rw [if_neg hs] at h
    split
    · rename_i hu; rw [if_pos hu] at h; exact absurd h hu
    · rename_i hu
      rw [if_neg hu] at h
      have hf : fullP (up q d e s) = false := by
        cases hf : fullP (up q d e s) with
        | false => rfl
        | true => rw [hf] at h; simp at h
      have : fullP s = false := by
        unfold fullP at hf ⊢
        have e2 : (up q d e s).fields = s.fields := rfl
        rw [e2] at hf
        split
        · rename_i hz
          rw [if_pos hz] at hf
          have h1 : (up q d e s).stanzas ≠ 400 := by simpa using hf
          have h2 : (up q d e s).stanzas = q.stanzas + s.stanzas := rfl
          have : s.stanzas ≠ 400 := by omega
          simpa using this
        · rename_i hz
          rw [if_neg hz] at hf
          exact hf
      rw [this]; rfl
theorem cut_raw (t : List UInt8) (e a b : Nat) : (t.take (e + b)).drop (e + a) = ((t.drop e).take b).drop a := by
  rw [Nat.add_comm e b, ← List.drop_drop]
  congr 1
  rw [List.drop_take]
  congr 1; omega
theorem up_endItem (t : List UInt8) (q : PS) (d e : Nat) (s : PS) (kind c : Nat) : endItemP t (up q d e s) kind (e + c) = up q d e (endItemP (t.drop e) s kind c) := by
  unfold endItemP up
  simp only [List.append_assoc, cut_raw]
theorem up_endBlock (t : List UInt8) (q : PS) (d e : Nat) (s : PS) (c : Nat) : endBlockP t (up q d e s) (e + c) = up q d e (endBlockP (t.drop e) s c) := by
  unfold endBlockP
  have e1 : ((up q d e s).at_ = e + c) = (s.at_ = c) := by
    show (e + s.at_ = e + c) = _
    exact propext ⟨fun h => by omega, fun h => by omega⟩
  have e2 : (up q d e s).fields = s.fields := rfl
  rw [e2]
  by_cases h1 : s.at_ = c
  · rw [if_pos h1, if_pos (by rw [e1]; exact h1)]
  · rw [if_neg h1, if_neg (by rw [e1]; exact h1)]
    split
    · exact up_endItem t q d e s 2 c
    · have := up_endItem t q d e s 3 c
      unfold up endItemP at this ⊢
      simp only [PS.mk.injEq] at this ⊢
      refine ⟨trivial, trivial, this.2.2.1, ?_, trivial, trivial⟩
      omega
theorem up_then (q : PS) (d e : Nat) (s : PS) (x : Ln) : thenP (up q d e s) (sh d e x) = up q d e (thenP s x) := by
  unfold thenP
  rw [up_ends, up_went, up_endField]
  split <;> rfl
theorem up_put (t : List UInt8) (q : PS) (d e : Nat) (s : PS) (x : Ln) : putP t (up q d e s) (sh d e x) = up q d e (putP (t.drop e) s x) := by
  unfold putP
  have e1 : (sh d e x).text = x.text := rfl
  rw [e1]
  split
  · rfl
  · split
    · have e2 : (sh d e x).at_ = e + x.at_ := rfl
      rw [e2, up_endBlock, show e + x.at_ + x.text.length + 1 = e + (x.at_ + x.text.length + 1) by omega, up_endItem]
    · rfl
theorem up_take {t : List UInt8} {q s b : PS} {d e : Nat} {x : Ln} (hst : (up q d e s).stanzas ≤ 400) (h : takeP t (up q d e s) (sh d e x) = .ok b) : ∃ s', takeP (t.drop e) s x = .ok s' ∧ b = up q d e s' := by
  obtain ⟨h1, h2, rfl⟩ := take_parts h
  rw [up_ends, up_went] at h1
  rw [up_wrong] at h2
  have hw : (up q d e (wentP s x)).stanzas ≤ 400 := by
    have : (wentP s x).stanzas = s.stanzas := by unfold wentP; split <;> rfl
    show q.stanzas + (wentP s x).stanzas ≤ 400
    rw [this]; exact hst
  refine ⟨_, take_of (fun he => up_endFieldN q d e _ hw (h1 he)) h2, ?_⟩
  rw [up_then, up_put]
theorem up_run {t : List UInt8} {q : PS} {d e : Nat} : ∀ (xs : List Ln) (no c : Nat) (s b : PS), Runs (d + no) (e + c) (xs.map (sh d e)) → d + no ≤ e + c → Inv (up q d e s) (e + c) → Good t (up q d e s) → runP t (up q d e s) (xs.map (sh d e)) = .ok b → ∃ s', runP (t.drop e) s xs = .ok s' ∧ b = up q d e s'
  | [], no, c, s, b, _, _, _, _, h => by cases h; exact ⟨s, rfl, rfl⟩
  | x :: xs, no, c, s, b, hr, hn, hi, hg, h => by
    obtain ⟨r1, r2, r3, r4⟩ := hr
    have h' : (match takeP t (up q d e s) (sh d e x) with | .error e => Except.error e | .ok q' => runP t q' (xs.map (sh d e))) = .ok b := h
    cases ht : takeP t (up q d e s) (sh d e x) with
    | error er => rw [ht] at h'; cases h'
    | ok p1 =>
      rw [ht] at h'
      dsimp only at h'
      rw [← r2] at hi
      obtain ⟨i1, _⟩ := Inv.take hi (by omega) ht
      have g1 := hg.take hi.at_ ht
      rw [r2] at i1
      obtain ⟨s1, ht1, rfl⟩ := up_take hg.st ht
      have r4' : Runs (d + (no + 1)) (e + (c + (sh d e x).bytes.length)) (xs.map (sh d e)) := by rw [← Nat.add_assoc, ← Nat.add_assoc]; exact r4
      obtain ⟨s2, hs2, e2⟩ := up_run xs (no + 1) (c + (sh d e x).bytes.length) s1 b r4' (by omega) (by rw [← Nat.add_assoc]; exact i1) g1 h'
      refine ⟨s2, ?_, e2⟩
      show (match takeP (t.drop e) s x with | .error e => Except.error e | .ok q' => runP (t.drop e) q' xs) = _
      rw [ht1]; exact hs2
end Go.Proofs.YthblpjjocokphaaGreatDoor
/- A good text that is cut at a blank line: both parts' items. -/
namespace Go.Proofs.YthblpjjocokphaaGreatDoor

theorem endField_items (p : PS) : (endFieldP p).items = p.items := by unfold endFieldP; split <;> rfl
theorem went_items (p : PS) (x : Ln) : (wentP p x).items = p.items := by unfold wentP; split <;> rfl
theorem then_items (p : PS) (x : Ln) : (thenP p x).items = p.items := by
  unfold thenP
  split
  · rw [endField_items, went_items]
  · exact went_items p x
theorem endBlock_items (t : List UInt8) (p : PS) (e : Nat) : ∃ l, (endBlockP t p e).items = p.items ++ l ∧ ∀ it ∈ l, it.kind ≠ 1 := by
  unfold endBlockP
  split
  · exact ⟨[], by simp, fun it h => by cases h⟩
  · split
    · exact ⟨_, rfl, fun it h => by rw [List.mem_singleton.1 h]; show ((2 : Nat) : Int) ≠ 1; decide⟩
    · exact ⟨_, rfl, fun it h => by rw [List.mem_singleton.1 h]; show ((3 : Nat) : Int) ≠ 1; decide⟩
theorem take_items {t : List UInt8} {p q : PS} {x : Ln} (he : takeP t p x = .ok q) :
    q.items = p.items ∨ (∃ l it, q.items = p.items ++ l ++ [it] ∧ (∀ y ∈ l, y.kind ≠ 1) ∧ q.said = [] ∧ q.fields = [] ∧ q.at_ = x.at_ + x.text.length + 1) := by
  obtain ⟨_, _, rfl⟩ := take_parts he
  unfold putP
  split
  · exact .inl (then_items p x)
  · split
    · rename_i hk
      obtain ⟨l, h1, h2⟩ := endBlock_items t (thenP p x) x.at_
      refine .inr ⟨l, ⟨1, (t.take (x.at_ + x.text.length + 1)).drop (endBlockP t (thenP p x) x.at_).at_, (endBlockP t (thenP p x) x.at_).fields⟩, ?_, h2, ?_, rfl, rfl⟩
      · show (endBlockP t (thenP p x) x.at_).items ++ [_] = _
        rw [h1, then_items]; rfl
      · show (endBlockP t (thenP p x) x.at_).said = []
        rw [endBlock_said]
        exact thenP_said (goes_kind (by omega))
    · exact .inl (then_items p x)
theorem run_items (t : List UInt8) : ∀ (xs : List Ln) (p q : PS), runP t p xs = .ok q → p.items <+: q.items
  | [], p, q, h => by cases h; exact List.prefix_refl _
  | x :: xs, p, q, h => by
    unfold runP at h
    cases ht : takeP t p x with
    | error e => rw [ht] at h; cases h
    | ok p1 =>
      rw [ht] at h
      dsimp only at h
      have ih := run_items t xs p1 q h
      refine List.IsPrefix.trans ?_ ih
      rcases take_items ht with e | ⟨l, it, e, _⟩
      · rw [e]; exact List.prefix_refl _
      · rw [e, List.append_assoc]; exact List.prefix_append _ _
theorem prefix_take {α : Type} {a b : List α} (h : a <+: b) : b.take a.length = a := by
  obtain ⟨c, rfl⟩ := h
  simp
theorem prefix_at {α : Type} {a b : List α} (h : a <+: b) {i : Nat} (hi : i < a.length) : b[i]? = a[i]? := by
  obtain ⟨c, rfl⟩ := h
  exact List.getElem?_append_left hi
/-- Where a blank line's item was made. -/
theorem run_blank (t : List UInt8) : ∀ (xs : List Ln) (p0 p : PS) (no c : Nat), Runs no c xs → (∀ x ∈ xs, x.ended = true) → runP t p0 xs = .ok p → ∀ (i : Nat) (it : It), p0.items.length ≤ i → p.items[i]? = some it → it.kind = 1 →
    ∃ a b q, xs = a ++ b ∧ runP t p0 a = .ok q ∧ runP t q b = .ok p ∧ q.items = p.items.take (i + 1) ∧ q.said = [] ∧ q.fields = [] ∧ q.at_ = c + (a.flatMap Ln.bytes).length
  | [], p0, p, no, c, _, _, h, i, it, hi, hit, _ => by
    cases h
    rw [List.getElem?_eq_none hi] at hit; cases hit
  | x :: xs, p0, p, no, c, hr, hen, h, i, it, hi, hit, hk => by
    obtain ⟨r1, r2, r3, r4⟩ := hr
    unfold runP at h
    cases ht : takeP t p0 x with
    | error e => rw [ht] at h; cases h
    | ok p1 =>
      rw [ht] at h
      dsimp only at h
      have hp := run_items t xs p1 p h
      have hx : runP t p0 [x] = .ok p1 := by show (match takeP t p0 x with | .error e => _ | .ok q => runP t q []) = _; rw [ht]; rfl
      have hbx : x.bytes.length = x.text.length + 1 := by unfold Ln.bytes; rw [hen x List.mem_cons_self]; simp
      rcases Nat.lt_or_ge i p1.items.length with hlt | hge
      · rcases take_items ht with e | ⟨l, y, e, hl, h1, h2, h3⟩
        · rw [e] at hlt; omega
        · have hi1 : i + 1 = p1.items.length := by
            rw [prefix_at hp hlt, e] at hit
            rw [e, List.length_append] at hlt ⊢
            rcases Nat.lt_or_ge i (p0.items ++ l).length with q | q
            · rw [List.getElem?_append_left q, List.getElem?_append_right hi] at hit
              exact absurd hk (hl it (List.mem_of_getElem? hit))
            · simp at hlt q ⊢; omega
          refine ⟨[x], xs, p1, rfl, hx, h, ?_, h1, h2, ?_⟩
          · rw [hi1]; exact (prefix_take hp).symm
          · rw [h3, r2]; simp [hbx]; omega
      · obtain ⟨a, b, q, e1, e2, e3, e4, e5, e6, e7⟩ := run_blank t xs p1 p (no + 1) (c + x.bytes.length) r4 (fun y hy => hen y (List.mem_cons_of_mem _ hy)) h i it hge hit hk
        refine ⟨x :: a, b, q, by rw [e1]; rfl, ?_, e3, e4, e5, e6, ?_⟩
        · show (match takeP t p0 x with | .error e => _ | .ok q => runP t q a) = _
          rw [ht]; exact e2
        · rw [e7, List.flatMap_cons, List.length_append]; omega
/-- The run over the text's beginning alone. -/
theorem take_short {t : List UInt8} {n : Nat} {p : PS} {x : Ln} (hx : x.at_ + x.bytes.length ≤ n) (hen : x.ended = true) : takeP (t.take n) p x = takeP t p x := by
  have hb : x.bytes.length = x.text.length + 1 := by unfold Ln.bytes; rw [hen]; simp
  have e1 : ∀ (q : PS) k e, e ≤ n → endItemP (t.take n) q k e = endItemP t q k e := fun q k e he => by
    unfold endItemP; rw [List.take_take, Nat.min_eq_left he]
  have e2 : ∀ (q : PS) e, e ≤ n → endBlockP (t.take n) q e = endBlockP t q e := fun q e he => by
    unfold endBlockP; rw [e1 _ _ _ he, e1 _ _ _ he]
  have e3 : ∀ q : PS, putP (t.take n) q x = putP t q x := fun q => by
    unfold putP; rw [e2 _ _ (by omega), e1 _ _ _ (by omega)]
  unfold takeP
  rw [e3]
theorem run_short {t : List UInt8} {n : Nat} : ∀ (xs : List Ln) (p : PS) (no c : Nat), Runs no c xs → c + (xs.flatMap Ln.bytes).length ≤ n → (∀ x ∈ xs, x.ended = true) → runP (t.take n) p xs = runP t p xs
  | [], _, _, _, _, _, _ => rfl
  | x :: xs, p, no, c, hr, hn, hen => by
    obtain ⟨r1, r2, r3, r4⟩ := hr
    rw [List.flatMap_cons, List.length_append] at hn
    have h1 := take_short (t := t) (n := n) (p := p) (x := x) (by omega) (hen x List.mem_cons_self)
    show (match takeP (t.take n) p x with | .error e => Except.error e | .ok q => runP (t.take n) q xs) = (match takeP t p x with | .error e => Except.error e | .ok q => runP t q xs)
    rw [h1]
    cases takeP t p x with
    | error e => rfl
    | ok q => exact run_short xs q (no + 1) (c + x.bytes.length) r4 (by omega) (fun y hy => hen y (List.mem_cons_of_mem _ hy))
theorem Runs.append : ∀ {a b : List Ln} {no c : Nat}, Runs no c (a ++ b) → Runs no c a ∧ Runs (no + a.length) (c + (a.flatMap Ln.bytes).length) b
  | [], b, no, c, h => ⟨trivial, h⟩
  | x :: a, b, no, c, ⟨h1, h2, h3, h4⟩ => by
    obtain ⟨i1, i2⟩ := Runs.append h4
    refine ⟨⟨h1, h2, h3, i1⟩, ?_⟩
    rw [List.flatMap_cons, List.length_append, List.length_cons, ← Nat.add_assoc c, Nat.add_comm a.length, ← Nat.add_assoc no]
    exact i2
theorem runs_len : ∀ (a : List Ln) (no c : Nat), Runs no c a → a.length ≤ (a.flatMap Ln.bytes).length
  | [], _, _, _ => Nat.le_refl _
  | x :: a, no, c, ⟨_, _, h3, h4⟩ => by
    have := runs_len a _ _ h4
    rw [List.flatMap_cons, List.length_append, List.length_cons]; omega
theorem endField_none {q : PS} (h : q.said = []) : endFieldN q = 0 ∧ endFieldP q = q := ⟨by unfold endFieldN; rw [if_pos h], by unfold endFieldP; rw [if_pos h]⟩
/-- The number of a field's first line counts for errors alone. -/
def re (p : PS) (n : Nat) : PS := { p with begin_ := n }
theorem re_endItem (t : List UInt8) (p : PS) (n k e : Nat) : endItemP t (re p n) k e = re (endItemP t p k e) n := rfl
theorem re_endBlock (t : List UInt8) (p : PS) (n e : Nat) : endBlockP t (re p n) e = re (endBlockP t p e) n := by
  unfold endBlockP
  have e1 : (re p n).at_ = p.at_ := rfl
  have e2 : (re p n).fields = p.fields := rfl
  rw [e1, e2]
  split
  · rfl
  · split <;> rfl
theorem re_endField (p : PS) (n : Nat) : endFieldP (re p n) = re (endFieldP p) n := by
  unfold endFieldP
  have e1 : (re p n).said = p.said := rfl
  rw [e1]
  split <;> rfl
theorem re_went (p : PS) (n : Nat) (x : Ln) : wentP (re p n) x = re (wentP p x) n := by
  unfold wentP
  have e1 : goesP (re p n) x = goesP p x := rfl
  rw [e1]
  split <;> rfl
theorem re_then (p : PS) (n : Nat) (x : Ln) : thenP (re p n) x = re (thenP p x) n := by
  unfold thenP
  have e1 : endsP (re p n) x = endsP p x := rfl
  rw [e1, re_went, re_endField]
  split <;> rfl
theorem re_take {t : List UInt8} {p q : PS} {x : Ln} (n : Nat) (h : takeP t p x = .ok q) : ∃ m, takeP t (re p n) x = .ok (re q m) := by
  obtain ⟨h1, h2, rfl⟩ := take_parts h
  have := take_of (t := t) (p := re p n) (x := x) (fun he => by rw [re_went]; exact h1 he) h2
  rw [this, re_then]
  unfold putP
  split
  · exact ⟨x.no, rfl⟩
  · split
    · rw [re_endBlock, re_endItem]; exact ⟨n, rfl⟩
    · exact ⟨n, rfl⟩
theorem re_run {t : List UInt8} : ∀ (xs : List Ln) (p q : PS) (n : Nat), runP t p xs = .ok q → ∃ m, runP t (re p n) xs = .ok (re q m)
  | [], p, q, n, h => by cases h; exact ⟨n, rfl⟩
  | x :: xs, p, q, n, h => by
    have h' : (match takeP t p x with | .error e => Except.error e | .ok q' => runP t q' xs) = .ok q := h
    cases ht : takeP t p x with
    | error e => rw [ht] at h'; cases h'
    | ok p1 =>
      rw [ht] at h'
      obtain ⟨m, hm⟩ := re_take n ht
      obtain ⟨k, hk⟩ := re_run xs p1 q m h'
      refine ⟨k, ?_⟩
      show (match takeP t (re p n) x with | .error e => Except.error e | .ok q' => runP t q' xs) = _
      rw [hm]; exact hk
theorem parse_cut {t : List UInt8} {its : List It} (h : parseL t = .ok its) {i : Nat} {it : It} (hit : its[i]? = some it) (hk : it.kind = 1) (n : Nat) (hn : n = ((its.take (i + 1)).flatMap It.raw).length) :
    n ≤ t.length ∧ parseL (t.take n) = .ok (its.take (i + 1)) ∧ parseL (t.drop n) = .ok (its.drop (i + 1)) := by
  obtain ⟨p, hr, h0, rfl, _, _, _⟩ := parse_good h
  have hruns := runs_linesOn _ 0 0 t (Nat.le_refl _)
  obtain ⟨ip, gp, hen⟩ := run_good t _ 0 0 _ _ hruns (Nat.le_refl _) Inv.new (Good.new t) hr
  have hj : ((linesOn 0 0 t).flatMap Ln.bytes).length = t.length := congrArg List.length (linesOf_join t)
  rw [hj, Nat.zero_add] at ip
  obtain ⟨l, hl, hlk⟩ := endBlock_items t (endFieldP p) t.length
  rw [endField_items] at hl
  have hlt : i < p.items.length := by
    rcases Nat.lt_or_ge i p.items.length with q | q
    · exact q
    · rw [hl, List.getElem?_append_right q] at hit
      exact absurd hk (hlk it (List.mem_of_getElem? hit))
  have hit' : p.items[i]? = some it := by rw [hl, List.getElem?_append_left hlt] at hit; exact hit
  have htk : (endBlockP t (endFieldP p) t.length).items.take (i + 1) = p.items.take (i + 1) := by rw [hl, List.take_append_of_le_length (by omega)]
  obtain ⟨a, b, q, e1, e2, e3, e4, e5, e6, e7⟩ := run_blank t _ PS.new p 0 0 hruns hen hr i it (Nat.zero_le _) hit' hk
  rw [Nat.zero_add] at e7
  have hra := Runs.append (e1 ▸ hruns)
  have hena : ∀ x ∈ a, x.ended = true := fun x hx => hen x (by rw [e1]; exact List.mem_append_left _ hx)
  obtain ⟨iq, gq, _⟩ := run_good t a 0 0 _ _ hra.1 (Nat.le_refl _) Inv.new (Good.new t) e2
  have hat : q.at_ ≤ t.length := by
    rw [e7, ← hj, e1, List.flatMap_append, List.length_append]; omega
  have hnq : n = q.at_ := by
    rw [hn, htk, ← e4, gq.join, List.length_take, Nat.min_eq_left hat]
  obtain ⟨c1, c2⟩ := linesOn_cut a b 0 0 t e1 hena
  rw [← e7] at c1 c2
  rw [Nat.zero_add, Nat.zero_add] at c2
  rw [hnq]
  refine ⟨hat, ?_, ?_⟩
  · have hlines : linesOf (t.take q.at_) = a := c1
    unfold parseL
    rw [hlines, run_short a PS.new 0 0 hra.1 (by rw [e7]; omega) hena, e2]
    dsimp only
    obtain ⟨z1, z2⟩ := endField_none e5
    unfold lastP
    rw [z1, if_neg (by decide), z2, List.length_take, Nat.min_eq_left hat]
    rw [htk, ← e4]
    unfold endBlockP
    rw [if_pos rfl]
  · have hsh := linesOn_sh _ a.length q.at_ 0 0 (t.drop q.at_) (Nat.le_refl _)
    rw [Nat.add_zero, Nat.add_zero] at hsh
    obtain ⟨m, hm⟩ := re_run b q p a.length e3
    have hup : re q a.length = up q a.length q.at_ PS.new := by
      unfold re up
      simp only [PS.new, e5, e6, List.append_nil, Nat.add_zero]
    rw [hup, c2, hsh] at hm
    have hsum : q.at_ + ((linesOn 0 0 (t.drop q.at_)).flatMap Ln.bytes).length = t.length := by
      rw [show linesOn 0 0 (t.drop q.at_) = linesOf (t.drop q.at_) from rfl, linesOf_join, List.length_drop]; omega
    have hall : a.length ≤ q.at_ := by rw [e7]; exact runs_len a 0 0 hra.1
    have hiu : Inv (up q a.length q.at_ PS.new) (q.at_ + 0) := by
      rw [← hup]
      have i := iq
      rw [Nat.zero_add, ← e7] at i
      exact ⟨i.at_, i.items, i.stanzas, hall, i.fields, i.said, i.both⟩
    have hgu : Good t (up q a.length q.at_ PS.new) := by
      rw [← hup]; exact ⟨gq.st, gq.st', gq.fl, gq.each, gq.join⟩
    have hr2 : Runs (a.length + 0) (q.at_ + 0) ((linesOn 0 0 (t.drop q.at_)).map (sh a.length q.at_)) := by
      rw [← hsh, ← c2]
      have := hra.2
      rw [Nat.zero_add, Nat.zero_add, ← e7] at this
      exact this
    obtain ⟨s', hs', hs2⟩ := up_run (t := t) (q := q) (d := a.length) (e := q.at_) _ 0 0 PS.new (re p m) hr2 (by omega) hiu hgu hm
    have hN : endFieldN s' = 0 := by
      refine up_endFieldN q a.length q.at_ s' ?_ ?_
      · rw [← hs2]; exact gp.st
      · rw [← hs2]; exact h0
    unfold parseL
    rw [show linesOf (t.drop q.at_) = linesOn 0 0 (t.drop q.at_) from rfl, hs']
    dsimp only
    unfold lastP
    rw [hN, if_neg (by decide)]
    have hfin : (endBlockP t (endFieldP (re p m)) t.length).items = (endBlockP t (endFieldP p) t.length).items := by
      rw [re_endField, re_endBlock]; rfl
    rw [← hfin, hs2, up_endField]
    have ht : t.length = q.at_ + (t.drop q.at_).length := by rw [List.length_drop]; omega
    conv => rhs; rw [ht]
    rw [up_endBlock]
    show _ = Except.ok ((q.items ++ (endBlockP (t.drop q.at_) (endFieldP s') (t.drop q.at_).length).items).drop (i + 1))
    have hql : q.items.length = i + 1 := by rw [e4, List.length_take]; omega
    rw [← hql, List.drop_left]
end Go.Proofs.YthblpjjocokphaaGreatDoor
/- A header ahead of a good text is a Remark and a Blank more, plainly. -/
namespace Go.Proofs.YthblpjjocokphaaGreatDoor.Hd
open Go.Lib

/-- Behind a Remark and a Blank (no stanza among them) all goes on alike. -/
theorem up_full (q : PS) (d e : Nat) (s : PS) (hq : q.stanzas = 0) : fullP (up q d e s) = fullP s := by
  unfold fullP up; rw [hq, Nat.zero_add]
theorem up_endN (q : PS) (d e : Nat) (s : PS) (hq : q.stanzas = 0) : endFieldN (up q d e s) = endFieldN s := by
  unfold endFieldN
  rw [up_full q d e s hq]; rfl
theorem up_take_to (t : List UInt8) (q : PS) (d e : Nat) (s : PS) (x : Ln) (hq : q.stanzas = 0) {b : PS} (h : takeP (t.drop e) s x = .ok b) : takeP t (up q d e s) (sh d e x) = .ok (up q d e b) := by
  unfold takeP at h ⊢
  rw [up_ends, up_went, up_endN _ _ _ _ hq, up_wrong]
  split at h
  · cases h
  · rename_i h1
    rw [if_neg h1]
    split at h
    · cases h
    · rename_i h2
      rw [if_neg h2, up_then, up_put]
      injection h with h
      rw [h]
theorem up_run_to (t : List UInt8) (q : PS) (d e : Nat) (hq : q.stanzas = 0) : ∀ (xs : List Ln) (s b : PS), runP (t.drop e) s xs = .ok b → runP t (up q d e s) (xs.map (sh d e)) = .ok (up q d e b)
  | [], s, b, h => by
    injection h with h
    subst h; rfl
  | x :: xs, s, b, h => by
    unfold runP at h
    show (match takeP t (up q d e s) (sh d e x) with | .error e => _ | .ok q' => runP t q' (xs.map (sh d e))) = _
    cases ht : takeP (t.drop e) s x with
    | error a => rw [ht] at h; cases h
    | ok p =>
      rw [ht] at h
      rw [up_take_to t q d e s x hq ht]
      exact up_run_to t q d e hq xs p b h

theorem kind_head (g : Nat) : kindL (SIGN ++ decDigits g) = 2 := by
  have h10 : hasB (SIGN ++ decDigits g) 10 = false := by
    have h := dec10 g
    rw [Bool.eq_false_iff]
    intro hh
    have : (10 : UInt8) ∈ SIGN ++ decDigits g := by simpa [hasB] using hh
    rcases List.mem_append.1 this with h' | h'
    · exact absurd h' (by decide)
    · exact h h'
  unfold kindL
  rw [h10]
  rfl
theorem kind_none : kindL [] = 1 := by decide
theorem linesOn_end (l : List UInt8) (r : List UInt8) (no c : Nat) (h : (10 : UInt8) ∉ l) : linesOn no c (l ++ 10 :: r) = ⟨no, c, l, true⟩ :: linesOn (no + 1) (c + l.length + 1) r := by
  obtain ⟨h1, h2⟩ := head_of l r h
  have hu : used (l ++ 10 :: r) = l.length + 1 := by unfold used; rw [h1, h2]; rfl
  have hd : (l ++ 10 :: r).drop (l.length + 1) = r := by
    rw [show l ++ 10 :: r = (l ++ [10]) ++ r by simp]
    exact List.drop_left' (by simp)
  rw [linesOn_cons _ _ _ (by simp), h1, h2, hu, hd]
  rfl
/-- The header's two items. -/
def two (g : Nat) : List It := [⟨2, SIGN ++ (decDigits g ++ [10]), []⟩, ⟨1, [10], []⟩]
theorem sign_no : (10 : UInt8) ∉ SIGN := by decide
theorem lines_head (g : Nat) (t : List UInt8) : linesOf (headL g ++ t) = ⟨0, 0, SIGN ++ decDigits g, true⟩ :: ⟨1, (SIGN ++ decDigits g).length + 1, [], true⟩ :: (linesOf t).map (sh 2 (headL g).length) := by
  have hn : (10 : UInt8) ∉ SIGN ++ decDigits g := by
    intro h
    rcases List.mem_append.1 h with h | h
    · exact sign_no h
    · exact dec10 g h
  unfold linesOf
  rw [show headL g ++ t = (SIGN ++ decDigits g) ++ 10 :: ([] ++ 10 :: t) by unfold headL; simp]
  rw [linesOn_end _ _ _ _ hn, linesOn_end [] t _ _ (by simp)]
  have := linesOn_sh t.length 2 (headL g).length 0 0 t (Nat.le_refl _)
  rw [Nat.add_zero, Nat.add_zero] at this
  rw [← this]
  have hl : (SIGN ++ decDigits g).length + 1 + 1 = (headL g).length := by unfold headL; simp; omega
  simp only [List.length_nil, Nat.zero_add, Nat.add_zero]
  rw [hl]
/-- What stands behind the header. -/
def hdP (g : Nat) : PS := ⟨0, [], two g, 0, (headL g).length, []⟩
theorem run_head (g : Nat) (t : List UInt8) : runP (headL g ++ t) PS.new [⟨0, 0, SIGN ++ decDigits g, true⟩, ⟨1, (SIGN ++ decDigits g).length + 1, [], true⟩] = .ok (hdP g) := by
  have hl : (SIGN ++ decDigits g).length + 1 + 1 = (headL g).length := by unfold headL; simp; omega
  have e1 : takeP (headL g ++ t) PS.new ⟨0, 0, SIGN ++ decDigits g, true⟩ = .ok PS.new := by
    have hk : kindL (⟨0, 0, SIGN ++ decDigits g, true⟩ : Ln).text = 2 := kind_head g
    have hg : goesP PS.new ⟨0, 0, SIGN ++ decDigits g, true⟩ = false := by unfold goesP; rw [hk]; rfl
    have hw : wentP PS.new ⟨0, 0, SIGN ++ decDigits g, true⟩ = PS.new := by unfold wentP; rw [hg]; rfl
    have hr : wrongP PS.new ⟨0, 0, SIGN ++ decDigits g, true⟩ = false := by unfold wrongP; rw [hk]; rfl
    have ht : thenP PS.new ⟨0, 0, SIGN ++ decDigits g, true⟩ = PS.new := by unfold thenP endsP; rw [hr, hg, hw]; rfl
    have hp : putP (headL g ++ t) PS.new ⟨0, 0, SIGN ++ decDigits g, true⟩ = PS.new := by unfold putP; rw [hk]; rfl
    unfold takeP
    rw [hw, hr, ht, hp, if_neg (fun h => h.2 rfl)]
    rfl
  have e2 : takeP (headL g ++ t) PS.new ⟨1, (SIGN ++ decDigits g).length + 1, [], true⟩ = .ok (hdP g) := by
    have hp : thenP PS.new ⟨1, (SIGN ++ decDigits g).length + 1, [], true⟩ = PS.new := rfl
    have hk : putP (headL g ++ t) PS.new ⟨1, (SIGN ++ decDigits g).length + 1, [], true⟩ = hdP g := by
      unfold putP
      rw [if_neg (by rw [kind_none]; decide), if_pos kind_none]
      have hb : endBlockP (headL g ++ t) PS.new ((SIGN ++ decDigits g).length + 1) = ⟨0, [], [⟨2, SIGN ++ (decDigits g ++ [10]), []⟩], 0, (SIGN ++ decDigits g).length + 1, []⟩ := by
        unfold endBlockP
        rw [if_neg (show ¬ PS.new.at_ = _ by show ¬ (0 : Nat) = _; omega), if_pos (show PS.new.fields.length = 0 from rfl)]
        unfold endItemP
        have : (headL g ++ t).take ((SIGN ++ decDigits g).length + 1) = SIGN ++ (decDigits g ++ [10]) := by
          rw [show headL g ++ t = (SIGN ++ (decDigits g ++ [10])) ++ 10 :: t by unfold headL; simp]
          exact List.take_left' (by simp <;> omega)
        rw [this]; rfl
      show endItemP (headL g ++ t) (endBlockP (headL g ++ t) PS.new ((SIGN ++ decDigits g).length + 1)) 1 ((SIGN ++ decDigits g).length + 1 + 0 + 1) = _
      rw [hb]
      unfold endItemP hdP two
      have h2 : ((headL g ++ t).take (headL g).length).drop ((SIGN ++ decDigits g).length + 1) = [10] := by
        rw [← hl]
        rw [show (headL g ++ t) = ((SIGN ++ decDigits g) ++ [10]) ++ ([10] ++ t) by unfold headL; simp]
        rw [List.drop_take, List.append_assoc, ← List.append_assoc, List.drop_left' (by simp <;> omega), show (SIGN ++ decDigits g).length + 1 + 1 - ((SIGN ++ decDigits g).length + 1) = 1 by omega]
        rfl
      simp only [Nat.add_zero, hl, h2]
      rfl
    unfold takeP
    rw [hp, hk]
    rfl
  show (match takeP (headL g ++ t) PS.new ⟨0, 0, SIGN ++ decDigits g, true⟩ with | .error e => _ | .ok q => runP (headL g ++ t) q [⟨1, (SIGN ++ decDigits g).length + 1, [], true⟩]) = _
  rw [e1]
  show runP (headL g ++ t) PS.new [⟨1, (SIGN ++ decDigits g).length + 1, [], true⟩] = _
  unfold runP
  rw [e2]; rfl
theorem up_new (g : Nat) (n : Nat) : re (up (hdP g) 2 (headL g).length PS.new) 0 = hdP g := rfl
/-- A header ahead of a good text. -/
theorem parse_head (g : Nat) (t : List UInt8) {its : List It} (h : parseL t = .ok its) : parseL (headL g ++ t) = .ok (two g ++ its) := by
  have hdrop : (headL g ++ t).drop (headL g).length = t := List.drop_left' rfl
  unfold parseL at h ⊢
  rw [lines_head, show ∀ (a b : Ln) (l : List Ln), a :: b :: l = [a, b] ++ l from fun _ _ _ => rfl, runP_append, run_head]
  cases hr : runP t PS.new (linesOf t) with
  | error e => rw [hr] at h; cases h
  | ok p =>
    rw [hr] at h
    have h1 := up_run_to (headL g ++ t) (hdP g) 2 (headL g).length rfl (linesOf t) PS.new p (by rw [hdrop]; exact hr)
    obtain ⟨m, hm⟩ := re_run _ _ _ 0 h1
    rw [show re (up (hdP g) 2 (headL g).length PS.new) 0 = hdP g from rfl] at hm
    show (match runP (headL g ++ t) (hdP g) ((linesOf t).map (sh 2 (headL g).length)) with | .error e => _ | .ok p => lastP (headL g ++ t) p) = _
    rw [hm]
    show lastP (headL g ++ t) (re (up (hdP g) 2 (headL g).length p) m) = _
    replace h : lastP t p = .ok its := h
    unfold lastP at h ⊢
    split at h
    · cases h
    · rename_i h0
      have e0 : endFieldN (re (up (hdP g) 2 (headL g).length p) m) = endFieldN p := (show endFieldN (re (up (hdP g) 2 (headL g).length p) m) = endFieldN (up (hdP g) 2 (headL g).length p) from rfl).trans (up_endN (hdP g) 2 (headL g).length p rfl)
      rw [if_neg (by rw [e0]; exact h0), re_endField, re_endBlock, up_endField, List.length_append]
      have h2 := up_endBlock (headL g ++ t) (hdP g) 2 (headL g).length (endFieldP p) t.length
      rw [hdrop] at h2
      rw [h2]
      injection h with h
      rw [← h]; rfl
end Go.Proofs.YthblpjjocokphaaGreatDoor.Hd
/- A slice of fields: readable, its cells. -/
namespace Go.Proofs.YthblpjjocokphaaGreatDoor
open Go.RowKit

/-- A slice of fields, readable. -/
def Flds (w : World) (v : Value) (fs : List (List UInt8 × List UInt8)) : Prop :=
  ∃ A cap, v = .slice A fs.length cap ∧ fs.length ≤ cap ∧ ∀ (i : Nat) (f : List UInt8 × List UInt8), fs[i]? = some f → ∃ b off, A = some ⟨b, off, none⟩ ∧ b < w.heap.size ∧ w.cell? ⟨b, off + i * 2, none⟩ = some (.string (B f.1)) ∧ w.cell? ⟨b, off + i * 2 + 1, none⟩ = some (.string (B f.2))
theorem Flds.below {w w' : World} {v : Value} {fs : List (List UInt8 × List UInt8)} {n : Nat} (h : Flds w v fs) (hb : Below n w w') (hn : w.heap.size ≤ n) : Flds w' v fs := by
  obtain ⟨A, cap, hv, hle, hc⟩ := h
  refine ⟨A, cap, hv, hle, fun i s hs => ?_⟩
  obtain ⟨b, off, hA, hlt, c0, c1⟩ := hc i s hs
  exact ⟨b, off, hA, Nat.lt_of_lt_of_le hlt hb.size, (hb.cell (p := ⟨b, off + i * 2, none⟩) (Nat.lt_of_lt_of_le hlt hn)).trans c0, (hb.cell (p := ⟨b, off + i * 2 + 1, none⟩) (Nat.lt_of_lt_of_le hlt hn)).trans c1⟩
theorem Flds.one (w : World) (t : TypeId) (k v : List UInt8) : Flds (w.alloc (.cells #[.string (B k), .string (B v)] t)) (.slice (some ⟨w.heap.size, 0, none⟩) 1 1) [(k, v)] := by
  refine ⟨_, 1, rfl, Nat.le_refl _, fun i f h => ⟨w.heap.size, 0, rfl, by simp, ?_⟩⟩
  rw [World.cell?_alloc_at _ _ _ _ rfl, World.cell?_alloc_at _ _ _ _ rfl]
  match i, h with
  | 0, h => simp at h; subst h; exact ⟨rfl, rfl⟩
  | n + 1, h => simp at h
theorem Flds.two (w : World) (t : TypeId) (k v k' v' : List UInt8) : Flds (w.alloc (.cells #[.string (B k), .string (B v), .string (B k'), .string (B v')] t)) (.slice (some ⟨w.heap.size, 0, none⟩) 2 2) [(k, v), (k', v')] := by
  refine ⟨_, 2, rfl, Nat.le_refl _, fun i f h => ⟨w.heap.size, 0, rfl, by simp, ?_⟩⟩
  rw [World.cell?_alloc_at _ _ _ _ rfl, World.cell?_alloc_at _ _ _ _ rfl]
  match i, h with
  | 0, h => simp at h; subst h; exact ⟨rfl, rfl⟩
  | 1, h => simp at h; subst h; exact ⟨rfl, rfl⟩
  | n + 2, h => simp at h

def cellsF (fs : List (List UInt8 × List UInt8)) : List Value := fs.flatMap fun f => [.string (B f.1), .string (B f.2)]
theorem cellsF_len : ∀ fs, (cellsF fs).length = fs.length * 2
  | [] => rfl
  | f :: r => by
    have := cellsF_len r
    show (Value.string (B f.1) :: Value.string (B f.2) :: cellsF r).length = _
    simp only [List.length_cons, this]; omega
theorem cellsF_at : ∀ (fs : List (List UInt8 × List UInt8)) (i : Nat) (f : List UInt8 × List UInt8), fs[i]? = some f → (cellsF fs)[i * 2]? = some (.string (B f.1)) ∧ (cellsF fs)[i * 2 + 1]? = some (.string (B f.2))
  | [], i, f, h => by simp at h
  | a :: r, 0, f, h => by simp at h; subst h; exact ⟨rfl, rfl⟩
  | a :: r, i + 1, f, h => by
    have ih := cellsF_at r i f (by simpa using h)
    have e : cellsF (a :: r) = Value.string (B a.1) :: Value.string (B a.2) :: cellsF r := rfl
    rw [e, show (i + 1) * 2 = i * 2 + 1 + 1 by omega]
    simpa using ih
theorem infoFld : (Tryz.prog.info? 69).map (fun i => (i.zero, i.size, i.bytes)) = some (some (.agg #[.string ⟨#[]⟩, .string ⟨#[]⟩]), 2, 32) := by kernel_rfl
theorem flds_of_own {w : World} {base : Nat} {v : Value} {fs : List (List UInt8 × List UInt8)} (h : w.ownsRow base 69 2 v fs.length (cellsF fs)) : Flds w v fs := by
  rcases Joins.ownsRow_forms h with ⟨rfl, hn⟩ | ⟨g, cap, rfl⟩
  · have : fs = [] := by cases fs with | nil => rfl | cons _ _ => simp at hn
    subst this
    exact ⟨none, 0, rfl, Nat.le_refl _, fun i f h => by simp at h⟩
  · refine ⟨_, cap, rfl, (by rcases h.2 with ⟨q, _⟩ | ⟨g', cap', cur, q, _, _, q2, _⟩; cases q; cases q; exact q2), fun i f hf => ⟨g, 0, rfl, (World.ownsRow.lt h g rfl).2, ?_⟩⟩
    have hi : i < fs.length := by
      rcases Nat.lt_or_ge i fs.length with q | q
      · exact q
      · rw [List.getElem?_eq_none q] at hf; cases hf
    obtain ⟨a, b⟩ := cellsF_at fs i f hf
    rw [Nat.zero_add, World.ownsRow.cellAt h (i * 2) (by omega), World.ownsRow.cellAt h (i * 2 + 1) (by omega)]
    exact ⟨a, b⟩
end Go.Proofs.YthblpjjocokphaaGreatDoor
/- Heap objects that belong to one owner: cells known whole, rows, what else lies as it lay; tags of blocks. -/
namespace Go.RowKit
theorem Below.drewNN {B : Nat} {a w : World} (h : Below B a w) (n : Nat) : Below B a (w.drewN n) := ⟨h.os, h.tape, h.output, h.size, h.block⟩
end Go.RowKit
namespace Go.Proofs.YthblpjjocokphaaGreatDoor
open Go.RowKit

/-- Whatever lay lies as it lay, but for the blocks of S. -/
structure Only (S : Nat → Prop) (W W' : World) : Prop where
  os : W'.os = W.os
  tape : W'.tape = W.tape
  output : W'.output = W.output
  size : W.heap.size ≤ W'.heap.size
  same : ∀ r, r < W.heap.size → ¬ S r → W'.heap[r]? = W.heap[r]?
section
variable {S : Nat → Prop} {X Y Z : World}
theorem Only.refl (S : Nat → Prop) (W : World) : Only S W W := ⟨rfl, rfl, rfl, Nat.le_refl _, fun _ _ _ => rfl⟩
theorem Only.trans {S' : Nat → Prop} (h : Only S X Y) (g : Only S' Y Z) (hs : ∀ r, r < X.heap.size → S' r → S r) : Only S X Z :=
  ⟨g.os.trans h.os, g.tape.trans h.tape, g.output.trans h.output, Nat.le_trans h.size g.size, fun r a b => (g.same r (Nat.lt_of_lt_of_le a h.size) (fun c => b (hs r a c))).trans (h.same r a b)⟩
theorem Only.alloc (h : Only S X Y) (o : Obj) : Only S X (Y.alloc o) :=
  ⟨h.os, h.tape, h.output, by simp; have := h.size; omega, fun r a b => (Below.heap_alloc _ _ _ (Nat.lt_of_lt_of_le a h.size)).trans (h.same r a b)⟩
theorem Only.setCell (h : Only S X Y) {p : Addr} (hp : S p.block ∨ X.heap.size ≤ p.block) (u : Value) : Only S X (Y.setCell p u) :=
  ⟨h.os, h.tape, h.output, by simp only [World.setCell, Array.size_modify]; exact h.size, fun r a b => (Below.heap_setCell _ _ _ _ (by rintro rfl; rcases hp with hp | hp; exact b hp; omega)).trans (h.same r a b)⟩
theorem Only.cellS {p : Nat} (h : Only (· = p) X Y) (o : Nat) (u : Value) : Only (· = p) X (Y.setCell ⟨p, o, none⟩ u) := h.setCell (p := ⟨p, o, none⟩) (.inl rfl) u
theorem Only.drew (h : Only S X Y) : Only S X Y.drew := ⟨h.os, h.tape, h.output, h.size, h.same⟩
theorem Only.drewN (h : Only S X Y) (n : Nat) : Only S X (Y.drewN n) := ⟨h.os, h.tape, h.output, h.size, h.same⟩
theorem Only.grown (h : Only S X Y) {row : Option Nat} (g : Y.grownBy Z row) (hr : ∀ k, row = some k → S k ∨ X.heap.size ≤ k) : Only S X Z :=
  ⟨g.os.trans h.os, g.tape.trans h.tape, g.output.trans h.output, Nat.le_trans h.size g.size, fun r a b => (g.block r (Nat.lt_of_lt_of_le a h.size) (fun e => by rcases hr r e.symm with c | c; exact b c; omega)).trans (h.same r a b)⟩
theorem Only.below (h : Only S X Y) {B : Nat} (g : Below B Y Z) (hB : X.heap.size ≤ B) : Only S X Z :=
  ⟨g.os.trans h.os, g.tape.trans h.tape, g.output.trans h.output, Nat.le_trans h.size g.size, fun r a b => (g.block r (by omega)).trans (h.same r a b)⟩
theorem Only.to_below (h : Only S X Y) {B : Nat} (hB : B ≤ X.heap.size) (hs : ∀ r, r < B → ¬ S r) : Below B X Y :=
  ⟨h.os, h.tape, h.output, h.size, fun r a => h.same r (by omega) (hs r a)⟩
theorem Only.of_below {B : Nat} (g : Below B X Y) (hB : X.heap.size ≤ B) : Only S X Y := (Only.refl S X).below g hB
theorem Only.mono {S' : Nat → Prop} (h : Only S X Y) (hs : ∀ r, r < X.heap.size → S r → S' r) : Only S' X Y := ⟨h.os, h.tape, h.output, h.size, fun r a b => h.same r a (fun c => b (hs r a c))⟩
end

theorem row_same {W W' : World} {base : Nat} {e : TypeId} {size : Nat} {v : Value} {n : Nat} {xs : List Value} (h : W.ownsRow base e size v n xs) (hs : ∀ b, v.ownBlock = some b → W'.heap[b]? = W.heap[b]?) : W'.ownsRow base e size v n xs := by
  refine ⟨h.1, ?_⟩
  rcases h.2 with hn | ⟨g, cap, cur, rfl, hbase, hg, rest⟩
  · exact .inl hn
  · exact .inr ⟨g, cap, cur, rfl, hbase, (hs g rfl).trans hg, rest⟩
theorem row_only {W W' : World} {S : Nat → Prop} {base : Nat} {e : TypeId} {size : Nat} {v : Value} {n : Nat} {xs : List Value} (h : W.ownsRow base e size v n xs) (g : Only S W W') (hs : ∀ b, v.ownBlock = some b → ¬ S b) : W'.ownsRow base e size v n xs :=
  row_same h fun b hb => g.same b (h.lt b hb).2 (hs b hb)
theorem row_below {W W' : World} {B : Nat} {base : Nat} {e : TypeId} {size : Nat} {v : Value} {n : Nat} {xs : List Value} (h : W.ownsRow base e size v n xs) (g : Below B W W') (hB : W.heap.size ≤ B) : W'.ownsRow base e size v n xs :=
  row_same h fun b hb => g.block b (Nat.lt_of_lt_of_le (h.lt b hb).2 hB)
theorem row_cell {W : World} {base : Nat} {e : TypeId} {size : Nat} {v : Value} {n : Nat} {xs : List Value} (h : W.ownsRow base e size v n xs) {p : Addr} (hp : v.ownBlock ≠ some p.block) (u : Value) : (W.setCell p u).ownsRow base e size v n xs :=
  row_same h fun b hb => Below.heap_setCell _ _ _ _ (fun e => hp (by rw [hb, e]))
/-- A block of cells known whole. -/
def Cells (W : World) (b : Nat) (t : TypeId) (cur : Array Value) : Prop := W.heap[b]? = some (.cells cur t (0, 0))
section
variable {W W' : World} {b : Nat} {t : TypeId} {cur : Array Value}
theorem Cells.lt (h : Cells W b t cur) : b < W.heap.size := (Array.getElem?_eq_some_iff.1 (show W.heap[b]? = _ from h)).1
theorem Cells.new (W : World) (t : TypeId) (cur : Array Value) : Cells (W.alloc (.cells cur t)) W.heap.size t cur := heap_alloc_new W _
theorem Cells.alloc (h : Cells W b t cur) (o : Obj) : Cells (W.alloc o) b t cur := (Below.heap_alloc _ _ _ h.lt).trans h
theorem Cells.drewN (h : Cells W b t cur) (n : Nat) : Cells (W.drewN n) b t cur := h
theorem Cells.drew (h : Cells W b t cur) : Cells W.drew b t cur := h
theorem Cells.other (h : Cells W b t cur) {p : Addr} (hp : b ≠ p.block) (u : Value) : Cells (W.setCell p u) b t cur := (Below.heap_setCell _ _ _ _ hp).trans h
theorem Cells.set (h : Cells W b t cur) (i : Nat) (u : Value) : Cells (W.setCell ⟨b, i, none⟩ u) b t (cur.setIfInBounds i u) := by
  obtain ⟨hlt, hk⟩ := Array.getElem?_eq_some_iff.1 (show W.heap[b]? = _ from h)
  show (W.heap.modify b _)[b]? = _
  rw [Array.getElem?_eq_getElem (by rw [Array.size_modify]; exact hlt), Array.getElem_modify_self, hk]
  rfl
theorem Cells.cell (h : Cells W b t cur) (i : Nat) : W.cell? ⟨b, i, none⟩ = cur[i]? := by
  simp [World.cell?, show W.heap[b]? = _ from h]
theorem Cells.frozen (h : Cells W b t cur) (i : Nat) : W.frozen? ⟨b, i, none⟩ = false := by
  simp [World.frozen?, show W.heap[b]? = _ from h]
theorem Cells.only {S : Nat → Prop} (h : Cells W b t cur) (g : Only S W W') (hb : ¬ S b) : Cells W' b t cur := (g.same b h.lt hb).trans h
theorem Cells.below {B : Nat} (h : Cells W b t cur) (g : Below B W W') (hb : b < B) : Cells W' b t cur := (g.block b hb).trans h
theorem Cells.grown {row : Option Nat} (h : Cells W b t cur) (g : W.grownBy W' row) (hb : some b ≠ row) : Cells W' b t cur := (g.block b h.lt hb).trans h
end
end Go.Proofs.YthblpjjocokphaaGreatDoor
/- An append in a region that draws its order; tags of blocks. -/
namespace Go.Proofs.YthblpjjocokphaaGreatDoor
open Go.RowKit

/-- append onto a slice that is owned, as one step of a region that draws. -/
theorem step_append_own {P : Program} {ops : Array Oper} {o : Oper} {a : Act} {w : World} {K : Act → World → Prop} {Q : Exit → Act → World → Prop} {E : Prop}
    (hg : o.guard = none) (s x : Operand) (t : TypeId) (hop : o.op = Op.call { callee := Callee.builtin Builtin.append, args := #[s, x], argTypes := #[t, t] })
    (e : TypeId) (i : TypeInfo) (z : Value) (size bytes : Nat) (ht : P.underlying t = some (.slice e)) (hi : P.info? e = some i) (hz : i.zero = some z)
    (hsize : i.size = size) (hby : i.bytes = bytes) (hzs : z.cells.size = size) (hsz : 0 < size)
    (v : Value) (n : Nat) (xs : List Value) (hs : a.eval s = v) (hown : w.ownsRow 0 e size v n xs)
    (ad : Addr) (m c : Nat) (news : List Value) (hx : a.eval x = .slice (some ad) m c) (hl : news.length = m * size) (hnews : ∀ j u, news[j]? = some u → w.cell? (ad.add j) = some u) (h1 : ∀ u ∈ news, u.oneCell' = true)
    (h63 : n + m ≤ maxLen) (hbytes : (n + m) * bytes ≤ 140737488355328)
    (hK : ∀ v' w', w'.ownsRow 0 e size v' (n + m) (xs ++ news) → w.grownBy w' v.ownBlock → (v'.ownBlock = v.ownBlock ∨ v'.ownBlock = some w.heap.size) → K (a.put o.dst v') w') :
    if Region.wanted o (yielded ops a.tmps) = true then Oper.wp P o a w K Q else E := by
  have hw : Region.wanted o (yielded ops a.tmps) = true := by simp [Region.wanted, hg]
  rw [if_pos hw]
  obtain ⟨v', w', hr, h2, h3, h4, h5⟩ := run_append_own_at (P := P) w 0 t o.type e i z size bytes ht hi hz hsize hby hzs hsz v n xs hown ad m c news hl hnews h1 h63 hbytes (Nat.zero_le _)
  unfold Oper.wp
  simp [execOp, hop, resolve, invoke, builtin, hs, hx, hr, Result.andThen]
  exact hK v' w' h2 h3 h5

theorem cells_new_add (w : World) (t : TypeId) (cs : List Value) : ∀ j u, cs[j]? = some u → (w.alloc (.cells cs.toArray t)).cell? ((⟨w.heap.size, 0, none⟩ : Addr).add j) = some u := by
  intro j u hj
  have := (Cells.new w t cs.toArray).cell j
  have e : (⟨w.heap.size, 0, none⟩ : Addr).add j = ⟨w.heap.size, j, none⟩ := by unfold Addr.add; split <;> simp_all
  rw [e, this, List.getElem?_toArray, hj]
theorem slice_of_own {w : World} {base : Nat} {e : TypeId} {size : Nat} {v : Value} {n : Nat} {xs : List Value} (h : w.ownsRow base e size v (n + 1) xs) : ∃ g cap, v = .slice (some ⟨g, 0, none⟩) (n + 1) cap := by
  rcases h.2 with ⟨_, h⟩ | ⟨g, cap, _, h, _⟩
  · omega
  · exact ⟨g, cap, h⟩

/-- What is known behind an append of one element onto a slice that is owned; W: the world ahead of it. -/
theorem appended {w W w' : World} {g : Nat} {t : TypeId} {cur : Array Value} (hg : Cells w g t cur) {vw v' : Value} {n : Nat} {xs A : List Value} {e : TypeId} {size : Nat} (hown : w.ownsRow 0 e size vw n xs) (hne : vw.ownBlock ≠ some g)
    (hb : Below w.heap.size w W) (ho : w'.ownsRow 0 e size v' (n + 1) (xs ++ A)) (hgr : W.grownBy w' vw.ownBlock) (hbk : v'.ownBlock = vw.ownBlock ∨ v'.ownBlock = some W.heap.size) :
    (∃ g' cap, v' = .slice (some ⟨g', 0, none⟩) (n + 1) cap) ∧ Cells w' g t cur ∧ (∀ r, w.heap.size ≤ r → r < W.heap.size → w'.heap[r]? = W.heap[r]?) ∧
      (v'.ownBlock = vw.ownBlock ∨ ∃ k, v'.ownBlock = some k ∧ w.heap.size ≤ k ∧ k < w'.heap.size) ∧ Only (fun r => some r = vw.ownBlock) w w' := by
  have hs := hb.size
  refine ⟨slice_of_own ho, (hgr.block g (Nat.lt_of_lt_of_le hg.lt hs) (fun e => hne e.symm)).trans ((hb.block g hg.lt).trans hg), fun r h1 h2 => hgr.block r h2 (fun e => ?_), ?_, ?_⟩
  · have := (hown.lt r e.symm).2; omega
  · rcases hbk with h | h
    · exact .inl h
    · exact .inr ⟨_, h, hs, (ho.lt _ h).2⟩
  · exact (Only.of_below hb (Nat.le_refl _)).grown hgr (fun k hk => .inl hk.symm)

def tagged (T : Nat → Nat) (o : Option Nat) (t : Nat) : Prop := ∀ b, o = some b → T b = t
def retag (T : Nat → Nat) (lo : Nat) (o : Option Nat) (t : Nat) : Nat → Nat := fun b => if lo ≤ b ∧ o = some b then t else T b
/-- The same block, or a new one from lo on, below hi. -/
def sameOr (lo hi : Nat) (a b : Option Nat) : Prop := b = a ∨ ∃ k, b = some k ∧ lo ≤ k ∧ k < hi
theorem retag_old {T : Nat → Nat} {lo : Nat} {o : Option Nat} {t b : Nat} (h : b < lo) : retag T lo o t b = T b := by
  unfold retag; rw [if_neg (by omega)]
theorem retag_same {T : Nat → Nat} {lo hi : Nat} {a b : Option Nat} {t : Nat} (h : sameOr lo hi a b) (ha : tagged T a t) : tagged (retag T lo b t) b t := by
  intro k hk
  unfold retag
  split
  · rfl
  · rename_i hn
    rcases h with h | ⟨j, h, h1, _⟩
    · exact ha k (by rw [← h]; exact hk)
    · rw [h] at hk; cases hk; exact absurd ⟨h1, h⟩ hn
theorem retag_other {T : Nat → Nat} {lo : Nat} {o c : Option Nat} {t u : Nat} (hc : tagged T c u) (hl : ∀ k, c = some k → k < lo) : tagged (retag T lo o t) c u := by
  intro k hk; rw [retag_old (hl k hk)]; exact hc k hk
theorem retag_zero {T : Nat → Nat} {lo hi m : Nat} {a o : Option Nat} {t : Nat} (hT : ∀ b, T b ≠ 0 → b < m) (hm : m ≤ hi) (h : sameOr lo hi a o) (ha : ∀ k, a = some k → k < m) : ∀ b, retag T lo o t b ≠ 0 → b < hi := by
  intro b hb
  unfold retag at hb
  split at hb
  · rename_i hn
    rcases h with h | ⟨j, h, _, h2⟩
    · have := ha b (by rw [← h]; exact hn.2); omega
    · have := hn.2; rw [h] at this; cases this; exact h2
  · have := hT b hb; omega

/-- A step of a tagged thing: other blocks lie as they lay; what was tagged is so still. -/
structure Step (w : World) (T : Nat → Nat) (w' : World) (T' : Nat → Nat) : Prop where
  only : Only (fun r => T r ≠ 0) w w'
  old : ∀ r, r < w.heap.size → T' r = T r
theorem Step.refl (w : World) (T : Nat → Nat) : Step w T w T := ⟨Only.refl _ _, fun _ _ => rfl⟩
theorem Step.trans {w w1 w2 : World} {T T1 T2 : Nat → Nat} (h : Step w T w1 T1) (g : Step w1 T1 w2 T2) : Step w T w2 T2 :=
  ⟨h.only.trans g.only (fun r hr hn => by rw [← h.old r hr]; exact hn), fun r hr => (g.old r (Nat.lt_of_lt_of_le hr h.only.size)).trans (h.old r hr)⟩
theorem Step.below {w w' : World} {T : Nat → Nat} (h : Below w.heap.size w w') : Step w T w' T := ⟨Only.of_below h (Nat.le_refl _), fun _ _ => rfl⟩

end Go.Proofs.YthblpjjocokphaaGreatDoor
/- The parser in memory. -/
namespace Go.Proofs.YthblpjjocokphaaGreatDoor
open Go.RowKit

/-- The values of the parser's slices, and of its items' fields. -/
structure PV where
  v1 : Value
  v3 : Value
  v6 : Value
  fvs : List Value
def pCells (p : PS) (text : ByteArray) (v1 v3 v6 : Value) : Array Value := #[.int .i64 p.begin_, v1, .string text, v3, .int .i64 p.stanzas, .int .i64 p.at_, v6]
def itemCells (it : It) (v : Value) : List Value := [.int .i64 it.kind, .string (B it.raw), v]
def itemsCells : List It → List Value → List Value
  | it :: l, v :: vs => itemCells it v ++ itemsCells l vs
  | _, _ => []
theorem itemsCells_length : ∀ (l : List It) (vs : List Value), vs.length = l.length → (itemsCells l vs).length = l.length * 3
  | [], _, _ => by simp [itemsCells]
  | it :: l, [], h => by simp at h
  | it :: l, v :: vs, h => by
    have := itemsCells_length l vs (by simpa using h)
    simp only [itemsCells, List.length_append, List.length_cons, itemCells, List.length_nil] at this ⊢; omega
theorem itemsCells_snoc : ∀ (l : List It) (vs : List Value) (it : It) (v : Value), vs.length = l.length → itemsCells (l ++ [it]) (vs ++ [v]) = itemsCells l vs ++ itemCells it v
  | [], [], it, v, _ => by simp [itemsCells]
  | [], _ :: _, _, _, h => by simp at h
  | a :: l, [], it, v, h => by simp at h
  | a :: l, u :: vs, it, v, h => by
    have := itemsCells_snoc l vs it v (by simpa using h)
    simp only [List.cons_append, itemsCells, this, List.append_assoc]
theorem itemsCells_at : ∀ (l : List It) (vs : List Value) (i : Nat) (it : It) (v : Value), l[i]? = some it → vs[i]? = some v → (itemsCells l vs)[i * 3]? = some (.int .i64 it.kind) ∧ (itemsCells l vs)[i * 3 + 1]? = some (.string (B it.raw)) ∧ (itemsCells l vs)[i * 3 + 1 + 1]? = some v
  | [], _, i, it, v, h, _ => by simp at h
  | a :: l, [], i, it, v, _, h => by simp at h
  | a :: l, u :: vs, 0, it, v, h, h' => by simp at h h'; subst h h'; exact ⟨rfl, rfl, rfl⟩
  | a :: l, u :: vs, i + 1, it, v, h, h' => by
    obtain ⟨x, y, z⟩ := itemsCells_at l vs i it v (by simpa using h) (by simpa using h')
    have e : itemsCells (a :: l) (u :: vs) = .int .i64 a.kind :: .string (B a.raw) :: u :: itemsCells l vs := rfl
    have k : (i + 1) * 3 = i * 3 + 1 + 1 + 1 := by omega
    have k1 : i * 3 + 1 + 1 + 1 + 1 = (i * 3 + 1) + 1 + 1 + 1 := by omega
    have k2 : i * 3 + 1 + 1 + 1 + 1 + 1 = (i * 3 + 1 + 1) + 1 + 1 + 1 := by omega
    rw [e, k]
    refine ⟨?_, ?_, ?_⟩
    · rw [List.getElem?_cons_succ, List.getElem?_cons_succ, List.getElem?_cons_succ]; exact x
    · rw [k1, List.getElem?_cons_succ, List.getElem?_cons_succ, List.getElem?_cons_succ]; exact y
    · rw [k2, List.getElem?_cons_succ, List.getElem?_cons_succ, List.getElem?_cons_succ]; exact z
theorem cellsF_snoc (l : List Fld) (f : Fld) : cellsF (l ++ [f]) = cellsF l ++ [.string (B f.1), .string (B f.2)] := by unfold cellsF; simp
def saidCells (l : List (List UInt8)) : List Value := l.map fun x => .string (B x)

/-- A parser stands at b; what is its own begins at R. -/
structure ParserV (w : World) (T : Nat → Nat) (R b : Nat) (text : ByteArray) (p : PS) (V : PV) : Prop where
  cells : Cells w b 42 (pCells p text V.v1 V.v3 V.v6)
  tp : T b = 1
  r1 : w.ownsRow 0 9 1 V.v1 p.said.length (saidCells p.said)
  t1 : tagged T V.v1.ownBlock 2
  r3 : w.ownsRow 0 32 3 V.v3 p.items.length (itemsCells p.items V.fvs)
  t3 : tagged T V.v3.ownBlock 3
  r6 : w.ownsRow 0 69 2 V.v6 p.fields.length (cellsF p.fields)
  t6 : tagged T V.v6.ownBlock 4
  nf : V.fvs.length = p.items.length
  rf : ∀ (i : Nat) (it : It) (v : Value), p.items[i]? = some it → V.fvs[i]? = some v → w.ownsRow 0 69 2 v it.fields.length (cellsF it.fields) ∧ tagged T v.ownBlock 5
  low : ∀ k, T k ≠ 0 → R ≤ k ∧ k < w.heap.size
def ParserAt (w : World) (T : Nat → Nat) (R b : Nat) (text : ByteArray) (p : PS) : Prop := ∃ V, ParserV w T R b text p V

/-- A step of the parser: what isn't its own lies as it lay. -/
structure PStep (w : World) (T : Nat → Nat) (w' : World) (T' : Nat → Nat) : Prop where
  only : Only (fun r => T r ≠ 0) w w'
  old : ∀ r, r < w.heap.size → (T' r = 0 ↔ T r = 0)
theorem PStep.refl (w : World) (T : Nat → Nat) : PStep w T w T := ⟨Only.refl _ _, fun _ _ => Iff.rfl⟩
theorem PStep.trans {w w1 w2 : World} {T T1 T2 : Nat → Nat} (h : PStep w T w1 T1) (g : PStep w1 T1 w2 T2) : PStep w T w2 T2 :=
  ⟨h.only.trans g.only (fun r hr hn => fun e => hn ((h.old r hr).2 e)), fun r hr => (g.old r (Nat.lt_of_lt_of_le hr h.only.size)).trans (h.old r hr)⟩
theorem PStep.below {w w' : World} {T : Nat → Nat} (h : Below w.heap.size w w') : PStep w T w' T := ⟨Only.of_below h (Nat.le_refl _), fun _ _ => Iff.rfl⟩
theorem PStep.drewN {w w' : World} {T T' : Nat → Nat} (h : PStep w T w' T') (n : Nat) : PStep w T (w'.drewN n) T' := ⟨h.only.drewN n, h.old⟩

theorem ParserV.same {w w' : World} {T : Nat → Nat} {R b : Nat} {text : ByteArray} {p : PS} {V : PV} (h : ParserV w T R b text p V) (hs : ∀ k, T k ≠ 0 → w'.heap[k]? = w.heap[k]?) (hz : w.heap.size ≤ w'.heap.size) : ParserV w' T R b text p V := by
  have s : ∀ {o : Option Nat} {t : Nat}, tagged T o t → t ≠ 0 → ∀ k, o = some k → w'.heap[k]? = w.heap[k]? := fun ht hne k hk => hs k (by rw [ht k hk]; exact hne)
  exact ⟨(hs b (by rw [h.tp]; decide)).trans h.cells, h.tp, row_same h.r1 (s h.t1 (by decide)), h.t1, row_same h.r3 (s h.t3 (by decide)), h.t3, row_same h.r6 (s h.t6 (by decide)), h.t6, h.nf,
    fun i it v h1 h2 => ⟨row_same (h.rf i it v h1 h2).1 (s (h.rf i it v h1 h2).2 (by decide)), (h.rf i it v h1 h2).2⟩, fun k hk => ⟨(h.low k hk).1, Nat.lt_of_lt_of_le (h.low k hk).2 hz⟩⟩
theorem ParserV.below {w w' : World} {T : Nat → Nat} {R b : Nat} {text : ByteArray} {p : PS} {V : PV} (h : ParserV w T R b text p V) (hb : Below w.heap.size w w') : ParserV w' T R b text p V :=
  h.same (fun k hk => hb.block k (h.low k hk).2) hb.size
theorem ParserAt.below {w w' : World} {T : Nat → Nat} {R b : Nat} {text : ByteArray} {p : PS} (h : ParserAt w T R b text p) (hb : Below w.heap.size w w') : ParserAt w' T R b text p := by
  obtain ⟨V, h⟩ := h; exact ⟨V, h.below hb⟩
theorem ParserV.lt {w : World} {T : Nat → Nat} {R b : Nat} {text : ByteArray} {p : PS} {V : PV} (h : ParserV w T R b text p V) : b < w.heap.size := h.cells.lt

/-- A new parser. -/
theorem ParserV.new (w : World) (text : ByteArray) (R : Nat) (hR : R ≤ w.heap.size) : ParserV (w.alloc (.cells #[.int .i64 0, .slice none 0 0, .string text, .slice none 0 0, .int .i64 0, .int .i64 0, .slice none 0 0] 42)) (fun k => if k = w.heap.size then 1 else 0) R w.heap.size text PS.new ⟨.slice none 0 0, .slice none 0 0, .slice none 0 0, []⟩ := by
  have tn : ∀ t, tagged (fun k => if k = w.heap.size then 1 else 0) (Value.slice none 0 0).ownBlock t := fun t k h => by cases h
  have rn : ∀ e size, (w.alloc (.cells #[.int .i64 0, .slice none 0 0, .string text, .slice none 0 0, .int .i64 0, .int .i64 0, .slice none 0 0] 42)).ownsRow 0 e size (.slice none 0 0) 0 [] := fun e size => ⟨by simp, .inl ⟨rfl, rfl⟩⟩
  refine ⟨Cells.new _ _ _, if_pos rfl, rn _ _, tn 2, rn _ _, tn 3, rn _ _, tn 4, rfl, (fun i it v h _ => by cases h), fun k hk => ?_⟩
  have : k = w.heap.size := by
    rcases Nat.decEq k w.heap.size with h | h
    · rw [if_neg h] at hk; exact absurd rfl hk
    · exact h
  subst this
  exact ⟨hR, by simp⟩

/-- The slots of a slice that is owned. -/
theorem own_slice {w : World} {base : Nat} {e : TypeId} {size : Nat} {v : Value} {n : Nat} {xs : List Value} (h : w.ownsRow base e size v n xs) : ∃ a cap, v = .slice a n cap ∧ n ≤ cap := by
  rcases h.2 with ⟨rfl, rfl⟩ | ⟨g, cap, cur, rfl, _, _, hle, _⟩
  · exact ⟨none, 0, rfl, Nat.le_refl _⟩
  · exact ⟨_, cap, rfl, hle⟩

set_option maxHeartbeats 400000 in
theorem under_any {w : World} {T : Nat → Nat} {R b : Nat} {text : ByteArray} {p : PS} {V : PV} (h : ParserV w T R b text p V) :
    Calls Tryz.prog 23 #[.pointer (some ⟨b, 0, none⟩)] w fun e w' => e = .returned (.bool (!p.said.isEmpty)) ∧ w = w' := by
  obtain ⟨a, cap, e1, hc⟩ := own_slice h.r1
  have c1 : w.cell? ⟨b, 1, none⟩ = some (.slice a p.said.length cap) := by rw [← e1]; exact h.cells.cell 1
  have hl := h.lt
  have hb : (!p.said.isEmpty) = decide (0 < p.said.length) := by cases p.said <;> simp
  rw [hb]
  clear h
  go_enter Tryz.func23, Tryz.ntmps23
  go_wp2
  go_ret
  exact ⟨rfl, rfl⟩
set_option maxHeartbeats 400000 in
theorem full_any {w : World} {T : Nat → Nat} {R b : Nat} {text : ByteArray} {p : PS} {V : PV} (h : ParserV w T R b text p V) :
    Calls Tryz.prog 28 #[.pointer (some ⟨b, 0, none⟩)] w fun e w' => e = .returned (.bool (fullP p)) ∧ w = w' := by
  obtain ⟨a, cap, e1, hc⟩ := own_slice h.r6
  have c1 : w.cell? ⟨b, 6, none⟩ = some (.slice a p.fields.length cap) := by rw [← e1]; exact h.cells.cell 6
  have c2 : w.cell? ⟨b, 4, none⟩ = some (.int .i64 p.stanzas) := h.cells.cell 4
  have hl := h.lt
  unfold fullP
  clear h
  by_cases h0 : p.fields.length = 0
  · rw [if_pos h0]
    rw [h0] at c1
    have e2 : (p.stanzas == 400) = ((p.stanzas : Int) == 400) := by rw [Bool.eq_iff_iff]; simp; omega
    rw [e2]
    go_enter Tryz.func28, Tryz.ntmps28
    go_wp2
    go_ret
    exact ⟨rfl, rfl⟩
  · rw [if_neg h0]
    have e2 : (p.fields.length == 40) = ((p.fields.length : Int) == 40) := by rw [Bool.eq_iff_iff]; simp; omega
    have e3 : ((p.fields.length : Int) == 0) = false := beq_eq_false_iff_ne.2 (by omega)
    rw [e2]
    go_enter Tryz.func28, Tryz.ntmps28
    go_wp2
    go_ret
    exact ⟨rfl, rfl⟩
end Go.Proofs.YthblpjjocokphaaGreatDoor
/- The field that is under way: start, goOn. -/
namespace Go.Proofs.YthblpjjocokphaaGreatDoor
open Go.RowKit

theorem saidCells_snoc (l : List (List UInt8)) (x : List UInt8) : saidCells (l ++ [x]) = saidCells l ++ [.string (B x)] := by unfold saidCells; simp
theorem infoStr0 : (Tryz.prog.info? 9).map (fun i => (i.zero, i.size, i.bytes)) = some (some (.string ⟨#[]⟩), 1, 16) := by kernel_rfl
theorem retag_both {w w' : World} {T : Nat → Nat} {R : Nat} {a o : Option Nat} {t : Nat} (low : ∀ k, T k ≠ 0 → R ≤ k ∧ k < w.heap.size) (hs : w.heap.size ≤ w'.heap.size) (hR : R ≤ w.heap.size) (h : sameOr w.heap.size w'.heap.size a o) (ha : tagged T a t) (ht : t ≠ 0) :
    ∀ k, retag T w.heap.size o t k ≠ 0 → R ≤ k ∧ k < w'.heap.size := by
  intro k hk
  unfold retag at hk
  split at hk
  · rename_i hn
    rcases h with h | ⟨j, h, _, h2⟩
    · have := low k (by rw [ha k (by rw [← h]; exact hn.2)]; exact ht); omega
    · have := hn.2; rw [h] at this; cases this; omega
  · have := low k hk; omega
/-- What is behind a step that turns the cells, and one row of the parser (the lines of the field). -/
theorem ParserV.said {w w' : World} {T : Nat → Nat} {R b : Nat} {text : ByteArray} {p p' : PS} {V : PV} (h : ParserV w T R b text p V) (hR : R ≤ w.heap.size) (v1' : Value)
    (hc : Cells w' b 42 (pCells p' text v1' V.v3 V.v6)) (hr : w'.ownsRow 0 9 1 v1' p'.said.length (saidCells p'.said)) (hk : sameOr w.heap.size w'.heap.size V.v1.ownBlock v1'.ownBlock)
    (ho : Only (fun r => r = b ∨ some r = V.v1.ownBlock) w w') (e1 : p'.items = p.items) (e2 : p'.fields = p.fields) :
    ∃ T', ParserV w' T' R b text p' { V with v1 := v1' } ∧ PStep w T w' T' := by
  have hs : ∀ k, T k ≠ 0 → T k ≠ 1 → T k ≠ 2 → w'.heap[k]? = w.heap[k]? := fun k h0 h1 h2 => ho.same k (h.low k h0).2 (by
    rintro (e | e)
    · exact h1 (by rw [e]; exact h.tp)
    · exact h2 (h.t1 k e.symm))
  have s : ∀ {o : Option Nat} {t : Nat}, tagged T o t → 3 ≤ t → ∀ k, o = some k → w'.heap[k]? = w.heap[k]? := fun ht hne k hk => hs k (by rw [ht k hk]; omega) (by rw [ht k hk]; omega) (by rw [ht k hk]; omega)
  have lo : ∀ {o : Option Nat} {t : Nat}, tagged T o t → t ≠ 0 → ∀ k, o = some k → k < w.heap.size := fun ht hne k hk => (h.low k (by rw [ht k hk]; exact hne)).2
  refine ⟨retag T w.heap.size v1'.ownBlock 2, ⟨hc, by rw [retag_old h.lt]; exact h.tp, hr, retag_same hk h.t1, ?_, retag_other h.t3 (lo h.t3 (by decide)), ?_, retag_other h.t6 (lo h.t6 (by decide)), by rw [e1]; exact h.nf, fun i it v h1 h2 => ?_, retag_both h.low ho.size hR hk h.t1 (by decide)⟩,
    ⟨ho.mono fun r hr' e => ?_, fun r hr' => by rw [retag_old hr']⟩⟩
  · rw [e1]; exact row_same h.r3 (s h.t3 (by decide))
  · rw [e2]; exact row_same h.r6 (s h.t6 (by decide))
  · obtain ⟨a, c⟩ := h.rf i it v (by rw [← e1]; exact h1) h2
    exact ⟨row_same a (s c (by decide)), retag_other c (lo c (by decide))⟩
  · rcases e with e | e
    · rw [e, h.tp]; decide
    · rw [h.t1 r e.symm]; decide

def startP (p : PS) (x : Ln) : PS := { p with begin_ := x.no, said := [x.text] }
set_option maxRecDepth 100000 in
set_option maxHeartbeats 2000000 in
theorem start_any {w : World} {T : Nat → Nat} {R b : Nat} {text : ByteArray} {p : PS} {V : PV} (h : ParserV w T R b text p V) (hR : R ≤ w.heap.size) (x : Ln) :
    Calls Tryz.prog 25 #[.pointer (some ⟨b, 0, none⟩), .agg #[.int .i64 x.no, .int .i64 x.at_, .string (B x.text), .bool x.ended]] w fun e w' => e = .returned (.tuple #[]) ∧ ∃ T', ParserAt w' T' R b text (startP p x) ∧ PStep w T w' T' := by
  have hl := h.lt
  have hcell := h.cells
  have k0 : w.cell? ⟨b, 0, none⟩ = some (.int .i64 p.begin_) := hcell.cell 0
  have k1 : w.cell? ⟨b, 1, none⟩ = some V.v1 := hcell.cell 1
  have kf0 := hcell.frozen 0
  have kf1 := hcell.frozen 1
  have HF := Lib.hid (fun w' v1' hc hr hk ho => ParserV.said (p' := startP p x) h hR (w' := w') v1' hc hr hk ho rfl rfl)
  have HC := Lib.hid hcell
  clear h hcell
  go_enter Tryz.func25, Tryz.ntmps25
  go_wp2
  go_region
  all_goals
    go_wp2
    go_end0
    refine ⟨rfl, ?_⟩
    refine Exists.elim (HF.out _ (.slice (some ⟨w.heap.size + 1, 0, none⟩) 1 1) ?c ?r ?k ?o) fun T' g => ⟨T', ⟨_, g.1⟩, g.2⟩
    case c =>
      have hc := ((((HC.out.set 0 (.int .i64 x.no)).set 1 (.slice (some ⟨w.heap.size + 1, 0, none⟩) 1 1)).alloc (.cells #[.int .i64 x.no, .int .i64 x.at_, .string (B x.text), .bool x.ended] 47)).alloc (.cells #[.string (B x.text)] 9)).drew
      simpa [pCells, startP] using hc
    case r =>
      have hz : (((w.setCell ⟨b, 0, none⟩ (.int .i64 x.no)).setCell ⟨b, 1, none⟩ (.slice (some ⟨w.heap.size + 1, 0, none⟩) 1 1)).alloc (.cells #[.int .i64 x.no, .int .i64 x.at_, .string (B x.text), .bool x.ended] 47)).heap.size = w.heap.size + 1 := by simp [World.setCell]
      have := World.ownsRow_lit (base := 0) (((w.setCell ⟨b, 0, none⟩ (.int .i64 x.no)).setCell ⟨b, 1, none⟩ (.slice (some ⟨w.heap.size + 1, 0, none⟩) 1 1)).alloc (.cells #[.int .i64 x.no, .int .i64 x.at_, .string (B x.text), .bool x.ended] 47)) (e := 9) (size := 1) #[.string (B x.text)] 1 (Nat.zero_le _) (by decide) rfl
      rw [hz] at this
      exact row_same this fun _ _ => rfl
    case k => exact .inr ⟨w.heap.size + 1, rfl, by omega, by simp [World.setCell, World.drew]⟩
    case o => exact ((((Only.refl _ w).setCell (p := ⟨b, 0, none⟩) (.inl (.inl rfl)) _).setCell (p := ⟨b, 1, none⟩) (.inl (.inl rfl)) _).alloc _).alloc _ |>.drew
theorem rowBlock_ne {w : World} {T : Nat → Nat} {b : Nat} {v : Value} {t : Nat} (hb : T b = 1) (ht : tagged T v.ownBlock t) (h : t ≠ 1) : v.ownBlock ≠ some b := fun e => h (by rw [← ht b e, hb])

def goOnP (p : PS) (x : Ln) : PS := { p with said := p.said ++ [x.text] }
set_option maxRecDepth 100000 in
set_option maxHeartbeats 2000000 in
theorem goOn_any {w : World} {T : Nat → Nat} {R b : Nat} {text : ByteArray} {p : PS} {V : PV} (h : ParserV w T R b text p V) (hR : R ≤ w.heap.size) (x : Ln) (hn : p.said.length ≤ 1000000) :
    Calls Tryz.prog 24 #[.pointer (some ⟨b, 0, none⟩), .agg #[.int .i64 x.no, .int .i64 x.at_, .string (B x.text), .bool x.ended]] w fun e w' => e = .returned (.tuple #[]) ∧ ∃ T', ParserAt w' T' R b text (goOnP p x) ∧ PStep w T w' T' := by
  obtain ⟨i0, hi, hz0, hz1, hz2⟩ := info_parts infoStr0
  have hl := h.lt
  have k1 : w.cell? ⟨b, 1, none⟩ = some V.v1 := h.cells.cell 1
  have HF := Lib.hid (fun w' v1' hc hr hk ho => ParserV.said (p' := goOnP p x) h hR (w' := w') v1' hc hr hk ho rfl rfl)
  have HC := Lib.hid h.cells
  have HO := Lib.hid h.r1
  have HE := Lib.hid (rowBlock_ne (w := w) h.tp h.t1 (by decide))
  clear h
  go_enter Tryz.func24, Tryz.ntmps24
  go_wp2
  go_region_law ((refine step_append_own rfl (.tmp 8) (.tmp 11) 38 rfl 9 i0 _ 1 16 Tryz.underlying38 hi hz0 hz1 hz2 rfl (by decide) V.v1 p.said.length (saidCells p.said) (by simp [Act.eval]) (by exact ((HO.out.alloc _).alloc _).drew) ⟨w.heap.size + 1, 0, none⟩ 1 1 [.string (B x.text)] (by simp [Act.eval]) rfl (by have := cells_new_add (w.alloc (.cells #[.int .i64 x.no, .int .i64 x.at_, .string (B x.text), .bool x.ended] 47)) 9 [.string (B x.text)]; rw [World.size_alloc] at this; exact this) (by intro u hu; simp at hu; subst hu; rfl) (by unfold maxLen; omega) (by omega) ?_); intro v' w' ho hgr hbk; obtain ⟨⟨g', cap', rfl⟩, hg', hbx, hk, hon⟩ := appended HC.out HO.out HE.out ((((Below.refl _ w).alloc (Nat.le_refl _) _).alloc (by simp) _).drew) ho hgr hbk; have k1' : w'.cell? ⟨b, 1, none⟩ = some V.v1 := hg'.cell 1; have kf1' := hg'.frozen 1)
  all_goals
    go_wp2
    go_end0
    have hvg : (Value.slice (some ⟨g', 0, none⟩) (p.said.length + 1) cap').ownBlock ≠ some b := by
      intro e
      rcases hk with h | ⟨k, h, h2, _⟩
      · exact HE.out (h.symm.trans e)
      · rw [h] at e; cases e; omega
    refine ⟨rfl, Exists.elim (HF.out _ (.slice (some ⟨g', 0, none⟩) (p.said.length + 1) cap') ?k1 ?k2 ?k3 ?k4) fun T' g => ⟨T', ⟨_, g.1⟩, g.2⟩⟩
    case k1 =>
      have hc := hg'.set 1 (.slice (some ⟨g', 0, none⟩) (p.said.length + 1) cap')
      simpa [pCells, goOnP] using hc
    case k2 =>
      have hr := row_cell (p := ⟨b, 1, none⟩) ho hvg (.slice (some ⟨g', 0, none⟩) (p.said.length + 1) cap')
      have e1 : (goOnP p x).said.length = p.said.length + 1 := by simp [goOnP]
      have e2 : saidCells (goOnP p x).said = saidCells p.said ++ [.string (B x.text)] := saidCells_snoc _ _
      rw [e1, e2]
      exact hr
    case k3 => unfold sameOr; simpa [World.setCell] using hk
    case k4 => exact (hon.mono (fun r _ h => .inr h)).setCell (p := ⟨b, 1, none⟩) (.inl (.inl rfl)) _
end Go.Proofs.YthblpjjocokphaaGreatDoor
/- An item is put behind the others: endItem. -/
namespace Go.Proofs.YthblpjjocokphaaGreatDoor
open Go.RowKit

theorem infoItem : (Tryz.prog.info? 32).map (fun i => (i.zero, i.size, i.bytes)) = some (some (.agg #[.int .i64 0, .string ⟨#[]⟩, .slice none 0 0]), 3, 48) := by kernel_rfl
theorem cut_text (text : ByteArray) (a e : Nat) : text.extract a e = B ((text.data.toList.take e).drop a) := by
  have h := Lib.extract_data text a e
  have h2 : (text.data.toList.take e).drop a = (text.data.toList.drop a).take (e - a) := by rw [List.drop_take]
  rw [h2, ← h, B_of]
/-- Blocks of one tag become blocks of another one. -/
def moved (T : Nat → Nat) (a c : Nat) : Nat → Nat := fun k => if T k = a then c else T k
theorem moved_other {T : Nat → Nat} {a c : Nat} {o : Option Nat} {t : Nat} (h : tagged T o t) (ht : t ≠ a) : tagged (moved T a c) o t := by
  intro k hk; unfold moved; rw [if_neg (by rw [h k hk]; exact ht)]; exact h k hk
theorem moved_it {T : Nat → Nat} {a c : Nat} {o : Option Nat} (h : tagged T o a) : tagged (moved T a c) o c := by
  intro k hk; unfold moved; rw [if_pos (h k hk)]
theorem moved_zero {T : Nat → Nat} {a c : Nat} (ha : a ≠ 0) (hc : c ≠ 0) (k : Nat) : moved T a c k = 0 ↔ T k = 0 := by
  unfold moved
  split
  · rename_i h; rw [h]; exact ⟨fun e => absurd e hc, fun e => absurd e ha⟩
  · exact Iff.rfl
theorem ParserV.item {w w' : World} {T : Nat → Nat} {R b : Nat} {text : ByteArray} {p p' : PS} {V : PV} (h : ParserV w T R b text p V) (hR : R ≤ w.heap.size) (v3' : Value) (it : It)
    (hc : Cells w' b 42 (pCells p' text V.v1 v3' (.slice none 0 0))) (hr : w'.ownsRow 0 32 3 v3' (p.items.length + 1) (itemsCells p.items V.fvs ++ itemCells it V.v6)) (hk : sameOr w.heap.size w'.heap.size V.v3.ownBlock v3'.ownBlock)
    (ho : Only (fun r => r = b ∨ some r = V.v3.ownBlock) w w') (e1 : p'.items = p.items ++ [it]) (e2 : p'.fields = []) (e3 : p'.said = p.said) (e4 : it.fields = p.fields) :
    ∃ T', ParserV w' T' R b text p' { V with v3 := v3', v6 := .slice none 0 0, fvs := V.fvs ++ [V.v6] } ∧ PStep w T w' T' := by
  have hs : ∀ k, T k ≠ 0 → T k ≠ 1 → T k ≠ 3 → w'.heap[k]? = w.heap[k]? := fun k h0 h1 h2 => ho.same k (h.low k h0).2 (by
    rintro (e | e)
    · exact h1 (by rw [e]; exact h.tp)
    · exact h2 (h.t3 k e.symm))
  have s : ∀ {o : Option Nat} {t : Nat}, tagged T o t → t ≠ 0 → t ≠ 1 → t ≠ 3 → ∀ k, o = some k → w'.heap[k]? = w.heap[k]? := fun ht h0 h1 h3 k hk => hs k (by rw [ht k hk]; exact h0) (by rw [ht k hk]; exact h1) (by rw [ht k hk]; exact h3)
  have lo : ∀ {o : Option Nat} {t : Nat}, tagged T o t → t ≠ 0 → ∀ k, o = some k → k < w.heap.size := fun ht hne k hk => (h.low k (by rw [ht k hk]; exact hne)).2
  have lowM : ∀ k, moved T 4 5 k ≠ 0 → R ≤ k ∧ k < w.heap.size := fun k hk => h.low k (fun e => hk ((moved_zero (by decide) (by decide) k).2 e))
  refine ⟨retag (moved T 4 5) w.heap.size v3'.ownBlock 3, ⟨hc, ?_, ?_, ?_, ?_, ?_, ?_, ?_, ?_, ?_, ?_⟩, ⟨ho.mono fun r hr' e => ?_, fun r hr' => by rw [retag_old hr']; exact moved_zero (by decide) (by decide) r⟩⟩
  · rw [retag_old h.lt]; unfold moved; rw [h.tp]; rfl
  · rw [e3]; exact row_same h.r1 (s h.t1 (by decide) (by decide) (by decide))
  · exact retag_other (moved_other h.t1 (by decide)) (lo h.t1 (by decide))
  · rw [e1, List.length_append, itemsCells_snoc _ _ _ _ h.nf]; exact hr
  · exact retag_same hk (moved_other h.t3 (by decide))
  · rw [e2]; exact ⟨by simp [cellsF], .inl ⟨rfl, rfl⟩⟩
  · exact fun k hk => by cases hk
  · rw [e1, List.length_append, List.length_append, h.nf]; rfl
  · intro i it' v h1 h2
    rw [e1] at h1
    dsimp only at h2
    rcases Nat.lt_or_ge i p.items.length with q | q
    · rw [List.getElem?_append_left q] at h1
      rw [List.getElem?_append_left (by rw [h.nf]; exact q)] at h2
      obtain ⟨a, c⟩ := h.rf i it' v h1 h2
      exact ⟨row_same a (s c (by decide) (by decide) (by decide)), retag_other (moved_other c (by decide)) (lo c (by decide))⟩
    · rw [List.getElem?_append_right q] at h1
      rw [List.getElem?_append_right (by rw [h.nf]; exact q), h.nf] at h2
      have hz : i - p.items.length = 0 := by
        rcases Nat.eq_zero_or_pos (i - p.items.length) with z | z
        · exact z
        · rw [List.getElem?_eq_none (by simp; omega)] at h1; cases h1
      rw [hz] at h1 h2
      cases h1; cases h2
      rw [e4]
      exact ⟨row_same h.r6 (s h.t6 (by decide) (by decide) (by decide)), retag_other (moved_it h.t6) (lo h.t6 (by decide))⟩
  · exact retag_both lowM ho.size hR hk (moved_other h.t3 (by decide)) (by decide)
  · rcases e with e | e
    · rw [e, h.tp]; decide
    · rw [h.t3 r e.symm]; decide

set_option maxRecDepth 100000 in
set_option maxHeartbeats 4000000 in
theorem endItem_any {w : World} {T : Nat → Nat} {R b : Nat} {text : ByteArray} {p : PS} {V : PV} (h : ParserV w T R b text p V) (hR : R ≤ w.heap.size) (kind e : Nat) (h1 : p.at_ ≤ e) (h2 : e ≤ text.size) (h3 : text.size ≤ 1000000) (hn : p.items.length ≤ 1000000) :
    Calls Tryz.prog 26 #[.pointer (some ⟨b, 0, none⟩), .int .i64 kind, .int .i64 e] w fun e' w' => e' = .returned (.tuple #[]) ∧ ∃ T', ParserAt w' T' R b text (endItemP text.data.toList p kind e) ∧ PStep w T w' T' := by
  obtain ⟨i0, hi, hz0, hz1, hz2⟩ := info_parts infoItem
  obtain ⟨a6, c6, e6, _⟩ := own_slice h.r6
  have hl := h.lt
  have HF := Lib.hid (fun w' v3' hc hr hk ho => ParserV.item (p' := endItemP text.data.toList p kind e) h hR (w' := w') v3' ⟨kind, (text.data.toList.take e).drop p.at_, p.fields⟩ hc hr hk ho rfl rfl rfl rfl)
  have HC := Lib.hid h.cells
  have HO := Lib.hid h.r3
  have HE := Lib.hid (rowBlock_ne (w := w) h.tp h.t3 (by decide))
  have HT := Lib.hid (cut_text text p.at_ e)
  have q3 : w.cell? ⟨b, 3, none⟩ = some V.v3 := h.cells.cell 3
  have q2 : w.cell? ⟨b, 2, none⟩ = some (.string text) := h.cells.cell 2
  have q5 : w.cell? ⟨b, 5, none⟩ = some (.int .i64 p.at_) := h.cells.cell 5
  have q6 : w.cell? ⟨b, 6, none⟩ = some (.slice a6 p.fields.length c6) := by rw [← e6]; exact h.cells.cell 6
  clear h
  go_enter Tryz.func26, Tryz.ntmps26
  go_wp2
  go_cut [] (fun wx => ∃ g' cap', Cells wx b 42 (pCells p text V.v1 (.slice (some ⟨g', 0, none⟩) (p.items.length + 1) cap') V.v6) ∧
    wx.ownsRow 0 32 3 (.slice (some ⟨g', 0, none⟩) (p.items.length + 1) cap') (p.items.length + 1) (itemsCells p.items V.fvs ++ [.int .i64 kind, .string (text.extract p.at_ e), .slice a6 p.fields.length c6]) ∧
    sameOr w.heap.size wx.heap.size V.v3.ownBlock (Value.slice (some ⟨g', 0, none⟩) (p.items.length + 1) cap').ownBlock ∧ g' ≠ b ∧ Only (fun r => r = b ∨ some r = V.v3.ownBlock) w wx)
  case first =>
    go_region_law ((refine step_append_own rfl (.tmp 10) (.tmp 27) 27 rfl 32 i0 _ 3 48 Tryz.underlying27 hi hz0 hz1 hz2 rfl (by decide) V.v3 p.items.length (itemsCells p.items V.fvs) (by simp [Act.eval]) (by exact (HO.out.alloc _).drew) ⟨w.heap.size, 0, none⟩ 1 1 [.int .i64 kind, .string (text.extract p.at_ e), .slice a6 p.fields.length c6] (by simp [Act.eval]) rfl (cells_new_add w 32 [.int .i64 kind, .string (text.extract p.at_ e), .slice a6 p.fields.length c6]) (by intro u hu; simp at hu; rcases hu with rfl | rfl | rfl <;> rfl) (by unfold maxLen; omega) (by omega) ?_); intro v' w' ho hgr hbk; obtain ⟨⟨g', cap', rfl⟩, hg', hbx, hk, hon⟩ := appended HC.out HO.out HE.out (((Below.refl _ w).alloc (Nat.le_refl _) _).drew) ho hgr hbk; have k3' : w'.cell? ⟨b, 3, none⟩ = some V.v3 := hg'.cell 3; have kf3' := hg'.frozen 3)
    all_goals
      go_wp2
      go_meet
      have hvg : g' ≠ b := by
        intro e
        rcases hk with h | ⟨k, h, h2, _⟩
        · exact HE.out (h.symm.trans (by rw [e]; rfl))
        · have hh : g' = k := Option.some.inj (show some g' = some k from h)
          omega
      refine ⟨g', cap', ?_, row_cell (p := ⟨b, 3, none⟩) ho (fun e => hvg (by cases e; rfl)) _, ?_, hvg, (hon.mono (fun r _ h => .inr h)).setCell (p := ⟨b, 3, none⟩) (.inl (.inl rfl)) _⟩
      · simpa [pCells] using hg'.set 3 (.slice (some ⟨g', 0, none⟩) (p.items.length + 1) cap')
      · unfold sameOr; simpa [World.setCell] using hk
  case rest =>
    obtain ⟨g', cap', hc, hr, hk, hvg, ho⟩ := hcut
    have k5 : wc.cell? ⟨b, 5, none⟩ = some (.int .i64 p.at_) := hc.cell 5
    have kf5 := hc.frozen 5
    have k6 : wc.cell? ⟨b, 6, none⟩ = some (.slice a6 p.fields.length c6) := by rw [← e6]; exact hc.cell 6
    have kf6 := hc.frozen 6
    go_wp2
    go_end0
    refine ⟨rfl, Exists.elim (HF.out _ (.slice (some ⟨g', 0, none⟩) (p.items.length + 1) cap') ?k1 ?k2 ?k3 ?k4) fun T' g => ⟨T', ⟨_, g.1⟩, g.2⟩⟩
    case k1 =>
      have := (hc.set 5 (.int .i64 e)).set 6 (.slice none 0 0)
      simpa [pCells, endItemP] using this
    case k2 =>
      have e9 : itemCells ⟨kind, (text.data.toList.take e).drop p.at_, p.fields⟩ V.v6 = [.int .i64 kind, .string (text.extract p.at_ e), .slice a6 p.fields.length c6] := by
        unfold itemCells; rw [HT.out, e6]
      rw [e9]
      exact row_cell (p := ⟨b, 6, none⟩) (row_cell (p := ⟨b, 5, none⟩) hr (fun e => hvg (by cases e; rfl)) _) (fun e => hvg (by cases e; rfl)) _
    case k3 => unfold sameOr at hk ⊢; simpa [World.setCell] using hk
    case k4 => exact (ho.setCell (p := ⟨b, 5, none⟩) (.inl (.inl rfl)) _).setCell (p := ⟨b, 6, none⟩) (.inl (.inl rfl)) _
end Go.Proofs.YthblpjjocokphaaGreatDoor
/- A block is ended: endBlock. -/
namespace Go.Proofs.YthblpjjocokphaaGreatDoor
open Go.RowKit

theorem endItem_fit {p : PS} {kind e : Nat} {tx : List UInt8} (h : p.items.length ≤ p.at_) (h1 : p.at_ < e) : (endItemP tx p kind e).items.length ≤ (endItemP tx p kind e).at_ := by simp [endItemP]; omega
set_option maxRecDepth 100000 in
set_option maxHeartbeats 4000000 in
theorem endBlock_any {w : World} {T : Nat → Nat} {R b : Nat} {text : ByteArray} {p : PS} (h : ParserAt w T R b text p) (hR : R ≤ w.heap.size) (e : Nat) (h1 : p.at_ ≤ e) (h2 : e ≤ text.size) (h3 : text.size ≤ 1000000) (hn : p.items.length ≤ 1000000) (hs : p.stanzas ≤ 1000000) :
    Calls Tryz.prog 13 #[.pointer (some ⟨b, 0, none⟩), .int .i64 e] w fun e' w' => e' = .returned (.tuple #[]) ∧ ∃ T', ParserAt w' T' R b text (endBlockP text.data.toList p e) ∧ PStep w T w' T' := by
  obtain ⟨V, h⟩ := h
  obtain ⟨a6, c6, e6, _⟩ := own_slice h.r6
  have hl := h.lt
  have q5 : w.cell? ⟨b, 5, none⟩ = some (.int .i64 p.at_) := h.cells.cell 5
  have q6 : w.cell? ⟨b, 6, none⟩ = some (.slice a6 p.fields.length c6) := by rw [← e6]; exact h.cells.cell 6
  unfold endBlockP
  by_cases he : p.at_ = e
  · rw [if_pos he]
    have g : ParserAt w T R b text p := ⟨V, h⟩
    have x1 : ((p.at_ : Int) == (e : Int)) = true := by rw [he]; simp
    clear h
    go_enter Tryz.func13, Tryz.ntmps13
    go_wp2
    refine bodyPost_ret (results_none rfl _ _ _) rfl ?_
    exact ⟨rfl, T, g, PStep.refl _ _⟩
  · rw [if_neg he]
    have x1 : ((p.at_ : Int) == (e : Int)) = false := beq_eq_false_iff_ne.2 (by omega)
    by_cases hf : p.fields.length = 0
    · rw [if_pos hf]
      have x2 : ((p.fields.length : Int) == 0) = true := by rw [hf]; rfl
      have EI := Lib.hid (endItem_any h hR 2 e h1 h2 h3 hn)
      clear h
      go_enter Tryz.func13, Tryz.ntmps13
      go_wp2_with fail
      refine EI.out.mono ?_
      rintro e' w1 ⟨rfl, T1, g1, s1⟩
      go_wp2
      go_end0
      exact ⟨rfl, T1, g1, s1⟩
    · rw [if_neg hf]
      have x2 : ((p.fields.length : Int) == 0) = false := beq_eq_false_iff_ne.2 (by omega)
      have EI := Lib.hid (endItem_any h hR 3 e h1 h2 h3 hn)
      clear h
      go_enter Tryz.func13, Tryz.ntmps13
      go_wp2_with fail
      refine EI.out.mono ?_
      rintro e' w1 ⟨rfl, T1, ⟨V1, g1⟩, s1⟩
      have hl1 := g1.lt
      have k4 : w1.cell? ⟨b, 4, none⟩ = some (.int .i64 p.stanzas) := g1.cells.cell 4
      have kf4 := g1.cells.frozen 4
      have n1 : IntKind.i64.wrap ((p.stanzas : Int) + 1) = (p.stanzas : Int) + 1 := IntWalk.i64_in _ (by omega)
      go_wp2
      go_end0
      refine ⟨rfl, T1, ⟨V1, ?_⟩, s1.trans ⟨((Only.refl _ _).setCell (p := ⟨b, 4, none⟩) (.inl (by rw [g1.tp]; decide)) _), fun _ _ => Iff.rfl⟩⟩
      have hc : Cells (w1.setCell ⟨b, 4, none⟩ (.int .i64 ((p.stanzas : Int) + 1))) b 42 (pCells { endItemP text.data.toList p 3 e with stanzas := p.stanzas + 1 } text V1.v1 V1.v3 V1.v6) := by
        have := g1.cells.set 4 (.int .i64 ((p.stanzas : Int) + 1))
        simpa [pCells] using this
      have ne : ∀ {o : Option Nat} {t : Nat}, tagged T1 o t → t ≠ 1 → o ≠ some b := fun ht h1 e => h1 (by rw [← ht b e, g1.tp])
      exact ⟨hc, g1.tp, row_cell g1.r1 (ne g1.t1 (by decide)) _, g1.t1, row_cell g1.r3 (ne g1.t3 (by decide)) _, g1.t3, row_cell g1.r6 (ne g1.t6 (by decide)) _, g1.t6, g1.nf,
        fun i it v a c => ⟨row_cell (g1.rf i it v a c).1 (ne (g1.rf i it v a c).2 (by decide)) _, (g1.rf i it v a c).2⟩, fun k hk => by simpa [World.setCell] using g1.low k hk⟩
end Go.Proofs.YthblpjjocokphaaGreatDoor
/- strings.Cut at one byte; end; beginsBlank. -/
namespace Go.Proofs.YthblpjjocokphaaGreatDoor
open Go.RowKit

theorem indexByte_cases (l : List UInt8) (c : UInt8) : (Lib.indexByte l c = -1 ∧ c ∉ l) ∨ (Lib.indexByte l c = ((l.takeWhile (· != c)).length : Int) ∧ c ∈ l) := by
  induction l with
  | nil => left; exact ⟨rfl, by simp⟩
  | cons a t ih =>
    unfold Lib.indexByte
    by_cases h : a = c
    · subst h; right; simp
    · have hb : (a == c) = false := by simp [h]
      rcases ih with ⟨h1, h2⟩ | ⟨h1, h2⟩
      · left; rw [h1]; simp [h, h2, Ne.symm h]
      · right; rw [h1]; simp [h, h2]

set_option maxHeartbeats 400000 in
/-- internal/stringslite.Cut at one byte. -/
theorem cut0_no (s : ByteArray) (c : UInt8) (w : World) (h : c ∉ s.data.toList) :
    Calls Tryz.prog 29 #[.string s, .string ⟨#[c]⟩] w fun e w' => e = .returned (.tuple #[.string s, .string ⟨#[]⟩, .bool false]) ∧ ∃ n, w' = w.drewN n := by
  have e0 : Lib.indexByte s.data.toList c = -1 := by
    rcases indexByte_cases s.data.toList c with ⟨a, _⟩ | ⟨_, a⟩
    · exact a
    · exact absurd a h
  go_enter Tryz.func29, Tryz.ntmps29
  go_wp2_with (go_at_call 44; refine (Tryz.stringslite_Index_one s c _).mono ?_; rw [e0]; rintro e w' ⟨rfl, rfl⟩)
  go_ret3
  exact ⟨rfl, 0, rfl⟩
set_option maxHeartbeats 400000 in
theorem cut0_yes (s : ByteArray) (c : UInt8) (w : World) (hs : s.size ≤ maxLen) (h : c ∈ s.data.toList) :
    Calls Tryz.prog 29 #[.string s, .string ⟨#[c]⟩] w fun e w' => e = .returned (.tuple #[.string (s.extract 0 (s.data.toList.takeWhile (· != c)).length), .string (s.extract ((s.data.toList.takeWhile (· != c)).length + 1) s.size), .bool true]) ∧ ∃ n, w' = w.drewN n := by
  have e0 : Lib.indexByte s.data.toList c = ((s.data.toList.takeWhile (· != c)).length : Int) := by
    rcases indexByte_cases s.data.toList c with ⟨_, a⟩ | ⟨a, _⟩
    · exact absurd h a
    · exact a
  have hlt : (s.data.toList.takeWhile (· != c)).length < s.size := by
    rw [Lib.size_eq]
    rcases Nat.lt_or_ge (s.data.toList.takeWhile (· != c)).length s.data.toList.length with h1 | h1
    · exact h1
    · exfalso
      have h2 : s.data.toList.takeWhile (· != c) = s.data.toList := List.IsPrefix.eq_of_length_le (List.takeWhile_prefix _) h1
      have h3 := List.all_eq_true.1 (List.all_takeWhile (p := fun (x : UInt8) => x != c) (l := s.data.toList)) c (by rw [h2]; exact h)
      simp at h3
  unfold maxLen at hs
  generalize (s.data.toList.takeWhile (· != c)).length = i at *
  have h1 : IntKind.i64.wrap ((i : Int) + 1) = (i : Int) + 1 := IntWalk.i64_in _ (by omega)
  go_enter Tryz.func29, Tryz.ntmps29
  go_wp2_with (go_at_call 44; refine (Tryz.stringslite_Index_one s c _).mono ?_; rw [e0]; rintro e w' ⟨rfl, rfl⟩)
  go_quiet (fail)
  go_wp2
  go_ret3
  exact ⟨rfl, _, rfl⟩
set_option maxHeartbeats 400000 in
/-- strings.Cut at one byte: there is none. -/
theorem cut_no (s : ByteArray) (c : UInt8) (w : World) (h : c ∉ s.data.toList) :
    Calls Tryz.prog 15 #[.string s, .string ⟨#[c]⟩] w fun e w' => e = .returned (.tuple #[.string s, .string ⟨#[]⟩, .bool false]) ∧ ∃ n, w' = w.drewN n := by
  go_enter Tryz.func15, Tryz.ntmps15
  go_wp2_with (go_at_call 29; refine (cut0_no s c _ h).mono ?_; rintro e w' ⟨rfl, n, rfl⟩)
  go_ret3
  exact ⟨rfl, _, rfl⟩
set_option maxHeartbeats 400000 in
/-- .. there is one. -/
theorem cut_yes (s : ByteArray) (c : UInt8) (w : World) (hs : s.size ≤ maxLen) (h : c ∈ s.data.toList) :
    Calls Tryz.prog 15 #[.string s, .string ⟨#[c]⟩] w fun e w' => e = .returned (.tuple #[.string (s.extract 0 (s.data.toList.takeWhile (· != c)).length), .string (s.extract ((s.data.toList.takeWhile (· != c)).length + 1) s.size), .bool true]) ∧ ∃ n, w' = w.drewN n := by
  go_enter Tryz.func15, Tryz.ntmps15
  go_wp2_with (go_at_call 29; refine (cut0_yes s c _ hs h).mono ?_; rintro e w' ⟨rfl, n, rfl⟩)
  go_ret3
  exact ⟨rfl, _, rfl⟩
/-- A line as a value. -/
def lineV (x : Ln) : Array Value := #[.int .i64 x.no, .int .i64 x.at_, .string ⟨x.text.toArray⟩, .bool x.ended]
def endS (b : Bool) : ByteArray := if b then ⟨#[10]⟩ else ⟨#[]⟩
set_option maxHeartbeats 400000 in
theorem end_any (a b : Int) (t : ByteArray) (x : Bool) (w : World) :
    Calls Tryz.prog 36 #[.agg #[.int .i64 a, .int .i64 b, .string t, .bool x]] w fun e w' => e = .returned (.string (endS x)) ∧ w' = w.alloc (.cells #[.int .i64 a, .int .i64 b, .string t, .bool x] 47) := by
  cases x
  all_goals
    go_enter Tryz.func36, Tryz.ntmps36
    go_wp2
    go_ret
    exact ⟨rfl, rfl⟩

end Go.Proofs.YthblpjjocokphaaGreatDoor
/- A range over an iterator that keeps state in boxes of its own: the iterator's contract and the law of the statement. The iterator's k boxes lie at the heap's end where its call begins; a round keeps them, the caller's invariant abides their turns. -/
namespace Go.Proofs.YthblpjjocokphaaGreatDoor
open Go.RowKit

/-- The blocks from B on, k of them, lie as they lay. -/
structure Stay (B k : Nat) (W W' : World) : Prop where
  size : W.heap.size ≤ W'.heap.size
  same : ∀ r, B ≤ r → r < B + k → W'.heap[r]? = W.heap[r]?

theorem Stay.refl (B k : Nat) (W : World) : Stay B k W W := ⟨Nat.le_refl _, fun _ _ _ => rfl⟩
theorem Stay.trans {B k : Nat} {X Y Z : World} (h : Stay B k X Y) (g : Stay B k Y Z) : Stay B k X Z :=
  ⟨Nat.le_trans h.size g.size, fun r a b => (g.same r a b).trans (h.same r a b)⟩
theorem Stay.alloc {B k : Nat} {X Y : World} (h : Stay B k X Y) (hs : B + k ≤ Y.heap.size) (o : Obj) : Stay B k X (Y.alloc o) :=
  h.trans ⟨by simp, fun r _ b => Below.heap_alloc _ _ _ (by omega)⟩
theorem Stay.setCell {B k : Nat} {X Y : World} (h : Stay B k X Y) {p : Addr} (hp : p.block < B ∨ B + k ≤ p.block) (u : Value) : Stay B k X (Y.setCell p u) :=
  h.trans ⟨by simp [World.setCell], fun r a b => Below.heap_setCell _ _ _ _ (by omega)⟩
theorem Stay.drew {B k : Nat} {X Y : World} (h : Stay B k X Y) : Stay B k X Y.drew := ⟨h.size, h.same⟩
theorem Stay.sub {B k B' k' : Nat} {X Y : World} (h : Stay B k X Y) (a : B ≤ B') (b : B' + k' ≤ B + k) : Stay B' k' X Y :=
  ⟨h.size, fun r c d => h.same r (by omega) (by omega)⟩
theorem Stay.grown {B k : Nat} {X Y Z : World} (h : Stay B k X Y) {row : Option Nat} (hg : Y.grownBy Z row) (hs : B + k ≤ Y.heap.size) (hr : ∀ r, row = some r → r < B ∨ B + k ≤ r) : Stay B k X Z :=
  h.trans ⟨hg.size, fun r a b => hg.block r (by omega) (fun e => by have := hr r e.symm; omega)⟩
theorem Stay.below {B k n : Nat} {X Y Z : World} (h : Stay B k X Y) (hb : Below n Y Z) (hn : B + k ≤ n) : Stay B k X Z :=
  h.trans ⟨hb.size, fun r _ b => hb.block r (by omega)⟩

/-- Whatever lay lies as it lay, but for the blocks from B on, k of them. -/
structure Turned (B k : Nat) (W W' : World) : Prop where
  os : W'.os = W.os
  tape : W'.tape = W.tape
  output : W'.output = W.output
  size : W.heap.size ≤ W'.heap.size
  same : ∀ r, r < W.heap.size → r < B ∨ B + k ≤ r → W'.heap[r]? = W.heap[r]?

theorem Turned.refl (B k : Nat) (W : World) : Turned B k W W := ⟨rfl, rfl, rfl, Nat.le_refl _, fun _ _ _ => rfl⟩
theorem Turned.trans {B k : Nat} {X Y Z : World} (h : Turned B k X Y) (g : Turned B k Y Z) : Turned B k X Z :=
  ⟨g.os.trans h.os, g.tape.trans h.tape, g.output.trans h.output, Nat.le_trans h.size g.size, fun r a b => (g.same r (Nat.lt_of_lt_of_le a h.size) b).trans (h.same r a b)⟩
theorem Turned.grown {B k : Nat} {X Y Z : World} (h : Turned B k X Y) {row : Option Nat} (hg : Y.grownBy Z row) (hr : ∀ r, row = some r → B ≤ r ∧ r < B + k) : Turned B k X Z :=
  h.trans ⟨hg.os, hg.tape, hg.output, hg.size, fun r a b => hg.block r a (fun e => by have := hr r e.symm; omega)⟩
theorem Turned.alloc {B k : Nat} {X Y : World} (h : Turned B k X Y) (o : Obj) : Turned B k X (Y.alloc o) :=
  h.grown (World.grownBy_alloc Y o none) (fun r e => by cases e)
theorem Turned.putObj {B k : Nat} {X Y : World} (h : Turned B k X Y) {l : Nat} (o : Obj) (a : B ≤ l) (b : l < B + k) : Turned B k X (Y.putObj l o) :=
  h.grown (grownBy_putObj' Y l o) (fun r e => by cases e; exact ⟨a, b⟩)
theorem Turned.setCell {B k : Nat} {X Y : World} (h : Turned B k X Y) {p : Addr} (a : B ≤ p.block) (b : p.block < B + k) (u : Value) : Turned B k X (Y.setCell p u) :=
  h.trans ⟨rfl, rfl, rfl, by simp [World.setCell], fun r _ c => Below.heap_setCell _ _ _ _ (by omega)⟩
theorem Turned.drew {B k : Nat} {X Y : World} (h : Turned B k X Y) : Turned B k X Y.drew := ⟨h.os, h.tape, h.output, h.size, h.same⟩
theorem Turned.sub {B k B' k' : Nat} {X Y : World} (h : Turned B' k' X Y) (a : B ≤ B') (b : B' + k' ≤ B + k) : Turned B k X Y :=
  ⟨h.os, h.tape, h.output, h.size, fun r c d => h.same r c (by omega)⟩
theorem Turned.of_below {B k n : Nat} {X Y : World} (h : Below n X Y) (hn : X.heap.size ≤ n) : Turned B k X Y :=
  ⟨h.os, h.tape, h.output, h.size, fun r a _ => h.block r (by omega)⟩
theorem Turned.below {B k n : Nat} {X Y : World} (h : Turned B k X Y) (hn : n ≤ B) (hs : n ≤ X.heap.size) : Below n X Y :=
  ⟨h.os, h.tape, h.output, h.size, fun r a => h.same r (by omega) (by omega)⟩
theorem Turned.box {B k b : Nat} {X Y : World} {t : TypeId} {v : Value} (h : Turned B k X Y) (hv : Boxed X b t v) (hb : b < B ∨ B + k ≤ b) : Boxed Y b t v :=
  (h.same b (Array.getElem?_eq_some_iff.1 (show X.heap[b]? = _ from hv)).1 hb).trans hv
theorem Turned.row {B k : Nat} {X Y : World} {base : Nat} {e : TypeId} {size : Nat} {v : Value} {n : Nat} {xs : List Value} (h : Turned B k X Y) (hr : X.ownsRow base e size v n xs)
    (hb : ∀ b, v.ownBlock = some b → b < B ∨ B + k ≤ b) : Y.ownsRow base e size v n xs := by
  refine ⟨hr.1, ?_⟩
  rcases hr.2 with hn | ⟨g, cap, cur, rfl, hbase, hg, rest⟩
  · exact .inl hn
  · exact .inr ⟨g, cap, cur, rfl, hbase, (h.same g (Array.getElem?_eq_some_iff.1 hg).1 (hb g rfl)).trans hg, rest⟩

/-- What abides the turns of the blocks from B on, k of them, and whatever is laid. -/
def Abide {β : Type} (B k : Nat) (J : β → World → Prop) : Prop := ∀ s W W', J s W → Turned B k W W' → J s W'

theorem Abide.sub {β : Type} {B k B' k' : Nat} {J : β → World → Prop} (h : Abide B k J) (a : B ≤ B') (b : B' + k' ≤ B + k) : Abide B' k' J :=
  fun s W W' hs ht => h s W W' hs (ht.sub a b)
theorem Abide.alloc {β : Type} {B k : Nat} {J : β → World → Prop} (h : Abide B k J) {s : β} {W : World} (o : Obj) (hs : J s W) : J s (W.alloc o) :=
  h s W _ hs ((Turned.refl _ _ _).alloc o)
theorem Abide.putObj {β : Type} {B k : Nat} {J : β → World → Prop} (h : Abide B k J) {s : β} {W : World} {l : Nat} (o : Obj) (hs : J s W) (a : B ≤ l) (b : l < B + k) : J s (W.putObj l o) :=
  h s W _ hs ((Turned.refl _ _ _).putObj o a b)
theorem Abide.and {β : Type} {B k : Nat} {I J : β → World → Prop} (h : Abide B k I) (g : Abide B k J) : Abide B k (fun s W => I s W ∧ J s W) :=
  fun s W W' hs ht => ⟨h s W W' hs.1 ht, g s W W' hs.2 ht⟩
theorem Abide.pure {β : Type} (B k : Nat) (p : β → Prop) : Abide B k (fun s (_ : World) => p s) := fun _ _ _ hs _ => hs
theorem Abide.below {β : Type} {B k n : Nat} {w : World} (hn : n ≤ w.heap.size) (hB : n ≤ B) : Abide B k (fun (_ : β) W => Below n w W) :=
  fun _ _ _ hs ht => hs.trans (ht.below hB (Nat.le_trans hn hs.size))
/-- A box outside. -/
theorem Abide.box {β : Type} {B k b : Nat} {t : TypeId} (hb : b < B ∨ B + k ≤ b) (f : β → Value) : Abide B k (fun s W => Boxed W b t (f s)) :=
  fun _ _ _ hs ht => ht.box hs hb

/-- THE ITERATOR's CONTRACT: the function g, with what it has captured, hands the xs over, one by one; k boxes of its own. -/
def Hands {α : Type} (P : Program) (g : Nat) (lb : Array Value) (encs : α → Array Value) (k : Nat) (xs : List α) (w : World) : Prop :=
  ∀ (l : Nat) (J Jx : List α → World → Prop) (W : World), Below w.heap.size w W → Abide W.heap.size k J →
    (∀ pre x post W1, xs = pre ++ x :: post → W.heap.size + k ≤ W1.heap.size → J pre W1 → YieldAt Fence.wide 7 P l (encs x) W1 fun e W' =>
      (e = .returned (.bool true) ∧ J (pre ++ [x]) W' ∧ Stay W.heap.size k W1 W') ∨ (e = .returned (.bool false) ∧ Jx (pre ++ [x]) W')) →
    J [] W →
    CallsIn Fence.wide 8 P g (#[.func (.yield l) #[] #[]] ++ lb) W fun e W' => (∃ v, e = .returned v) ∧ (J xs W' ∨ ∃ pre, pre <+: xs ∧ Jx pre W')

/-- How the body of a round may be left. -/
def left {α : Type} (B k : Nat) (I : List α → World → Prop) (Ix : Code → List α → World → Prop) (xs : List α) (W : World) : Exit → Act → World → Prop
  | .normal, _, W' => Stay B k W W' ∧ I xs W'
  | .ret, _, W' => Stay B k W W' ∧ Ix .ret xs W'
  | .exit id, _, W' => Stay B k W W' ∧ Ix (.exit id) xs W'
  | .goto t, _, W' => Stay B k W W' ∧ Ix (.goto t) xs W'
  | .panic _, _, _ => False
  | .outgrown, _, _ => False

/-- What is to be shown behind the assignment to the loop's left sides. -/
def assigned (B k : Nat) (M : Act → World → Prop) (W : World) : Exit → Act → World → Prop :=
  Exit.then (fun a' W' => Stay B k W W' ∧ M a' W') (fun _ _ _ => False)

variable {P : Program}

theorem wp_ranged {α : Type} {g : Operand} {ps : Array Tmp} {assign body : Code} {Q : Exit → Act → World → Prop} {a : Act} {w : World}
    {gf : Nat} {lb : Array Value} (hg : a.eval g = .func (.func gf) #[] lb) (eg : ∀ args w, (callFunc gf args).run P w = .ok (.enter gf args) w)
    {encs : α → Array Value} {k : Nat} {xs : List α} (hseq : Hands P gf lb encs k xs w) (hps : ∀ x, (encs x).size = ps.size)
    (I : List α → World → Prop) (Ix : Code → List α → World → Prop) (hI : Abide w.heap.size (k + 2) I) (hIx : ∀ c, Abide w.heap.size 2 (Ix c)) (h0 : I [] w)
    (M : List α → α → Act → World → Prop) (hM : ∀ pre x a', Abide w.heap.size 2 (fun (_ : Unit) W => M pre x a' W))
    (hassign : ∀ (l : Nat) (pre : List α) (x : α) (post : List α) (W : World), xs = pre ++ x :: post → w.heap.size + (k + 2) ≤ W.heap.size → I pre W →
      assign.wpIn (Fence.wide.inRound l) 7 P (assigned w.heap.size (k + 2) (M pre x) W) { tmps := (ps.zip (encs x)).foldl (fun t (p, v) => t.setIfInBounds p v) a.tmps, defers := [] } W)
    (hbody : ∀ (l : Nat) (pre : List α) (x : α) (post : List α) (a' : Act) (W : World), xs = pre ++ x :: post → w.heap.size + (k + 2) ≤ W.heap.size → M pre x a' W →
      body.wpIn (Fence.wide.inRound l) 7 P (left w.heap.size (k + 2) I Ix (pre ++ [x]) W) a' W)
    (hdone : ∀ (W : World), I xs W → W.heap[w.heap.size]? = some (.deferred (some [])) → Q .normal { a with defers := { target := .collected w.heap.size, args := #[] } :: a.defers } W)
    (hstop : ∀ (c : Code) (pre : List α) (W : World), pre <+: xs → Ix c pre W → W.heap[w.heap.size]? = some (.deferred (some [])) → c.wpIn Fence.wide 9 P Q { a with defers := { target := .collected w.heap.size, args := #[] } :: a.defers } W) :
    (Code.rangeFunc g ps assign body).wpIn Fence.wide 9 P Q a w := by
  refine wpIn_rangeFunc fun fn _ => ?_
  show ∃ l mark w₁ d w₁' f args w₂, (Instr.enterLoop fn a.tmps ps assign body none).run P w = .ok (l, mark) w₁ ∧ _
  obtain ⟨rec, hrec⟩ : ∃ rec : LoopState → Option Code → Loop, rec = fun st pe => { state := st, pending := pe, fn, tmps := a.tmps, params := ps, assign, body, defers := w.heap.size } := ⟨_, rfl⟩
  obtain ⟨W1, hW1⟩ : ∃ W1, (w.alloc (.deferred (some []))).alloc (.loop (rec .ready none)) = W1 := ⟨_, rfl⟩
  have hz1 : W1.heap.size = w.heap.size + 2 := by rw [← hW1]; simp
  have hL1 : W1.heap[w.heap.size + 1]? = some (.loop (rec .ready none)) := by
    rw [← hW1]; have := World.alloc_heap_new (w.alloc (.deferred (some []))) (.loop (rec .ready none)); rwa [World.size_alloc] at this
  have hK1 : W1.heap[w.heap.size]? = some (.deferred (some [])) := by
    rw [← hW1]; exact (Below.heap_alloc _ _ _ (by simp)).trans (World.alloc_heap_new w _)
  have hI1 : I [] W1 := by rw [← hW1]; exact hI.alloc _ (hI.alloc _ h0)
  have hb1 : Below w.heap.size w W1 := by rw [← hW1]; exact ((Below.refl _ w).alloc (Nat.le_refl _) _).alloc (by simp) _
  -- a turn of one of the iterator's own boxes leaves the two blocks of the statement as they were
  have two : ∀ {A B : World}, Turned W1.heap.size k A B → ∀ q o, q < w.heap.size + 2 → A.heap[q]? = some o → B.heap[q]? = some o :=
    fun ht q o hq ho => (ht.same q (Array.getElem?_eq_some_iff.1 ho).1 (by omega)).trans ho
  refine ⟨w.heap.size + 1, [{ target := .collected w.heap.size, args := #[] }], W1, { target := .fn (.func gf) lb, args := #[.func (.yield (w.heap.size + 1)) #[] #[]] }, W1, gf,
    #[.func (.yield (w.heap.size + 1)) #[] #[]] ++ lb, W1, ?_, ?_, fun _ _ => trivial, ?_, (fun h => by cases h), ?_⟩
  · rw [← hW1, hrec]; exact run_enterLoop_outer _ _ _ _ _
  · simp only [resolve, hg]
    simp [go_sem]
  · simp [invoke, go_sem, eg]
  refine (hseq (w.heap.size + 1)
    (fun pre W => I pre W ∧ W.heap[w.heap.size + 1]? = some (.loop (rec .ready none)) ∧ W.heap[w.heap.size]? = some (.deferred (some [])))
    (fun pre W => ∃ c, Ix c pre W ∧ W.heap[w.heap.size + 1]? = some (.loop (rec .done (some c))) ∧ W.heap[w.heap.size]? = some (.deferred (some [])))
    W1 hb1
    (fun s A B hs ht => ⟨hI s A B hs.1 (ht.sub (by omega) (by omega)), two ht _ _ (by omega) hs.2.1, two ht _ _ (by omega) hs.2.2⟩)
    ?_ ⟨hI1, hL1, hK1⟩).mono ?_
  · -- one round
    rintro pre x post W hx hsz ⟨hi, hl, hk⟩
    rw [hz1] at hsz
    have hy := run_yield (P := P) (args := encs x) hl (by rw [hrec]; exact hps x)
    rw [hrec] at hy
    refine ⟨fn, _, assign, body, hy, roundIn_of_wpIn trivial (wpIn_mono (hassign _ pre x post W hx (by omega) hi) ?_)⟩
    intro e a' Wa hp
    cases e with
    | normal =>
      obtain ⟨hs1, hm⟩ := hp
      have hla := (hs1.same (w.heap.size + 1) (by omega) (by omega)).trans hl
      have hka := (hs1.same w.heap.size (by omega) (by omega)).trans hk
      have hlt := (Array.getElem?_eq_some_iff.1 hla).1
      refine ⟨_, run_beginRound hla (by rw [hrec]), ?_⟩
      have hl2 : (Wa.putObj (w.heap.size + 1) (.loop { rec .ready none with state := .busy })).heap[w.heap.size + 1]? = some (.loop { rec .ready none with state := .busy }) := World.putObj_heap_same hlt
      have hk2 : (Wa.putObj (w.heap.size + 1) (.loop { rec .ready none with state := .busy })).heap[w.heap.size]? = some (.deferred (some [])) := (World.putObj_heap_other (by omega)).trans hka
      have hn2 : ∀ r, w.heap.size + 2 ≤ r → (Wa.putObj (w.heap.size + 1) (.loop { rec .ready none with state := .busy })).heap[r]? = Wa.heap[r]? := fun r hr => World.putObj_heap_other (by omega)
      have hz2 : ∀ o, (Wa.putObj (w.heap.size + 1) o).heap.size = Wa.heap.size := fun o => by simp
      have hm2 := (hM pre x a').putObj (s := ()) (.loop { rec .ready none with state := .busy }) hm (l := w.heap.size + 1) (by omega) (by omega)
      have hsa := hs1.size
      refine wpIn_mono (hbody _ pre x post a' _ hx (by rw [hz2]; omega) hm2) ?_
      have fin : ∀ (jump : Option Code) (W3 : World), Stay w.heap.size (k + 2) (Wa.putObj (w.heap.size + 1) (.loop { rec .ready none with state := .busy })) W3 →
          (Instr.endRound (w.heap.size + 1) jump).run P W3 = .ok (.bool jump.isNone) (W3.putObj (w.heap.size + 1) (.loop (rec (if jump.isNone then .ready else .done) jump))) ∧
          (W3.putObj (w.heap.size + 1) (.loop (rec (if jump.isNone then .ready else .done) jump))).heap[w.heap.size + 1]? = some (.loop (rec (if jump.isNone then .ready else .done) jump)) ∧
          (W3.putObj (w.heap.size + 1) (.loop (rec (if jump.isNone then .ready else .done) jump))).heap[w.heap.size]? = some (.deferred (some [])) := fun jump W3 hs3 => by
        have hl3 := (hs3.same (w.heap.size + 1) (by omega) (by omega)).trans hl2
        have hk3 := (hs3.same w.heap.size (by omega) (by omega)).trans hk2
        have := run_endRound (P := P) jump hl3
        rw [hrec] at this ⊢
        exact ⟨this, World.putObj_heap_same (Array.getElem?_eq_some_iff.1 hl3).1, (World.putObj_heap_other (by omega)).trans hk3⟩
      intro e a3 W3 hp
      cases e with
      | normal =>
        obtain ⟨hs3, hi3⟩ := hp
        obtain ⟨hr, hl4, hk4⟩ := fin none W3 hs3
        refine ⟨_, _, hr, .inl ⟨rfl, ⟨hI.putObj _ hi3 (by omega) (by omega), hl4, hk4⟩, ?_⟩⟩
        have hsz3 := hs3.size
        refine ⟨by simp only [World.putObj, Array.size_setIfInBounds] at hsz3 ⊢; omega, fun r a b => ?_⟩
        rw [hz1] at a b
        rw [World.putObj_heap_other (by omega), hs3.same r (by omega) (by omega), hn2 r a, hs1.same r (by omega) (by omega)]
      | ret =>
        obtain ⟨hs3, hi3⟩ := hp
        obtain ⟨hr, hl4, hk4⟩ := fin (some .ret) W3 hs3
        exact ⟨_, _, hr, .inr ⟨rfl, .ret, (hIx _).putObj _ hi3 (by omega) (by omega), hl4, hk4⟩⟩
      | exit id =>
        obtain ⟨hs3, hi3⟩ := hp
        obtain ⟨hr, hl4, hk4⟩ := fin (some (.exit id)) W3 hs3
        exact ⟨_, _, hr, .inr ⟨rfl, .exit id, (hIx _).putObj _ hi3 (by omega) (by omega), hl4, hk4⟩⟩
      | goto t =>
        obtain ⟨hs3, hi3⟩ := hp
        obtain ⟨hr, hl4, hk4⟩ := fin (some (.goto t)) W3 hs3
        exact ⟨_, _, hr, .inr ⟨rfl, .goto t, (hIx _).putObj _ hi3 (by omega) (by omega), hl4, hk4⟩⟩
      | panic ch => exact hp.elim
      | outgrown => exact hp.elim
    | ret => exact hp.elim
    | exit id => exact hp.elim
    | goto t => exact hp.elim
    | panic ch => exact hp.elim
    | outgrown => exact hp.elim
  · -- behind the iterator
    rintro e W2 ⟨⟨v, rfl⟩, (⟨hi, hl, hk⟩ | ⟨pre, hpre, c, hi, hl, hk⟩)⟩
    · exact ⟨none, _, by have := run_endLoop (P := P) hl (by rw [hrec]; simp); rw [hrec] at this; exact this, hdone _ (hI.putObj _ hi (by omega) (by omega)) ((World.putObj_heap_other (by omega)).trans hk)⟩
    · exact ⟨some c, _, by have := run_endLoop (P := P) hl (by rw [hrec]; simp); rw [hrec] at this; exact this, hstop c pre _ hpre ((hIx c).putObj _ hi (by omega) (by omega)) ((World.putObj_heap_other (by omega)).trans hk)⟩
end Go.Proofs.YthblpjjocokphaaGreatDoor
