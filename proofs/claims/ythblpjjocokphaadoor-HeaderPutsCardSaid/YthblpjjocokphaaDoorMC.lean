/- The program's calls on headers. -/
import Derived.Test.YthblpjjocokphaaDoorMA
import Derived.Test.YthblpjjocokphaaDoorDE
import Derived.Deep.RegionHeld3
namespace Go.Proofs.YthblpjjocokphaaDoor.Hd
open Go.RowKit Go.Shelf
attribute [local go_sem] Oper.semAt_some

def MaxL (w : World) : Prop := ∃ m : Int, w.cell? ⟨0, 0, none⟩ = some (.int .i64 m)
theorem MaxL.below {w w' : World} {N : Nat} (h : MaxL w) (hb : Below N w w') (hN : w.heap.size ≤ N) : MaxL w' := by
  obtain ⟨m, hm⟩ := h
  have hlt : 0 < w.heap.size := by
    rcases Nat.lt_or_ge 0 w.heap.size with h | h
    · exact h
    · have : w.heap[0]? = none := Array.getElem?_eq_none h
      simp [World.cell?, this] at hm
  exact ⟨m, (hb.cell (p := ⟨0, 0, none⟩) (by show 0 < N; omega)).trans hm⟩
/-- What the library's variables hold. -/
structure Tab (w : World) : Prop where
  nums : Fr.TabsN w
  max : MaxL w
theorem Tab.below {w w' : World} {N : Nat} (h : Tab w) (hb : Below N w w') (hN : w.heap.size ≤ N) : Tab w' := ⟨h.nums.below hb hN, h.max.below hb hN⟩
theorem grow_below {w : World} (n : Nat) (os : Array Obj) : Below w.heap.size w (Go.Sort.grow (w.drewN n) os) :=
  ⟨rfl, rfl, rfl, by rw [Go.Sort.size_grow]; exact Nat.le_add_right _ _, fun k hk => Go.Sort.heap_grow_old _ _ hk⟩
theorem itoa_any (n : Nat) (hn : n ≤ 9223372036854775807) (w : World) (ht : Tab w) : Calls Tryd.prog 15 #[.int .i64 (n : Int)] w fun e w' => e = .returned (.string (B (Lib.decDigits n))) ∧ Below w.heap.size w w' :=
  (Tryd.strconv_Itoa n (by omega) (by omega) w ht.nums.pow).mono fun e w' ⟨he, k, os, hw⟩ => ⟨by rw [he, Lib.itoa_nonneg]; rfl, by rw [hw]; exact grow_below k os⟩

theorem line_any (g : Nat) (h1 : 1 ≤ g) (h2 : g ≤ 2147483648) (w : World) (ht : Tab w) :
    Calls Tryd.prog 6 #[.int .i64 (g : Int)] w fun e w' => e = .returned (.tuple #[.string (B (headL g)), .nilIface]) ∧ Below w.heap.size w w' := by
  have IT := Lib.hid (itoa_any g (by omega) w ht)
  have E : Hid ((⟨#[35, 37, 103, 101, 110, 32]⟩ : ByteArray) ++ B (Lib.decDigits g) ++ ⟨#[10, 10]⟩ = B (headL g)) := by
    show _ = _
    rw [show (⟨#[35, 37, 103, 101, 110, 32]⟩ : ByteArray) = B SIGN from rfl, show (⟨#[10, 10]⟩ : ByteArray) = B [10, 10] from rfl, B_append, B_append]
    unfold headL; simp
  have hs : (B (Lib.decDigits g)).size ≤ 20 := by rw [B_size]; exact (dec_len g h2).2
  have q1 : ¬ (g : Int) < 1 := by omega
  have q2 : ¬ (2147483648 : Int) < g := by omega
  generalize B (Lib.decDigits g) = d at *
  have s1 : ((⟨#[35, 37, 103, 101, 110, 32]⟩ : ByteArray) ++ d).size ≤ 26 := by rw [ByteArray.size_append]; show 6 + _ ≤ _; omega
  clear ht
  go_enter Tryd.func6, Tryd.ntmps6
  go_wp2_with fail
  refine IT.out.mono ?_
  rintro e w1 ⟨rfl, hb⟩
  go_wp2_with fail
  go_ret2
  exact ⟨by rw [← E.out]; rfl, hb⟩
theorem line_not (g : Int) (h : g < 1 ∨ 2147483648 < g) (w : World) :
    Calls Tryd.prog 6 #[.int .i64 g] w fun e w' => e = .returned (.tuple #[.string (B []), errV 1]) ∧ w' = w := by
  by_cases q1 : g < 1
  · go_enter Tryd.func6, Tryd.ntmps6
    go_wp2_with fail
    go_ret2
    exact ⟨rfl, rfl⟩
  · have q2 : (2147483648 : Int) < g := by omega
    go_enter Tryd.func6, Tryd.ntmps6
    go_wp2_with fail
    go_ret2
    exact ⟨rfl, rfl⟩
theorem len_any (g : Nat) (h1 : 1 ≤ g) (h2 : g ≤ 2147483648) (w : World) (ht : Tab w) :
    Calls Tryd.prog 10 #[.int .i64 (g : Int)] w fun e w' => e = .returned (.int .i64 (headL g).length) ∧ Below w.heap.size w w' := by
  have L := Lib.hid (line_any g h1 h2 w ht)
  have hs := B_size (headL g)
  generalize B (headL g) = d at *
  rw [← hs]
  clear ht hs
  go_enter Tryd.func10, Tryd.ntmps10
  go_wp2_with fail
  refine L.out.mono ?_
  rintro e w1 ⟨rfl, hb⟩
  go_wp2_with fail
  go_ret
  exact ⟨rfl, hb⟩
theorem len_not (g : Int) (h : g < 1 ∨ 2147483648 < g) (w : World) :
    Calls Tryd.prog 10 #[.int .i64 g] w fun e w' => e = .returned (.int .i64 0) ∧ w' = w := by
  have L := Lib.hid (line_not g h w)
  have hs : (B []).size = 0 := rfl
  go_enter Tryd.func10, Tryd.ntmps10
  go_wp2_with fail
  refine L.out.mono ?_
  rintro e w1 ⟨rfl, rfl⟩
  go_wp2_with fail
  go_ret
  exact ⟨rfl, rfl⟩
/-- A text's generation, as the program finds it. -/
def genP (t : List UInt8) : Nat := if 1 ≤ atoiV (figs t) ∧ atoiV (figs t) ≤ 2147483648 ∧ Lib.hasPrefix t (headL (atoiV (figs t)).toNat) = true then (atoiV (figs t)).toNat else 0
theorem genP_is (t : List UInt8) : GenIs t (genP t) := gen_prog t
theorem trim_call (t : List UInt8) (w : World) : Calls Tryd.prog 19 #[.string (B t), .string ⟨#[35, 37, 103, 101, 110, 32]⟩] w fun e w' => e = .returned (.string (B (Lib.trimPrefix t SIGN))) ∧ w' = w :=
  (Tryd.strings_TrimPrefix (B t) ⟨#[35, 37, 103, 101, 110, 32]⟩ w).mono fun e w' ⟨he, hw⟩ => ⟨by rw [he, B_data]; rfl, hw⟩
theorem cut_call (t : List UInt8) (ht : t.length ≤ 1000000) (w : World) (hm : MaxL w) : Calls Tryd.prog 18 #[.string (B t), .string ⟨#[10, 10]⟩] w fun e w' => (∃ b c, e = .returned (.tuple #[.string (B (Lib.cut t [10, 10]).1), .string b, .bool c])) ∧ Below w.heap.size w w' := by
  obtain ⟨m, hm⟩ := hm
  refine (Tryd.strings_Cut (B t) ⟨#[10, 10]⟩ m w (by rw [B_size]; omega) hm).mono ?_
  rintro e w' ⟨rfl, n, rfl⟩
  rw [B_data]
  exact ⟨⟨_, _, rfl⟩, drewN_below (Below.refl _ _) n⟩
theorem pre_call (a b : List UInt8) (w : World) : Calls Tryd.prog 21 #[.string (B a), .string (B b)] w fun e w' => e = .returned (.bool (Lib.hasPrefix a b)) ∧ w' = w :=
  (Tryd.strings_HasPrefix (B a) (B b) w).mono fun e w' ⟨he, hw⟩ => ⟨by rw [he, B_data, B_data], hw⟩
theorem trim_len (t p : List UInt8) : (Lib.trimPrefix t p).length ≤ t.length := by
  unfold Lib.trimPrefix; split
  · rw [List.length_drop]; omega
  · omega
set_option maxHeartbeats 1000000 in
theorem gen_any (t : List UInt8) (hl : t.length ≤ 100000) (w : World) (ht : Tab w) :
    Calls Tryd.prog 13 #[.string (B t)] w fun e w' => e = .returned (.int .i64 (genP t : Nat)) ∧ Below w.heap.size w w' := by
  have TR := Lib.hid (trim_call t)
  have hfl := figs_len t
  have htl := trim_len t SIGN
  have CU := Lib.hid (fun W (hb : Below w.heap.size w W) => cut_call (Lib.trimPrefix t SIGN) (by omega) W (ht.max.below hb (Nat.le_refl _)))
  have AT := Lib.hid (fun W (hb : Below w.heap.size w W) => Fr.atoi_any (figs t) (by omega) W (ht.nums.below hb (Nat.le_refl _)))
  have PR := Lib.hid (fun g W => pre_call t (headL g) W)
  unfold genP
  rw [show (Lib.cut (Lib.trimPrefix t SIGN) [10, 10]).1 = figs t from rfl] at CU
  generalize figs t = fg at *
  generalize Lib.trimPrefix t SIGN = tr at *
  generalize atoiV fg = v at *
  by_cases hv : 1 ≤ v ∧ v ≤ 2147483648
  · obtain ⟨g, rfl⟩ : ∃ g : Nat, v = g := ⟨v.toNat, by omega⟩
    have LI := Lib.hid (fun W (hb : Below w.heap.size w W) => line_any g (by omega) (by omega) W (ht.below hb (Nat.le_refl _)))
    have PR := Lib.hid (fun W => PR.out g W)
    rw [Int.toNat_natCast]
    cases hp : Lib.hasPrefix t (headL g) with
    | true =>
      rw [if_pos ⟨hv.1, hv.2, rfl⟩]
      rw [hp] at PR
      clear ht hp
      generalize B t = bt at *
      generalize B (headL g) = bh at *
      generalize B fg = bf at *
      generalize B tr = br at *
      go_enter Tryd.func13, Tryd.ntmps13
      go_wp2_with fail
      refine (TR.out _).mono ?_
      rintro e w1 ⟨rfl, rfl⟩
      go_wp2_with fail
      refine (CU.out _ (Below.refl _ _)).mono ?_
      rintro e w2 ⟨⟨b, c, rfl⟩, hb2⟩
      go_wp2_with fail
      refine (AT.out _ hb2).mono ?_
      rintro e w3 ⟨⟨T, q, rfl | rfl⟩, hb3⟩
      all_goals
        have hb4 := hb2.trans (hb3.mono hb2.size)
        go_wp2_with fail
        refine (LI.out _ hb4).mono ?_
        rintro e w4 ⟨rfl, hb5⟩
        have hb6 := hb4.trans (hb5.mono hb4.size)
        go_wp2_with fail
        refine (PR.out _).mono ?_
        rintro e w5 ⟨rfl, rfl⟩
        go_wp2_with fail
        go_ret
        exact ⟨rfl, hb6⟩
    | false =>
      rw [if_neg (fun h => Bool.noConfusion h.2.2)]
      rw [hp] at PR
      clear ht hp
      generalize B t = bt at *
      generalize B (headL g) = bh at *
      generalize B fg = bf at *
      generalize B tr = br at *
      go_enter Tryd.func13, Tryd.ntmps13
      go_wp2_with fail
      refine (TR.out _).mono ?_
      rintro e w1 ⟨rfl, rfl⟩
      go_wp2_with fail
      refine (CU.out _ (Below.refl _ _)).mono ?_
      rintro e w2 ⟨⟨b, c, rfl⟩, hb2⟩
      go_wp2_with fail
      refine (AT.out _ hb2).mono ?_
      rintro e w3 ⟨⟨T, q, rfl | rfl⟩, hb3⟩
      all_goals
        have hb4 := hb2.trans (hb3.mono hb2.size)
        go_wp2_with fail
        refine (LI.out _ hb4).mono ?_
        rintro e w4 ⟨rfl, hb5⟩
        have hb6 := hb4.trans (hb5.mono hb4.size)
        go_wp2_with fail
        refine (PR.out _).mono ?_
        rintro e w5 ⟨rfl, rfl⟩
        go_wp2_with fail
        go_ret
        exact ⟨rfl, hb6⟩
  · rw [if_neg (fun h => hv ⟨h.1, h.2.1⟩)]
    have LI := Lib.hid (fun W => line_not v (by omega) W)
    clear ht PR
    generalize B t = bt at *
    generalize B fg = bf at *
    generalize B tr = br at *
    go_enter Tryd.func13, Tryd.ntmps13
    go_wp2_with fail
    refine (TR.out _).mono ?_
    rintro e w1 ⟨rfl, rfl⟩
    go_wp2_with fail
    refine (CU.out _ (Below.refl _ _)).mono ?_
    rintro e w2 ⟨⟨b, c, rfl⟩, hb2⟩
    go_wp2_with fail
    refine (AT.out _ hb2).mono ?_
    rintro e w3 ⟨⟨T, q, rfl | rfl⟩, hb3⟩
    all_goals
      have hb4 := hb2.trans (hb3.mono hb2.size)
      go_wp2_with fail
      refine (LI.out _).mono ?_
      rintro e w4 ⟨rfl, rfl⟩
      rw [errV_pos 1 (by omega)]
      go_wp2_with fail
      go_ret
      exact ⟨rfl, hb4⟩
/-- How many bytes a text's header has. -/
def lenP (n : Nat) : Nat := if 1 ≤ n ∧ n ≤ 2147483648 then (headL n).length else 0
theorem lenP_call (n : Nat) (w : World) (ht : Tab w) : Calls Tryd.prog 10 #[.int .i64 (n : Int)] w fun e w' => e = .returned (.int .i64 (lenP n : Nat)) ∧ Below w.heap.size w w' := by
  unfold lenP
  by_cases h : 1 ≤ n ∧ n ≤ 2147483648
  · rw [if_pos h]; exact len_any n h.1 h.2 w ht
  · rw [if_neg h]
    refine (len_not n (by omega) w).mono ?_
    rintro e w' ⟨rfl, rfl⟩
    exact ⟨rfl, Below.refl _ _⟩
theorem lenP_le {t : List UInt8} {n : Nat} (h : GenIs t n) : lenP n ≤ t.length := by
  unfold lenP
  split
  · rename_i hn
    obtain ⟨r, rfl⟩ := gen_pre h hn.1
    simp
  · omega
theorem held_on {w W W' : World} (h : Below w.heap.size w W) (hb : Below W.heap.size W W') : Below w.heap.size w W' := h.trans (hb.mono h.size)
set_option maxHeartbeats 1000000 in
theorem take_any (t : List UInt8) (hl : t.length ≤ 100000) (w : World) (ht : Tab w) :
    Calls Tryd.prog 11 #[.string (B t)] w fun e w' => e = .returned (.tuple #[.int .i64 (genP t : Nat), .string (B (t.drop (lenP (genP t))))]) ∧ Below w.heap.size w w' := by
  have G := Lib.hid (gen_any t hl w ht)
  have hle := lenP_le (genP_is t)
  have L := Lib.hid (fun W (hb : Below w.heap.size w W) => lenP_call (genP t) W (ht.below hb (Nat.le_refl _)))
  have hE : Hid ((B t).extract (lenP (genP t)) (B t).size = B (t.drop (lenP (genP t)))) := by
    show _ = _
    have e := Lib.extract_to_end (B t) (lenP (genP t))
    rw [B_data] at e
    rw [← B_of ((B t).extract _ _), e]
  have hz := B_size t
  rw [← hz] at hle hl
  generalize lenP (genP t) = k at *
  generalize genP t = g at *
  generalize B t = bt at *
  clear hz ht
  have hki : (k : Int) ≤ (bt.size : Int) := by omega
  have h0 : (0 : Int) ≤ (k : Int) := by omega
  go_enter Tryd.func11, Tryd.ntmps11
  go_wp2_with fail
  refine G.out.mono ?_
  rintro e w1 ⟨rfl, hb1⟩
  have HS := Lib.hid (show ∀ W, Below w1.heap.size w1 W → Below w1.heap.size w1 W from fun W h => h)
  have HL := Lib.hid (fun W (hb : Below w1.heap.size w1 W) => L.out W (hb1.trans (hb.mono hb1.size)))
  go_wp2_with fail
  go_region_held3 (fun W => Below w1.heap.size w1 W) ((refine HS.out _ ?_; repeat (first | exact Below.refl _ _ | assumption | (refine Below.drew ?_) | (refine held_on ?_ (by assumption))))) ((go_at_call 10; refine (HL.out _ ?_).mono ?_; (focus (repeat (first | exact Below.refl _ _ | assumption | (refine Below.drew ?_) | (refine held_on ?_ (by assumption))))); rintro e w5 ⟨rfl, hb5⟩))
  all_goals go_wp2_with fail
  all_goals
    go_ret2
    have hb7 : Below w1.heap.size w1 w5 := held_on (Below.drew (Below.refl _ _)) hb5
    exact ⟨by rw [← hE.out]; rfl, hb1.trans (hb7.mono hb1.size)⟩
end Go.Proofs.YthblpjjocokphaaDoor.Hd
