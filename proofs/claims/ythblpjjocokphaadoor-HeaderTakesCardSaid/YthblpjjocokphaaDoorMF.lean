/- What is put; the laws on headers. -/
import Derived.Test.YthblpjjocokphaaDoorME
namespace Go.Proofs.YthblpjjocokphaaDoor.Hd
open Go.RowKit Go.Shelf
attribute [local go_sem] Oper.semAt_some

theorem put_yes (g : Nat) (h1 : 1 ≤ g) (h2 : g ≤ 2147483648) (t : List UInt8) (hl : t.length ≤ 10000) (w : World) (ht : Tab w) :
    Calls Tryd.prog 7 #[.int .i64 (g : Int), .string (B t)] w fun e w' => e = .returned (.tuple #[.string (B (headL g ++ t)), .nilIface]) ∧ Below w.heap.size w w' := by
  have L := Lib.hid (line_any g h1 h2 w ht)
  have E : Hid (B (headL g) ++ B t = B (headL g ++ t)) := B_append _ _
  have hs : (B (headL g)).size ≤ 28 := by rw [B_size]; exact (head_len g h2).2
  have ht2 : (B t).size ≤ 10000 := by rw [B_size]; exact hl
  have q : ((g : Int) == 0) = false := by rw [beq_eq_false_iff_ne]; omega
  generalize B (headL g) = X at *
  generalize B t = Y at *
  clear ht
  go_enter Tryd.func7, Tryd.ntmps7
  go_wp2_with fail
  refine L.out.mono ?_
  rintro e w1 ⟨rfl, hb⟩
  go_wp2_with fail
  go_ret2
  exact ⟨by rw [← E.out]; rfl, hb⟩
theorem put_zero (Y : ByteArray) (w : World) :
    Calls Tryd.prog 7 #[.int .i64 0, .string Y] w fun e w' => e = .returned (.tuple #[.string Y, .nilIface]) ∧ w' = w := by
  go_enter Tryd.func7, Tryd.ntmps7
  go_wp2_with fail
  go_ret2
  exact ⟨rfl, rfl⟩
theorem put_not (g : Int) (h : g < 1 ∨ 2147483648 < g) (h0 : g ≠ 0) (Y : ByteArray) (w : World) :
    Calls Tryd.prog 7 #[.int .i64 g, .string Y] w fun e w' => e = .returned (.tuple #[.string (B []), errV 1]) ∧ w' = w := by
  have L := Lib.hid (line_not g h w)
  rw [errV_pos 1 (by omega)] at *
  have q : (g == 0) = false := by rw [beq_eq_false_iff_ne]; exact h0
  clear h h0
  go_enter Tryd.func7, Tryd.ntmps7
  go_wp2_with fail
  refine L.out.mono ?_
  rintro e w1 ⟨rfl, rfl⟩
  go_wp2_with fail
  go_ret2
  exact ⟨rfl, rfl⟩
theorem is_any (n k : Nat) (hn : n ≤ 1000) (w : World) : Calls Tryd.prog 9 #[errV n, .int .i64 (k : Int)] w fun e w' => e = .returned (.bool (decide (n = k))) ∧ w' = w := by
  have HN := Lib.hid (num_any n hn w)
  go_enter Tryd.func9, Tryd.ntmps9
  go_wp2_with fail
  refine HN.out.mono ?_
  rintro e V ⟨rfl, rfl⟩
  have : ((n : Int) == (k : Int)) = decide (n = k) := by
    by_cases h : n = k
    · subst h; simp
    · have : ¬ (n : Int) = k := by omega
      simp [h, this]
  go_wp2_with fail
  go_ret
  exact ⟨rfl, rfl⟩
theorem head12 : headL 12 = [35, 37, 103, 101, 110, 32, 49, 50, 10, 10] := by
  unfold headL SIGN
  rw [Lib.decDigits, dif_neg (by omega), Lib.decDigits_one (by omega)]
  rfl
theorem alive12 (w : World) (ht : Tab w) : Calls Tryd.prog 5 #[] w fun e w' => e = .returned (.bool true) ∧ Below w.heap.size w w' := by
  have L := Lib.hid (line_any 12 (by omega) (by omega) w ht)
  have G := Lib.hid (fun W (hb : Below w.heap.size w W) => gen_any (headL 12 ++ [65, 58, 32, 49, 10]) (by rw [head12]; decide) W (ht.below hb (Nat.le_refl _)))
  rw [gen_one (genP_is _) (gen_put 12 (by omega) (by omega) _)] at G
  have hA : Hid (B (headL 12) ++ ⟨#[65, 58, 32, 49, 10]⟩ = B (headL 12 ++ [65, 58, 32, 49, 10])) := B_append _ _
  rw [← hA.out] at G
  have hq : ((B (headL 12)).toList == [35, 37, 103, 101, 110, 32, 49, 50, 10, 10]) = true := by rw [Lib.toList_data, B_data, head12]; rfl
  have hs : (B (headL 12)).size = 10 := by rw [B_size, head12]; rfl
  generalize B (headL 12) = X at *
  have hs2 : X.size ≤ 10 := by omega
  clear hs ht hA
  go_enter Tryd.func5, Tryd.ntmps5
  go_wp2_with fail
  refine L.out.mono ?_
  rintro e w1 ⟨rfl, hb⟩
  go_wp2_with fail
  refine (G.out _ hb).mono ?_
  rintro e w2 ⟨rfl, hb2⟩
  have hb3 := hb.trans (hb2.mono hb.size)
  go_wp2_with fail
  go_ret
  exact ⟨rfl, hb3⟩
set_option maxRecDepth 100000 in
set_option maxHeartbeats 4000000 in
theorem takesLaw (s : ByteArray) (hs : s.size ≤ maxLen) (w : World) (ht : Tab w) :
    Calls Tryd.prog 4 #[.string s] w fun e w' => e = .returned (.bool true) ∧ Below w.heap.size w w' := by
  have AL := Lib.hid (alive12 w ht)
  unfold maxLen at hs
  by_cases hlong : 3000 < s.size
  · clear ht
    go_enter Tryd.func4, Tryd.ntmps4
    go_wp2_with fail
    refine AL.out.mono ?_
    rintro e w1 ⟨rfl, hb⟩
    go_wp2_with fail
    go_ret
    exact ⟨rfl, hb⟩
  · have hl : s.data.toList.length ≤ 100000 := by rw [← Lib.size_eq]; omega
    have T := Lib.hid (fun W (hb : Below w.heap.size w W) => take_any s.data.toList hl W (ht.below hb (Nat.le_refl _)))
    have R := Lib.hid (fun W => reftake_any s (by omega) (genP s.data.toList) (genP_is _) W)
    have G := Lib.hid (fun W (hb : Below w.heap.size w W) => gen_any s.data.toList hl W (ht.below hb (Nat.le_refl _)))
    have hqq : ∀ t : ByteArray, ((t.toList == t.toList) = true) := fun t => by simp
    have hnn : ∀ t : Int, ((t == t) = true) := fun t => by simp
    rw [B_of] at T G
    generalize genP s.data.toList = g at *
    generalize B (s.data.toList.drop (lenP g)) = D at *
    clear ht hl
    go_enter Tryd.func4, Tryd.ntmps4
    go_wp2_with fail
    refine AL.out.mono ?_
    rintro e w1 ⟨rfl, hb⟩
    go_wp2_with fail
    refine (T.out _ hb).mono ?_
    rintro e w2 ⟨rfl, hb2⟩
    have hb3 := hb.trans (hb2.mono hb.size)
    go_wp2_with fail
    refine (R.out _).mono ?_
    rintro e w4 ⟨rfl, hb4⟩
    have hb5 := hb3.trans (hb4.mono hb3.size)
    go_wp2_with fail
    refine (G.out _ hb5).mono ?_
    rintro e w6 ⟨rfl, hb6⟩
    have hb7 := hb5.trans (hb6.mono hb5.size)
    go_wp2_with fail
    go_ret
    exact ⟨rfl, hb7⟩
set_option maxRecDepth 100000 in
set_option maxHeartbeats 8000000 in
theorem putsLaw (n : Int) (s : ByteArray) (hs : s.size ≤ maxLen) (w : World) (ht : Tab w) :
    Calls Tryd.prog 3 #[.int .i64 n, .string s] w fun e w' => e = .returned (.bool true) ∧ Below w.heap.size w w' := by
  have AL := Lib.hid (alive12 w ht)
  unfold maxLen at hs
  have hqq : ∀ t : ByteArray, ((t.toList == t.toList) = true) := fun t => by simp
  have hnn : ∀ t : Int, ((t == t) = true) := fun t => by simp
  by_cases hlong : 3000 < s.size
  · clear ht
    go_enter Tryd.func3, Tryd.ntmps3
    go_wp2_with fail
    refine AL.out.mono ?_
    rintro e w1 ⟨rfl, hb⟩
    go_wp2_with fail
    go_ret
    exact ⟨rfl, hb⟩
  have RG := Lib.hid (fun W => refgood_any n W)
  by_cases hv : 1 ≤ n ∧ n ≤ 2147483648
  · rw [decide_eq_true hv] at RG
    obtain ⟨g, rfl⟩ : ∃ g : Nat, n = g := ⟨n.toNat, by omega⟩
    have hg1 : 1 ≤ g := by omega
    have hg2 : g ≤ 2147483648 := by omega
    obtain ⟨l, rfl⟩ := of_B s
    have hl : l.length ≤ 3000 := by have := B_size l; omega
    have hh := head_len g hg2
    have LI := Lib.hid (fun W (hb : Below w.heap.size w W) => line_any g hg1 hg2 W (ht.below hb (Nat.le_refl _)))
    have PU := Lib.hid (fun W (hb : Below w.heap.size w W) => put_yes g hg1 hg2 l (by omega) W (ht.below hb (Nat.le_refl _)))
    have TA := Lib.hid (fun W (hb : Below w.heap.size w W) => take_any (headL g ++ l) (by rw [List.length_append]; omega) W (ht.below hb (Nat.le_refl _)))
    have GE := Lib.hid (fun W (hb : Below w.heap.size w W) => gen_any (headL g ++ l) (by rw [List.length_append]; omega) W (ht.below hb (Nat.le_refl _)))
    have RL := Lib.hid (fun W => refline_any g hg1 hg2 W)
    have LE := Lib.hid (fun W (hb : Below w.heap.size w W) => len_any g hg1 hg2 W (ht.below hb (Nat.le_refl _)))
    have hgen := gen_one (genP_is (headL g ++ l)) (gen_put g hg1 hg2 l)
    rw [hgen] at TA GE
    rw [show (headL g ++ l).drop (lenP g) = l by unfold lenP; rw [if_pos ⟨hg1, hg2⟩]; simp] at TA
    have hs1 := B_size (headL g)
    rw [← hs1] at LE
    have E : B (headL g ++ l) = B (headL g) ++ B l := (B_append _ _).symm
    rw [E] at PU TA GE
    have hs2 : (B (headL g)).size ≤ 28 := by omega
    have hs3 : (B l).size ≤ 3000 := by rw [B_size]; exact hl
    clear hs1 E hgen hh hl
    generalize B (headL g) = X at *
    generalize B l = Y at *
    clear ht hg1 hg2 hv
    go_enter Tryd.func3, Tryd.ntmps3
    go_wp2_with fail
    refine AL.out.mono ?_
    rintro e w1 ⟨rfl, hb⟩
    go_wp2_with fail
    refine (LI.out _ hb).mono ?_
    rintro e w2 ⟨rfl, hb2⟩
    have hb3 := hb.trans (hb2.mono hb.size)
    go_wp2_with fail
    refine (PU.out _ hb3).mono ?_
    rintro e w4 ⟨rfl, hb4⟩
    have hb5 := hb3.trans (hb4.mono hb3.size)
    go_wp2_with fail
    refine (RG.out _).mono ?_
    rintro e w5 ⟨rfl, rfl⟩
    go_wp2_with fail
    refine (TA.out _ hb5).mono ?_
    rintro e w6 ⟨rfl, hb6⟩
    have hb7 := hb5.trans (hb6.mono hb5.size)
    go_wp2_with fail
    refine (RL.out _).mono ?_
    rintro e w8 ⟨rfl, rfl⟩
    go_wp2_with fail
    refine (GE.out _ hb7).mono ?_
    rintro e w9 ⟨rfl, hb9⟩
    have hb10 := hb7.trans (hb9.mono hb7.size)
    go_wp2_with fail
    refine (LE.out _ hb10).mono ?_
    rintro e w11 ⟨rfl, hb11⟩
    have hb12 := hb10.trans (hb11.mono hb10.size)
    go_wp2_with fail
    go_ret
    exact ⟨rfl, hb12⟩
  · rw [decide_eq_false hv] at RG
    have hE : (B []).toList.isEmpty = true := by rw [Lib.toList_data, B_data]; rfl
    have hv' : n < 1 ∨ 2147483648 < n := by omega
    have LI := Lib.hid (fun W => line_not n hv' W)
    have IS := Lib.hid (fun W => is_any 1 1 (by omega) W)
    have LE := Lib.hid (fun W => len_not n hv' W)
    rw [errV_pos 1 (by omega)] at LI IS
    by_cases h0 : n = 0
    · subst h0
      have PU := Lib.hid (fun W => put_zero s W)
      clear ht hv hv'
      go_enter Tryd.func3, Tryd.ntmps3
      go_wp2_with fail
      refine AL.out.mono ?_
      rintro e w1 ⟨rfl, hb⟩
      go_wp2_with fail
      refine (LI.out _).mono ?_
      rintro e w2 ⟨rfl, rfl⟩
      go_wp2_with fail
      refine (PU.out _).mono ?_
      rintro e w2 ⟨rfl, rfl⟩
      go_wp2_with fail
      refine (RG.out _).mono ?_
      rintro e w2 ⟨rfl, rfl⟩
      go_wp2_with fail
      refine (IS.out _).mono ?_
      rintro e w2 ⟨rfl, rfl⟩
      go_wp2_with fail
      refine (LE.out _).mono ?_
      rintro e w2 ⟨rfl, rfl⟩
      go_wp2_with fail
      go_ret
      exact ⟨rfl, hb⟩
    · have q : (n == 0) = false := by rw [beq_eq_false_iff_ne]; exact h0
      have PU := Lib.hid (fun W => put_not n hv' h0 s W)
      rw [errV_pos 1 (by omega)] at PU
      clear ht hv hv' h0
      go_enter Tryd.func3, Tryd.ntmps3
      go_wp2_with fail
      refine AL.out.mono ?_
      rintro e w1 ⟨rfl, hb⟩
      go_wp2_with fail
      refine (LI.out _).mono ?_
      rintro e w2 ⟨rfl, rfl⟩
      go_wp2_with fail
      refine (PU.out _).mono ?_
      rintro e w2 ⟨rfl, rfl⟩
      go_wp2_with fail
      refine (RG.out _).mono ?_
      rintro e w2 ⟨rfl, rfl⟩
      go_wp2_with fail
      refine (IS.out _).mono ?_
      rintro e w2 ⟨rfl, rfl⟩
      go_wp2_with fail
      refine (LE.out _).mono ?_
      rintro e w2 ⟨rfl, rfl⟩
      go_wp2_with fail
      refine (IS.out _).mono ?_
      rintro e w2 ⟨rfl, rfl⟩
      go_wp2_with fail
      go_ret
      exact ⟨rfl, hb⟩
end Go.Proofs.YthblpjjocokphaaDoor.Hd
