/- The document's Take, and what is put. -/
import Derived.Test.YthblpjjocokphaaDoorMD
namespace Go.Proofs.YthblpjjocokphaaDoor.Hd
open Go.RowKit Go.Shelf
attribute [local go_sem] Oper.semAt_some

theorem sameB (a b : List UInt8) : ((B a).toList == (B b).toList) = decide (a = b) := by rw [Lib.toList_data, Lib.toList_data, B_data, B_data, Bool.eq_iff_iff]; simp
theorem extractB (s : ByteArray) (a b : Nat) : s.extract a b = B ((s.data.toList.take b).drop a) := by
  rw [← B_of (s.extract a b), Lib.extract_data]
  congr 1
  rw [List.drop_take]
theorem drop_zero (s : ByteArray) : B (s.data.toList.drop (lenP 0)) = s := by
  rw [show lenP 0 = 0 from rfl, List.drop_zero, B_of]
set_option maxRecDepth 100000 in
set_option maxHeartbeats 8000000 in
theorem reftake_any (s : ByteArray) (hs : s.size ≤ 100000) (n : Nat) (hn : GenIs s.data.toList n) (w : World) :
    Calls Tryd.prog 14 #[.string s] w fun e w' => e = .returned (.tuple #[.int .i64 (n : Int), .string (B (s.data.toList.drop (lenP n)))]) ∧ Below w.heap.size w w' := by
  have HZ := Lib.hid (Lib.size_eq s)
  have DZ := Lib.hid (drop_zero s)
  by_cases h9 : s.size < 9
  · obtain rfl := gen_one hn (gen_short (by rw [← HZ.out]; exact h9))
    rw [DZ.out]
    have q : decide ((s.size : Int) < 9) = true := by simp; omega
    go_enter Tryd.func14, Tryd.ntmps14
    go_wp2_with fail
    go_ret2
    exact ⟨rfl, Below.refl _ _⟩
  have q : decide ((s.size : Int) < 9) = false := by simp; omega
  have x6 : s.extract 0 6 = B (s.data.toList.take 6) := by rw [extractB, List.drop_zero]
  have c6 : (6 : Int) ≤ (s.size : Int) := by omega
  have sg : ((B (s.data.toList.take 6)).toList == [35, 37, 103, 101, 110, 32]) = decide (s.data.toList.take 6 = SIGN) := by
    rw [Lib.toList_data, B_data, Bool.eq_iff_iff]
    unfold SIGN
    simp
  by_cases hsg : s.data.toList.take 6 = SIGN
  rotate_left
  · obtain rfl := gen_one hn (gen_nosign hsg)
    rw [DZ.out]
    rw [decide_eq_false hsg] at sg
    generalize B (s.data.toList.take 6) = V at *
    go_enter Tryd.func14, Tryd.ntmps14
    go_wp2_with fail
    go_ret2
    exact ⟨rfl, Below.refl _ _⟩
  rw [decide_eq_true hsg] at sg
  have NU := Lib.hid (fun (l : List UInt8) (hl : l.length ≤ 1000000) W => Fr.number_any l hl W)
  have HN := Lib.hid hn
  have HSG := Lib.hid hsg
  clear hn hsg
  generalize B (s.data.toList.take 6) = V at *
  go_enter Tryd.func14, Tryd.ntmps14
  go_wp2_with fail
  go_loop [4] (fun i => ∃ k : Nat, k ≤ s.size ∧ 6 ≤ k ∧ i = .int .i64 k ∧ (10 : UInt8) ∉ (s.data.toList.take k).drop 6) (fun i => s.size - (intOf i).toNat)
  case atStart => exact ⟨6, by omega, Nat.le_refl _, rfl, by rw [List.drop_of_length_le (by rw [List.length_take]; omega)]; simp⟩
  case round =>
    obtain ⟨k, hk, h6, rfl, hno⟩ := hrel
    have ST := Lib.hid (show Stop s.data.toList k from ⟨HSG.out, h6, by rw [← HZ.out]; exact hk, hno⟩)
    have hxk : s.extract 6 k = B (dsOf s.data.toList k) := extractB s 6 k
    have hdl : (dsOf s.data.toList k).length ≤ 1000000 := by unfold dsOf; rw [List.length_drop, List.length_take]; omega
    have h6k : (6 : Int) ≤ (k : Int) := by omega
    have hks : (k : Int) ≤ (s.size : Int) := by omega
    by_cases hlt : k < s.size
    · have c1 := byteT (c := s[k]) 10 10 rfl
      cases hc : (s[k] == 10) with
      | false =>
        rw [hc] at c1
        have HNO := Lib.hid (no_snoc h6 hlt hno hc)
        clear hno hc hxk hdl
        go_wp2_with fail
        go_round
        case rel => exact ⟨k + 1, by omega, by omega, by go_num, HNO.out⟩
        case measure => simp [intOf]; omega
      | true =>
        rw [hc] at c1
        have AT : Hid (s.data.toList[k]? = some 10) := by show _ = _; rw [at_some hlt]; congr 1; simpa using hc
        have NUk := Lib.hid (NU.out _ hdl)
        have NO := Lib.hid (ST.out.no_num (.inr AT.out))
        have ONE := Lib.hid (ST.out.one (.inr AT.out))
        have YES := Lib.hid (fun g h1 h2 he2 hn => ST.out.yes (g := g) h1 h2 AT.out he2 hn)
        have AT1 := Lib.hid (fun (h : k + 1 < s.size) => at_some h)
        unfold Fr.numEnd at NUk
        generalize dsOf s.data.toList k = ds at *
        clear hno hc hdl
        cases hnum : Fr.numL ds with
        | none =>
          obtain rfl := gen_one HN.out (NO.out (fun n h => by rw [hnum] at h; cases h))
          rw [hnum] at NUk
          clear hnum
          go_wp2_with fail
          refine (NUk.out _).mono ?_
          rintro e w1 ⟨rfl, rfl⟩
          go_wp2_with fail
          go_ret2
          exact ⟨by rw [DZ.out]; rfl, Below.refl _ _⟩
        | some v =>
          have RG := Lib.hid (fun W => refgood_any v W)
          by_cases hv : 1 ≤ v ∧ v ≤ 2147483648
          rotate_left
          · obtain rfl := gen_one HN.out (NO.out (fun n h => by rw [hnum] at h; cases h; omega))
            rw [hnum] at NUk
            rw [decide_eq_false hv] at RG
            clear hnum
            go_wp2_with fail
            refine (NUk.out _).mono ?_
            rintro e w1 ⟨rfl, rfl⟩
            go_wp2_with fail
            refine (RG.out _).mono ?_
            rintro e w1 ⟨rfl, rfl⟩
            go_wp2_with fail
            go_ret2
            exact ⟨by rw [DZ.out]; rfl, Below.refl _ _⟩
          · rw [decide_eq_true hv] at RG
            obtain ⟨g, rfl⟩ : ∃ g : Nat, v = g := ⟨v.toNat, by omega⟩
            by_cases hl2 : k + 1 < s.size
            rotate_left
            · obtain rfl := gen_one HN.out (ONE.out (by rw [List.getElem?_eq_none (by rw [← HZ.out]; omega)]; simp))
              rw [hnum] at NUk
              have q2 : decide (((k : Int) + 1) ≥ (s.size : Int)) = true := by simp; omega
              have q3 : (s.size : Int) ≤ (k : Int) + 1 := by omega
              clear hnum
              go_wp2_with fail
              refine (NUk.out _).mono ?_
              rintro e w1 ⟨rfl, rfl⟩
              go_wp2_with fail
              refine (RG.out _).mono ?_
              rintro e w1 ⟨rfl, rfl⟩
              go_wp2_with fail
              go_ret2
              exact ⟨by rw [DZ.out]; rfl, Below.refl _ _⟩
            · have q2 : decide ((s.size : Int) ≤ (k : Int) + 1) = false := decide_eq_false (by omega)
              have c2 := byteT (c := s[k + 1]) 10 10 rfl
              cases hc2 : (s[k + 1] == 10) with
              | false =>
                obtain rfl := gen_one HN.out (ONE.out (by rw [AT1.out hl2]; intro h; have h := Option.some.inj h; rw [h] at hc2; simp at hc2))
                rw [hnum] at NUk
                rw [hc2] at c2
                clear hnum hc2
                go_wp2_with fail
                refine (NUk.out _).mono ?_
                rintro e w1 ⟨rfl, rfl⟩
                go_wp2_with fail
                refine (RG.out _).mono ?_
                rintro e w1 ⟨rfl, rfl⟩
                go_wp2_with fail
                go_ret2
                exact ⟨by rw [DZ.out]; rfl, Below.refl _ _⟩
              | true =>
                obtain ⟨y1, y2⟩ := YES.out g (by omega) (by omega) (by rw [AT1.out hl2]; congr 1; simpa using hc2) hnum
                obtain rfl := gen_one HN.out y1
                have Y2 := Lib.hid y2
                have E2 : Hid (s.extract (k + 2) s.size = B (s.data.toList.drop (k + 2))) := by
                  show _ = _
                  rw [← B_of (s.extract _ _), Lib.extract_to_end]
                rw [hnum] at NUk
                rw [hc2] at c2
                have k2 : (k : Int) + 2 ≤ (s.size : Int) := by omega
                have k3 : (0 : Int) ≤ (k : Int) + 2 := by omega
                clear hnum hc2 y1 y2
                go_wp2_with fail
                refine (NUk.out _).mono ?_
                rintro e w1 ⟨rfl, rfl⟩
                go_wp2_with fail
                refine (RG.out _).mono ?_
                rintro e w1 ⟨rfl, rfl⟩
                go_wp2_with fail
                go_quiet (fail)
                go_wp2_with fail
                go_ret2
                exact ⟨by rw [Y2.out, ← E2.out]; rfl, drewN_below (Below.refl _ _) _⟩
    · obtain rfl : k = s.size := by omega
      have NUk := Lib.hid (NU.out _ hdl)
      have NO := Lib.hid (ST.out.no_num (.inl HZ.out))
      have ONE := Lib.hid (ST.out.one (.inl HZ.out))
      unfold Fr.numEnd at NUk
      generalize dsOf s.data.toList s.size = ds at *
      clear hno hdl
      obtain rfl := gen_one HN.out (ONE.out (by rw [List.getElem?_eq_none (by rw [← HZ.out]; omega)]; simp))
      cases hnum : Fr.numL ds with
      | none =>
        rw [hnum] at NUk
        clear hnum
        go_wp2_with fail
        refine (NUk.out _).mono ?_
        rintro e w1 ⟨rfl, rfl⟩
        go_wp2_with fail
        go_ret2
        exact ⟨by rw [DZ.out]; rfl, Below.refl _ _⟩
      | some v =>
        have RG := Lib.hid (fun W => refgood_any v W)
        rw [hnum] at NUk
        clear hnum
        have q3 : (s.size : Int) ≤ (s.size : Int) + 1 := by omega
        cases hv : decide (1 ≤ v ∧ v ≤ 2147483648) with
        | false =>
          rw [hv] at RG
          clear hv
          go_wp2_with fail
          refine (NUk.out _).mono ?_
          rintro e w1 ⟨rfl, rfl⟩
          go_wp2_with fail
          refine (RG.out _).mono ?_
          rintro e w1 ⟨rfl, rfl⟩
          go_wp2_with fail
          go_ret2
          exact ⟨by rw [DZ.out]; rfl, Below.refl _ _⟩
        | true =>
          rw [hv] at RG
          clear hv
          go_wp2_with fail
          refine (NUk.out _).mono ?_
          rintro e w1 ⟨rfl, rfl⟩
          go_wp2_with fail
          refine (RG.out _).mono ?_
          rintro e w1 ⟨rfl, rfl⟩
          go_wp2_with fail
          go_ret2
          exact ⟨by rw [DZ.out]; rfl, Below.refl _ _⟩
end Go.Proofs.YthblpjjocokphaaDoor.Hd
