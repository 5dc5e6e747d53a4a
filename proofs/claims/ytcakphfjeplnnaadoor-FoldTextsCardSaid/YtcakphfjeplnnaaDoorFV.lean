/- Unfold and Plain by definition. -/
import Derived.Test.YtcakphfjeplnnaaDoorFU
namespace Go.Proofs.YtcakphfjeplnnaaDoor
open Go.RowKit Go.Shelf

theorem refUnfold_any (ls : List (List UInt8)) (v : Value) (w : World) (hs : Strs w v (ls.map B)) (hl : ∀ l ∈ ls, l.length ≤ 100000) (hn : ls.length ≤ 100000) (hj : (saidV ls).length ≤ 1000000) :
    Calls Tryd.prog 22 #[v] w fun e w' => e = .returned (.tuple #[fieldV (unfoldK ls) (unfoldV ls), .int .i64 (unfoldN ls : Nat)]) ∧ Below w.heap.size w w' := by
  cases ls with
  | nil =>
    have hF : sayF [] = false := rfl
    obtain ⟨e1, e2, e3⟩ := unfold_no hF
    rw [e1, e2, e3]
    exact refUnfold_no [] v w hs hl hn (.inl rfl)
  | cons a r =>
    by_cases hka : kindL a = 4
    · exact refUnfold_yes a r v w hs hl hn hj hka
    · have hF : sayF (a :: r) = false := by
        rw [sayF_eq]
        show (decide (0 < (a :: r).length) && ((kindL a == 4) && sayG 3 r)) = _
        simp [hka]
      obtain ⟨e1, e2, e3⟩ := unfold_no hF
      rw [e1, e2, e3]
      exact refUnfold_no (a :: r) v w hs hl hn (.inr ⟨a, r, rfl, hka⟩)
set_option maxRecDepth 100000 in
set_option maxHeartbeats 4000000 in
theorem refPlain_any (ls : List (List UInt8)) (v : Value) (w : World) (hs : Strs w v (ls.map B)) (hl : ∀ l ∈ ls, l.length ≤ 100000) (hn : ls.length ≤ 100000) (hj : (saidV ls).length ≤ 1000000) :
    Calls Tryd.prog 23 #[v] w fun e w' => e = .returned (.bool (plainL ls)) ∧ Below w.heap.size w w' := by
  have U := Lib.hid (refUnfold_any ls v w hs hl hn hj)
  by_cases h0 : unfoldN ls = 0
  · obtain ⟨hck, hkl, hvl⟩ := unfold_zero h0
    have LG := fun w => refLines_any (unfoldK ls) (unfoldV ls) (by omega) (by omega) w
    have hll : (linesL (unfoldK ls) (unfoldV ls)).length ≤ 100000 := by
      have := lines_sum (unfoldK ls) (unfoldV ls); omega
    have hP : plainL ls = decide (ls.map B = (linesL (unfoldK ls) (unfoldV ls)).map B) := by
      unfold plainL
      rw [h0]
      rw [Bool.eq_iff_iff]
      simp only [decide_true, Bool.true_and, beq_iff_eq, decide_eq_true_eq]
      rw [eq_comm]
      exact mapB_inj.symm
    have HP := Lib.hid hP
    rw [h0] at U
    generalize linesL (unfoldK ls) (unfoldV ls) = ln at *
    have STS := Lib.hid hs
    obtain ⟨A, cap, hv, hle, _⟩ := hs
    clear hck h0 hP
    unfold fieldV at *
    generalize B (unfoldK ls) = K at *
    generalize B (unfoldV ls) = V at *
    have hlm : (ls.map B).length = ls.length := List.length_map ..
    have hnm : (ln.map B).length = ln.length := List.length_map ..
    generalize ls.map B = bs at *
    generalize ln.map B = bn at *
    subst hv
    have U2 := U.out
    have STS2 := STS.out
    rw [hlm] at hle U2 STS2 ⊢
    clear U STS
    have U := Lib.hid U2
    have STS := Lib.hid STS2
    clear U2 STS2
    go_enter Tryd.func23, Tryd.ntmps23
    go_wp2_with fail
    refine U.out.mono ?_
    rintro e w1 ⟨rfl, b1⟩
    have S1 := STS.out.below b1 (Nat.le_refl _)
    have hs1 := b1.size
    have hba := b1.alloc hs1 (.cells #[.string K, .string V] 23)
    have S1a := Lib.hid (S1.alloc (.cells #[.string K, .string V] 23))
    clear S1 U STS
    go_wp2_with fail
    refine (LG _).mono ?_
    rintro e w2 ⟨sv, base, rfl, hown, b2⟩
    have S3 := S1a.out.below b2 (Nat.le_refl _)
    have hb2 := hba.trans (b2.mono (by simp; omega))
    have S2 := hown.strs
    obtain ⟨A2, cap2, hsv, hle2, hc2⟩ := S2
    obtain ⟨A3, cap3, hsv3, hle3, hc3⟩ := S3
    rw [hlm] at hsv3
    cases hsv3
    subst hsv
    rw [hnm] at hle2 ⊢
    have P2 := Lib.hid hc2
    have P3 := Lib.hid hc3
    clear b2 hba S1a LG b1 hown hc2 hc3
    by_cases hne : ls.length = ln.length
    · go_wp2_with fail
      go_loopw [6] (fun i wr => ∃ k : Nat, k ≤ ls.length ∧ i = .int .i64 k ∧ bs.take k = bn.take k ∧ Below w2.heap.size w2 wr) (fun i _ => ls.length - (intOf i).toNat)
      case atStart => exact ⟨0, Nat.zero_le _, rfl, rfl, Below.refl _ _⟩
      case round =>
        obtain ⟨k, hk, rfl, he, hbl⟩ := hrel
        by_cases hlt : k < ls.length
        · obtain ⟨x, e1⟩ : ∃ x, bs[k]? = some x := ⟨_, List.getElem?_eq_getElem (by omega)⟩
          obtain ⟨y, e2⟩ : ∃ y, bn[k]? = some y := ⟨_, List.getElem?_eq_getElem (by omega)⟩
          obtain ⟨b, off, rfl, hb, c1⟩ := P3.out k _ e1
          obtain ⟨b', off', rfl, hb', c2⟩ := P2.out k _ e2
          replace c1 := (hbl.cell (p := ⟨b, off + k, none⟩) hb).trans c1
          replace c2 := (hbl.cell (p := ⟨b', off' + k, none⟩) hb').trans c2
          have E := Lib.hid he
          have T1 : Hid (bs.take (k + 1) = bs.take k ++ [x]) := by show _ = _; rw [List.take_add_one, e1]; rfl
          have T2 : Hid (bn.take (k + 1) = bn.take k ++ [y]) := by show _ = _; rw [List.take_add_one, e2]; rfl
          have F := Lib.hid (show x ≠ y → bs ≠ bn from fun hn hs => by subst hs; rw [e1] at e2; exact hn (Option.some.inj e2))
          have hz : k < ln.length := by omega
          clear P2 P3 e1 e2 he
          by_cases hxy : x = y
          · subst hxy
            go_wp2_with (go_quiet (fail))
            go_roundw
            case rel => exact ⟨k + 1, hlt, by go_num, by rw [T1.out, T2.out, E.out], drewN_below hbl _⟩
            case measure => simp [intOf]; omega
          · have hx2 : ¬ x.toList = y.toList := fun e => hxy (by apply ByteArray.ext; apply Array.ext'; have := e; rw [Lib.toList_data, Lib.toList_data] at this; exact this)
            have F2 := Lib.hid (F.out hxy)
            clear F
            have hx3 : (x.toList == y.toList) = false := by simpa using hx2
            have hx4 : (x.toList != y.toList) = true := by simpa using hx2
            go_wp2_with (go_quiet (fail))
            go_ret
            exact ⟨by rw [HP.out]; simp [F2.out], hb2.trans ((drewN_below hbl _).mono hb2.size)⟩
        · obtain rfl : k = ls.length := by omega
          rw [List.take_of_length_le (by omega), List.take_of_length_le (by omega)] at he
          clear P2 P3
          go_wp2_with fail
          go_ret
          exact ⟨by rw [HP.out]; simp [he], hb2.trans (hbl.mono hb2.size)⟩
    · have hn : ((ls.length : Int) != ln.length) = true := by simp; omega
      have F := Lib.hid (show bs ≠ bn from fun hs => by subst hs; omega)
      clear P2 P3 hne
      go_wp2_with fail
      go_ret
      exact ⟨by rw [HP.out]; simp [F.out], hb2⟩
  · have hP : plainL ls = false := by unfold plainL; simp [h0]
    rw [hP]
    have hki : ((unfoldN ls : Int) != 0) = true := by simp; omega
    clear hs h0 hP
    unfold fieldV at *
    generalize B (unfoldK ls) = K at *
    generalize B (unfoldV ls) = V at *
    generalize unfoldN ls = n at *
    go_enter Tryd.func23, Tryd.ntmps23
    go_wp2_with fail
    refine U.out.mono ?_
    rintro e w1 ⟨rfl, b1⟩
    clear U
    go_wp2_with fail
    go_ret
    exact ⟨rfl, b1.alloc b1.size _⟩
end Go.Proofs.YtcakphfjeplnnaaDoor
