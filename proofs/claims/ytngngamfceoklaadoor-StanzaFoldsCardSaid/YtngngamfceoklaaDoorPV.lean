/- StanzaFolds' walk. -/
import Derived.Test.YtngngamfceoklaaDoorPU
import Derived.Test.YtngngamfceoklaaDoorPN
import Derived.Test.YtngngamfceoklaaDoorPM
import Derived.Test.YtngngamfceoklaaDoorGD
import Derived.Test.YtngngamfceoklaaDoorFO
namespace Go.Proofs.YtngngamfceoklaaDoor
open Go.RowKit Go.Shelf Go.ChangeShapes Go.WideShapes

attribute [local go_sem] errV_0
theorem foldN_good : ∀ (fs : List Fld), foldN fs = 0 → ∀ f ∈ fs, goodKey f.1 = true ∧ f.2.length ≤ 1000
  | [], _, f, hf => by cases hf
  | g :: r, h, f, hf => by
    unfold foldN at h
    split at h
    · rename_i h0
      rcases List.mem_cons.1 hf with rfl | hf
      · exact checkN_zero h0
      · exact foldN_good r h f hf
    · rename_i h0; exact absurd h h0
theorem foldT_lines {fs : List Fld} (h : foldN fs = 0) : foldT fs = textL (linesFs fs) := by
  unfold foldT
  rw [if_pos h]
  unfold foldG linesFs textL
  rw [List.flatMap_assoc]
theorem textL_len4 (k v : List UInt8) : (textL (linesL k v)).length ≤ k.length + 3 * v.length + 8 := by
  rw [textL_len]; have := lines_sum k v; omega
theorem foldT_len : ∀ (fs : List Fld), minF fs ≤ 6000 → (textL (linesFs fs)).length ≤ 3 * minF fs + 8 * fs.length
  | [], _ => by simp [linesFs, textL]
  | f :: r, h => by
    have e : minF (f :: r) = (min f.1.length 10000 + min f.2.length 10000) + minF r := rfl
    rw [e] at h ⊢
    have ih := foldT_len r (by omega)
    have h1 := textL_len4 f.1 f.2
    have e2 : textL (linesFs (f :: r)) = textL (linesL f.1 f.2) ++ textL (linesFs r) := by unfold linesFs; rw [List.flatMap_cons, textL_append]
    rw [e2, List.length_append, List.length_cons]
    omega

set_option maxRecDepth 100000 in
set_option maxHeartbeats 8000000 in
theorem foldsLaw5 (a b : List Fld) (va vb : Value) (note : ByteArray) (w : World) (ha : FldsIn w va a) (hb : FldsIn w vb b) (hs : note.size ≤ maxLen) :
    Calls Tryd.prog 6 #[va, vb, .string note] w fun e w' => e = .returned (.bool true) ∧ Below w.heap.size w w' := by
  have HA := Lib.hid ha
  have HB := Lib.hid hb
  obtain ⟨⟨A, cap, rfl, hle, _⟩, _, hal, _⟩ := id ha
  obtain ⟨⟨A', cap', rfl, hle', _⟩, _, hbl, _⟩ := id hb
  unfold maxLen at hs hal hbl
  go_enter Tryd.func6, Tryd.ntmps6
  go_wp2_with fail
  refine (alive_any _).mono ?_
  rintro e w1 ⟨rfl, b1⟩
  have hz1 := b1.size
  have SA1 := HA.out.flds.below b1 (Nat.le_refl _)
  have SB1 := HB.out.flds.below b1 (Nat.le_refl _)
  go_wp2_with fail
  refine (much_any a _ w1 SA1 HA.out.len HA.out.each).mono ?_
  rintro e w2 ⟨⟨ma, rfl, hma⟩, b2⟩
  have hb2 := b1.trans (b2.mono hz1)
  have hz2 := b2.size
  cases ma with
  | true =>
    clear hma
    go_wp2_with fail
    go_ret
    exact ⟨rfl, hb2⟩
  | false =>
    obtain ⟨na, la, sa⟩ := hma rfl
    clear hma
    have SB2 := SB1.below b2 (Nat.le_refl _)
    have SA2 := SA1.below b2 (Nat.le_refl _)
    go_wp2_with fail
    refine (much_any b _ w2 SB2 HB.out.len HB.out.each).mono ?_
    rintro e w3 ⟨⟨mb, rfl, hmb⟩, b3⟩
    have hb3 := hb2.trans (b3.mono (by omega))
    cases mb with
    | true =>
      clear hmb
      go_wp2_with fail
      go_ret
      exact ⟨rfl, hb3⟩
    | false =>
      obtain ⟨nb, lb, sb⟩ := hmb rfl
      have SA3 := SA2.below b3 (Nat.le_refl _)
      have SB3 := SB2.below b3 (Nat.le_refl _)
      clear SA1 SB1 SA2 SB2 hmb b1 b2 b3
      by_cases h1 : a.length = 0
      · have c1 : ((a.length : Int) == 0) = true := by rw [h1]; rfl
        go_wp2_with fail
        go_ret
        exact ⟨rfl, hb3⟩
      have c1 : ((a.length : Int) == 0) = false := beq_eq_false_iff_ne.2 (by omega)
      by_cases h2 : b.length = 0
      · have c2 : ((b.length : Int) == 0) = true := by rw [h2]; rfl
        go_wp2_with fail
        go_ret
        exact ⟨rfl, hb3⟩
      have c2 : ((b.length : Int) == 0) = false := beq_eq_false_iff_ne.2 (by omega)
      by_cases h3 : 40 < a.length
      · have c3 : decide ((40 : Int) < (a.length : Int)) = true := decide_eq_true (by omega)
        go_wp2_with fail
        go_ret
        exact ⟨rfl, hb3⟩
      have c3 : decide ((40 : Int) < (a.length : Int)) = false := decide_eq_false (by omega)
      by_cases h4 : 40 < b.length
      · have c4 : decide ((40 : Int) < (b.length : Int)) = true := decide_eq_true (by omega)
        go_wp2_with fail
        go_ret
        exact ⟨rfl, hb3⟩
      have c4 : decide ((40 : Int) < (b.length : Int)) = false := decide_eq_false (by omega)
      by_cases h5 : 200 < note.size
      · have c5 : decide ((200 : Int) < (note.size : Int)) = true := decide_eq_true (by omega)
        go_wp2_with fail
        go_ret
        exact ⟨rfl, hb3⟩
      have c5 : decide ((200 : Int) < (note.size : Int)) = false := decide_eq_false (by omega)
      have hz3 := hb3.size
      go_wp2_with fail
      go_loopw [48] (fun i wr => ∃ k : Nat, k ≤ note.size ∧ i = .int .i64 k ∧ (∀ j, j < k → note.data.toList[j]? ≠ some 10) ∧ Below w3.heap.size w3 wr) (fun i _ => note.size - (intOf i).toNat)
      case atStart => exact ⟨0, Nat.zero_le _, rfl, (fun j hj => absurd hj (Nat.not_lt_zero j)), Below.refl _ _⟩
      case round =>
        obtain ⟨k, hk, rfl, hno, hbr⟩ := hrel
        by_cases hlt : k < note.size
        · have e : note.data.toList[k]? = some note[k] := by
            rw [List.getElem?_eq_getElem (by rw [← Lib.size_eq]; exact hlt)]; rfl
          have E := Lib.hid e
          have HNO := Lib.hid hno
          clear e hno
          have q2 := byte_eq (c := note[k]) (d := 10) 10 rfl
          cases hc : (note[k] == 10) with
          | true =>
            rw [hc] at q2
            go_wp2_with fail
            go_ret
            exact ⟨rfl, hb3.trans (hbr.mono hz3)⟩
          | false =>
            rw [hc] at q2
            have hno2 : Hid (∀ j, j < k + 1 → note.data.toList[j]? ≠ some 10) := by
              intro j hj
              rcases Nat.lt_or_ge j k with q | q
              · exact HNO.out j q
              · obtain rfl : j = k := by omega
                rw [E.out]; simpa using hc
            go_wp2_with fail
            go_roundw
            case rel => exact ⟨k + 1, hlt, by go_num, hno2.out, hbr⟩
            case measure => simp [intOf]; omega
        · obtain rfl : k = note.size := by omega
          have hnote : (10 : UInt8) ∉ note.data.toList := by
            intro hm
            obtain ⟨j, hj⟩ := List.mem_iff_getElem?.1 hm
            refine hno j ?_ hj
            have := (List.getElem?_eq_some_iff.1 hj).1
            rw [← Lib.size_eq] at this; exact this
          have HNOTE := Lib.hid hnote
          have hb4 := hb3.trans (hbr.mono hz3)
          have SA4 := SA3.below hbr (Nat.le_refl _)
          have SB4 := SB3.below hbr (Nat.le_refl _)
          have hz4 := hb4.size
          have FA := fold_any a _ wr SA4 (by omega) (fun f hf => by have := la f hf; omega)
          have FB := Lib.hid (fun w' (h : Flds w' (.slice A' b.length cap') b) => fold_any b _ w' h (by omega) (fun f hf => by have := lb f hf; omega))
          have lenA := foldT_len a sa
          have lenB := foldT_len b sb
          have ne6a := foldN_le a
          have ne6b := foldN_le b
          clear hno hnote SA3 SB3 hbr la lb
          have GA := Lib.hid (foldN_good a)
          have GB := Lib.hid (foldN_good b)
          have TA := Lib.hid (fun h => foldT_lines (fs := a) h)
          have TB := Lib.hid (fun h => foldT_lines (fs := b) h)
          go_wp2_with fail
          refine FA.mono ?_
          rintro e w5 ⟨rfl, b5⟩
          have hb5 := hb4.trans (b5.mono hz4)
          have hz5 := hb5.size
          have SA5 := SA4.below b5 (Nat.le_refl _)
          have SB5 := SB4.below b5 (Nat.le_refl _)
          go_wp2_with fail
          refine (FB.out _ SB5).mono ?_
          rintro e w6 ⟨rfl, b6⟩
          have hb6 := hb5.trans (b6.mono hz5)
          have hz6 := hb6.size
          have SA6 := SA5.below b6 (Nat.le_refl _)
          have SB6 := SB5.below b6 (Nat.le_refl _)
          clear FA FB SA4 SB4 SA5 SB5 b5 b6
          by_cases fa : foldN a = 0
          · rw [fa, errV_0]
            by_cases fb : foldN b = 0
            · rw [fb, errV_0]
              have tA := TA.out fa
              have tB := TB.out fb
              rw [tA, tB]
              obtain ⟨r0, r1, r2, hpt⟩ := parse_two a b note.data.toList HNOTE.out (GA.out fa) (GB.out fb) (fun h => h1 (by rw [h]; rfl)) (fun h => h2 (by rw [h]; rfl)) (by omega) (by omega) _ rfl
              have ht : textL ([35 :: note.data.toList] ++ linesFs a ++ [[]] ++ linesFs b ++ [35 :: note.data.toList]) = [35] ++ note.data.toList ++ [10] ++ textL (linesFs a) ++ [10] ++ textL (linesFs b) ++ [35] ++ note.data.toList ++ [10] := by
                unfold textL; simp
              rw [ht] at hpt
              have hT : (⟨#[35]⟩ : ByteArray) ++ note ++ ⟨#[10]⟩ ++ B (textL (linesFs a)) ++ ⟨#[10]⟩ ++ B (textL (linesFs b)) ++ ⟨#[35]⟩ ++ note ++ ⟨#[10]⟩ = B ([35] ++ note.data.toList ++ [10] ++ textL (linesFs a) ++ [10] ++ textL (linesFs b) ++ [35] ++ note.data.toList ++ [10]) := by
                have e1 : (⟨#[35]⟩ : ByteArray) = B [35] := rfl
                have e2 : (⟨#[10]⟩ : ByteArray) = B [10] := rfl
                conv => lhs; rw [e1, e2, ← B_of note]
                simp only [B_append, B_data]
              have hsz : (B ([35] ++ note.data.toList ++ [10] ++ textL (linesFs a) ++ [10] ++ textL (linesFs b) ++ [35] ++ note.data.toList ++ [10])).size ≤ 60000 := by
                rw [B_size]
                simp only [List.length_append, List.length_cons, List.length_nil, ← Lib.size_eq]
                omega
              have PP := fun w' => parse_any _ hsz w'
              rw [B_data] at PP
              have HT := Lib.hid hT
              have HPT := Lib.hid hpt
              have zA := B_size (textL (linesFs a))
              have zB := B_size (textL (linesFs b))
              have PPH := Lib.hid PP
              clear hT hpt PP ht tA tB hsz GA GB TA TB
              generalize [35] ++ note.data.toList ++ [10] ++ textL (linesFs a) ++ [10] ++ textL (linesFs b) ++ [35] ++ note.data.toList ++ [10] = tt at *
              generalize textL (linesFs a) = xa at *
              generalize textL (linesFs b) = xb at *
              go_wp2_with fail
              rw [HT.out]
              refine (PPH.out _).mono ?_
              rintro e w7 hP
              obtain ⟨p1, v, rfl, A7, cap7, rfl, hle7, hc7⟩ := parsedYes hP HPT.out
              have hb7 := hb6.trans (p1.mono hz6)
              have hz7 := hb7.size
              obtain ⟨q, off, f0, rfl, hq, c00, _, c02, hf0⟩ := hc7 0 _ rfl
              obtain ⟨q1, off1, f1, e9, _, c10, _, _, _⟩ := hc7 1 _ rfl
              cases e9
              obtain ⟨q2, off2, f2, e9, _, c20, _, c22, hf2⟩ := hc7 2 _ rfl
              cases e9
              have SA7 := SA6.below p1 (Nat.le_refl _)
              have SB7 := SB6.below p1 (Nat.le_refl _)
              have F0 := fields_same a f0 _ w7 hf0 SA7 (by omega)
              obtain ⟨Af, capf, rfl, _, _⟩ := id hf0
              have F2 := Lib.hid (fun w' (h : Flds w' f2 b) (h' : Flds w' (.slice A' b.length cap') b) => fields_same b f2 _ w' h h' (by omega))
              have HF2 := Lib.hid hf2
              obtain ⟨Ag, capg, rfl, _, _⟩ := id hf2
              simp only [Nat.zero_mul, Nat.add_zero, List.length_cons, List.length_nil, Nat.reduceAdd, Nat.one_mul] at *
              clear hP hc7 HPT PPH HT p1 SA6 SB6 SA7 hf0 hf2 zA zB lenA lenB
              go_wp2_with fail
              refine F0.mono ?_
              rintro e w8 ⟨rfl, b8⟩
              have d10 := (b8.cell (p := ⟨q, off + 3, none⟩) hq).trans c10
              have d20 := (b8.cell (p := ⟨q, off + 2 * 3, none⟩) hq).trans c20
              have d22 := (b8.cell (p := ⟨q, off + 2 * 3 + 1 + 1, none⟩) hq).trans c22
              have hb8 := hb7.trans (b8.mono hz7)
              have G2 := F2.out _ (HF2.out.below b8 (Nat.le_refl _)) (SB7.below b8 (Nat.le_refl _))
              have hz8 := hb8.size
              have hq8 := b8.size
              clear F0 F2 HF2 SB7 b8 c00 c02 c10 c20 c22
              go_wp2_with fail
              refine G2.mono ?_
              rintro e w9 ⟨rfl, b9⟩
              go_wp2
              go_ret
              exact ⟨rfl, hb8.trans (b9.mono hz8)⟩
            · have e2 := errV_pos (foldN b) (by omega)
              rw [e2]
              clear e2 TA TB GA GB
              go_wp2_with fail
              go_ret
              exact ⟨rfl, hb6⟩
          · have e2 := errV_pos (foldN a) (by omega)
            rw [e2]
            clear e2 TA TB GA GB
            go_wp2_with fail
            go_ret
            exact ⟨rfl, hb6⟩
set_option maxRecDepth 100000 in
theorem foldsCall5 {H : Type} {enc : TypeId × Value → H} (v : Value) (d : DataW H) (p : List MemPlace) (v' : Value) (d' : DataW H) (p' : List MemPlace) (note : ByteArray) (W : World) {b0 : Nat} (hval : Value.okWide Tryd.prog W .any b0 40 v) {base : Nat} {sp : Nat → Bool} {held : Bool} (h : DataW.Trod enc Tryd.prog W base sp held 40 v d p)
    {b0' : Nat} (hval' : Value.okWide Tryd.prog W .any b0' 40 v') {base' : Nat} {sp' : Nat → Bool} {held' : Bool} (h' : DataW.Trod enc Tryd.prog W base' sp' held' 40 v' d' p') (hs : note.size ≤ maxLen) :
    Calls Tryd.prog 6 #[v, v', .string note] W fun e w' => e = .returned (.bool true) ∧ Below W.heap.size W w' := by
  obtain ⟨n, hn⟩ := h
  obtain ⟨n', hn'⟩ := h'
  obtain ⟨ao, len, cap, rfl⟩ := okWide_slice Tryd.underlying40 hval
  obtain ⟨ao', len', cap', rfl⟩ := okWide_slice Tryd.underlying40 hval'
  obtain ⟨fs, hf⟩ := flds_in (v := .slice ao len cap) hn
  obtain ⟨gs, hg⟩ := flds_in (v := .slice ao' len' cap') hn'
  exact foldsLaw5 fs gs _ _ note W hf hg hs
end Go.Proofs.YtngngamfceoklaaDoor
