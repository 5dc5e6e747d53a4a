/- StanzaParses' walk. -/
import Derived.Test.YtafgebodmhkghaaDoorXQG
import Derived.Test.YtafgebodmhkghaaDoorBase4
set_option linter.unusedVariables false
namespace Go.Proofs.YtafgebodmhkghaaDoor
open Go.RowKit Go.Shelf

theorem take_no {t : List UInt8} {p : PS} {x : Ln} {a n : Nat} (h : takeP t p x = .error (a, n)) : n ≠ 0 ∧ n ≤ 11 := by
  unfold takeP at h
  split at h
  · rename_i hc
    cases h
    exact ⟨hc.2, endFieldN_le _⟩
  · split at h
    · cases h; exact ⟨by decide, by decide⟩
    · cases h
theorem run_no (t : List UInt8) : ∀ (xs : List Ln) (p : PS) (a n : Nat), runP t p xs = .error (a, n) → n ≠ 0 ∧ n ≤ 11
  | [], p, a, n, h => by cases h
  | x :: xs, p, a, n, h => by
    have h' : (match takeP t p x with | .error e => Except.error e | .ok q => runP t q xs) = .error (a, n) := h
    cases ht : takeP t p x with
    | error e =>
      rw [ht] at h'
      cases h'
      exact take_no ht
    | ok q =>
      rw [ht] at h'
      exact run_no t xs q a n h'
theorem parse_no {t : List UInt8} {a n : Nat} (h : parseL t = .error (a, n)) : n ≠ 0 ∧ n ≤ 11 := by
  unfold parseL at h
  cases hr : runP t PS.new (linesOf t) with
  | error e =>
    rw [hr] at h
    cases h
    exact run_no t _ _ _ _ hr
  | ok p =>
    rw [hr] at h
    dsimp only at h
    unfold lastP at h
    split at h
    · rename_i hc
      cases h
      exact ⟨hc, endFieldN_le _⟩
    · cases h
set_option maxHeartbeats 1000000 in
theorem refParse_long (s : ByteArray) (hs : 60000 < s.size) (h2 : s.size ≤ maxLen) (w : World) :
    Calls Tryd.prog 11 #[.string s] w fun e w' => e = .returned (.tuple #[.slice none 0 0, .int .i64 (-9), .int .i64 1]) ∧ Below w.heap.size w w' := by
  unfold maxLen at h2
  go_enter Tryd.func11, Tryd.ntmps11
  go_wp2_with fail
  refine bodyPost_ret (v := .tuple #[.slice none 0 0, .int .i64 (-9), .int .i64 1]) (by simp [results, Tryd.results11, go_sem]) rfl ?_
  exact ⟨rfl, Below.refl _ _⟩
theorem good_long (s : ByteArray) (hs : 60000 < s.size) (h2 : s.size ≤ maxLen) (w : World) :
    Calls Tryd.prog 15 #[.string s] w fun e w' => e = .returned (.bool false) ∧ Below w.heap.size w w' := by
  have P := Lib.hid (parse_long s hs h2 w)
  go_enter Tryd.func15, Tryd.ntmps15
  go_wp2_with fail
  refine P.out.mono ?_
  rintro e w1 ⟨rfl, b1⟩
  go_wp2_with fail
  go_ret
  exact ⟨rfl, b1⟩
theorem good_yes (s : ByteArray) (hs : s.size ≤ 60000) {its : List It} (hp : parseL s.data.toList = .ok its) (w : World) :
    Calls Tryd.prog 15 #[.string s] w fun e w' => e = .returned (.bool true) ∧ Below w.heap.size w w' := by
  have P := Lib.hid (parse_any s hs w)
  have HP := Lib.hid hp
  clear hp
  go_enter Tryd.func15, Tryd.ntmps15
  go_wp2_with fail
  refine P.out.mono ?_
  rintro e w1 hP
  obtain ⟨b1, v, rfl, i1, _⟩ := parseYes hP HP.out
  clear hP i1
  go_wp2_with fail
  go_ret
  exact ⟨rfl, b1⟩
theorem good_no (s : ByteArray) (hs : s.size ≤ 60000) {a n : Nat} (hp : parseL s.data.toList = .error (a, n)) (w : World) :
    Calls Tryd.prog 15 #[.string s] w fun e w' => e = .returned (.bool false) ∧ Below w.heap.size w w' := by
  have P := Lib.hid (parse_any s hs w)
  have HP := Lib.hid hp
  clear hp
  go_enter Tryd.func15, Tryd.ntmps15
  go_wp2_with fail
  refine P.out.mono ?_
  rintro e w1 hP
  obtain ⟨b1, v, rfl, q, _, rfl, _⟩ := parseNo hP HP.out
  clear hP
  go_wp2_with fail
  go_ret
  exact ⟨rfl, b1⟩
theorem refParsedNo {w w' : World} {t : List UInt8} {e : Ending} {a n : Nat} (h : RefParsed w t e w') (hp : parseL t = .error (a, n)) : Below w.heap.size w w' ∧ e = .returned (.tuple #[.slice none 0 0, .int .i64 (a : Nat), .int .i64 (n : Nat)]) := by
  obtain ⟨h1, h2⟩ := h
  rw [← parse_ref, hp] at h2
  exact ⟨h1, h2⟩
theorem refParsedYes {w w' : World} {t : List UInt8} {e : Ending} {its : List It} (h : RefParsed w t e w') (hp : parseL t = .ok its) : Below w.heap.size w w' ∧ ∃ v, e = .returned (.tuple #[v, .int .i64 (-9), .int .i64 0]) ∧ Its w' v its := by
  obtain ⟨h1, h2⟩ := h
  rw [← parse_ref, hp] at h2
  exact ⟨h1, h2⟩
set_option maxRecDepth 100000 in
set_option maxHeartbeats 8000000 in
theorem parsesLaw (s : ByteArray) (hs : s.size ≤ maxLen) (w : World) :
    Calls Tryd.prog 3 #[.string s] w fun e w' => e = .returned (.bool true) ∧ Below w.heap.size w w' := by
  have hs' := hs
  unfold maxLen at hs
  by_cases hmid : 8000 < s.size ∧ s.size ≤ 60000
  · obtain ⟨m1, m2⟩ := hmid
    go_enter Tryd.func3, Tryd.ntmps3
    go_wp2_with fail
    refine (alive_any _).mono ?_
    rintro e w1 ⟨rfl, b1⟩
    go_wp2_with fail
    go_ret
    exact ⟨rfl, b1⟩
  by_cases hlong : 60000 < s.size
  · have m1 : 8000 < s.size := by omega
    have m2 : ¬ s.size ≤ 60000 := by omega
    have PL := Lib.hid (fun w => parse_long s hlong hs' w)
    have RL := Lib.hid (fun w => refParse_long s hlong hs' w)
    have GL := Lib.hid (fun w => good_long s hlong hs' w)
    clear hmid hs'
    go_enter Tryd.func3, Tryd.ntmps3
    go_wp2_with fail
    refine (alive_any _).mono ?_
    rintro e w1 ⟨rfl, b1⟩
    have hz1 := b1.size
    go_wp2_with fail
    refine (PL.out _).mono ?_
    rintro e w2 ⟨rfl, b2⟩
    have hb2 := b1.trans (b2.mono hz1)
    have hz2 := hb2.size
    go_wp2_with fail
    refine (RL.out _).mono ?_
    rintro e w3 ⟨rfl, b3⟩
    have hb3 := hb2.trans (b3.mono hz2)
    have hz3 := hb3.size
    have NN := Lib.hid (fun W => num_any 1 (by decide) W)
    have AA := Lib.hid (fun W => at_err 1 W)
    have IQ := Lib.hid (items_quiet [] (.slice none 0 0) (.slice none 0 0) w3 (Its.empty _ _ _) (Its.empty _ _ _) (by decide) (fun y hy => by cases hy))
    clear PL RL b2 b3
    go_wp2_with fail
    refine (NN.out _).mono ?_
    rintro e w4 ⟨rfl, rfl⟩
    go_wp2_with fail
    refine (AA.out _).mono ?_
    rintro e w5 ⟨rfl, rfl⟩
    go_wp2_with fail
    refine IQ.out.mono ?_
    rintro e w6 ⟨rfl, m6, hw6⟩
    have hb6 : Below w.heap.size w w6 := by rw [hw6]; exact drewN_below hb3 m6
    have hz6 := hb6.size
    clear IQ hw6
    go_wp2_with fail
    refine (GL.out _).mono ?_
    rintro e w7 ⟨rfl, b7⟩
    go_wp2_with fail
    go_ret
    exact ⟨rfl, hb6.trans (b7.mono hz6)⟩
  have hsm : s.size ≤ 8000 := by omega
  have m1 : ¬ 8000 < s.size := by omega
  have PA := Lib.hid (fun w => parse_any s (by omega) w)
  have RA := Lib.hid (fun w => refParse_any s (by omega) w)
  cases hp : parseL s.data.toList with
  | error an =>
    obtain ⟨a, n⟩ := an
    obtain ⟨n0, n11⟩ := parse_no hp
    have HP := Lib.hid hp
    have GN := Lib.hid (fun w => good_no s (by omega) hp w)
    have hne : ((n : Int) != 0) = true := by simp; omega
    have hne2 : ((n : Int) == 0) = false := by simp; omega
    clear hp hmid hlong
    go_enter Tryd.func3, Tryd.ntmps3
    go_wp2_with fail
    refine (alive_any _).mono ?_
    rintro e w1 ⟨rfl, b1⟩
    have hz1 := b1.size
    go_wp2_with fail
    refine (PA.out _).mono ?_
    rintro e w2 hP
    obtain ⟨p1, v, rfl, hfa⟩ := parseNo hP HP.out
    have hb2 := b1.trans (p1.mono hz1)
    have hz2 := hb2.size
    have FA := Lib.hid hfa
    obtain ⟨q, _, rfl, _⟩ := hfa
    clear hP PA p1
    go_wp2_with fail
    refine (RA.out _).mono ?_
    rintro e w3 hP
    obtain ⟨p3, rfl⟩ := refParsedNo hP HP.out
    have hb3 := hb2.trans (p3.mono hz2)
    have hz3 := hb3.size
    have FA3 := FA.out.below p3 (Nat.le_refl _)
    have NN := Lib.hid (num_fault FA3 n0 (by omega))
    have AA := Lib.hid (at_fault FA3)
    have IQ := Lib.hid (items_quiet [] (.slice none 0 0) (.slice none 0 0) w3 (Its.empty _ _ _) (Its.empty _ _ _) (by decide) (fun y hy => by cases hy))
    clear hP RA p3 FA FA3 n0
    go_wp2_with fail
    refine NN.out.mono ?_
    rintro e w4 ⟨rfl, rfl⟩
    go_wp2_with fail
    refine AA.out.mono ?_
    rintro e w5 ⟨rfl, rfl⟩
    go_wp2_with fail
    refine IQ.out.mono ?_
    rintro e w6 ⟨rfl, m6, hw6⟩
    have hb6 : Below w.heap.size w w6 := by rw [hw6]; exact drewN_below hb3 m6
    have hz6 := hb6.size
    clear IQ hw6 NN AA
    go_wp2_with fail
    refine (GN.out _).mono ?_
    rintro e w7 ⟨rfl, b7⟩
    go_wp2_with fail
    go_ret
    exact ⟨rfl, hb6.trans (b7.mono hz6)⟩
  | ok its =>
    obtain ⟨hj, hl, heach⟩ := parse_join hp
    rw [← Lib.size_eq] at hl
    have hraw : ∀ it ∈ its, it.raw.length ≤ 100000 := fun it hi => by have := (heach it hi).2; rw [← Lib.size_eq] at this; omega
    have hfl : ∀ it ∈ its, it.fields.length ≤ 1000000 := fun it hi => by have := (heach it hi).1; omega
    have hrf : ∀ r ∈ recs its, r.length ≤ 1000000 := fun r hr => by
      unfold recs at hr
      obtain ⟨it, hi, rfl⟩ := List.mem_map.1 hr
      exact hfl it (List.mem_filter.1 hi).1
    have rl := recs_len its
    have HJ := Lib.hid hj
    have HRW := Lib.hid hraw
    have HFL := Lib.hid hfl
    have HRF := Lib.hid hrf
    have HP := Lib.hid hp
    have GY := Lib.hid (fun w => good_yes s (by omega) hp w)
    clear hp hmid hlong hj heach hraw hfl hrf
    go_enter Tryd.func3, Tryd.ntmps3
    go_wp2_with fail
    refine (alive_any _).mono ?_
    rintro e w1 ⟨rfl, b1⟩
    have hz1 := b1.size
    go_wp2_with fail
    refine (PA.out _).mono ?_
    rintro e w2 hP
    obtain ⟨p1, v, rfl, i2, n2⟩ := parseYes hP HP.out
    obtain ⟨la, lc, hle2, hlc, _⟩ := id i2
    subst hle2
    have hb2 := b1.trans (p1.mono hz1)
    have hz2 := hb2.size
    have I2 := Lib.hid i2
    have N2 := Lib.hid n2
    clear hP PA p1 i2 n2
    go_wp2_with fail
    refine (RA.out _).mono ?_
    rintro e w3 hP
    obtain ⟨p3, v3, rfl, i3⟩ := refParsedYes hP HP.out
    obtain ⟨ra, rc, hre2, hrc, _⟩ := id i3
    subst hre2
    have hb3 := hb2.trans (p3.mono hz2)
    have hz3 := hb3.size
    have hz23 := p3.size
    have I23 := Lib.hid (I2.out.below p3 (Nat.le_refl _))
    have I3 := Lib.hid i3
    have NI3 : Hid (NilI w3 (.slice la its.length lc) its) := by
      intro i b off n c m d e hi hc
      refine N2.out i b off n c m d e hi ?_
      cases e
      obtain ⟨it, hit⟩ : ∃ it, its[i]? = some it := ⟨_, List.getElem?_eq_getElem hi⟩
      obtain ⟨b', off', _, _, _, e', _, hbb, _, _, _, _⟩ := I2.out.at_ hit
      cases e'
      exact (p3.cell (p := ⟨b, off + i * 3 + 1 + 1, none⟩) hbb).symm.trans hc
    have NN := Lib.hid (fun W => num_any 0 (by decide) W)
    have AA := Lib.hid (fun W => at_nil W)
    have IQ := Lib.hid (items_quiet its _ _ w3 I23.out i3 (by omega) HFL.out)
    clear hP RA i3 I2 N2 p3
    go_wp2_with (go_at_call 12; refine (NN.out _).mono ?_; rintro e wn ⟨rfl, rfl⟩)
    refine (AA.out _).mono ?_
    rintro e w5 ⟨rfl, rfl⟩
    go_wp2_with fail
    refine IQ.out.mono ?_
    rintro e w6 ⟨rfl, m6, hw6⟩
    have b36 : Below w3.heap.size w3 w6 := by rw [hw6]; exact drewN_below (Below.refl _ _) m6
    have hb6 := hb3.trans (b36.mono hz3)
    have hz6 := hb6.size
    have hz36 := b36.size
    clear IQ hw6 NN AA
    go_wp2_with fail
    refine (GY.out _).mono ?_
    rintro e w7 ⟨rfl, b7⟩
    have b37 := b36.trans (b7.mono hz36)
    have hb7 := hb6.trans (b7.mono hz6)
    have hz7 := hb7.size
    have hz37 := b37.size
    have JN := Lib.hid (join_any its _ w7 (I23.out.below b37 (Nat.le_refl _)) (by omega) HRW.out)
    clear GY b7 b36
    go_wp2_with fail
    refine JN.out.mono ?_
    rw [HJ.out, B_of]
    rintro e w8 ⟨rfl, b8⟩
    have b38 := b37.trans (b8.mono hz37)
    have hb8 := hb7.trans (b8.mono hz7)
    have hz8 := hb8.size
    have hz38 := b38.size
    have NI8 : NilI w8 (.slice la its.length lc) its := by
      intro i b off n c m d e hi hc
      refine NI3.out i b off n c m d e hi ?_
      cases e
      obtain ⟨it, hit⟩ : ∃ it, its[i]? = some it := ⟨_, List.getElem?_eq_getElem hi⟩
      obtain ⟨b', off', _, _, _, e', _, hbb, _, _, _, _⟩ := I23.out.at_ hit
      cases e'
      exact (b38.cell (p := ⟨b, off + i * 3 + 1 + 1, none⟩) hbb).symm.trans hc
    have ST := Lib.hid (stanzas_any its _ w8 (I23.out.below b38 (Nat.le_refl _)) NI8 (by omega) HFL.out)
    clear JN b8 NI3 NI8 b37
    go_wp2_with fail
    refine ST.out.mono ?_
    rintro e w9 ⟨p, vs, rfl, ap⟩
    obtain ⟨pa, pc, hpe, hpl⟩ := own_slice ap.row
    subst hpe
    have b39 := b38.trans (ap.below.mono hz38)
    have hb9 := hb8.trans (ap.below.mono hz8)
    have hz9 := hb9.size
    have hvl := ap.len
    have RP := Lib.hid ap.rws
    rw [hvl] at RP ⊢
    have RS := Lib.hid (refStanzas_any its _ w9 (I3.out.below b39 (Nat.le_refl _)) (by omega))
    clear ap ST hvl hpl
    go_wp2_with fail
    refine RS.out.mono ?_
    rintro e w10 ⟨q, vs', rfl, ar⟩
    obtain ⟨qa, qc, hqe, _⟩ := own_slice ar.row
    subst hqe
    have hb10 := hb9.trans (ar.below.mono hz9)
    have hvl' := ar.len
    have RR := Lib.hid ar.rws
    rw [hvl'] at RR ⊢
    have RQ := Lib.hid (rows_quiet (recs its) _ _ w10 (RP.out.below ar.below (Nat.le_refl _)) RR.out (by omega) HRF.out)
    clear ar RS hvl' RP RR
    go_wp2_with fail
    refine RQ.out.mono ?_
    rintro e w11 ⟨rfl, m11, hw11⟩
    have hb11 : Below w.heap.size w w11 := by rw [hw11]; exact drewN_below hb10 m11
    clear RQ hw11
    go_wp2_with fail
    go_ret
    exact ⟨rfl, hb11⟩
theorem parsesCall (s : ByteArray) (w : World) (hs : s.size ≤ maxLen) :
    Calls Tryd.prog 3 #[.string s] w fun e w' => e = .returned (.bool true) ∧ Below w.heap.size w w' := parsesLaw s hs w
end Go.Proofs.YtafgebodmhkghaaDoor
