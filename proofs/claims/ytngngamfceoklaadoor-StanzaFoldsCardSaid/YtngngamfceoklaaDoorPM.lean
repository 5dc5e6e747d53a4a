/- StanzaMany's walk. -/
import Derived.Test.YtngngamfceoklaaDoorPL
namespace Go.Proofs.YtngngamfceoklaaDoor
open Go.RowKit Go.Shelf

theorem u64_rem (a : Int) : ∃ m : Nat, m ≤ 4 ∧ (IntKind.u64.wrap a).tmod 5 = m := by
  have h : 0 ≤ IntKind.u64.wrap a := by
    simp [IntKind.wrap, IntKind.bits, IntKind.signed]; omega
  rw [Int.tmod_eq_emod_of_nonneg h]
  refine ⟨((IntKind.u64.wrap a) % 5).toNat, by omega, by omega⟩
theorem rem_in (a : Int) (k : Nat) (hk : k ≤ 1000) : ∃ n : Nat, k ≤ n ∧ n ≤ k + 4 ∧ wrap64 ((k : Int) + wrap64 ((IntKind.u64.wrap a).tmod 5)) = n := by
  obtain ⟨m, hm, e⟩ := u64_rem a
  rw [e]
  refine ⟨k + m, by omega, by omega, ?_⟩
  unfold wrap64; omega
theorem repB_text (n : Nat) (l : List UInt8) : B (repB n l) ++ B l = B (repB (n + 1) l) := by rw [repB_succ, ← B_append]
theorem parsedNo {w w' : World} {t : List UInt8} {e : Ending} {a n : Nat} (h : Parsed w t e w') (hp : parseL t = .error (a, n)) : Below w.heap.size w w' ∧ ∃ v, e = .returned (.tuple #[.slice none 0 0, v]) ∧ FaultAt w.heap.size w' v a n := by
  obtain ⟨h1, h2⟩ := h
  rw [hp] at h2
  exact ⟨h1, h2⟩
theorem parsedYes {w w' : World} {t : List UInt8} {e : Ending} {its : List It} (h : Parsed w t e w') (hp : parseL t = .ok its) : Below w.heap.size w w' ∧ ∃ v, e = .returned (.tuple #[v, .nilIface]) ∧ Its w' v its := by
  obtain ⟨h1, h2⟩ := h
  rw [hp] at h2
  exact ⟨h1, h2⟩
/-- The texts, parsed. -/
structure ManyP (n : Nat) (one : List UInt8) (small : Bool) : Prop where
  no : small = false → parseL one = .error (n, 11)

set_option maxRecDepth 100000 in
set_option maxHeartbeats 4000000 in
theorem manyLaw (a c : Int) (w : World) :
    Calls Tryd.prog 4 #[.int .i64 a, .int .i64 c] w fun e w' => e = .returned (.bool true) ∧ Below w.heap.size w w' := by
  obtain ⟨n, n1, n2, en⟩ := rem_in a 38 (by decide)
  obtain ⟨m, m1, m2, em⟩ := rem_in c 398 (by decide)
  have en' : wrap64 (38 + wrap64 ((IntKind.u64.wrap a).tmod 5)) = (n : Int) := en
  have em' : wrap64 (398 + wrap64 ((IntKind.u64.wrap c).tmod 5)) = (m : Int) := em
  clear en em
  have hA := one_all n (by omega) (by omega)
  have hB := many_all m (by omega) (by omega)
  have lA := repB_len n [65, 58, 10]
  have lB := repB_len m [65, 58, 10, 10]
  go_enter Tryd.func4, Tryd.ntmps4
  go_wp2_with fail
  refine (alive_any _).mono ?_
  rintro e w1 ⟨rfl, b1⟩
  go_wp2_with fail
  rw [en', em']
  have z1 : ∀ k, (B (repB k [65, 58, 10])).size = k * 3 := fun k => by rw [B_size, repB_len]; rfl
  have z2 : ∀ k, (B (repB k [65, 58, 10, 10])).size = k * 4 := fun k => by rw [B_size, repB_len]; rfl
  have r1 : ∀ k, B (repB k [65, 58, 10]) ++ ⟨#[65, 58, 10]⟩ = B (repB (k + 1) [65, 58, 10]) := fun k => repB_text k _
  have r2 : ∀ k, B (repB k [65, 58, 10, 10]) ++ ⟨#[65, 58, 10, 10]⟩ = B (repB (k + 1) [65, 58, 10, 10]) := fun k => repB_text k _
  have y1 : (⟨#[65, 58, 10]⟩ : ByteArray).size = 3 := rfl
  have y2 : (⟨#[65, 58, 10, 10]⟩ : ByteArray).size = 4 := rfl
  clear en' em'
  have R1 := Lib.hid r1
  have R2 := Lib.hid r2
  clear r1 r2
  have HA := Lib.hid hA
  have HB := Lib.hid hB
  clear hA hB
  go_loopw [5, 24] (fun t i wr => ∃ k : Nat, k ≤ n ∧ i = .int .i64 k ∧ t = .string (B (repB k [65, 58, 10])) ∧ Below w.heap.size w wr) (fun _ i _ => n - (intOf i).toNat)
  case atStart => exact ⟨0, Nat.zero_le _, rfl, rfl, b1⟩
  case round =>
    obtain ⟨k, hk, rfl, rfl, hb⟩ := hrel
    by_cases hlt : k < n
    · have zk := z1 k
      go_wp2
      go_roundw
      case rel => exact ⟨k + 1, hlt, by go_num, by rw [R1.out], hb⟩
      case measure => simp [intOf]; omega
    · obtain rfl : k = n := by omega
      have zk := z1 k
      have zm := z2 m
      go_wp2_with fail
      clear zk
      go_loopw [6, 30] (fun t i wr => ∃ j : Nat, j ≤ m ∧ i = .int .i64 j ∧ t = .string (B (repB j [65, 58, 10, 10])) ∧ Below w.heap.size w wr) (fun _ i _ => m - (intOf i).toNat)
      case atStart => exact ⟨0, Nat.zero_le _, rfl, rfl, hb⟩
      case round =>
        obtain ⟨j, hj, rfl, rfl, hb2⟩ := hrel
        by_cases hlt2 : j < m
        · have zj := z2 j
          go_wp2
          go_roundw
          case rel => exact ⟨j + 1, hlt2, by go_num, by rw [R2.out], hb2⟩
          case measure => simp [intOf]; omega
        · obtain rfl : j = m := by omega
          have zk := z1 k
          have zj := z2 j
          have PA := fun w => parse_any (B (repB k [65, 58, 10])) (by omega) w
          have PB := fun w => parse_any (B (repB j [65, 58, 10, 10])) (by omega) w
          rw [B_data] at PA PB
          have hz := hb2.size
          have hA := HA.out
          have hB := HB.out
          clear z1 z2 R1 R2 HA HB lA lB zk zj y1 y2
          generalize repB k [65, 58, 10] = tA at *
          generalize repB j [65, 58, 10, 10] = tB at *
          by_cases hk4 : k ≤ 40
          all_goals
            by_cases hj4 : j ≤ 400
            all_goals
              first | rw [if_pos hk4] at hA | rw [if_neg hk4] at hA
              first | rw [if_pos hj4] at hB | rw [if_neg hj4] at hB
          · obtain ⟨l, eA, q1, it, q2, q3⟩ := out_yes hA (by decide)
            obtain ⟨l', eB, q4, _⟩ := out_yes hB (by omega)
            go_wp2_with fail
            refine (PA _).mono ?_
            rintro e w2 hP
            obtain ⟨p1, v, rfl, p2⟩ := parsedYes hP eA
            have hb3 := hb2.trans (p1.mono hz)
            have hz3 := hb3.size
            have hz2 := p1.size
            go_wp2_with fail
            refine (PB _).mono ?_
            rintro e w3 hP
            obtain ⟨p3, v', rfl, p4⟩ := parsedYes hP eB
            have p5 := p2.below p3 (Nat.le_refl _)
            obtain ⟨b, off, cap, fa, fc, rfl, hle, hlt, c0, c1, c2, hfl⟩ := p5.at_ q2
            obtain ⟨A', cap', rfl, _⟩ := p4
            have hb4 := hb3.trans (p3.mono hz3)
            rw [Nat.zero_mul, Nat.add_zero] at c0 c1 c2
            clear p5 hP PA PB hA hB eA eB
            rw [q1] at hle ⊢
            rw [q3] at c2 hfl
            rw [q4]
            have e1 : ((1 : Nat) : Int) = 1 := rfl
            have e2 : IntKind.i64.wrap (2 * (j : Int)) = 2 * (j : Int) := IntWalk.i64_in _ (by omega)
            have e3 : ((2 * j : Nat) : Int) = 2 * (j : Int) := by omega
            go_wp2
            go_ret
            exact ⟨rfl, hb4⟩
          · obtain ⟨l, eA, q1, it, q2, q3⟩ := out_yes hA (by decide)
            have eB := out_no hB (by decide)
            go_wp2_with fail
            refine (PA _).mono ?_
            rintro e w2 hP
            obtain ⟨p1, v, rfl, p2⟩ := parsedYes hP eA
            have hb3 := hb2.trans (p1.mono hz)
            have hz3 := hb3.size
            have hz2 := p1.size
            go_wp2_with fail
            refine (PB _).mono ?_
            rintro e w3 hP
            obtain ⟨p3, v', rfl, p4⟩ := parsedNo hP eB
            have p5 := p2.below p3 (Nat.le_refl _)
            have hb4 := hb3.trans (p3.mono hz3)
            obtain ⟨q', _, hv', _⟩ := id p4
            subst hv'
            obtain ⟨b, off, cap, fa, fc, rfl, hle, hlt, c0, c1, c2, hfl⟩ := p5.at_ q2
            rw [Nat.zero_mul, Nat.add_zero] at c0 c1 c2
            clear p5 hP PA PB hA hB eA eB
            rw [q1] at hle ⊢
            rw [q3] at c2 hfl
            have e1 : ((1 : Nat) : Int) = 1 := rfl
            go_wp2_with fail
            refine (is_fault p4 (by decide) (by decide) 11).mono ?_
            rintro e w4 ⟨rfl, rfl⟩
            go_wp2_with fail
            refine (at_fault p4).mono ?_
            rintro e w4 ⟨rfl, rfl⟩
            go_wp2
            go_ret
            exact ⟨rfl, hb4⟩
          · have eA := out_no hA (by decide)
            obtain ⟨l', eB, q4, _⟩ := out_yes hB (by omega)
            go_wp2_with fail
            refine (PA _).mono ?_
            rintro e w2 hP
            obtain ⟨p1, v, rfl, p2⟩ := parsedNo hP eA
            have hb3 := hb2.trans (p1.mono hz)
            have hz3 := hb3.size
            have hz2 := p1.size
            obtain ⟨q, _, hv, _⟩ := id p2
            subst hv
            go_wp2_with fail
            refine (PB _).mono ?_
            rintro e w3 hP
            obtain ⟨p3, v', rfl, p4⟩ := parsedYes hP eB
            have p5 := p2.below p3 (Nat.le_refl _)
            have hb4 := hb3.trans (p3.mono hz3)
            obtain ⟨A', cap', rfl, _⟩ := p4
            clear hP PA PB hA hB eA eB
            rw [q4]
            have e2 : IntKind.i64.wrap (2 * (j : Int)) = 2 * (j : Int) := IntWalk.i64_in _ (by omega)
            have e3 : ((2 * j : Nat) : Int) = 2 * (j : Int) := by omega
            go_wp2_with fail
            refine (is_fault p5 (by decide) (by decide) 11).mono ?_
            rintro e w4 ⟨rfl, rfl⟩
            go_wp2_with fail
            refine (at_fault p5).mono ?_
            rintro e w4 ⟨rfl, rfl⟩
            go_wp2
            go_ret
            exact ⟨rfl, hb4⟩
          · have eA := out_no hA (by decide)
            have eB := out_no hB (by decide)
            go_wp2_with fail
            refine (PA _).mono ?_
            rintro e w2 hP
            obtain ⟨p1, v, rfl, p2⟩ := parsedNo hP eA
            have hb3 := hb2.trans (p1.mono hz)
            have hz3 := hb3.size
            have hz2 := p1.size
            obtain ⟨q, _, hv, _⟩ := id p2
            subst hv
            go_wp2_with fail
            refine (PB _).mono ?_
            rintro e w3 hP
            obtain ⟨p3, v', rfl, p4⟩ := parsedNo hP eB
            have p5 := p2.below p3 (Nat.le_refl _)
            have hb4 := hb3.trans (p3.mono hz3)
            obtain ⟨q', _, hv', _⟩ := id p4
            subst hv'
            clear hP PA PB hA hB eA eB
            go_wp2_with fail
            refine (is_fault p5 (by decide) (by decide) 11).mono ?_
            rintro e w4 ⟨rfl, rfl⟩
            go_wp2_with fail
            refine (at_fault p5).mono ?_
            rintro e w4 ⟨rfl, rfl⟩
            go_wp2_with fail
            refine (is_fault p4 (by decide) (by decide) 11).mono ?_
            rintro e w4 ⟨rfl, rfl⟩
            go_wp2_with fail
            refine (at_fault p4).mono ?_
            rintro e w4 ⟨rfl, rfl⟩
            go_wp2
            go_ret
            exact ⟨rfl, hb4⟩
theorem manyCall (a c : Int) (w : World) (_ : (Lit.int IntKind.i64 a).wf = true) (_ : (Lit.int IntKind.i64 c).wf = true) :
    Calls Tryd.prog 4 #[.int .i64 a, .int .i64 c] w fun e w' => e = .returned (.bool true) ∧ Below w.heap.size w w' := manyLaw a c w
end Go.Proofs.YtngngamfceoklaaDoor
