/- PrintVerbatim's walk. -/
import Derived.Test.YtafgebodmhkghaaDoorBase4
set_option linter.unusedVariables false
namespace Go.Proofs.YtafgebodmhkghaaDoor
open Go.RowKit Go.Shelf

set_option maxRecDepth 100000 in
set_option maxHeartbeats 8000000 in
theorem verbatimLaw (s : ByteArray) (hs : s.size ≤ maxLen) (w : World) :
    Calls Tryd.prog 7 #[.string s] w fun e w' => e = .returned (.bool true) ∧ Below w.heap.size w w' := by
  unfold maxLen at hs
  by_cases hlong : 5000 < s.size
  · go_enter Tryd.func7, Tryd.ntmps7
    go_wp2_with fail
    refine (alive6_any _).mono ?_
    rintro e w1 ⟨rfl, b1⟩
    go_wp2_with fail
    go_ret
    exact ⟨rfl, b1⟩
  · have PA := fun w => parse_any s (by omega) w
    cases hp : parseL s.data.toList with
    | error an =>
      obtain ⟨a, n⟩ := an
      go_enter Tryd.func7, Tryd.ntmps7
      go_wp2_with fail
      refine (alive6_any _).mono ?_
      rintro e w1 ⟨rfl, b1⟩
      go_wp2_with fail
      refine (PA _).mono ?_
      rintro e w2 hP
      obtain ⟨p1, v, rfl, q, _, rfl, _⟩ := parseNo hP hp
      have hb := b1.trans (p1.mono b1.size)
      go_wp2_with fail
      go_ret
      exact ⟨rfl, hb⟩
    | ok its =>
      obtain ⟨hj, hl, heach⟩ := parse_join hp
      have hap : apartL its = its := (parse_blks hp).2.apart
      have hz := Lib.size_eq s
      rw [← hz] at hl
      have hraw : ∀ it ∈ its, it.raw.length ≤ 100000 := fun it hi => by have := (heach it hi).2; omega
      have hfl : ∀ it ∈ its, it.fields.length ≤ 1000000 := fun it hi => by have := (heach it hi).1; omega
      have HJ := Lib.hid hj
      have HAP := Lib.hid hap
      have HP := Lib.hid hp
      have HRW := Lib.hid hraw
      have HFL := Lib.hid hfl
      clear hj hap hp hz heach hraw hfl
      go_enter Tryd.func7, Tryd.ntmps7
      go_wp2_with fail
      refine (alive6_any _).mono ?_
      rintro e w1 ⟨rfl, b1⟩
      have hz1 := b1.size
      go_wp2_with fail
      refine (PA _).mono ?_
      rintro e w2 hP
      obtain ⟨p1, v, rfl, p2, p3⟩ := parseYes hP HP.out
      have hb2 := b1.trans (p1.mono hz1)
      have hz2 := hb2.size
      obtain ⟨A, cap, rfl, hle, _⟩ := id p2
      have IT := Lib.hid p2
      have NI := Lib.hid p3
      have RE := Lib.hid (render_any its _ w2 p2 p3 (by omega) HFL.out HRW.out)
      clear hP PA p1 b1 p2 p3
      go_wp2_with fail
      refine RE.out.mono ?_
      rw [HAP.out, HJ.out, B_of]
      rintro e w3 ⟨rfl, b3⟩
      have hb3 := hb2.trans (b3.mono hz2)
      have hz3 := hb3.size
      have NI3 : NilI w3 (.slice A its.length cap) its := by
        intro i b off n c m d e hi hc
        refine NI.out i b off n c m d e hi ?_
        cases e
        obtain ⟨it, hit⟩ : ∃ it, its[i]? = some it := ⟨_, List.getElem?_eq_getElem hi⟩
        obtain ⟨b', off', _, _, _, e', _, hbb, _, _, _, _⟩ := IT.out.at_ hit
        cases e'
        exact (b3.cell (p := ⟨b, off + i * 3 + 1 + 1, none⟩) hbb).symm.trans hc
      have AP := Lib.hid (apart_any its _ w3 (IT.out.below b3 (Nat.le_refl _)) NI3 (by omega) HFL.out)
      have IT3 := Lib.hid (IT.out.below b3 (Nat.le_refl _))
      clear NI NI3 RE b3 IT
      go_wp2_with fail
      refine AP.out.mono ?_
      rw [HAP.out]
      rintro e w4 ⟨u, fvs, rfl, acc⟩
      obtain ⟨ua, uc, hue, _⟩ := own_slice acc.row
      subst hue
      have b4 := acc.below
      have hb4 := hb3.trans (b4.mono hz3)
      have IQ := Lib.hid (items_quiet its _ _ w4 acc.its (IT3.out.below b4 (Nat.le_refl _)) (by omega) HFL.out)
      clear AP acc IT3 b4
      go_wp2_with fail
      refine IQ.out.mono ?_
      rintro e w5 ⟨rfl, m, hw5⟩
      have hb5 : Below w.heap.size w w5 := by rw [hw5]; exact drewN_below hb4 m
      clear IQ hw5
      go_wp2_with fail
      go_ret
      exact ⟨rfl, hb5⟩
theorem verbatimCall (s : ByteArray) (w : World) (hs : s.size ≤ maxLen) :
    Calls Tryd.prog 7 #[.string s] w fun e w' => e = .returned (.bool true) ∧ Below w.heap.size w w' := verbatimLaw s hs w
end Go.Proofs.YtafgebodmhkghaaDoor
