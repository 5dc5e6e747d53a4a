/- long: whether a script is more than is played. -/
import Derived.Test.YtdfjkcdmbbmipaaYH
namespace Go.Proofs.Ytdfjkcdmbbmipaa
open Go.RowKit Go.Maps

/-- What long answers: false only of what is short. -/
def LongR (ops : List OpV) (W : World) (e : Ending) (w' : World) : Prop := (∃ b, e = .returned (.bool b) ∧ (b = false → Short ops)) ∧ Below W.heap.size W w'
set_option maxRecDepth 100000 in
set_option maxHeartbeats 4000000 in
theorem long_any (v : Value) (ops : List OpV) (a : Addr) (W : World) (hs : Script W v ops a) :
    Calls Try.prog 9 #[v] W (LongR ops W) := by
  obtain ⟨ao, cap, rfl, hao⟩ := hs.val
  have hlm := hs.len
  unfold maxLen at hlm
  have HS := Lib.hid hs
  have HA := Lib.hid hao
  clear hs hao
  go_enter Try.func9, Try.ntmps9
  go_wp2
  go_loopw [7] (fun i wr => ∃ k : Nat, k ≤ ops.length ∧ k ≤ 61 ∧ i = .int .i64 k ∧ (∀ i (h : i < ops.length), i < k → shortOp ops[i]) ∧ Below W.heap.size W wr) (fun i _ => ops.length - (intOf i).toNat)
  case atStart => exact ⟨0, Nat.zero_le _, Nat.zero_le _, rfl, fun i _ h => by omega, Below.refl _ _⟩
  case round =>
    obtain ⟨k, hk, hk61, rfl, hsh, hbel⟩ := hrel
    by_cases hlt : k < ops.length
    · obtain rfl := HA.out (by omega)
      obtain ⟨q0, q1, q2, q3, q4⟩ := HS.out.cells wr hbel k hlt
      obtain ⟨⟨⟨ao2, cap2, hkv, _⟩, _, _⟩, hkl, hnl, htl, _, _⟩ := HS.out.ok ops[k] (List.getElem_mem hlt)
      have hlta : a.block < wr.heap.size := Nat.lt_of_lt_of_le (HS.out.lt (by omega)) hbel.size
      unfold maxLen at hkl hnl htl
      rw [hkv] at q4
      have HB := Lib.hid (hbel.alloc hbel.size (.cells #[.int .i64 ops[k].kind, .int .i64 ops[k].n, .string ops[k].name, .string ops[k].text, .slice ao2 ops[k].ks.length cap2] 40))
      have HSH := Lib.hid hsh
      have HO : Hid (shortOp ops[k] = (ops[k].text.size ≤ 200 ∧ ops[k].name.size ≤ 100 ∧ ops[k].ks.length ≤ 60)) := rfl
      have HE : Hid (ops[k] = ops[k]) := rfl
      generalize ho : ops[k] = o at *
      have HOE := Lib.hid ho
      clear hsh hbel ho hkv
      by_cases hgood : k ≤ 60 ∧ o.text.size ≤ 200 ∧ o.name.size ≤ 100 ∧ o.ks.length ≤ 60
      · obtain ⟨g1, g2, g3, g4⟩ := hgood
        have d1 : decide ((60 : Int) < (k : Int)) = false := decide_eq_false (by omega)
        have d2 : decide ((200 : Int) < (o.text.size : Int)) = false := decide_eq_false (by omega)
        have d3 : decide ((100 : Int) < (o.name.size : Int)) = false := decide_eq_false (by omega)
        have d4 : decide ((60 : Int) < (o.ks.length : Int)) = false := decide_eq_false (by omega)
        go_wp2
        go_roundw
        case rel =>
          refine ⟨k + 1, by omega, by omega, by go_num, fun i h hi => ?_, HB.out⟩
          by_cases hik : i < k
          · exact HSH.out i h hik
          · obtain rfl : i = k := by omega
            rw [HOE.out]
            exact ⟨g2, g3, g4⟩
        case measure => simp [intOf]; omega
      · have hc : 60 < k ∨ (k ≤ 60 ∧ 200 < o.text.size) ∨ (k ≤ 60 ∧ o.text.size ≤ 200 ∧ 100 < o.name.size) ∨ (k ≤ 60 ∧ o.text.size ≤ 200 ∧ o.name.size ≤ 100 ∧ 60 < o.ks.length) := by omega
        clear hgood
        rcases hc with hc | ⟨hc, hc2⟩ | ⟨hc, hc2, hc3⟩ | ⟨hc, hc2, hc3, hc4⟩
        · have d1 : decide ((60 : Int) < (k : Int)) = true := decide_eq_true (by omega)
          go_wp2
          go_ret
          exact ⟨⟨true, rfl, fun h => by cases h⟩, HB.out⟩
        · have d1 : decide ((60 : Int) < (k : Int)) = false := decide_eq_false (by omega)
          have d2 : decide ((200 : Int) < (o.text.size : Int)) = true := decide_eq_true (by omega)
          go_wp2
          go_ret
          exact ⟨⟨true, rfl, fun h => by cases h⟩, HB.out⟩
        · have d1 : decide ((60 : Int) < (k : Int)) = false := decide_eq_false (by omega)
          have d2 : decide ((200 : Int) < (o.text.size : Int)) = false := decide_eq_false (by omega)
          have d3 : decide ((100 : Int) < (o.name.size : Int)) = true := decide_eq_true (by omega)
          go_wp2
          go_ret
          exact ⟨⟨true, rfl, fun h => by cases h⟩, HB.out⟩
        · have d1 : decide ((60 : Int) < (k : Int)) = false := decide_eq_false (by omega)
          have d2 : decide ((200 : Int) < (o.text.size : Int)) = false := decide_eq_false (by omega)
          have d3 : decide ((100 : Int) < (o.name.size : Int)) = false := decide_eq_false (by omega)
          have d4 : decide ((60 : Int) < (o.ks.length : Int)) = true := decide_eq_true (by omega)
          go_wp2
          go_ret
          exact ⟨⟨true, rfl, fun h => by cases h⟩, HB.out⟩
    · have hk2 : k = ops.length := by omega
      have P := Lib.hid (show Short ops ∧ Below W.heap.size W wr from ⟨⟨by omega, fun i h => hsh i h (by omega)⟩, hbel⟩)
      clear hsh hbel
      go_wp2
      go_ret
      exact ⟨⟨false, rfl, fun _ => P.out.1⟩, P.out.2⟩
end Go.Proofs.Ytdfjkcdmbbmipaa
