/- StanzaCuts' walk. -/
import Derived.Test.YtngngamfceoklaaDoorPR
import Derived.Test.YtngngamfceoklaaDoorPN
import Derived.Test.YtngngamfceoklaaDoorPM
namespace Go.Proofs.YtngngamfceoklaaDoor
open Go.RowKit Go.Shelf

theorem Its.take {w : World} {A : Option Addr} {n cap : Nat} {its : List It} (h : Its w (.slice A n cap) its) (k : Nat) (hk : k ≤ its.length) : Its w (.slice A k cap) (its.take k) := by
  obtain ⟨A', cap', e, hle, hc⟩ := h
  cases e
  have hl : (its.take k).length = k := by rw [List.length_take]; omega
  refine ⟨A, cap, by rw [hl], by omega, fun i it hi => hc i it ?_⟩
  rw [List.getElem?_take] at hi
  split at hi
  · exact hi
  · cases hi
theorem Its.drop {w : World} {b off n cap : Nat} {its : List It} (h : Its w (.slice (some ⟨b, off, none⟩) n cap) its) (k : Nat) (hk : k ≤ its.length) : Its w (.slice (some ⟨b, off + k * 3, none⟩) (its.length - k) (cap - k)) (its.drop k) := by
  obtain ⟨A', cap', e, hle, hc⟩ := h
  cases e
  refine ⟨_, cap - k, by rw [List.length_drop], by rw [List.length_drop]; omega, fun i it hi => ?_⟩
  rw [List.getElem?_drop] at hi
  obtain ⟨b', off', fv, e, h1, h2, h3, h4, h5⟩ := hc _ it hi
  cases e
  refine ⟨b, off + k * 3, fv, rfl, h1, ?_, ?_, ?_, h5⟩
  · rw [show off + k * 3 + i * 3 = off + (k + i) * 3 by omega]; exact h2
  · rw [show off + k * 3 + i * 3 + 1 = off + (k + i) * 3 + 1 by omega]; exact h3
  · rw [show off + k * 3 + i * 3 + 1 + 1 = off + (k + i) * 3 + 1 + 1 by omega]; exact h4
theorem Its.nil (w : World) (A : Option Addr) (cap : Nat) : Its w (.slice A 0 cap) [] := ⟨A, cap, rfl, Nat.zero_le _, fun i it h => by simp at h⟩
/-- How many bytes the first items have. -/
def atI (its : List It) (k : Nat) : Nat := ((its.take k).flatMap It.raw).length
theorem atI_succ (its : List It) (k : Nat) (it : It) (h : its[k]? = some it) : atI its (k + 1) = atI its k + it.raw.length := by
  unfold atI; rw [List.take_add_one, h]; simp
theorem atI_le (its : List It) (t : List UInt8) (h : its.flatMap It.raw = t) (k : Nat) : atI its k ≤ t.length := by
  have e : t = (its.take k).flatMap It.raw ++ (its.drop k).flatMap It.raw := by rw [← List.flatMap_append, List.take_append_drop]; exact h.symm
  unfold atI
  rw [e, List.length_append]; omega

set_option maxRecDepth 100000 in
set_option maxHeartbeats 8000000 in
theorem cutsLaw (s : ByteArray) (hs : s.size ≤ maxLen) (w : World) :
    Calls Tryd.prog 7 #[.string s] w fun e w' => e = .returned (.bool true) ∧ Below w.heap.size w w' := by
  have hs' := hs
  unfold maxLen at hs'
  by_cases hlong : 3000 < s.size
  · go_enter Tryd.func7, Tryd.ntmps7
    go_wp2_with fail
    refine (alive_any _).mono ?_
    rintro e w1 ⟨rfl, b1⟩
    go_wp2_with fail
    go_ret
    exact ⟨rfl, b1⟩
  · have PA := fun w => parse_any s (by omega) w
    cases hp : parseL s.data.toList with
    | error an =>
      obtain ⟨a, n⟩ := an
      go_enter Tryd.func7, Tryd.ntmps7
      go_wp2_with fail
      refine (alive_any _).mono ?_
      rintro e w1 ⟨rfl, b1⟩
      go_wp2_with fail
      refine (PA _).mono ?_
      rintro e w2 hP
      obtain ⟨p1, v, rfl, q, _, rfl, _⟩ := parsedNo hP hp
      have hb := b1.trans (p1.mono b1.size)
      go_wp2_with fail
      go_ret
      exact ⟨rfl, hb⟩
    | ok its =>
      obtain ⟨hj, hl, heach⟩ := parse_join hp
      have CUT := Lib.hid (fun (i : Nat) (it : It) (h1 : its[i]? = some it) (h2 : it.kind = 1) => parse_cut hp h1 h2 (atI its (i + 1)) rfl)
      have ATL := Lib.hid (atI_le its _ hj)
      have EACH := Lib.hid heach
      have hz := Lib.size_eq s
      have HALL : Hid (atI its its.length = s.size) := by
        show _ = _
        unfold atI; rw [List.take_length, hj, hz]
      have HP := Lib.hid hp
      rw [← hz] at ATL hl
      clear hp hj heach hz
      go_enter Tryd.func7, Tryd.ntmps7
      go_wp2_with fail
      refine (alive_any _).mono ?_
      rintro e w1 ⟨rfl, b1⟩
      have hz1 := b1.size
      go_wp2_with fail
      refine (PA _).mono ?_
      rintro e w2 hP
      obtain ⟨p1, v, rfl, p2⟩ := parsedYes hP HP.out
      have hb2 := b1.trans (p1.mono hz1)
      obtain ⟨A, cap, rfl, hle, _⟩ := id p2
      have IT := Lib.hid p2
      clear hP PA p1 b1 p2
      go_wp2_with fail
      go_loopw [5, 26] (fun a i wr => ∃ k : Nat, k ≤ its.length ∧ i = .int .i64 k ∧ a = .int .i64 (atI its k : Nat) ∧ Below w2.heap.size w2 wr) (fun _ i _ => its.length - (intOf i).toNat)
      case atStart => exact ⟨0, Nat.zero_le _, rfl, rfl, Below.refl _ _⟩
      case round =>
        obtain ⟨k, hk, rfl, rfl, hb⟩ := hrel
        by_cases hlt : k < its.length
        · obtain ⟨it, hit⟩ : ∃ it, its[k]? = some it := ⟨_, List.getElem?_eq_getElem hlt⟩
          have ITr := IT.out.below hb (Nat.le_refl _)
          obtain ⟨b, off, cap', fa, fc, e, _, hbb, c0, c1, c2, hfl⟩ := ITr.at_ hit
          cases e
          have ha1 := atI_succ its k it hit
          have ha2 := ATL.out (k + 1)
          have ha3 := B_size it.raw
          have hba := hb.alloc hb.size (.cells #[.int .i64 it.kind, .string (B it.raw), .slice fa it.fields.length fc] 42)
          have e5 : Value.int .i64 ((atI its k : Int) + (it.raw.length : Int)) = Value.int .i64 ((atI its (k + 1) : Nat) : Int) := by rw [ha1]; rfl
          by_cases hk1 : it.kind = 1
          · obtain ⟨x1, x2, x3⟩ := CUT.out k it hit hk1
            rw [ha1] at x1 x2 x3 ha2
            rw [hk1] at hba c0
            obtain ⟨n, hn⟩ : ∃ n, atI its k + it.raw.length = n := ⟨_, rfl⟩
            have hni : (atI its k : Int) + (it.raw.length : Int) = (n : Nat) := by omega
            rw [hn] at x1 x2 x3 ha2
            have y1 : (s.extract 0 n).data.toList = s.data.toList.take n := by rw [Lib.extract_data]; simp
            have y2 : (s.extract n s.size).data.toList = s.data.toList.drop n := Lib.extract_to_end s _
            have P1 := fun w => parse_any (s.extract 0 n) (by rw [Lib.size_eq, y1, List.length_take]; omega) w
            have P2 := fun w => parse_any (s.extract n s.size) (by rw [Lib.size_eq, y2, List.length_drop, ← Lib.size_eq]; omega) w
            rw [y1] at P1
            rw [y2] at P2
            have X2 := Lib.hid x2
            have X3 := Lib.hid x3
            have E5 := Lib.hid e5
            have EK := Lib.hid EACH.out
            have HN := Lib.hid hn
            have HNI := Lib.hid hni
            have ha4 : atI its k + it.raw.length ≤ s.size := by omega
            have hzb := hba.size
            clear CUT x2 x3 y1 y2 hit e5 ha1 hn hni
            go_wp2_with fail
            rw [HN.out]
            refine (P1 _).mono ?_
            rintro e w3 hP
            obtain ⟨p1, v1, rfl, i1⟩ := parsedYes hP X2.out
            have hb3 := hba.trans (p1.mono hzb)
            have hz3 := hb3.size
            clear hP
            go_wp2_with fail
            rw [HN.out]
            refine (P2 _).mono ?_
            rintro e w4 hP
            obtain ⟨p3, v2, rfl, i2⟩ := parsedYes hP X3.out
            have hb4 := hb3.trans (p3.mono hz3)
            have hz4 := hb4.size
            have i1' := i1.below p3 (Nat.le_refl _)
            have iT := (IT.out.below hb4 (Nat.le_refl _)).take (k + 1) (by omega)
            have iD := (IT.out.below hb4 (Nat.le_refl _)).drop (k + 1) (by omega)
            obtain ⟨A1, cap1, rfl, hle1, _⟩ := id i1'
            obtain ⟨A2, cap2, rfl, hle2, _⟩ := id i2
            have IQ1 := Lib.hid (items_quiet _ _ _ _ i1' iT (by rw [List.length_take]; omega) (fun y hy => by have := (EK.out y (List.mem_of_mem_take hy)).1; omega))
            have IQ2 := Lib.hid (fun m => items_quiet _ _ _ (w4.drewN m) i2 iD (by rw [List.length_drop]; omega) (fun y hy => by have := (EK.out y (List.mem_of_mem_drop hy)).1; omega))
            have iE : its.length = k + 1 → Its w4 (.slice (some ⟨b, off, none⟩) (its.length - (k + 1)) 0) (its.drop (k + 1)) := fun h => by
              rw [List.drop_of_length_le (by omega), show its.length - (k + 1) = 0 by omega]; exact Its.nil _ _ _
            have IQ3 := Lib.hid (fun hh m => items_quiet _ _ _ (w4.drewN m) i2 (iE hh) (by rw [List.length_drop]; omega) (fun y hy => by have := (EK.out y (List.mem_of_mem_drop hy)).1; omega))
            clear hP P1 P2 ITr i1 i1' i2 iT iD iE p1 p3
            rw [List.length_take] at IQ1
            rw [List.length_drop] at IQ2 IQ3
            go_wp2_with fail
            refine IQ1.out.mono ?_
            rintro e w5 ⟨rfl, m5, rfl⟩
            by_cases hcap : cap = k + 1
            · subst hcap
              have IQ4 := IQ3.out (by omega) m5
              rw [show its.length - (k + 1) = 0 by omega] at IQ4
              clear IQ1 IQ2 IQ3
              go_wp2_with fail
              refine IQ4.mono ?_
              clear IQ4
              rintro e w6 ⟨rfl, m6, rfl⟩
              go_wp2_with fail
              go_roundw
              case rel => exact ⟨k + 1, hlt, by go_num, E5.out, drewN_below hb4 _⟩
              case measure => simp [intOf]; omega
            · have IQ4 := IQ2.out m5
              clear IQ1 IQ2 IQ3
              go_wp2_with fail
              refine IQ4.mono ?_
              clear IQ4
              rintro e w6 ⟨rfl, m6, rfl⟩
              go_wp2_with fail
              go_roundw
              case rel => exact ⟨k + 1, hlt, by go_num, E5.out, drewN_below hb4 _⟩
              case measure => simp [intOf]; omega
          · have hk2 : ((it.kind : Int) != 1) = true := by simp; omega
            have E5 := Lib.hid e5
            clear CUT EACH ITr hit e5
            go_wp2_with fail
            go_roundw
            case rel => exact ⟨k + 1, hlt, by go_num, E5.out, hba⟩
            case measure => simp [intOf]; omega
        · obtain rfl : k = its.length := by omega
          have HA := HALL.out
          rw [HA]
          clear CUT EACH
          go_wp2_with fail
          go_ret
          exact ⟨rfl, hb2.trans (hb.mono hb2.size)⟩
theorem cutsCall (s : ByteArray) (w : World) (hs : s.size ≤ maxLen) :
    Calls Tryd.prog 7 #[.string s] w fun e w' => e = .returned (.bool true) ∧ Below w.heap.size w w' := cutsLaw s hs w
end Go.Proofs.YtngngamfceoklaaDoor
