/- Texts put together: BL. -/
import Derived.Test.YtgaooalckjjplaaGreatDoorBfa1
import Derived.Test.YtgaooalckjjplaaGreatDoorBfa2
import Derived.Test.YtgaooalckjjplaaGreatDoorBfa3
import Derived.Test.YtgaooalckjjplaaGreatDoorBfa4
import Derived.Test.YtgaooalckjjplaaGreatDoorBfa5
import Derived.Test.YtgaooalckjjplaaGreatDoorBfa7
import Derived.Test.YtgaooalckjjplaaGreatDoorBfa8
import Derived.Test.YtgaooalckjjplaaGreatDoorBfa9
import Derived.Test.YtgaooalckjjplaaGreatDoorBfa10
import Derived.Test.YtgaooalckjjplaaGreatDoorBfa11
import Derived.Test.YtgaooalckjjplaaGreatDoorBfa12
import Derived.Test.YtgaooalckjjplaaGreatDoorBfa13
import Derived.Test.YtgaooalckjjplaaGreatDoorBfa14
import Derived.Test.YtgaooalckjjplaaGreatDoorBfa15
import Derived.Test.YtgaooalckjjplaaGreatDoorBfa16
import Derived.Test.YtgaooalckjjplaaGreatDoorBfa17
import Derived.Test.YtgaooalckjjplaaGreatDoorBdd1
import Derived.Test.YtgaooalckjjplaaGreatDoorBdd2
import Derived.Test.YtgaooalckjjplaaGreatDoorBdd3
import Derived.Test.YtgaooalckjjplaaGreatDoorBdd4
import Derived.Test.YtgaooalckjjplaaGreatDoorBdd5
import Derived.Test.YtgaooalckjjplaaGreatDoorBdd6
import Derived.Test.YtgaooalckjjplaaGreatDoorBdd7
import Derived.Test.YtgaooalckjjplaaGreatDoorBdd8
import Derived.Test.YtgaooalckjjplaaGreatDoorBdd9
import Derived.Test.YtgaooalckjjplaaGreatDoorBdd10
import Derived.Test.YtgaooalckjjplaaGreatDoorBdd11
import Derived.Test.YtgaooalckjjplaaGreatDoorBdd12
set_option linter.unusedVariables false
namespace Go.Proofs.YtgaooalckjjplaaGreatDoor
open Go.RowKit Go.Shelf
attribute [local go_sem] Oper.semAt_some

theorem isD_any (w : World) : Calls Tryz.prog 21 #[.iface 54 (.int .i64 2), .int .i64 2] w fun e w' => e = .returned (.bool true) ∧ w = w' := by
  have N1 := Lib.hid (num_any 2 (by omega) w)
  rw [errV_2] at N1
  go_enter Tryz.func21, Tryz.ntmps21
  go_wp2_with fail
  refine N1.out.mono ?_
  rintro e w1 ⟨rfl, rfl⟩
  go_wp2_with fail
  go_ret
  exact ⟨rfl, rfl⟩
theorem edits_nil (w : World) : Calls Tryz.prog 13 #[.slice none 0 0, .slice none 0 0] w fun e w' => e = .returned (.bool true) ∧ ∃ m, w' = w.drewN m :=
  edits_quiet [] _ _ w ⟨none, 0, rfl, Nat.le_refl _, fun i ed h => by simp at h⟩ ⟨none, 0, rfl, Nat.le_refl _, fun i ed h => by simp at h⟩ (by simp) (fun ed h => by simp at h)
set_option maxRecDepth 100000 in
set_option maxHeartbeats 8000000 in
theorem decodesLaw (s : ByteArray) (w : World) (hT : Tabs w) :
    Calls Tryz.prog 4 #[.string s] w fun e w' => e = .returned (.bool true) ∧ Below w.heap.size w w' := by
  have AL := Lib.hid (aliveA_any w hT)
  by_cases h1 : 5000 < s.size
  · have q1 : (5000 : Int) < s.size := by omega
    go_enter Tryz.func4, Tryz.ntmps4
    go_wp2_with fail
    refine AL.out.mono ?_
    rintro e w1 ⟨rfl, hb1⟩
    go_wp2_with fail
    go_ret
    exact ⟨rfl, hb1⟩
  · have q1 : ¬ (5000 : Int) < s.size := by omega
    obtain ⟨l, rfl⟩ := of_B s
    have bl := B_size l
    have DC := Lib.hid (fun w hT => decode_any l (by unfold maxLen; omega) w hT)
    have RD := Lib.hid (fun w => refDecode_any l (by omega) w)
    have hl5 : l.length ≤ 5000 := by omega
    have HT := Lib.hid hT
    clear bl hT
    generalize hX : B l = X at *
    go_enter Tryz.func4, Tryz.ntmps4
    go_wp2_with fail
    refine AL.out.mono ?_
    rintro e w1 ⟨rfl, b1⟩
    have B1 := Lib.hid b1
    clear b1
    go_wp2_with fail
    refine (DC.out _ (HT.out.below B1.out (Nat.le_refl _))).mono ?_
    rintro e w2 ⟨b2, ⟨hn, rfl⟩ | ⟨eds, u, fvs, hd, rfl, hO⟩⟩
    · have B2 := Lib.hid (B1.out.trans (b2.mono B1.out.size))
      clear b2
      go_wp2_with fail
      refine (RD.out _).mono ?_
      rintro e w3 ⟨b3, ⟨_, rfl⟩ | ⟨eds, u, fvs, hd, rfl, hO⟩⟩
      · have B3 := Lib.hid (B2.out.trans (b3.mono B2.out.size))
        clear b3 hn
        go_wp2_with fail
        refine (isD_any _).mono ?_
        rintro e w4 ⟨rfl, rfl⟩
        go_wp2_with fail
        refine (edits_nil _).mono ?_
        rintro e w5 ⟨rfl, m, rfl⟩
        have B5 : Hid (Below w.heap.size w (w3.drewN m)) := ⟨B3.out.os, B3.out.tape, B3.out.output, B3.out.size, B3.out.block⟩
        go_wp2_with fail
        go_ret
        exact ⟨rfl, B5.out⟩
      · rw [hn] at hd; cases hd
    · have B2 := Lib.hid (B1.out.trans (b2.mono B1.out.size))
      have HO := Lib.hid hO
      obtain ⟨ua, uc, rfl, _⟩ := own_slice hO.row
      clear b2 hO
      go_wp2_with fail
      refine (RD.out _).mono ?_
      rintro e w3 ⟨b3, ⟨hn, rfl⟩ | ⟨eds', u', fvs', hd', rfl, hO'⟩⟩
      · rw [hn] at hd; cases hd
      · rw [hd] at hd'
        obtain rfl := Option.some.inj hd'
        have B3 := Lib.hid (B2.out.trans (b3.mono B2.out.size))
        obtain ⟨hl, hchk, hids, htx⟩ := decL_iff.1 hd
        have HO2 := Lib.hid (HO.out.below b3 (Nat.le_refl _))
        have HO' := Lib.hid hO'
        obtain ⟨va, vc, rfl, _⟩ := own_slice hO'.row
        obtain ⟨⟨n1, n40⟩, hg⟩ := chkB_good hchk
        have hfin : Fines eds := okD_fines hl5 (endD_ok (endD_of hd))
        have EQ := Lib.hid (edits_quiet eds _ _ w3 HO2.out.edv HO'.out.edv (by omega) hfin)
        have HI := Lib.hid hids
        have HC := Lib.hid hchk
        have HTX := Lib.hid htx
        have HF := Lib.hid hfin
        clear b3 hO' hd hd' hl hg hids hchk htx hfin
        go_wp2_with fail
        refine EQ.out.mono ?_
        rintro e w5 ⟨rfl, m, rfl⟩
        have b5 : Below w3.heap.size w3 (w3.drewN m) := ⟨rfl, rfl, rfl, Nat.le_refl _, fun _ _ => rfl⟩
        have B5 := Lib.hid (B3.out.trans (b5.mono B3.out.size))
        have EN := Lib.hid (encode_any eds _ (w3.drewN m) (HO2.out.below b5 (Nat.le_refl _)).edv (by omega) HF.out.eight HI.out (HT.out.below B5.out (Nat.le_refl _)))
        clear b5 EQ
        generalize w3.drewN m = w6 at *
        go_wp2_with fail
        refine EN.out.mono ?_
        rintro e w7 ⟨b7, ⟨_, rfl⟩ | ⟨h0, _⟩⟩
        · have B7 := Lib.hid (B5.out.trans (b7.mono B5.out.size))
          rw [HTX.out, hX]
          clear b7 EN
          go_wp2_with fail
          go_ret
          exact ⟨by simp, B7.out⟩
        · exact absurd HC.out h0
theorem decodesCall (a : ByteArray) (W : World) (_ : a.size ≤ maxLen) (hT : Tabs W) :
    Calls Tryz.prog 4 #[.string a] W fun e W' => e = .returned (.bool true) ∧ Below W.heap.size W W' := decodesLaw a W hT
end Go.Proofs.YtgaooalckjjplaaGreatDoor

