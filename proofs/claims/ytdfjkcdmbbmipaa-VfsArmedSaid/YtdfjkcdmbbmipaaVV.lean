/- Remove, Rename. -/
import Derived.Test.YtdfjkcdmbbmipaaVU
namespace Go.Proofs.Ytdfjkcdmbbmipaa
open Go.RowKit Go.Maps
attribute [local go_sem] errV_0 errV_1 errV_3 errV_7

def removeD (D : ADisk) (z : ByteArray) : ADisk × Nat :=
  if (asked D z []).2 ≠ 0 then (D, (asked D z []).2) else if canDo D then ({ didD D ⟨6, z, ⟨#[]⟩, ⟨#[]⟩, 0⟩ with waits := D.waits ++ [⟨z, ⟨#[]⟩, 0⟩] }, 0) else (downD D, 3)
set_option maxRecDepth 100000 in
set_option maxHeartbeats 2000000 in
theorem remove_any {w : World} {T : Nat → Nat} {p n : Nat} {D : ADisk} (hA : DiskAt w T p D) (hf : Fine n D) (hn : n ≤ 400000) (z : ByteArray) (hz : z.size ≤ 1000000) :
    Calls Try.prog 28 #[.pointer (some ⟨p, 0, none⟩), .string z] w fun e w' => e = .returned (errV (removeD D z).2) ∧ ∃ T', DiskAt w' T' p (removeD D z).1 ∧ Step w T w' T' := by
  obtain ⟨V, hV⟩ := hA
  have R := find_disk (n := n) hV z [] 1 ((Below.refl _ w).alloc (Nat.le_refl _) (.cells #[.string z] 9)) (by simp) (row1 w z _) (by simpa using hz) (by simp)
  have e0 : findR (readyE D.gone [z]) (dget D.seen z.data.toList) = asked D z [] := rfl
  rw [e0] at R
  unfold removeD
  rcases asked_cases hf z [] with ⟨f, ha, hfl, _, _⟩ | ha
  · rw [ha] at R ⊢
    dsimp only at R ⊢
    cases hc : canDo D
    · have HG := Lib.hid (fun w1 (hb : Below w.heap.size w w1) => do_no (hV.below hb) hf (by omega) hc (kind := 6) (at_ := 0) (name := z) (other := ⟨#[]⟩) (bytes := ⟨#[]⟩))
      clear hc ha e0
      go_enter Try.func28, Try.ntmps28
      go_wp2_with fail
      refine R.mono ?_
      rintro e w1 ⟨rfl, hb⟩
      go_wp2_with fail
      refine (HG.out w1 hb).mono ?_
      rintro e w2 ⟨rfl, hd, hs⟩
      go_wp2
      go_ret
      exact ⟨rfl, T, ⟨V, hd⟩, (Step.below hb).trans hs⟩
    · have HG := Lib.hid (fun w1 (hb : Below w.heap.size w w1) => do_yes (hV.below hb) hf (by omega) hc (kind := 6) (at_ := 0) (name := z) (other := ⟨#[]⟩) (bytes := ⟨#[]⟩))
      have HF := Lib.hid (did_fine hf hc ⟨6, z, ⟨#[]⟩, ⟨#[]⟩, 0⟩)
      clear hc ha e0
      go_enter Try.func28, Try.ntmps28
      go_wp2_with fail
      refine R.mono ?_
      rintro e w1 ⟨rfl, hb⟩
      go_wp2_with fail
      refine (HG.out w1 hb).mono ?_
      rintro e w2 ⟨rfl, T2, v9', hd, hs⟩
      have K := dwait_any hd HF.out (by omega) z ⟨#[]⟩ 0 hz (by decide) (by omega)
      have HS := Lib.hid ((Step.below hb).trans hs)
      clear hd hs R hb HG
      go_wp2_with fail
      refine K.mono ?_
      rintro e w3 ⟨rfl, T3, v5', v6', v7', hd3, hs3⟩
      have HD3 := Lib.hid (show DiskAt w3 T3 p { didD D ⟨6, z, ⟨#[]⟩, ⟨#[]⟩, 0⟩ with waits := D.waits ++ [⟨z, ⟨#[]⟩, 0⟩] } from ⟨_, hd3⟩)
      have HS3 := Lib.hid (HS.out.trans hs3)
      clear hd3 hs3 K HF
      go_wp2
      go_ret
      exact ⟨rfl, T3, HD3.out, HS3.out⟩
  · rcases ha with ha | ha | ha
    all_goals
      rw [ha] at R ⊢
      dsimp only at R ⊢
      clear ha e0
      go_enter Try.func28, Try.ntmps28
      go_wp2_with fail
      refine R.mono ?_
      rintro e w1 ⟨rfl, hb⟩
      go_wp2
      go_ret
      exact ⟨rfl, T, ⟨V, hV.below hb⟩, Step.below hb⟩

def renameD (D : ADisk) (a b : ByteArray) : ADisk × Nat :=
  if (asked D a [b]).2 ≠ 0 then (D, (asked D a [b]).2) else if canDo D then (if a = b then didD D ⟨5, a, b, ⟨#[]⟩, 0⟩ else { didD D ⟨5, a, b, ⟨#[]⟩, 0⟩ with waits := D.waits ++ [⟨a, b, (asked D a [b]).1⟩] }, 0) else (downD D, 3)
set_option maxRecDepth 100000 in
set_option maxHeartbeats 2000000 in
theorem rename_any {w : World} {T : Nat → Nat} {p n : Nat} {D : ADisk} (hA : DiskAt w T p D) (hf : Fine n D) (hn : n ≤ 400000) (a b : ByteArray) (hz : a.size ≤ 1000000) (hz2 : b.size ≤ 1000000) :
    Calls Try.prog 27 #[.pointer (some ⟨p, 0, none⟩), .string a, .string b] w fun e w' => e = .returned (errV (renameD D a b).2) ∧ ∃ T', DiskAt w' T' p (renameD D a b).1 ∧ Step w T w' T' := by
  obtain ⟨V, hV⟩ := hA
  have R := find_disk (n := n) hV a [b] 2 ((Below.refl _ w).alloc (Nat.le_refl _) (.cells #[.string a, .string b] 9)) (by simp) (row2 w a b _) (by simpa using ⟨hz, hz2⟩) (by simp)
  have e0 : findR (readyE D.gone [a, b]) (dget D.seen a.data.toList) = asked D a [b] := rfl
  rw [e0] at R
  unfold renameD
  rcases asked_cases hf a [b] with ⟨f, ha, hfl, _, _⟩ | ha
  · rw [ha] at R ⊢
    dsimp only at R ⊢
    cases hc : canDo D
    · have HG := Lib.hid (fun w1 (hb : Below w.heap.size w w1) => do_no (hV.below hb) hf (by omega) hc (kind := 5) (at_ := 0) (name := a) (other := b) (bytes := ⟨#[]⟩))
      clear hc ha e0
      go_enter Try.func27, Try.ntmps27
      go_wp2_with fail
      refine R.mono ?_
      rintro e w1 ⟨rfl, hb⟩
      go_wp2_with fail
      refine (HG.out w1 hb).mono ?_
      rintro e w2 ⟨rfl, hd, hs⟩
      go_wp2
      go_ret
      exact ⟨rfl, T, ⟨V, hd⟩, (Step.below hb).trans hs⟩
    · have HG := Lib.hid (fun w1 (hb : Below w.heap.size w w1) => do_yes (hV.below hb) hf (by omega) hc (kind := 5) (at_ := 0) (name := a) (other := b) (bytes := ⟨#[]⟩))
      have HF := Lib.hid (did_fine hf hc ⟨5, a, b, ⟨#[]⟩, 0⟩)
      have hnf := hf.nfiles
      clear hc ha e0
      by_cases hab : a = b
      · subst hab
        go_enter Try.func27, Try.ntmps27
        go_wp2_with fail
        refine R.mono ?_
        rintro e w1 ⟨rfl, hb⟩
        go_wp2_with fail
        refine (HG.out w1 hb).mono ?_
        rintro e w2 ⟨rfl, T2, v9', hd, hs⟩
        have HD := Lib.hid hd
        have HS := Lib.hid ((Step.below hb).trans hs)
        clear hd hs R hb HG
        go_wp2
        go_ret
        exact ⟨rfl, T2, ⟨_, by simpa using HD.out⟩, HS.out⟩
      · have f2 : (a.toList == b.toList) = false := by
          rw [Lib.toList_data, Lib.toList_data, beq_eq_false_iff_ne]
          intro e; apply hab; rw [← Lib.mk_data a, ← Lib.mk_data b, e]
        have f3 : (a.toList != b.toList) = true := by rw [bne, f2]; rfl
        rw [if_neg hab]
        clear hab
        go_enter Try.func27, Try.ntmps27
        go_wp2_with fail
        refine R.mono ?_
        rintro e w1 ⟨rfl, hb⟩
        go_wp2_with fail
        refine (HG.out w1 hb).mono ?_
        rintro e w2 ⟨rfl, T2, v9', hd, hs⟩
        have K := dwait_any hd HF.out (by omega) a b f hz hz2 (by omega)
        have HS := Lib.hid ((Step.below hb).trans hs)
        clear hd hs R hb HG
        go_wp2_with fail
        refine K.mono ?_
        rintro e w3 ⟨rfl, T3, v5', v6', v7', hd3, hs3⟩
        have HD3 := Lib.hid (show DiskAt w3 T3 p { didD D ⟨5, a, b, ⟨#[]⟩, 0⟩ with waits := D.waits ++ [⟨a, b, f⟩] } from ⟨_, hd3⟩)
        have HS3 := Lib.hid (HS.out.trans hs3)
        clear hd3 hs3 K HF
        go_wp2
        go_ret
        exact ⟨rfl, T3, HD3.out, HS3.out⟩
  · rcases ha with ha | ha | ha
    all_goals
      rw [ha] at R ⊢
      dsimp only at R ⊢
      clear ha e0
      go_enter Try.func27, Try.ntmps27
      go_wp2_with fail
      refine R.mono ?_
      rintro e w1 ⟨rfl, hb⟩
      go_wp2
      go_ret
      exact ⟨rfl, T, ⟨V, hV.below hb⟩, Step.below hb⟩
end Go.Proofs.Ytdfjkcdmbbmipaa
