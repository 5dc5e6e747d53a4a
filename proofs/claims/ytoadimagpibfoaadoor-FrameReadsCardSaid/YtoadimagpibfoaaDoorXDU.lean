/- FrameReads. -/
import Derived.Test.YtoadimagpibfoaaDoorXDT
set_option linter.unusedVariables false
namespace Go.Proofs.YtoadimagpibfoaaDoor.Fr
open Go.RowKit Go.Shelf
attribute [local go_sem] Oper.semAt_some

set_option maxRecDepth 100000 in
set_option maxHeartbeats 4000000 in
theorem readsLaw (s : ByteArray) (w : World) (ht : TabsN w) :
    Calls Tryd.prog 4 #[.string s] w fun e w' => e = .returned (.bool true) ∧ Below w.heap.size w w' := by
  have AL := Lib.hid (alive_any w ht)
  by_cases h1 : 5000 < s.size
  · have q1 : (5000 : Int) < s.size := by omega
    go_enter Tryd.func4, Tryd.ntmps4
    go_wp2_with fail
    refine AL.out.mono ?_
    rintro e w1 ⟨rfl, hb1⟩
    go_wp2_with fail
    go_ret
    exact ⟨rfl, hb1⟩
  · have q1 : ¬ (5000 : Int) < s.size := by omega
    obtain ⟨l, rfl⟩ := of_B s
    have bl := B_size l
    have RD := Lib.hid (fun w ht => read_any l (by omega) w ht)
    have RF := Lib.hid (fun w => refRead_any l (by omega) w)
    clear bl
    generalize B l = L at *
    go_enter Tryd.func4, Tryd.ntmps4
    go_wp2_with fail
    refine AL.out.mono ?_
    rintro e w1 ⟨rfl, hb1⟩
    go_wp2_with fail
    refine (RD.out _ (ht.below hb1 (Nat.le_refl _))).mono ?_
    rintro e w2 ⟨k, b, n, hr, rfl, hb2⟩
    have hb12 := hb1.trans (hb2.mono hb1.size)
    have HR := Lib.hid hr
    clear hr
    unfold readV
    go_wp2_with fail
    refine (RF.out _).mono ?_
    rintro e w3 ⟨k', b', n', hr', rfl, rfl⟩
    obtain ⟨rfl, rfl, rfl⟩ := read_one HR.out hr'
    clear hr' HR
    unfold readV
    go_wp2_with fail
    go_ret
    exact ⟨rfl, hb12⟩
theorem readsCall (a : ByteArray) (W : World) (_ : a.size ≤ maxLen) (ht : TabsN W) :
    Calls Tryd.prog 4 #[.string a] W fun e W' => e = .returned (.bool true) ∧ Below W.heap.size W W' := readsLaw a W ht
end Go.Proofs.YtoadimagpibfoaaDoor.Fr
