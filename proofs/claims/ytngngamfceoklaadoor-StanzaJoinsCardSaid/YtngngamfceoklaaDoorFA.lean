/- lines.Cut (as WG, without its law's fixed fact). -/
import Derived.Test.YtngngamfceoklaaDoorWF
namespace Go.Proofs.YtngngamfceoklaaDoor
open Go.RowKit Go.Shelf

set_option maxHeartbeats 1000000 in
theorem cut_pair (s : ByteArray) (hs : s.size ≤ maxLen) (h : kindL s.data.toList = 4) (w : World) :
    Calls Tryd.prog 79 #[.string s] w fun e w' => e = .returned (.tuple #[.string (preS s), .string (postS s), .bool true]) ∧ Below w.heap.size w w' := by
  have h5 : hasB s.data.toList 58 = true := by
    unfold kindL at h
    split at h; · cases h
    split at h; · cases h
    split at h; · cases h
    split at h; · cases h
    split at h
    · rename_i q; exact q.1
    · cases h
  have C := fun w => colon_yes s w hs h5
  have K := kind_any s hs
  rw [h] at K
  go_enter Tryd.func79, Tryd.ntmps79
  go_wp2_with (first | (go_at_call 41; refine (K _).mono ?_; rintro e w1 ⟨rfl, b1⟩) | (go_at_call 57; refine (C _).mono ?_; rintro e w2 ⟨rfl, n, rfl⟩))
  go_ret3
  exact ⟨rfl, Below.drewN b1 n⟩
set_option maxHeartbeats 1000000 in
theorem cut_else (s : ByteArray) (hs : s.size ≤ maxLen) (h : kindL s.data.toList ≠ 4) (w : World) :
    Calls Tryd.prog 79 #[.string s] w fun e w' => e = .returned (.tuple #[.string ⟨#[]⟩, .string ⟨#[]⟩, .bool false]) ∧ Below w.heap.size w w' := by
  have K := kind_any s hs
  have e1 : ((kindL s.data.toList : Nat) : Int) ≠ 4 := by omega
  generalize kindL s.data.toList = k at *
  have e2 : ((k : Int) == 4) = false := beq_eq_false_iff_ne.2 e1
  have e3 : ((k : Int) != 4) = true := by rw [bne, e2]; rfl
  clear h e1
  go_enter Tryd.func79, Tryd.ntmps79
  go_wp2_with (first | (go_at_call 41; refine (K _).mono ?_; rintro e w1 ⟨rfl, b1⟩))
  go_ret3
  exact ⟨rfl, b1⟩
end Go.Proofs.YtngngamfceoklaaDoor
