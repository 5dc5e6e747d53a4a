/- lines.Cut; the law's fixed fact. -/
import Derived.Test.YtifdcnkfanenjaaDoorWF
namespace Go.Proofs.YtifdcnkfanenjaaDoor
open Go.RowKit Go.Shelf

set_option maxHeartbeats 1000000 in
theorem cut_pair (s : ByteArray) (hs : s.size ≤ maxLen) (h : kindL s.data.toList = 4) (w : World) :
    Calls Tryd.prog 12 #[.string s] w fun e w' => e = .returned (.tuple #[.string (preS s), .string (postS s), .bool true]) ∧ Below w.heap.size w w' := by
  have h5 : hasB s.data.toList 58 = true := by
    unfold kindL at h
    split at h; · cases h
    split at h; · cases h
    split at h; · cases h
    split at h; · cases h
    split at h
    · rename_i q; exact q.1
    · cases h
  have C := fun w => colon_yes s w hs h5
  have K := kind_any s hs
  rw [h] at K
  go_enter Tryd.func12, Tryd.ntmps12
  go_wp2_with (first | (go_at_call 15; refine (K _).mono ?_; rintro e w1 ⟨rfl, b1⟩) | (go_at_call 26; refine (C _).mono ?_; rintro e w2 ⟨rfl, n, rfl⟩))
  go_ret3
  exact ⟨rfl, Below.drewN b1 n⟩
set_option maxHeartbeats 1000000 in
theorem cut_else (s : ByteArray) (hs : s.size ≤ maxLen) (h : kindL s.data.toList ≠ 4) (w : World) :
    Calls Tryd.prog 12 #[.string s] w fun e w' => e = .returned (.tuple #[.string ⟨#[]⟩, .string ⟨#[]⟩, .bool false]) ∧ Below w.heap.size w w' := by
  have K := kind_any s hs
  have e1 : ((kindL s.data.toList : Nat) : Int) ≠ 4 := by omega
  generalize kindL s.data.toList = k at *
  have e2 : ((k : Int) == 4) = false := beq_eq_false_iff_ne.2 e1
  have e3 : ((k : Int) != 4) = true := by rw [bne, e2]; rfl
  clear h e1
  go_enter Tryd.func12, Tryd.ntmps12
  go_wp2_with (first | (go_at_call 15; refine (K _).mono ?_; rintro e w1 ⟨rfl, b1⟩))
  go_ret3
  exact ⟨rfl, b1⟩

theorem kA (w : World) : Calls Tryd.prog 15 #[.string ⟨#[97, 58, 32, 98]⟩] w fun e w' => e = .returned (.int .i64 4) ∧ Below w.heap.size w w' := kind_any ⟨#[97, 58, 32, 98]⟩ (by decide) w
theorem kB (w : World) : Calls Tryd.prog 15 #[.string ⟨#[9, 98]⟩] w fun e w' => e = .returned (.int .i64 3) ∧ Below w.heap.size w w' := kind_any ⟨#[9, 98]⟩ (by decide) w
theorem kC (w : World) : Calls Tryd.prog 15 #[.string ⟨#[9]⟩] w fun e w' => e = .returned (.int .i64 1) ∧ Below w.heap.size w w' := kind_any ⟨#[9]⟩ (by decide) w
theorem kD (w : World) : Calls Tryd.prog 15 #[.string ⟨#[97, 98]⟩] w fun e w' => e = .returned (.int .i64 5) ∧ Below w.heap.size w w' := kind_any ⟨#[97, 98]⟩ (by decide) w
theorem kE (w : World) : Calls Tryd.prog 11 #[.string ⟨#[97, 10, 98]⟩] w fun e w' => e = .returned (.int .i64 2) ∧ Below w.heap.size w w' := count_any ⟨#[97, 10, 98]⟩ w (by decide)

set_option maxHeartbeats 1000000 in
theorem alive_any (w : World) :
    Calls Tryd.prog 8 #[] w fun e w' => e = .returned (.bool true) ∧ Below w.heap.size w w' := by
  go_enter Tryd.func8, Tryd.ntmps8
  go_wp2_with fail
  refine (kA _).mono ?_
  rintro e w1 ⟨rfl, b1⟩
  go_wp2_with fail
  refine (kB _).mono ?_
  rintro e w2 ⟨rfl, b2⟩
  go_wp2_with fail
  refine (kC _).mono ?_
  rintro e w3 ⟨rfl, b3⟩
  go_wp2_with fail
  refine (kD _).mono ?_
  rintro e w4 ⟨rfl, b4⟩
  go_wp2_with fail
  refine (kE _).mono ?_
  rintro e w5 ⟨rfl, b5⟩
  go_wp2
  go_ret
  exact ⟨rfl, b1.trans ((b2.trans ((b3.trans ((b4.trans (b5.mono b4.size)).mono b3.size)).mono b2.size)).mono b1.size)⟩
end Go.Proofs.YtifdcnkfanenjaaDoor
