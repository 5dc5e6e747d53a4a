/- Texts put together: BH, HD, HB, NY, ET, HE. -/
import Derived.WideShapes
import Derived.Deep.RegionLaw
import Derived.Test.YtbkeoiefolkjfaaGreatDoorBbk14
import Derived.Test.YtbkeoiefolkjfaaGreatDoorBbk15
import Derived.Test.YtbkeoiefolkjfaaGreatDoorBbk17
import Derived.Test.YtbkeoiefolkjfaaGreatDoorBbk19
import Derived.Test.YtbkeoiefolkjfaaGreatDoorBbk21
import Derived.Test.YtbkeoiefolkjfaaGreatDoorBbk23
import Derived.Test.YtbkeoiefolkjfaaGreatDoorBbk25
import Derived.Test.YtbkeoiefolkjfaaGreatDoorBbk26
set_option linter.unusedVariables false
set_option maxRecDepth 100000
set_option maxHeartbeats 16000000
namespace Go.Proofs.YtbkeoiefolkjfaaGreatDoor
open Go.RowKit Go.Shelf
attribute [local go_sem] Oper.semAt_some
theorem OwnE.low {lo lo' : Nat} {w : World} {v : Value} {eds : List Ed} {fvs : List Value} (h : OwnE lo w v eds fvs) (hl : lo' <= lo) : OwnE lo' w v eds fvs :=
  ⟨rowBase h.row hl, h.len, fun i ed fv h1 h2 => rowBase (h.each i ed fv h1 h2) hl⟩
end Go.Proofs.YtbkeoiefolkjfaaGreatDoor
namespace Go.Proofs.YtbkeoiefolkjfaaGreatDoor
open Go.RowKit Go.Shelf
end Go.Proofs.YtbkeoiefolkjfaaGreatDoor
namespace Go.Proofs.YtbkeoiefolkjfaaGreatDoor
open Go.RowKit Go.Shelf
attribute [local go_sem] Oper.semAt_some
end Go.Proofs.YtbkeoiefolkjfaaGreatDoor
namespace Go.Proofs.YtbkeoiefolkjfaaGreatDoor
open Go.RowKit Go.Shelf
attribute [local go_sem] Oper.semAt_some
end Go.Proofs.YtbkeoiefolkjfaaGreatDoor
namespace Go.Proofs.YtbkeoiefolkjfaaGreatDoor
open Go.RowKit Go.Shelf
attribute [local go_sem] Oper.semAt_some
end Go.Proofs.YtbkeoiefolkjfaaGreatDoor
namespace Go.Proofs.YtbkeoiefolkjfaaGreatDoor
open Go.RowKit Go.Shelf
attribute [local go_sem] Oper.semAt_some
theorem row_spoils {P : Nat -> Prop} {lo' n sz : Nat} {w w' : World} {v : Value} {t : TypeId} {xs : List Value} (h : w.ownsRow lo' t sz v n xs) (hs : Spoils P w w') (ht : t ≠ 83) : w'.ownsRow lo' t sz v n xs := by
  refine ⟨h.1, ?_⟩
  rcases h.2 with q | ⟨g, cap, cur, q, a, hg, r⟩
  . exact .inl q
  exact .inr ⟨g, cap, cur, q, a, hs.kept hg ht, r⟩
theorem mineP_of_own {lo hi n : Nat} {w : World} {v : Value} {xs : List Value} (h : w.ownsRow lo 83 2 v n xs) (hw : w.heap.size <= hi) : MineP w (fun r => lo <= r /\ r < hi) v n := by
  rcases h.2 with ⟨rfl, hn⟩ | ⟨g, cap, cur, rfl, hb, hc, hle, _, hs, _⟩
  . exact .inl ⟨hn, none, 0, rfl⟩
  exact .inr ⟨g, cap, cur, rfl, hle, ⟨hb, Nat.lt_of_lt_of_le (Array.getElem?_eq_some_iff.1 hc).1 hw⟩, hc, by rw [hs]; exact Nat.mul_le_mul_right 2 hle⟩
theorem Spoils.only {P : Nat -> Prop} {w w' : World} (h : Spoils P w w') : Only P w w' := ⟨h.os, h.tape, h.output, h.size, fun _ hr hp => h.block hr hp⟩
theorem nums_nil (w : World) : NumsV w (.slice none 0 0) [] := ⟨none, 0, rfl, Nat.le_refl _, fun i z h => by simp at h⟩
end Go.Proofs.YtbkeoiefolkjfaaGreatDoor
