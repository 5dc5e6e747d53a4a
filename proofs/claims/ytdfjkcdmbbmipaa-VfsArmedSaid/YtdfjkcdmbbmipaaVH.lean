/- What an act does to names: apply. -/
import Derived.Test.YtdfjkcdmbbmipaaVE
import Derived.Test.YtdfjkcdmbbmipaaVD
namespace Go.Proofs.Ytdfjkcdmbbmipaa
open Go.RowKit Go.Maps

/-- A change of names. -/
structure ChangeA where
  off : ByteArray
  on : ByteArray
  file : Nat
def ChangeA.cells (c : ChangeA) : List Value := [.string c.off, .string c.on, .int .i64 c.file]
def capply (off on : List UInt8) (file : Nat) (l : Dir) : Dir := if on = [] then ddel l off else dput (ddel l off) on file
theorem ddel_length (l : Dir) (k : List UInt8) : (ddel l k).length ≤ l.length := List.length_filter_le _ _

set_option maxRecDepth 100000 in
set_option maxHeartbeats 1000000 in
theorem apply_any (off on : ByteArray) (file : Nat) (b n : Nat) (l : Dir) (w : World) (ho : w.ownsMap Try.prog 9 (plainElem Try.prog 3) b n (dmapD l)) (hn : n ≤ 1000000) (h1 : off.size ≤ 1000000) (h2 : on.size ≤ 1000000) (hf : file ≤ 1000000) :
    Calls Try.prog 72 #[.agg #[.string off, .string on, .int .i64 file], .map (some b)] w fun e w' => e = .returned (.tuple #[]) ∧
      w'.ownsMap Try.prog 9 (plainElem Try.prog 3) b (n + 1) (dmapD (capply off.data.toList on.data.toList file l)) ∧ Only (· = b) w w' := by
  have k1 := Go.WideMaps.keyOf_string_mk Try.underlying9 (s := off) (by unfold maxLen; omega)
  have k2 := Go.WideMaps.keyOf_string_mk Try.underlying9 (s := on) (by unfold maxLen; omega)
  have hfl : plainElem (H := Unit) Try.prog 3 (.int .i64 (file : Int)) = some (.lit (.int .i64 (file : Int)), []) := plainElem_int Try.underlying3 (by simp [Lit.wf, IntKind.min, IntKind.max, IntKind.signed, IntKind.bits]; omega)
  unfold capply
  by_cases he : on.data.toList = []
  · rw [if_pos he]
    have hoe : on = ⟨#[]⟩ := by rw [← Lib.mk_data on, he]
    clear he
    subst hoe
    go_enter Try.func72, Try.ntmps72
    go_wp2_with (at_delete; refine wpList_delete_own _ rfl _ _ 70 9 rfl 3 keyT Try.underlying70 _ b n (dmapD l) rfl (ho.alloc _) _ _ rfl k1 ?_; intro w1 hown1 hturn1; have bx := (Cells.new w 103 #[.string off, .string ⟨#[]⟩, .int .i64 file]).grown hturn1.grown (by have := ho.lt; intro e; cases e; omega); have bx1 := bx.cell 1; simp at bx1)
    go_end0
    rw [dmapD_del] at hown1
    exact ⟨rfl, hown1.mono (by omega), ((Only.refl _ w).alloc _).grown hturn1.grown (fun k hk => .inl (by cases hk; rfl))⟩
  · rw [if_neg he]
    have hne : on.toList.isEmpty = false := by
      rw [Lib.toList_data]; cases hq : on.data.toList with
      | nil => exact absurd hq he
      | cons _ _ => rfl
    have hne2 : (!on.toList.isEmpty) = true := by rw [hne]; rfl
    clear he
    go_enter Try.func72, Try.ntmps72
    go_wp2_with (first | (at_delete; refine wpList_delete_own _ rfl _ _ 70 9 rfl 3 keyT Try.underlying70 _ b n (dmapD l) rfl (ho.alloc _) _ _ rfl k1 ?_; intro w1 hown1 hturn1; have bx := (Cells.new w 103 #[.string off, .string on, .int .i64 file]).grown hturn1.grown (by have := ho.lt; intro e; cases e; omega); have bx1 := bx.cell 1; have bx2 := bx.cell 2; simp at bx1 bx2) | (at_mapUpdate; refine wpList_mapUpdate_own _ rfl _ _ _ 70 rfl 9 3 keyT Try.underlying70 _ b n _ rfl hown1 (by unfold maxLen; omega) _ _ _ rfl rfl k2 _ [] hfl ?_; intro w2 hown2 hgrow2))
    go_end0
    rw [dmapD_del, dmapD_put] at hown2
    exact ⟨rfl, hown2, (((Only.refl _ w).alloc _).grown hturn1.grown (fun k hk => .inl (by cases hk; rfl))).grown hgrow2 (fun k hk => .inl (by cases hk; rfl))⟩
end Go.Proofs.Ytdfjkcdmbbmipaa
