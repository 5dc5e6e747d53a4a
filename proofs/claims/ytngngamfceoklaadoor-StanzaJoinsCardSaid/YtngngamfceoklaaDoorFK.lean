/- Plain. -/
import Derived.Test.YtngngamfceoklaaDoorFJ
namespace Go.Proofs.YtngngamfceoklaaDoor
open Go.RowKit Go.Shelf

theorem unfold_zero {ls : List (List UInt8)} (h : unfoldN ls = 0) : checkN (unfoldK ls) (unfoldV ls) = 0 ∧ (unfoldK ls).length ≤ 32 ∧ (unfoldV ls).length ≤ 1000 := by
  cases hF : sayF ls with
  | false => rw [(unfold_no hF).1] at h; cases h
  | true =>
    by_cases hl : (saidV ls).length ≤ 1000
    · obtain ⟨a, r, rfl, hka, _⟩ := sayF_parts hF
      obtain ⟨_, e2, e3⟩ := unfold_yes hF hl
      have hg : goodKey (before a) = true := (kind4 hka).2.2
      rw [e2, e3]
      exact ⟨by unfold checkN; rw [hg, if_pos rfl, if_pos hl], (good_parts hg).2.1, hl⟩
    · rw [(unfold_long hF hl).1] at h; cases h
theorem mapB_inj {a b : List (List UInt8)} : (a.map B = b.map B) ↔ a = b := by
  constructor
  · intro h
    have := congrArg (List.map (·.data.toList)) h
    rw [List.map_map, List.map_map] at this
    have e : ∀ l : List (List UInt8), l.map ((·.data.toList) ∘ B) = l := fun l => by
      conv => rhs; rw [← List.map_id l]
      exact List.map_congr_left fun x _ => B_data x
    rwa [e, e] at this
  · intro h; rw [h]
attribute [local go_sem] errV_0
end Go.Proofs.YtngngamfceoklaaDoor
