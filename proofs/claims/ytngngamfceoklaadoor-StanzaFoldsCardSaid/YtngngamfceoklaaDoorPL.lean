/- StanzaMany. -/
import Derived.Test.YtngngamfceoklaaDoorPK
namespace Go.Proofs.YtngngamfceoklaaDoor
open Go.RowKit Go.Shelf

def repB (n : Nat) (l : List UInt8) : List UInt8 := (List.replicate n l).flatten
theorem repB_succ (n : Nat) (l : List UInt8) : repB (n + 1) l = repB n l ++ l := by unfold repB; rw [List.replicate_succ', List.flatten_append]; simp
theorem repB_len (n : Nat) (l : List UInt8) : (repB n l).length = n * l.length := by
  induction n with
  | zero => simp [repB]
  | succ n ih => rw [repB_succ, List.length_append, ih]; rw [Nat.succ_mul]
/-- What comes of a text: place and number, or how many items, and how many fields the first has. -/
def outM (r : Res (List It)) : Nat × Nat × Nat × Nat := match r with | .error (a, n) => (a, n, 0, 0) | .ok its => (0, 0, its.length, (its.head?.map (·.fields.length)).getD 0)
set_option maxRecDepth 1000000
theorem one38 : outM (parseL (repB 38 [65, 58, 10])) = (0, 0, 1, 38) := by kernel_rfl
theorem one39 : outM (parseL (repB 39 [65, 58, 10])) = (0, 0, 1, 39) := by kernel_rfl
theorem one40 : outM (parseL (repB 40 [65, 58, 10])) = (0, 0, 1, 40) := by kernel_rfl
theorem one41 : outM (parseL (repB 41 [65, 58, 10])) = (40, 11, 0, 0) := by kernel_rfl
theorem one42 : outM (parseL (repB 42 [65, 58, 10])) = (40, 11, 0, 0) := by kernel_rfl
theorem many398 : outM (parseL (repB 398 [65, 58, 10, 10])) = (0, 0, 796, 1) := by kernel_rfl
theorem many399 : outM (parseL (repB 399 [65, 58, 10, 10])) = (0, 0, 798, 1) := by kernel_rfl
theorem many400 : outM (parseL (repB 400 [65, 58, 10, 10])) = (0, 0, 800, 1) := by kernel_rfl
theorem many401 : outM (parseL (repB 401 [65, 58, 10, 10])) = (800, 11, 0, 0) := by kernel_rfl
theorem many402 : outM (parseL (repB 402 [65, 58, 10, 10])) = (800, 11, 0, 0) := by kernel_rfl
theorem one_all (n : Nat) (h1 : 38 ≤ n) (h2 : n ≤ 42) : outM (parseL (repB n [65, 58, 10])) = if n ≤ 40 then (0, 0, 1, n) else (40, 11, 0, 0) := by
  rcases (by omega : n = 38 ∨ n = 39 ∨ n = 40 ∨ n = 41 ∨ n = 42) with rfl | rfl | rfl | rfl | rfl
  · exact one38
  · exact one39
  · exact one40
  · exact one41
  · exact one42
theorem many_all (n : Nat) (h1 : 398 ≤ n) (h2 : n ≤ 402) : outM (parseL (repB n [65, 58, 10, 10])) = if n ≤ 400 then (0, 0, 2 * n, 1) else (800, 11, 0, 0) := by
  rcases (by omega : n = 398 ∨ n = 399 ∨ n = 400 ∨ n = 401 ∨ n = 402) with rfl | rfl | rfl | rfl | rfl
  · exact many398
  · exact many399
  · exact many400
  · exact many401
  · exact many402
theorem out_no {r : Res (List It)} {a n : Nat} (h : outM r = (a, n, 0, 0)) (hn : n ≠ 0) : r = .error (a, n) := by
  cases r with
  | error e => unfold outM at h; simp only [Prod.mk.injEq] at h; obtain ⟨h1, h2, _⟩ := h; rw [← h1, ← h2]
  | ok its => unfold outM at h; simp only [Prod.mk.injEq] at h; exact absurd h.2.1.symm hn
theorem out_yes {r : Res (List It)} {m k : Nat} (h : outM r = (0, 0, m, k)) (hm : m ≠ 0) : ∃ its, r = .ok its ∧ its.length = m ∧ ∃ it, its[0]? = some it ∧ it.fields.length = k := by
  cases r with
  | error e => unfold outM at h; simp only [Prod.mk.injEq] at h; exact absurd h.2.2.1.symm hm
  | ok its =>
    unfold outM at h; simp only [Prod.mk.injEq] at h
    cases its with
    | nil => exact absurd h.2.2.1.symm hm
    | cons it r => exact ⟨_, rfl, h.2.2.1, it, rfl, by simpa using h.2.2.2⟩
end Go.Proofs.YtngngamfceoklaaDoor
