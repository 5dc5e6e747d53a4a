/- The power's units. -/
import Derived.Test.YtdfjkcdmbbmipaaVA
namespace Go.Proofs.Ytdfjkcdmbbmipaa
open Go.RowKit

/-- The cells of a disk. -/
def diskCells (units : Int) (armed : Bool) (left : Int) (gone : Bool) (room : Int) (sure seen waits files acts : Value) : Array Value :=
  #[.int .i64 units, .bool armed, .int .i64 left, .bool gone, .int .i64 room, sure, seen, waits, files, acts]
def spent (armed : Bool) (left : Int) (n : Int) : Int := if armed && decide (left < n) then left else n
set_option maxRecDepth 100000 in
set_option maxHeartbeats 800000 in
theorem spend_any (p : Nat) (t : TypeId) (units left : Int) (armed gone : Bool) (room : Int) (v5 v6 v7 v8 v9 : Value) (n : Int) (w : World) (hc : Cells w p t (diskCells units armed left gone room v5 v6 v7 v8 v9))
    (hn : 0 ≤ n) (hl : 0 ≤ left) (hu : 0 ≤ units) (hu2 : units ≤ 1000000000000) (hn2 : n ≤ 1000000000000) (hl2 : left ≤ 9223372036854775807) :
    Calls Try.prog 51 #[.pointer (some ⟨p, 0, none⟩), .int .i64 n] w fun e w' => e = .returned (.int .i64 (spent armed left n)) ∧
      Cells w' p t (diskCells (units + spent armed left n) armed (if armed then left - spent armed left n else left) (gone || (armed && decide (left < n))) room v5 v6 v7 v8 v9) ∧ Only (· = p) w w' := by
  have c0 : w.cell? ⟨p, 0, none⟩ = some (.int .i64 units) := by rw [hc.cell]; rfl
  have c1 : w.cell? ⟨p, 1, none⟩ = some (.bool armed) := by rw [hc.cell]; rfl
  have c2 : w.cell? ⟨p, 2, none⟩ = some (.int .i64 left) := by rw [hc.cell]; rfl
  have c3 : w.cell? ⟨p, 3, none⟩ = some (.bool gone) := by rw [hc.cell]; rfl
  have f0 := hc.frozen 0
  have f2 := hc.frozen 2
  have f3 := hc.frozen 3
  cases armed
  · have hs : spent false left n = n := rfl
    go_enter Try.func51, Try.ntmps51
    go_wp2
    go_ret
    refine ⟨rfl, ?_, ((Only.refl _ w).cellS 0 _)⟩
    simpa [diskCells] using hc.set 0 (.int .i64 (units + n))
  · by_cases hlt : left < n
    · have hs : spent true left n = left := by simp [spent, hlt]
      rw [hs]
      go_enter Try.func51, Try.ntmps51
      go_wp2
      go_ret
      refine ⟨rfl, ?_, (((Only.refl _ w).cellS 3 _).cellS 2 _).cellS 0 _⟩
      simpa [diskCells] using ((hc.set 3 (.bool true)).set 2 (.int .i64 0)).set 0 (.int .i64 (units + left))
    · have hs : spent true left n = n := by simp [spent, hlt]
      rw [hs]
      go_enter Try.func51, Try.ntmps51
      go_wp2
      go_ret
      refine ⟨rfl, ?_, (((Only.refl _ w).cellS 2 _).cellS 0 _)⟩
      have hf : decide (left < n) = false := decide_eq_false (by omega)
      simpa [diskCells, hf] using (hc.set 2 (.int .i64 (left - n))).set 0 (.int .i64 (units + n))
end Go.Proofs.Ytdfjkcdmbbmipaa
