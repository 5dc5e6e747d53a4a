/- Free in all cases; the power on disks. -/
import Derived.Test.YtdfjkcdmbbmipaaVX
namespace Go.Proofs.Ytdfjkcdmbbmipaa
open Go.RowKit Go.Maps

set_option maxRecDepth 100000 in
set_option maxHeartbeats 2000000 in
theorem free_nil {w : World} {T : Nat → Nat} {p n : Nat} {D : ADisk} {V : Vals} (hV : DiskV w T p D V) (hf : Fine n D) (e6 : V.v6 = .map none) (hs : D.seen = []) :
    Calls Try.prog 20 #[.pointer (some ⟨p, 0, none⟩)] w fun e w' => e = .returned (.int .i64 (freeD D)) ∧ Below w.heap.size w w' := by
  have d4 : w.cell? ⟨p, 4, none⟩ = some (.int .i64 D.room) := hV.cells.cell 4
  have d6 : w.cell? ⟨p, 6, none⟩ = some (.map none) := by have := hV.cells.cell 6; rw [e6] at this; exact this
  have r0 := hf.r0
  have r1 := hf.r1
  have hfr : freeD D = max D.room 0 := by unfold freeD; rw [hs]; simp [totalL]
  rw [hfr]
  have hrg := run_range_nilMap (P := Try.prog) w 70 9 3 Try.underlying70
  have hnx : ∀ ty, (Instr.next (.pointer (some ⟨w.heap.size, 0, none⟩)) false ty).run Try.prog (w.alloc (.mapIter none 0 #[] 0)) = _ := fun ty => run_next_nilMap w ty 0 0 #[]
  have HB := Lib.hid ((Below.refl _ w).alloc (Nat.le_refl _) (.mapIter none 0 #[] 0))
  clear hfr e6 hs
  go_enter Try.func20, Try.ntmps20
  go_wp2
  refine wp_loop_rounds 1 ?_
  rw [rounds_succ]
  go_wp2
  go_ret
  exact ⟨rfl, HB.out⟩
theorem free_any {w : World} {T : Nat → Nat} {p n : Nat} {D : ADisk} {V : Vals} (hV : DiskV w T p D V) (hf : Fine n D) (hn : n ≤ 400000) :
    Calls Try.prog 20 #[.pointer (some ⟨p, 0, none⟩)] w fun e w' => e = .returned (.int .i64 (freeD D)) ∧ Below w.heap.size w w' := by
  rcases hV.m6 with ⟨e6, hs⟩ | ⟨b6, e6, _⟩
  · exact free_nil hV hf e6 hs
  · exact free_some hV hf hn b6 e6

def spentD (D : ADisk) (k : Int) : ADisk := { D with units := D.units + spent D.armed D.left k, left := (if D.armed then D.left - spent D.armed D.left k else D.left), gone := (D.gone || (D.armed && decide (D.left < k))) }
theorem spend_disk {w : World} {T : Nat → Nat} {p n : Nat} {D : ADisk} {V : Vals} (hV : DiskV w T p D V) (hf : Fine n D) (hn : n ≤ 400000) (k : Nat) (hk : k ≤ 1000) :
    Calls Try.prog 51 #[.pointer (some ⟨p, 0, none⟩), .int .i64 k] w fun e w' => e = .returned (.int .i64 (spent D.armed D.left k)) ∧ DiskV w' T p (spentD D k) V ∧ Step w T w' T := by
  refine (spend_any p 76 D.units D.left D.armed D.gone D.room V.v5 V.v6 V.v7 V.v8 V.v9 k w hV.cells (by omega) hf.l0 hf.u0 (by have := hf.u1; omega) (by omega) hf.l1).mono ?_
  rintro e w' ⟨rfl, hc, ho⟩
  exact ⟨rfl, hV.power (D' := spentD D k) hc ho rfl rfl rfl rfl, step_p hV.tp ho⟩
theorem spent_le (D : ADisk) (n k : Nat) (hf : Fine n D) : ∃ m : Nat, spent D.armed D.left k = m ∧ m ≤ k ∧ (m < k → D.armed = true ∧ D.left = m) := by
  have h0 := hf.l0
  unfold spent
  cases hq : D.armed
  · exact ⟨k, by simp, Nat.le_refl _, fun h => by omega⟩
  · by_cases h : D.left < k
    · exact ⟨D.left.toNat, by simp [h]; omega, by omega, fun _ => ⟨rfl, by omega⟩⟩
    · exact ⟨k, by simp [h], Nat.le_refl _, fun h => by omega⟩
theorem spend_fine {n k : Nat} {D : ADisk} (h : Fine n D) : Fine (n + k) (spentD D k) := by
  obtain ⟨m, hm, hle, _⟩ := spent_le D n k h
  have h0 := h.l0; have h1 := h.l1; have h2 := h.u0; have h3 := h.u1
  have hl : 0 ≤ (if D.armed then D.left - spent D.armed D.left k else D.left) ∧ (if D.armed then D.left - spent D.armed D.left k else D.left) ≤ 9223372036854775807 := by
    unfold spent
    cases hq : D.armed
    · simpa using ⟨h0, h1⟩
    · by_cases hc : D.left < k
      · simp [hc]
      · simp [hc]; omega
  refine ⟨?_, ?_, hl.1, hl.2, h.r0, h.r1, by have := h.dirs; show D.sure.length + D.waits.length ≤ _; omega, by have := h.nfiles; show D.files.length ≤ _; omega, by have := h.nacts; show D.acts.length ≤ _; omega, fun f hf => (h.files f hf).mono (Nat.le_add_right _ _), h.changes, h.names⟩
  · show 0 ≤ D.units + spent D.armed D.left k; rw [hm]; omega
  · show D.units + spent D.armed D.left k ≤ ((n + k : Nat) : Int); rw [hm]; omega
theorem more_fine {n k : Nat} {D : ADisk} (h : Fine n D) {f : Nat} (hf : f < D.files.length) (a : ActA) (hk : a.kind = 2 ∨ a.kind = 3) (hat : a.kind = 3 → a.at_ ≤ D.files[f].seen.length) (hb : a.bytes.size ≤ k) (h1 : 1 ≤ k) :
    Fine (n + k) { D with files := D.files.set f (D.files[f].more a) } := by
  have ok := h.files _ (List.getElem_mem hf)
  have hu := h.u1
  refine ⟨h.u0, by show D.units ≤ ((n + k : Nat) : Int); omega, h.l0, h.l1, h.r0, h.r1, by have := h.dirs; show D.sure.length + D.waits.length ≤ _; omega, by have := h.nfiles; show (D.files.set f _).length ≤ _; rw [List.length_set]; omega, by have := h.nacts; show D.acts.length ≤ _; omega, fun g hg => ?_, fun c hc => by
    have := h.changes c hc; exact ⟨this.1, this.2.1, by show _ < (D.files.set f _).length; rw [List.length_set]; exact this.2.2⟩, fun x hx => by show _ < (D.files.set f _).length; rw [List.length_set]; exact h.names x hx⟩
  rcases List.mem_or_eq_of_mem_set hg with hg | rfl
  · exact (h.files g hg).mono (Nat.le_add_right _ _)
  · refine ⟨fitsW_snoc a _ _ ok.fits hat, ?_, ?_, ?_, fun b hb => ?_⟩
    · show D.files[f].sure.size + lenW (D.files[f].waits ++ [a]) ≤ _
      rw [lenW_snoc]; have := ok.len; omega
    · show unitsL (D.files[f].waits ++ [a]) ≤ _
      rw [unitsL_snoc]; have := ok.units; split <;> omega
    · show (D.files[f].waits ++ [a]).length ≤ _
      have := ok.many; simp; omega
    · rcases List.mem_append.1 hb with hb | hb
      · exact ok.kinds b hb
      · obtain rfl : b = a := by simpa using hb
        omega
end Go.Proofs.Ytdfjkcdmbbmipaa
