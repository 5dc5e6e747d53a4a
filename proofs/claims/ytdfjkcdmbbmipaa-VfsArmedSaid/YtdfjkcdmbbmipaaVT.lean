/- New, and SyncDir. -/
import Derived.Test.YtdfjkcdmbbmipaaVS
namespace Go.Proofs.Ytdfjkcdmbbmipaa
open Go.RowKit Go.Maps
attribute [local go_sem] errV_0 errV_1 errV_3 errV_7

set_option maxHeartbeats 400000 in
theorem index_nil (fv : Value) (w : World) :
    Calls Try.prog 86 #[.slice none 0 0, fv] w fun e w' => e = .returned (.int .i64 (-1)) ∧ w = w' := by
  go_enter Try.func86, Try.ntmps86
  go_wp2
  go_loopw [8] (fun i wr => i = .int .i64 0 ∧ wr = w) (fun _ _ => 0)
  case atStart => exact ⟨rfl, rfl⟩
  case round =>
    obtain ⟨rfl, rfl⟩ := hrel
    go_wp2
    go_ret
    exact ⟨rfl, rfl⟩
set_option maxHeartbeats 400000 in
theorem contains_nil (fv : Value) (w : World) :
    Calls Try.prog 79 #[.slice none 0 0, fv] w fun e w' => e = .returned (.bool false) ∧ w = w' := by
  go_enter Try.func79, Try.ntmps79
  go_wp2_with (go_at_call 86; refine (index_nil _ _).mono ?_; rintro e w' ⟨rfl, rfl⟩)
  go_ret
  exact ⟨rfl, rfl⟩
set_option maxHeartbeats 400000 in
theorem good_nil (w : World) : Calls Try.prog 71 #[.slice none 0 0] w fun e w' => e = .returned (.bool true) ∧ Below w.heap.size w w' := by
  have hcell : (w.alloc (.cells #[Value.nilFunc] 149)).cell? ⟨w.heap.size, 0, none⟩ = some .nilFunc := by rw [(Cells.new w 149 #[Value.nilFunc]).cell]; rfl
  have hfr : (w.alloc (.cells #[Value.nilFunc] 149)).frozen? ⟨w.heap.size, 0, none⟩ = false := (Cells.new w 149 #[Value.nilFunc]).frozen 0
  go_enter Try.func71, Try.ntmps71
  go_wp2_with fail
  refine (contains_nil _ _).mono ?_
  rintro e w' ⟨rfl, rfl⟩
  go_wp2
  go_ret
  exact ⟨rfl, (Below.refl _ w).alloc (Nat.le_refl _) _⟩
set_option maxHeartbeats 400000 in
theorem ready_nil (p : Nat) (D : ADisk) (V : Vals) (T : Nat → Nat) (w : World) (h : DiskV w T p D V) :
    Calls Try.prog 46 #[.pointer (some ⟨p, 0, none⟩), .slice none 0 0] w fun e w' => e = .returned (errV (if D.gone then 3 else 0)) ∧ Below w.heap.size w w' := by
  have G := fun w' (hb2 : Below w.heap.size w w') => show w'.cell? ⟨p, 3, none⟩ = some (.bool D.gone) from ((hb2.cell (p := ⟨p, 3, none⟩) h.cells.lt).trans (h.cells.cell 3))
  generalize D.gone = gone at *
  clear h
  cases gone
  all_goals
    go_enter Try.func46, Try.ntmps46
    go_wp2_with (go_at_call 71; refine (good_nil _).mono ?_; rintro e w' ⟨rfl, hb2⟩; have c3 := G w' hb2; clear G)
    go_ret
    exact ⟨rfl, hb2⟩

def freshD (room : Int) : ADisk := ⟨0, false, 0, false, room, [], [], [], []⟩
theorem fresh_fine (room : Int) (h0 : 0 ≤ room) (h1 : room ≤ 9223372036854775807) : Fine 0 (freshD room) :=
  ⟨Int.le_refl _, Int.le_refl _, Int.le_refl _, by show (0 : Int) ≤ 9223372036854775807; decide, h0, h1, Nat.le_refl _, Nat.le_refl _, Nat.le_refl _, by simp [freshD], by simp [freshD], by simp [freshD]⟩
set_option maxRecDepth 100000 in
set_option maxHeartbeats 1000000 in
theorem new_yes (room : Int) (w : World) (h0 : 0 ≤ room) :
    Calls Try.prog 10 #[.int .i64 room] w fun e w' => e = .returned (.tuple #[.pointer (some ⟨w.heap.size, 0, none⟩), .nilIface]) ∧ DiskAt w' (fun b => if b = w.heap.size then 1 else 0) w.heap.size (freshD room) ∧ Below w.heap.size w w' ∧ w'.heap.size = w.heap.size + 1 := by
  go_enter Try.func10, Try.ntmps10
  go_wp2
  go_ret2
  refine ⟨rfl, ⟨⟨.map none, .map none, .slice none 0 0, .slice none 0 0, .slice none 0 0, []⟩, ?_⟩, (Below.refl _ w).alloc (Nat.le_refl _) _, by simp⟩
  refine ⟨Cells.new w _ _, by simp, .inl ⟨rfl, rfl⟩, (fun b hb => by cases hb), .inl ⟨rfl, rfl⟩, (fun b hb => by cases hb), Iff.rfl, fun _ => ⟨rfl, rfl⟩, World.ownsRow_nil _ _ _ _, (fun b hb => by cases hb), World.ownsRow_nil _ _ _ _, (fun b hb => by cases hb), World.ownsRow_nil _ _ _ _, (fun b hb => by cases hb), rfl, fun i h1 _ => by simp [freshD] at h1, fun b hb => ?_⟩
  by_cases e : b = w.heap.size
  · rw [e]; simp
  · simp [e] at hb
theorem new_no (room : Int) (w : World) (h0 : room < 0) :
    Calls Try.prog 10 #[.int .i64 room] w fun e w' => e = .returned (.tuple #[.pointer none, errV 1]) ∧ w = w' := by
  go_enter Try.func10, Try.ntmps10
  go_wp2
  go_ret2
  exact ⟨rfl, rfl⟩

theorem did_fine {n : Nat} {D : ADisk} (h : Fine n D) (hc : canDo D = true) (a : ActA) : Fine (n + 1) (didD D a) := by
  have hl : 0 ≤ (if D.armed then D.left - 1 else D.left) ∧ (if D.armed then D.left - 1 else D.left) ≤ 9223372036854775807 := by
    have h0 := h.l0; have h1 := h.l1
    cases hq : D.armed
    · simpa using ⟨h0, h1⟩
    · have : ¬ D.left < 1 := by simpa [canDo, hq] using hc
      simp; omega
  have := h.u0; have := h.u1
  exact ⟨by show 0 ≤ D.units + 1; omega, by show D.units + 1 ≤ ((n + 1 : Nat) : Int); omega, hl.1, hl.2, h.r0, h.r1, by have := h.dirs; show D.sure.length + D.waits.length ≤ _; omega, by have := h.nfiles; show D.files.length ≤ _; omega,
    by have := h.nacts; show (D.acts ++ [a]).length ≤ _; simp; omega, fun f hf => (h.files f hf).mono (Nat.le_succ _), h.changes, h.names⟩
def syncdirD (D : ADisk) : ADisk × Nat :=
  if D.gone then (D, 3) else if canDo D then ({ didD D ⟨7, ⟨#[]⟩, ⟨#[]⟩, ⟨#[]⟩, 0⟩ with sure := D.seen, waits := [] }, 0) else (downD D, 3)
theorem wf_allU : (Lit.int .i64 9223372036854775807).wf = true := by decide
theorem keptN_all (m : Nat) (h : m ≤ 1000000000) : keptN 9223372036854775807 m = m := by unfold keptN; omega

set_option maxRecDepth 100000 in
set_option maxHeartbeats 1000000 in
theorem syncdir_any {w : World} {T : Nat → Nat} {p n : Nat} {D : ADisk} (hA : DiskAt w T p D) (hf : Fine n D) (hn : n ≤ 400000) :
    Calls Try.prog 15 #[.pointer (some ⟨p, 0, none⟩)] w fun e w' => e = .returned (errV (syncdirD D).2) ∧ ∃ T', DiskAt w' T' p (syncdirD D).1 ∧ Step w T w' T' := by
  obtain ⟨V, hV⟩ := hA
  have R := ready_nil p D V T w hV
  unfold syncdirD
  cases hg : D.gone
  · rw [hg] at R
    cases hc : canDo D
    · have HG := Lib.hid (fun w1 (hb : Below w.heap.size w w1) => do_no (hV.below hb) hf (by omega) hc (kind := 7) (at_ := 0) (name := ⟨#[]⟩) (other := ⟨#[]⟩) (bytes := ⟨#[]⟩))
      clear hc hg
      go_enter Try.func15, Try.ntmps15
      go_wp2_with fail
      refine R.mono ?_
      rintro e w1 ⟨rfl, hb⟩
      go_wp2_with fail
      refine (HG.out w1 hb).mono ?_
      rintro e w2 ⟨rfl, hd, hs⟩
      go_wp2
      go_ret
      exact ⟨rfl, T, ⟨V, hd⟩, (Step.below hb).trans hs⟩
    · have HG := Lib.hid (fun w1 (hb : Below w.heap.size w w1) => do_yes (hV.below hb) hf (by omega) hc (kind := 7) (at_ := 0) (name := ⟨#[]⟩) (other := ⟨#[]⟩) (bytes := ⟨#[]⟩))
      have HF := Lib.hid (did_fine hf hc ⟨7, ⟨#[]⟩, ⟨#[]⟩, ⟨#[]⟩, 0⟩)
      have hdl := hf.dirs
      clear hc hg
      go_enter Try.func15, Try.ntmps15
      go_wp2_with fail
      refine R.mono ?_
      rintro e w1 ⟨rfl, hb⟩
      go_wp2_with fail
      refine (HG.out w1 hb).mono ?_
      rintro e w2 ⟨rfl, T2, v9', hd, hs⟩
      have K := dkeep_any hd HF.out (by omega) 9223372036854775807 wf_allU
      go_wp2_with fail
      refine K.mono ?_
      rintro e w3 ⟨rfl, T3, v6', hd3, hs3⟩
      have hk : keptN 9223372036854775807 D.waits.length = D.waits.length := keptN_all _ (by omega)
      have HD := Lib.hid (show DiskAt w3 T3 p { didD D ⟨7, ⟨#[]⟩, ⟨#[]⟩, ⟨#[]⟩, 0⟩ with sure := D.seen, waits := [] } from ⟨_, by
        have := hd3
        simp only [didD, hk, List.take_length] at this
        exact this⟩)
      have HS := Lib.hid (((Step.below hb).trans hs).trans hs3)
      clear K hd hs hd3 hs3 hk HG HF R hb
      go_wp2
      go_ret
      exact ⟨rfl, T3, HD.out, HS.out⟩
  · rw [hg] at R
    clear hg
    go_enter Try.func15, Try.ntmps15
    go_wp2_with fail
    refine R.mono ?_
    rintro e w1 ⟨rfl, hb⟩
    go_wp2
    go_ret
    exact ⟨rfl, T, ⟨V, hV.below hb⟩, Step.below hb⟩
end Go.Proofs.Ytdfjkcdmbbmipaa
