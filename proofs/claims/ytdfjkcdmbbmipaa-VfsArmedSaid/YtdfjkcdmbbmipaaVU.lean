/- Sync, Remove, Rename. -/
import Derived.Test.YtdfjkcdmbbmipaaVT
namespace Go.Proofs.Ytdfjkcdmbbmipaa
open Go.RowKit Go.Maps
attribute [local go_sem] errV_0 errV_1 errV_3 errV_7

def modF (l : List FileA) (i : Nat) (g : FileA → FileA) : List FileA := if h : i < l.length then l.set i (g l[i]) else l
def asked (D : ADisk) (z : ByteArray) (zr : List ByteArray) : Nat × Nat := findR (readyE D.gone (z :: zr)) (dget D.seen z.data.toList)
theorem asked_cases {n : Nat} {D : ADisk} (hf : Fine n D) (z : ByteArray) (zr : List ByteArray) : (∃ f, asked D z zr = (f, 0) ∧ f < D.files.length ∧ dget D.seen z.data.toList = some f ∧ D.gone = false) ∨ asked D z zr = (0, 1) ∨ asked D z zr = (0, 3) ∨ asked D z zr = (0, 7) := by
  unfold asked
  rcases readyE_cases D.gone (z :: zr) with h | h | h
  · rw [h]
    have hg : D.gone = false := by
      cases hq : D.gone
      · rfl
      · unfold readyE at h; rw [hq] at h; split at h <;> simp at h
    unfold findR
    rw [if_pos rfl]
    cases hq : dget D.seen z.data.toList with
    | none => exact .inr (.inr (.inr rfl))
    | some f => exact .inl ⟨f, rfl, dget_lt hf.seen_lt hq, rfl, hg⟩
  · rw [h]; exact .inr (.inl rfl)
  · rw [h]; exact .inr (.inr (.inl rfl))
/-- The new row of one name. -/
theorem row1 (w : World) (z : ByteArray) (t : TypeId) : ∀ j (h : j < [z].length), (w.alloc (.cells #[.string z] t)).cell? ⟨w.heap.size, j, none⟩ = some (.string [z][j]) := by
  intro j h
  have : j = 0 := by simpa using h
  subst this
  rw [(Cells.new w t #[.string z]).cell]; rfl
theorem row2 (w : World) (x y : ByteArray) (t : TypeId) : ∀ j (h : j < [x, y].length), (w.alloc (.cells #[.string x, .string y] t)).cell? ⟨w.heap.size, j, none⟩ = some (.string [x, y][j]) := by
  intro j h
  have : j = 0 ∨ j = 1 := by simp at h; omega
  rcases this with rfl | rfl
  · rw [(Cells.new w t #[.string x, .string y]).cell]; rfl
  · rw [(Cells.new w t #[.string x, .string y]).cell]; rfl

def syncD (D : ADisk) (z : ByteArray) : ADisk × Nat :=
  if (asked D z []).2 ≠ 0 then (D, (asked D z []).2) else if canDo D then ({ didD D ⟨4, z, ⟨#[]⟩, ⟨#[]⟩, 0⟩ with files := modF D.files (asked D z []).1 fun f => f.kept allU }, 0) else (downD D, 3)
set_option maxRecDepth 100000 in
set_option maxHeartbeats 2000000 in
theorem sync_any {w : World} {T : Nat → Nat} {p n : Nat} {D : ADisk} (hA : DiskAt w T p D) (hf : Fine n D) (hn : n ≤ 400000) (z : ByteArray) (hz : z.size ≤ 1000000) :
    Calls Try.prog 17 #[.pointer (some ⟨p, 0, none⟩), .string z] w fun e w' => e = .returned (errV (syncD D z).2) ∧ ∃ T', DiskAt w' T' p (syncD D z).1 ∧ Step w T w' T' := by
  obtain ⟨V, hV⟩ := hA
  have R := find_disk (n := n) hV z [] 1 ((Below.refl _ w).alloc (Nat.le_refl _) (.cells #[.string z] 9)) (by simp) (row1 w z _) (by simpa using hz) (by simp)
  have e0 : findR (readyE D.gone [z]) (dget D.seen z.data.toList) = asked D z [] := rfl
  rw [e0] at R
  unfold syncD
  rcases asked_cases hf z [] with ⟨f, ha, hfl, _, _⟩ | ha
  · rw [ha] at R ⊢
    dsimp only at R ⊢
    cases hc : canDo D
    · have HG := Lib.hid (fun w1 (hb : Below w.heap.size w w1) => do_no (hV.below hb) hf (by omega) hc (kind := 4) (at_ := 0) (name := z) (other := ⟨#[]⟩) (bytes := ⟨#[]⟩))
      clear hc ha e0
      go_enter Try.func17, Try.ntmps17
      go_wp2_with fail
      refine R.mono ?_
      rintro e w1 ⟨rfl, hb⟩
      go_wp2_with fail
      refine (HG.out w1 hb).mono ?_
      rintro e w2 ⟨rfl, hd, hs⟩
      go_wp2
      go_ret
      exact ⟨rfl, T, ⟨V, hd⟩, (Step.below hb).trans hs⟩
    · have HG := Lib.hid (fun w1 (hb : Below w.heap.size w w1) => do_yes (hV.below hb) hf (by omega) hc (kind := 4) (at_ := 0) (name := z) (other := ⟨#[]⟩) (bytes := ⟨#[]⟩))
      have HF := Lib.hid (did_fine hf hc ⟨4, z, ⟨#[]⟩, ⟨#[]⟩, 0⟩)
      have hnf := hf.nfiles
      clear hc ha e0
      go_enter Try.func17, Try.ntmps17
      go_wp2_with fail
      refine R.mono ?_
      rintro e w1 ⟨rfl, hb⟩
      go_wp2_with fail
      refine (HG.out w1 hb).mono ?_
      rintro e w2 ⟨rfl, T2, v9', hd, hs⟩
      obtain ⟨g, cap, cur, e8, hc8, h1, h2, h3, h4, tg, hfa⟩ := hd.file (i := f) hfl
      have d8 : w2.cell? ⟨p, 8, none⟩ = some (.slice (some ⟨g, 0, none⟩) D.files.length cap) := by have := hd.cells.cell 8; rw [e8] at this; exact this
      have K := fkeep_disk hd HF.out (by omega) hfl e8 9223372036854775807 wf_allU
      have HD := Lib.hid hd
      have HS := Lib.hid ((Step.below hb).trans hs)
      clear hd hs h3 h4 hfa hc8 e8 R hb HG
      go_wp2_with fail
      refine K.mono ?_
      rintro e w3 ⟨rfl, T3, V3, hd3, hs3, _⟩
      have HD3 := Lib.hid (show DiskAt w3 T3 p { didD D ⟨4, z, ⟨#[]⟩, ⟨#[]⟩, 0⟩ with files := modF D.files f fun f => f.kept allU } from ⟨V3, by
        unfold modF; rw [dif_pos hfl]; exact hd3⟩)
      have HS3 := Lib.hid (HS.out.trans hs3)
      clear hd3 hs3 K HD HF
      go_wp2
      go_ret
      exact ⟨rfl, T3, HD3.out, HS3.out⟩
  · rcases ha with ha | ha | ha
    all_goals
      rw [ha] at R ⊢
      dsimp only at R ⊢
      clear ha e0
      go_enter Try.func17, Try.ntmps17
      go_wp2_with fail
      refine R.mono ?_
      rintro e w1 ⟨rfl, hb⟩
      go_wp2
      go_ret
      exact ⟨rfl, T, ⟨V, hV.below hb⟩, Step.below hb⟩
end Go.Proofs.Ytdfjkcdmbbmipaa
