/- The inner calls of a disk's methods, on disks. -/
import Derived.Test.YtdfjkcdmbbmipaaVQ
namespace Go.Proofs.Ytdfjkcdmbbmipaa
open Go.RowKit Go.Maps

def canDo (D : ADisk) : Bool := !(D.armed && decide (D.left < 1))
def didD (D : ADisk) (a : ActA) : ADisk := { D with units := D.units + 1, left := (if D.armed then D.left - 1 else D.left), acts := D.acts ++ [a] }
def downD (D : ADisk) : ADisk := { D with gone := true }

theorem do_no {w : World} {T : Nat → Nat} {p n : Nat} {D : ADisk} {V : Vals} (h : DiskV w T p D V) (hf : Fine n D) (hn : n ≤ 500000) (hc : canDo D = false) (kind at_ : Nat) (name other bytes : ByteArray) :
    Calls Try.prog 47 #[.pointer (some ⟨p, 0, none⟩), .agg #[.int .i64 kind, .string name, .string other, .string bytes, .int .i64 at_]] w fun e w' =>
      e = .returned (errV 3) ∧ DiskV w' T p (downD D) V ∧ Step w T w' T := by
  have hl0 := hf.l0
  obtain ⟨ha, hl⟩ : D.armed = true ∧ D.left < 1 := by simpa [canDo] using hc
  have hcl := h.cells
  rw [ha] at hcl
  refine (do_down p D.units D.left D.gone D.room V.v5 V.v6 V.v7 V.v8 V.v9 kind at_ name other bytes w hcl hf.u0 (by have := hf.u1; omega) (by omega)).mono ?_
  rintro e w' ⟨rfl, hd, ho⟩
  refine ⟨rfl, h.power (D' := downD D) (by show Cells w' p _ (diskCells D.units D.armed D.left true D.room _ _ _ _ _); rw [ha]; exact hd) ho rfl rfl rfl rfl, step_p h.tp ho⟩
theorem do_yes {w : World} {T : Nat → Nat} {p n : Nat} {D : ADisk} {V : Vals} (h : DiskV w T p D V) (hf : Fine n D) (hn : n ≤ 500000) (hc : canDo D = true) (kind at_ : Nat) (name other bytes : ByteArray) :
    Calls Try.prog 47 #[.pointer (some ⟨p, 0, none⟩), .agg #[.int .i64 kind, .string name, .string other, .string bytes, .int .i64 at_]] w fun e w' =>
      e = .returned (errV 0) ∧ ∃ T' v9', DiskV w' T' p (didD D ⟨kind, name, other, bytes, at_⟩) { V with v9 := v9' } ∧ Step w T w' T' := by
  have ha : D.armed = false ∨ 1 ≤ D.left := by
    cases hq : D.armed
    · exact .inl rfl
    · right
      have : ¬ D.left < 1 := by simpa [canDo, hq] using hc
      omega
  refine (do_up p D.units D.left D.armed D.gone D.room V.v5 V.v6 V.v7 V.v8 V.v9 kind at_ name other bytes D.acts.length (actsCells D.acts) w h.cells hf.u0 (by have := hf.u1; omega) hf.l0 hf.l1 ha h.r9 (fun e => (tag_ne h.t9 (b := some p) (u := 1) (fun b hb => by cases hb; exact h.tp) (by decide) p e) rfl) (by have := hf.nacts; omega)).mono ?_
  rintro e w' ⟨rfl, hd⟩
  exact ⟨rfl, h.did (D' := didD D ⟨kind, name, other, bytes, at_⟩) (a := ⟨kind, name, other, bytes, at_⟩) hd rfl rfl rfl rfl⟩

theorem dwait_any {w : World} {T : Nat → Nat} {p n : Nat} {D : ADisk} {V : Vals} (h : DiskV w T p D V) (hf : Fine n D) (hn : n ≤ 500000) (off on : ByteArray) (file : Nat) (h1 : off.size ≤ 1000000) (h2 : on.size ≤ 1000000) (h3 : file ≤ 1000000) :
    Calls Try.prog 48 #[.pointer (some ⟨p, 5, none⟩), .agg #[.string off, .string on, .int .i64 file]] w fun e w' => e = .returned (.tuple #[]) ∧
      ∃ T' v5' v6' v7', DiskV w' T' p { D with waits := D.waits ++ [⟨off, on, file⟩] } { V with v5 := v5', v6 := v6', v7 := v7' } ∧ Step w T w' T' := by
  have tp : tagged T (some p) 1 := fun b hb => by cases hb; exact h.tp
  have hdl := hf.dirs
  have hsl := dplay_length D.waits D.sure
  rcases h.m6 with ⟨e6, hl6⟩ | ⟨b6, e6, ho6⟩
  · have e5 := h.nil56.2 e6
    have hs0 : D.sure = [] := by
      rcases h.m5 with ⟨_, hl⟩ | ⟨b5, e, _⟩
      · exact hl
      · rw [e5] at e; cases e
    have hcl := h.cells
    rw [e5, e6] at hcl
    refine (dwait_none p D.units D.left D.armed D.gone D.room V.v7 V.v8 V.v9 0 D.waits.length (changesCells D.waits) off on file w hcl h.r7 (fun e => tag_ne h.t7 tp (by decide) p e rfl) (by omega) (by omega) h1 h2 h3).mono ?_
    rintro e w' ⟨rfl, hd⟩
    refine ⟨rfl, h.dwaited (c := ⟨off, on, file⟩) (nm := 0 + 1) ?_⟩
    rw [e5, e6, hs0, hl6]
    exact hd
  · obtain ⟨b5, e5⟩ : ∃ b5, V.v5 = .map (some b5) := by
      rcases h.m5 with ⟨e, _⟩ | ⟨b5, e, _⟩
      · have := h.nil56.1 e; rw [e6] at this; cases this
      · exact ⟨b5, e⟩
    have hcl := h.cells
    rw [e5, e6] at hcl
    have m5 := h.m5
    rw [e5] at m5
    have t5 := h.t5
    have t6 := h.t6
    rw [e5] at t5
    rw [e6] at t6
    have hsn : D.seen.length ≤ n := by unfold ADisk.seen; omega
    refine (dwait_some p D.units D.left D.armed D.gone D.room b5 b6 V.v7 V.v8 V.v9 n D.sure D.seen D.waits.length (changesCells D.waits) off on file w hcl (m5.mono (by omega)) (ho6.mono (by omega)) h.r7
      (fun e => tag_ne h.t7 tp (by decide) p e rfl) (fun e => tag_ne t6 tp (by decide) b6 rfl (by rw [e])) (fun e => tag_ne h.t7 t6 (by decide) b6 e rfl) (fun e => tag_ne t5 tp (by decide) b5 rfl (by rw [e])) (fun e => tag_ne t5 t6 (by decide) b5 rfl (by rw [e]; rfl)) (fun e => tag_ne h.t7 t5 (by decide) b5 e rfl)
      (by omega) (by omega) h1 h2 h3).mono ?_
    rintro e w' ⟨rfl, hd⟩
    refine ⟨rfl, h.dwaited (c := ⟨off, on, file⟩) (nm := n + 1) ?_⟩
    rw [e5, e6]
    exact hd

theorem dkeep_any {w : World} {T : Nat → Nat} {p n : Nat} {D : ADisk} {V : Vals} (h : DiskV w T p D V) (hf : Fine n D) (hn : n ≤ 500000) (m : Int) (hw : (Lit.int .i64 m).wf = true) :
    Calls Try.prog 49 #[.pointer (some ⟨p, 5, none⟩), .int .i64 m] w fun e w' => e = .returned (.tuple #[]) ∧
      ∃ T' v6', DiskV w' T' p { D with sure := dplay (D.waits.take (keptN m D.waits.length)) D.sure, waits := [] } { V with v6 := v6', v7 := .slice none 0 0 } ∧ Step w T w' T' := by
  have tp : tagged T (some p) 1 := fun b hb => by cases hb; exact h.tp
  have hdl := hf.dirs
  by_cases h7 : V.v7 = .slice none 0 0
  · have hz : D.waits.length = 0 := by
      rcases h.r7.2 with ⟨_, hz⟩ | ⟨g, cap, cur, e, _⟩
      · exact hz
      · rw [h7] at e; cases e
    have hw0 : D.waits = [] := List.eq_nil_of_length_eq_zero hz
    have hcl := h.cells
    rw [h7] at hcl
    refine (dkeep_nil p D.units D.left D.armed D.gone D.room V.v5 V.v6 V.v8 V.v9 D.sure.length D.sure m w hcl h.m5 (fun e => tag_ne h.t5 tp (by decide) p e rfl) hw).mono ?_
    rintro e w' ⟨rfl, hd⟩
    refine ⟨rfl, h.dkept (nm := D.sure.length) (k := keptN m D.waits.length) ?_⟩
    rw [hw0]
    have e : dplay (List.take (keptN m ([] : List ChangeA).length) []) D.sure = D.sure := by simp [dplay]
    rw [e]
    exact hd
  · obtain ⟨g, cap, e7⟩ : ∃ g cap, V.v7 = .slice (some ⟨g, 0, none⟩) D.waits.length cap := by
      rcases h.r7.2 with ⟨e, _⟩ | ⟨g, cap, cur, e, _⟩
      · exact absurd e h7
      · exact ⟨g, cap, e⟩
    rcases h.m5 with ⟨e5, hl5⟩ | ⟨b5, e5, ho5⟩
    · exact absurd (h.nilw e5).2 h7
    · have hcl := h.cells
      rw [e5, e7] at hcl
      have r7 := h.r7
      rw [e7] at r7
      have t7 := h.t7
      rw [e7] at t7
      have t5 := h.t5
      rw [e5] at t5
      refine (dkeep_some p D.units D.left D.armed D.gone D.room b5 V.v6 V.v8 V.v9 D.sure.length D.sure g cap D.waits m w hcl ho5 r7 (fun e => tag_ne t7 tp (by decide) g rfl (by rw [e])) (fun e => tag_ne t5 tp (by decide) b5 rfl (by rw [e])) (fun e => tag_ne t7 t5 (by decide) g rfl (by rw [e]; rfl)) (by omega)
        (fun c hc => ⟨(hf.changes c hc).1, (hf.changes c hc).2.1, by have := (hf.changes c hc).2.2; have := hf.nfiles; omega⟩) hw).mono ?_
      rintro e w' ⟨rfl, hd⟩
      refine ⟨rfl, h.dkept (nm := D.sure.length + D.waits.length) (k := keptN m D.waits.length) ?_⟩
      rw [e5]
      exact hd
end Go.Proofs.Ytdfjkcdmbbmipaa
