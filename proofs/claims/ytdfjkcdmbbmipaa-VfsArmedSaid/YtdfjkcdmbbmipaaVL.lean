/- What waits of a directory, made sure: in all cases. -/
import Derived.Test.YtdfjkcdmbbmipaaVK
namespace Go.Proofs.Ytdfjkcdmbbmipaa
open Go.RowKit Go.Maps
attribute [local go_sem] mapSome mapNil

theorem clone_any (v : Value) (n : Nat) (l : Dir) (w : World) (h : MapAt w n v l) :
    Calls Try.prog 73 #[v] w fun e w' => ∃ v', e = .returned v' ∧ MapAt w' n v' l ∧ (v = .map none ↔ v' = .map none) ∧ (mapBlock v' = none ∨ ∃ k, mapBlock v' = some k ∧ w.heap.size ≤ k ∧ k < w'.heap.size) ∧ Below w.heap.size w w' ∧ ∃ o, v' = .map o := by
  rcases h with ⟨rfl, rfl⟩ | ⟨b, rfl, ho⟩
  · refine (clone_none w).mono ?_
    rintro e w' ⟨rfl, rfl⟩
    exact ⟨_, rfl, .inl ⟨rfl, rfl⟩, Iff.rfl, .inl rfl, Below.refl _ _, _, rfl⟩
  · refine (clone_some b n l w ho).mono ?_
    rintro e w' ⟨rfl, hm, hb, hs⟩
    exact ⟨_, rfl, .inr ⟨_, rfl, hm⟩, by simp, .inr ⟨_, rfl, Nat.le_refl _, by omega⟩, hb, _, rfl⟩

set_option maxRecDepth 100000 in
set_option maxHeartbeats 2000000 in
theorem dkeep_nil (p : Nat) (units left : Int) (armed gone : Bool) (room : Int) (v5 v6 v8 v9 : Value) (nm : Nat) (ls : Dir) (n : Int) (w : World)
    (hd : Cells w p 76 (diskCells units armed left gone room v5 v6 (.slice none 0 0) v8 v9)) (h5 : MapAt w nm v5 ls) (a2 : mapBlock v5 ≠ some p) (hw : (Lit.int .i64 n).wf = true) :
    Calls Try.prog 49 #[.pointer (some ⟨p, 5, none⟩), .int .i64 n] w fun e w' => e = .returned (.tuple #[]) ∧
      DKept p (fun x y => diskCells units armed left gone room v5 x y v8 v9) v5 nm ls w w' := by
  have hn : -9223372036854775808 ≤ n ∧ n ≤ 9223372036854775807 := by
    simpa [Lit.wf, IntKind.min, IntKind.max, IntKind.signed, IntKind.bits] using hw
  obtain ⟨hn1, hn2⟩ := hn
  have hm : (min (max n 0) (0 : Int)) = 0 := by omega
  have d7 : w.cell? ⟨p, 7, none⟩ = some (.slice none 0 0) := hd.cell 7
  have hpl := hd.lt
  have H5 := Lib.hid h5
  clear h5
  go_enter Try.func49, Try.ntmps49
  go_wp2
  go_quiet (fail)
  go_wp2
  go_loopw [20] (fun i wr => i = .int .i64 0 ∧ wr = w.drewN nq) (fun i _ => 0)
  case atStart => exact ⟨rfl, rfl⟩
  case round =>
    obtain ⟨rfl, rfl⟩ := hrel
    have hd1 : Cells (w.drewN nq) p 76 _ := hd.drewN nq
    have d7' : (w.drewN nq).cell? ⟨p, 7, none⟩ = some (.slice none 0 0) := hd1.cell 7
    have f7' := hd1.frozen 7
    have hd2 := hd1.set 7 (.slice none 0 0)
    have d5' := hd2.cell 5
    have d6' := hd2.cell 6
    simp [diskCells] at d5' d6'
    have HD2 := Lib.hid hd2
    have hm5 : MapAt ((w.drewN nq).setCell ⟨p, 7, none⟩ (.slice none 0 0)) nm v5 ls := (H5.out.drewN nq).same fun b hb => Below.heap_setCell _ _ _ _ (fun e => a2 (by rw [hb]; exact congrArg some e))
    have C := clone_any v5 nm ls ((w.drewN nq).setCell ⟨p, 7, none⟩ (.slice none 0 0)) hm5
    have HC := Lib.hid C
    have HM := Lib.hid hm5
    clear hd2 C hm5
    go_wp2_with fail
    refine HC.out.mono ?_
    rintro e w2 ⟨v', rfl, hm2, hv2, hk2, hb2, o, rfl⟩
    have hz : ((w.drewN nq).setCell ⟨p, 7, none⟩ (.slice none 0 0)).heap.size = w.heap.size := by simp [World.setCell, World.drewN]
    rw [hz] at hb2 hk2
    have hd3 := HD2.out.below hb2 hd1.lt
    have d6'' := hd3.cell 6
    have f6'' := hd3.frozen 6
    simp [diskCells] at d6''
    have hon2 : Only (fun r => r = p ∨ some r = mapBlock v5) w w2 :=
      (((Only.refl (fun r => r = p ∨ some r = mapBlock v5) w).drewN nq).setCell (p := ⟨p, 7, none⟩) (.inl (.inl rfl)) _).below hb2 (Nat.le_refl _)
    have P := Lib.hid (show DKept p (fun x y => diskCells units armed left gone room v5 x y v8 v9) v5 nm ls w (w2.setCell ⟨p, 6, none⟩ (.map o)) from by
      have hne : mapBlock (.map o) ≠ some p := by
        rcases hk2 with h | ⟨k, h, h1, _⟩
        · rw [h]; simp
        · rw [h]; intro e; cases e; omega
      refine ⟨⟨.map o, by simpa [diskCells] using hd3.set 6 (.map o), ?_, hm2.same fun b hb => Below.heap_setCell _ _ _ _ (fun e => hne (by rw [hb]; exact congrArg some e)), hv2, ?_⟩, hon2.setCell (p := ⟨p, 6, none⟩) (.inl (.inl rfl)) _⟩
      · exact HM.out.same fun b hb => (Below.heap_setCell _ _ _ _ (fun e => a2 (by rw [hb]; exact congrArg some e))).trans (hb2.block b (by have := HM.out.lt b hb; rw [hz] at this; exact this))
      · rcases hk2 with h | ⟨k, h, h1, h2⟩
        · exact .inl h
        · exact .inr ⟨k, h, h1, by simpa [World.setCell] using h2⟩)
    clear HC HM HD2 hm2 hv2 hk2 hb2 hz hd3 hon2 d5' d6' d7' f7'
    go_wp2
    go_end0
    exact ⟨rfl, P.out⟩
end Go.Proofs.Ytdfjkcdmbbmipaa
