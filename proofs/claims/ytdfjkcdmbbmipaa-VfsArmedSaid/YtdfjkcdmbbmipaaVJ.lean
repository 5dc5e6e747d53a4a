/- A change of names that waits where no name ever did. -/
import Derived.Test.YtdfjkcdmbbmipaaVI
namespace Go.Proofs.Ytdfjkcdmbbmipaa
open Go.RowKit Go.Maps
attribute [local go_sem] mapSome mapNil
set_option maxRecDepth 100000 in
set_option maxHeartbeats 2000000 in
theorem dwait_none (p : Nat) (units left : Int) (armed gone : Bool) (room : Int) (v7 v8 v9 : Value) (nm : Nat) (n : Nat) (xs : List Value) (off on : ByteArray) (file : Nat) (w : World)
    (hd : Cells w p 76 (diskCells units armed left gone room (.map none) (.map none) v7 v8 v9))
    (hown : w.ownsRow 0 103 3 v7 n xs) (a1 : v7.ownBlock ≠ some p)
    (hnm : nm ≤ 1000000) (hn : n ≤ 1000000) (h1 : off.size ≤ 1000000) (h2 : on.size ≤ 1000000) (hf : file ≤ 1000000) :
    Calls Try.prog 48 #[.pointer (some ⟨p, 5, none⟩), .agg #[.string off, .string on, .int .i64 file]] w fun e w' => e = .returned (.tuple #[]) ∧
      DWaited p (fun x y z => diskCells units armed left gone room x y z v8 v9) (.map none) (.map none) v7 (nm + 1) [] (capply off.data.toList on.data.toList file []) n xs [.string off, .string on, .int .i64 file] w w' := by
  obtain ⟨i0, hi, hz0, hz1, hz2⟩ := info_parts infoChange
  have hpl := hd.lt
  have d5 : w.cell? ⟨p, 5, none⟩ = some (.map none) := hd.cell 5
  have d6 : w.cell? ⟨p, 6, none⟩ = some (.map none) := hd.cell 6
  have f5 := hd.frozen 5
  have f6 := hd.frozen 6
  have C := fun W (hm : W.ownsMap Try.prog 9 (plainElem Try.prog 3) (w.heap.size + 1 + 1) nm (dmapD [])) => apply_any off on file (w.heap.size + 1 + 1) nm [] W hm hnm h1 h2 hf
  have HC := Lib.hid C
  have HO := Lib.hid hown
  have A1 := Lib.hid a1
  clear C hown a1
  have hmm := @run_makeMap Try.prog
  have g1 := ((hd.alloc (.cells #[.string off, .string on, .int .i64 file] 103)).alloc (.map #[] 0)).alloc (.map #[] 0)
  have g2 := g1.set 5 (.map (some (w.heap.size + 1)))
  have q5 := g1.cell 5
  have q6 := g2.cell 6
  have q5f := g1.frozen 5
  have q6f := g2.frozen 6
  simp [diskCells] at q5 q6
  have g3 := g2.set 6 (.map (some (w.heap.size + 1 + 1)))
  have hsz : ((w.alloc (.cells #[.string off, .string on, .int .i64 file] 103)).alloc (.map #[] 0)).heap.size = w.heap.size + 1 + 1 := by simp
  have hsz1 : (w.alloc (.cells #[.string off, .string on, .int .i64 file] 103)).heap.size = w.heap.size + 1 := by simp
  have m5 : (w.alloc (.cells #[.string off, .string on, .int .i64 file] 103) |>.alloc (.map #[] 0)).ownsMap Try.prog 9 (plainElem Try.prog 3) (w.heap.size + 1) nm (dmapD []) := by
    have := World.ownsMap_made (H := Unit) (w.alloc (.cells #[.string off, .string on, .int .i64 file] 103)) Try.prog 9 (plainElem Try.prog 3)
    rw [hsz1] at this; exact this.mono (Nat.zero_le _)
  have m6 : ((w.alloc (.cells #[.string off, .string on, .int .i64 file] 103) |>.alloc (.map #[] 0)).alloc (.map #[] 0)).ownsMap Try.prog 9 (plainElem Try.prog 3) (w.heap.size + 1 + 1) nm (dmapD []) := by
    have := World.ownsMap_made (H := Unit) ((w.alloc (.cells #[.string off, .string on, .int .i64 file] 103)).alloc (.map #[] 0)) Try.prog 9 (plainElem Try.prog 3)
    rw [hsz] at this; exact this.mono (Nat.zero_le _)
  obtain ⟨W0, hW0, hd0, bx, hm5, hm6, hon0⟩ : ∃ W0, ((((w.alloc (.cells #[.string off, .string on, .int .i64 file] 103)).alloc (.map #[] 0)).alloc (.map #[] 0)).setCell ⟨p, 5, none⟩ (.map (some (w.heap.size + 1)))).setCell ⟨p, 6, none⟩ (.map (some (w.heap.size + 1 + 1))) = W0 ∧
      Cells W0 p 76 (diskCells units armed left gone room (.map (some (w.heap.size + 1))) (.map (some (w.heap.size + 1 + 1))) v7 v8 v9) ∧ Cells W0 w.heap.size 103 #[.string off, .string on, .int .i64 file] ∧
      W0.ownsMap Try.prog 9 (plainElem Try.prog 3) (w.heap.size + 1) nm (dmapD []) ∧ W0.ownsMap Try.prog 9 (plainElem Try.prog 3) (w.heap.size + 1 + 1) nm (dmapD []) ∧ Only (· = p) w W0 := by
    refine ⟨_, rfl, by simpa [diskCells] using g3, ?_, ?_, ?_, ?_⟩
    · exact ((((Cells.new w _ _).alloc _).alloc _).other (p := ⟨p, 5, none⟩) (by show _ ≠ p; omega) _).other (p := ⟨p, 6, none⟩) (by show _ ≠ p; omega) _
    · exact ((m5.alloc _).setCell (a := ⟨p, 5, none⟩) (by show _ ≠ p; omega) _).setCell (a := ⟨p, 6, none⟩) (by show _ ≠ p; omega) _
    · exact (m6.setCell (a := ⟨p, 5, none⟩) (by show _ ≠ p; omega) _).setCell (a := ⟨p, 6, none⟩) (by show _ ≠ p; omega) _
    · exact (((((Only.refl (· = p) w).alloc _).alloc _).alloc _).cellS 5 _).cellS 6 _
  have HW := Lib.hid hW0
  have hpl0 := hd0.lt
  have e6 : W0.cell? ⟨p, 6, none⟩ = some (.map (some (w.heap.size + 1 + 1))) := hd0.cell 6
  have b0 := bx.cell 0; have b1 := bx.cell 1; have b2 := bx.cell 2
  simp at b0 b1 b2
  have M5 := Lib.hid hm5; have M6 := Lib.hid hm6; have BX := Lib.hid bx
  clear g1 g2 g3 hsz hsz1 m5 m6 hW0 hm5 hm6 bx
  go_enter Try.func48, Try.ntmps48
  go_wp2
  rw [HW.out]
  clear hmm q5 q6 q5f q6f d5 d6 f5 f6 HW
  go_region_law ((go_simp; go_at_call 72; refine (HC.out _ M6.out.drew).mono ?_; rintro e w1 ⟨rfl, hm1, hon1⟩))
  all_goals
    have hxb : Only (· = w.heap.size + 1 + 1) W0 w1 := ((Only.refl (· = w.heap.size + 1 + 1) W0).drew).trans hon1 (fun r _ h => h)
    have hd1 : Cells w1 p 76 _ := hd0.only hxb (fun e => by omega)
    have bx : Cells w1 w.heap.size 103 #[.string off, .string on, .int .i64 file] := BX.out.only hxb (fun e => by omega)
    have b0 := bx.cell 0; have b1 := bx.cell 1; have b2 := bx.cell 2
    simp at b0 b1 b2
    have ho0 := row_only HO.out hon0 (fun b hb e => A1.out (by rw [hb]; exact congrArg some e))
    have ho1 : Hid (w1.ownsRow 0 103 3 v7 n xs) := row_only ho0 hxb (fun b hb e => by have := (HO.out.lt b hb).2; omega)
    have d7 : w1.cell? ⟨p, 7, none⟩ = some v7 := hd1.cell 7
    have hpl1 := hd1.lt
    have HM := Lib.hid hm1
    have hx : Only (fun r => r = p ∨ some r = mapBlock (.map none)) w w1 := (hon0.mono (S' := fun r => r = p ∨ some r = mapBlock (.map none)) (fun r _ h => .inl h)).trans hxb (fun r h e => by omega)
    have HX := Lib.hid hx
    have m5' : MapAt w1 (nm + 1) (.map (some (w.heap.size + 1))) [] := ((show MapAt W0 nm _ [] from .inr ⟨_, rfl, M5.out⟩).only hxb (fun b hb e => by cases hb; omega)).mono (Nat.le_succ _)
    have H5 := Lib.hid m5'
    clear hm1 hxb hon1 bx ho0 hx m5'
    go_wp2
    go_region_law ((refine step_append_own rfl (.tmp 27) (.tmp 29) 71 rfl 103 i0 _ 3 40 Try.underlying71 hi hz0 hz1 hz2 rfl (by decide) v7 n xs (by simp [Act.eval, Act.put]) (by exact (ho1.out.alloc _).drew) ⟨w1.heap.size, 0, none⟩ 1 1 [.string off, .string on, .int .i64 file] (by simp [Act.eval, Act.put]) rfl (cells_new_add w1 103 [.string off, .string on, .int .i64 file]) (by intro u hu; simp at hu; rcases hu with rfl | rfl | rfl <;> rfl) (by unfold maxLen; omega) (by omega) ?_); intro v' w' ho hgr hbk; obtain ⟨⟨g', cap', rfl⟩, hg', hbx, hk, hon⟩ := appended hd1 ho1.out A1.out (((Below.refl _ w1).alloc (Nat.le_refl _) _).drew) ho hgr hbk; have k7 : w'.cell? ⟨p, 7, none⟩ = some v7 := hg'.cell 7; have kf7 := hg'.frozen 7)
    all_goals
      go_wp2
      go_end0
      have hv7 : ∀ b, w.heap.size ≤ b → v7.ownBlock ≠ some b := fun b hb e => by have := (HO.out.lt b e).2; omega
      refine ⟨rfl, DWaited.mk' hpl HX.out hg' ho (fun k hk => (HO.out.lt k hk).2) hk hon H5.out HM.out A1.out (by omega) (hv7 _ (by omega)) (by omega) (by omega) (hv7 _ (by omega)) (.inr (by omega)) (.inr (by omega))⟩
end Go.Proofs.Ytdfjkcdmbbmipaa
