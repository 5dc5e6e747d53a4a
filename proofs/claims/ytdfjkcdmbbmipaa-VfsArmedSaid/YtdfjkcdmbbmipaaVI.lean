/- A change of names that waits: (*directory).wait. -/
import Derived.Test.YtdfjkcdmbbmipaaVH
import Derived.Test.YtdfjkcdmbbmipaaVG
namespace Go.Proofs.Ytdfjkcdmbbmipaa
open Go.RowKit Go.Maps
attribute [local go_sem] mapSome mapNil

theorem infoChange : (Try.prog.info? 103).map (fun i => (i.zero, i.size, i.bytes)) = some (some (.agg #[.string ⟨#[]⟩, .string ⟨#[]⟩, .int .i64 0]), 3, 40) := by kernel_rfl
/-- The same block, or a new one. -/
def sameNew (w w' : World) (a b : Option Nat) : Prop := b = a ∨ ∃ k, b = some k ∧ w.heap.size ≤ k ∧ k < w'.heap.size

/-- A directory's change that waits. -/
structure DWaited (p : Nat) (cells : Value → Value → Value → Array Value) (v5 v6 v7 : Value) (nm : Nat) (ls l : Dir) (n : Nat) (xs news : List Value) (w w' : World) : Prop where
  ex : ∃ v5' v6' v7', Cells w' p 76 (cells v5' v6' v7') ∧ MapAt w' nm v5' ls ∧ MapAt w' nm v6' l ∧ v5' ≠ .map none ∧ v6' ≠ .map none ∧ w'.ownsRow 0 103 3 v7' (n + 1) (xs ++ news) ∧
    sameNew w w' (mapBlock v5) (mapBlock v5') ∧ sameNew w w' (mapBlock v6) (mapBlock v6') ∧ sameNew w w' v7.ownBlock v7'.ownBlock ∧
    (∀ k, mapBlock v5' = some k → mapBlock v6' ≠ some k) ∧ (∀ k, mapBlock v5' = some k → v7'.ownBlock ≠ some k) ∧ (∀ k, mapBlock v6' = some k → v7'.ownBlock ≠ some k)
  only : Only (fun r => r = p ∨ some r = mapBlock v6 ∨ some r = v7.ownBlock) w w'
theorem DWaited.drew {p : Nat} {cells : Value → Value → Value → Array Value} {v5 v6 v7 : Value} {nm : Nat} {ls l : Dir} {n : Nat} {xs news : List Value} {w w' : World} (h : DWaited p cells v5 v6 v7 nm ls l n xs news w w') : DWaited p cells v5 v6 v7 nm ls l n xs news w w'.drew := ⟨h.ex, h.only.drew⟩

theorem DWaited.mk' {p b5 b6 : Nat} {units left : Int} {armed gone : Bool} {room : Int} {v5 v6 v7 v8 v9 v' : Value} {nm : Nat} {ls l : Dir} {n : Nat} {xs news : List Value} {w w1 w' : World} (hlt : p < w.heap.size)
    (hx : Only (fun r => r = p ∨ some r = mapBlock v6) w w1) (hg : Cells w' p 76 (diskCells units armed left gone room (.map (some b5)) (.map (some b6)) v7 v8 v9))
    (ho : w'.ownsRow 0 103 3 v' (n + 1) (xs ++ news)) (hr : ∀ k, v7.ownBlock = some k → k < w.heap.size)
    (hk : v'.ownBlock = v7.ownBlock ∨ ∃ k, v'.ownBlock = some k ∧ w1.heap.size ≤ k ∧ k < w'.heap.size) (hon : Only (fun r => some r = v7.ownBlock) w1 w')
    (h5 : MapAt w1 nm (.map (some b5)) ls) (h6 : w1.ownsMap Try.prog 9 (plainElem Try.prog 3) b6 nm (dmapD l))
    (a1 : v7.ownBlock ≠ some p) (a2 : b6 ≠ p) (a3 : v7.ownBlock ≠ some b6) (a4 : b5 ≠ p) (a5 : b5 ≠ b6) (a6 : v7.ownBlock ≠ some b5)
    (s5 : mapBlock v5 = some b5 ∨ w.heap.size ≤ b5) (s6 : mapBlock v6 = some b6 ∨ w.heap.size ≤ b6) :
    DWaited p (fun x y z => diskCells units armed left gone room x y z v8 v9) v5 v6 v7 nm ls l n xs news w (w'.setCell ⟨p, 7, none⟩ v') := by
  have hs := hx.size
  have hs2 := hon.size
  have l5 : b5 < w1.heap.size := h5.lt _ rfl
  have l6 : b6 < w1.heap.size := h6.lt
  have key : ∀ b, b < w1.heap.size → v7.ownBlock ≠ some b → v'.ownBlock ≠ some b := by
    intro b hb hne e
    rcases hk with h | ⟨k, h, h2, _⟩
    · exact hne (h.symm.trans e)
    · rw [h] at e; cases e; omega
  have m5 : MapAt (w'.setCell ⟨p, 7, none⟩ v') nm (.map (some b5)) ls := h5.same fun b hb => by
    cases hb
    exact (Below.heap_setCell _ _ _ _ a4).trans (hon.same b5 l5 (fun e => a6 e.symm))
  have m6 : MapAt (w'.setCell ⟨p, 7, none⟩ v') nm (.map (some b6)) l := (show MapAt w1 nm (.map (some b6)) l from .inr ⟨b6, rfl, h6⟩).same fun b hb => by
    cases hb
    exact (Below.heap_setCell _ _ _ _ a2).trans (hon.same b6 l6 (fun e => a3 e.symm))
  have hz : (w'.setCell ⟨p, 7, none⟩ v').heap.size = w'.heap.size := by simp [World.setCell]
  refine ⟨⟨.map (some b5), .map (some b6), v', by simpa [diskCells] using hg.set 7 v', m5, m6, by simp, by simp, row_cell ho (key p (by omega) a1) _, ?_, ?_, ?_, ?_, ?_, ?_⟩, ?_⟩
  · rcases s5 with h | h
    · exact .inl h.symm
    · exact .inr ⟨b5, rfl, h, by rw [hz]; omega⟩
  · rcases s6 with h | h
    · exact .inl h.symm
    · exact .inr ⟨b6, rfl, h, by rw [hz]; omega⟩
  · rcases hk with h | ⟨k, h, h2, h3⟩
    · exact .inl h
    · exact .inr ⟨k, h, by omega, by rw [hz]; exact h3⟩
  · intro k hk5 hk6; cases hk5; cases hk6; exact a5 rfl
  · intro k hk5; cases hk5; exact key b5 l5 a6
  · intro k hk5; cases hk5; exact key b6 l6 a3
  · refine Only.setCell (p := ⟨p, 7, none⟩) ?_ (.inl (.inl rfl)) _
    exact (hx.mono (S' := fun r => r = p ∨ some r = mapBlock v6 ∨ some r = v7.ownBlock) (fun r _ h => by rcases h with h | h; exact .inl h; exact .inr (.inl h))).trans hon (fun r _ h => .inr (.inr h))

set_option maxRecDepth 100000 in
set_option maxHeartbeats 2000000 in
theorem dwait_some (p : Nat) (units left : Int) (armed gone : Bool) (room : Int) (b5 b6 : Nat) (v7 v8 v9 : Value) (nm : Nat) (ls l : Dir) (n : Nat) (xs : List Value) (off on : ByteArray) (file : Nat) (w : World)
    (hd : Cells w p 76 (diskCells units armed left gone room (.map (some b5)) (.map (some b6)) v7 v8 v9)) (h5 : MapAt w nm (.map (some b5)) ls) (h6 : w.ownsMap Try.prog 9 (plainElem Try.prog 3) b6 nm (dmapD l))
    (hown : w.ownsRow 0 103 3 v7 n xs) (a1 : v7.ownBlock ≠ some p) (a2 : b6 ≠ p) (a3 : v7.ownBlock ≠ some b6) (a4 : b5 ≠ p) (a5 : b5 ≠ b6) (a6 : v7.ownBlock ≠ some b5)
    (hnm : nm ≤ 1000000) (hn : n ≤ 1000000) (h1 : off.size ≤ 1000000) (h2 : on.size ≤ 1000000) (hf : file ≤ 1000000) :
    Calls Try.prog 48 #[.pointer (some ⟨p, 5, none⟩), .agg #[.string off, .string on, .int .i64 file]] w fun e w' => e = .returned (.tuple #[]) ∧
      DWaited p (fun x y z => diskCells units armed left gone room x y z v8 v9) (.map (some b5)) (.map (some b6)) v7 (nm + 1) ls (capply off.data.toList on.data.toList file l) n xs [.string off, .string on, .int .i64 file] w w' := by
  obtain ⟨i0, hi, hz0, hz1, hz2⟩ := info_parts infoChange
  have hpl := hd.lt
  have d6 : w.cell? ⟨p, 6, none⟩ = some (.map (some b6)) := hd.cell 6
  have C := fun W (hb : Below w.heap.size w W) => apply_any off on file b6 nm l W (by
    obtain ⟨es, clock, hk, r⟩ := h6
    exact ⟨es, clock, (hb.block b6 (Array.getElem?_eq_some_iff.1 hk).1).trans hk, r⟩) hnm h1 h2 hf
  have HC := Lib.hid C
  have H6 := Lib.hid h6
  have H5 := Lib.hid h5
  have HO := Lib.hid hown
  have A1 := Lib.hid a1; have A2 := Lib.hid a2; have A3 := Lib.hid a3; have A4 := Lib.hid a4; have A5 := Lib.hid a5; have A6 := Lib.hid a6
  clear C h6 h5 hown a1 a2 a3 a4 a5 a6
  go_enter Try.func48, Try.ntmps48
  go_wp2
  go_region_law ((go_simp; go_at_call 72; refine (HC.out _ (((Below.refl _ w).alloc (Nat.le_refl _) _).drew)).mono ?_; rintro e w1 ⟨rfl, hm1, hon1⟩))
  all_goals
    have hxb : Only (· = b6) w w1 := (((Only.refl (· = b6) w).alloc _).drew).trans hon1 (fun r _ h => h)
    have hd1 : Cells w1 p 76 _ := hd.only hxb (fun e => A2.out e.symm)
    have bx : Cells w1 w.heap.size 103 #[.string off, .string on, .int .i64 file] := ((Cells.new w 103 #[.string off, .string on, .int .i64 file]).drew).only hon1 (fun e => by have := H6.out.lt; omega)
    have b0 := bx.cell 0; have b1 := bx.cell 1; have b2 := bx.cell 2
    simp at b0 b1 b2
    have ho1 : Hid (w1.ownsRow 0 103 3 v7 n xs) := row_only HO.out hxb (fun b hb e => A3.out (by rw [hb]; exact congrArg some e))
    have d7 : w1.cell? ⟨p, 7, none⟩ = some v7 := hd1.cell 7
    have hpl1 := hd1.lt
    have HM := Lib.hid hm1
    have HX := Lib.hid hxb
    clear hm1 hxb hon1 bx
    go_wp2
    go_region_law ((refine step_append_own rfl (.tmp 27) (.tmp 29) 71 rfl 103 i0 _ 3 40 Try.underlying71 hi hz0 hz1 hz2 rfl (by decide) v7 n xs (by simp [Act.eval, Act.put]) (by exact (ho1.out.alloc _).drew) ⟨w1.heap.size, 0, none⟩ 1 1 [.string off, .string on, .int .i64 file] (by simp [Act.eval, Act.put]) rfl (cells_new_add w1 103 [.string off, .string on, .int .i64 file]) (by intro u hu; simp at hu; rcases hu with rfl | rfl | rfl <;> rfl) (by unfold maxLen; omega) (by omega) ?_); intro v' w' ho hgr hbk; obtain ⟨⟨g', cap', rfl⟩, hg', hbx, hk, hon⟩ := appended hd1 ho1.out A1.out (((Below.refl _ w1).alloc (Nat.le_refl _) _).drew) ho hgr hbk; have k7 : w'.cell? ⟨p, 7, none⟩ = some v7 := hg'.cell 7; have kf7 := hg'.frozen 7)
    all_goals
      go_wp2
      go_end0
      refine ⟨rfl, DWaited.mk' hpl (HX.out.mono fun r _ h => .inr (by rw [h]; rfl)) hg' ho (fun k hk => (HO.out.lt k hk).2) hk hon ((H5.out.only HX.out (fun b hb e => A5.out (by cases hb; exact e))).mono (Nat.le_succ _)) HM.out A1.out A2.out A3.out A4.out A5.out A6.out (.inl rfl) (.inl rfl)⟩

end Go.Proofs.Ytdfjkcdmbbmipaa
