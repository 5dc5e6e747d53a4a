/- Texts put together: VG, VI, VJ, VK, VL, VN, VO. -/
import Derived.Shelf.SlMaps.Clone
import Derived.BigRegion
import Derived.Test.YtembondddgfpcaaBvp1
set_option linter.unusedVariables false
namespace Go.Proofs.Ytembondddgfpcaa
open Go.RowKit
attribute [local go_sem] errV_0 errV_3

/-- The acts of a disk, with one more. -/
structure Did (p : Nat) (cells : Value → Array Value) (v9 : Value) (n : Nat) (xs news : List Value) (w w' : World) : Prop where
  ex : ∃ v', Cells w' p 71 (cells v') ∧ w'.ownsRow 0 89 5 v' (n + 1) (xs ++ news) ∧ (v'.ownBlock = v9.ownBlock ∨ ∃ k, v'.ownBlock = some k ∧ w.heap.size ≤ k ∧ k < w'.heap.size)
  only : Only (fun r => r = p ∨ some r = v9.ownBlock) w w'
theorem Did.drew {p : Nat} {cells : Value → Array Value} {v9 : Value} {n : Nat} {xs news : List Value} {w w' : World} (h : Did p cells v9 n xs news w w') : Did p cells v9 n xs news w w'.drew := ⟨h.ex, h.only.drew⟩
theorem Did.mk' {p : Nat} {units left : Int} {armed gone : Bool} {room : Int} {v5 v6 v7 v8 v9 v' : Value} {n : Nat} {xs news : List Value} {w w1 w' : World} (hlt : p < w.heap.size) (hx : Only (· = p) w w1) (hg : Cells w' p 71 (diskCells units armed left gone room v5 v6 v7 v8 v9))
    (ho : w'.ownsRow 0 89 5 v' (n + 1) (xs ++ news)) (hne : v9.ownBlock ≠ some p)
    (hk : v'.ownBlock = v9.ownBlock ∨ ∃ k, v'.ownBlock = some k ∧ w1.heap.size ≤ k ∧ k < w'.heap.size) (hon : Only (fun r => some r = v9.ownBlock) w1 w') :
    Did p (diskCells units armed left gone room v5 v6 v7 v8) v9 n xs news w (w'.setCell ⟨p, 9, none⟩ v') := by
  have hs := hx.size
  have hvg : v'.ownBlock ≠ some p := by
    intro e
    rcases hk with h | ⟨k, h, h2, _⟩
    · exact hne (h.symm.trans e)
    · rw [h] at e; cases e; omega
  refine ⟨⟨v', by simpa [diskCells] using hg.set 9 v', row_cell ho hvg _, ?_⟩, ?_⟩
  · rcases hk with h | ⟨k, h, h2, h3⟩
    · exact .inl h
    · exact .inr ⟨k, h, by omega, by simpa [World.setCell] using h3⟩
  · exact ((hx.mono (S' := fun r => r = p ∨ some r = v9.ownBlock) (fun r _ h => .inl h)).trans hon (fun r _ h => .inr h)).setCell (p := ⟨p, 9, none⟩) (.inl (.inl rfl)) _

set_option maxRecDepth 100000 in
set_option maxHeartbeats 2000000 in
theorem do_down (p : Nat) (units left : Int) (gone : Bool) (room : Int) (v5 v6 v7 v8 v9 : Value) (kind at_ : Nat) (name other bytes : ByteArray) (w : World)
    (hd : Cells w p 71 (diskCells units true left gone room v5 v6 v7 v8 v9)) (hu : 0 ≤ units) (hu2 : units ≤ 1000000000) (hl : left = 0) :
    Calls Try.prog 50 #[.pointer (some ⟨p, 0, none⟩), .agg #[.int .i64 kind, .string name, .string other, .string bytes, .int .i64 at_]] w fun e w' =>
      e = .returned (errV 3) ∧ Cells w' p 71 (diskCells units true left true room v5 v6 v7 v8 v9) ∧ Only (· = p) w w' := by
  have C := spend_any p 71 units left true gone room v5 v6 v7 v8 v9 1 (w.alloc (.cells #[.int .i64 kind, .string name, .string other, .string bytes, .int .i64 at_] 89)) (hd.alloc _) (by omega) (by omega) hu (by omega) (by omega) (by omega)
  subst hl
  simp only [spent, Int.reduceLT, decide_true, Bool.or_true, if_true, Int.sub_zero, Int.add_zero, Bool.and_self] at C
  have HC := Lib.hid C
  clear C hd
  go_enter Try.func50, Try.ntmps50
  go_wp2_with fail
  refine HC.out.mono ?_
  rintro e w1 ⟨rfl, hd1, hon⟩
  have hon2 : Only (· = p) w w1 := ((Only.refl _ w).alloc _).trans hon (fun _ _ h => h)
  clear HC hon
  go_wp2
  go_ret
  exact ⟨rfl, hd1, hon2⟩

set_option maxRecDepth 100000 in
set_option maxHeartbeats 2000000 in
theorem do_up (p : Nat) (units left : Int) (armed gone : Bool) (room : Int) (v5 v6 v7 v8 v9 : Value) (kind at_ : Nat) (name other bytes : ByteArray) (n : Nat) (xs : List Value) (w : World)
    (hd : Cells w p 71 (diskCells units armed left gone room v5 v6 v7 v8 v9)) (hu : 0 ≤ units) (hu2 : units ≤ 1000000000) (hl : 0 ≤ left) (hl2 : left ≤ 9223372036854775807) (ha : armed = false ∨ 1 ≤ left)
    (hown : w.ownsRow 0 89 5 v9 n xs) (hne : v9.ownBlock ≠ some p) (hn : n ≤ 1000000) :
    Calls Try.prog 50 #[.pointer (some ⟨p, 0, none⟩), .agg #[.int .i64 kind, .string name, .string other, .string bytes, .int .i64 at_]] w fun e w' =>
      e = .returned (errV 0) ∧ Did p (diskCells (units + 1) armed (if armed then left - 1 else left) gone room v5 v6 v7 v8) v9 n xs [.int .i64 kind, .string name, .string other, .string bytes, .int .i64 at_] w w' := by
  have C := spend_any p 71 units left armed gone room v5 v6 v7 v8 v9 1 (w.alloc (.cells #[.int .i64 kind, .string name, .string other, .string bytes, .int .i64 at_] 89)) (hd.alloc _) (by omega) (by omega) hu (by omega) (by omega) (by omega)
  have hsp : spent armed left 1 = 1 := by
    unfold spent
    rcases ha with rfl | h
    · rfl
    · simp; omega
  have hgo : (gone || (armed && decide (left < 1))) = gone := by
    rcases ha with rfl | h
    · simp
    · have : decide (left < 1) = false := decide_eq_false (by omega)
      simp [this]
  rw [hsp, hgo] at C
  obtain ⟨i0, hi, hz0, hz1, hz2⟩ := info_parts infoAct
  have hpl := hd.lt
  have HC := Lib.hid C
  have HO := Lib.hid hown
  have HE := Lib.hid hne
  have HB := Lib.hid (Cells.new w 89 #[.int .i64 kind, .string name, .string other, .string bytes, .int .i64 at_])
  clear C hd hsp hgo hown hne ha
  generalize (if armed then left - 1 else left) = left' at *
  go_enter Try.func50, Try.ntmps50
  go_wp2_with fail
  refine HC.out.mono ?_
  rintro e w1 ⟨rfl, hd1, hon⟩
  have hon2 : Only (· = p) w w1 := ((Only.refl _ w).alloc _).trans hon (fun _ _ h => h)
  have bx : Cells w1 w.heap.size 89 #[.int .i64 kind, .string name, .string other, .string bytes, .int .i64 at_] := HB.out.only hon (by omega)
  have ho1 : Hid (w1.ownsRow 0 89 5 v9 n xs) := row_only HO.out hon2 (fun b hb e => HE.out (by rw [hb]; exact congrArg some e))
  have b0 := bx.cell 0; have b1 := bx.cell 1; have b2 := bx.cell 2; have b3 := bx.cell 3; have b4 := bx.cell 4
  simp at b0 b1 b2 b3 b4
  have d9 : w1.cell? ⟨p, 9, none⟩ = some v9 := hd1.cell 9
  have hpl1 := hd1.lt
  clear HC hon HB bx
  go_wp2
  go_region_law ((refine step_append_own rfl (.tmp 15) (.tmp 17) 60 rfl 89 i0 _ 5 64 Try.underlying60 hi hz0 hz1 hz2 rfl (by decide) v9 n xs (by simp [Act.eval]) (by exact (ho1.out.alloc _).drew) ⟨w1.heap.size, 0, none⟩ 1 1 [.int .i64 kind, .string name, .string other, .string bytes, .int .i64 at_] (by simp [Act.eval]) rfl (cells_new_add w1 89 [.int .i64 kind, .string name, .string other, .string bytes, .int .i64 at_]) (by intro u hu; simp at hu; rcases hu with rfl | rfl | rfl | rfl | rfl <;> rfl) (by unfold maxLen; omega) (by omega) ?_); intro v' w' ho hgr hbk; obtain ⟨⟨g', cap', rfl⟩, hg', hbx, hk, hon⟩ := appended hd1 ho1.out HE.out (((Below.refl _ w1).alloc (Nat.le_refl _) _).drew) ho hgr hbk; have k9 : w'.cell? ⟨p, 9, none⟩ = some v9 := hg'.cell 9; have kf9 := hg'.frozen 9)
  all_goals
    go_wp2
    go_ret
    exact ⟨rfl, Did.mk' hpl hon2 hg' ho HE.out hk hon⟩
end Go.Proofs.Ytembondddgfpcaa

namespace Go.Proofs.Ytembondddgfpcaa
open Go.RowKit Go.Maps
attribute [local go_sem] mapSome mapNil

theorem infoChange : (Try.prog.info? 107).map (fun i => (i.zero, i.size, i.bytes)) = some (some (.agg #[.string ⟨#[]⟩, .string ⟨#[]⟩, .int .i64 0]), 3, 40) := by kernel_rfl
/-- The same block, or a new one. -/
def sameNew (w w' : World) (a b : Option Nat) : Prop := b = a ∨ ∃ k, b = some k ∧ w.heap.size ≤ k ∧ k < w'.heap.size

/-- A directory's change that waits. -/
structure DWaited (p : Nat) (cells : Value → Value → Value → Array Value) (v5 v6 v7 : Value) (nm : Nat) (ls l : Dir) (n : Nat) (xs news : List Value) (w w' : World) : Prop where
  ex : ∃ v5' v6' v7', Cells w' p 71 (cells v5' v6' v7') ∧ MapAt w' nm v5' ls ∧ MapAt w' nm v6' l ∧ v5' ≠ .map none ∧ v6' ≠ .map none ∧ w'.ownsRow 0 107 3 v7' (n + 1) (xs ++ news) ∧
    sameNew w w' (mapBlock v5) (mapBlock v5') ∧ sameNew w w' (mapBlock v6) (mapBlock v6') ∧ sameNew w w' v7.ownBlock v7'.ownBlock ∧
    (∀ k, mapBlock v5' = some k → mapBlock v6' ≠ some k) ∧ (∀ k, mapBlock v5' = some k → v7'.ownBlock ≠ some k) ∧ (∀ k, mapBlock v6' = some k → v7'.ownBlock ≠ some k)
  only : Only (fun r => r = p ∨ some r = mapBlock v6 ∨ some r = v7.ownBlock) w w'
theorem DWaited.drew {p : Nat} {cells : Value → Value → Value → Array Value} {v5 v6 v7 : Value} {nm : Nat} {ls l : Dir} {n : Nat} {xs news : List Value} {w w' : World} (h : DWaited p cells v5 v6 v7 nm ls l n xs news w w') : DWaited p cells v5 v6 v7 nm ls l n xs news w w'.drew := ⟨h.ex, h.only.drew⟩

theorem DWaited.mk' {p b5 b6 : Nat} {units left : Int} {armed gone : Bool} {room : Int} {v5 v6 v7 v8 v9 v' : Value} {nm : Nat} {ls l : Dir} {n : Nat} {xs news : List Value} {w w1 w' : World} (hlt : p < w.heap.size)
    (hx : Only (fun r => r = p ∨ some r = mapBlock v6) w w1) (hg : Cells w' p 71 (diskCells units armed left gone room (.map (some b5)) (.map (some b6)) v7 v8 v9))
    (ho : w'.ownsRow 0 107 3 v' (n + 1) (xs ++ news)) (hr : ∀ k, v7.ownBlock = some k → k < w.heap.size)
    (hk : v'.ownBlock = v7.ownBlock ∨ ∃ k, v'.ownBlock = some k ∧ w1.heap.size ≤ k ∧ k < w'.heap.size) (hon : Only (fun r => some r = v7.ownBlock) w1 w')
    (h5 : MapAt w1 nm (.map (some b5)) ls) (h6 : w1.ownsMap Try.prog 9 (plainElem Try.prog 3) b6 nm (dmapD l))
    (a1 : v7.ownBlock ≠ some p) (a2 : b6 ≠ p) (a3 : v7.ownBlock ≠ some b6) (a4 : b5 ≠ p) (a5 : b5 ≠ b6) (a6 : v7.ownBlock ≠ some b5)
    (s5 : mapBlock v5 = some b5 ∨ w.heap.size ≤ b5) (s6 : mapBlock v6 = some b6 ∨ w.heap.size ≤ b6) :
    DWaited p (fun x y z => diskCells units armed left gone room x y z v8 v9) v5 v6 v7 nm ls l n xs news w (w'.setCell ⟨p, 7, none⟩ v') := by
  have hs := hx.size
  have hs2 := hon.size
  have l5 : b5 < w1.heap.size := h5.lt _ rfl
  have l6 : b6 < w1.heap.size := h6.lt
  have key : ∀ b, b < w1.heap.size → v7.ownBlock ≠ some b → v'.ownBlock ≠ some b := by
    intro b hb hne e
    rcases hk with h | ⟨k, h, h2, _⟩
    · exact hne (h.symm.trans e)
    · rw [h] at e; cases e; omega
  have m5 : MapAt (w'.setCell ⟨p, 7, none⟩ v') nm (.map (some b5)) ls := h5.same fun b hb => by
    cases hb
    exact (Below.heap_setCell _ _ _ _ a4).trans (hon.same b5 l5 (fun e => a6 e.symm))
  have m6 : MapAt (w'.setCell ⟨p, 7, none⟩ v') nm (.map (some b6)) l := (show MapAt w1 nm (.map (some b6)) l from .inr ⟨b6, rfl, h6⟩).same fun b hb => by
    cases hb
    exact (Below.heap_setCell _ _ _ _ a2).trans (hon.same b6 l6 (fun e => a3 e.symm))
  have hz : (w'.setCell ⟨p, 7, none⟩ v').heap.size = w'.heap.size := by simp [World.setCell]
  refine ⟨⟨.map (some b5), .map (some b6), v', by simpa [diskCells] using hg.set 7 v', m5, m6, by simp, by simp, row_cell ho (key p (by omega) a1) _, ?_, ?_, ?_, ?_, ?_, ?_⟩, ?_⟩
  · rcases s5 with h | h
    · exact .inl h.symm
    · exact .inr ⟨b5, rfl, h, by rw [hz]; omega⟩
  · rcases s6 with h | h
    · exact .inl h.symm
    · exact .inr ⟨b6, rfl, h, by rw [hz]; omega⟩
  · rcases hk with h | ⟨k, h, h2, h3⟩
    · exact .inl h
    · exact .inr ⟨k, h, by omega, by rw [hz]; exact h3⟩
  · intro k hk5 hk6; cases hk5; cases hk6; exact a5 rfl
  · intro k hk5; cases hk5; exact key b5 l5 a6
  · intro k hk5; cases hk5; exact key b6 l6 a3
  · refine Only.setCell (p := ⟨p, 7, none⟩) ?_ (.inl (.inl rfl)) _
    exact (hx.mono (S' := fun r => r = p ∨ some r = mapBlock v6 ∨ some r = v7.ownBlock) (fun r _ h => by rcases h with h | h; exact .inl h; exact .inr (.inl h))).trans hon (fun r _ h => .inr (.inr h))

set_option maxRecDepth 100000 in
set_option maxHeartbeats 2000000 in
theorem dwait_some (p : Nat) (units left : Int) (armed gone : Bool) (room : Int) (b5 b6 : Nat) (v7 v8 v9 : Value) (nm : Nat) (ls l : Dir) (n : Nat) (xs : List Value) (off on : ByteArray) (file : Nat) (w : World)
    (hd : Cells w p 71 (diskCells units armed left gone room (.map (some b5)) (.map (some b6)) v7 v8 v9)) (h5 : MapAt w nm (.map (some b5)) ls) (h6 : w.ownsMap Try.prog 9 (plainElem Try.prog 3) b6 nm (dmapD l))
    (hown : w.ownsRow 0 107 3 v7 n xs) (a1 : v7.ownBlock ≠ some p) (a2 : b6 ≠ p) (a3 : v7.ownBlock ≠ some b6) (a4 : b5 ≠ p) (a5 : b5 ≠ b6) (a6 : v7.ownBlock ≠ some b5)
    (hnm : nm ≤ 1000000) (hn : n ≤ 1000000) (h1 : off.size ≤ 1000000) (h2 : on.size ≤ 1000000) (hf : file ≤ 1000000) :
    Calls Try.prog 51 #[.pointer (some ⟨p, 5, none⟩), .agg #[.string off, .string on, .int .i64 file]] w fun e w' => e = .returned (.tuple #[]) ∧
      DWaited p (fun x y z => diskCells units armed left gone room x y z v8 v9) (.map (some b5)) (.map (some b6)) v7 (nm + 1) ls (capply off.data.toList on.data.toList file l) n xs [.string off, .string on, .int .i64 file] w w' := by
  obtain ⟨i0, hi, hz0, hz1, hz2⟩ := info_parts infoChange
  have hpl := hd.lt
  have d6 : w.cell? ⟨p, 6, none⟩ = some (.map (some b6)) := hd.cell 6
  have C := fun W (hb : Below w.heap.size w W) => apply_any off on file b6 nm l W (by
    obtain ⟨es, clock, hk, r⟩ := h6
    exact ⟨es, clock, (hb.block b6 (Array.getElem?_eq_some_iff.1 hk).1).trans hk, r⟩) hnm h1 h2 hf
  have HC := Lib.hid C
  have H6 := Lib.hid h6
  have H5 := Lib.hid h5
  have HO := Lib.hid hown
  have A1 := Lib.hid a1; have A2 := Lib.hid a2; have A3 := Lib.hid a3; have A4 := Lib.hid a4; have A5 := Lib.hid a5; have A6 := Lib.hid a6
  clear C h6 h5 hown a1 a2 a3 a4 a5 a6
  go_enter Try.func51, Try.ntmps51
  go_wp2
  go_region_law ((go_simp; go_at_call 69; refine (HC.out _ (((Below.refl _ w).alloc (Nat.le_refl _) _).drew)).mono ?_; rintro e w1 ⟨rfl, hm1, hon1⟩))
  all_goals
    have hxb : Only (· = b6) w w1 := (((Only.refl (· = b6) w).alloc _).drew).trans hon1 (fun r _ h => h)
    have hd1 : Cells w1 p 71 _ := hd.only hxb (fun e => A2.out e.symm)
    have bx : Cells w1 w.heap.size 107 #[.string off, .string on, .int .i64 file] := ((Cells.new w 107 #[.string off, .string on, .int .i64 file]).drew).only hon1 (fun e => by have := H6.out.lt; omega)
    have b0 := bx.cell 0; have b1 := bx.cell 1; have b2 := bx.cell 2
    simp at b0 b1 b2
    have ho1 : Hid (w1.ownsRow 0 107 3 v7 n xs) := row_only HO.out hxb (fun b hb e => A3.out (by rw [hb]; exact congrArg some e))
    have d7 : w1.cell? ⟨p, 7, none⟩ = some v7 := hd1.cell 7
    have hpl1 := hd1.lt
    have HM := Lib.hid hm1
    have HX := Lib.hid hxb
    clear hm1 hxb hon1 bx
    go_wp2
    go_region_law ((refine step_append_own rfl (.tmp 27) (.tmp 29) 66 rfl 107 i0 _ 3 40 Try.underlying66 hi hz0 hz1 hz2 rfl (by decide) v7 n xs (by simp [Act.eval]) (by exact (ho1.out.alloc _).drew) ⟨w1.heap.size, 0, none⟩ 1 1 [.string off, .string on, .int .i64 file] (by simp [Act.eval]) rfl (cells_new_add w1 107 [.string off, .string on, .int .i64 file]) (by intro u hu; simp at hu; rcases hu with rfl | rfl | rfl <;> rfl) (by unfold maxLen; omega) (by omega) ?_); intro v' w' ho hgr hbk; obtain ⟨⟨g', cap', rfl⟩, hg', hbx, hk, hon⟩ := appended hd1 ho1.out A1.out (((Below.refl _ w1).alloc (Nat.le_refl _) _).drew) ho hgr hbk; have k7 : w'.cell? ⟨p, 7, none⟩ = some v7 := hg'.cell 7; have kf7 := hg'.frozen 7)
    all_goals
      go_wp2
      go_end0
      refine ⟨rfl, DWaited.mk' hpl (HX.out.mono fun r _ h => .inr (by rw [h]; rfl)) hg' ho (fun k hk => (HO.out.lt k hk).2) hk hon ((H5.out.only HX.out (fun b hb e => A5.out (by cases hb; exact e))).mono (Nat.le_succ _)) HM.out A1.out A2.out A3.out A4.out A5.out A6.out (.inl rfl) (.inl rfl)⟩

end Go.Proofs.Ytembondddgfpcaa

namespace Go.Proofs.Ytembondddgfpcaa
open Go.RowKit Go.Maps
attribute [local go_sem] mapSome mapNil
set_option maxRecDepth 100000 in
set_option maxHeartbeats 2000000 in
theorem dwait_none (p : Nat) (units left : Int) (armed gone : Bool) (room : Int) (v7 v8 v9 : Value) (nm : Nat) (n : Nat) (xs : List Value) (off on : ByteArray) (file : Nat) (w : World)
    (hd : Cells w p 71 (diskCells units armed left gone room (.map none) (.map none) v7 v8 v9))
    (hown : w.ownsRow 0 107 3 v7 n xs) (a1 : v7.ownBlock ≠ some p)
    (hnm : nm ≤ 1000000) (hn : n ≤ 1000000) (h1 : off.size ≤ 1000000) (h2 : on.size ≤ 1000000) (hf : file ≤ 1000000) :
    Calls Try.prog 51 #[.pointer (some ⟨p, 5, none⟩), .agg #[.string off, .string on, .int .i64 file]] w fun e w' => e = .returned (.tuple #[]) ∧
      DWaited p (fun x y z => diskCells units armed left gone room x y z v8 v9) (.map none) (.map none) v7 (nm + 1) [] (capply off.data.toList on.data.toList file []) n xs [.string off, .string on, .int .i64 file] w w' := by
  obtain ⟨i0, hi, hz0, hz1, hz2⟩ := info_parts infoChange
  have hpl := hd.lt
  have d5 : w.cell? ⟨p, 5, none⟩ = some (.map none) := hd.cell 5
  have d6 : w.cell? ⟨p, 6, none⟩ = some (.map none) := hd.cell 6
  have f5 := hd.frozen 5
  have f6 := hd.frozen 6
  have C := fun W (hm : W.ownsMap Try.prog 9 (plainElem Try.prog 3) (w.heap.size + 1 + 1) nm (dmapD [])) => apply_any off on file (w.heap.size + 1 + 1) nm [] W hm hnm h1 h2 hf
  have HC := Lib.hid C
  have HO := Lib.hid hown
  have A1 := Lib.hid a1
  clear C hown a1
  have hmm := @run_makeMap Try.prog
  have g1 := ((hd.alloc (.cells #[.string off, .string on, .int .i64 file] 107)).alloc (.map #[] 0)).alloc (.map #[] 0)
  have g2 := g1.set 5 (.map (some (w.heap.size + 1)))
  have q5 := g1.cell 5
  have q6 := g2.cell 6
  have q5f := g1.frozen 5
  have q6f := g2.frozen 6
  simp [diskCells] at q5 q6
  have g3 := g2.set 6 (.map (some (w.heap.size + 1 + 1)))
  have hsz : ((w.alloc (.cells #[.string off, .string on, .int .i64 file] 107)).alloc (.map #[] 0)).heap.size = w.heap.size + 1 + 1 := by simp
  have hsz1 : (w.alloc (.cells #[.string off, .string on, .int .i64 file] 107)).heap.size = w.heap.size + 1 := by simp
  have m5 : (w.alloc (.cells #[.string off, .string on, .int .i64 file] 107) |>.alloc (.map #[] 0)).ownsMap Try.prog 9 (plainElem Try.prog 3) (w.heap.size + 1) nm (dmapD []) := by
    have := World.ownsMap_made (H := Unit) (w.alloc (.cells #[.string off, .string on, .int .i64 file] 107)) Try.prog 9 (plainElem Try.prog 3)
    rw [hsz1] at this; exact this.mono (Nat.zero_le _)
  have m6 : ((w.alloc (.cells #[.string off, .string on, .int .i64 file] 107) |>.alloc (.map #[] 0)).alloc (.map #[] 0)).ownsMap Try.prog 9 (plainElem Try.prog 3) (w.heap.size + 1 + 1) nm (dmapD []) := by
    have := World.ownsMap_made (H := Unit) ((w.alloc (.cells #[.string off, .string on, .int .i64 file] 107)).alloc (.map #[] 0)) Try.prog 9 (plainElem Try.prog 3)
    rw [hsz] at this; exact this.mono (Nat.zero_le _)
  obtain ⟨W0, hW0, hd0, bx, hm5, hm6, hon0⟩ : ∃ W0, ((((w.alloc (.cells #[.string off, .string on, .int .i64 file] 107)).alloc (.map #[] 0)).alloc (.map #[] 0)).setCell ⟨p, 5, none⟩ (.map (some (w.heap.size + 1)))).setCell ⟨p, 6, none⟩ (.map (some (w.heap.size + 1 + 1))) = W0 ∧
      Cells W0 p 71 (diskCells units armed left gone room (.map (some (w.heap.size + 1))) (.map (some (w.heap.size + 1 + 1))) v7 v8 v9) ∧ Cells W0 w.heap.size 107 #[.string off, .string on, .int .i64 file] ∧
      W0.ownsMap Try.prog 9 (plainElem Try.prog 3) (w.heap.size + 1) nm (dmapD []) ∧ W0.ownsMap Try.prog 9 (plainElem Try.prog 3) (w.heap.size + 1 + 1) nm (dmapD []) ∧ Only (· = p) w W0 := by
    refine ⟨_, rfl, by simpa [diskCells] using g3, ?_, ?_, ?_, ?_⟩
    · exact ((((Cells.new w _ _).alloc _).alloc _).other (p := ⟨p, 5, none⟩) (by show _ ≠ p; omega) _).other (p := ⟨p, 6, none⟩) (by show _ ≠ p; omega) _
    · exact ((m5.alloc _).setCell (a := ⟨p, 5, none⟩) (by show _ ≠ p; omega) _).setCell (a := ⟨p, 6, none⟩) (by show _ ≠ p; omega) _
    · exact (m6.setCell (a := ⟨p, 5, none⟩) (by show _ ≠ p; omega) _).setCell (a := ⟨p, 6, none⟩) (by show _ ≠ p; omega) _
    · exact (((((Only.refl (· = p) w).alloc _).alloc _).alloc _).cellS 5 _).cellS 6 _
  have HW := Lib.hid hW0
  have hpl0 := hd0.lt
  have e6 : W0.cell? ⟨p, 6, none⟩ = some (.map (some (w.heap.size + 1 + 1))) := hd0.cell 6
  have b0 := bx.cell 0; have b1 := bx.cell 1; have b2 := bx.cell 2
  simp at b0 b1 b2
  have M5 := Lib.hid hm5; have M6 := Lib.hid hm6; have BX := Lib.hid bx
  clear g1 g2 g3 hsz hsz1 m5 m6 hW0 hm5 hm6 bx
  go_enter Try.func51, Try.ntmps51
  go_wp2
  rw [HW.out]
  clear hmm q5 q6 q5f q6f d5 d6 f5 f6 HW
  go_region_law ((go_simp; go_at_call 69; refine (HC.out _ M6.out.drew).mono ?_; rintro e w1 ⟨rfl, hm1, hon1⟩))
  all_goals
    have hxb : Only (· = w.heap.size + 1 + 1) W0 w1 := ((Only.refl (· = w.heap.size + 1 + 1) W0).drew).trans hon1 (fun r _ h => h)
    have hd1 : Cells w1 p 71 _ := hd0.only hxb (fun e => by omega)
    have bx : Cells w1 w.heap.size 107 #[.string off, .string on, .int .i64 file] := BX.out.only hxb (fun e => by omega)
    have b0 := bx.cell 0; have b1 := bx.cell 1; have b2 := bx.cell 2
    simp at b0 b1 b2
    have ho0 := row_only HO.out hon0 (fun b hb e => A1.out (by rw [hb]; exact congrArg some e))
    have ho1 : Hid (w1.ownsRow 0 107 3 v7 n xs) := row_only ho0 hxb (fun b hb e => by have := (HO.out.lt b hb).2; omega)
    have d7 : w1.cell? ⟨p, 7, none⟩ = some v7 := hd1.cell 7
    have hpl1 := hd1.lt
    have HM := Lib.hid hm1
    have hx : Only (fun r => r = p ∨ some r = mapBlock (.map none)) w w1 := (hon0.mono (S' := fun r => r = p ∨ some r = mapBlock (.map none)) (fun r _ h => .inl h)).trans hxb (fun r h e => by omega)
    have HX := Lib.hid hx
    have m5' : MapAt w1 (nm + 1) (.map (some (w.heap.size + 1))) [] := ((show MapAt W0 nm _ [] from .inr ⟨_, rfl, M5.out⟩).only hxb (fun b hb e => by cases hb; omega)).mono (Nat.le_succ _)
    have H5 := Lib.hid m5'
    clear hm1 hxb hon1 bx ho0 hx m5'
    go_wp2
    go_region_law ((refine step_append_own rfl (.tmp 27) (.tmp 29) 66 rfl 107 i0 _ 3 40 Try.underlying66 hi hz0 hz1 hz2 rfl (by decide) v7 n xs (by simp [Act.eval]) (by exact (ho1.out.alloc _).drew) ⟨w1.heap.size, 0, none⟩ 1 1 [.string off, .string on, .int .i64 file] (by simp [Act.eval]) rfl (cells_new_add w1 107 [.string off, .string on, .int .i64 file]) (by intro u hu; simp at hu; rcases hu with rfl | rfl | rfl <;> rfl) (by unfold maxLen; omega) (by omega) ?_); intro v' w' ho hgr hbk; obtain ⟨⟨g', cap', rfl⟩, hg', hbx, hk, hon⟩ := appended hd1 ho1.out A1.out (((Below.refl _ w1).alloc (Nat.le_refl _) _).drew) ho hgr hbk; have k7 : w'.cell? ⟨p, 7, none⟩ = some v7 := hg'.cell 7; have kf7 := hg'.frozen 7)
    all_goals
      go_wp2
      go_end0
      have hv7 : ∀ b, w.heap.size ≤ b → v7.ownBlock ≠ some b := fun b hb e => by have := (HO.out.lt b e).2; omega
      refine ⟨rfl, DWaited.mk' hpl HX.out hg' ho (fun k hk => (HO.out.lt k hk).2) hk hon H5.out HM.out A1.out (by omega) (hv7 _ (by omega)) (by omega) (by omega) (hv7 _ (by omega)) (.inr (by omega)) (.inr (by omega))⟩
end Go.Proofs.Ytembondddgfpcaa

namespace Go.Proofs.Ytembondddgfpcaa
open Go.RowKit Go.Maps
attribute [local go_sem] mapSome mapNil

set_option maxRecDepth 100000 in
set_option maxHeartbeats 1000000 in
theorem clone_some (b n : Nat) (l : Dir) (w : World) (ho : w.ownsMap Try.prog 9 (plainElem Try.prog 3) b n (dmapD l)) :
    Calls Try.prog 67 #[.map (some b)] w fun e w' => e = .returned (.map (some w.heap.size)) ∧ w'.ownsMap Try.prog 9 (plainElem Try.prog 3) w.heap.size n (dmapD l) ∧ Below w.heap.size w w' ∧ w'.heap.size = w.heap.size + 1 := by
  obtain ⟨es, clock, hb, F, hs, hD⟩ := ho
  have fin : Calls Try.prog 67 #[.map (some b)] w fun e w' => e = .returned (.map (some w.heap.size)) ∧ w' = w.alloc (.map es clock) := by
    clear F hs hD
    go_enter Try.func67, Try.ntmps67
    go_wp2
    rw [run_callFunc_extern Try.func74 (by kernel_rfl) (by kernel_rfl) (by kernel_rfl) (e := Extern.MapsClone.clone) (by kernel_rfl), run_maps_clone_sl w 65 hb]
    simp only [Result.andThen]
    rw [Oper.upon_value]
    go_wp2
    rw [run_typeAssert_map_sl _ 65 20 _ _ _ Try.underlying65]
    simp only [Result.andThen]
    rw [Oper.upon_value]
    go_wp2
    go_ret
    exact ⟨rfl, rfl⟩
  refine fin.mono fun e w' ⟨he, hw⟩ => ?_
  subst hw
  exact ⟨he, ⟨es, clock, (MapKept.heap_alloc w _).1, F, hs, hD⟩, (Below.refl _ w).alloc (Nat.le_refl _) _, by simp⟩
theorem clone_none (w : World) : Calls Try.prog 67 #[.map none] w fun e w' => e = .returned (.map none) ∧ w = w' := by
  go_enter Try.func67, Try.ntmps67
  go_wp2
  go_ret
  exact ⟨rfl, rfl⟩

def changesCells (l : List ChangeA) : List Value := l.flatMap ChangeA.cells
def dplay (cs : List ChangeA) (l : Dir) : Dir := cs.foldl (fun l c => capply c.off.data.toList c.on.data.toList c.file l) l
theorem changes_at (cs : List ChangeA) (k : Nat) (h : k < cs.length) : (changesCells cs)[k * 3]? = some (.string cs[k].off) ∧ (changesCells cs)[k * 3 + 1]? = some (.string cs[k].on) ∧ (changesCells cs)[k * 3 + 2]? = some (.int .i64 cs[k].file) := by
  induction cs generalizing k with
  | nil => simp at h
  | cons c cs ih =>
    have e : changesCells (c :: cs) = [.string c.off, .string c.on, .int .i64 c.file] ++ changesCells cs := rfl
    rw [e]
    cases k with
    | zero => exact ⟨rfl, rfl, rfl⟩
    | succ k =>
      have := ih k (by simpa using h)
      simp only [List.getElem_cons_succ]
      rw [List.getElem?_append_right (by simp; omega), List.getElem?_append_right (by simp; omega), List.getElem?_append_right (by simp; omega)]
      simp only [List.length_cons, List.length_nil]
      rw [show (k + 1) * 3 - (0 + 1 + 1 + 1) = k * 3 by omega, show (k + 1) * 3 + 1 - (0 + 1 + 1 + 1) = k * 3 + 1 by omega, show (k + 1) * 3 + 2 - (0 + 1 + 1 + 1) = k * 3 + 2 by omega]
      exact this
theorem row_at {w : World} {base : Nat} {e : TypeId} {size : Nat} {g n cap : Nat} {xs : List Value} (h : w.ownsRow base e size (.slice (some ⟨g, 0, none⟩) n cap) n xs) {j : Nat} {u : Value} (hj : xs[j]? = some u) : w.cell? ⟨g, j, none⟩ = some u := by
  have := h.cells (g := g) rfl j u hj
  have e : (⟨g, 0, none⟩ : Addr).add j = ⟨g, j, none⟩ := by unfold Addr.add; split <;> simp_all
  rwa [e] at this

/-- A directory of which what waited is sure, or lost. -/
structure DKept (p : Nat) (cells : Value → Value → Array Value) (v5 : Value) (nm : Nat) (l : Dir) (w w' : World) : Prop where
  ex : ∃ v6', Cells w' p 71 (cells v6' (.slice none 0 0)) ∧ MapAt w' nm v5 l ∧ MapAt w' nm v6' l ∧ (v5 = .map none ↔ v6' = .map none) ∧ (mapBlock v6' = none ∨ ∃ k, mapBlock v6' = some k ∧ w.heap.size ≤ k ∧ k < w'.heap.size)
  only : Only (fun r => r = p ∨ some r = mapBlock v5) w w'
/-- How many of m are kept. -/
def keptN (n : Int) (m : Nat) : Nat := min n.toNat m
set_option maxRecDepth 100000 in
set_option maxHeartbeats 2000000 in
theorem dkeep_some (p : Nat) (units left : Int) (armed gone : Bool) (room : Int) (b5 : Nat) (v6 v8 v9 : Value) (nm : Nat) (ls : Dir) (g cap : Nat) (cs : List ChangeA) (n : Int) (w : World)
    (hd : Cells w p 71 (diskCells units armed left gone room (.map (some b5)) v6 (.slice (some ⟨g, 0, none⟩) cs.length cap) v8 v9)) (h5 : w.ownsMap Try.prog 9 (plainElem Try.prog 3) b5 nm (dmapD ls))
    (hown : w.ownsRow 0 107 3 (.slice (some ⟨g, 0, none⟩) cs.length cap) cs.length (changesCells cs)) (a1 : g ≠ p) (a2 : b5 ≠ p) (a3 : g ≠ b5)
    (hnm : nm + cs.length ≤ 1000000) (hs : ∀ c ∈ cs, c.off.size ≤ 1000000 ∧ c.on.size ≤ 1000000 ∧ c.file ≤ 1000000) (hw : (Lit.int .i64 n).wf = true) :
    Calls Try.prog 45 #[.pointer (some ⟨p, 5, none⟩), .int .i64 n] w fun e w' => e = .returned (.tuple #[]) ∧
      DKept p (fun x y => diskCells units armed left gone room (.map (some b5)) x y v8 v9) (.map (some b5)) (nm + cs.length) (dplay (cs.take (keptN n cs.length)) ls) w w' := by
  have hn : -9223372036854775808 ≤ n ∧ n ≤ 9223372036854775807 := by
    simpa [Lit.wf, IntKind.min, IntKind.max, IntKind.signed, IntKind.bits] using hw
  obtain ⟨hn1, hn2⟩ := hn
  have hkle : keptN n cs.length ≤ cs.length := Nat.min_le_right _ _
  have hm : (min (max n 0) (cs.length : Int)) = (keptN n cs.length : Int) := by unfold keptN; omega
  have hcapn : cs.length ≤ cap ∧ cap ≤ maxLen := by
    rcases hown.2 with ⟨h, _⟩ | ⟨_, _, _, h, _, _, h1, h2, _⟩
    · cases h
    · cases h; exact ⟨h1, h2⟩
  obtain ⟨hc1, hc2⟩ := hcapn
  have d7 : w.cell? ⟨p, 7, none⟩ = some (.slice (some ⟨g, 0, none⟩) cs.length cap) := hd.cell 7
  have hpl := hd.lt
  have HO := Lib.hid hown
  have H5 := Lib.hid h5
  have HS := Lib.hid hs
  clear hown h5 hs
  go_enter Try.func45, Try.ntmps45
  go_wp2
  go_quiet (fail)
  go_wp2
  go_loopw [20] (fun i wr => ∃ k : Nat, k ≤ keptN n cs.length ∧ i = .int .i64 k ∧ wr.ownsMap Try.prog 9 (plainElem Try.prog 3) b5 (nm + k) (dmapD (dplay (cs.take k) ls)) ∧ Only (· = b5) w wr) (fun i _ => keptN n cs.length - (intOf i).toNat)
  case atStart => exact ⟨0, Nat.zero_le _, rfl, H5.out, (Only.refl (· = b5) w).drewN nq⟩
  case round =>
    obtain ⟨k, hk, rfl, hmk, honk⟩ := hrel
    by_cases hlt : k < keptN n cs.length
    · have hlt2 : k < cs.length := by omega
      obtain ⟨q0, q1, q2⟩ := changes_at cs k hlt2
      have hr := row_only HO.out honk (fun b hb e => a3 (by cases hb; exact e))
      have r0 := row_at hr q0
      have r1 := row_at hr q1
      have r2 := row_at hr q2
      obtain ⟨s1, s2, s3⟩ := HS.out cs[k] (List.getElem_mem hlt2)
      have ht : cs.take (k + 1) = cs.take k ++ [cs[k]] := by rw [List.take_succ_eq_append_getElem hlt2]
      have hfold : dplay (cs.take (k + 1)) ls = capply cs[k].off.data.toList cs[k].on.data.toList cs[k].file (dplay (cs.take k) ls) := by unfold dplay; rw [ht, List.foldl_append]; rfl
      have HF := Lib.hid hfold
      have hd1 : Cells wr p 71 _ := hd.only honk (fun e => a2 e.symm)
      have d5 : wr.cell? ⟨p, 5, none⟩ = some (.map (some b5)) := hd1.cell 5
      have hpl1 := hd1.lt
      have HM := Lib.hid hmk
      have HN := Lib.hid honk
      have hgr : g < wr.heap.size := (hr.lt g rfl).2
      generalize cs[k].off = off at *
      generalize cs[k].on = on at *
      generalize cs[k].file = file at *
      have C := fun W (hm : W.ownsMap Try.prog 9 (plainElem Try.prog 3) b5 (nm + k) (dmapD (dplay (cs.take k) ls))) => apply_any off on file b5 (nm + k) (dplay (cs.take k) ls) W hm (by omega) s1 s2 s3
      have HC := Lib.hid C
      clear C q0 q1 q2 hfold ht hmk honk hr s1 s2 s3
      have hsz := hn1
      go_wp2
      go_region_law ((go_simp; go_at_call 69; refine (HC.out _ ((HM.out.alloc _).drew)).mono ?_; rintro e w1 ⟨rfl, hm1, hon1⟩))
      all_goals
        have HM1 := Lib.hid hm1
        have HN1 := Lib.hid hon1
        clear hm1 hon1
        go_wp2
        go_roundw
        case rel => exact ⟨k + 1, by omega, by go_num, by rw [HF.out]; exact HM1.out, HN.out.trans ((((Only.refl (· = b5) wr).alloc _).drew).trans HN1.out (fun _ _ h => h)) (fun _ _ h => h)⟩
        case measure => simp [intOf]; omega
    · obtain rfl : k = keptN n cs.length := by omega
      have hd1 : Cells wr p 71 _ := hd.only honk (fun e => a2 e.symm)
      have d7' : wr.cell? ⟨p, 7, none⟩ = some (.slice (some ⟨g, 0, none⟩) cs.length cap) := hd1.cell 7
      have f7' := hd1.frozen 7
      have hd2 := hd1.set 7 (.slice none 0 0)
      have d5' := hd2.cell 5
      have d6' := hd2.cell 6
      simp [diskCells] at d5' d6'
      have HD2 := Lib.hid hd2
      have HM := Lib.hid (hmk.mono (n' := nm + cs.length) (by omega))
      have HN := Lib.hid honk
      have C := clone_some b5 (nm + cs.length) (dplay (cs.take (keptN n cs.length)) ls) (wr.setCell ⟨p, 7, none⟩ (.slice none 0 0)) (HM.out.setCell (a := ⟨p, 7, none⟩) a2 _)
      have HC := Lib.hid C
      clear hmk honk hd2 C
      go_wp2_with fail
      refine HC.out.mono ?_
      rintro e w2 ⟨rfl, hm2, hb2, hs2⟩
      have hz : (wr.setCell ⟨p, 7, none⟩ (.slice none 0 0)).heap.size = wr.heap.size := by simp [World.setCell]
      rw [hz] at hm2 hb2 hs2
      have hd3 := HD2.out.below hb2 hd1.lt
      have d6'' := hd3.cell 6
      have f6'' := hd3.frozen 6
      simp [diskCells] at d6''
      have hon2 : Only (fun r => r = p ∨ some r = mapBlock (.map (some b5))) w w2 :=
        ((HN.out.mono (S' := fun r => r = p ∨ some r = mapBlock (.map (some b5))) (fun r _ h => .inr (by rw [h]; rfl))).setCell (p := ⟨p, 7, none⟩) (.inl (.inl rfl)) _).below hb2 HN.out.size
      have hm5 : w2.ownsMap Try.prog 9 (plainElem Try.prog 3) b5 (nm + cs.length) (dmapD (dplay (cs.take (keptN n cs.length)) ls)) := by
        obtain ⟨es, clock, hk5, r⟩ := HM.out.setCell (a := ⟨p, 7, none⟩) a2 (.slice none 0 0)
        exact ⟨es, clock, (hb2.block b5 HM.out.lt).trans hk5, r⟩
      have P := Lib.hid (show DKept p (fun x y => diskCells units armed left gone room (.map (some b5)) x y v8 v9) (.map (some b5)) (nm + cs.length) (dplay (cs.take (keptN n cs.length)) ls) w (w2.setCell ⟨p, 6, none⟩ (.map (some wr.heap.size))) from by
        have hwl := HN.out.size
        have hpw := hd1.lt
        refine ⟨⟨.map (some wr.heap.size), by simpa [diskCells] using hd3.set 6 (.map (some wr.heap.size)), .inr ⟨b5, rfl, hm5.setCell (a := ⟨p, 6, none⟩) a2 _⟩, .inr ⟨_, rfl, hm2.setCell (a := ⟨p, 6, none⟩) (by show _ ≠ p; omega) _⟩, by simp, .inr ⟨_, rfl, hwl, by simp [World.setCell]; omega⟩⟩, hon2.setCell (p := ⟨p, 6, none⟩) (.inl (.inl rfl)) _⟩)
      clear HC HM HN HD2 hm2 hb2 hs2 hz hd3 hon2 hm5 d5' d6' d7' f7'
      go_wp2
      go_end0
      exact ⟨rfl, P.out⟩
end Go.Proofs.Ytembondddgfpcaa

namespace Go.Proofs.Ytembondddgfpcaa
open Go.RowKit Go.Maps
attribute [local go_sem] mapSome mapNil

theorem clone_any (v : Value) (n : Nat) (l : Dir) (w : World) (h : MapAt w n v l) :
    Calls Try.prog 67 #[v] w fun e w' => ∃ v', e = .returned v' ∧ MapAt w' n v' l ∧ (v = .map none ↔ v' = .map none) ∧ (mapBlock v' = none ∨ ∃ k, mapBlock v' = some k ∧ w.heap.size ≤ k ∧ k < w'.heap.size) ∧ Below w.heap.size w w' ∧ ∃ o, v' = .map o := by
  rcases h with ⟨rfl, rfl⟩ | ⟨b, rfl, ho⟩
  · refine (clone_none w).mono ?_
    rintro e w' ⟨rfl, rfl⟩
    exact ⟨_, rfl, .inl ⟨rfl, rfl⟩, Iff.rfl, .inl rfl, Below.refl _ _, _, rfl⟩
  · refine (clone_some b n l w ho).mono ?_
    rintro e w' ⟨rfl, hm, hb, hs⟩
    exact ⟨_, rfl, .inr ⟨_, rfl, hm⟩, by simp, .inr ⟨_, rfl, Nat.le_refl _, by omega⟩, hb, _, rfl⟩

set_option maxRecDepth 100000 in
set_option maxHeartbeats 2000000 in
theorem dkeep_nil (p : Nat) (units left : Int) (armed gone : Bool) (room : Int) (v5 v6 v8 v9 : Value) (nm : Nat) (ls : Dir) (n : Int) (w : World)
    (hd : Cells w p 71 (diskCells units armed left gone room v5 v6 (.slice none 0 0) v8 v9)) (h5 : MapAt w nm v5 ls) (a2 : mapBlock v5 ≠ some p) (hw : (Lit.int .i64 n).wf = true) :
    Calls Try.prog 45 #[.pointer (some ⟨p, 5, none⟩), .int .i64 n] w fun e w' => e = .returned (.tuple #[]) ∧
      DKept p (fun x y => diskCells units armed left gone room v5 x y v8 v9) v5 nm ls w w' := by
  have hn : -9223372036854775808 ≤ n ∧ n ≤ 9223372036854775807 := by
    simpa [Lit.wf, IntKind.min, IntKind.max, IntKind.signed, IntKind.bits] using hw
  obtain ⟨hn1, hn2⟩ := hn
  have hm : (min (max n 0) (0 : Int)) = 0 := by omega
  have d7 : w.cell? ⟨p, 7, none⟩ = some (.slice none 0 0) := hd.cell 7
  have hpl := hd.lt
  have H5 := Lib.hid h5
  clear h5
  go_enter Try.func45, Try.ntmps45
  go_wp2
  go_quiet (fail)
  go_wp2
  go_loopw [20] (fun i wr => i = .int .i64 0 ∧ wr = w.drewN nq) (fun i _ => 0)
  case atStart => exact ⟨rfl, rfl⟩
  case round =>
    obtain ⟨rfl, rfl⟩ := hrel
    have hd1 : Cells (w.drewN nq) p 71 _ := hd.drewN nq
    have d7' : (w.drewN nq).cell? ⟨p, 7, none⟩ = some (.slice none 0 0) := hd1.cell 7
    have f7' := hd1.frozen 7
    have hd2 := hd1.set 7 (.slice none 0 0)
    have d5' := hd2.cell 5
    have d6' := hd2.cell 6
    simp [diskCells] at d5' d6'
    have HD2 := Lib.hid hd2
    have hm5 : MapAt ((w.drewN nq).setCell ⟨p, 7, none⟩ (.slice none 0 0)) nm v5 ls := (H5.out.drewN nq).same fun b hb => Below.heap_setCell _ _ _ _ (fun e => a2 (by rw [hb]; exact congrArg some e))
    have C := clone_any v5 nm ls ((w.drewN nq).setCell ⟨p, 7, none⟩ (.slice none 0 0)) hm5
    have HC := Lib.hid C
    have HM := Lib.hid hm5
    clear hd2 C hm5
    go_wp2_with fail
    refine HC.out.mono ?_
    rintro e w2 ⟨v', rfl, hm2, hv2, hk2, hb2, o, rfl⟩
    have hz : ((w.drewN nq).setCell ⟨p, 7, none⟩ (.slice none 0 0)).heap.size = w.heap.size := by simp [World.setCell, World.drewN]
    rw [hz] at hb2 hk2
    have hd3 := HD2.out.below hb2 hd1.lt
    have d6'' := hd3.cell 6
    have f6'' := hd3.frozen 6
    simp [diskCells] at d6''
    have hon2 : Only (fun r => r = p ∨ some r = mapBlock v5) w w2 :=
      (((Only.refl (fun r => r = p ∨ some r = mapBlock v5) w).drewN nq).setCell (p := ⟨p, 7, none⟩) (.inl (.inl rfl)) _).below hb2 (Nat.le_refl _)
    have P := Lib.hid (show DKept p (fun x y => diskCells units armed left gone room v5 x y v8 v9) v5 nm ls w (w2.setCell ⟨p, 6, none⟩ (.map o)) from by
      have hne : mapBlock (.map o) ≠ some p := by
        rcases hk2 with h | ⟨k, h, h1, _⟩
        · rw [h]; simp
        · rw [h]; intro e; cases e; omega
      refine ⟨⟨.map o, by simpa [diskCells] using hd3.set 6 (.map o), ?_, hm2.same fun b hb => Below.heap_setCell _ _ _ _ (fun e => hne (by rw [hb]; exact congrArg some e)), hv2, ?_⟩, hon2.setCell (p := ⟨p, 6, none⟩) (.inl (.inl rfl)) _⟩
      · exact HM.out.same fun b hb => (Below.heap_setCell _ _ _ _ (fun e => a2 (by rw [hb]; exact congrArg some e))).trans (hb2.block b (by have := HM.out.lt b hb; rw [hz] at this; exact this))
      · rcases hk2 with h | ⟨k, h, h1, h2⟩
        · exact .inl h
        · exact .inr ⟨k, h, h1, by simpa [World.setCell] using h2⟩)
    clear HC HM HD2 hm2 hv2 hk2 hb2 hz hd3 hon2 d5' d6' d7' f7'
    go_wp2
    go_end0
    exact ⟨rfl, P.out⟩
end Go.Proofs.Ytembondddgfpcaa

namespace Go.Proofs.Ytembondddgfpcaa
open Go.RowKit

/-- The bytes behind the first units of what waits. -/
def afterF : List ActA → Int → List UInt8 → List UInt8
  | [], _, s => s
  | a :: r, u, s => if u ≤ 0 then s else if a.kind = 3 then afterF r (u - 1) (s.take a.at_) else afterF r (u - (min u.toNat a.bytes.size : Nat)) (s ++ a.bytes.data.toList.take (min u.toNat a.bytes.size))
/-- Each cut is within what is there. -/
def fitsW : List ActA → Nat → Prop
  | [], _ => True
  | a :: r, n => if a.kind = 3 then a.at_ ≤ n ∧ fitsW r a.at_ else fitsW r (n + a.bytes.size)
def lenW (l : List ActA) : Nat := (l.map fun a => a.bytes.size).sum
theorem afterF_stop {l : List ActA} {u : Int} {s : List UInt8} (h : u ≤ 0) : afterF l u s = s := by
  cases l with
  | nil => rfl
  | cons a r => unfold afterF; rw [if_pos h]
theorem afterF_cut {a : ActA} {r : List ActA} {u : Int} {s : List UInt8} (h : ¬ u ≤ 0) (hk : a.kind = 3) : afterF (a :: r) u s = afterF r (u - 1) (s.take a.at_) := by
  conv => lhs; unfold afterF
  rw [if_neg h, if_pos hk]
theorem afterF_write {a : ActA} {r : List ActA} {u : Int} {s : List UInt8} (h : ¬ u ≤ 0) (hk : ¬ a.kind = 3) :
    afterF (a :: r) u s = afterF r (u - (min u.toNat a.bytes.size : Nat)) (s ++ a.bytes.data.toList.take (min u.toNat a.bytes.size)) := by
  conv => lhs; unfold afterF
  rw [if_neg h, if_neg hk]
theorem acts_at (l : List ActA) (k : Nat) (h : k < l.length) : (actsCells l)[k * 5]? = some (.int .i64 l[k].kind) ∧ (actsCells l)[k * 5 + 1]? = some (.string l[k].name) ∧ (actsCells l)[k * 5 + 2]? = some (.string l[k].other) ∧ (actsCells l)[k * 5 + 3]? = some (.string l[k].bytes) ∧ (actsCells l)[k * 5 + 4]? = some (.int .i64 l[k].at_) := by
  induction l generalizing k with
  | nil => simp at h
  | cons c cs ih =>
    have e : actsCells (c :: cs) = [.int .i64 c.kind, .string c.name, .string c.other, .string c.bytes, .int .i64 c.at_] ++ actsCells cs := rfl
    rw [e]
    cases k with
    | zero => exact ⟨rfl, rfl, rfl, rfl, rfl⟩
    | succ k =>
      have := ih k (by simpa using h)
      simp only [List.getElem_cons_succ]
      have sh : ∀ j, ([Value.int .i64 c.kind, .string c.name, .string c.other, .string c.bytes, .int .i64 c.at_] ++ actsCells cs)[(k + 1) * 5 + j]? = (actsCells cs)[k * 5 + j]? := by
        intro j
        rw [List.getElem?_append_right (by simp; omega)]
        congr 1
        simp; omega
      exact ⟨(sh 0).trans this.1, (sh 1).trans this.2.1, (sh 2).trans this.2.2.1, (sh 3).trans this.2.2.2.1, (sh 4).trans this.2.2.2.2⟩
theorem extract_take (s : ByteArray) (k : Nat) : (s.extract 0 k).data.toList = s.data.toList.take k := by
  rw [Lib.extract_data, List.drop_zero, Nat.sub_zero]
theorem infoByte : (Try.prog.info? 5).map (fun i => (i.zero, i.size, i.bytes)) = some (some (.int .u8 0), 1, 1) := by kernel_rfl

set_option maxRecDepth 100000 in
set_option maxHeartbeats 4000000 in
theorem after_some (gf o : Nat) (sure : ByteArray) (gw cap n : Nat) (l : List ActA) (u0 : Int) (w : World)
    (hs : w.cell? ⟨gf, o, none⟩ = some (.string sure)) (hv : w.cell? ⟨gf, o + 1, none⟩ = some (.slice (some ⟨gw, 0, none⟩) l.length cap)) (hgf : gf < w.heap.size) (hown : w.ownsRow 0 89 5 (.slice (some ⟨gw, 0, none⟩) l.length cap) l.length (actsCells l))
    (hf : fitsW l sure.size) (hlen : sure.size + lenW l ≤ 1000000) (hw : (Lit.int .i64 u0).wf = true) (hk : ∀ a ∈ l, a.kind ≤ 1000000) (hl : l.length ≤ 1000000) :
    Calls Try.prog 48 #[.pointer (some ⟨gf, o, none⟩), .int .i64 u0] w fun e w' => e = .returned (.string ⟨(afterF l u0 sure.data.toList).toArray⟩) ∧ Below w.heap.size w w' := by
  have hn : -9223372036854775808 ≤ u0 ∧ u0 ≤ 9223372036854775807 := by
    simpa [Lit.wf, IntKind.min, IntKind.max, IntKind.signed, IntKind.bits] using hw
  obtain ⟨i0, hi, hz0, hz1, hz2⟩ := info_parts infoByte
  have hcv := Lib.run_convert_string_bytes (P := Try.prog) w 9 140 5 sure Try.underlying9 Try.underlying140 Try.underlying5
  have hbr := BRow.made w 5 sure (by omega)
  have hon := bytesWorld_only (S := fun _ => False) w 5 sure
  generalize Lib.bytesWorld w 5 sure = W1 at *
  generalize grownCap w sure.size 0 5 = cap1 at *
  have hb1 : Below w.heap.size w W1 := hon.to_below (Nat.le_refl _) (fun _ _ h => h)
  have hv1 := (hb1.cell (p := ⟨gf, o + 1, none⟩) hgf).trans hv
  have hgw := (hown.lt gw rfl).2
  have BR := Lib.hid hbr
  have HB := Lib.hid hb1
  have HO := Lib.hid hown
  have HF := Lib.hid hf
  have HL := Lib.hid hlen
  have HK := Lib.hid hk
  have hsz : sure.size ≤ 1000000 := by omega
  have hst : sure.data.toList.length = sure.size := (Lib.size_eq sure).symm
  have HT := Lib.hid hst
  clear hbr hb1 hown hf hon hlen hw hk hst
  go_enter Try.func48, Try.ntmps48
  go_wp2
  go_loopw [1, 5, 19] (fun uv bv i wr => ∃ (k : Nat) (u : Int) (cur : List UInt8) (g cp : Nat), k ≤ l.length ∧ i = .int .i64 k ∧ uv = .int .i64 u ∧ -9223372036854775808 ≤ u ∧ u ≤ 9223372036854775807 ∧ BRow wr g cp bv cur ∧ w.heap.size ≤ g ∧ Below w.heap.size w wr ∧
      afterF (l.drop k) u cur = afterF l u0 sure.data.toList ∧ (0 < u → fitsW (l.drop k) cur.length) ∧ cur.length + lenW (l.drop k) ≤ 1000000) (fun _ _ i _ => l.length - (intOf i).toNat)
  case atStart => exact ⟨0, u0, sure.data.toList, w.heap.size, cap1, Nat.zero_le _, rfl, rfl, hn.1, hn.2, BR.out, Nat.le_refl _, HB.out, rfl, fun _ => by rw [HT.out]; exact HF.out, by rw [HT.out]; exact HL.out⟩
  case round =>
    obtain ⟨k, u, cur, g, cp, hk, rfl, rfl, hu1, hu2, hbr, hgl, hbel, hafter, hfit, hlen⟩ := hrel
    by_cases hlt : k < l.length
    · obtain ⟨q0, q1, q2, q3, q4⟩ := acts_at l k hlt
      have hr := row_below HO.out hbel (Nat.le_refl _)
      have r0 := row_at hr q0
      have r1 := row_at hr q1
      have r2 := row_at hr q2
      have r3 := row_at hr q3
      have r4 := row_at hr q4
      have hkd : l[k].kind ≤ 1000000 := HK.out _ (List.getElem_mem hlt)
      have hdrop : l.drop k = l[k] :: l.drop (k + 1) := (List.getElem_cons_drop hlt).symm
      rw [hdrop] at hafter hfit hlen
      have hgw2 : gw < wr.heap.size := Nat.lt_of_lt_of_le hgw hbel.size
      have hwl := hbel.size
      generalize l[k] = a at *
      obtain ⟨kind, name, other, bytes, at_⟩ := a
      dsimp only at r0 r1 r2 r3 r4 hkd
      have hlen2 : cur.length + (bytes.size + lenW (l.drop (k + 1))) ≤ 1000000 := by simpa [lenW] using hlen
      obtain ⟨A, hA⟩ : ∃ A, A = wr.alloc (.cells #[.int .i64 kind, .string name, .string other, .string bytes, .int .i64 at_] 89) := ⟨_, rfl⟩
      have hbrA : BRow A g cp _ cur := hbr.same (by rw [hA]; exact Below.heap_alloc _ _ _ hbr.lt)
      have hbelA : Below w.heap.size w A := by rw [hA]; exact hbel.alloc hwl _
      have hAs : A.heap.size = wr.heap.size + 1 := by rw [hA]; simp
      obtain rfl := hbr.val
      have hfits := hbr.fits
      by_cases hu : u ≤ 0
      · rw [afterF_stop hu] at hafter
        have hcv2 := hbrA.back 140 9 5 Try.underlying140 Try.underlying5 Try.underlying9
        rw [hA] at hcv2 hbelA
        have HBA := Lib.hid hbelA
        have HAft := Lib.hid hafter
        clear hdrop hafter hfit hlen hlen2 hbr hbrA hbel hbelA hr hA hAs q0 q1 q2 q3 q4
        go_wp2
        go_ret
        exact ⟨by rw [← HAft.out]; rfl, HBA.out⟩
      · have hfit := hfit (by omega)
        by_cases h3 : kind = 3
        · have e3 : ((kind : Int) == 3) = true := by subst h3; rfl
          rw [afterF_cut hu h3] at hafter
          unfold fitsW at hfit
          simp only [if_pos h3] at hfit
          obtain ⟨hat, hfit⟩ := hfit
          have hat2 : at_ ≤ cp := by omega
          have hcut := hbrA.cut at_ hat
          have hcl : (cur.take at_).length = at_ := by rw [List.length_take]; omega
          have P := Lib.hid (show (afterF (l.drop (k + 1)) (u - 1) (cur.take at_) = afterF l u0 sure.data.toList ∧ (0 < u - 1 → fitsW (l.drop (k + 1)) (cur.take at_).length) ∧ (cur.take at_).length + lenW (l.drop (k + 1)) ≤ 1000000) ∧ Below w.heap.size w A ∧ BRow A g cp (.slice (some ⟨g, 0, none⟩) at_ cp) (cur.take at_) from ⟨⟨hafter, fun _ => by rw [hcl]; exact hfit, by omega⟩, hbelA, hcut⟩)
          rw [hA] at P
          clear hdrop hafter hfit hlen hlen2 hbr hbrA hbel hbelA hr hA hAs q0 q1 q2 q3 q4 hcut hcl h3
          go_wp2
          go_roundw
          case rel => exact ⟨k + 1, u - 1, cur.take at_, g, cp, by omega, by go_num, rfl, by omega, by omega, P.out.2.2, hgl, P.out.2.1, P.out.1⟩
          case measure => simp [intOf]; omega
        · have e3 : ((kind : Int) == 3) = false := by rw [beq_eq_false_iff_ne]; omega
          rw [afterF_write hu h3] at hafter
          unfold fitsW at hfit
          simp only [if_neg h3] at hfit
          dsimp only at hafter hfit
          have hm : min u (bytes.size : Int) = ((min u.toNat bytes.size : Nat) : Int) := by omega
          have hle : min u.toNat bytes.size ≤ bytes.size := Nat.min_le_right _ _
          have hle2 : ((min u.toNat bytes.size : Nat) : Int) ≤ u := by omega
          have hcase : min u.toNat bytes.size = bytes.size ∨ u - ((min u.toNat bytes.size : Nat) : Int) ≤ 0 := by omega
          generalize min u.toNat bytes.size = m at *
          have hwl2 : (bytes.extract 0 m).size = m := by rw [Lib.size_eq, extract_take, List.length_take, ← Lib.size_eq]; omega
          have hwd : (bytes.extract 0 m).data.toList = bytes.data.toList.take m := extract_take bytes m
          have P := Lib.hid (show (afterF (l.drop (k + 1)) (u - (m : Nat)) (cur ++ (bytes.extract 0 m).data.toList) = afterF l u0 sure.data.toList ∧ (0 < u - (m : Nat) → fitsW (l.drop (k + 1)) (cur ++ (bytes.extract 0 m).data.toList).length) ∧ (cur ++ (bytes.extract 0 m).data.toList).length + lenW (l.drop (k + 1)) ≤ 1000000) ∧ Below w.heap.size w A ∧ BRow A g cp (.slice (some ⟨g, 0, none⟩) cur.length cp) cur from by
            have e : (cur ++ (bytes.extract 0 m).data.toList).length = cur.length + m := by rw [List.length_append, ← Lib.size_eq, hwl2]
            refine ⟨⟨by rw [hwd]; exact hafter, fun hp => ?_, by omega⟩, hbelA, hbrA⟩
            rw [e]
            rcases hcase with h | h
            · rw [h]; exact hfit
            · omega)
          have hsum : cur.length + (bytes.extract 0 m).size ≤ 1000000000 := by omega
          have HS := Lib.hid hAs
          rw [hA] at P HS
          clear hdrop hafter hfit hlen hlen2 hbr hbrA hbel hbelA hr hA hAs q0 q1 q2 q3 q4 h3 hwd hcase
          generalize hb' : bytes.extract 0 m = piece at *
          go_wp2_with (at_builtin; refine wpList_append_brow rfl _ _ 140 9 rfl g cp 5 i0 Try.underlying140 Try.underlying9 hi hz0 hz1 hz2 _ cur rfl P.out.2.2 piece rfl hsum ?_)
          intro v' w' g' cap' hbr' hon' hg'
          obtain rfl := hbr'.val
          have hbelw : Below w.heap.size w w' := P.out.2.1.trans (hon'.to_below (by rw [HS.out]; omega) (fun r hr e => by omega))
          have hgg : w.heap.size ≤ g' := by omega
          have HR := Lib.hid hbr'
          have HBW := Lib.hid hbelw
          clear hbr' hon' hg' hbelw hb' hm
          go_wp2
          go_roundw
          case rel => exact ⟨k + 1, u - (m : Nat), cur ++ piece.data.toList, g', cap', by omega, by go_num, by first | rfl | (rw [hwl2]), by omega, by omega, HR.out, hgg, HBW.out, P.out.1⟩
          case measure => simp [intOf]; omega
    · obtain rfl : k = l.length := by omega
      rw [List.drop_length] at hafter
      have hafter : cur = afterF l u0 sure.data.toList := hafter
      have hcv2 := hbr.back 140 9 5 Try.underlying140 Try.underlying5 Try.underlying9
      have HBA := Lib.hid hbel
      have HAft := Lib.hid hafter
      clear hafter hfit hlen hbr hbel
      go_wp2
      go_ret
      exact ⟨by rw [← HAft.out]; rfl, HBA.out⟩
end Go.Proofs.Ytembondddgfpcaa

namespace Go.Proofs.Ytembondddgfpcaa
open Go.RowKit

set_option maxRecDepth 100000 in
set_option maxHeartbeats 2000000 in
theorem after_nil (gf o : Nat) (sure : ByteArray) (u0 : Int) (w : World)
    (hs : w.cell? ⟨gf, o, none⟩ = some (.string sure)) (hv : w.cell? ⟨gf, o + 1, none⟩ = some (.slice none 0 0)) (hgf : gf < w.heap.size) (hlen : sure.size ≤ 1000000) :
    Calls Try.prog 48 #[.pointer (some ⟨gf, o, none⟩), .int .i64 u0] w fun e w' => e = .returned (.string ⟨sure.data.toList.toArray⟩) ∧ Below w.heap.size w w' := by
  have hcv := Lib.run_convert_string_bytes (P := Try.prog) w 9 140 5 sure Try.underlying9 Try.underlying140 Try.underlying5
  have hbr := BRow.made w 5 sure (by omega)
  have hon := bytesWorld_only (S := fun _ => False) w 5 sure
  generalize Lib.bytesWorld w 5 sure = W1 at *
  generalize grownCap w sure.size 0 5 = cap1 at *
  have hb1 : Below w.heap.size w W1 := hon.to_below (Nat.le_refl _) (fun _ _ h => h)
  have hv1 := (hb1.cell (p := ⟨gf, o + 1, none⟩) hgf).trans hv
  have hcv2 := hbr.back 140 9 5 Try.underlying140 Try.underlying5 Try.underlying9
  have HB := Lib.hid hb1
  clear hbr hb1 hon
  go_enter Try.func48, Try.ntmps48
  go_wp2
  go_loopw [5, 19] (fun b i wr => b = .slice (some ⟨w.heap.size, 0, none⟩) sure.size cap1 ∧ i = .int .i64 0 ∧ wr = W1) (fun _ i _ => 0)
  case atStart => exact ⟨rfl, rfl, rfl⟩
  case round =>
    obtain ⟨rfl, rfl, rfl⟩ := hrel
    go_wp2
    go_ret
    exact ⟨rfl, HB.out⟩

/-- A file's cells from o on, and what waits. -/
structure FileAt (w : World) (gf o : Nat) (sure : ByteArray) (vw : Value) (l : List ActA) (size : Int) : Prop where
  c0 : w.cell? ⟨gf, o, none⟩ = some (.string sure)
  c1 : w.cell? ⟨gf, o + 1, none⟩ = some vw
  c2 : w.cell? ⟨gf, o + 2, none⟩ = some (.int .i64 size)
  row : w.ownsRow 0 89 5 vw l.length (actsCells l)
theorem FileAt.below {w w' : World} {gf o : Nat} {sure : ByteArray} {vw : Value} {l : List ActA} {size : Int} {B : Nat} (h : FileAt w gf o sure vw l size) (hb : Below B w w') (hB : w.heap.size ≤ B) (hgf : gf < w.heap.size) : FileAt w' gf o sure vw l size :=
  ⟨(hb.cell (p := ⟨gf, o, none⟩) (by simp only; omega)).trans h.c0, (hb.cell (p := ⟨gf, o + 1, none⟩) (by simp only; omega)).trans h.c1, (hb.cell (p := ⟨gf, o + 2, none⟩) (by simp only; omega)).trans h.c2, row_below h.row hb hB⟩

theorem after_any (gf o : Nat) (sure : ByteArray) (vw : Value) (l : List ActA) (size : Int) (u0 : Int) (w : World) (h : FileAt w gf o sure vw l size) (hgf : gf < w.heap.size)
    (hf : fitsW l sure.size) (hlen : sure.size + lenW l ≤ 1000000) (hw : (Lit.int .i64 u0).wf = true) (hk : ∀ a ∈ l, a.kind ≤ 1000000) (hl : l.length ≤ 1000000) :
    Calls Try.prog 48 #[.pointer (some ⟨gf, o, none⟩), .int .i64 u0] w fun e w' => e = .returned (.string ⟨(afterF l u0 sure.data.toList).toArray⟩) ∧ Below w.heap.size w w' := by
  rcases h.row.2 with ⟨rfl, h0⟩ | ⟨g, cap, cur, rfl, _⟩
  · have : l = [] := List.eq_nil_of_length_eq_zero h0
    subst this
    exact after_nil gf o sure u0 w h.c0 h.c1 hgf (by simpa [lenW] using hlen)
  · exact after_some gf o sure g cap 0 l u0 w h.c0 h.c1 hgf h.row hf hlen hw hk hl

set_option maxRecDepth 100000 in
set_option maxHeartbeats 2000000 in
theorem fkeep_any (gf o : Nat) (cur : Array Value) (sure : ByteArray) (vw : Value) (l : List ActA) (size : Int) (u0 : Int) (w : World) (hc : Cells w gf 96 cur) (h : FileAt w gf o sure vw l size)
    (hf : fitsW l sure.size) (hlen : sure.size + lenW l ≤ 1000000) (hw : (Lit.int .i64 u0).wf = true) (hk : ∀ a ∈ l, a.kind ≤ 1000000) (hl : l.length ≤ 1000000) :
    Calls Try.prog 46 #[.pointer (some ⟨gf, o, none⟩), .int .i64 u0] w fun e w' => e = .returned (.tuple #[]) ∧
      Cells w' gf 96 (((cur.setIfInBounds o (.string ⟨(afterF l u0 sure.data.toList).toArray⟩)).setIfInBounds (o + 1) (.slice none 0 0)).setIfInBounds (o + 2) (.int .i64 (afterF l u0 sure.data.toList).length)) ∧ Only (· = gf) w w' := by
  have C := after_any gf o sure vw l size u0 w h hc.lt hf hlen hw hk hl
  have hz : (⟨(afterF l u0 sure.data.toList).toArray⟩ : ByteArray).size = (afterF l u0 sure.data.toList).length := by rw [Lib.size_eq]
  generalize (⟨(afterF l u0 sure.data.toList).toArray⟩ : ByteArray) = res at *
  generalize (afterF l u0 sure.data.toList).length = n at *
  obtain ⟨c0, c1, c2, _⟩ := h
  have HC := Lib.hid C
  have hgl := hc.lt
  clear C hlen hl
  subst hz
  have G := fun w1 (hb : Below w.heap.size w w1) => show Cells w1 gf 96 cur from hc.below hb hgl
  have G0 : cur[o]? = some (.string sure) := by rw [← hc.cell]; exact c0
  have G1 : cur[o + 1]? = some vw := by rw [← hc.cell]; exact c1
  have G2 : cur[o + 2]? = some (.int .i64 size) := by rw [← hc.cell]; exact c2
  go_enter Try.func46, Try.ntmps46
  go_wp2_with fail
  refine HC.out.mono ?_
  rintro e w1 ⟨rfl, hb⟩
  have g1 := G w1 hb
  have k0 : w1.cell? ⟨gf, o, none⟩ = some (.string sure) := (g1.cell _).trans G0
  have k1 : w1.cell? ⟨gf, o + 1, none⟩ = some vw := (g1.cell _).trans G1
  have k2 : w1.cell? ⟨gf, o + 2, none⟩ = some (.int .i64 size) := (g1.cell _).trans G2
  have f0 := g1.frozen o
  have f1 := g1.frozen (o + 1)
  have f2 := g1.frozen (o + 2)
  have P := Lib.hid (show Cells (((w1.setCell ⟨gf, o, none⟩ (.string res)).setCell ⟨gf, o + 1, none⟩ (.slice none 0 0)).setCell ⟨gf, o + 2, none⟩ (.int .i64 res.size)) gf 96 _ ∧ Only (· = gf) w _ from
    ⟨((g1.set o (.string res)).set (o + 1) (.slice none 0 0)).set (o + 2) (.int .i64 res.size), (((Only.of_below hb (Nat.le_refl _)).cellS o (.string res)).cellS (o + 1) (.slice none 0 0)).cellS (o + 2) (.int .i64 res.size)⟩)
  clear HC G G0 G1 G2 g1 hb c0 c1 c2
  go_wp2
  go_end0
  exact ⟨rfl, P.out.1, P.out.2⟩
end Go.Proofs.Ytembondddgfpcaa

