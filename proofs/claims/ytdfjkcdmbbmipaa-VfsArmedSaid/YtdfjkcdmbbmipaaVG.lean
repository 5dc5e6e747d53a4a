/- An act of one unit: do. -/
import Derived.Test.YtdfjkcdmbbmipaaVF
namespace Go.Proofs.Ytdfjkcdmbbmipaa
open Go.RowKit
attribute [local go_sem] errV_0 errV_3

def actV (a : ActA) : Value := .agg #[.int .i64 a.kind, .string a.name, .string a.other, .string a.bytes, .int .i64 a.at_]
/-- The acts of a disk, with one more. -/
structure Did (p : Nat) (cells : Value → Array Value) (v9 : Value) (n : Nat) (xs news : List Value) (w w' : World) : Prop where
  ex : ∃ v', Cells w' p 76 (cells v') ∧ w'.ownsRow 0 94 5 v' (n + 1) (xs ++ news) ∧ (v'.ownBlock = v9.ownBlock ∨ ∃ k, v'.ownBlock = some k ∧ w.heap.size ≤ k ∧ k < w'.heap.size)
  only : Only (fun r => r = p ∨ some r = v9.ownBlock) w w'
theorem Did.drew {p : Nat} {cells : Value → Array Value} {v9 : Value} {n : Nat} {xs news : List Value} {w w' : World} (h : Did p cells v9 n xs news w w') : Did p cells v9 n xs news w w'.drew := ⟨h.ex, h.only.drew⟩
theorem Did.mk' {p : Nat} {units left : Int} {armed gone : Bool} {room : Int} {v5 v6 v7 v8 v9 v' : Value} {n : Nat} {xs news : List Value} {w w1 w' : World} (hlt : p < w.heap.size) (hx : Only (· = p) w w1) (hg : Cells w' p 76 (diskCells units armed left gone room v5 v6 v7 v8 v9))
    (ho : w'.ownsRow 0 94 5 v' (n + 1) (xs ++ news)) (hne : v9.ownBlock ≠ some p)
    (hk : v'.ownBlock = v9.ownBlock ∨ ∃ k, v'.ownBlock = some k ∧ w1.heap.size ≤ k ∧ k < w'.heap.size) (hon : Only (fun r => some r = v9.ownBlock) w1 w') :
    Did p (diskCells units armed left gone room v5 v6 v7 v8) v9 n xs news w (w'.setCell ⟨p, 9, none⟩ v') := by
  have hs := hx.size
  have hvg : v'.ownBlock ≠ some p := by
    intro e
    rcases hk with h | ⟨k, h, h2, _⟩
    · exact hne (h.symm.trans e)
    · rw [h] at e; cases e; omega
  refine ⟨⟨v', by simpa [diskCells] using hg.set 9 v', row_cell ho hvg _, ?_⟩, ?_⟩
  · rcases hk with h | ⟨k, h, h2, h3⟩
    · exact .inl h
    · exact .inr ⟨k, h, by omega, by simpa [World.setCell] using h3⟩
  · exact ((hx.mono (S' := fun r => r = p ∨ some r = v9.ownBlock) (fun r _ h => .inl h)).trans hon (fun r _ h => .inr h)).setCell (p := ⟨p, 9, none⟩) (.inl (.inl rfl)) _

set_option maxRecDepth 100000 in
set_option maxHeartbeats 2000000 in
theorem do_down (p : Nat) (units left : Int) (gone : Bool) (room : Int) (v5 v6 v7 v8 v9 : Value) (kind at_ : Nat) (name other bytes : ByteArray) (w : World)
    (hd : Cells w p 76 (diskCells units true left gone room v5 v6 v7 v8 v9)) (hu : 0 ≤ units) (hu2 : units ≤ 1000000000) (hl : left = 0) :
    Calls Try.prog 47 #[.pointer (some ⟨p, 0, none⟩), .agg #[.int .i64 kind, .string name, .string other, .string bytes, .int .i64 at_]] w fun e w' =>
      e = .returned (errV 3) ∧ Cells w' p 76 (diskCells units true left true room v5 v6 v7 v8 v9) ∧ Only (· = p) w w' := by
  have C := spend_any p 76 units left true gone room v5 v6 v7 v8 v9 1 (w.alloc (.cells #[.int .i64 kind, .string name, .string other, .string bytes, .int .i64 at_] 94)) (hd.alloc _) (by omega) (by omega) hu (by omega) (by omega) (by omega)
  subst hl
  simp only [spent, Int.reduceLT, decide_true, Bool.and_true, Bool.or_true, if_true, Int.sub_zero, Int.add_zero, Bool.and_self] at C
  have HC := Lib.hid C
  clear C hd
  go_enter Try.func47, Try.ntmps47
  go_wp2_with fail
  refine HC.out.mono ?_
  rintro e w1 ⟨rfl, hd1, hon⟩
  have hon2 : Only (· = p) w w1 := ((Only.refl _ w).alloc _).trans hon (fun _ _ h => h)
  clear HC hon
  go_wp2
  go_ret
  exact ⟨rfl, hd1, hon2⟩

set_option maxRecDepth 100000 in
set_option maxHeartbeats 2000000 in
theorem do_up (p : Nat) (units left : Int) (armed gone : Bool) (room : Int) (v5 v6 v7 v8 v9 : Value) (kind at_ : Nat) (name other bytes : ByteArray) (n : Nat) (xs : List Value) (w : World)
    (hd : Cells w p 76 (diskCells units armed left gone room v5 v6 v7 v8 v9)) (hu : 0 ≤ units) (hu2 : units ≤ 1000000000) (hl : 0 ≤ left) (hl2 : left ≤ 9223372036854775807) (ha : armed = false ∨ 1 ≤ left)
    (hown : w.ownsRow 0 94 5 v9 n xs) (hne : v9.ownBlock ≠ some p) (hn : n ≤ 1000000) :
    Calls Try.prog 47 #[.pointer (some ⟨p, 0, none⟩), .agg #[.int .i64 kind, .string name, .string other, .string bytes, .int .i64 at_]] w fun e w' =>
      e = .returned (errV 0) ∧ Did p (diskCells (units + 1) armed (if armed then left - 1 else left) gone room v5 v6 v7 v8) v9 n xs [.int .i64 kind, .string name, .string other, .string bytes, .int .i64 at_] w w' := by
  have C := spend_any p 76 units left armed gone room v5 v6 v7 v8 v9 1 (w.alloc (.cells #[.int .i64 kind, .string name, .string other, .string bytes, .int .i64 at_] 94)) (hd.alloc _) (by omega) (by omega) hu (by omega) (by omega) (by omega)
  have hsp : spent armed left 1 = 1 := by
    unfold spent
    rcases ha with rfl | h
    · rfl
    · simp; omega
  have hgo : (gone || (armed && decide (left < 1))) = gone := by
    rcases ha with rfl | h
    · simp
    · have : decide (left < 1) = false := decide_eq_false (by omega)
      simp [this]
  rw [hsp, hgo] at C
  obtain ⟨i0, hi, hz0, hz1, hz2⟩ := info_parts infoAct
  have hpl := hd.lt
  have HC := Lib.hid C
  have HO := Lib.hid hown
  have HE := Lib.hid hne
  have HB := Lib.hid (Cells.new w 94 #[.int .i64 kind, .string name, .string other, .string bytes, .int .i64 at_])
  clear C hd hsp hgo hown hne ha
  generalize (if armed then left - 1 else left) = left' at *
  go_enter Try.func47, Try.ntmps47
  go_wp2_with fail
  refine HC.out.mono ?_
  rintro e w1 ⟨rfl, hd1, hon⟩
  have hon2 : Only (· = p) w w1 := ((Only.refl _ w).alloc _).trans hon (fun _ _ h => h)
  have bx : Cells w1 w.heap.size 94 #[.int .i64 kind, .string name, .string other, .string bytes, .int .i64 at_] := HB.out.only hon (by omega)
  have ho1 : Hid (w1.ownsRow 0 94 5 v9 n xs) := row_only HO.out hon2 (fun b hb e => HE.out (by rw [hb]; exact congrArg some e))
  have b0 := bx.cell 0; have b1 := bx.cell 1; have b2 := bx.cell 2; have b3 := bx.cell 3; have b4 := bx.cell 4
  simp at b0 b1 b2 b3 b4
  have d9 : w1.cell? ⟨p, 9, none⟩ = some v9 := hd1.cell 9
  have hpl1 := hd1.lt
  clear HC hon HB bx
  go_wp2
  go_region_law ((refine step_append_own rfl (.tmp 15) (.tmp 17) 61 rfl 94 i0 _ 5 64 Try.underlying61 hi hz0 hz1 hz2 rfl (by decide) v9 n xs (by simp [Act.eval, Act.put]) (by exact (ho1.out.alloc _).drew) ⟨w1.heap.size, 0, none⟩ 1 1 [.int .i64 kind, .string name, .string other, .string bytes, .int .i64 at_] (by simp [Act.eval, Act.put]) rfl (cells_new_add w1 94 [.int .i64 kind, .string name, .string other, .string bytes, .int .i64 at_]) (by intro u hu; simp at hu; rcases hu with rfl | rfl | rfl | rfl | rfl <;> rfl) (by unfold maxLen; omega) (by omega) ?_); intro v' w' ho hgr hbk; obtain ⟨⟨g', cap', rfl⟩, hg', hbx, hk, hon⟩ := appended hd1 ho1.out HE.out (((Below.refl _ w1).alloc (Nat.le_refl _) _).drew) ho hgr hbk; have k9 : w'.cell? ⟨p, 9, none⟩ = some v9 := hg'.cell 9; have kf9 := hg'.frozen 9)
  all_goals
    go_wp2
    go_ret
    exact ⟨rfl, Did.mk' hpl hon2 hg' ho HE.out hk hon⟩
end Go.Proofs.Ytdfjkcdmbbmipaa
