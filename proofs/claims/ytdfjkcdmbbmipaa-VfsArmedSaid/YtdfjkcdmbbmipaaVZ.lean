/- Write. -/
import Derived.Test.YtdfjkcdmbbmipaaVY
namespace Go.Proofs.Ytdfjkcdmbbmipaa
open Go.RowKit Go.Maps
attribute [local go_sem] errV_0 errV_1 errV_3 errV_4 errV_7

def wroteA (z t : ByteArray) (m : Nat) : ActA := ⟨2, z, ⟨#[]⟩, t.extract 0 m, 0⟩
def writeD (D : ADisk) (z t : ByteArray) : ADisk × Nat :=
  if (asked D z []).2 ≠ 0 then (D, (asked D z []).2) else if freeD D < t.size then (D, 4)
  else (if 0 < (spent D.armed D.left t.size).toNat then { spentD D t.size with files := modF D.files (asked D z []).1 fun f => f.more (wroteA z t (spent D.armed D.left t.size).toNat), acts := D.acts ++ [wroteA z t (spent D.armed D.left t.size).toNat] } else spentD D t.size,
    if (spent D.armed D.left t.size).toNat < t.size then 3 else 0)
theorem Did.mk1 {p : Nat} {units left : Int} {armed gone : Bool} {room : Int} {v5 v6 v7 v8 v9 v' : Value} {n : Nat} {xs news : List Value} {w w' : World} (hlt : p < w.heap.size) (hg : Cells w' p 76 (diskCells units armed left gone room v5 v6 v7 v8 v9))
    (ho : w'.ownsRow 0 94 5 v' (n + 1) (xs ++ news)) (hne : v9.ownBlock ≠ some p)
    (hk : v'.ownBlock = v9.ownBlock ∨ ∃ k, v'.ownBlock = some k ∧ w.heap.size ≤ k ∧ k < w'.heap.size) (hon : Only (fun r => some r = v9.ownBlock) w w') :
    Did p (diskCells units armed left gone room v5 v6 v7 v8) v9 n xs news w (w'.setCell ⟨p, 9, none⟩ v') := Did.mk' hlt (Only.refl _ w) hg ho hne hk hon

set_option maxRecDepth 100000 in
set_option maxHeartbeats 4000000 in
/-- Where a byte is written. -/
theorem write_some {w : World} {T : Nat → Nat} {p n : Nat} {D : ADisk} {V : Vals} (hV : DiskV w T p D V) (hf : Fine n D) (hn : n ≤ 300000) (z t : ByteArray) (hz : z.size ≤ 1000000) (ht : t.size ≤ 1000) (f : Nat) (ha : asked D z [] = (f, 0)) (hfl : f < D.files.length)
    (hfree : ¬ freeD D < t.size) (m : Nat) (hm : spent D.armed D.left t.size = m) (hmt : m ≤ t.size) (hm0 : 0 < m) :
    Calls Try.prog 16 #[.pointer (some ⟨p, 0, none⟩), .string z, .string t] w fun e w' => e = .returned (errV (if m < t.size then 3 else 0)) ∧
      ∃ T', DiskAt w' T' p { spentD D t.size with files := modF D.files f fun x => x.more (wroteA z t m), acts := D.acts ++ [wroteA z t m] } ∧ Step w T w' T' := by
  have R := find_disk (n := n) hV z [] 1 ((Below.refl _ w).alloc (Nat.le_refl _) (.cells #[.string z] 9)) (by simp) (row1 w z _) (by simpa using hz) (by simp)
  have e0 : findR (readyE D.gone [z]) (dget D.seen z.data.toList) = asked D z [] := rfl
  rw [e0, ha] at R
  dsimp only at R
  obtain ⟨i0, hi, hz0, hz1, hz2⟩ := info_parts infoAct
  have HFr := Lib.hid (fun w1 (hb : Below w.heap.size w w1) => free_any (hV.below hb) hf (by omega))
  have HSp := Lib.hid (fun w1 (hb : Below w.heap.size w w1) => by
    have := spend_disk (hV.below hb) hf (by omega) t.size ht
    rw [hm] at this
    exact this)
  have HF1 := Lib.hid (spend_fine (k := t.size) hf)
  have hnf := hf.nfiles
  have hna := hf.nacts
  have hfr0 : 0 ≤ freeD D := by unfold freeD; omega
  have hfr1 : freeD D ≤ 9223372036854775807 := by unfold freeD; have := hf.r1; have := hf.r0; omega
  have hgt : decide ((t.size : Int) > freeD D) = false := decide_eq_false (by omega)
  have hgt2 : decide (freeD D < (t.size : Int)) = false := decide_eq_false (by omega)
  have hm1 : decide ((m : Int) > 0) = true := decide_eq_true (by omega)
  have hm2 : decide ((0 : Int) < (m : Int)) = true := decide_eq_true (by omega)
  generalize freeD D = fr at *
  clear e0 ha hm hfree
  have hps : (t.extract 0 m).size ≤ 1000 := by rw [Lib.size_eq, extract_take, List.length_take, ← Lib.size_eq]; omega
  have WA : wroteA z t m = ⟨2, z, ⟨#[]⟩, t.extract 0 m, 0⟩ := rfl
  rw [WA]
  clear WA
  have HPC := Lib.hid (rfl : t.extract 0 m = t.extract 0 m)
  by_cases hlt : m < t.size
  all_goals
    have hlt' : decide ((m : Int) < (t.size : Int)) = decide (m < t.size) := by simp
    first
      | (have hl3 : decide ((m : Int) < (t.size : Int)) = true := decide_eq_true (by omega); rw [if_pos hlt])
      | (have hl3 : decide ((m : Int) < (t.size : Int)) = false := decide_eq_false (by omega); rw [if_neg hlt])
    clear hlt'
    go_enter Try.func16, Try.ntmps16
    go_wp2_with fail
    refine R.mono ?_
    rintro e w1 ⟨rfl, hb⟩
    go_wp2_with fail
    refine (HFr.out w1 hb).mono ?_
    rintro e w2 ⟨rfl, hb2⟩
    have hb12 : Below w.heap.size w w2 := hb.trans (hb2.mono hb.size)
    go_wp2_with fail
    refine (HSp.out w2 hb12).mono ?_
    rintro e w3 ⟨rfl, hd3, hs3⟩
    obtain ⟨g, cap, cur, e8, hc8, _, _, _, _, tg, hfa⟩ := hd3.file (i := f) hfl
    have d8 : w3.cell? ⟨p, 8, none⟩ = some (.slice (some ⟨g, 0, none⟩) D.files.length cap) := by have := hd3.cells.cell 8; rw [e8] at this; exact this
    have hp3 := hd3.cells.lt
    have hb3 : Below w3.heap.size w3 (w3.alloc (.cells #[.int .i64 2, .string z, .string ⟨#[]⟩, .string (t.extract 0 m), .int .i64 0] 94)) := (Below.refl _ w3).alloc (Nat.le_refl _) _
    have K := Lib.hid (fun W (hbW : Below w3.heap.size w3 W) => fwait_disk (hd3.below hbW) HF1.out (by omega) hfl e8 ⟨2, z, ⟨#[]⟩, t.extract 0 m, 0⟩ (.inl rfl) (fun h => by cases h) hps)
    have HB3 := Lib.hid hb3
    have LO := Lib.hid hd3.low
    have HS3 := Lib.hid ((Step.below hb12).trans hs3)
    clear hb hb2 hb12 R HFr HSp hd3 hs3 e8 hc8 hfa hb3
    go_wp2
    go_region_law ((go_simp; go_at_call 52; refine (K.out _ (HB3.out.drew)).mono ?_; rintro e w4 ⟨rfl, T4, V4, hd4, hs4⟩))
    all_goals
      have bx : Cells w4 w3.heap.size 94 #[.int .i64 2, .string z, .string ⟨#[]⟩, .string (t.extract 0 m), .int .i64 0] :=
        ((Cells.new w3 94 #[.int .i64 2, .string z, .string ⟨#[]⟩, .string (t.extract 0 m), .int .i64 0]).drew).only hs4.only (fun h => by have := LO.out _ h; omega)
      have tp4 : tagged T4 (some p) 1 := fun b hb => by cases hb; exact hd4.tp
      have hne4 : Hid (V4.v9.ownBlock ≠ some p) := fun e => tag_ne hd4.t9 tp4 (by decide) p e rfl
      have r9 : Hid (w4.ownsRow 0 94 5 V4.v9 D.acts.length (actsCells D.acts)) := hd4.r9
      have d9 : w4.cell? ⟨p, 9, none⟩ = some V4.v9 := hd4.cells.cell 9
      have hp4 := hd4.cells.lt
      have C4 := Lib.hid hd4.cells
      have b0 := bx.cell 0; have b1 := bx.cell 1; have b2 := bx.cell 2; have b3 := bx.cell 3; have b4 := bx.cell 4
      simp at b0 b1 b2 b3 b4
      have HD4 := Lib.hid hd4
      have HS4 := Lib.hid (HS3.out.trans ((Step.below HB3.out).trans hs4.undrew))
      clear hd4 hs4 bx K HB3 LO HS3 tp4 d8
      go_wp2
      go_region_law ((refine step_append_own rfl (.tmp 52) (.tmp 54) 61 rfl 94 i0 _ 5 64 Try.underlying61 hi hz0 hz1 hz2 rfl (by decide) V4.v9 D.acts.length (actsCells D.acts) (by simp [Act.eval, Act.put]) (by exact (r9.out.alloc _).drew) ⟨w4.heap.size, 0, none⟩ 1 1 [.int .i64 2, .string z, .string ⟨#[]⟩, .string (t.extract 0 m), .int .i64 0] (by simp [Act.eval, Act.put]) rfl (cells_new_add w4 94 [.int .i64 2, .string z, .string ⟨#[]⟩, .string (t.extract 0 m), .int .i64 0]) (by intro u hu; simp at hu; rcases hu with rfl | rfl | rfl | rfl | rfl <;> rfl) (by unfold maxLen; omega) (by omega) ?_); intro v' w' ho hgr hbk; obtain ⟨⟨g', cap', rfl⟩, hg', hbx, hk, hon⟩ := appended C4.out r9.out hne4.out (((Below.refl _ w4).alloc (Nat.le_refl _) _).drew) ho hgr hbk; have k9 : w'.cell? ⟨p, 9, none⟩ = some V4.v9 := hg'.cell 9; have kf9 := hg'.frozen 9)
      all_goals
        obtain ⟨T5, v9', hd5, hs5⟩ := HD4.out.did (a := ⟨2, z, ⟨#[]⟩, t.extract 0 m, 0⟩) (D' := { spentD D t.size with files := D.files.set f (D.files[f].more ⟨2, z, ⟨#[]⟩, t.extract 0 m, 0⟩), acts := D.acts ++ [⟨2, z, ⟨#[]⟩, t.extract 0 m, 0⟩] }) (Did.mk1 HD4.out.cells.lt hg' ho hne4.out hk hon) rfl rfl rfl rfl
        have HD5 := Lib.hid hd5
        have HS5 := Lib.hid (HS4.out.trans hs5)
        clear hd5 hs5 ho hgr hbk hg' hbx hk hon HD4 HS4 C4 r9
        go_wp2
        go_ret
        exact ⟨rfl, T5, ⟨_, by unfold modF; rw [dif_pos hfl]; exact HD5.out⟩, HS5.out⟩
end Go.Proofs.Ytdfjkcdmbbmipaa
