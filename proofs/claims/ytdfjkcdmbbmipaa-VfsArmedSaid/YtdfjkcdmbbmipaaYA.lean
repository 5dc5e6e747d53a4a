/- Write in all cases; Read, Units, Down, Arm. -/
import Derived.Test.YtdfjkcdmbbmipaaVZ
namespace Go.Proofs.Ytdfjkcdmbbmipaa
open Go.RowKit Go.Maps
attribute [local go_sem] errV_0 errV_1 errV_3 errV_4 errV_7

set_option maxRecDepth 100000 in
set_option maxHeartbeats 4000000 in
theorem write_any {w : World} {T : Nat → Nat} {p n : Nat} {D : ADisk} (hA : DiskAt w T p D) (hf : Fine n D) (hn : n ≤ 300000) (z t : ByteArray) (hz : z.size ≤ 1000000) (ht : t.size ≤ 1000) :
    Calls Try.prog 16 #[.pointer (some ⟨p, 0, none⟩), .string z, .string t] w fun e w' => e = .returned (errV (writeD D z t).2) ∧ ∃ T', DiskAt w' T' p (writeD D z t).1 ∧ Step w T w' T' := by
  obtain ⟨V, hV⟩ := hA
  have R := find_disk (n := n) hV z [] 1 ((Below.refl _ w).alloc (Nat.le_refl _) (.cells #[.string z] 9)) (by simp) (row1 w z _) (by simpa using hz) (by simp)
  have e0 : findR (readyE D.gone [z]) (dget D.seen z.data.toList) = asked D z [] := rfl
  rw [e0] at R
  unfold writeD
  rcases asked_cases hf z [] with ⟨f, ha, hfl, _, _⟩ | ha
  · have ha' := ha
    rw [ha] at R ⊢
    dsimp only at R ⊢
    rw [if_neg (by simp)]
    have HFr := Lib.hid (fun w1 (hb : Below w.heap.size w w1) => free_any (hV.below hb) hf (by omega))
    have hfr0 : 0 ≤ freeD D := by unfold freeD; omega
    have hfr1 : freeD D ≤ 9223372036854775807 := by unfold freeD; have := hf.r1; have := hf.r0; omega
    by_cases hfree : freeD D < t.size
    · rw [if_pos hfree]
      have hgt : decide ((t.size : Int) > freeD D) = true := decide_eq_true (by omega)
      have hgt2 : decide (freeD D < (t.size : Int)) = true := decide_eq_true (by omega)
      generalize freeD D = fr at *
      clear e0 ha ha' hfree
      go_enter Try.func16, Try.ntmps16
      go_wp2_with fail
      refine R.mono ?_
      rintro e w1 ⟨rfl, hb⟩
      go_wp2_with fail
      refine (HFr.out w1 hb).mono ?_
      rintro e w2 ⟨rfl, hb2⟩
      have hb12 : Below w.heap.size w w2 := hb.trans (hb2.mono hb.size)
      go_wp2
      go_ret
      exact ⟨rfl, T, ⟨V, hV.below hb12⟩, Step.below hb12⟩
    · rw [if_neg hfree]
      obtain ⟨m, hm, hmt, hlast⟩ := spent_le D n t.size hf
      have hsp := hm
      rw [hm]
      dsimp only
      rw [Int.toNat_natCast]
      by_cases hm0 : 0 < m
      · rw [if_pos hm0]
        exact write_some hV hf hn z t hz ht f ha' hfl hfree m hm hmt hm0
      · have hmz : m = 0 := by omega
        rw [if_neg hm0]
        have HSp := Lib.hid (fun w1 (hb : Below w.heap.size w w1) => by
          have := spend_disk (hV.below hb) hf (by omega) t.size ht
          rw [hm, hmz] at this
          exact this)
        have hgt : decide ((t.size : Int) > freeD D) = false := decide_eq_false (by omega)
        have hgt2 : decide (freeD D < (t.size : Int)) = false := decide_eq_false (by omega)
        generalize freeD D = fr at *
        subst hmz
        clear e0 ha ha' hfree hm hsp hlast hm0
        by_cases hlt : 0 < t.size
        all_goals
          first
            | (have hl3 : decide ((0 : Int) < (t.size : Int)) = true := decide_eq_true (by omega); rw [if_pos hlt])
            | (have hl3 : decide ((0 : Int) < (t.size : Int)) = false := decide_eq_false (by omega); rw [if_neg hlt])
          go_enter Try.func16, Try.ntmps16
          go_wp2_with fail
          refine R.mono ?_
          rintro e w1 ⟨rfl, hb⟩
          go_wp2_with fail
          refine (HFr.out w1 hb).mono ?_
          rintro e w2 ⟨rfl, hb2⟩
          have hb12 : Below w.heap.size w w2 := hb.trans (hb2.mono hb.size)
          go_wp2_with fail
          refine (HSp.out w2 hb12).mono ?_
          rintro e w3 ⟨rfl, hd3, hs3⟩
          have HD := Lib.hid hd3
          have HS := Lib.hid ((Step.below hb12).trans hs3)
          clear hd3 hs3 hb hb2 hb12 R HFr HSp
          go_wp2
          go_ret
          exact ⟨rfl, T, ⟨V, HD.out⟩, HS.out⟩
  · rcases ha with ha | ha | ha
    all_goals
      rw [ha] at R ⊢
      dsimp only at R ⊢
      clear ha e0
      go_enter Try.func16, Try.ntmps16
      go_wp2_with fail
      refine R.mono ?_
      rintro e w1 ⟨rfl, hb⟩
      go_wp2
      go_ret
      exact ⟨rfl, T, ⟨V, hV.below hb⟩, Step.below hb⟩

theorem down_any {w : World} {T : Nat → Nat} {p : Nat} {D : ADisk} (hA : DiskAt w T p D) : Calls Try.prog 22 #[.pointer (some ⟨p, 0, none⟩)] w fun e w' => e = .returned (.bool D.gone) ∧ w = w' := by
  obtain ⟨V, hV⟩ := hA
  have d3 : w.cell? ⟨p, 3, none⟩ = some (.bool D.gone) := hV.cells.cell 3
  go_enter Try.func22, Try.ntmps22
  go_wp2
  go_ret
  exact ⟨rfl, rfl⟩
theorem units_any {w : World} {T : Nat → Nat} {p : Nat} {D : ADisk} (hA : DiskAt w T p D) : Calls Try.prog 23 #[.pointer (some ⟨p, 0, none⟩)] w fun e w' => e = .returned (.int .i64 D.units) ∧ w = w' := by
  obtain ⟨V, hV⟩ := hA
  have d0 : w.cell? ⟨p, 0, none⟩ = some (.int .i64 D.units) := hV.cells.cell 0
  go_enter Try.func23, Try.ntmps23
  go_wp2
  go_ret
  exact ⟨rfl, rfl⟩

def readR (D : ADisk) (z : ByteArray) : ByteArray × Nat :=
  if D.gone then (⟨#[]⟩, 3) else if (asked D z []).2 ≠ 0 then (⟨#[]⟩, (asked D z []).2) else (match D.files[(asked D z []).1]? with | some f => ⟨f.seen.toArray⟩ | none => ⟨#[]⟩, 0)
set_option maxRecDepth 100000 in
set_option maxHeartbeats 4000000 in
theorem read_any {w : World} {T : Nat → Nat} {p n : Nat} {D : ADisk} (hA : DiskAt w T p D) (hf : Fine n D) (hn : n ≤ 300000) (z : ByteArray) (hz : z.size ≤ 1000000) :
    Calls Try.prog 19 #[.pointer (some ⟨p, 0, none⟩), .string z] w fun e w' => e = .returned (.tuple #[.string (readR D z).1, errV (readR D z).2]) ∧ Below w.heap.size w w' := by
  have DW := down_any hA
  obtain ⟨V, hV⟩ := hA
  have R := find_disk (n := n) hV z [] 1 ((Below.refl _ w).alloc (Nat.le_refl _) (.cells #[.string z] 9)) (by simp) (row1 w z _) (by simpa using hz) (by simp)
  have e0 : findR (readyE D.gone [z]) (dget D.seen z.data.toList) = asked D z [] := rfl
  rw [e0] at R
  unfold readR
  cases hg : D.gone
  · rw [hg] at DW
    rcases asked_cases hf z [] with ⟨f, ha, hfl, _, _⟩ | ha
    · rw [ha] at R ⊢
      dsimp only at R ⊢
      rw [List.getElem?_eq_getElem hfl]
      obtain ⟨g, cap, cur, e8, _, _, _, _, _, _, _⟩ := hV.file (i := f) hfl
      have hun := (hf.files _ (List.getElem_mem hfl)).units
      have hsn : afterF D.files[f].waits 9223372036854775807 D.files[f].sure.data.toList = D.files[f].seen := afterF_all _ _ _ (by omega)
      have K := Lib.hid (fun w1 (hb : Below w.heap.size w w1) => by
        have := after_disk (hV.below hb) hf (by omega) hfl e8 9223372036854775807 wf_allU
        rw [hsn] at this
        exact this)
      have D8 := Lib.hid (fun w1 (hb : Below w.heap.size w w1) => show w1.cell? ⟨p, 8, none⟩ = some (.slice (some ⟨g, 0, none⟩) D.files.length cap) by have := (hV.below hb).cells.cell 8; rw [e8] at this; exact this)
      have hp := hV.cells.lt
      have PL := Lib.hid (fun w1 (hb : Below w.heap.size w w1) => Nat.lt_of_lt_of_le hp hb.size)
      have hnf := hf.nfiles
      clear e0 ha hg hsn e8
      go_enter Try.func19, Try.ntmps19
      go_wp2_with fail
      refine DW.mono ?_
      rintro e w0 ⟨rfl, rfl⟩
      go_wp2_with fail
      refine R.mono ?_
      rintro e w1 ⟨rfl, hb⟩
      have d8 := D8.out w1 hb
      have hp1 := PL.out w1 hb
      go_wp2_with fail
      refine (K.out w1 hb).mono ?_
      rintro e w2 ⟨rfl, hb2⟩
      have HB := Lib.hid (hb.trans (hb2.mono hb.size))
      clear hb hb2 K D8 PL R DW d8
      go_wp2
      go_ret2
      exact ⟨rfl, HB.out⟩
    · rcases ha with ha | ha | ha
      all_goals
        rw [ha] at R ⊢
        dsimp only at R ⊢
        clear ha e0 hg
        go_enter Try.func19, Try.ntmps19
        go_wp2_with fail
        refine DW.mono ?_
        rintro e w0 ⟨rfl, rfl⟩
        go_wp2_with fail
        refine R.mono ?_
        rintro e w1 ⟨rfl, hb⟩
        go_wp2
        go_ret2
        exact ⟨rfl, hb⟩
  · rw [hg] at DW
    clear R e0 hg
    go_enter Try.func19, Try.ntmps19
    go_wp2_with fail
    refine DW.mono ?_
    rintro e w0 ⟨rfl, rfl⟩
    go_wp2
    go_ret2
    exact ⟨rfl, Below.refl _ _⟩

def armD (D : ADisk) (k : Int) : ADisk × Nat := if k < 0 then (D, 1) else ({ D with armed := true, left := k }, 0)
set_option maxHeartbeats 1000000 in
theorem arm_any {w : World} {T : Nat → Nat} {p : Nat} {D : ADisk} (hA : DiskAt w T p D) (k : Int) :
    Calls Try.prog 21 #[.pointer (some ⟨p, 0, none⟩), .int .i64 k] w fun e w' => e = .returned (errV (armD D k).2) ∧ DiskAt w' T p (armD D k).1 ∧ Step w T w' T := by
  obtain ⟨V, hV⟩ := hA
  unfold armD
  have c1 : w.cell? ⟨p, 1, none⟩ = some (.bool D.armed) := hV.cells.cell 1
  have c2 : w.cell? ⟨p, 2, none⟩ = some (.int .i64 D.left) := hV.cells.cell 2
  have f1 := hV.cells.frozen 1
  have f2 := hV.cells.frozen 2
  by_cases hk : k < 0
  · rw [if_pos hk]
    go_enter Try.func21, Try.ntmps21
    go_wp2
    go_ret
    exact ⟨rfl, ⟨V, hV⟩, Step.refl _ _⟩
  · rw [if_neg hk]
    have hd := (hV.cells.set 1 (.bool true)).set 2 (.int .i64 k)
    have P := Lib.hid (show DiskV ((w.setCell ⟨p, 1, none⟩ (.bool true)).setCell ⟨p, 2, none⟩ (.int .i64 k)) T p { D with armed := true, left := k } V from
      hV.power (by simpa [diskCells] using hd) (((Only.refl (· = p) w).cellS 1 _).cellS 2 _) rfl rfl rfl rfl)
    have S := Lib.hid (step_p hV.tp (((Only.refl (· = p) w).cellS 1 (.bool true)).cellS 2 (.int .i64 k)))
    clear hd
    go_enter Try.func21, Try.ntmps21
    go_wp2
    go_ret
    exact ⟨rfl, ⟨V, P.out⟩, S.out⟩
end Go.Proofs.Ytdfjkcdmbbmipaa
