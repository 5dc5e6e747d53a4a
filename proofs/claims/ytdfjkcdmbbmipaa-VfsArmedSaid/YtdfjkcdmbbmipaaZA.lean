/- Cut. -/
import Derived.Test.YtdfjkcdmbbmipaaYC
namespace Go.Proofs.Ytdfjkcdmbbmipaa
open Go.RowKit Go.Maps
attribute [local go_sem] errV_0 errV_1 errV_3 errV_7

def cutA (z : ByteArray) (m : Nat) : ActA := ⟨3, z, ⟨#[]⟩, ⟨#[]⟩, m⟩
def seenSize (D : ADisk) (f : Nat) : Nat := sizeAt D.files f
def cutD (D : ADisk) (z : ByteArray) (k : Int) : ADisk × Nat :=
  if (asked D z []).2 ≠ 0 then (D, (asked D z []).2) else if k < 0 ∨ (seenSize D (asked D z []).1 : Int) < k then (D, 1)
  else if canDo D then ({ didD D (cutA z k.toNat) with files := modF D.files (asked D z []).1 fun f => f.more (cutA z k.toNat) }, 0) else (downD D, 3)
set_option maxRecDepth 100000 in
set_option maxHeartbeats 4000000 in
theorem cut_any {w : World} {T : Nat → Nat} {p n : Nat} {D : ADisk} (hA : DiskAt w T p D) (hf : Fine n D) (hn : n ≤ 400000) (z : ByteArray) (hz : z.size ≤ 1000000) (k : Int) (hk1 : -9223372036854775808 ≤ k) (hk2 : k ≤ 9223372036854775807) :
    Calls Try.prog 26 #[.pointer (some ⟨p, 0, none⟩), .string z, .int .i64 k] w fun e w' => e = .returned (errV (cutD D z k).2) ∧ ∃ T', DiskAt w' T' p (cutD D z k).1 ∧ Step w T w' T' := by
  obtain ⟨V, hV⟩ := hA
  have R := find_disk (n := n) hV z [] 1 ((Below.refl _ w).alloc (Nat.le_refl _) (.cells #[.string z] 9)) (by simp) (row1 w z _) (by simpa using hz) (by simp)
  have e0 : findR (readyE D.gone [z]) (dget D.seen z.data.toList) = asked D z [] := rfl
  rw [e0] at R
  unfold cutD
  rcases asked_cases hf z [] with ⟨f, ha, hfl, _, _⟩ | ha
  · rw [ha] at R ⊢
    dsimp only at R ⊢
    obtain ⟨g, cap, cur, e8, _, _, _, _, _, tg, hfa⟩ := hV.file (i := f) hfl
    have d8 : w.cell? ⟨p, 8, none⟩ = some (.slice (some ⟨g, 0, none⟩) D.files.length cap) := by have := hV.cells.cell 8; rw [e8] at this; exact this
    have hsz : seenSize D f = D.files[f].seen.length := by unfold seenSize sizeAt; rw [List.getElem?_eq_getElem hfl]
    have hgl : g < w.heap.size := hV.low g (by omega)
    have hpl := hV.cells.lt
    have D8 := Lib.hid (fun w1 (hb : Below w.heap.size w w1) => show w1.cell? ⟨p, 8, none⟩ = some (.slice (some ⟨g, 0, none⟩) D.files.length cap) from (hb.cell (p := ⟨p, 8, none⟩) hpl).trans d8)
    have C2 := Lib.hid (fun w1 (hb : Below w.heap.size w w1) => show w1.cell? ⟨g, f * 3 + 2, none⟩ = some (.int .i64 (D.files[f].seen.length : Nat)) from (hb.cell (p := ⟨g, f * 3 + 2, none⟩) hgl).trans hfa.c2)
    have PL := Lib.hid (fun w1 (hb : Below w.heap.size w w1) => Nat.lt_of_lt_of_le hpl hb.size)
    have GL := Lib.hid (fun w1 (hb : Below w.heap.size w w1) => Nat.lt_of_lt_of_le hgl hb.size)
    have hnf := hf.nfiles
    have hlen : D.files[f].seen.length ≤ 1000000 := by
      have ok := hf.files _ (List.getElem_mem hfl)
      have hsl : D.files[f].sure.data.toList.length = D.files[f].sure.size := (Lib.size_eq _).symm
      have := seenL_length_le D.files[f].waits D.files[f].sure.data.toList
      have := ok.len; unfold FileA.seen; omega
    rw [if_neg (by simp), hsz]
    by_cases hbad : k < 0 ∨ ((D.files[f].seen.length : Nat) : Int) < k
    · rw [if_pos hbad]
      have HV := Lib.hid hV
      clear hfa d8 e0 ha hV e8
      generalize D.files[f].seen.length = sz at *
      rcases (show k < 0 ∨ (0 ≤ k ∧ (sz : Int) < k) by omega) with hb1 | ⟨hb1, hb2⟩
      · have d1 : decide (k < 0) = true := decide_eq_true hb1
        go_enter Try.func26, Try.ntmps26
        go_wp2_with fail
        refine R.mono ?_
        rintro e w1 ⟨rfl, hb⟩
        have q8 := D8.out w1 hb; have q2 := C2.out w1 hb; have qp := PL.out w1 hb; have qg := GL.out w1 hb
        go_wp2
        go_ret
        exact ⟨rfl, T, ⟨V, HV.out.below hb⟩, Step.below hb⟩
      · have d1 : decide (k < 0) = false := decide_eq_false (by omega)
        have d2 : decide ((sz : Int) < k) = true := decide_eq_true hb2
        go_enter Try.func26, Try.ntmps26
        go_wp2_with fail
        refine R.mono ?_
        rintro e w1 ⟨rfl, hb⟩
        have q8 := D8.out w1 hb; have q2 := C2.out w1 hb; have qp := PL.out w1 hb; have qg := GL.out w1 hb
        go_wp2
        go_ret
        exact ⟨rfl, T, ⟨V, HV.out.below hb⟩, Step.below hb⟩
    · rw [if_neg hbad]
      obtain ⟨m, rfl⟩ : ∃ m : Nat, k = (m : Int) := ⟨k.toNat, by omega⟩
      rw [Int.toNat_natCast]
      have hml : m ≤ D.files[f].seen.length := by omega
      have d1 : decide ((m : Int) < 0) = false := decide_eq_false (by omega)
      have d2 : decide (((D.files[f].seen.length : Nat) : Int) < (m : Int)) = false := decide_eq_false (by omega)
      have EA : cutA z m = ⟨3, z, ⟨#[]⟩, ⟨#[]⟩, m⟩ := rfl
      rw [EA]
      cases hc : canDo D
      · have HG := Lib.hid (fun w1 (hb : Below w.heap.size w w1) => do_no (hV.below hb) hf (by omega) hc (kind := 3) (at_ := m) (name := z) (other := ⟨#[]⟩) (bytes := ⟨#[]⟩))
        clear hc ha e0 hV hfa d8 e8 hbad EA hsz
        have hml0 : m ≤ 1000000 := by omega
        generalize D.files[f].seen.length = sz at *
        go_enter Try.func26, Try.ntmps26
        go_wp2_with fail
        refine R.mono ?_
        rintro e w1 ⟨rfl, hb⟩
        have q8 := D8.out w1 hb; have q2 := C2.out w1 hb; have qp := PL.out w1 hb; have qg := GL.out w1 hb
        have hba : Below w.heap.size w (w1.alloc (.cells #[.int .i64 3, .string z, .string ⟨#[]⟩, .string ⟨#[]⟩, .int .i64 m] 94)) := hb.alloc hb.size _
        go_wp2_with fail
        refine (HG.out _ hba).mono ?_
        rintro e w2 ⟨rfl, hd, hs⟩
        have F := Lib.hid (show DiskV w2 T p (downD D) V ∧ Step w T w2 T from ⟨hd, (Step.below hba).trans hs⟩)
        clear hd hs hba HG hb D8 C2 PL GL q8 q2
        go_wp2
        go_ret
        exact ⟨rfl, T, ⟨V, F.out.1⟩, F.out.2⟩
      · have HG := Lib.hid (fun w1 (hb : Below w.heap.size w w1) => do_yes (hV.below hb) hf (by omega) hc (kind := 3) (at_ := m) (name := z) (other := ⟨#[]⟩) (bytes := ⟨#[]⟩))
        have HF := Lib.hid (did_fine hf hc ⟨3, z, ⟨#[]⟩, ⟨#[]⟩, m⟩)
        have HML := Lib.hid hml
        have LOW := Lib.hid hV.low
        clear hc ha e0 hV hfa d8 hbad EA hsz
        have hml0 : m ≤ 1000000 := by have := HML.out; omega
        generalize hgs : D.files[f].seen.length = sz at d2 C2 hlen hml
        have HGS := Lib.hid hgs
        clear hgs
        go_enter Try.func26, Try.ntmps26
        go_wp2_with fail
        refine R.mono ?_
        rintro e w1 ⟨rfl, hb⟩
        have q8 := D8.out w1 hb; have q2 := C2.out w1 hb; have qp := PL.out w1 hb; have qg := GL.out w1 hb
        have hba : Below w.heap.size w (w1.alloc (.cells #[.int .i64 3, .string z, .string ⟨#[]⟩, .string ⟨#[]⟩, .int .i64 m] 94)) := hb.alloc hb.size _
        have NB := Lib.hid (Cells.new w1 94 #[.int .i64 3, .string z, .string ⟨#[]⟩, .string ⟨#[]⟩, .int .i64 m])
        have HBS := Lib.hid hb.size
        go_wp2_with fail
        refine (HG.out _ hba).mono ?_
        rintro e w2 ⟨rfl, T2, v9', hd, hs⟩
        have bx : Cells w2 w1.heap.size 94 #[.int .i64 3, .string z, .string ⟨#[]⟩, .string ⟨#[]⟩, .int .i64 m] :=
          NB.out.only hs.only (fun h => by have := LOW.out _ h; have := HBS.out; omega)
        have b0 := bx.cell 0; have b1 := bx.cell 1; have b2 := bx.cell 2; have b3 := bx.cell 3; have b4 := bx.cell 4
        simp at b0 b1 b2 b3 b4
        have hbl := bx.lt
        have p8 : w2.cell? ⟨p, 8, none⟩ = some (.slice (some ⟨g, 0, none⟩) D.files.length cap) := by have := hd.cells.cell 8; dsimp only at this; rw [e8] at this; exact this
        have pp := hd.cells.lt
        have K := Lib.hid (fun W (hbW : Below w2.heap.size w2 W) => fwait_disk (hd.below hbW) HF.out (by omega) hfl e8 ⟨3, z, ⟨#[]⟩, ⟨#[]⟩, m⟩ (.inr rfl) (fun _ => HML.out) (Nat.zero_le _))
        have HS := Lib.hid ((Step.below hba).trans hs)
        clear hd hs hba HG hb D8 C2 PL GL q8 q2 bx NB HBS LOW R
        go_wp2
        go_region_law ((go_simp; go_at_call 52; refine (K.out _ ((Below.refl _ w2).drew)).mono ?_; rintro e w4 ⟨rfl, T4, V4, hd4, hs4⟩))
        all_goals
          have HD4 := Lib.hid hd4
          have HS4 := Lib.hid (HS.out.trans hs4.undrew)
          clear hd4 hs4 K HS
          go_wp2
          go_ret
          exact ⟨rfl, T4, ⟨V4, by unfold modF; rw [dif_pos hfl]; exact HD4.out⟩, HS4.out⟩
  · rcases ha with ha | ha | ha
    all_goals
      rw [ha] at R ⊢
      dsimp only at R ⊢
      clear ha e0
      go_enter Try.func26, Try.ntmps26
      go_wp2_with fail
      refine R.mono ?_
      rintro e w1 ⟨rfl, hb⟩
      go_wp2
      go_ret
      exact ⟨rfl, T, ⟨V, hV.below hb⟩, Step.below hb⟩
end Go.Proofs.Ytdfjkcdmbbmipaa
