/- Texts put together: VV, VW, VX, VY, VZ, YA. -/
import Derived.OwnWalk
import Derived.Maps.RangeWalk
import Derived.Sort.KeysCollected
import Derived.Test.YtembondddgfpcaaBvp3
set_option linter.unusedVariables false
namespace Go.Proofs.Ytembondddgfpcaa
open Go.RowKit Go.Maps
attribute [local go_sem] errV_0 errV_1 errV_3 errV_7

def removeD (D : ADisk) (z : ByteArray) : ADisk × Nat :=
  if (asked D z []).2 ≠ 0 then (D, (asked D z []).2) else if canDo D then ({ didD D ⟨6, z, ⟨#[]⟩, ⟨#[]⟩, 0⟩ with waits := D.waits ++ [⟨z, ⟨#[]⟩, 0⟩] }, 0) else (downD D, 3)
set_option maxRecDepth 100000 in
set_option maxHeartbeats 2000000 in
theorem remove_any {w : World} {T : Nat → Nat} {p n : Nat} {D : ADisk} (hA : DiskAt w T p D) (hf : Fine n D) (hn : n ≤ 400000) (z : ByteArray) (hz : z.size ≤ 1000000) :
    Calls Try.prog 20 #[.pointer (some ⟨p, 0, none⟩), .string z] w fun e w' => e = .returned (errV (removeD D z).2) ∧ ∃ T', DiskAt w' T' p (removeD D z).1 ∧ Step w T w' T' := by
  obtain ⟨V, hV⟩ := hA
  have R := find_disk (n := n) hV z [] 1 ((Below.refl _ w).alloc (Nat.le_refl _) (.cells #[.string z] 9)) (by simp) (row1 w z _) (by simpa using hz) (by simp)
  have e0 : findR (readyE D.gone [z]) (dget D.seen z.data.toList) = asked D z [] := rfl
  rw [e0] at R
  unfold removeD
  rcases asked_cases hf z [] with ⟨f, ha, hfl, _, _⟩ | ha
  · rw [ha] at R ⊢
    dsimp only at R ⊢
    cases hc : canDo D
    · have HG := Lib.hid (fun w1 (hb : Below w.heap.size w w1) => do_no (hV.below hb) hf (by omega) hc (kind := 6) (at_ := 0) (name := z) (other := ⟨#[]⟩) (bytes := ⟨#[]⟩))
      clear hc ha e0
      go_enter Try.func20, Try.ntmps20
      go_wp2_with fail
      refine R.mono ?_
      rintro e w1 ⟨rfl, hb⟩
      go_wp2_with fail
      refine (HG.out w1 hb).mono ?_
      rintro e w2 ⟨rfl, hd, hs⟩
      go_wp2
      go_ret
      exact ⟨rfl, T, ⟨V, hd⟩, (Step.below hb).trans hs⟩
    · have HG := Lib.hid (fun w1 (hb : Below w.heap.size w w1) => do_yes (hV.below hb) hf (by omega) hc (kind := 6) (at_ := 0) (name := z) (other := ⟨#[]⟩) (bytes := ⟨#[]⟩))
      have HF := Lib.hid (did_fine hf hc ⟨6, z, ⟨#[]⟩, ⟨#[]⟩, 0⟩)
      clear hc ha e0
      go_enter Try.func20, Try.ntmps20
      go_wp2_with fail
      refine R.mono ?_
      rintro e w1 ⟨rfl, hb⟩
      go_wp2_with fail
      refine (HG.out w1 hb).mono ?_
      rintro e w2 ⟨rfl, T2, v9', hd, hs⟩
      have K := dwait_any hd HF.out (by omega) z ⟨#[]⟩ 0 hz (by decide) (by omega)
      have HS := Lib.hid ((Step.below hb).trans hs)
      clear hd hs R hb HG
      go_wp2_with fail
      refine K.mono ?_
      rintro e w3 ⟨rfl, T3, v5', v6', v7', hd3, hs3⟩
      have HD3 := Lib.hid (show DiskAt w3 T3 p { didD D ⟨6, z, ⟨#[]⟩, ⟨#[]⟩, 0⟩ with waits := D.waits ++ [⟨z, ⟨#[]⟩, 0⟩] } from ⟨_, hd3⟩)
      have HS3 := Lib.hid (HS.out.trans hs3)
      clear hd3 hs3 K HF
      go_wp2
      go_ret
      exact ⟨rfl, T3, HD3.out, HS3.out⟩
  · rcases ha with ha | ha | ha
    all_goals
      rw [ha] at R ⊢
      dsimp only at R ⊢
      clear ha e0
      go_enter Try.func20, Try.ntmps20
      go_wp2_with fail
      refine R.mono ?_
      rintro e w1 ⟨rfl, hb⟩
      go_wp2
      go_ret
      exact ⟨rfl, T, ⟨V, hV.below hb⟩, Step.below hb⟩

def renameD (D : ADisk) (a b : ByteArray) : ADisk × Nat :=
  if (asked D a [b]).2 ≠ 0 then (D, (asked D a [b]).2) else if canDo D then (if a = b then didD D ⟨5, a, b, ⟨#[]⟩, 0⟩ else { didD D ⟨5, a, b, ⟨#[]⟩, 0⟩ with waits := D.waits ++ [⟨a, b, (asked D a [b]).1⟩] }, 0) else (downD D, 3)
set_option maxRecDepth 100000 in
set_option maxHeartbeats 2000000 in
theorem rename_any {w : World} {T : Nat → Nat} {p n : Nat} {D : ADisk} (hA : DiskAt w T p D) (hf : Fine n D) (hn : n ≤ 400000) (a b : ByteArray) (hz : a.size ≤ 1000000) (hz2 : b.size ≤ 1000000) :
    Calls Try.prog 19 #[.pointer (some ⟨p, 0, none⟩), .string a, .string b] w fun e w' => e = .returned (errV (renameD D a b).2) ∧ ∃ T', DiskAt w' T' p (renameD D a b).1 ∧ Step w T w' T' := by
  obtain ⟨V, hV⟩ := hA
  have R := find_disk (n := n) hV a [b] 2 ((Below.refl _ w).alloc (Nat.le_refl _) (.cells #[.string a, .string b] 9)) (by simp) (row2 w a b _) (by simpa using ⟨hz, hz2⟩) (by simp)
  have e0 : findR (readyE D.gone [a, b]) (dget D.seen a.data.toList) = asked D a [b] := rfl
  rw [e0] at R
  unfold renameD
  rcases asked_cases hf a [b] with ⟨f, ha, hfl, _, _⟩ | ha
  · rw [ha] at R ⊢
    dsimp only at R ⊢
    cases hc : canDo D
    · have HG := Lib.hid (fun w1 (hb : Below w.heap.size w w1) => do_no (hV.below hb) hf (by omega) hc (kind := 5) (at_ := 0) (name := a) (other := b) (bytes := ⟨#[]⟩))
      clear hc ha e0
      go_enter Try.func19, Try.ntmps19
      go_wp2_with fail
      refine R.mono ?_
      rintro e w1 ⟨rfl, hb⟩
      go_wp2_with fail
      refine (HG.out w1 hb).mono ?_
      rintro e w2 ⟨rfl, hd, hs⟩
      go_wp2
      go_ret
      exact ⟨rfl, T, ⟨V, hd⟩, (Step.below hb).trans hs⟩
    · have HG := Lib.hid (fun w1 (hb : Below w.heap.size w w1) => do_yes (hV.below hb) hf (by omega) hc (kind := 5) (at_ := 0) (name := a) (other := b) (bytes := ⟨#[]⟩))
      have HF := Lib.hid (did_fine hf hc ⟨5, a, b, ⟨#[]⟩, 0⟩)
      have hnf := hf.nfiles
      clear hc ha e0
      by_cases hab : a = b
      · subst hab
        go_enter Try.func19, Try.ntmps19
        go_wp2_with fail
        refine R.mono ?_
        rintro e w1 ⟨rfl, hb⟩
        go_wp2_with fail
        refine (HG.out w1 hb).mono ?_
        rintro e w2 ⟨rfl, T2, v9', hd, hs⟩
        have HD := Lib.hid hd
        have HS := Lib.hid ((Step.below hb).trans hs)
        clear hd hs R hb HG
        go_wp2
        go_ret
        exact ⟨rfl, T2, ⟨_, by simpa using HD.out⟩, HS.out⟩
      · have f2 : (a.toList == b.toList) = false := by
          rw [Lib.toList_data, Lib.toList_data, beq_eq_false_iff_ne]
          intro e; apply hab; rw [← Lib.mk_data a, ← Lib.mk_data b, e]
        have f3 : (a.toList != b.toList) = true := by rw [bne, f2]; rfl
        rw [if_neg hab]
        clear hab
        go_enter Try.func19, Try.ntmps19
        go_wp2_with fail
        refine R.mono ?_
        rintro e w1 ⟨rfl, hb⟩
        go_wp2_with fail
        refine (HG.out w1 hb).mono ?_
        rintro e w2 ⟨rfl, T2, v9', hd, hs⟩
        have K := dwait_any hd HF.out (by omega) a b f hz hz2 (by omega)
        have HS := Lib.hid ((Step.below hb).trans hs)
        clear hd hs R hb HG
        go_wp2_with fail
        refine K.mono ?_
        rintro e w3 ⟨rfl, T3, v5', v6', v7', hd3, hs3⟩
        have HD3 := Lib.hid (show DiskAt w3 T3 p { didD D ⟨5, a, b, ⟨#[]⟩, 0⟩ with waits := D.waits ++ [⟨a, b, f⟩] } from ⟨_, hd3⟩)
        have HS3 := Lib.hid (HS.out.trans hs3)
        clear hd3 hs3 K HF
        go_wp2
        go_ret
        exact ⟨rfl, T3, HD3.out, HS3.out⟩
  · rcases ha with ha | ha | ha
    all_goals
      rw [ha] at R ⊢
      dsimp only at R ⊢
      clear ha e0
      go_enter Try.func19, Try.ntmps19
      go_wp2_with fail
      refine R.mono ?_
      rintro e w1 ⟨rfl, hb⟩
      go_wp2
      go_ret
      exact ⟨rfl, T, ⟨V, hV.below hb⟩, Step.below hb⟩
end Go.Proofs.Ytembondddgfpcaa

namespace Go.Proofs.Ytembondddgfpcaa
open Go.RowKit Go.Maps
attribute [local go_sem] errV_0 errV_1 errV_3 errV_7 errV_12

theorem infoFile : (Try.prog.info? 96).map (fun i => (i.zero, i.size, i.bytes)) = some (some (.agg #[.string ⟨#[]⟩, .slice none 0 0, .int .i64 0]), 3, 48) := by kernel_rfl
theorem filesCells_snoc (f : FileA) (v : Value) : ∀ (fs : List FileA) (vs : List Value), vs.length = fs.length → filesCells (fs ++ [f]) (vs ++ [v]) = filesCells fs vs ++ fileCells f v
  | [], [], _ => by simp [filesCells]
  | [], _ :: _, h => by simp at h
  | g :: fs, [], h => by simp at h
  | g :: fs, u :: vs, h => by
    have := filesCells_snoc f v fs vs (by simpa using h)
    simp only [List.cons_append, filesCells, this, List.append_assoc]
def newF : FileA := ⟨⟨#[]⟩, []⟩
/-- Behind a file more. -/
theorem DiskV.fmore {w W w' : World} {T : Nat → Nat} {p : Nat} {D : ADisk} {V : Vals} {v' : Value} (h : DiskV w T p D V) (hb : Below w.heap.size w W)
    (ho : w'.ownsRow 0 96 3 v' (D.files.length + 1) (filesCells D.files V.fvs ++ [.string ⟨#[]⟩, .slice none 0 0, .int .i64 0])) (hgr : W.grownBy w' V.v8.ownBlock) (hbk : v'.ownBlock = V.v8.ownBlock ∨ v'.ownBlock = some W.heap.size) :
    ∃ T', DiskV (w'.setCell ⟨p, 8, none⟩ v') T' p { D with files := D.files ++ [newF] } { V with v8 := v', fvs := V.fvs ++ [.slice none 0 0] } ∧ Step w T (w'.setCell ⟨p, 8, none⟩ v') T' := by
  have tp : tagged T (some p) 1 := fun b hb => by cases hb; exact h.tp
  obtain ⟨_, hc, _, hk, hon⟩ := appended h.cells h.r8 (fun e => tag_ne h.t8 tp (by decide) p e rfl) hb ho hgr hbk
  have hl : ∀ {o : Option Nat} {t : Nat}, tagged T o t → t ≠ 0 → ∀ b, o = some b → b < w.heap.size := fun ht hne b hb => h.low b (by rw [ht b hb]; exact hne)
  have hz : (w'.setCell ⟨p, 8, none⟩ v').heap.size = w'.heap.size := by simp [World.setCell]
  have hs : ∀ b, T b ≠ 0 → T b ≠ 1 → T b ≠ 5 → (w'.setCell ⟨p, 8, none⟩ v').heap[b]? = w.heap[b]? := fun b hb h1 h5 =>
    (Below.heap_setCell _ _ _ _ (fun e => h1 (by rw [e]; exact h.tp))).trans (hon.same b (h.low b hb) (fun e => h5 (h.t8 b e.symm)))
  have s : ∀ {o : Option Nat} {t : Nat}, tagged T o t → 2 ≤ t → t ≠ 5 → ∀ b, o = some b → (w'.setCell ⟨p, 8, none⟩ v').heap[b]? = w.heap[b]? := fun ht hne h5 b hb => hs b (by rw [ht b hb]; omega) (by rw [ht b hb]; omega) (by rw [ht b hb]; exact h5)
  have hvp : v'.ownBlock ≠ some p := by
    have hpl := h.cells.lt
    intro e
    rcases hk with h1 | ⟨k, h1, h2, _⟩
    · exact tag_ne h.t8 tp (by decide) p (h1.symm.trans e) rfl
    · rw [h1] at e; cases e; omega
  have hk' : sameOr w.heap.size (w'.setCell ⟨p, 8, none⟩ v').heap.size V.v8.ownBlock v'.ownBlock := by rw [hz]; exact hk
  have ho2 : Only (fun r => r = p ∨ some r = V.v8.ownBlock) w (w'.setCell ⟨p, 8, none⟩ v') := (hon.mono (S' := fun r => r = p ∨ some r = V.v8.ownBlock) (fun r _ e => .inr e)).setCell (p := ⟨p, 8, none⟩) (.inl (.inl rfl)) _
  refine ⟨retag T w.heap.size v'.ownBlock 5, ?_, ⟨ho2.mono fun r _ e => by rcases e with e | e; rw [e, h.tp]; decide; rw [h.t8 r e.symm]; decide, fun r hr => retag_old hr⟩⟩
  refine ⟨by simpa [diskCells] using hc.set 8 v', by rw [retag_old h.cells.lt]; exact h.tp, h.m5.same (s h.t5 (by decide) (by decide)), retag_other h.t5 (hl h.t5 (by decide)), h.m6.same (s h.t6 (by decide) (by decide)), retag_other h.t6 (hl h.t6 (by decide)), h.nil56, h.nilw,
    row_same h.r7 (s h.t7 (by decide) (by decide)), retag_other h.t7 (hl h.t7 (by decide)), ?_, retag_same hk' h.t8, row_same h.r9 (s h.t9 (by decide) (by decide)), retag_other h.t9 (hl h.t9 (by decide)), by simp [h.nf], fun j h1 h2 => ?_, retag_zero h.low ho2.size hk' (hl h.t8 (by decide))⟩
  · show (w'.setCell ⟨p, 8, none⟩ v').ownsRow 0 _ 3 v' (D.files ++ [newF]).length (filesCells (D.files ++ [newF]) (V.fvs ++ [.slice none 0 0]))
    rw [List.length_append, filesCells_snoc _ _ _ _ h.nf]
    exact row_cell ho hvp _
  · simp only [List.length_append, List.length_cons, List.length_nil] at h1 h2
    have hnf := h.nf
    by_cases hj : j < D.files.length
    · have hj' : j < V.fvs.length := by omega
      have := h.rf j hj hj'
      simp only [List.getElem_append_left hj, List.getElem_append_left hj']
      exact ⟨row_same this.1 (s this.2 (by omega) (by omega)), retag_other this.2 (hl this.2 (by omega))⟩
    · obtain rfl : j = D.files.length := by omega
      have e1 : (D.files ++ [newF])[D.files.length]'(by simp) = newF := by simp
      have e2 : (V.fvs ++ [Value.slice none 0 0])[D.files.length]'(by simp; omega) = .slice none 0 0 := by simp [← hnf]
      simp only [e1, e2]
      exact ⟨World.ownsRow_nil _ _ _ _, fun b hb => by cases hb⟩

theorem Step.undrew {w w' : World} {T T' : Nat → Nat} (h : Step w.drew T w' T') : Step w T w' T' := ⟨⟨h.only.os, h.only.tape, h.only.output, h.only.size, h.only.same⟩, h.old⟩
def createD (D : ADisk) (z : ByteArray) : ADisk × Nat :=
  if readyE D.gone [z] ≠ 0 then (D, readyE D.gone [z]) else if (dget D.seen z.data.toList).isSome then (D, 12)
  else if canDo D then ({ didD D ⟨1, z, ⟨#[]⟩, ⟨#[]⟩, 0⟩ with waits := D.waits ++ [⟨⟨#[]⟩, z, D.files.length⟩], files := D.files ++ [newF] }, 0) else (downD D, 3)
theorem wait1_fine {n : Nat} {D : ADisk} (h : Fine n D) (c : ChangeA) (h1 : c.off.size ≤ 1000000 ∧ c.on.size ≤ 1000000) (h2 : c.file < D.files.length) : Fine (n + 1) { D with waits := D.waits ++ [c] } := by
  have := h.u1
  exact ⟨h.u0, by show D.units ≤ ((n + 1 : Nat) : Int); omega, h.l0, h.l1, h.r0, h.r1, by have := h.dirs; show D.sure.length + (D.waits ++ [c]).length ≤ _; simp; omega, by have := h.nfiles; show D.files.length ≤ _; omega, by have := h.nacts; show D.acts.length ≤ _; omega,
    fun f hf => (h.files f hf).mono (Nat.le_succ _), fun d hd => by
      rcases List.mem_append.1 hd with hd | hd
      · exact h.changes d hd
      · obtain rfl : d = c := by simpa using hd
        exact ⟨h1.1, h1.2, h2⟩, h.names⟩

set_option maxRecDepth 100000 in
set_option maxHeartbeats 2000000 in
theorem create_any {w : World} {T : Nat → Nat} {p n : Nat} {D : ADisk} (hA : DiskAt w T p D) (hf : Fine n D) (hn : n ≤ 400000) (z : ByteArray) (hz : z.size ≤ 1000000) :
    Calls Try.prog 15 #[.pointer (some ⟨p, 0, none⟩), .string z] w fun e w' => e = .returned (errV (createD D z).2) ∧ ∃ T', DiskAt w' T' p (createD D z).1 ∧ Step w T w' T' := by
  obtain ⟨V, hV⟩ := hA
  have R := ready_disk (n := n) hV [z] 1 ((Below.refl _ w).alloc (Nat.le_refl _) (.cells #[.string z] 9)) (by simp) (row1 w z _) (by simpa using hz) (by simp)
  obtain ⟨i0, hi, hz0, hz1, hz2⟩ := info_parts infoFile
  have hdl := hf.dirs
  have hnf := hf.nfiles
  unfold createD
  rcases readyE_cases D.gone [z] with hr | hr | hr
  · rw [hr] at R ⊢
    have L := Lib.hid (fun w1 (hb : Below w.heap.size w w1) => (hV.below hb).m6.look z (by unfold maxLen; omega))
    have C6 := Lib.hid (fun w1 (hb : Below w.heap.size w w1) => show w1.cell? ⟨p, 6, none⟩ = some V.v6 from (hV.below hb).cells.cell 6)
    cases hq : dget D.seen z.data.toList with
    | some f =>
      rw [hq] at L
      clear hr hq
      go_enter Try.func15, Try.ntmps15
      go_wp2_with fail
      refine R.mono ?_
      rintro e w1 ⟨rfl, hb⟩
      have c6 := C6.out w1 hb
      have hl := L.out w1 hb
      clear C6 L
      go_wp2
      go_ret
      exact ⟨rfl, T, ⟨V, hV.below hb⟩, Step.below hb⟩
    | none =>
      rw [hq] at L
      cases hc : canDo D
      · have HG := Lib.hid (fun w1 (hb : Below w.heap.size w w1) => do_no (hV.below hb) hf (by omega) hc (kind := 1) (at_ := 0) (name := z) (other := ⟨#[]⟩) (bytes := ⟨#[]⟩))
        clear hc hr hq
        go_enter Try.func15, Try.ntmps15
        go_wp2_with fail
        refine R.mono ?_
        rintro e w1 ⟨rfl, hb⟩
        have c6 := C6.out w1 hb
        have hl := L.out w1 hb
        clear C6 L
        go_wp2_with fail
        refine (HG.out w1 hb).mono ?_
        rintro e w2 ⟨rfl, hd, hs⟩
        clear c6 hl
        go_wp2
        go_ret
        exact ⟨rfl, T, ⟨V, hd⟩, (Step.below hb).trans hs⟩
      · have HG := Lib.hid (fun w1 (hb : Below w.heap.size w w1) => do_yes (hV.below hb) hf (by omega) hc (kind := 1) (at_ := 0) (name := z) (other := ⟨#[]⟩) (bytes := ⟨#[]⟩))
        have HF := Lib.hid (did_fine hf hc ⟨1, z, ⟨#[]⟩, ⟨#[]⟩, 0⟩)
        clear hc hr hq
        go_enter Try.func15, Try.ntmps15
        go_wp2_with fail
        refine R.mono ?_
        rintro e w1 ⟨rfl, hb⟩
        have c6 := C6.out w1 hb
        have hl := L.out w1 hb
        clear C6 L
        go_wp2_with fail
        refine (HG.out w1 hb).mono ?_
        rintro e w2 ⟨rfl, T2, v9', hd, hs⟩
        have d8 : w2.cell? ⟨p, 8, none⟩ = some V.v8 := hd.cells.cell 8
        have hpl := hd.cells.lt
        have hlen8 : ∃ ao cap, V.v8 = .slice ao D.files.length cap := by
          rcases hV.r8.2 with ⟨e, h0⟩ | ⟨g, cap, cur, e, _⟩
          · exact ⟨none, 0, by rw [e, h0]⟩
          · exact ⟨_, cap, e⟩
        obtain ⟨ao, cap8, e8⟩ := hlen8
        rw [e8] at d8
        have K := Lib.hid (fun W (hbW : Below w2.heap.size w2 W) => dwait_any (hd.below hbW) HF.out (by omega) ⟨#[]⟩ z D.files.length (by decide) hz (by omega))
        have HD := Lib.hid hd
        have HS := Lib.hid ((Step.below hb).trans hs)
        have E8 := Lib.hid e8
        clear c6 hl hd hs R hb HG e8
        go_wp2
        go_region_law ((go_simp; go_at_call 51; refine (K.out _ ((Below.refl _ w2).drew)).mono ?_; rintro e w3 ⟨rfl, T3, v5', v6', v7', hd3, hs3⟩))
        all_goals
          have tp3 : tagged T3 (some p) 1 := fun b hb => by cases hb; exact hd3.tp
          have hne3 : Hid (V.v8.ownBlock ≠ some p) := fun e => tag_ne hd3.t8 tp3 (by decide) p e rfl
          have hpl3 := hd3.cells.lt
          have d8' : w3.cell? ⟨p, 8, none⟩ = some (.slice ao D.files.length cap8) := by have := hd3.cells.cell 8; exact this.trans (by show some V.v8 = _; rw [E8.out])
          have r8 : Hid (w3.ownsRow 0 96 3 V.v8 D.files.length (filesCells D.files V.fvs)) := hd3.r8
          have c8 := Lib.hid hd3.cells
          have HD3 := Lib.hid hd3
          have HS3 := Lib.hid (HS.out.trans hs3.undrew)
          clear hd3 hs3 K HD HF d8 tp3 HS
          go_wp2_with (at_builtin; refine wpList_append_own_at _ rfl _ _ 69 rfl 0 96 i0 _ 3 48 Try.underlying69 hi hz0 hz1 hz2 rfl (by decide) V.v8 D.files.length (filesCells D.files V.fvs) (by simp [Act.eval, E8.out]) (r8.out.alloc _) ⟨w3.heap.size, 0, none⟩ 1 1 [.string ⟨#[]⟩, .slice none 0 0, .int .i64 0] (by simp [Act.eval]) rfl (cells_new_add w3 96 [.string ⟨#[]⟩, .slice none 0 0, .int .i64 0]) (by intro u hu; simp at hu; rcases hu with rfl | rfl | rfl <;> rfl) (by unfold maxLen; omega) (by omega) (Nat.zero_le _) ?_)
          intro v' w' ho hgr _ hbk
          have hsa : (w3.alloc (.cells #[.string ⟨#[]⟩, .slice none 0 0, .int .i64 0] 96)).heap.size = w3.heap.size + 1 := by simp
          rw [← hsa] at hbk
          obtain ⟨⟨g', cap', rfl⟩, hg', _, _, _⟩ := appended c8.out r8.out hne3.out ((Below.refl _ w3).alloc (Nat.le_refl _) _) ho hgr hbk
          have k8 : w'.cell? ⟨p, 8, none⟩ = some (.slice ao D.files.length cap8) := (hg'.cell 8).trans (by show some V.v8 = _; rw [E8.out])
          have kf8 := hg'.frozen 8
          obtain ⟨T4, hd4, hs4⟩ := HD3.out.fmore ((Below.refl _ w3).alloc (Nat.le_refl _) (.cells #[.string ⟨#[]⟩, .slice none 0 0, .int .i64 0] 96)) ho hgr hbk
          have HD4 := Lib.hid (show DiskAt (w'.setCell ⟨p, 8, none⟩ (.slice (some ⟨g', 0, none⟩) (D.files.length + 1) cap')) T4 p { didD D ⟨1, z, ⟨#[]⟩, ⟨#[]⟩, 0⟩ with waits := D.waits ++ [⟨⟨#[]⟩, z, D.files.length⟩], files := D.files ++ [newF] } from ⟨_, hd4⟩)
          have HS4 := Lib.hid (HS3.out.trans hs4)
          clear hd4 hs4 ho hgr hbk hsa hg' HD3 HS3 c8 r8
          go_wp2
          go_ret
          exact ⟨rfl, T4, HD4.out, HS4.out⟩
  · rw [hr] at R ⊢
    clear hr
    go_enter Try.func15, Try.ntmps15
    go_wp2_with fail
    refine R.mono ?_
    rintro e w1 ⟨rfl, hb⟩
    go_wp2
    go_ret
    exact ⟨rfl, T, ⟨V, hV.below hb⟩, Step.below hb⟩
  · rw [hr] at R ⊢
    clear hr
    go_enter Try.func15, Try.ntmps15
    go_wp2_with fail
    refine R.mono ?_
    rintro e w1 ⟨rfl, hb⟩
    go_wp2
    go_ret
    exact ⟨rfl, T, ⟨V, hV.below hb⟩, Step.below hb⟩
end Go.Proofs.Ytembondddgfpcaa

namespace Go.Proofs.Ytembondddgfpcaa
open Go.RowKit Go.Maps

def sizeAt (fs : List FileA) (f : Nat) : Nat := match fs[f]? with | some x => x.seen.length | none => 0
def usedL (sz : Nat → Nat) (left : Lit → Bool) (l : Dir) : Nat := (l.map fun x => if left (.string x.1) then 0 else sz x.2).sum
def totalL (sz : Nat → Nat) (l : Dir) : Nat := (l.map fun x => sz x.2).sum
def freeD (D : ADisk) : Int := max (D.room - (totalL (sizeAt D.files) D.seen : Nat)) 0
theorem usedL_le (sz : Nat → Nat) (left : Lit → Bool) (m : Nat) (hm : ∀ f, sz f ≤ m) : ∀ l : Dir, usedL sz left l ≤ l.length * m
  | [] => Nat.zero_le _
  | x :: l => by
    have ih := usedL_le sz left m hm l
    have h1 := hm x.2
    unfold usedL at ih ⊢
    simp only [List.map_cons, List.sum_cons, List.length_cons]
    rw [Nat.add_mul, Nat.one_mul]
    split <;> (first | omega | skip)
theorem usedL_start (sz : Nat → Nat) (left : Lit → Bool) : ∀ l : Dir, (∀ x ∈ l, left (.string x.1) = true) → usedL sz left l = 0
  | [], _ => rfl
  | x :: l, h => by
    have ih := usedL_start sz left l (fun y hy => h y (by simp [hy]))
    unfold usedL at ih ⊢
    simp only [List.map_cons, List.sum_cons, h x (by simp), if_true, ih]
theorem usedL_end (sz : Nat → Nat) (left : Lit → Bool) (h : ∀ kl, left kl = false) : ∀ l : Dir, usedL sz left l = totalL sz l
  | [] => rfl
  | x :: l => by
    have ih := usedL_end sz left h l
    unfold usedL totalL at ih ⊢
    simp only [List.map_cons, List.sum_cons, h, Bool.false_eq_true, if_false] at ih ⊢
    try omega
theorem usedL_same (sz : Nat → Nat) (left left' : Lit → Bool) : ∀ l : Dir, (∀ x ∈ l, left' (.string x.1) = left (.string x.1)) → usedL sz left' l = usedL sz left l
  | [], _ => rfl
  | x :: l, h => by
    have ih := usedL_same sz left left' l (fun y hy => h y (by simp [hy]))
    unfold usedL at ih ⊢
    simp only [List.map_cons, List.sum_cons, h x (by simp), ih]
theorem usedL_step (sz : Nat → Nat) (left : Lit → Bool) (ks : List UInt8) (hl : left (.string ks) = true) : ∀ (l : Dir) (f : Nat), l.Pairwise (fun x y => x.1 ≠ y.1) → dget l ks = some f →
    usedL sz (fun z => left z && !z.sameKey (.string ks)) l = usedL sz left l + sz f
  | [], _, _, h => by simp [dget] at h
  | x :: l, f, hp, h => by
    obtain ⟨hx, hp⟩ := List.pairwise_cons.1 hp
    by_cases hk : x.1 = ks
    · subst hk
      have : f = x.2 := by simpa [dget] using h.symm
      subst this
      have hs := usedL_same sz left (fun z => left z && !z.sameKey (.string x.1)) l (fun y hy => by
        have hne : (Lit.string y.1).sameKey (.string x.1) = false := by
          show (y.1 == x.1) = false
          rw [beq_eq_false_iff_ne]; exact fun e => hx y hy e.symm
        simp [hne])
      unfold usedL at hs ⊢
      have hself : (Lit.string x.1).sameKey (.string x.1) = true := by show (x.1 == x.1) = true; simp
      simp only [List.map_cons, List.sum_cons, hl, hself, Bool.not_true, Bool.and_false, Bool.false_eq_true, if_false, if_true]
      rw [hs]; omega
    · have h2 : dget l ks = some f := by
        unfold dget at h ⊢
        rw [List.find?_cons_of_neg (by simpa using hk)] at h
        exact h
      have ih := usedL_step sz left ks hl l f hp h2
      have hne : (Lit.string x.1).sameKey (.string ks) = false := by show (x.1 == ks) = false; rw [beq_eq_false_iff_ne]; exact hk
      unfold usedL at ih ⊢
      simp only [List.map_cons, List.sum_cons, hne, Bool.not_false, Bool.and_true] at ih ⊢
      rw [ih]; omega
theorem dget_of_at {l : Dir} {ks : List UInt8} {c : Int} (h : ∀ zd, (dmapD l).atKey (.string ks) zd = .lit (.int .i64 c)) : ∃ f : Nat, dget l ks = some f ∧ c = f := by
  cases hq : dget l ks with
  | none =>
    have := h .nil
    rw [dmapD_at, hq] at this
    cases this
  | some f =>
    have := h .nil
    rw [dmapD_at, hq] at this
    simp only [DataW.lit.injEq, Lit.int.injEq] at this
    exact ⟨f, rfl, this.2.symm⟩
theorem dmapD_apart {w : World} {b n : Nat} {l : Dir} (h : w.ownsMap Try.prog 9 (plainElem Try.prog 3) b n (dmapD l)) : l.Pairwise (fun x y => x.1 ≠ y.1) := by
  obtain ⟨es, he, hp, _⟩ := h.entries keyT
  have he' : l.map dlit = es := by unfold dmapD at he; injection he
  rw [← he', List.pairwise_map] at hp
  exact hp.imp fun {a b} hab e => hab (by unfold dlit; rw [e])
theorem sizeAt_le {n : Nat} {D : ADisk} (hf : Fine n D) (f : Nat) : sizeAt D.files f ≤ n := by
  unfold sizeAt
  cases hq : D.files[f]? with
  | none => simp
  | some x =>
    have ok := hf.files x (List.mem_of_getElem? hq)
    have h1 := seenL_length_le x.waits x.sure.data.toList
    have h2 := ok.len
    have h3 : x.sure.data.toList.length = x.sure.size := (Lib.size_eq _).symm
    show x.seen.length ≤ n
    unfold FileA.seen
    omega

set_option maxRecDepth 100000 in
set_option maxHeartbeats 2000000 in
theorem free_some {w : World} {T : Nat → Nat} {p n : Nat} {D : ADisk} {V : Vals} (hV : DiskV w T p D V) (hf : Fine n D) (hn : n ≤ 400000) (b6 : Nat) (e6 : V.v6 = .map (some b6)) :
    Calls Try.prog 24 #[.pointer (some ⟨p, 0, none⟩)] w fun e w' => e = .returned (.int .i64 (freeD D)) ∧ Below w.heap.size w w' := by
  have hom : w.ownsMap Try.prog 9 (plainElem Try.prog 3) b6 D.seen.length (dmapD D.seen) := by
    rcases hV.m6 with ⟨e, _⟩ | ⟨b, e, ho⟩
    · rw [e6] at e; cases e
    · rw [e6] at e; cases e; exact ho
  have hap := dmapD_apart hom
  have hle := fun left => usedL_le (sizeAt D.files) left n (sizeAt_le hf) D.seen
  have hsl : D.seen.length ≤ n := by have := dplay_length D.waits D.sure; have := hf.dirs; unfold ADisk.seen; omega
  have hmul : D.seen.length * n ≤ 400000 * 400000 := Nat.mul_le_mul (by omega) hn
  have hlt := fun k f (h : dget D.seen k = some f) => dget_lt hf.seen_lt h
  have d4 : w.cell? ⟨p, 4, none⟩ = some (.int .i64 D.room) := hV.cells.cell 4
  have d6 : w.cell? ⟨p, 6, none⟩ = some (.map (some b6)) := by have := hV.cells.cell 6; rw [e6] at this; exact this
  have r0 := hf.r0
  have r1 := hf.r1
  have F8 := Lib.hid (fun wr (hb : Below w.heap.size w wr) (f : Nat) (hfl : f < D.files.length) => (hV.below hb).file hfl)
  have C8 := Lib.hid (fun wr (hb : Below w.heap.size w wr) => show wr.cell? ⟨p, 8, none⟩ = some V.v8 from (hV.below hb).cells.cell 8)
  have HM := Lib.hid hom
  have HA := Lib.hid hap
  have HLE := Lib.hid hle
  have HLT := Lib.hid hlt
  have SZ := Lib.hid (sizeAt_le hf)
  have hnf := hf.nfiles
  have hpl := hV.cells.lt
  have PL := Lib.hid hpl
  clear hom hap hle hlt e6
  go_enter Try.func24, Try.ntmps24
  go_wp2_with (at_range; refine wpList_range_own _ rfl _ 65 rfl 9 3 keyT Try.underlying65 (plainElem Try.prog 3) b6 D.seen.length (dmapD D.seen) rfl HM.out ?_; intro w0 hrg0 hg0 hs0; go_frame)
  have hb0 : Below w.heap.size w w0 := (Below.refl _ w).grown hg0 (Nat.le_refl _) (fun k hk => by cases hk)
  have HB0 := Lib.hid hb0
  have hst := usedL_start (sizeAt D.files) (Maps.has (dmapD D.seen)) D.seen (fun x hx => by
    rw [dmapD_has]
    unfold dget
    rw [Option.isSome_map, List.find?_isSome]
    exact ⟨x, hx, by simp⟩)
  have HST := Lib.hid hst
  clear hb0 hst hg0
  go_loopw [3] (fun fr wr => ∃ left cnt, fr = .int .i64 (D.room - (usedL (sizeAt D.files) left D.seen : Nat)) ∧ wr.ranges Try.prog 9 (plainElem Try.prog 3) b6 w.heap.size D.seen.length (dmapD D.seen) left cnt ∧ Below w.heap.size w wr) (fun _ wr => wr.rangeLeft b6 w.heap.size)
  case atStart => exact ⟨_, _, by rw [HST.out]; simp, hrg0, HB0.out⟩
  case round =>
    obtain ⟨left, cnt, rfl, hrg, hbel⟩ := hrel
    have hul := HLE.out left
    have HBel := Lib.hid hbel
    have HRG := Lib.hid hrg
    clear hbel hrg
    go_wp2_with (at_next; refine wpList_next_ranges _ rfl _ rfl 9 keyT (plainElem Try.prog 3) encStr (Value.int .i64) (fun key kl hk => by obtain ⟨x, hx, _⟩ := Maps.keyOf_str Try.underlying9 hk; exact ⟨x, hx⟩) (fun v y hv => by obtain ⟨c, rfl, _⟩ := plainElem_int_inv Try.underlying3 hv; exact ⟨c, rfl⟩) b6 w.heap.size D.seen.length _ _ _ rfl HRG.out ?_ ?_)
    · intro _ hl0
      have he := usedL_end (sizeAt D.files) left hl0 D.seen
      have HE := Lib.hid he
      clear he hl0
      go_wp2
      go_ret
      refine ⟨?_, HBel.out⟩
      rw [HE.out]; rfl
    · intro x c kl yd yp w1 cnt1 hkey hlk hv hat hrg1 hlt1 hg1 hs1 hen
      obtain ⟨x', ex, rfl, _⟩ := Maps.keyOf_str Try.underlying9 hkey
      obtain rfl := encStr_inj ex
      obtain ⟨c', ec, hy, _⟩ := plainElem_int_inv Try.underlying3 hv
      obtain rfl : c = c' := by injection ec
      have hat' : ∀ zd, (dmapD D.seen).atKey (.string x) zd = .lit (.int .i64 c) := fun zd => by rw [hat zd]; exact congrArg Prod.fst hy
      obtain ⟨f, hgf, rfl⟩ := dget_of_at hat'
      have hfl := HLT.out _ _ hgf
      have hstep := usedL_step (sizeAt D.files) left x hlk D.seen f HA.out hgf
      have hul2 := HLE.out (fun z => left z && !z.sameKey (.string x))
      have hb1 : Below w.heap.size w w1 := HBel.out.grown hg1 HBel.out.size (fun k hk => by cases hk; exact Nat.le_refl _)
      obtain ⟨g, cap, cur, e8, hc8, _, _, _, _, _, hfa⟩ := F8.out w1 hb1 f hfl
      have c8 := C8.out w1 hb1
      rw [e8] at c8
      have c2 := hfa.c2
      have hsz : sizeAt D.files f = D.files[f].seen.length := by unfold sizeAt; rw [List.getElem?_eq_getElem hfl]
      rw [← hsz] at c2
      have hsf := SZ.out f
      have HS := Lib.hid hstep
      have HB1 := Lib.hid hb1
      have HRG1 := Lib.hid hrg1
      have HL1 := Lib.hid hlt1
      rw [hstep] at hul2
      generalize sizeAt D.files f = sf at *
      generalize usedL (sizeAt D.files) left D.seen = us at *
      clear hsz hstep hat hat' hgf hlk hv hy ex ec hkey hs1 hg1 hb1 hrg1 hlt1 hfa hc8 e8
      go_wp2
      go_roundw
      case rel => exact ⟨_, cnt1, by rw [HS.out]; go_num, HRG1.out, HB1.out⟩
      case measure => rw [HRG1.out.left_eq, HRG.out.left_eq]; exact HL1.out
end Go.Proofs.Ytembondddgfpcaa

namespace Go.Proofs.Ytembondddgfpcaa
open Go.RowKit Go.Maps

set_option maxRecDepth 100000 in
set_option maxHeartbeats 2000000 in
theorem free_nil {w : World} {T : Nat → Nat} {p n : Nat} {D : ADisk} {V : Vals} (hV : DiskV w T p D V) (hf : Fine n D) (e6 : V.v6 = .map none) (hs : D.seen = []) :
    Calls Try.prog 24 #[.pointer (some ⟨p, 0, none⟩)] w fun e w' => e = .returned (.int .i64 (freeD D)) ∧ Below w.heap.size w w' := by
  have d4 : w.cell? ⟨p, 4, none⟩ = some (.int .i64 D.room) := hV.cells.cell 4
  have d6 : w.cell? ⟨p, 6, none⟩ = some (.map none) := by have := hV.cells.cell 6; rw [e6] at this; exact this
  have r0 := hf.r0
  have r1 := hf.r1
  have hfr : freeD D = max D.room 0 := by unfold freeD; rw [hs]; simp [totalL]
  rw [hfr]
  have hrg := run_range_nilMap (P := Try.prog) w 65 9 3 Try.underlying65
  have hnx : ∀ ty, (Instr.next (.pointer (some ⟨w.heap.size, 0, none⟩)) false ty).run Try.prog (w.alloc (.mapIter none 0 #[] 0)) = _ := fun ty => run_next_nilMap w ty 0 0 #[]
  have HB := Lib.hid ((Below.refl _ w).alloc (Nat.le_refl _) (.mapIter none 0 #[] 0))
  clear hfr e6 hs
  go_enter Try.func24, Try.ntmps24
  go_wp2
  refine wp_loop_rounds 1 ?_
  rw [rounds_succ]
  go_wp2
  go_ret
  exact ⟨rfl, HB.out⟩
theorem free_any {w : World} {T : Nat → Nat} {p n : Nat} {D : ADisk} {V : Vals} (hV : DiskV w T p D V) (hf : Fine n D) (hn : n ≤ 400000) :
    Calls Try.prog 24 #[.pointer (some ⟨p, 0, none⟩)] w fun e w' => e = .returned (.int .i64 (freeD D)) ∧ Below w.heap.size w w' := by
  rcases hV.m6 with ⟨e6, hs⟩ | ⟨b6, e6, _⟩
  · exact free_nil hV hf e6 hs
  · exact free_some hV hf hn b6 e6

def spentD (D : ADisk) (k : Int) : ADisk := { D with units := D.units + spent D.armed D.left k, left := (if D.armed then D.left - spent D.armed D.left k else D.left), gone := (D.gone || (D.armed && decide (D.left < k))) }
theorem spend_disk {w : World} {T : Nat → Nat} {p n : Nat} {D : ADisk} {V : Vals} (hV : DiskV w T p D V) (hf : Fine n D) (hn : n ≤ 400000) (k : Nat) (hk : k ≤ 1000) :
    Calls Try.prog 52 #[.pointer (some ⟨p, 0, none⟩), .int .i64 k] w fun e w' => e = .returned (.int .i64 (spent D.armed D.left k)) ∧ DiskV w' T p (spentD D k) V ∧ Step w T w' T := by
  refine (spend_any p 71 D.units D.left D.armed D.gone D.room V.v5 V.v6 V.v7 V.v8 V.v9 k w hV.cells (by omega) hf.l0 hf.u0 (by have := hf.u1; omega) (by omega) hf.l1).mono ?_
  rintro e w' ⟨rfl, hc, ho⟩
  exact ⟨rfl, hV.power (D' := spentD D k) hc ho rfl rfl rfl rfl, step_p hV.tp ho⟩
theorem spent_le (D : ADisk) (n k : Nat) (hf : Fine n D) : ∃ m : Nat, spent D.armed D.left k = m ∧ m ≤ k ∧ (m < k → D.armed = true ∧ D.left = m) := by
  have h0 := hf.l0
  unfold spent
  cases hq : D.armed
  · exact ⟨k, by simp, Nat.le_refl _, fun h => by omega⟩
  · by_cases h : D.left < k
    · exact ⟨D.left.toNat, by simp [h]; omega, by omega, fun _ => ⟨rfl, by omega⟩⟩
    · exact ⟨k, by simp [h], Nat.le_refl _, fun h => by omega⟩
theorem spend_fine {n k : Nat} {D : ADisk} (h : Fine n D) : Fine (n + k) (spentD D k) := by
  obtain ⟨m, hm, hle, _⟩ := spent_le D n k h
  have h0 := h.l0; have h1 := h.l1; have h2 := h.u0; have h3 := h.u1
  have hl : 0 ≤ (if D.armed then D.left - spent D.armed D.left k else D.left) ∧ (if D.armed then D.left - spent D.armed D.left k else D.left) ≤ 9223372036854775807 := by
    unfold spent
    cases hq : D.armed
    · simpa using ⟨h0, h1⟩
    · by_cases hc : D.left < k
      · simp [hc]
      · simp [hc]; omega
  refine ⟨?_, ?_, hl.1, hl.2, h.r0, h.r1, by have := h.dirs; show D.sure.length + D.waits.length ≤ _; omega, by have := h.nfiles; show D.files.length ≤ _; omega, by have := h.nacts; show D.acts.length ≤ _; omega, fun f hf => (h.files f hf).mono (Nat.le_add_right _ _), h.changes, h.names⟩
  · show 0 ≤ D.units + spent D.armed D.left k; rw [hm]; omega
  · show D.units + spent D.armed D.left k ≤ ((n + k : Nat) : Int); rw [hm]; omega
theorem more_fine {n k : Nat} {D : ADisk} (h : Fine n D) {f : Nat} (hf : f < D.files.length) (a : ActA) (hk : a.kind = 2 ∨ a.kind = 3) (hat : a.kind = 3 → a.at_ ≤ D.files[f].seen.length) (hb : a.bytes.size ≤ k) (h1 : 1 ≤ k) :
    Fine (n + k) { D with files := D.files.set f (D.files[f].more a) } := by
  have ok := h.files _ (List.getElem_mem hf)
  have hu := h.u1
  refine ⟨h.u0, by show D.units ≤ ((n + k : Nat) : Int); omega, h.l0, h.l1, h.r0, h.r1, by have := h.dirs; show D.sure.length + D.waits.length ≤ _; omega, by have := h.nfiles; show (D.files.set f _).length ≤ _; rw [List.length_set]; omega, by have := h.nacts; show D.acts.length ≤ _; omega, fun g hg => ?_, fun c hc => by
    have := h.changes c hc; exact ⟨this.1, this.2.1, by show _ < (D.files.set f _).length; rw [List.length_set]; exact this.2.2⟩, fun x hx => by show _ < (D.files.set f _).length; rw [List.length_set]; exact h.names x hx⟩
  rcases List.mem_or_eq_of_mem_set hg with hg | rfl
  · exact (h.files g hg).mono (Nat.le_add_right _ _)
  · refine ⟨fitsW_snoc a _ _ ok.fits hat, ?_, ?_, ?_, fun b hb => ?_⟩
    · show D.files[f].sure.size + lenW (D.files[f].waits ++ [a]) ≤ _
      rw [lenW_snoc]; have := ok.len; omega
    · show unitsL (D.files[f].waits ++ [a]) ≤ _
      rw [unitsL_snoc]; have := ok.units; split <;> omega
    · show (D.files[f].waits ++ [a]).length ≤ _
      have := ok.many; simp; omega
    · rcases List.mem_append.1 hb with hb | hb
      · exact ok.kinds b hb
      · obtain rfl : b = a := by simpa using hb
        omega
end Go.Proofs.Ytembondddgfpcaa

namespace Go.Proofs.Ytembondddgfpcaa
open Go.RowKit Go.Maps
attribute [local go_sem] errV_0 errV_1 errV_3 errV_4 errV_7

def wroteA (z t : ByteArray) (m : Nat) : ActA := ⟨2, z, ⟨#[]⟩, t.extract 0 m, 0⟩
def writeD (D : ADisk) (z t : ByteArray) : ADisk × Nat :=
  if (asked D z []).2 ≠ 0 then (D, (asked D z []).2) else if freeD D < t.size then (D, 4)
  else (if 0 < (spent D.armed D.left t.size).toNat then { spentD D t.size with files := modF D.files (asked D z []).1 fun f => f.more (wroteA z t (spent D.armed D.left t.size).toNat), acts := D.acts ++ [wroteA z t (spent D.armed D.left t.size).toNat] } else spentD D t.size,
    if (spent D.armed D.left t.size).toNat < t.size then 3 else 0)
theorem Did.mk1 {p : Nat} {units left : Int} {armed gone : Bool} {room : Int} {v5 v6 v7 v8 v9 v' : Value} {n : Nat} {xs news : List Value} {w w' : World} (hlt : p < w.heap.size) (hg : Cells w' p 71 (diskCells units armed left gone room v5 v6 v7 v8 v9))
    (ho : w'.ownsRow 0 89 5 v' (n + 1) (xs ++ news)) (hne : v9.ownBlock ≠ some p)
    (hk : v'.ownBlock = v9.ownBlock ∨ ∃ k, v'.ownBlock = some k ∧ w.heap.size ≤ k ∧ k < w'.heap.size) (hon : Only (fun r => some r = v9.ownBlock) w w') :
    Did p (diskCells units armed left gone room v5 v6 v7 v8) v9 n xs news w (w'.setCell ⟨p, 9, none⟩ v') := Did.mk' hlt (Only.refl _ w) hg ho hne hk hon

set_option maxRecDepth 100000 in
set_option maxHeartbeats 4000000 in
/-- Where a byte is written. -/
theorem write_some {w : World} {T : Nat → Nat} {p n : Nat} {D : ADisk} {V : Vals} (hV : DiskV w T p D V) (hf : Fine n D) (hn : n ≤ 300000) (z t : ByteArray) (hz : z.size ≤ 1000000) (ht : t.size ≤ 1000) (f : Nat) (ha : asked D z [] = (f, 0)) (hfl : f < D.files.length)
    (hfree : ¬ freeD D < t.size) (m : Nat) (hm : spent D.armed D.left t.size = m) (hmt : m ≤ t.size) (hm0 : 0 < m) :
    Calls Try.prog 16 #[.pointer (some ⟨p, 0, none⟩), .string z, .string t] w fun e w' => e = .returned (errV (if m < t.size then 3 else 0)) ∧
      ∃ T', DiskAt w' T' p { spentD D t.size with files := modF D.files f fun x => x.more (wroteA z t m), acts := D.acts ++ [wroteA z t m] } ∧ Step w T w' T' := by
  have R := find_disk (n := n) hV z [] 1 ((Below.refl _ w).alloc (Nat.le_refl _) (.cells #[.string z] 9)) (by simp) (row1 w z _) (by simpa using hz) (by simp)
  have e0 : findR (readyE D.gone [z]) (dget D.seen z.data.toList) = asked D z [] := rfl
  rw [e0, ha] at R
  dsimp only at R
  obtain ⟨i0, hi, hz0, hz1, hz2⟩ := info_parts infoAct
  have HFr := Lib.hid (fun w1 (hb : Below w.heap.size w w1) => free_any (hV.below hb) hf (by omega))
  have HSp := Lib.hid (fun w1 (hb : Below w.heap.size w w1) => by
    have := spend_disk (hV.below hb) hf (by omega) t.size ht
    rw [hm] at this
    exact this)
  have HF1 := Lib.hid (spend_fine (k := t.size) hf)
  have hnf := hf.nfiles
  have hna := hf.nacts
  have hfr0 : 0 ≤ freeD D := by unfold freeD; omega
  have hfr1 : freeD D ≤ 9223372036854775807 := by unfold freeD; have := hf.r1; have := hf.r0; omega
  have hgt : decide ((t.size : Int) > freeD D) = false := decide_eq_false (by omega)
  have hgt2 : decide (freeD D < (t.size : Int)) = false := decide_eq_false (by omega)
  have hm1 : decide ((m : Int) > 0) = true := decide_eq_true (by omega)
  have hm2 : decide ((0 : Int) < (m : Int)) = true := decide_eq_true (by omega)
  generalize freeD D = fr at *
  clear e0 ha hm hfree
  have hps : (t.extract 0 m).size ≤ 1000 := by rw [Lib.size_eq, extract_take, List.length_take, ← Lib.size_eq]; omega
  have WA : wroteA z t m = ⟨2, z, ⟨#[]⟩, t.extract 0 m, 0⟩ := rfl
  rw [WA]
  clear WA
  have HPC := Lib.hid (rfl : t.extract 0 m = t.extract 0 m)
  by_cases hlt : m < t.size
  all_goals
    have hlt' : decide ((m : Int) < (t.size : Int)) = decide (m < t.size) := by simp
    first
      | (have hl3 : decide ((m : Int) < (t.size : Int)) = true := decide_eq_true (by omega); rw [if_pos hlt])
      | (have hl3 : decide ((m : Int) < (t.size : Int)) = false := decide_eq_false (by omega); rw [if_neg hlt])
    clear hlt'
    go_enter Try.func16, Try.ntmps16
    go_wp2_with fail
    refine R.mono ?_
    rintro e w1 ⟨rfl, hb⟩
    go_wp2_with fail
    refine (HFr.out w1 hb).mono ?_
    rintro e w2 ⟨rfl, hb2⟩
    have hb12 : Below w.heap.size w w2 := hb.trans (hb2.mono hb.size)
    go_wp2_with fail
    refine (HSp.out w2 hb12).mono ?_
    rintro e w3 ⟨rfl, hd3, hs3⟩
    obtain ⟨g, cap, cur, e8, hc8, _, _, _, _, tg, hfa⟩ := hd3.file (i := f) hfl
    have d8 : w3.cell? ⟨p, 8, none⟩ = some (.slice (some ⟨g, 0, none⟩) D.files.length cap) := by have := hd3.cells.cell 8; rw [e8] at this; exact this
    have hp3 := hd3.cells.lt
    have hb3 : Below w3.heap.size w3 (w3.alloc (.cells #[.int .i64 2, .string z, .string ⟨#[]⟩, .string (t.extract 0 m), .int .i64 0] 89)) := (Below.refl _ w3).alloc (Nat.le_refl _) _
    have K := Lib.hid (fun W (hbW : Below w3.heap.size w3 W) => fwait_disk (hd3.below hbW) HF1.out (by omega) hfl e8 ⟨2, z, ⟨#[]⟩, t.extract 0 m, 0⟩ (.inl rfl) (fun h => by cases h) hps)
    have HB3 := Lib.hid hb3
    have LO := Lib.hid hd3.low
    have HS3 := Lib.hid ((Step.below hb12).trans hs3)
    clear hb hb2 hb12 R HFr HSp hd3 hs3 e8 hc8 hfa hb3
    go_wp2
    go_region_law ((go_simp; go_at_call 53; refine (K.out _ (HB3.out.drew)).mono ?_; rintro e w4 ⟨rfl, T4, V4, hd4, hs4⟩))
    all_goals
      have bx : Cells w4 w3.heap.size 89 #[.int .i64 2, .string z, .string ⟨#[]⟩, .string (t.extract 0 m), .int .i64 0] :=
        ((Cells.new w3 89 #[.int .i64 2, .string z, .string ⟨#[]⟩, .string (t.extract 0 m), .int .i64 0]).drew).only hs4.only (fun h => by have := LO.out _ h; omega)
      have tp4 : tagged T4 (some p) 1 := fun b hb => by cases hb; exact hd4.tp
      have hne4 : Hid (V4.v9.ownBlock ≠ some p) := fun e => tag_ne hd4.t9 tp4 (by decide) p e rfl
      have r9 : Hid (w4.ownsRow 0 89 5 V4.v9 D.acts.length (actsCells D.acts)) := hd4.r9
      have d9 : w4.cell? ⟨p, 9, none⟩ = some V4.v9 := hd4.cells.cell 9
      have hp4 := hd4.cells.lt
      have C4 := Lib.hid hd4.cells
      have b0 := bx.cell 0; have b1 := bx.cell 1; have b2 := bx.cell 2; have b3 := bx.cell 3; have b4 := bx.cell 4
      simp at b0 b1 b2 b3 b4
      have HD4 := Lib.hid hd4
      have HS4 := Lib.hid (HS3.out.trans ((Step.below HB3.out).trans hs4.undrew))
      clear hd4 hs4 bx K HB3 LO HS3 tp4 d8
      go_wp2
      go_region_law ((refine step_append_own rfl (.tmp 52) (.tmp 54) 60 rfl 89 i0 _ 5 64 Try.underlying60 hi hz0 hz1 hz2 rfl (by decide) V4.v9 D.acts.length (actsCells D.acts) (by simp [Act.eval]) (by exact (r9.out.alloc _).drew) ⟨w4.heap.size, 0, none⟩ 1 1 [.int .i64 2, .string z, .string ⟨#[]⟩, .string (t.extract 0 m), .int .i64 0] (by simp [Act.eval]) rfl (cells_new_add w4 89 [.int .i64 2, .string z, .string ⟨#[]⟩, .string (t.extract 0 m), .int .i64 0]) (by intro u hu; simp at hu; rcases hu with rfl | rfl | rfl | rfl | rfl <;> rfl) (by unfold maxLen; omega) (by omega) ?_); intro v' w' ho hgr hbk; obtain ⟨⟨g', cap', rfl⟩, hg', hbx, hk, hon⟩ := appended C4.out r9.out hne4.out (((Below.refl _ w4).alloc (Nat.le_refl _) _).drew) ho hgr hbk; have k9 : w'.cell? ⟨p, 9, none⟩ = some V4.v9 := hg'.cell 9; have kf9 := hg'.frozen 9)
      all_goals
        obtain ⟨T5, v9', hd5, hs5⟩ := HD4.out.did (a := ⟨2, z, ⟨#[]⟩, t.extract 0 m, 0⟩) (D' := { spentD D t.size with files := D.files.set f (D.files[f].more ⟨2, z, ⟨#[]⟩, t.extract 0 m, 0⟩), acts := D.acts ++ [⟨2, z, ⟨#[]⟩, t.extract 0 m, 0⟩] }) (Did.mk1 HD4.out.cells.lt hg' ho hne4.out hk hon) rfl rfl rfl rfl
        have HD5 := Lib.hid hd5
        have HS5 := Lib.hid (HS4.out.trans hs5)
        clear hd5 hs5 ho hgr hbk hg' hbx hk hon HD4 HS4 C4 r9
        go_wp2
        go_ret
        exact ⟨rfl, T5, ⟨_, by unfold modF; rw [dif_pos hfl]; exact HD5.out⟩, HS5.out⟩
end Go.Proofs.Ytembondddgfpcaa

namespace Go.Proofs.Ytembondddgfpcaa
open Go.RowKit Go.Maps
attribute [local go_sem] errV_0 errV_1 errV_3 errV_4 errV_7

set_option maxRecDepth 100000 in
set_option maxHeartbeats 4000000 in
theorem write_any {w : World} {T : Nat → Nat} {p n : Nat} {D : ADisk} (hA : DiskAt w T p D) (hf : Fine n D) (hn : n ≤ 300000) (z t : ByteArray) (hz : z.size ≤ 1000000) (ht : t.size ≤ 1000) :
    Calls Try.prog 16 #[.pointer (some ⟨p, 0, none⟩), .string z, .string t] w fun e w' => e = .returned (errV (writeD D z t).2) ∧ ∃ T', DiskAt w' T' p (writeD D z t).1 ∧ Step w T w' T' := by
  obtain ⟨V, hV⟩ := hA
  have R := find_disk (n := n) hV z [] 1 ((Below.refl _ w).alloc (Nat.le_refl _) (.cells #[.string z] 9)) (by simp) (row1 w z _) (by simpa using hz) (by simp)
  have e0 : findR (readyE D.gone [z]) (dget D.seen z.data.toList) = asked D z [] := rfl
  rw [e0] at R
  unfold writeD
  rcases asked_cases hf z [] with ⟨f, ha, hfl, _, _⟩ | ha
  · have ha' := ha
    rw [ha] at R ⊢
    dsimp only at R ⊢
    rw [if_neg (by simp)]
    have HFr := Lib.hid (fun w1 (hb : Below w.heap.size w w1) => free_any (hV.below hb) hf (by omega))
    have hfr0 : 0 ≤ freeD D := by unfold freeD; omega
    have hfr1 : freeD D ≤ 9223372036854775807 := by unfold freeD; have := hf.r1; have := hf.r0; omega
    by_cases hfree : freeD D < t.size
    · rw [if_pos hfree]
      have hgt : decide ((t.size : Int) > freeD D) = true := decide_eq_true (by omega)
      have hgt2 : decide (freeD D < (t.size : Int)) = true := decide_eq_true (by omega)
      generalize freeD D = fr at *
      clear e0 ha ha' hfree
      go_enter Try.func16, Try.ntmps16
      go_wp2_with fail
      refine R.mono ?_
      rintro e w1 ⟨rfl, hb⟩
      go_wp2_with fail
      refine (HFr.out w1 hb).mono ?_
      rintro e w2 ⟨rfl, hb2⟩
      have hb12 : Below w.heap.size w w2 := hb.trans (hb2.mono hb.size)
      go_wp2
      go_ret
      exact ⟨rfl, T, ⟨V, hV.below hb12⟩, Step.below hb12⟩
    · rw [if_neg hfree]
      obtain ⟨m, hm, hmt, hlast⟩ := spent_le D n t.size hf
      have hsp := hm
      rw [hm]
      dsimp only
      rw [Int.toNat_natCast]
      by_cases hm0 : 0 < m
      · rw [if_pos hm0]
        exact write_some hV hf hn z t hz ht f ha' hfl hfree m hm hmt hm0
      · have hmz : m = 0 := by omega
        rw [if_neg hm0]
        have HSp := Lib.hid (fun w1 (hb : Below w.heap.size w w1) => by
          have := spend_disk (hV.below hb) hf (by omega) t.size ht
          rw [hm, hmz] at this
          exact this)
        have hgt : decide ((t.size : Int) > freeD D) = false := decide_eq_false (by omega)
        have hgt2 : decide (freeD D < (t.size : Int)) = false := decide_eq_false (by omega)
        generalize freeD D = fr at *
        subst hmz
        clear e0 ha ha' hfree hm hsp hlast hm0
        by_cases hlt : 0 < t.size
        all_goals
          first
            | (have hl3 : decide ((0 : Int) < (t.size : Int)) = true := decide_eq_true (by omega); rw [if_pos hlt])
            | (have hl3 : decide ((0 : Int) < (t.size : Int)) = false := decide_eq_false (by omega); rw [if_neg hlt])
          go_enter Try.func16, Try.ntmps16
          go_wp2_with fail
          refine R.mono ?_
          rintro e w1 ⟨rfl, hb⟩
          go_wp2_with fail
          refine (HFr.out w1 hb).mono ?_
          rintro e w2 ⟨rfl, hb2⟩
          have hb12 : Below w.heap.size w w2 := hb.trans (hb2.mono hb.size)
          go_wp2_with fail
          refine (HSp.out w2 hb12).mono ?_
          rintro e w3 ⟨rfl, hd3, hs3⟩
          have HD := Lib.hid hd3
          have HS := Lib.hid ((Step.below hb12).trans hs3)
          clear hd3 hs3 hb hb2 hb12 R HFr HSp
          go_wp2
          go_ret
          exact ⟨rfl, T, ⟨V, HD.out⟩, HS.out⟩
  · rcases ha with ha | ha | ha
    all_goals
      rw [ha] at R ⊢
      dsimp only at R ⊢
      clear ha e0
      go_enter Try.func16, Try.ntmps16
      go_wp2_with fail
      refine R.mono ?_
      rintro e w1 ⟨rfl, hb⟩
      go_wp2
      go_ret
      exact ⟨rfl, T, ⟨V, hV.below hb⟩, Step.below hb⟩

theorem down_any {w : World} {T : Nat → Nat} {p : Nat} {D : ADisk} (hA : DiskAt w T p D) : Calls Try.prog 26 #[.pointer (some ⟨p, 0, none⟩)] w fun e w' => e = .returned (.bool D.gone) ∧ w = w' := by
  obtain ⟨V, hV⟩ := hA
  have d3 : w.cell? ⟨p, 3, none⟩ = some (.bool D.gone) := hV.cells.cell 3
  go_enter Try.func26, Try.ntmps26
  go_wp2
  go_ret
  exact ⟨rfl, rfl⟩
theorem units_any {w : World} {T : Nat → Nat} {p : Nat} {D : ADisk} (hA : DiskAt w T p D) : Calls Try.prog 25 #[.pointer (some ⟨p, 0, none⟩)] w fun e w' => e = .returned (.int .i64 D.units) ∧ w = w' := by
  obtain ⟨V, hV⟩ := hA
  have d0 : w.cell? ⟨p, 0, none⟩ = some (.int .i64 D.units) := hV.cells.cell 0
  go_enter Try.func25, Try.ntmps25
  go_wp2
  go_ret
  exact ⟨rfl, rfl⟩

def readR (D : ADisk) (z : ByteArray) : ByteArray × Nat :=
  if D.gone then (⟨#[]⟩, 3) else if (asked D z []).2 ≠ 0 then (⟨#[]⟩, (asked D z []).2) else (match D.files[(asked D z []).1]? with | some f => ⟨f.seen.toArray⟩ | none => ⟨#[]⟩, 0)
set_option maxRecDepth 100000 in
set_option maxHeartbeats 4000000 in
theorem read_any {w : World} {T : Nat → Nat} {p n : Nat} {D : ADisk} (hA : DiskAt w T p D) (hf : Fine n D) (hn : n ≤ 300000) (z : ByteArray) (hz : z.size ≤ 1000000) :
    Calls Try.prog 13 #[.pointer (some ⟨p, 0, none⟩), .string z] w fun e w' => e = .returned (.tuple #[.string (readR D z).1, errV (readR D z).2]) ∧ Below w.heap.size w w' := by
  have DW := down_any hA
  obtain ⟨V, hV⟩ := hA
  have R := find_disk (n := n) hV z [] 1 ((Below.refl _ w).alloc (Nat.le_refl _) (.cells #[.string z] 9)) (by simp) (row1 w z _) (by simpa using hz) (by simp)
  have e0 : findR (readyE D.gone [z]) (dget D.seen z.data.toList) = asked D z [] := rfl
  rw [e0] at R
  unfold readR
  cases hg : D.gone
  · rw [hg] at DW
    rcases asked_cases hf z [] with ⟨f, ha, hfl, _, _⟩ | ha
    · rw [ha] at R ⊢
      dsimp only at R ⊢
      rw [List.getElem?_eq_getElem hfl]
      obtain ⟨g, cap, cur, e8, _, _, _, _, _, _, _⟩ := hV.file (i := f) hfl
      have hun := (hf.files _ (List.getElem_mem hfl)).units
      have hsn : afterF D.files[f].waits 9223372036854775807 D.files[f].sure.data.toList = D.files[f].seen := afterF_all _ _ _ (by omega)
      have K := Lib.hid (fun w1 (hb : Below w.heap.size w w1) => by
        have := after_disk (hV.below hb) hf (by omega) hfl e8 9223372036854775807 wf_allU
        rw [hsn] at this
        exact this)
      have D8 := Lib.hid (fun w1 (hb : Below w.heap.size w w1) => show w1.cell? ⟨p, 8, none⟩ = some (.slice (some ⟨g, 0, none⟩) D.files.length cap) by have := (hV.below hb).cells.cell 8; rw [e8] at this; exact this)
      have hp := hV.cells.lt
      have PL := Lib.hid (fun w1 (hb : Below w.heap.size w w1) => Nat.lt_of_lt_of_le hp hb.size)
      have hnf := hf.nfiles
      clear e0 ha hg hsn e8
      go_enter Try.func13, Try.ntmps13
      go_wp2_with fail
      refine DW.mono ?_
      rintro e w0 ⟨rfl, rfl⟩
      go_wp2_with fail
      refine R.mono ?_
      rintro e w1 ⟨rfl, hb⟩
      have d8 := D8.out w1 hb
      have hp1 := PL.out w1 hb
      go_wp2_with fail
      refine (K.out w1 hb).mono ?_
      rintro e w2 ⟨rfl, hb2⟩
      have HB := Lib.hid (hb.trans (hb2.mono hb.size))
      clear hb hb2 K D8 PL R DW d8
      go_wp2
      go_ret2
      exact ⟨rfl, HB.out⟩
    · rcases ha with ha | ha | ha
      all_goals
        rw [ha] at R ⊢
        dsimp only at R ⊢
        clear ha e0 hg
        go_enter Try.func13, Try.ntmps13
        go_wp2_with fail
        refine DW.mono ?_
        rintro e w0 ⟨rfl, rfl⟩
        go_wp2_with fail
        refine R.mono ?_
        rintro e w1 ⟨rfl, hb⟩
        go_wp2
        go_ret2
        exact ⟨rfl, hb⟩
  · rw [hg] at DW
    clear R e0 hg
    go_enter Try.func13, Try.ntmps13
    go_wp2_with fail
    refine DW.mono ?_
    rintro e w0 ⟨rfl, rfl⟩
    go_wp2
    go_ret2
    exact ⟨rfl, Below.refl _ _⟩

def armD (D : ADisk) (k : Int) : ADisk × Nat := if k < 0 then (D, 1) else ({ D with armed := true, left := k }, 0)
set_option maxHeartbeats 1000000 in
theorem arm_any {w : World} {T : Nat → Nat} {p : Nat} {D : ADisk} (hA : DiskAt w T p D) (k : Int) :
    Calls Try.prog 22 #[.pointer (some ⟨p, 0, none⟩), .int .i64 k] w fun e w' => e = .returned (errV (armD D k).2) ∧ DiskAt w' T p (armD D k).1 ∧ Step w T w' T := by
  obtain ⟨V, hV⟩ := hA
  unfold armD
  have c1 : w.cell? ⟨p, 1, none⟩ = some (.bool D.armed) := hV.cells.cell 1
  have c2 : w.cell? ⟨p, 2, none⟩ = some (.int .i64 D.left) := hV.cells.cell 2
  have f1 := hV.cells.frozen 1
  have f2 := hV.cells.frozen 2
  by_cases hk : k < 0
  · rw [if_pos hk]
    go_enter Try.func22, Try.ntmps22
    go_wp2
    go_ret
    exact ⟨rfl, ⟨V, hV⟩, Step.refl _ _⟩
  · rw [if_neg hk]
    have hd := (hV.cells.set 1 (.bool true)).set 2 (.int .i64 k)
    have P := Lib.hid (show DiskV ((w.setCell ⟨p, 1, none⟩ (.bool true)).setCell ⟨p, 2, none⟩ (.int .i64 k)) T p { D with armed := true, left := k } V from
      hV.power (by simpa [diskCells] using hd) (((Only.refl (· = p) w).cellS 1 _).cellS 2 _) rfl rfl rfl rfl)
    have S := Lib.hid (step_p hV.tp (((Only.refl (· = p) w).cellS 1 (.bool true)).cellS 2 (.int .i64 k)))
    clear hd
    go_enter Try.func22, Try.ntmps22
    go_wp2
    go_ret
    exact ⟨rfl, ⟨V, P.out⟩, S.out⟩
end Go.Proofs.Ytembondddgfpcaa

