/- Create. -/
import Derived.Test.YtdfjkcdmbbmipaaVV
import Derived.OwnWalk
namespace Go.Proofs.Ytdfjkcdmbbmipaa
open Go.RowKit Go.Maps
attribute [local go_sem] errV_0 errV_1 errV_3 errV_7 errV_12

theorem infoFile : (Try.prog.info? 105).map (fun i => (i.zero, i.size, i.bytes)) = some (some (.agg #[.string ⟨#[]⟩, .slice none 0 0, .int .i64 0]), 3, 48) := by kernel_rfl
theorem filesCells_snoc (f : FileA) (v : Value) : ∀ (fs : List FileA) (vs : List Value), vs.length = fs.length → filesCells (fs ++ [f]) (vs ++ [v]) = filesCells fs vs ++ fileCells f v
  | [], [], _ => by simp [filesCells]
  | [], _ :: _, h => by simp at h
  | g :: fs, [], h => by simp at h
  | g :: fs, u :: vs, h => by
    have := filesCells_snoc f v fs vs (by simpa using h)
    simp only [List.cons_append, filesCells, this, List.append_assoc]
def newF : FileA := ⟨⟨#[]⟩, []⟩
/-- Behind a file more. -/
theorem DiskV.fmore {w W w' : World} {T : Nat → Nat} {p : Nat} {D : ADisk} {V : Vals} {v' : Value} (h : DiskV w T p D V) (hb : Below w.heap.size w W)
    (ho : w'.ownsRow 0 105 3 v' (D.files.length + 1) (filesCells D.files V.fvs ++ [.string ⟨#[]⟩, .slice none 0 0, .int .i64 0])) (hgr : W.grownBy w' V.v8.ownBlock) (hbk : v'.ownBlock = V.v8.ownBlock ∨ v'.ownBlock = some W.heap.size) :
    ∃ T', DiskV (w'.setCell ⟨p, 8, none⟩ v') T' p { D with files := D.files ++ [newF] } { V with v8 := v', fvs := V.fvs ++ [.slice none 0 0] } ∧ Step w T (w'.setCell ⟨p, 8, none⟩ v') T' := by
  have tp : tagged T (some p) 1 := fun b hb => by cases hb; exact h.tp
  obtain ⟨_, hc, _, hk, hon⟩ := appended h.cells h.r8 (fun e => tag_ne h.t8 tp (by decide) p e rfl) hb ho hgr hbk
  have hl : ∀ {o : Option Nat} {t : Nat}, tagged T o t → t ≠ 0 → ∀ b, o = some b → b < w.heap.size := fun ht hne b hb => h.low b (by rw [ht b hb]; exact hne)
  have hz : (w'.setCell ⟨p, 8, none⟩ v').heap.size = w'.heap.size := by simp [World.setCell]
  have hs : ∀ b, T b ≠ 0 → T b ≠ 1 → T b ≠ 5 → (w'.setCell ⟨p, 8, none⟩ v').heap[b]? = w.heap[b]? := fun b hb h1 h5 =>
    (Below.heap_setCell _ _ _ _ (fun e => h1 (by rw [e]; exact h.tp))).trans (hon.same b (h.low b hb) (fun e => h5 (h.t8 b e.symm)))
  have s : ∀ {o : Option Nat} {t : Nat}, tagged T o t → 2 ≤ t → t ≠ 5 → ∀ b, o = some b → (w'.setCell ⟨p, 8, none⟩ v').heap[b]? = w.heap[b]? := fun ht hne h5 b hb => hs b (by rw [ht b hb]; omega) (by rw [ht b hb]; omega) (by rw [ht b hb]; exact h5)
  have hvp : v'.ownBlock ≠ some p := by
    have hpl := h.cells.lt
    intro e
    rcases hk with h1 | ⟨k, h1, h2, _⟩
    · exact tag_ne h.t8 tp (by decide) p (h1.symm.trans e) rfl
    · rw [h1] at e; cases e; omega
  have hk' : sameOr w.heap.size (w'.setCell ⟨p, 8, none⟩ v').heap.size V.v8.ownBlock v'.ownBlock := by rw [hz]; exact hk
  have ho2 : Only (fun r => r = p ∨ some r = V.v8.ownBlock) w (w'.setCell ⟨p, 8, none⟩ v') := (hon.mono (S' := fun r => r = p ∨ some r = V.v8.ownBlock) (fun r _ e => .inr e)).setCell (p := ⟨p, 8, none⟩) (.inl (.inl rfl)) _
  refine ⟨retag T w.heap.size v'.ownBlock 5, ?_, ⟨ho2.mono fun r _ e => by rcases e with e | e; rw [e, h.tp]; decide; rw [h.t8 r e.symm]; decide, fun r hr => retag_old hr⟩⟩
  refine ⟨by simpa [diskCells] using hc.set 8 v', by rw [retag_old h.cells.lt]; exact h.tp, h.m5.same (s h.t5 (by decide) (by decide)), retag_other h.t5 (hl h.t5 (by decide)), h.m6.same (s h.t6 (by decide) (by decide)), retag_other h.t6 (hl h.t6 (by decide)), h.nil56, h.nilw,
    row_same h.r7 (s h.t7 (by decide) (by decide)), retag_other h.t7 (hl h.t7 (by decide)), ?_, retag_same hk' h.t8, row_same h.r9 (s h.t9 (by decide) (by decide)), retag_other h.t9 (hl h.t9 (by decide)), by simp [h.nf], fun j h1 h2 => ?_, retag_zero h.low ho2.size hk' (hl h.t8 (by decide))⟩
  · show (w'.setCell ⟨p, 8, none⟩ v').ownsRow 0 _ 3 v' (D.files ++ [newF]).length (filesCells (D.files ++ [newF]) (V.fvs ++ [.slice none 0 0]))
    rw [List.length_append, filesCells_snoc _ _ _ _ h.nf]
    exact row_cell ho hvp _
  · simp only [List.length_append, List.length_cons, List.length_nil] at h1 h2
    have hnf := h.nf
    by_cases hj : j < D.files.length
    · have hj' : j < V.fvs.length := by omega
      have := h.rf j hj hj'
      simp only [List.getElem_append_left hj, List.getElem_append_left hj']
      exact ⟨row_same this.1 (s this.2 (by omega) (by omega)), retag_other this.2 (hl this.2 (by omega))⟩
    · obtain rfl : j = D.files.length := by omega
      have e1 : (D.files ++ [newF])[D.files.length]'(by simp) = newF := by simp
      have e2 : (V.fvs ++ [Value.slice none 0 0])[D.files.length]'(by simp; omega) = .slice none 0 0 := by simp [← hnf]
      simp only [e1, e2]
      exact ⟨World.ownsRow_nil _ _ _ _, fun b hb => by cases hb⟩

theorem Step.undrew {w w' : World} {T T' : Nat → Nat} (h : Step w.drew T w' T') : Step w T w' T' := ⟨⟨h.only.os, h.only.tape, h.only.output, h.only.size, h.only.same⟩, h.old⟩
def createD (D : ADisk) (z : ByteArray) : ADisk × Nat :=
  if readyE D.gone [z] ≠ 0 then (D, readyE D.gone [z]) else if (dget D.seen z.data.toList).isSome then (D, 12)
  else if canDo D then ({ didD D ⟨1, z, ⟨#[]⟩, ⟨#[]⟩, 0⟩ with waits := D.waits ++ [⟨⟨#[]⟩, z, D.files.length⟩], files := D.files ++ [newF] }, 0) else (downD D, 3)
theorem wait1_fine {n : Nat} {D : ADisk} (h : Fine n D) (c : ChangeA) (h1 : c.off.size ≤ 1000000 ∧ c.on.size ≤ 1000000) (h2 : c.file < D.files.length) : Fine (n + 1) { D with waits := D.waits ++ [c] } := by
  have := h.u1
  exact ⟨h.u0, by show D.units ≤ ((n + 1 : Nat) : Int); omega, h.l0, h.l1, h.r0, h.r1, by have := h.dirs; show D.sure.length + (D.waits ++ [c]).length ≤ _; simp; omega, by have := h.nfiles; show D.files.length ≤ _; omega, by have := h.nacts; show D.acts.length ≤ _; omega,
    fun f hf => (h.files f hf).mono (Nat.le_succ _), fun d hd => by
      rcases List.mem_append.1 hd with hd | hd
      · exact h.changes d hd
      · obtain rfl : d = c := by simpa using hd
        exact ⟨h1.1, h1.2, h2⟩, h.names⟩

set_option maxRecDepth 100000 in
set_option maxHeartbeats 2000000 in
theorem create_any {w : World} {T : Nat → Nat} {p n : Nat} {D : ADisk} (hA : DiskAt w T p D) (hf : Fine n D) (hn : n ≤ 400000) (z : ByteArray) (hz : z.size ≤ 1000000) :
    Calls Try.prog 14 #[.pointer (some ⟨p, 0, none⟩), .string z] w fun e w' => e = .returned (errV (createD D z).2) ∧ ∃ T', DiskAt w' T' p (createD D z).1 ∧ Step w T w' T' := by
  obtain ⟨V, hV⟩ := hA
  have R := ready_disk (n := n) hV [z] 1 ((Below.refl _ w).alloc (Nat.le_refl _) (.cells #[.string z] 9)) (by simp) (row1 w z _) (by simpa using hz) (by simp)
  obtain ⟨i0, hi, hz0, hz1, hz2⟩ := info_parts infoFile
  have hdl := hf.dirs
  have hnf := hf.nfiles
  unfold createD
  rcases readyE_cases D.gone [z] with hr | hr | hr
  · rw [hr] at R ⊢
    have L := Lib.hid (fun w1 (hb : Below w.heap.size w w1) => (hV.below hb).m6.look z (by unfold maxLen; omega))
    have C6 := Lib.hid (fun w1 (hb : Below w.heap.size w w1) => show w1.cell? ⟨p, 6, none⟩ = some V.v6 from (hV.below hb).cells.cell 6)
    cases hq : dget D.seen z.data.toList with
    | some f =>
      rw [hq] at L
      clear hr hq
      go_enter Try.func14, Try.ntmps14
      go_wp2_with fail
      refine R.mono ?_
      rintro e w1 ⟨rfl, hb⟩
      have c6 := C6.out w1 hb
      have hl := L.out w1 hb
      clear C6 L
      go_wp2
      go_ret
      exact ⟨rfl, T, ⟨V, hV.below hb⟩, Step.below hb⟩
    | none =>
      rw [hq] at L
      cases hc : canDo D
      · have HG := Lib.hid (fun w1 (hb : Below w.heap.size w w1) => do_no (hV.below hb) hf (by omega) hc (kind := 1) (at_ := 0) (name := z) (other := ⟨#[]⟩) (bytes := ⟨#[]⟩))
        clear hc hr hq
        go_enter Try.func14, Try.ntmps14
        go_wp2_with fail
        refine R.mono ?_
        rintro e w1 ⟨rfl, hb⟩
        have c6 := C6.out w1 hb
        have hl := L.out w1 hb
        clear C6 L
        go_wp2_with fail
        refine (HG.out w1 hb).mono ?_
        rintro e w2 ⟨rfl, hd, hs⟩
        clear c6 hl
        go_wp2
        go_ret
        exact ⟨rfl, T, ⟨V, hd⟩, (Step.below hb).trans hs⟩
      · have HG := Lib.hid (fun w1 (hb : Below w.heap.size w w1) => do_yes (hV.below hb) hf (by omega) hc (kind := 1) (at_ := 0) (name := z) (other := ⟨#[]⟩) (bytes := ⟨#[]⟩))
        have HF := Lib.hid (did_fine hf hc ⟨1, z, ⟨#[]⟩, ⟨#[]⟩, 0⟩)
        clear hc hr hq
        go_enter Try.func14, Try.ntmps14
        go_wp2_with fail
        refine R.mono ?_
        rintro e w1 ⟨rfl, hb⟩
        have c6 := C6.out w1 hb
        have hl := L.out w1 hb
        clear C6 L
        go_wp2_with fail
        refine (HG.out w1 hb).mono ?_
        rintro e w2 ⟨rfl, T2, v9', hd, hs⟩
        have d8 : w2.cell? ⟨p, 8, none⟩ = some V.v8 := hd.cells.cell 8
        have hpl := hd.cells.lt
        have hlen8 : ∃ ao cap, V.v8 = .slice ao D.files.length cap := by
          rcases hV.r8.2 with ⟨e, h0⟩ | ⟨g, cap, cur, e, _⟩
          · exact ⟨none, 0, by rw [e, h0]⟩
          · exact ⟨_, cap, e⟩
        obtain ⟨ao, cap8, e8⟩ := hlen8
        rw [e8] at d8
        have K := Lib.hid (fun W (hbW : Below w2.heap.size w2 W) => dwait_any (hd.below hbW) HF.out (by omega) ⟨#[]⟩ z D.files.length (by decide) hz (by omega))
        have HD := Lib.hid hd
        have HS := Lib.hid ((Step.below hb).trans hs)
        have E8 := Lib.hid e8
        clear c6 hl hd hs R hb HG e8
        go_wp2
        go_region_law ((go_simp; go_at_call 48; refine (K.out _ ((Below.refl _ w2).drew)).mono ?_; rintro e w3 ⟨rfl, T3, v5', v6', v7', hd3, hs3⟩))
        all_goals
          have tp3 : tagged T3 (some p) 1 := fun b hb => by cases hb; exact hd3.tp
          have hne3 : Hid (V.v8.ownBlock ≠ some p) := fun e => tag_ne hd3.t8 tp3 (by decide) p e rfl
          have hpl3 := hd3.cells.lt
          have d8' : w3.cell? ⟨p, 8, none⟩ = some (.slice ao D.files.length cap8) := by have := hd3.cells.cell 8; exact this.trans (by show some V.v8 = _; rw [E8.out])
          have r8 : Hid (w3.ownsRow 0 105 3 V.v8 D.files.length (filesCells D.files V.fvs)) := hd3.r8
          have c8 := Lib.hid hd3.cells
          have HD3 := Lib.hid hd3
          have HS3 := Lib.hid (HS.out.trans hs3.undrew)
          clear hd3 hs3 K HD HF d8 tp3 HS
          go_wp2_with (at_builtin; refine wpList_append_own_at _ rfl _ _ 74 rfl 0 105 i0 _ 3 48 Try.underlying74 hi hz0 hz1 hz2 rfl (by decide) V.v8 D.files.length (filesCells D.files V.fvs) (by simp [Act.eval, Act.put, E8.out]) (r8.out.alloc _) ⟨w3.heap.size, 0, none⟩ 1 1 [.string ⟨#[]⟩, .slice none 0 0, .int .i64 0] (by simp [Act.eval, Act.put]) rfl (cells_new_add w3 105 [.string ⟨#[]⟩, .slice none 0 0, .int .i64 0]) (by intro u hu; simp at hu; rcases hu with rfl | rfl | rfl <;> rfl) (by unfold maxLen; omega) (by omega) (Nat.zero_le _) ?_)
          intro v' w' ho hgr _ hbk
          have hsa : (w3.alloc (.cells #[.string ⟨#[]⟩, .slice none 0 0, .int .i64 0] 105)).heap.size = w3.heap.size + 1 := by simp
          rw [← hsa] at hbk
          obtain ⟨⟨g', cap', rfl⟩, hg', _, _, _⟩ := appended c8.out r8.out hne3.out ((Below.refl _ w3).alloc (Nat.le_refl _) _) ho hgr hbk
          have k8 : w'.cell? ⟨p, 8, none⟩ = some (.slice ao D.files.length cap8) := (hg'.cell 8).trans (by show some V.v8 = _; rw [E8.out])
          have kf8 := hg'.frozen 8
          obtain ⟨T4, hd4, hs4⟩ := HD3.out.fmore ((Below.refl _ w3).alloc (Nat.le_refl _) (.cells #[.string ⟨#[]⟩, .slice none 0 0, .int .i64 0] 105)) ho hgr hbk
          have HD4 := Lib.hid (show DiskAt (w'.setCell ⟨p, 8, none⟩ (.slice (some ⟨g', 0, none⟩) (D.files.length + 1) cap')) T4 p { didD D ⟨1, z, ⟨#[]⟩, ⟨#[]⟩, 0⟩ with waits := D.waits ++ [⟨⟨#[]⟩, z, D.files.length⟩], files := D.files ++ [newF] } from ⟨_, hd4⟩)
          have HS4 := Lib.hid (HS3.out.trans hs4)
          clear hd4 hs4 ho hgr hbk hsa hg' HD3 HS3 c8 r8
          go_wp2
          go_ret
          exact ⟨rfl, T4, HD4.out, HS4.out⟩
  · rw [hr] at R ⊢
    clear hr
    go_enter Try.func14, Try.ntmps14
    go_wp2_with fail
    refine R.mono ?_
    rintro e w1 ⟨rfl, hb⟩
    go_wp2
    go_ret
    exact ⟨rfl, T, ⟨V, hV.below hb⟩, Step.below hb⟩
  · rw [hr] at R ⊢
    clear hr
    go_enter Try.func14, Try.ntmps14
    go_wp2_with fail
    refine R.mono ?_
    rintro e w1 ⟨rfl, hb⟩
    go_wp2
    go_ret
    exact ⟨rfl, T, ⟨V, hV.below hb⟩, Step.below hb⟩
end Go.Proofs.Ytdfjkcdmbbmipaa
