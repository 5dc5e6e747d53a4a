/- Acts; what is done stays within bounds. -/
import Derived.Test.YtdfjkcdmbbmipaaYB
namespace Go.Proofs.Ytdfjkcdmbbmipaa
open Go.RowKit Go.Maps

theorem sliceNilA (w : World) : (binOp .eql 61 (.slice none 0 0) (.slice none 0 0)).run Try.prog w = .ok (.bool true) w := by kernel_rfl
theorem sliceSomeA (a : Addr) (n c : Nat) (w : World) : (binOp .eql 61 (.slice (some a) n c) (.slice none 0 0)).run Try.prog w = .ok (.bool false) w := by kernel_rfl
attribute [local go_sem] sliceNilA sliceSomeA
set_option maxRecDepth 100000 in
set_option maxHeartbeats 1000000 in
theorem clone_acts (v : Value) (l : List ActA) (w : World) (h : w.ownsRow 0 94 5 v l.length (actsCells l)) (hl : l.length ≤ 1000000) :
    Calls Try.prog 57 #[v] w fun e w' => ∃ v', e = .returned v' ∧ w'.ownsRow 0 94 5 v' l.length (actsCells l) ∧ (∀ k, v'.ownBlock = some k → w.heap.size ≤ k) ∧ (∃ ao cap, v' = .slice ao l.length cap) ∧ (v = .slice none 0 0 ↔ v' = .slice none 0 0) ∧ Below w.heap.size w w' := by
  obtain ⟨i0, hi, hz0, hz1, hz2⟩ := info_parts infoAct
  rcases h.2 with ⟨rfl, h0⟩ | ⟨g, cap, cur, rfl, _⟩
  · go_enter Try.func57, Try.ntmps57
    go_wp2
    go_ret
    exact ⟨.slice none 0 0, rfl, h, (fun k hk => by cases hk), ⟨none, 0, by rw [h0]⟩, by simp, Below.refl _ _⟩
  · have HO := Lib.hid h
    clear h
    go_enter Try.func57, Try.ntmps57
    go_wp2_with (at_builtin; refine wpList_append_own_at _ rfl _ _ 61 rfl w.heap.size 94 i0 _ 5 64 Try.underlying61 hi hz0 hz1 hz2 rfl (by decide) (.slice (some ⟨w.heap.size, 0, none⟩) 0 0) 0 [] rfl (World.ownsRow_made w #[] 0 (Nat.le_refl _) (Nat.zero_le _) rfl) ⟨g, 0, none⟩ l.length cap (actsCells l) rfl HO.out.1 (fun j u hu => ?c1) (fun u hu => ?c2) (by unfold maxLen; omega) (by omega) (by simp) ?_)
    case c1 =>
      have e : (⟨g, 0, none⟩ : Addr).add j = ⟨g, j, none⟩ := by unfold Addr.add; split <;> simp_all
      rw [e]
      have hlt : g < w.heap.size := (HO.out.lt g rfl).2
      exact (((Below.refl _ w).alloc (Nat.le_refl _) _).cell (p := ⟨g, j, none⟩) hlt).trans (row_at HO.out hu)
    case c2 =>
      have hu := hu
      unfold actsCells at hu
      rw [List.mem_flatMap] at hu
      obtain ⟨a, _, ha⟩ := hu
      simp only [ActA.cells, List.mem_cons, List.not_mem_nil, or_false] at ha
      rcases ha with rfl | rfl | rfl | rfl | rfl <;> rfl
    intro v' w' ho hgr hnil hbk
    have hbel : Below w.heap.size w w' := ((Below.refl _ w).alloc (Nat.le_refl _) _).grown hgr (by simp) (fun k hk => by cases hk; exact Nat.le_refl _)
    have ho' : w'.ownsRow 0 94 5 v' l.length (actsCells l) := by
      refine ⟨ho.1, ?_⟩
      rcases ho.2 with h | ⟨g', cap', cur', e1, _, r⟩
      · exact .inl h
      · exact .inr ⟨g', cap', cur', e1, Nat.zero_le _, r⟩
    have hge : ∀ k, v'.ownBlock = some k → w.heap.size ≤ k := fun k hk => (ho.lt k hk).1
    have hnn : v' ≠ .slice none 0 0 := hnil
    obtain ⟨ao, cap2, rfl⟩ : ∃ ao cap2, v' = .slice ao l.length cap2 := by
      rcases ho'.2 with ⟨e, _⟩ | ⟨g', cap', cur', e1, _, r⟩
      · exact absurd e hnn
      · exact ⟨_, _, e1⟩
    have P := Lib.hid (show _ ∧ _ ∧ _ ∧ _ from ⟨ho', hge, hnn, hbel⟩)
    clear ho ho' hge hnn hbel hgr hnil hbk
    go_wp2
    go_ret
    exact ⟨_, rfl, P.out.1, P.out.2.1, ⟨ao, cap2, rfl⟩, ⟨(fun e => by cases e), fun e => absurd e P.out.2.2.1⟩, P.out.2.2.2⟩
theorem acts_any {w : World} {T : Nat → Nat} {p n : Nat} {D : ADisk} (hA : DiskAt w T p D) (hf : Fine n D) (hn : n ≤ 300000) :
    Calls Try.prog 30 #[.pointer (some ⟨p, 0, none⟩)] w fun e w' => ∃ v', e = .returned v' ∧ w'.ownsRow 0 94 5 v' D.acts.length (actsCells D.acts) ∧ (∀ k, v'.ownBlock = some k → w.heap.size ≤ k) ∧ (∃ ao cap, v' = .slice ao D.acts.length cap) ∧ Below w.heap.size w w' := by
  obtain ⟨V, hV⟩ := hA
  have d9 : w.cell? ⟨p, 9, none⟩ = some V.v9 := hV.cells.cell 9
  have C := Lib.hid (clone_acts V.v9 D.acts w hV.r9 (by have := hf.nacts; omega))
  go_enter Try.func30, Try.ntmps30
  go_wp2_with fail
  refine C.out.mono ?_
  rintro e w' ⟨v', rfl, ho, hge, ⟨ao, cap, rfl⟩, _, hb⟩
  have P := Lib.hid (show _ ∧ _ ∧ _ from ⟨ho, hge, hb⟩)
  clear ho hge hb C
  go_wp2
  go_ret
  exact ⟨_, rfl, P.out.1, P.out.2.1, ⟨ao, cap, rfl⟩, P.out.2.2⟩

theorem down_fine {n : Nat} {D : ADisk} (h : Fine n D) : Fine n (downD D) := ⟨h.u0, h.u1, h.l0, h.l1, h.r0, h.r1, h.dirs, h.nfiles, h.nacts, h.files, h.changes, h.names⟩
theorem syncdir_fine {n : Nat} {D : ADisk} (h : Fine n D) : Fine (n + 1) (syncdirD D).1 := by
  unfold syncdirD
  split
  · exact h.mono (Nat.le_succ _)
  · split
    · rename_i hc
      have := dkept_fine (did_fine h hc ⟨7, ⟨#[]⟩, ⟨#[]⟩, ⟨#[]⟩, 0⟩) D.waits.length
      have e : dplay ((didD D ⟨7, ⟨#[]⟩, ⟨#[]⟩, ⟨#[]⟩, 0⟩).waits.take D.waits.length) (didD D ⟨7, ⟨#[]⟩, ⟨#[]⟩, ⟨#[]⟩, 0⟩).sure = D.seen := by
        show dplay (D.waits.take D.waits.length) D.sure = D.seen
        rw [List.take_length]; rfl
      rw [e] at this
      exact this
    · exact (down_fine h).mono (Nat.le_succ _)
theorem sync_fine {n : Nat} {D : ADisk} (h : Fine n D) (z : ByteArray) : Fine (n + 1) (syncD D z).1 := by
  unfold syncD
  split
  · exact h.mono (Nat.le_succ _)
  · split
    · rename_i hc
      have hd := did_fine h hc ⟨4, z, ⟨#[]⟩, ⟨#[]⟩, 0⟩
      refine files_fine hd (modF D.files _ _) (modF_length _ _ _) (fun f hf => ?_)
      rcases modF_mem hf with hf | ⟨y, hy, rfl⟩
      · exact hd.files f hf
      · exact keptF_ok (hd.files y hy) _
    · exact (down_fine h).mono (Nat.le_succ _)
theorem remove_fine {n : Nat} {D : ADisk} (h : Fine n D) (z : ByteArray) (hz : z.size ≤ 1000000) (hn : (asked D z []).2 = 0 → 0 < D.files.length) : Fine (n + 2) (removeD D z).1 := by
  unfold removeD
  split
  · exact h.mono (by omega)
  · split
    · rename_i h0 hc
      exact wait1_fine (did_fine h hc ⟨6, z, ⟨#[]⟩, ⟨#[]⟩, 0⟩) ⟨z, ⟨#[]⟩, 0⟩ ⟨hz, by show (0 : Nat) ≤ 1000000; omega⟩ (hn (by simpa using h0))
    · exact (down_fine h).mono (by omega)
theorem asked_lt {n : Nat} {D : ADisk} (hf : Fine n D) (z : ByteArray) (zr : List ByteArray) (h : (asked D z zr).2 = 0) : (asked D z zr).1 < D.files.length := by
  rcases asked_cases hf z zr with ⟨f, e, hl, _⟩ | e | e | e
  · rw [e]; exact hl
  · rw [e] at h; cases h
  · rw [e] at h; cases h
  · rw [e] at h; cases h
theorem rename_fine {n : Nat} {D : ADisk} (h : Fine n D) (a b : ByteArray) (ha : a.size ≤ 1000000) (hb : b.size ≤ 1000000) : Fine (n + 2) (renameD D a b).1 := by
  unfold renameD
  split
  · exact h.mono (by omega)
  · rename_i h0
    split
    · rename_i hc
      have hd := did_fine h hc ⟨5, a, b, ⟨#[]⟩, 0⟩
      dsimp only
      split
      · exact hd.mono (by omega)
      · exact wait1_fine hd ⟨a, b, (asked D a [b]).1⟩ ⟨ha, hb⟩ (asked_lt h a [b] (by simpa using h0))
    · exact (down_fine h).mono (by omega)
theorem newF_ok (n : Nat) : FileOk n newF := ⟨trivial, Nat.zero_le _, Nat.zero_le _, Nat.zero_le _, fun a ha => by cases ha⟩
theorem create_fine {n : Nat} {D : ADisk} (h : Fine n D) (z : ByteArray) (hz : z.size ≤ 1000000) : Fine (n + 2) (createD D z).1 := by
  unfold createD
  split
  · exact h.mono (by omega)
  · split
    · exact h.mono (by omega)
    · split
      · rename_i hc
        have hd := did_fine h hc ⟨1, z, ⟨#[]⟩, ⟨#[]⟩, 0⟩
        have := hd.u1
        refine ⟨hd.u0, by show D.units + 1 ≤ ((n + 2 : Nat) : Int); have : D.units + 1 ≤ ((n + 1 : Nat) : Int) := hd.u1; omega, hd.l0, hd.l1, hd.r0, hd.r1, ?_, ?_, ?_, fun f hf => ?_, fun c hc => ?_, fun x hx => ?_⟩
        · have := h.dirs; show D.sure.length + (D.waits ++ [_]).length ≤ _; simp; omega
        · have := h.nfiles; show (D.files ++ [_]).length ≤ _; simp; omega
        · have := h.nacts; show (D.acts ++ [_]).length ≤ _; simp; omega
        · rcases List.mem_append.1 hf with hf | hf
          · exact (h.files f hf).mono (by omega)
          · obtain rfl : f = newF := by simpa using hf
            exact newF_ok _
        · show _ ∧ _ ∧ c.file < (D.files ++ [newF]).length
          rw [List.length_append]
          rcases List.mem_append.1 hc with hc | hc
          · have := h.changes c hc; exact ⟨this.1, this.2.1, by omega⟩
          · obtain rfl : c = ⟨⟨#[]⟩, z, D.files.length⟩ := by simpa using hc
            exact ⟨by show (0 : Nat) ≤ 1000000; omega, hz, by show D.files.length < _; simp⟩
        · show x.2 < (D.files ++ [newF]).length
          rw [List.length_append]
          have := h.names x hx; omega
      · exact (down_fine h).mono (by omega)
theorem write_fine {n : Nat} {D : ADisk} (h : Fine n D) (z t : ByteArray) : Fine (n + 2 * t.size + 2) (writeD D z t).1 := by
  unfold writeD
  split
  · exact h.mono (by omega)
  · rename_i h0
    split
    · exact h.mono (by omega)
    · have hs := spend_fine (k := t.size) h
      obtain ⟨m, hm, hmt, _⟩ := spent_le D n t.size h
      dsimp only
      split
      · have hl := asked_lt h z [] (by simpa using h0)
        rw [hm, Int.toNat_natCast]
        have hps : (t.extract 0 m).size ≤ t.size + 1 := by rw [Lib.size_eq, extract_take, List.length_take, ← Lib.size_eq]; omega
        have hmore := more_fine (k := t.size + 1) hs (f := (asked D z []).1) hl (wroteA z t m) (.inl rfl) (fun e => by cases e) hps (by omega)
        have hmf : modF D.files (asked D z []).1 (fun f => f.more (wroteA z t m)) = (spentD D t.size).files.set (asked D z []).1 ((spentD D t.size).files[(asked D z []).1].more (wroteA z t m)) := by
          unfold modF; rw [dif_pos hl]; rfl
        rw [hmf]
        have hna := h.nacts
        have h1 := hmore.mono (m := n + 2 * t.size + 2) (by omega)
        exact ⟨h1.u0, h1.u1, h1.l0, h1.l1, h1.r0, h1.r1, h1.dirs, h1.nfiles, by show (D.acts ++ [_]).length ≤ _; simp; omega, h1.files, h1.changes, h1.names⟩
      · exact hs.mono (by omega)
end Go.Proofs.Ytdfjkcdmbbmipaa
