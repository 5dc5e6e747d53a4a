/- Texts put together: YB, YC, ZA, XA, XB, XC. -/
import Derived.WideShapes
import Derived.WideAt
import Derived.Test.YtembondddgfpcaaBvp4
set_option linter.unusedVariables false
namespace Go.Proofs.Ytembondddgfpcaa
open Go.RowKit Go.Maps
attribute [local go_sem] errV_0 errV_1 errV_3 errV_4 errV_7

theorem keptF_ok {n : Nat} {f : FileA} (h : FileOk n f) (u : Int) : FileOk n (f.kept u) := by
  have h1 := afterF_length_le f.waits u f.sure.data.toList
  have h2 := h.len
  have h3 : f.sure.data.toList.length = f.sure.size := (Lib.size_eq _).symm
  have h4 : (f.kept u).sure.size = (afterF f.waits u f.sure.data.toList).length := by rw [Lib.size_eq]; rfl
  exact ⟨trivial, by rw [h4]; show _ + 0 ≤ n; omega, Nat.zero_le _, Nat.zero_le _, fun a ha => by cases ha⟩
theorem modF_length (l : List FileA) (i : Nat) (g : FileA → FileA) : (modF l i g).length = l.length := by unfold modF; split <;> simp
theorem modF_mem {l : List FileA} {i : Nat} {g : FileA → FileA} {x : FileA} (h : x ∈ modF l i g) : x ∈ l ∨ ∃ y ∈ l, x = g y := by
  unfold modF at h
  split at h
  · rcases List.mem_or_eq_of_mem_set h with h | h
    · exact .inl h
    · exact .inr ⟨_, List.getElem_mem _, h⟩
  · exact .inl h
theorem files_fine {n : Nat} {D : ADisk} (h : Fine n D) (fs : List FileA) (hl : fs.length = D.files.length) (hm : ∀ f ∈ fs, FileOk n f) : Fine n { D with files := fs } :=
  ⟨h.u0, h.u1, h.l0, h.l1, h.r0, h.r1, h.dirs, by show fs.length ≤ n; rw [hl]; exact h.nfiles, h.nacts, hm, fun c hc => by have := h.changes c hc; exact ⟨this.1, this.2.1, by show _ < fs.length; rw [hl]; exact this.2.2⟩, fun x hx => by show _ < fs.length; rw [hl]; exact h.names x hx⟩
theorem dkept_fine {n : Nat} {D : ADisk} (h : Fine n D) (k : Nat) : Fine n { D with sure := dplay (D.waits.take k) D.sure, waits := [] } := by
  have h1 := dplay_length (D.waits.take k) D.sure
  have h2 := h.dirs
  refine ⟨h.u0, h.u1, h.l0, h.l1, h.r0, h.r1, ?_, h.nfiles, h.nacts, h.files, (fun c hc => by cases hc), fun x hx => ?_⟩
  · show (dplay (D.waits.take k) D.sure).length + 0 ≤ n
    rw [List.length_take] at h1; omega
  · rcases dplay_mem hx with hx | ⟨c, hc, e⟩
    · exact h.names x hx
    · rw [e]; exact (h.changes c (List.mem_of_mem_take hc)).2.2
def crashTo (fs : List FileA) (ks : List Int) : Nat → List FileA
  | 0 => fs
  | k + 1 => modF (crashTo fs ks k) k fun f => f.kept (ks.getD k 0)
theorem crashTo_length (fs : List FileA) (ks : List Int) : ∀ k, (crashTo fs ks k).length = fs.length
  | 0 => rfl
  | k + 1 => by unfold crashTo; rw [modF_length, crashTo_length fs ks k]
theorem crashTo_ok {n : Nat} (fs : List FileA) (ks : List Int) (h : ∀ f ∈ fs, FileOk n f) : ∀ k, ∀ f ∈ crashTo fs ks k, FileOk n f
  | 0, f, hf => h f hf
  | k + 1, f, hf => by
    unfold crashTo at hf
    rcases modF_mem hf with hf | ⟨y, hy, rfl⟩
    · exact crashTo_ok fs ks h k f hf
    · exact keptF_ok (crashTo_ok fs ks h k y hy) _
def crashD (D : ADisk) (m : Int) (ks : List Int) : ADisk :=
  { D with sure := dplay (D.waits.take (keptN m D.waits.length)) D.sure, waits := [], files := crashTo D.files ks D.files.length, armed := false, left := 0, gone := false }
theorem crash_fine {n : Nat} {D : ADisk} (h : Fine n D) (m : Int) (ks : List Int) : Fine n (crashD D m ks) := by
  have h1 := files_fine (dkept_fine h (keptN m D.waits.length)) (crashTo D.files ks D.files.length) (crashTo_length _ _ _) (crashTo_ok _ _ h.files _)
  exact ⟨h1.u0, h1.u1, by show (0 : Int) ≤ 0; decide, by show (0 : Int) ≤ 9223372036854775807; decide, h1.r0, h1.r1, h1.dirs, h1.nfiles, h1.nacts, h1.files, h1.changes, h1.names⟩

set_option maxRecDepth 100000 in
set_option maxHeartbeats 4000000 in
theorem crash_any {w : World} {T : Nat → Nat} {p n : Nat} {D : ADisk} (hA : DiskAt w T p D) (hf : Fine n D) (hn : n ≤ 300000) (m : Int) (hw : (Lit.int .i64 m).wf = true) (ks : List Int) (ao : Option Addr) (ad : Addr) (cap : Nat) (hao : 0 < ks.length → ao = some ad)
    (hd : ∀ w', Only (fun r => T r ≠ 0) w w' → ∀ j (h : j < ks.length), w'.cell? (ad.add j) = some (.int .i64 ks[j])) (hks : ∀ k ∈ ks, (Lit.int .i64 k).wf = true) (hkl : ks.length ≤ 1000000) :
    Calls Try.prog 12 #[.pointer (some ⟨p, 0, none⟩), .int .i64 m, .slice ao ks.length cap] w fun e w' => e = .returned (.tuple #[]) ∧ ∃ T', DiskAt w' T' p (crashD D m ks) ∧ Step w T w' T' := by
  obtain ⟨V, hV⟩ := hA
  have K0 := dkeep_any hV hf (by omega) m hw
  have F1 := Lib.hid (dkept_fine hf (keptN m D.waits.length))
  have FS := Lib.hid hf.files
  have hnf := hf.nfiles
  have HDT := Lib.hid hd
  have HK := Lib.hid hks
  have HAO := Lib.hid hao
  have e8 : ∃ ao8 cap8, V.v8 = .slice ao8 D.files.length cap8 := by
    rcases hV.r8.2 with ⟨e, h0⟩ | ⟨g, cap, cur, e, _⟩
    · exact ⟨none, 0, by rw [e, h0]⟩
    · exact ⟨_, cap, e⟩
  obtain ⟨ao8, cap8, e8⟩ := e8
  have E8 := Lib.hid e8
  clear hd hks hao e8
  go_enter Try.func12, Try.ntmps12
  go_wp2_with fail
  refine K0.mono ?_
  rintro e w1 ⟨rfl, T1, v6', hd1, hs1⟩
  have d8 : w1.cell? ⟨p, 8, none⟩ = some (.slice ao8 D.files.length cap8) := by have := hd1.cells.cell 8; exact this.trans (by show some V.v8 = _; rw [E8.out])
  have D1 := Lib.hid hd1
  have S1 := Lib.hid hs1
  clear hd1 hs1 K0
  go_wp2
  go_loopw [20] (fun i wr => ∃ (k : Nat) (T' : Nat → Nat) (V' : Vals), k ≤ D.files.length ∧ i = .int .i64 k ∧ DiskV wr T' p { D with sure := dplay (D.waits.take (keptN m D.waits.length)) D.sure, waits := [], files := crashTo D.files ks k } V' ∧ Step w T wr T' ∧ V'.v8 = V.v8) (fun i _ => D.files.length - (intOf i).toNat)
  case atStart => exact ⟨0, T1, _, Nat.zero_le _, rfl, D1.out, S1.out, rfl⟩
  case round =>
    obtain ⟨k, T', V', hk, rfl, hdk, hsk, h8k⟩ := hrel
    by_cases hlt : k < D.files.length
    · have hcl := crashTo_length D.files ks k
      have hlt2 : k < (crashTo D.files ks k).length := by omega
      have fine2 := files_fine F1.out (crashTo D.files ks k) hcl (crashTo_ok _ _ FS.out _)
      obtain ⟨g, cap', cur, e8', _, _, _, _, _, _, _⟩ := hdk.file (i := k) hlt2
      have e8'' : V'.v8 = .slice (some ⟨g, 0, none⟩) D.files.length cap' := by rw [e8']; exact congrArg (fun x => Value.slice _ x _) hcl
      have d8k : wr.cell? ⟨p, 8, none⟩ = some (.slice (some ⟨g, 0, none⟩) D.files.length cap') := by have := hdk.cells.cell 8; exact this.trans (by show some V'.v8 = _; rw [e8''])
      have hpk := hdk.cells.lt
      by_cases hkd : k < ks.length
      · have hwk := HK.out ks[k] (List.getElem_mem hkd)
        have hcd := HDT.out wr hsk.only k hkd
        obtain rfl := HAO.out (by omega)
        have hg : ks.getD k 0 = ks[k] := by rw [List.getD_eq_getElem?_getD, List.getElem?_eq_getElem hkd]; rfl
        have KK := fkeep_disk hdk fine2 (by omega) hlt2 e8'' ks[k] hwk
        have HKK := Lib.hid KK
        have HS := Lib.hid hsk
        have HG := Lib.hid hg
        have H8 := Lib.hid h8k
        have HC := Lib.hid hcl
        generalize ks[k] = u at *
        clear KK hsk hg h8k e8' e8'' hwk
        go_wp2_with fail
        refine HKK.out.mono ?_
        rintro e w2 ⟨rfl, T2, V2, hd2, hs2, h82⟩
        have P := Lib.hid (show DiskV w2 T2 p { D with sure := dplay (D.waits.take (keptN m D.waits.length)) D.sure, waits := [], files := crashTo D.files ks (k + 1) } V2 ∧ Step w T w2 T2 ∧ V2.v8 = V.v8 from ⟨by
          have : crashTo D.files ks (k + 1) = (crashTo D.files ks k).set k ((crashTo D.files ks k)[k].kept u) := by
            show modF _ _ _ = _; unfold modF; rw [dif_pos hlt2, HG.out]
          rw [this]; exact hd2, HS.out.trans hs2, h82.trans H8.out⟩)
        clear hd2 hs2 h82 HKK
        go_wp2
        go_roundw
        case rel => exact ⟨k + 1, T2, V2, by omega, by go_num, P.out⟩
        case measure => simp [intOf]; omega
      · have hg : ks.getD k 0 = 0 := by rw [List.getD_eq_getElem?_getD, List.getElem?_eq_none (by omega)]; rfl
        have KK := fkeep_disk hdk fine2 (by omega) hlt2 e8'' 0 (by decide)
        have HKK := Lib.hid KK
        have HS := Lib.hid hsk
        have HG := Lib.hid hg
        have H8 := Lib.hid h8k
        have HC := Lib.hid hcl
        clear KK hsk hg h8k e8' e8''
        go_wp2_with fail
        refine HKK.out.mono ?_
        rintro e w2 ⟨rfl, T2, V2, hd2, hs2, h82⟩
        have P := Lib.hid (show DiskV w2 T2 p { D with sure := dplay (D.waits.take (keptN m D.waits.length)) D.sure, waits := [], files := crashTo D.files ks (k + 1) } V2 ∧ Step w T w2 T2 ∧ V2.v8 = V.v8 from ⟨by
          have : crashTo D.files ks (k + 1) = (crashTo D.files ks k).set k ((crashTo D.files ks k)[k].kept 0) := by
            show modF _ _ _ = _; unfold modF; rw [dif_pos hlt2, HG.out]
          rw [this]; exact hd2, HS.out.trans hs2, h82.trans H8.out⟩)
        clear hd2 hs2 h82 HKK
        go_wp2
        go_roundw
        case rel => exact ⟨k + 1, T2, V2, by omega, by go_num, P.out⟩
        case measure => simp [intOf]; omega
    · obtain rfl : k = D.files.length := by omega
      have c0 : wr.cell? ⟨p, 0, none⟩ = some (.int .i64 D.units) := hdk.cells.cell 0
      have c1 : wr.cell? ⟨p, 1, none⟩ = some (.bool D.armed) := hdk.cells.cell 1
      have c2 : wr.cell? ⟨p, 2, none⟩ = some (.int .i64 D.left) := hdk.cells.cell 2
      have c3 : wr.cell? ⟨p, 3, none⟩ = some (.bool D.gone) := hdk.cells.cell 3
      have f0 := hdk.cells.frozen 0
      have f1 := hdk.cells.frozen 1
      have f2 := hdk.cells.frozen 2
      have f3 := hdk.cells.frozen 3
      have hc4 := (((hdk.cells.set 0 (.int .i64 D.units)).set 1 (.bool false)).set 2 (.int .i64 0)).set 3 (.bool false)
      have P := Lib.hid (show DiskV ((((wr.setCell ⟨p, 0, none⟩ (.int .i64 D.units)).setCell ⟨p, 1, none⟩ (.bool false)).setCell ⟨p, 2, none⟩ (.int .i64 0)).setCell ⟨p, 3, none⟩ (.bool false)) T' p (crashD D m ks) V' from
        hdk.power (by simpa [diskCells, crashD] using hc4) (((((Only.refl (· = p) wr).cellS 0 _).cellS 1 _).cellS 2 _).cellS 3 _) rfl rfl rfl rfl)
      have S := Lib.hid (hsk.trans (step_p hdk.tp (((((Only.refl (· = p) wr).cellS 0 (.int .i64 D.units)).cellS 1 (.bool false)).cellS 2 (.int .i64 0)).cellS 3 (.bool false))))
      clear hc4 hdk hsk h8k
      go_wp2

      go_end0
      exact ⟨rfl, T', ⟨V', P.out⟩, S.out⟩
end Go.Proofs.Ytembondddgfpcaa

namespace Go.Proofs.Ytembondddgfpcaa
open Go.RowKit Go.Maps

theorem sliceNilA (w : World) : (binOp .eql 60 (.slice none 0 0) (.slice none 0 0)).run Try.prog w = .ok (.bool true) w := by kernel_rfl
theorem sliceSomeA (a : Addr) (n c : Nat) (w : World) : (binOp .eql 60 (.slice (some a) n c) (.slice none 0 0)).run Try.prog w = .ok (.bool false) w := by kernel_rfl
attribute [local go_sem] sliceNilA sliceSomeA
set_option maxRecDepth 100000 in
set_option maxHeartbeats 1000000 in
theorem clone_acts (v : Value) (l : List ActA) (w : World) (h : w.ownsRow 0 89 5 v l.length (actsCells l)) (hl : l.length ≤ 1000000) :
    Calls Try.prog 44 #[v] w fun e w' => ∃ v', e = .returned v' ∧ w'.ownsRow 0 89 5 v' l.length (actsCells l) ∧ (∀ k, v'.ownBlock = some k → w.heap.size ≤ k) ∧ (∃ ao cap, v' = .slice ao l.length cap) ∧ (v = .slice none 0 0 ↔ v' = .slice none 0 0) ∧ Below w.heap.size w w' := by
  obtain ⟨i0, hi, hz0, hz1, hz2⟩ := info_parts infoAct
  rcases h.2 with ⟨rfl, h0⟩ | ⟨g, cap, cur, rfl, _⟩
  · go_enter Try.func44, Try.ntmps44
    go_wp2
    go_ret
    exact ⟨.slice none 0 0, rfl, h, (fun k hk => by cases hk), ⟨none, 0, by rw [h0]⟩, by simp, Below.refl _ _⟩
  · have HO := Lib.hid h
    clear h
    go_enter Try.func44, Try.ntmps44
    go_wp2_with (at_builtin; refine wpList_append_own_at _ rfl _ _ 60 rfl w.heap.size 89 i0 _ 5 64 Try.underlying60 hi hz0 hz1 hz2 rfl (by decide) (.slice (some ⟨w.heap.size, 0, none⟩) 0 0) 0 [] rfl (World.ownsRow_made w #[] 0 (Nat.le_refl _) (Nat.zero_le _) rfl) ⟨g, 0, none⟩ l.length cap (actsCells l) rfl HO.out.1 (fun j u hu => ?c1) (fun u hu => ?c2) (by unfold maxLen; omega) (by omega) (by simp) ?_)
    case c1 =>
      have e : (⟨g, 0, none⟩ : Addr).add j = ⟨g, j, none⟩ := by unfold Addr.add; split <;> simp_all
      rw [e]
      have hlt : g < w.heap.size := (HO.out.lt g rfl).2
      exact (((Below.refl _ w).alloc (Nat.le_refl _) _).cell (p := ⟨g, j, none⟩) hlt).trans (row_at HO.out hu)
    case c2 =>
      have hu := hu
      unfold actsCells at hu
      rw [List.mem_flatMap] at hu
      obtain ⟨a, _, ha⟩ := hu
      simp only [ActA.cells, List.mem_cons, List.not_mem_nil, or_false] at ha
      rcases ha with rfl | rfl | rfl | rfl | rfl <;> rfl
    intro v' w' ho hgr hnil hbk
    have hbel : Below w.heap.size w w' := ((Below.refl _ w).alloc (Nat.le_refl _) _).grown hgr (by simp) (fun k hk => by cases hk; exact Nat.le_refl _)
    have ho' : w'.ownsRow 0 89 5 v' l.length (actsCells l) := by
      refine ⟨ho.1, ?_⟩
      rcases ho.2 with h | ⟨g', cap', cur', e1, _, r⟩
      · exact .inl h
      · exact .inr ⟨g', cap', cur', e1, Nat.zero_le _, r⟩
    have hge : ∀ k, v'.ownBlock = some k → w.heap.size ≤ k := fun k hk => (ho.lt k hk).1
    have hnn : v' ≠ .slice none 0 0 := hnil
    obtain ⟨ao, cap2, rfl⟩ : ∃ ao cap2, v' = .slice ao l.length cap2 := by
      rcases ho'.2 with ⟨e, _⟩ | ⟨g', cap', cur', e1, _, r⟩
      · exact absurd e hnn
      · exact ⟨_, _, e1⟩
    have P := Lib.hid (show _ ∧ _ ∧ _ ∧ _ from ⟨ho', hge, hnn, hbel⟩)
    clear ho ho' hge hnn hbel hgr hnil hbk
    go_wp2
    go_ret
    exact ⟨_, rfl, P.out.1, P.out.2.1, ⟨ao, cap2, rfl⟩, ⟨(fun e => by cases e), fun e => absurd e P.out.2.2.1⟩, P.out.2.2.2⟩
theorem acts_any {w : World} {T : Nat → Nat} {p n : Nat} {D : ADisk} (hA : DiskAt w T p D) (hf : Fine n D) (hn : n ≤ 300000) :
    Calls Try.prog 27 #[.pointer (some ⟨p, 0, none⟩)] w fun e w' => ∃ v', e = .returned v' ∧ w'.ownsRow 0 89 5 v' D.acts.length (actsCells D.acts) ∧ (∀ k, v'.ownBlock = some k → w.heap.size ≤ k) ∧ (∃ ao cap, v' = .slice ao D.acts.length cap) ∧ Below w.heap.size w w' := by
  obtain ⟨V, hV⟩ := hA
  have d9 : w.cell? ⟨p, 9, none⟩ = some V.v9 := hV.cells.cell 9
  have C := Lib.hid (clone_acts V.v9 D.acts w hV.r9 (by have := hf.nacts; omega))
  go_enter Try.func27, Try.ntmps27
  go_wp2_with fail
  refine C.out.mono ?_
  rintro e w' ⟨v', rfl, ho, hge, ⟨ao, cap, rfl⟩, _, hb⟩
  have P := Lib.hid (show _ ∧ _ ∧ _ from ⟨ho, hge, hb⟩)
  clear ho hge hb C
  go_wp2
  go_ret
  exact ⟨_, rfl, P.out.1, P.out.2.1, ⟨ao, cap, rfl⟩, P.out.2.2⟩

theorem down_fine {n : Nat} {D : ADisk} (h : Fine n D) : Fine n (downD D) := ⟨h.u0, h.u1, h.l0, h.l1, h.r0, h.r1, h.dirs, h.nfiles, h.nacts, h.files, h.changes, h.names⟩
theorem syncdir_fine {n : Nat} {D : ADisk} (h : Fine n D) : Fine (n + 1) (syncdirD D).1 := by
  unfold syncdirD
  split
  · exact h.mono (Nat.le_succ _)
  · split
    · rename_i hc
      have := dkept_fine (did_fine h hc ⟨7, ⟨#[]⟩, ⟨#[]⟩, ⟨#[]⟩, 0⟩) D.waits.length
      have e : dplay ((didD D ⟨7, ⟨#[]⟩, ⟨#[]⟩, ⟨#[]⟩, 0⟩).waits.take D.waits.length) (didD D ⟨7, ⟨#[]⟩, ⟨#[]⟩, ⟨#[]⟩, 0⟩).sure = D.seen := by
        show dplay (D.waits.take D.waits.length) D.sure = D.seen
        rw [List.take_length]; rfl
      rw [e] at this
      exact this
    · exact (down_fine h).mono (Nat.le_succ _)
theorem sync_fine {n : Nat} {D : ADisk} (h : Fine n D) (z : ByteArray) : Fine (n + 1) (syncD D z).1 := by
  unfold syncD
  split
  · exact h.mono (Nat.le_succ _)
  · split
    · rename_i hc
      have hd := did_fine h hc ⟨4, z, ⟨#[]⟩, ⟨#[]⟩, 0⟩
      refine files_fine hd (modF D.files _ _) (modF_length _ _ _) (fun f hf => ?_)
      rcases modF_mem hf with hf | ⟨y, hy, rfl⟩
      · exact hd.files f hf
      · exact keptF_ok (hd.files y hy) _
    · exact (down_fine h).mono (Nat.le_succ _)
theorem remove_fine {n : Nat} {D : ADisk} (h : Fine n D) (z : ByteArray) (hz : z.size ≤ 1000000) (hn : (asked D z []).2 = 0 → 0 < D.files.length) : Fine (n + 2) (removeD D z).1 := by
  unfold removeD
  split
  · exact h.mono (by omega)
  · split
    · rename_i h0 hc
      exact wait1_fine (did_fine h hc ⟨6, z, ⟨#[]⟩, ⟨#[]⟩, 0⟩) ⟨z, ⟨#[]⟩, 0⟩ ⟨hz, by show (0 : Nat) ≤ 1000000; omega⟩ (hn (by simpa using h0))
    · exact (down_fine h).mono (by omega)
theorem asked_lt {n : Nat} {D : ADisk} (hf : Fine n D) (z : ByteArray) (zr : List ByteArray) (h : (asked D z zr).2 = 0) : (asked D z zr).1 < D.files.length := by
  rcases asked_cases hf z zr with ⟨f, e, hl, _⟩ | e | e | e
  · rw [e]; exact hl
  · rw [e] at h; cases h
  · rw [e] at h; cases h
  · rw [e] at h; cases h
theorem rename_fine {n : Nat} {D : ADisk} (h : Fine n D) (a b : ByteArray) (ha : a.size ≤ 1000000) (hb : b.size ≤ 1000000) : Fine (n + 2) (renameD D a b).1 := by
  unfold renameD
  split
  · exact h.mono (by omega)
  · rename_i h0
    split
    · rename_i hc
      have hd := did_fine h hc ⟨5, a, b, ⟨#[]⟩, 0⟩
      dsimp only
      split
      · exact hd.mono (by omega)
      · exact wait1_fine hd ⟨a, b, (asked D a [b]).1⟩ ⟨ha, hb⟩ (asked_lt h a [b] (by simpa using h0))
    · exact (down_fine h).mono (by omega)
theorem newF_ok (n : Nat) : FileOk n newF := ⟨trivial, Nat.zero_le _, Nat.zero_le _, Nat.zero_le _, fun a ha => by cases ha⟩
theorem create_fine {n : Nat} {D : ADisk} (h : Fine n D) (z : ByteArray) (hz : z.size ≤ 1000000) : Fine (n + 2) (createD D z).1 := by
  unfold createD
  split
  · exact h.mono (by omega)
  · split
    · exact h.mono (by omega)
    · split
      · rename_i hc
        have hd := did_fine h hc ⟨1, z, ⟨#[]⟩, ⟨#[]⟩, 0⟩
        have := hd.u1
        refine ⟨hd.u0, by show D.units + 1 ≤ ((n + 2 : Nat) : Int); have : D.units + 1 ≤ ((n + 1 : Nat) : Int) := hd.u1; omega, hd.l0, hd.l1, hd.r0, hd.r1, ?_, ?_, ?_, fun f hf => ?_, fun c hc => ?_, fun x hx => ?_⟩
        · have := h.dirs; show D.sure.length + (D.waits ++ [_]).length ≤ _; simp; omega
        · have := h.nfiles; show (D.files ++ [_]).length ≤ _; simp; omega
        · have := h.nacts; show (D.acts ++ [_]).length ≤ _; simp; omega
        · rcases List.mem_append.1 hf with hf | hf
          · exact (h.files f hf).mono (by omega)
          · obtain rfl : f = newF := by simpa using hf
            exact newF_ok _
        · show _ ∧ _ ∧ c.file < (D.files ++ [newF]).length
          rw [List.length_append]
          rcases List.mem_append.1 hc with hc | hc
          · have := h.changes c hc; exact ⟨this.1, this.2.1, by omega⟩
          · obtain rfl : c = ⟨⟨#[]⟩, z, D.files.length⟩ := by simpa using hc
            exact ⟨by show (0 : Nat) ≤ 1000000; omega, hz, by show D.files.length < _; simp⟩
        · show x.2 < (D.files ++ [newF]).length
          rw [List.length_append]
          have := h.names x hx; omega
      · exact (down_fine h).mono (by omega)
theorem write_fine {n : Nat} {D : ADisk} (h : Fine n D) (z t : ByteArray) : Fine (n + 2 * t.size + 2) (writeD D z t).1 := by
  unfold writeD
  split
  · exact h.mono (by omega)
  · rename_i h0
    split
    · exact h.mono (by omega)
    · have hs := spend_fine (k := t.size) h
      obtain ⟨m, hm, hmt, _⟩ := spent_le D n t.size h
      dsimp only
      split
      · have hl := asked_lt h z [] (by simpa using h0)
        rw [hm, Int.toNat_natCast]
        have hps : (t.extract 0 m).size ≤ t.size + 1 := by rw [Lib.size_eq, extract_take, List.length_take, ← Lib.size_eq]; omega
        have hmore := more_fine (k := t.size + 1) hs (f := (asked D z []).1) hl (wroteA z t m) (.inl rfl) (fun e => by cases e) hps (by omega)
        have hmf : modF D.files (asked D z []).1 (fun f => f.more (wroteA z t m)) = (spentD D t.size).files.set (asked D z []).1 ((spentD D t.size).files[(asked D z []).1].more (wroteA z t m)) := by
          unfold modF; rw [dif_pos hl]; rfl
        rw [hmf]
        have hna := h.nacts
        have h1 := hmore.mono (m := n + 2 * t.size + 2) (by omega)
        exact ⟨h1.u0, h1.u1, h1.l0, h1.l1, h1.r0, h1.r1, h1.dirs, h1.nfiles, by show (D.acts ++ [_]).length ≤ _; simp; omega, h1.files, h1.changes, h1.names⟩
      · exact hs.mono (by omega)
end Go.Proofs.Ytembondddgfpcaa

namespace Go.Proofs.Ytembondddgfpcaa
open Go.RowKit Go.Maps
attribute [local go_sem] errV_0 errV_1 errV_3 errV_7

def cutA (z : ByteArray) (m : Nat) : ActA := ⟨3, z, ⟨#[]⟩, ⟨#[]⟩, m⟩
def seenSize (D : ADisk) (f : Nat) : Nat := sizeAt D.files f
def cutD (D : ADisk) (z : ByteArray) (k : Int) : ADisk × Nat :=
  if (asked D z []).2 ≠ 0 then (D, (asked D z []).2) else if k < 0 ∨ (seenSize D (asked D z []).1 : Int) < k then (D, 1)
  else if canDo D then ({ didD D (cutA z k.toNat) with files := modF D.files (asked D z []).1 fun f => f.more (cutA z k.toNat) }, 0) else (downD D, 3)
set_option maxRecDepth 100000 in
set_option maxHeartbeats 4000000 in
theorem cut_any {w : World} {T : Nat → Nat} {p n : Nat} {D : ADisk} (hA : DiskAt w T p D) (hf : Fine n D) (hn : n ≤ 400000) (z : ByteArray) (hz : z.size ≤ 1000000) (k : Int) (hk1 : -9223372036854775808 ≤ k) (hk2 : k ≤ 9223372036854775807) :
    Calls Try.prog 17 #[.pointer (some ⟨p, 0, none⟩), .string z, .int .i64 k] w fun e w' => e = .returned (errV (cutD D z k).2) ∧ ∃ T', DiskAt w' T' p (cutD D z k).1 ∧ Step w T w' T' := by
  obtain ⟨V, hV⟩ := hA
  have R := find_disk (n := n) hV z [] 1 ((Below.refl _ w).alloc (Nat.le_refl _) (.cells #[.string z] 9)) (by simp) (row1 w z _) (by simpa using hz) (by simp)
  have e0 : findR (readyE D.gone [z]) (dget D.seen z.data.toList) = asked D z [] := rfl
  rw [e0] at R
  unfold cutD
  rcases asked_cases hf z [] with ⟨f, ha, hfl, _, _⟩ | ha
  · rw [ha] at R ⊢
    dsimp only at R ⊢
    obtain ⟨g, cap, cur, e8, _, _, _, _, _, tg, hfa⟩ := hV.file (i := f) hfl
    have d8 : w.cell? ⟨p, 8, none⟩ = some (.slice (some ⟨g, 0, none⟩) D.files.length cap) := by have := hV.cells.cell 8; rw [e8] at this; exact this
    have hsz : seenSize D f = D.files[f].seen.length := by unfold seenSize sizeAt; rw [List.getElem?_eq_getElem hfl]
    have hgl : g < w.heap.size := hV.low g (by omega)
    have hpl := hV.cells.lt
    have D8 := Lib.hid (fun w1 (hb : Below w.heap.size w w1) => show w1.cell? ⟨p, 8, none⟩ = some (.slice (some ⟨g, 0, none⟩) D.files.length cap) from (hb.cell (p := ⟨p, 8, none⟩) hpl).trans d8)
    have C2 := Lib.hid (fun w1 (hb : Below w.heap.size w w1) => show w1.cell? ⟨g, f * 3 + 2, none⟩ = some (.int .i64 (D.files[f].seen.length : Nat)) from (hb.cell (p := ⟨g, f * 3 + 2, none⟩) hgl).trans hfa.c2)
    have PL := Lib.hid (fun w1 (hb : Below w.heap.size w w1) => Nat.lt_of_lt_of_le hpl hb.size)
    have GL := Lib.hid (fun w1 (hb : Below w.heap.size w w1) => Nat.lt_of_lt_of_le hgl hb.size)
    have hnf := hf.nfiles
    have hlen : D.files[f].seen.length ≤ 1000000 := by
      have ok := hf.files _ (List.getElem_mem hfl)
      have hsl : D.files[f].sure.data.toList.length = D.files[f].sure.size := (Lib.size_eq _).symm
      have := seenL_length_le D.files[f].waits D.files[f].sure.data.toList
      have := ok.len; unfold FileA.seen; omega
    rw [if_neg (by simp), hsz]
    by_cases hbad : k < 0 ∨ ((D.files[f].seen.length : Nat) : Int) < k
    · rw [if_pos hbad]
      have HV := Lib.hid hV
      clear hfa d8 e0 ha hV e8
      generalize D.files[f].seen.length = sz at *
      rcases (show k < 0 ∨ (0 ≤ k ∧ (sz : Int) < k) by omega) with hb1 | ⟨hb1, hb2⟩
      · have d1 : decide (k < 0) = true := decide_eq_true hb1
        go_enter Try.func17, Try.ntmps17
        go_wp2_with fail
        refine R.mono ?_
        rintro e w1 ⟨rfl, hb⟩
        have q8 := D8.out w1 hb; have q2 := C2.out w1 hb; have qp := PL.out w1 hb; have qg := GL.out w1 hb
        go_wp2
        go_ret
        exact ⟨rfl, T, ⟨V, HV.out.below hb⟩, Step.below hb⟩
      · have d1 : decide (k < 0) = false := decide_eq_false (by omega)
        have d2 : decide ((sz : Int) < k) = true := decide_eq_true hb2
        go_enter Try.func17, Try.ntmps17
        go_wp2_with fail
        refine R.mono ?_
        rintro e w1 ⟨rfl, hb⟩
        have q8 := D8.out w1 hb; have q2 := C2.out w1 hb; have qp := PL.out w1 hb; have qg := GL.out w1 hb
        go_wp2
        go_ret
        exact ⟨rfl, T, ⟨V, HV.out.below hb⟩, Step.below hb⟩
    · rw [if_neg hbad]
      obtain ⟨m, rfl⟩ : ∃ m : Nat, k = (m : Int) := ⟨k.toNat, by omega⟩
      rw [Int.toNat_natCast]
      have hml : m ≤ D.files[f].seen.length := by omega
      have d1 : decide ((m : Int) < 0) = false := decide_eq_false (by omega)
      have d2 : decide (((D.files[f].seen.length : Nat) : Int) < (m : Int)) = false := decide_eq_false (by omega)
      have EA : cutA z m = ⟨3, z, ⟨#[]⟩, ⟨#[]⟩, m⟩ := rfl
      rw [EA]
      cases hc : canDo D
      · have HG := Lib.hid (fun w1 (hb : Below w.heap.size w w1) => do_no (hV.below hb) hf (by omega) hc (kind := 3) (at_ := m) (name := z) (other := ⟨#[]⟩) (bytes := ⟨#[]⟩))
        clear hc ha e0 hV hfa d8 e8 hbad EA hsz
        have hml0 : m ≤ 1000000 := by omega
        generalize D.files[f].seen.length = sz at *
        go_enter Try.func17, Try.ntmps17
        go_wp2_with fail
        refine R.mono ?_
        rintro e w1 ⟨rfl, hb⟩
        have q8 := D8.out w1 hb; have q2 := C2.out w1 hb; have qp := PL.out w1 hb; have qg := GL.out w1 hb
        have hba : Below w.heap.size w (w1.alloc (.cells #[.int .i64 3, .string z, .string ⟨#[]⟩, .string ⟨#[]⟩, .int .i64 m] 89)) := hb.alloc hb.size _
        go_wp2_with fail
        refine (HG.out _ hba).mono ?_
        rintro e w2 ⟨rfl, hd, hs⟩
        have F := Lib.hid (show DiskV w2 T p (downD D) V ∧ Step w T w2 T from ⟨hd, (Step.below hba).trans hs⟩)
        clear hd hs hba HG hb D8 C2 PL GL q8 q2
        go_wp2
        go_ret
        exact ⟨rfl, T, ⟨V, F.out.1⟩, F.out.2⟩
      · have HG := Lib.hid (fun w1 (hb : Below w.heap.size w w1) => do_yes (hV.below hb) hf (by omega) hc (kind := 3) (at_ := m) (name := z) (other := ⟨#[]⟩) (bytes := ⟨#[]⟩))
        have HF := Lib.hid (did_fine hf hc ⟨3, z, ⟨#[]⟩, ⟨#[]⟩, m⟩)
        have HML := Lib.hid hml
        have LOW := Lib.hid hV.low
        clear hc ha e0 hV hfa d8 hbad EA hsz
        have hml0 : m ≤ 1000000 := by have := HML.out; omega
        generalize hgs : D.files[f].seen.length = sz at d2 C2 hlen hml
        have HGS := Lib.hid hgs
        clear hgs
        go_enter Try.func17, Try.ntmps17
        go_wp2_with fail
        refine R.mono ?_
        rintro e w1 ⟨rfl, hb⟩
        have q8 := D8.out w1 hb; have q2 := C2.out w1 hb; have qp := PL.out w1 hb; have qg := GL.out w1 hb
        have hba : Below w.heap.size w (w1.alloc (.cells #[.int .i64 3, .string z, .string ⟨#[]⟩, .string ⟨#[]⟩, .int .i64 m] 89)) := hb.alloc hb.size _
        have NB := Lib.hid (Cells.new w1 89 #[.int .i64 3, .string z, .string ⟨#[]⟩, .string ⟨#[]⟩, .int .i64 m])
        have HBS := Lib.hid hb.size
        go_wp2_with fail
        refine (HG.out _ hba).mono ?_
        rintro e w2 ⟨rfl, T2, v9', hd, hs⟩
        have bx : Cells w2 w1.heap.size 89 #[.int .i64 3, .string z, .string ⟨#[]⟩, .string ⟨#[]⟩, .int .i64 m] :=
          NB.out.only hs.only (fun h => by have := LOW.out _ h; have := HBS.out; omega)
        have b0 := bx.cell 0; have b1 := bx.cell 1; have b2 := bx.cell 2; have b3 := bx.cell 3; have b4 := bx.cell 4
        simp at b0 b1 b2 b3 b4
        have hbl := bx.lt
        have p8 : w2.cell? ⟨p, 8, none⟩ = some (.slice (some ⟨g, 0, none⟩) D.files.length cap) := by have := hd.cells.cell 8; dsimp only at this; rw [e8] at this; exact this
        have pp := hd.cells.lt
        have K := Lib.hid (fun W (hbW : Below w2.heap.size w2 W) => fwait_disk (hd.below hbW) HF.out (by omega) hfl e8 ⟨3, z, ⟨#[]⟩, ⟨#[]⟩, m⟩ (.inr rfl) (fun _ => HML.out) (Nat.zero_le _))
        have HS := Lib.hid ((Step.below hba).trans hs)
        clear hd hs hba HG hb D8 C2 PL GL q8 q2 bx NB HBS LOW R
        go_wp2
        go_region_law ((go_simp; go_at_call 53; refine (K.out _ ((Below.refl _ w2).drew)).mono ?_; rintro e w4 ⟨rfl, T4, V4, hd4, hs4⟩))
        all_goals
          have HD4 := Lib.hid hd4
          have HS4 := Lib.hid (HS.out.trans hs4.undrew)
          clear hd4 hs4 K HS
          go_wp2
          go_ret
          exact ⟨rfl, T4, ⟨V4, by unfold modF; rw [dif_pos hfl]; exact HD4.out⟩, HS4.out⟩
  · rcases ha with ha | ha | ha
    all_goals
      rw [ha] at R ⊢
      dsimp only at R ⊢
      clear ha e0
      go_enter Try.func17, Try.ntmps17
      go_wp2_with fail
      refine R.mono ?_
      rintro e w1 ⟨rfl, hb⟩
      go_wp2
      go_ret
      exact ⟨rfl, T, ⟨V, hV.below hb⟩, Step.below hb⟩
end Go.Proofs.Ytembondddgfpcaa

namespace Go.Proofs.Ytembondddgfpcaa

/-- What waits of a file: a byte, or a cut. -/
structure WaitM where
  b : UInt8
  at_ : Nat
  cut : Bool
def stepM (s : List UInt8) (x : WaitM) : List UInt8 := if x.cut then s.take x.at_ else s ++ [x.b]
def byteM (b : UInt8) : WaitM := ⟨b, 0, false⟩
def waitsOf (a : ActA) : List WaitM := if a.kind = 3 then [⟨0, a.at_, true⟩] else a.bytes.data.toList.map byteM
def behindM (s : List UInt8) (l : List WaitM) (u : Int) : List UInt8 := (l.take u.toNat).foldl stepM s
theorem steps_bytes : ∀ (l : List UInt8) (s : List UInt8), (l.map byteM).foldl stepM s = s ++ l
  | [], s => by simp
  | b :: r, s => by
    rw [List.map_cons, List.foldl_cons, steps_bytes r]
    show (s ++ [b]) ++ r = _
    simp
theorem behind_after : ∀ (l : List ActA) (u : Int) (s : List UInt8), behindM s (l.flatMap waitsOf) u = afterF l u s
  | [], u, s => by unfold behindM; simp [afterF]
  | a :: r, u, s => by
    by_cases hu : u ≤ 0
    · rw [afterF_stop hu]
      unfold behindM
      rw [show u.toNat = 0 by omega]; rfl
    · unfold behindM
      rw [List.flatMap_cons, List.take_append, List.foldl_append]
      by_cases hk : a.kind = 3
      · rw [afterF_cut hu hk, ← behind_after r (u - 1) (s.take a.at_)]
        have e : waitsOf a = [⟨0, a.at_, true⟩] := by unfold waitsOf; rw [if_pos hk]
        rw [e]
        obtain ⟨n, hn⟩ : ∃ n, u.toNat = n + 1 := ⟨u.toNat - 1, by omega⟩
        rw [hn]
        unfold behindM
        rw [show (u - 1).toNat = n by omega]
        simp [stepM]
      · rw [afterF_write hu hk, ← behind_after r _ _]
        have e : waitsOf a = a.bytes.data.toList.map byteM := by unfold waitsOf; rw [if_neg hk]
        rw [e, ← List.map_take, steps_bytes, List.length_map, ← Lib.size_eq]
        have e2 : a.bytes.data.toList.take (min u.toNat a.bytes.size) = a.bytes.data.toList.take u.toNat := by
          by_cases hm : u.toNat ≤ a.bytes.size
          · rw [Nat.min_eq_left hm]
          · rw [Nat.min_eq_right (by omega), List.take_of_length_le (by rw [← Lib.size_eq]; exact Nat.le_refl _), List.take_of_length_le (by rw [← Lib.size_eq]; omega)]
        rw [e2]
        unfold behindM
        rw [show (u - (min u.toNat a.bytes.size : Nat)).toNat = u.toNat - a.bytes.size by omega]
theorem waitsOf_length (a : ActA) : (waitsOf a).length = if a.kind = 3 then 1 else a.bytes.size := by
  unfold waitsOf; split
  · rfl
  · rw [List.length_map, ← Lib.size_eq]
theorem waits_length : ∀ l : List ActA, (l.flatMap waitsOf).length = unitsL l
  | [] => rfl
  | a :: r => by
    rw [List.flatMap_cons, List.length_append, waitsOf_length, waits_length r]; rfl

structure FileM where
  sure : ByteArray
  waits : List WaitM
def FileM.seen (f : FileM) : List UInt8 := f.waits.foldl stepM f.sure.data.toList
def FileM.kept (f : FileM) (u : Int) : FileM := ⟨⟨(behindM f.sure.data.toList f.waits u).toArray⟩, []⟩
def fileM (f : FileA) : FileM := ⟨f.sure, f.waits.flatMap waitsOf⟩
theorem steps_seen : ∀ (l : List ActA) (s : List UInt8), (l.flatMap waitsOf).foldl stepM s = seenL l s
  | [], s => rfl
  | a :: r, s => by
    rw [List.flatMap_cons, List.foldl_append, steps_seen r]
    show _ = seenL r (stepF s a)
    congr 1
    unfold stepF waitsOf
    split
    · rfl
    · exact steps_bytes _ _
theorem fileM_seen (f : FileA) : (fileM f).seen = f.seen := steps_seen f.waits f.sure.data.toList
theorem fileM_kept (f : FileA) (u : Int) : fileM (f.kept u) = (fileM f).kept u := by
  unfold FileM.kept fileM FileA.kept
  rw [behind_after]; rfl
theorem fileM_more (f : FileA) (a : ActA) : fileM (f.more a) = ⟨(fileM f).sure, (fileM f).waits ++ waitsOf a⟩ := by
  unfold fileM FileA.more; simp

/-- A move within a directory, as the reference makes it. -/
def moveL (put take : List UInt8) (file : Nat) : Dir → Bool → Dir
  | [], done => if done then [] else [(put, file)]
  | x :: r, done => if x.1 = take ∨ x.1 = put then moveL put take file r done
    else if !done && bytesBefore put x.1 then (put, file) :: x :: moveL put take file r true else x :: moveL put take file r done
theorem moveL_done (put take : List UInt8) (file : Nat) : ∀ l : Dir, moveL put take file l true = ddel (ddel l take) put
  | [] => rfl
  | x :: r => by
    have ih := moveL_done put take file r
    unfold moveL
    unfold ddel at ih ⊢
    by_cases h1 : x.1 = take
    · rw [if_pos (.inl h1), ih]; simp [h1]
    · by_cases h2 : x.1 = put
      · rw [if_pos (.inr h2), ih]; subst h2; simp [h1]
      · rw [if_neg (by simp [h1, h2]), if_neg (by simp), ih]; simp [h1, h2]
theorem moveL_open (put take : List UInt8) (file : Nat) : ∀ l : Dir, moveL put take file l false = dins (put, file) (ddel (ddel l take) put)
  | [] => rfl
  | x :: r => by
    have ih := moveL_open put take file r
    have hd := moveL_done put take file r
    unfold moveL
    unfold ddel at ih hd ⊢
    by_cases h1 : x.1 = take
    · rw [if_pos (.inl h1), ih]; simp [h1]
    · by_cases h2 : x.1 = put
      · rw [if_pos (.inr h2), ih]; subst h2; simp [h1]
      · rw [if_neg (by simp [h1, h2])]
        have e : List.filter (fun p => !(p.1 == put)) (List.filter (fun p => !(p.1 == take)) (x :: r)) = x :: List.filter (fun p => !(p.1 == put)) (List.filter (fun p => !(p.1 == take)) r) := by simp [h1, h2]
        rw [e, hd, ih]
        rw [show dins (put, file) (x :: List.filter (fun p => !(p.1 == put)) (List.filter (fun p => !(p.1 == take)) r)) = if bytesBefore put x.1 then (put, file) :: x :: List.filter (fun p => !(p.1 == put)) (List.filter (fun p => !(p.1 == take)) r) else x :: dins (put, file) (List.filter (fun p => !(p.1 == put)) (List.filter (fun p => !(p.1 == take)) r)) from rfl]
        by_cases hb : bytesBefore put x.1 = true
        · simp [hb]
        · simp only [hb, Bool.and_false, if_false, Bool.false_eq_true]
/-- A directory in order, whose names are some. -/
structure Rising (l : Dir) : Prop where
  up : l.Pairwise fun x y => bytesBefore x.1 y.1 = true
  some : ∀ x ∈ l, x.1 ≠ []
theorem Rising.nil : Rising [] := ⟨List.Pairwise.nil, fun x h => by cases h⟩
theorem Rising.filter {l : Dir} (h : Rising l) (p : List UInt8 × Nat → Bool) : Rising (l.filter p) := ⟨h.up.filter _, fun x hx => h.some x (List.mem_filter.1 hx).1⟩
theorem dins_up (x : List UInt8 × Nat) : ∀ {l : Dir}, (l.Pairwise fun x y => bytesBefore x.1 y.1 = true) → (∀ y ∈ l, y.1 ≠ x.1) → (dins x l).Pairwise fun x y => bytesBefore x.1 y.1 = true
  | [], _, _ => by simp [dins]
  | y :: r, h, hn => by
    have hy := List.pairwise_cons.1 h
    unfold dins
    by_cases hb : bytesBefore x.1 y.1 = true
    · rw [if_pos hb]
      refine List.pairwise_cons.2 ⟨fun z hz => ?_, h⟩
      rcases List.mem_cons.1 hz with rfl | hz
      · exact hb
      · exact Go.WideShapes.bytes_trans _ _ _ hb (hy.1 z hz)
    · rw [if_neg hb]
      refine List.pairwise_cons.2 ⟨fun z hz => ?_, dins_up x hy.2 (fun y hy => hn y (List.mem_cons_of_mem _ hy))⟩
      rcases dins_mem hz with rfl | hz
      · rcases Go.WideAt.bytes_total y.1 z.1 (hn y (by simp)) with g | g
        · exact g
        · exact absurd g hb
      · exact hy.1 z hz
theorem capply_rising {l : Dir} (h : Rising l) (off on : List UInt8) (file : Nat) : Rising (capply off on file l) := by
  unfold capply
  split
  · exact h.filter _
  · rename_i hn
    unfold dput
    have h2 : Rising (ddel (ddel l off) on) := (h.filter _).filter _
    refine ⟨dins_up _ h2.up fun y hy => ?_, fun y hy => ?_⟩
    · have := (List.mem_filter.1 hy).2; simpa using this
    · rcases dins_mem hy with rfl | hy
      · exact hn
      · exact h2.some y hy
theorem dplay_rising : ∀ (cs : List ChangeA) {l : Dir}, Rising l → Rising (dplay cs l)
  | [], _, h => h
  | c :: cs, _, h => dplay_rising cs (capply_rising h _ _ _)
theorem ddel_none {l : Dir} (h : Rising l) : ddel l [] = l := List.filter_eq_self.2 fun x hx => by have := h.some x hx; simpa using this
theorem move_capply {l : Dir} (h : Rising l) (put take : List UInt8) (file : Nat) : moveL put take file l (decide (put = [])) = capply take put file l := by
  unfold capply
  by_cases hp : put = []
  · subst hp
    rw [if_pos rfl, decide_eq_true rfl, moveL_done]
    exact ddel_none (h.filter _)
  · rw [if_neg hp, decide_eq_false hp, moveL_open]; rfl
end Go.Proofs.Ytembondddgfpcaa

namespace Go.Proofs.Ytembondddgfpcaa

structure RefM where
  room : Int
  files : List FileM
  sure : Dir
  waits : List ChangeA
  units : Int
  left : Int
  armed : Bool
  gone : Bool
  acts : List ActA
def RefM.dir (m : RefM) : Dir := dplay m.waits m.sure
def askedM (m : RefM) (zs : List ByteArray) (z : ByteArray) : Nat × Nat := findR (readyE m.gone zs) (dget m.dir z.data.toList)
def canM (m : RefM) : Bool := !(m.armed && decide (m.left = 0))
def doneM (m : RefM) : RefM := { m with units := m.units + 1, left := (if m.armed then m.left - 1 else m.left) }
def goneM (m : RefM) : RefM := { m with gone := true }
def didM (m : RefM) (a : ActA) : RefM := { m with acts := m.acts ++ [a] }
def modM (l : List FileM) (i : Nat) (g : FileM → FileM) : List FileM := if h : i < l.length then l.set i (g l[i]) else l
def sizeM (m : RefM) (f : Nat) : Nat := match m.files[f]? with | some x => x.seen.length | none => 0
def freeM (m : RefM) : Int := max (m.room - (totalL (sizeM m) m.dir : Nat)) 0
def FileM.more (f : FileM) (l : List WaitM) : FileM := ⟨f.sure, f.waits ++ l⟩

def createM (m : RefM) (z : ByteArray) : RefM × Nat :=
  if (askedM m [z] z).2 = 0 then (m, 12) else if (askedM m [z] z).2 ≠ 7 then (m, (askedM m [z] z).2)
  else if canM m then (didM { doneM m with waits := m.waits ++ [⟨⟨#[]⟩, z, m.files.length⟩], files := m.files ++ [⟨⟨#[]⟩, []⟩] } ⟨1, z, ⟨#[]⟩, ⟨#[]⟩, 0⟩, 0) else (goneM m, 3)
def wroteM (m : RefM) (i : Nat) (z t : ByteArray) (k : Nat) : RefM :=
  { m with
    units := m.units + k
    left := (if m.armed then m.left - k else m.left)
    gone := (m.gone || decide (k < t.size))
    files := modM m.files i fun f => f.more ((t.data.toList.take k).map byteM)
    acts := (if 0 < k then m.acts ++ [⟨2, z, ⟨#[]⟩, t.extract 0 k, 0⟩] else m.acts) }
def writeM (m : RefM) (z t : ByteArray) : RefM × Nat :=
  if (askedM m [z] z).2 ≠ 0 then (m, (askedM m [z] z).2) else if freeM m < t.size then (m, 4)
  else (wroteM m (askedM m [z] z).1 z t (spent m.armed m.left t.size).toNat, if (spent m.armed m.left t.size).toNat < t.size then 3 else 0)
def cutM (m : RefM) (z : ByteArray) (k : Int) : RefM × Nat :=
  if (askedM m [z] z).2 ≠ 0 then (m, (askedM m [z] z).2) else if k < 0 ∨ (sizeM m (askedM m [z] z).1 : Int) < k then (m, 1)
  else if canM m then (didM { doneM m with files := modM m.files (askedM m [z] z).1 fun f => f.more [⟨0, k.toNat, true⟩] } ⟨3, z, ⟨#[]⟩, ⟨#[]⟩, k.toNat⟩, 0) else (goneM m, 3)
def syncM (m : RefM) (z : ByteArray) : RefM × Nat :=
  if (askedM m [z] z).2 ≠ 0 then (m, (askedM m [z] z).2)
  else if canM m then (didM { doneM m with files := modM m.files (askedM m [z] z).1 fun f => ⟨⟨f.seen.toArray⟩, []⟩ } ⟨4, z, ⟨#[]⟩, ⟨#[]⟩, 0⟩, 0) else (goneM m, 3)
def renameM (m : RefM) (a b : ByteArray) : RefM × Nat :=
  if (askedM m [a, b] a).2 ≠ 0 then (m, (askedM m [a, b] a).2)
  else if canM m then (didM (if a = b then doneM m else { doneM m with waits := m.waits ++ [⟨a, b, (askedM m [a, b] a).1⟩] }) ⟨5, a, b, ⟨#[]⟩, 0⟩, 0) else (goneM m, 3)
def removeM (m : RefM) (z : ByteArray) : RefM × Nat :=
  if (askedM m [z] z).2 ≠ 0 then (m, (askedM m [z] z).2)
  else if canM m then (didM { doneM m with waits := m.waits ++ [⟨z, ⟨#[]⟩, 0⟩] } ⟨6, z, ⟨#[]⟩, ⟨#[]⟩, 0⟩, 0) else (goneM m, 3)
def syncdirM (m : RefM) : RefM × Nat :=
  if m.gone then (m, 3) else if canM m then (didM { doneM m with sure := m.dir, waits := [] } ⟨7, ⟨#[]⟩, ⟨#[]⟩, ⟨#[]⟩, 0⟩, 0) else (goneM m, 3)
def readM (m : RefM) (z : ByteArray) : ByteArray × Nat :=
  if m.gone then (⟨#[]⟩, 3) else if (askedM m [z] z).2 ≠ 0 then (⟨#[]⟩, (askedM m [z] z).2) else (match m.files[(askedM m [z] z).1]? with | some f => ⟨f.seen.toArray⟩ | none => ⟨#[]⟩, 0)
def armM (m : RefM) (k : Int) : RefM × Nat := if k < 0 then (m, 1) else ({ m with armed := true, left := k }, 0)
def keptM (fs : List FileM) (ks : List Int) (i : Nat) : List FileM := match fs with
  | [] => []
  | f :: r => f.kept (ks.getD i 0) :: keptM r ks (i + 1)
def crashM (m : RefM) (n : Int) (ks : List Int) : RefM :=
  { m with sure := dplay (m.waits.take (keptN n m.waits.length)) m.sure, waits := [], files := keptM m.files ks 0, armed := false, gone := false }
def sureM (m : RefM) (z : ByteArray) : ByteArray × Bool := match dget m.sure z.data.toList with
  | some i => (match m.files[i]? with | some f => f.sure | none => ⟨#[]⟩, true)
  | none => (⟨#[]⟩, false)

/-- The reference's disk goes as the program's. -/
structure Ties (D : ADisk) (m : RefM) : Prop where
  room : m.room = D.room
  files : m.files = D.files.map fileM
  sure : m.sure = D.sure
  waits : m.waits = D.waits
  units : m.units = D.units
  armed : m.armed = D.armed
  left : D.armed = true → m.left = D.left
  gone : m.gone = D.gone
  acts : m.acts = D.acts
theorem Ties.fresh (room : Int) : Ties (freshD room) ⟨room, [], [], [], 0, 0, false, false, []⟩ := ⟨rfl, rfl, rfl, rfl, rfl, rfl, fun _ => rfl, rfl, rfl⟩
theorem Ties.dir {D : ADisk} {m : RefM} (h : Ties D m) : m.dir = D.seen := by unfold RefM.dir ADisk.seen; rw [h.sure, h.waits]
theorem Ties.ask {D : ADisk} {m : RefM} (h : Ties D m) (z : ByteArray) (zr : List ByteArray) : askedM m (z :: zr) z = asked D z zr := by
  unfold askedM asked; rw [h.dir, h.gone]
theorem Ties.can {D : ADisk} {m : RefM} (h : Ties D m) (hl : 0 ≤ D.left) : canM m = canDo D := by
  unfold canM canDo
  rw [h.armed]
  cases ha : D.armed
  · rfl
  · rw [h.left ha]
    by_cases h0 : D.left = 0
    · simp [h0]
    · have : ¬ D.left < 1 := by omega
      simp [h0, this]
theorem modF_map (l : List FileA) (i : Nat) (g : FileA → FileA) (g' : FileM → FileM) (hg : ∀ f ∈ l, fileM (g f) = g' (fileM f)) : (modF l i g).map fileM = modM (l.map fileM) i g' := by
  unfold modF modM
  by_cases h : i < l.length
  · rw [dif_pos h, dif_pos (by simpa using h), List.map_set]
    congr 1
    rw [hg _ (List.getElem_mem _)]; simp
  · rw [dif_neg h, dif_neg (by simpa using h)]
theorem Ties.size {D : ADisk} {m : RefM} (h : Ties D m) (f : Nat) : sizeM m f = sizeAt D.files f := by
  unfold sizeM sizeAt
  rw [h.files, List.getElem?_map]
  cases D.files[f]? with
  | none => rfl
  | some x => show (fileM x).seen.length = _; rw [fileM_seen]
theorem Ties.free {D : ADisk} {m : RefM} (h : Ties D m) : freeM m = freeD D := by
  unfold freeM freeD
  rw [h.dir, h.room, show sizeM m = sizeAt D.files from funext h.size]
theorem Ties.down {D : ADisk} {m : RefM} (h : Ties D m) : Ties (downD D) (goneM m) := ⟨h.room, h.files, h.sure, h.waits, h.units, h.armed, h.left, rfl, h.acts⟩
theorem Ties.left1 {D : ADisk} {m : RefM} {a : ActA} (h : Ties D m) : (didD D a).armed = true → (doneM m).left = (didD D a).left := by
  intro ha
  have ha' : D.armed = true := ha
  show (if m.armed then m.left - 1 else m.left) = (if D.armed then D.left - 1 else D.left)
  rw [h.armed, ha', if_pos rfl, if_pos rfl, h.left ha']

theorem Ties.create {D : ADisk} {m : RefM} (h : Ties D m) (hl : 0 ≤ D.left) (z : ByteArray) : Ties (createD D z).1 (createM m z).1 ∧ (createM m z).2 = (createD D z).2 := by
  unfold createM createD
  rw [h.can hl, show askedM m [z] z = asked D z [] from h.ask z []]
  unfold asked findR
  by_cases hr : readyE D.gone [z] = 0
  · rw [if_pos hr, if_neg (fun hh => hh hr)]
    cases hq : dget D.seen z.data.toList with
    | some f => exact ⟨h, rfl⟩
    | none =>
      simp only [Option.isSome_none, Bool.false_eq_true, if_false, ne_eq, not_true_eq_false, show ¬ (7 : Nat) = 0 by decide]
      by_cases hc : canDo D = true
      · rw [if_pos hc, if_pos hc]
        refine ⟨⟨h.room, ?_, h.sure, ?_, ?_, h.armed, h.left1 (a := ⟨1, z, ⟨#[]⟩, ⟨#[]⟩, 0⟩), h.gone, ?_⟩, rfl⟩
        · show m.files ++ [_] = (D.files ++ [newF]).map fileM
          rw [h.files, List.map_append]; rfl
        · show m.waits ++ [_] = D.waits ++ [_]
          rw [h.waits, h.files, List.length_map]
        · show m.units + 1 = D.units + 1; rw [h.units]
        · show m.acts ++ _ = D.acts ++ _; rw [h.acts]
      · rw [if_neg hc, if_neg hc]; exact ⟨h.down, rfl⟩
  · rw [if_neg hr, if_pos hr]
    rcases readyE_cases D.gone [z] with e | e | e
    · exact absurd e hr
    · rw [e]; exact ⟨h, rfl⟩
    · rw [e]; exact ⟨h, rfl⟩
theorem Ties.cut {D : ADisk} {m : RefM} (h : Ties D m) (hl : 0 ≤ D.left) (z : ByteArray) (k : Int) : Ties (cutD D z k).1 (cutM m z k).1 ∧ (cutM m z k).2 = (cutD D z k).2 := by
  unfold cutM cutD
  rw [h.can hl, show askedM m [z] z = asked D z [] from h.ask z [], h.size]
  unfold seenSize
  split
  · exact ⟨h, rfl⟩
  · split
    · exact ⟨h, rfl⟩
    · split
      · refine ⟨⟨h.room, ?_, h.sure, h.waits, ?_, h.armed, h.left1 (a := cutA z k.toNat), h.gone, ?_⟩, rfl⟩
        · show modM m.files (asked D z []).1 (fun f => f.more [⟨0, k.toNat, true⟩]) = (modF D.files (asked D z []).1 fun f => f.more (cutA z k.toNat)).map fileM
          rw [h.files]
          exact (modF_map _ _ _ _ fun f _ => (fileM_more f _).trans rfl).symm
        · show m.units + 1 = D.units + 1; rw [h.units]
        · show m.acts ++ _ = D.acts ++ _; rw [h.acts]; rfl
      · exact ⟨h.down, rfl⟩
theorem Ties.sync {D : ADisk} {m : RefM} (h : Ties D m) (hl : 0 ≤ D.left) {n : Nat} (hf : Fine n D) (hn : n ≤ 1000000) (z : ByteArray) : Ties (syncD D z).1 (syncM m z).1 ∧ (syncM m z).2 = (syncD D z).2 := by
  unfold syncM syncD
  rw [h.can hl, show askedM m [z] z = asked D z [] from h.ask z []]
  split
  · exact ⟨h, rfl⟩
  · split
    · refine ⟨⟨h.room, ?_, h.sure, h.waits, ?_, h.armed, h.left1 (a := ⟨4, z, ⟨#[]⟩, ⟨#[]⟩, 0⟩), h.gone, ?_⟩, rfl⟩
      · show modM m.files (asked D z []).1 (fun f => ⟨⟨f.seen.toArray⟩, []⟩) = (modF D.files (asked D z []).1 fun f => f.kept allU).map fileM
        rw [h.files]
        refine (modF_map _ _ _ _ fun f hm => ?_).symm
        have hu := (hf.files f hm).units
        unfold FileA.kept
        rw [afterF_all _ _ _ (by unfold allU; omega), fileM_seen]; rfl
      · show m.units + 1 = D.units + 1; rw [h.units]
      · show m.acts ++ _ = D.acts ++ _; rw [h.acts]
    · exact ⟨h.down, rfl⟩
theorem Ties.rename {D : ADisk} {m : RefM} (h : Ties D m) (hl : 0 ≤ D.left) (a b : ByteArray) : Ties (renameD D a b).1 (renameM m a b).1 ∧ (renameM m a b).2 = (renameD D a b).2 := by
  unfold renameM renameD
  rw [h.can hl, show askedM m [a, b] a = asked D a [b] from h.ask a [b]]
  split
  · exact ⟨h, rfl⟩
  · split
    · refine ⟨?_, rfl⟩
      by_cases e : a = b
      · rw [if_pos e, if_pos e]
        exact ⟨h.room, h.files, h.sure, h.waits, by show m.units + 1 = D.units + 1; rw [h.units], h.armed, h.left1 (a := ⟨5, a, b, ⟨#[]⟩, 0⟩), h.gone, by show m.acts ++ _ = D.acts ++ _; rw [h.acts]⟩
      · rw [if_neg e, if_neg e]
        exact ⟨h.room, h.files, h.sure, by show m.waits ++ _ = D.waits ++ _; rw [h.waits], by show m.units + 1 = D.units + 1; rw [h.units], h.armed, h.left1 (a := ⟨5, a, b, ⟨#[]⟩, 0⟩), h.gone, by show m.acts ++ _ = D.acts ++ _; rw [h.acts]⟩
    · exact ⟨h.down, rfl⟩
theorem Ties.remove {D : ADisk} {m : RefM} (h : Ties D m) (hl : 0 ≤ D.left) (z : ByteArray) : Ties (removeD D z).1 (removeM m z).1 ∧ (removeM m z).2 = (removeD D z).2 := by
  unfold removeM removeD
  rw [h.can hl, show askedM m [z] z = asked D z [] from h.ask z []]
  split
  · exact ⟨h, rfl⟩
  · split
    · exact ⟨⟨h.room, h.files, h.sure, by show m.waits ++ _ = D.waits ++ _; rw [h.waits], by show m.units + 1 = D.units + 1; rw [h.units], h.armed, h.left1 (a := ⟨6, z, ⟨#[]⟩, ⟨#[]⟩, 0⟩), h.gone, by show m.acts ++ _ = D.acts ++ _; rw [h.acts]⟩, rfl⟩
    · exact ⟨h.down, rfl⟩
theorem Ties.syncdir {D : ADisk} {m : RefM} (h : Ties D m) (hl : 0 ≤ D.left) : Ties (syncdirD D).1 (syncdirM m).1 ∧ (syncdirM m).2 = (syncdirD D).2 := by
  unfold syncdirM syncdirD
  rw [h.can hl, h.gone]
  split
  · exact ⟨h, rfl⟩
  · split
    · exact ⟨⟨h.room, h.files, h.dir, rfl, by show m.units + 1 = D.units + 1; rw [h.units], h.armed, h.left1 (a := ⟨7, ⟨#[]⟩, ⟨#[]⟩, ⟨#[]⟩, 0⟩), h.gone, by show m.acts ++ _ = D.acts ++ _; rw [h.acts]⟩, rfl⟩
    · exact ⟨h.down, rfl⟩
theorem Ties.arm {D : ADisk} {m : RefM} (h : Ties D m) (k : Int) : Ties (armD D k).1 (armM m k).1 ∧ (armM m k).2 = (armD D k).2 := by
  unfold armM armD
  split
  · exact ⟨h, rfl⟩
  · exact ⟨⟨h.room, h.files, h.sure, h.waits, h.units, rfl, fun _ => rfl, h.gone, h.acts⟩, rfl⟩
theorem Ties.read {D : ADisk} {m : RefM} (h : Ties D m) (z : ByteArray) : readM m z = readR D z := by
  unfold readM readR
  rw [h.gone, show askedM m [z] z = asked D z [] from h.ask z [], h.files, List.getElem?_map]
  split
  · rfl
  · split
    · rfl
    · cases D.files[(asked D z []).1]? with
      | none => rfl
      | some f => show ((⟨(fileM f).seen.toArray⟩ : ByteArray), 0) = _; rw [fileM_seen]
end Go.Proofs.Ytembondddgfpcaa

namespace Go.Proofs.Ytembondddgfpcaa

theorem spent_cases (armed : Bool) (left : Int) (k : Nat) (hl : 0 ≤ left) : 0 ≤ spent armed left k ∧ spent armed left k ≤ k ∧ (decide ((spent armed left k).toNat < k) = (armed && decide (left < (k : Int)))) := by
  unfold spent
  cases armed
  · simp
  · by_cases h : left < (k : Int)
    · simp [h]; omega
    · simp [h]
theorem modM_same (l : List FileM) (i : Nat) (g : FileM → FileM) (hg : ∀ f, g f = f) : modM l i g = l := by
  unfold modM
  split
  · rw [hg]; exact List.set_getElem_self _
  · rfl
theorem Ties.spent {D : ADisk} {m : RefM} (h : Ties D m) (k : Int) : spent m.armed m.left k = Go.Proofs.Ytembondddgfpcaa.spent D.armed D.left k := by
  rw [h.armed]
  unfold Go.Proofs.Ytembondddgfpcaa.spent
  cases ha : D.armed
  · rfl
  · rw [h.left ha]
theorem Ties.write {D : ADisk} {m : RefM} (h : Ties D m) (hl : 0 ≤ D.left) (z t : ByteArray) : Ties (writeD D z t).1 (writeM m z t).1 ∧ (writeM m z t).2 = (writeD D z t).2 := by
  unfold writeM writeD
  rw [show askedM m [z] z = asked D z [] from h.ask z [], h.free, h.spent]
  have hs := spent_cases D.armed D.left t.size hl
  split
  · exact ⟨h, rfl⟩
  · split
    · exact ⟨h, rfl⟩
    · refine ⟨?_, rfl⟩
      generalize hk : Go.Proofs.Ytembondddgfpcaa.spent D.armed D.left t.size = k at hs
      have hu : (m.units + (k.toNat : Nat) : Int) = D.units + k := by rw [h.units]; omega
      have hlft : D.armed = true → (if m.armed then m.left - (k.toNat : Nat) else m.left) = (if D.armed then D.left - k else D.left) := by
        intro ha; rw [h.armed, ha, if_pos rfl, if_pos rfl, h.left ha]; omega
      have hg : (m.gone || decide (k.toNat < t.size)) = (D.gone || (D.armed && decide (D.left < (t.size : Int)))) := by rw [h.gone, hs.2.2]
      by_cases h0 : 0 < k.toNat
      · rw [if_pos h0]
        refine ⟨h.room, ?_, h.sure, h.waits, ?_, h.armed, ?_, hg, ?_⟩
        · show modM m.files (asked D z []).1 (fun f => f.more ((t.data.toList.take k.toNat).map byteM)) = (modF D.files (asked D z []).1 fun f => f.more (wroteA z t k.toNat)).map fileM
          rw [h.files]
          refine (modF_map _ _ _ _ fun f _ => (fileM_more f _).trans ?_).symm
          unfold FileM.more
          congr 2
          show (t.extract 0 k.toNat).data.toList.map byteM = _
          rw [extract_take]
        · show m.units + _ = D.units + Go.Proofs.Ytembondddgfpcaa.spent D.armed D.left t.size; rw [hk]; exact hu
        · intro ha
          show _ = (if D.armed then D.left - Go.Proofs.Ytembondddgfpcaa.spent D.armed D.left t.size else D.left); rw [hk]; exact hlft ha
        · show (if 0 < k.toNat then m.acts ++ [_] else m.acts) = D.acts ++ [_]
          rw [if_pos h0, h.acts]; rfl
      · rw [if_neg h0]
        have e0 : k.toNat = 0 := by omega
        refine ⟨h.room, ?_, h.sure, h.waits, ?_, h.armed, ?_, hg, ?_⟩
        · show modM m.files (asked D z []).1 (fun f => f.more ((t.data.toList.take k.toNat).map byteM)) = D.files.map fileM
          rw [modM_same _ _ _ (fun f => by rw [e0]; unfold FileM.more; simp), h.files]
        · show m.units + _ = D.units + Go.Proofs.Ytembondddgfpcaa.spent D.armed D.left t.size; rw [hk]; exact hu
        · intro ha
          show _ = (if D.armed then D.left - Go.Proofs.Ytembondddgfpcaa.spent D.armed D.left t.size else D.left); rw [hk]; exact hlft ha
        · show (if 0 < k.toNat then m.acts ++ [_] else m.acts) = D.acts
          rw [if_neg h0, h.acts]

theorem modF_get (l : List FileA) (i j : Nat) (g : FileA → FileA) : (modF l i g)[j]? = if j = i then l[j]?.map g else l[j]? := by
  unfold modF
  by_cases hi : i < l.length
  · rw [dif_pos hi, List.getElem?_set]
    by_cases e : j = i
    · subst e; simp [hi]
    · rw [if_neg e, if_neg (fun h => e h.symm)]
  · rw [dif_neg hi]
    by_cases e : j = i
    · subst e; simp [List.getElem?_eq_none (Nat.le_of_not_lt hi)]
    · rw [if_neg e]
theorem crashTo_get (fs : List FileA) (ks : List Int) (j : Nat) : ∀ k, (crashTo fs ks k)[j]? = if j < k then fs[j]?.map (fun f => f.kept (ks.getD j 0)) else fs[j]?
  | 0 => by simp [crashTo]
  | k + 1 => by
    show (modF (crashTo fs ks k) k fun f => f.kept (ks.getD k 0))[j]? = _
    rw [modF_get, crashTo_get fs ks j k]
    by_cases e : j = k
    · subst e; simp
    · rw [if_neg e]
      by_cases h : j < k
      · rw [if_pos h, if_pos (by omega)]
      · rw [if_neg h, if_neg (by omega)]
theorem keptM_get : ∀ (fs : List FileM) (ks : List Int) (i j : Nat), (keptM fs ks i)[j]? = fs[j]?.map fun f => f.kept (ks.getD (i + j) 0)
  | [], _, _, _ => by simp [keptM]
  | f :: r, ks, i, 0 => by simp [keptM]
  | f :: r, ks, i, j + 1 => by
    simp only [keptM, List.getElem?_cons_succ]
    rw [keptM_get r ks (i + 1) j, show i + 1 + j = i + (j + 1) by omega]
theorem Ties.crash {D : ADisk} {m : RefM} (h : Ties D m) (n : Int) (ks : List Int) : Ties (crashD D n ks) (crashM m n ks) := by
  refine ⟨h.room, ?_, ?_, rfl, h.units, rfl, fun hh => Bool.noConfusion hh, rfl, h.acts⟩
  · show keptM m.files ks 0 = (crashTo D.files ks D.files.length).map fileM
    apply List.ext_getElem?
    intro j
    rw [keptM_get, h.files, List.getElem?_map, List.getElem?_map, crashTo_get]
    by_cases hj : j < D.files.length
    · rw [if_pos hj, List.getElem?_eq_getElem hj]
      simp only [Option.map_some, Nat.zero_add]
      rw [fileM_kept]
    · rw [if_neg hj, List.getElem?_eq_none (Nat.le_of_not_lt hj)]; rfl
  · show dplay (m.waits.take (keptN n m.waits.length)) m.sure = dplay (D.waits.take (keptN n D.waits.length)) D.sure
    rw [h.waits, h.sure]
end Go.Proofs.Ytembondddgfpcaa

