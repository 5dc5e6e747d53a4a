/- Crash. -/
import Derived.Test.YtdfjkcdmbbmipaaYA
namespace Go.Proofs.Ytdfjkcdmbbmipaa
open Go.RowKit Go.Maps
attribute [local go_sem] errV_0 errV_1 errV_3 errV_4 errV_7

theorem keptF_ok {n : Nat} {f : FileA} (h : FileOk n f) (u : Int) : FileOk n (f.kept u) := by
  have h1 := afterF_length_le f.waits u f.sure.data.toList
  have h2 := h.len
  have h3 : f.sure.data.toList.length = f.sure.size := (Lib.size_eq _).symm
  have h4 : (f.kept u).sure.size = (afterF f.waits u f.sure.data.toList).length := by rw [Lib.size_eq]; rfl
  exact ⟨trivial, by rw [h4]; show _ + 0 ≤ n; omega, Nat.zero_le _, Nat.zero_le _, fun a ha => by cases ha⟩
theorem modF_length (l : List FileA) (i : Nat) (g : FileA → FileA) : (modF l i g).length = l.length := by unfold modF; split <;> simp
theorem modF_mem {l : List FileA} {i : Nat} {g : FileA → FileA} {x : FileA} (h : x ∈ modF l i g) : x ∈ l ∨ ∃ y ∈ l, x = g y := by
  unfold modF at h
  split at h
  · rcases List.mem_or_eq_of_mem_set h with h | h
    · exact .inl h
    · exact .inr ⟨_, List.getElem_mem _, h⟩
  · exact .inl h
theorem files_fine {n : Nat} {D : ADisk} (h : Fine n D) (fs : List FileA) (hl : fs.length = D.files.length) (hm : ∀ f ∈ fs, FileOk n f) : Fine n { D with files := fs } :=
  ⟨h.u0, h.u1, h.l0, h.l1, h.r0, h.r1, h.dirs, by show fs.length ≤ n; rw [hl]; exact h.nfiles, h.nacts, hm, fun c hc => by have := h.changes c hc; exact ⟨this.1, this.2.1, by show _ < fs.length; rw [hl]; exact this.2.2⟩, fun x hx => by show _ < fs.length; rw [hl]; exact h.names x hx⟩
theorem dkept_fine {n : Nat} {D : ADisk} (h : Fine n D) (k : Nat) : Fine n { D with sure := dplay (D.waits.take k) D.sure, waits := [] } := by
  have h1 := dplay_length (D.waits.take k) D.sure
  have h2 := h.dirs
  refine ⟨h.u0, h.u1, h.l0, h.l1, h.r0, h.r1, ?_, h.nfiles, h.nacts, h.files, (fun c hc => by cases hc), fun x hx => ?_⟩
  · show (dplay (D.waits.take k) D.sure).length + 0 ≤ n
    rw [List.length_take] at h1; omega
  · rcases dplay_mem hx with hx | ⟨c, hc, e⟩
    · exact h.names x hx
    · rw [e]; exact (h.changes c (List.mem_of_mem_take hc)).2.2
def crashTo (fs : List FileA) (ks : List Int) : Nat → List FileA
  | 0 => fs
  | k + 1 => modF (crashTo fs ks k) k fun f => f.kept (ks.getD k 0)
theorem crashTo_length (fs : List FileA) (ks : List Int) : ∀ k, (crashTo fs ks k).length = fs.length
  | 0 => rfl
  | k + 1 => by unfold crashTo; rw [modF_length, crashTo_length fs ks k]
theorem crashTo_ok {n : Nat} (fs : List FileA) (ks : List Int) (h : ∀ f ∈ fs, FileOk n f) : ∀ k, ∀ f ∈ crashTo fs ks k, FileOk n f
  | 0, f, hf => h f hf
  | k + 1, f, hf => by
    unfold crashTo at hf
    rcases modF_mem hf with hf | ⟨y, hy, rfl⟩
    · exact crashTo_ok fs ks h k f hf
    · exact keptF_ok (crashTo_ok fs ks h k y hy) _
def crashD (D : ADisk) (m : Int) (ks : List Int) : ADisk :=
  { D with sure := dplay (D.waits.take (keptN m D.waits.length)) D.sure, waits := [], files := crashTo D.files ks D.files.length, armed := false, left := 0, gone := false }
theorem crash_fine {n : Nat} {D : ADisk} (h : Fine n D) (m : Int) (ks : List Int) : Fine n (crashD D m ks) := by
  have h1 := files_fine (dkept_fine h (keptN m D.waits.length)) (crashTo D.files ks D.files.length) (crashTo_length _ _ _) (crashTo_ok _ _ h.files _)
  exact ⟨h1.u0, h1.u1, by show (0 : Int) ≤ 0; decide, by show (0 : Int) ≤ 9223372036854775807; decide, h1.r0, h1.r1, h1.dirs, h1.nfiles, h1.nacts, h1.files, h1.changes, h1.names⟩

set_option maxRecDepth 100000 in
set_option maxHeartbeats 4000000 in
theorem crash_any {w : World} {T : Nat → Nat} {p n : Nat} {D : ADisk} (hA : DiskAt w T p D) (hf : Fine n D) (hn : n ≤ 300000) (m : Int) (hw : (Lit.int .i64 m).wf = true) (ks : List Int) (ao : Option Addr) (ad : Addr) (cap : Nat) (hao : 0 < ks.length → ao = some ad)
    (hd : ∀ w', Only (fun r => T r ≠ 0) w w' → ∀ j (h : j < ks.length), w'.cell? (ad.add j) = some (.int .i64 ks[j])) (hks : ∀ k ∈ ks, (Lit.int .i64 k).wf = true) (hkl : ks.length ≤ 1000000) :
    Calls Try.prog 18 #[.pointer (some ⟨p, 0, none⟩), .int .i64 m, .slice ao ks.length cap] w fun e w' => e = .returned (.tuple #[]) ∧ ∃ T', DiskAt w' T' p (crashD D m ks) ∧ Step w T w' T' := by
  obtain ⟨V, hV⟩ := hA
  have K0 := dkeep_any hV hf (by omega) m hw
  have F1 := Lib.hid (dkept_fine hf (keptN m D.waits.length))
  have FS := Lib.hid hf.files
  have hnf := hf.nfiles
  have HDT := Lib.hid hd
  have HK := Lib.hid hks
  have HAO := Lib.hid hao
  have e8 : ∃ ao8 cap8, V.v8 = .slice ao8 D.files.length cap8 := by
    rcases hV.r8.2 with ⟨e, h0⟩ | ⟨g, cap, cur, e, _⟩
    · exact ⟨none, 0, by rw [e, h0]⟩
    · exact ⟨_, cap, e⟩
  obtain ⟨ao8, cap8, e8⟩ := e8
  have E8 := Lib.hid e8
  clear hd hks hao e8
  go_enter Try.func18, Try.ntmps18
  go_wp2_with fail
  refine K0.mono ?_
  rintro e w1 ⟨rfl, T1, v6', hd1, hs1⟩
  have d8 : w1.cell? ⟨p, 8, none⟩ = some (.slice ao8 D.files.length cap8) := by have := hd1.cells.cell 8; exact this.trans (by show some V.v8 = _; rw [E8.out])
  have D1 := Lib.hid hd1
  have S1 := Lib.hid hs1
  clear hd1 hs1 K0
  go_wp2
  go_loopw [20] (fun i wr => ∃ (k : Nat) (T' : Nat → Nat) (V' : Vals), k ≤ D.files.length ∧ i = .int .i64 k ∧ DiskV wr T' p { D with sure := dplay (D.waits.take (keptN m D.waits.length)) D.sure, waits := [], files := crashTo D.files ks k } V' ∧ Step w T wr T' ∧ V'.v8 = V.v8) (fun i _ => D.files.length - (intOf i).toNat)
  case atStart => exact ⟨0, T1, _, Nat.zero_le _, rfl, D1.out, S1.out, rfl⟩
  case round =>
    obtain ⟨k, T', V', hk, rfl, hdk, hsk, h8k⟩ := hrel
    by_cases hlt : k < D.files.length
    · have hcl := crashTo_length D.files ks k
      have hlt2 : k < (crashTo D.files ks k).length := by omega
      have fine2 := files_fine F1.out (crashTo D.files ks k) hcl (crashTo_ok _ _ FS.out _)
      obtain ⟨g, cap', cur, e8', _, _, _, _, _, _, _⟩ := hdk.file (i := k) hlt2
      have e8'' : V'.v8 = .slice (some ⟨g, 0, none⟩) D.files.length cap' := by rw [e8']; exact congrArg (fun x => Value.slice _ x _) hcl
      have d8k : wr.cell? ⟨p, 8, none⟩ = some (.slice (some ⟨g, 0, none⟩) D.files.length cap') := by have := hdk.cells.cell 8; exact this.trans (by show some V'.v8 = _; rw [e8''])
      have hpk := hdk.cells.lt
      by_cases hkd : k < ks.length
      · have hwk := HK.out ks[k] (List.getElem_mem hkd)
        have hcd := HDT.out wr hsk.only k hkd
        obtain rfl := HAO.out (by omega)
        have hg : ks.getD k 0 = ks[k] := by rw [List.getD_eq_getElem?_getD, List.getElem?_eq_getElem hkd]; rfl
        have KK := fkeep_disk hdk fine2 (by omega) hlt2 e8'' ks[k] hwk
        have HKK := Lib.hid KK
        have HS := Lib.hid hsk
        have HG := Lib.hid hg
        have H8 := Lib.hid h8k
        have HC := Lib.hid hcl
        generalize ks[k] = u at *
        clear KK hsk hg h8k e8' e8'' hwk
        go_wp2_with fail
        refine HKK.out.mono ?_
        rintro e w2 ⟨rfl, T2, V2, hd2, hs2, h82⟩
        have P := Lib.hid (show DiskV w2 T2 p { D with sure := dplay (D.waits.take (keptN m D.waits.length)) D.sure, waits := [], files := crashTo D.files ks (k + 1) } V2 ∧ Step w T w2 T2 ∧ V2.v8 = V.v8 from ⟨by
          have : crashTo D.files ks (k + 1) = (crashTo D.files ks k).set k ((crashTo D.files ks k)[k].kept u) := by
            show modF _ _ _ = _; unfold modF; rw [dif_pos hlt2, HG.out]
          rw [this]; exact hd2, HS.out.trans hs2, h82.trans H8.out⟩)
        clear hd2 hs2 h82 HKK
        go_wp2
        go_roundw
        case rel => exact ⟨k + 1, T2, V2, by omega, by go_num, P.out⟩
        case measure => simp [intOf]; omega
      · have hg : ks.getD k 0 = 0 := by rw [List.getD_eq_getElem?_getD, List.getElem?_eq_none (by omega)]; rfl
        have KK := fkeep_disk hdk fine2 (by omega) hlt2 e8'' 0 (by decide)
        have HKK := Lib.hid KK
        have HS := Lib.hid hsk
        have HG := Lib.hid hg
        have H8 := Lib.hid h8k
        have HC := Lib.hid hcl
        clear KK hsk hg h8k e8' e8''
        go_wp2_with fail
        refine HKK.out.mono ?_
        rintro e w2 ⟨rfl, T2, V2, hd2, hs2, h82⟩
        have P := Lib.hid (show DiskV w2 T2 p { D with sure := dplay (D.waits.take (keptN m D.waits.length)) D.sure, waits := [], files := crashTo D.files ks (k + 1) } V2 ∧ Step w T w2 T2 ∧ V2.v8 = V.v8 from ⟨by
          have : crashTo D.files ks (k + 1) = (crashTo D.files ks k).set k ((crashTo D.files ks k)[k].kept 0) := by
            show modF _ _ _ = _; unfold modF; rw [dif_pos hlt2, HG.out]
          rw [this]; exact hd2, HS.out.trans hs2, h82.trans H8.out⟩)
        clear hd2 hs2 h82 HKK
        go_wp2
        go_roundw
        case rel => exact ⟨k + 1, T2, V2, by omega, by go_num, P.out⟩
        case measure => simp [intOf]; omega
    · obtain rfl : k = D.files.length := by omega
      have c0 : wr.cell? ⟨p, 0, none⟩ = some (.int .i64 D.units) := hdk.cells.cell 0
      have c1 : wr.cell? ⟨p, 1, none⟩ = some (.bool D.armed) := hdk.cells.cell 1
      have c2 : wr.cell? ⟨p, 2, none⟩ = some (.int .i64 D.left) := hdk.cells.cell 2
      have c3 : wr.cell? ⟨p, 3, none⟩ = some (.bool D.gone) := hdk.cells.cell 3
      have f0 := hdk.cells.frozen 0
      have f1 := hdk.cells.frozen 1
      have f2 := hdk.cells.frozen 2
      have f3 := hdk.cells.frozen 3
      have hc4 := (((hdk.cells.set 0 (.int .i64 D.units)).set 1 (.bool false)).set 2 (.int .i64 0)).set 3 (.bool false)
      have P := Lib.hid (show DiskV ((((wr.setCell ⟨p, 0, none⟩ (.int .i64 D.units)).setCell ⟨p, 1, none⟩ (.bool false)).setCell ⟨p, 2, none⟩ (.int .i64 0)).setCell ⟨p, 3, none⟩ (.bool false)) T' p (crashD D m ks) V' from
        hdk.power (by simpa [diskCells, crashD] using hc4) (((((Only.refl (· = p) wr).cellS 0 _).cellS 1 _).cellS 2 _).cellS 3 _) rfl rfl rfl rfl)
      have S := Lib.hid (hsk.trans (step_p hdk.tp (((((Only.refl (· = p) wr).cellS 0 (.int .i64 D.units)).cellS 1 (.bool false)).cellS 2 (.int .i64 0)).cellS 3 (.bool false))))
      clear hc4 hdk hsk h8k
      go_wp2

      go_end0
      exact ⟨rfl, T', ⟨V', P.out⟩, S.out⟩
end Go.Proofs.Ytdfjkcdmbbmipaa
