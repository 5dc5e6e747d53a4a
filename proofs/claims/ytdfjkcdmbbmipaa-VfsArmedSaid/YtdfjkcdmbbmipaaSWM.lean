/- What VfsSwaps does with its disk, plainly. -/
import Derived.Test.YtdfjkcdmbbmipaaYD
namespace Go.Proofs.Ytdfjkcdmbbmipaa

def nmB : ByteArray := ⟨#[98]⟩
/-- An unarmed disk. -/
def ua (u room : Int) (s : Dir) (ws : List ChangeA) (fs : List FileA) (acts : List ActA) : ADisk := ⟨u, false, 0, false, room, s, ws, fs, acts⟩
theorem create_ua (u room : Int) (s : Dir) (ws : List ChangeA) (fs : List FileA) (acts : List ActA) (z : ByteArray) (h1 : readyE false [z] = 0) (h2 : dget (dplay ws s) z.data.toList = none) :
    createD (ua u room s ws fs acts) z = (ua (u + 1) room s (ws ++ [⟨⟨#[]⟩, z, fs.length⟩]) (fs ++ [newF]) (acts ++ [⟨1, z, ⟨#[]⟩, ⟨#[]⟩, 0⟩]), 0) := by
  unfold createD
  have e1 : readyE (ua u room s ws fs acts).gone [z] = 0 := h1
  have e2 : dget (ua u room s ws fs acts).seen z.data.toList = none := h2
  rw [e1, e2]
  rfl
theorem asked_ua (u room : Int) (s : Dir) (ws : List ChangeA) (fs : List FileA) (acts : List ActA) (z : ByteArray) (zr : List ByteArray) (f : Nat) (h1 : readyE false (z :: zr) = 0) (h2 : dget (dplay ws s) z.data.toList = some f) :
    asked (ua u room s ws fs acts) z zr = (f, 0) := by
  unfold asked
  have e1 : readyE (ua u room s ws fs acts).gone (z :: zr) = 0 := h1
  have e2 : dget (ua u room s ws fs acts).seen z.data.toList = some f := h2
  rw [e1, e2]; rfl
theorem write_ua (u room : Int) (s : Dir) (ws : List ChangeA) (fs : List FileA) (acts : List ActA) (z t : ByteArray) (f : Nat) (h1 : readyE false [z] = 0) (h2 : dget (dplay ws s) z.data.toList = some f) (hfree : (t.size : Int) ≤ freeD (ua u room s ws fs acts)) :
    ∃ acts', writeD (ua u room s ws fs acts) z t = (ua (u + t.size) room s ws (if 0 < t.size then modF fs f fun x => x.more (wroteA z t t.size) else fs) acts', 0) := by
  have ha := asked_ua u room s ws fs acts z [] f h1 h2
  have hsp : spent (ua u room s ws fs acts).armed (ua u room s ws fs acts).left t.size = (t.size : Int) := rfl
  unfold writeD
  rw [ha]
  dsimp only
  rw [if_neg (by simp), if_neg (by omega), hsp, Int.toNat_natCast, if_neg (Nat.lt_irrefl _)]
  by_cases ht : 0 < t.size
  · rw [if_pos ht, if_pos ht]; exact ⟨_, rfl⟩
  · rw [if_neg ht, if_neg ht]; exact ⟨acts, rfl⟩
theorem sync_ua (u room : Int) (s : Dir) (ws : List ChangeA) (fs : List FileA) (acts : List ActA) (z : ByteArray) (f : Nat) (h1 : readyE false [z] = 0) (h2 : dget (dplay ws s) z.data.toList = some f) :
    syncD (ua u room s ws fs acts) z = (ua (u + 1) room s ws (modF fs f fun x => x.kept allU) (acts ++ [⟨4, z, ⟨#[]⟩, ⟨#[]⟩, 0⟩]), 0) := by
  unfold syncD
  rw [asked_ua u room s ws fs acts z [] f h1 h2]
  rfl
theorem syncdir_ua (u room : Int) (s : Dir) (ws : List ChangeA) (fs : List FileA) (acts : List ActA) :
    syncdirD (ua u room s ws fs acts) = (ua (u + 1) room (dplay ws s) [] fs (acts ++ [⟨7, ⟨#[]⟩, ⟨#[]⟩, ⟨#[]⟩, 0⟩]), 0) := rfl
theorem rename_ua (u room : Int) (s : Dir) (ws : List ChangeA) (fs : List FileA) (acts : List ActA) (a b : ByteArray) (f : Nat) (hab : a ≠ b) (h1 : readyE false [a, b] = 0) (h2 : dget (dplay ws s) a.data.toList = some f) :
    renameD (ua u room s ws fs acts) a b = (ua (u + 1) room s (ws ++ [⟨a, b, f⟩]) fs (acts ++ [⟨5, a, b, ⟨#[]⟩, 0⟩]), 0) := by
  unfold renameD
  rw [asked_ua u room s ws fs acts a [b] f h1 h2]
  dsimp only
  rw [if_neg (by simp), if_neg hab]
  rfl
theorem extract_all (t : ByteArray) : t.extract 0 t.size = t := by
  rw [← Lib.mk_data (t.extract 0 t.size), extract_take, List.take_of_length_le (by rw [← Lib.size_eq]; exact Nat.le_refl _), Lib.mk_data]
theorem seen_more (x : FileA) (z t : ByteArray) : (x.more (wroteA z t t.size)).seen = x.seen ++ t.data.toList := by
  show seenL (x.waits ++ [wroteA z t t.size]) x.sure.data.toList = _
  rw [seenL_snoc]
  unfold stepF wroteA
  rw [if_neg (by show ¬ (2 : Nat) = 3; decide), extract_all]; rfl
theorem kept_all {n : Nat} {x : FileA} (h : FileOk n x) (hn : n ≤ 1000000) : x.kept allU = ⟨⟨x.seen.toArray⟩, []⟩ := by
  unfold FileA.kept
  rw [afterF_all _ _ _ (by have := h.units; unfold allU; omega)]; rfl
/-- What a new file is behind a write and a sync. -/
theorem wrote_kept (z t : ByteArray) (ht : t.size ≤ 1000) : (newF.more (wroteA z t t.size)).kept allU = ⟨t, []⟩ := by
  have ok : FileOk 1000 (newF.more (wroteA z t t.size)) := by
    refine ⟨?_, ?_, ?_, ?_, ?_⟩
    · show fitsW [wroteA z t t.size] _; unfold fitsW wroteA; rw [if_neg (by show ¬ (2 : Nat) = 3; decide)]; exact trivial
    · show 0 + lenW [wroteA z t t.size] ≤ 1000; unfold lenW wroteA; rw [extract_all]; simp; exact ht
    · show unitsL [wroteA z t t.size] ≤ 1000; unfold unitsL wroteA; rw [extract_all]; simp; exact ht
    · show 1 ≤ 1000; decide
    · intro a ha; obtain rfl : a = wroteA z t t.size := by simpa [FileA.more, newF] using ha
      show 2 ≤ 3; decide
  rw [kept_all ok (by decide), seen_more]
  show (⟨⟨([] ++ t.data.toList).toArray⟩, []⟩ : FileA) = _
  rw [List.nil_append, Lib.mk_data]
theorem new_kept : newF.kept allU = newF := rfl
theorem plain_kept (t : ByteArray) (u : Int) : (⟨t, []⟩ : FileA).kept u = ⟨t, []⟩ := by
  show (⟨⟨t.data.toList.toArray⟩, []⟩ : FileA) = _
  rw [Lib.mk_data]
theorem empty_of (t : ByteArray) (h : ¬ 0 < t.size) : t = ⟨#[]⟩ := by
  have e : t.data.toList = [] := List.eq_nil_of_length_eq_zero (by rw [← Lib.size_eq]; omega)
  rw [← Lib.mk_data t, e]
theorem ws_one (z t : ByteArray) (ht : t.size ≤ 1000) : modF (if 0 < t.size then modF [newF] 0 fun x => x.more (wroteA z t t.size) else [newF]) 0 (fun x => x.kept allU) = [⟨t, []⟩] := by
  by_cases h : 0 < t.size
  · rw [if_pos h]
    show [(newF.more (wroteA z t t.size)).kept allU] = _
    rw [wrote_kept z t ht]
  · rw [if_neg h]
    rw [empty_of t h]; rfl
theorem ws_two (x : FileA) (z t : ByteArray) (ht : t.size ≤ 1000) : modF (if 0 < t.size then modF [x, newF] 1 fun x => x.more (wroteA z t t.size) else [x, newF]) 1 (fun x => x.kept allU) = [x, ⟨t, []⟩] := by
  by_cases h : 0 < t.size
  · rw [if_pos h]
    show [x, (newF.more (wroteA z t t.size)).kept allU] = _
    rw [wrote_kept z t ht]
  · rw [if_neg h]
    rw [empty_of t h]; rfl
def dirA : Dir := [([97], 0)]
def chB : ChangeA := ⟨⟨#[]⟩, nmB, 1⟩
def chR : ChangeA := ⟨nmB, nmA, 1⟩
theorem crash_two (u room : Int) (s : Dir) (ws : List ChangeA) (x y : ByteArray) (acts : List ActA) (m : Int) (ks : List Int) :
    crashD (ua u room s ws [⟨x, []⟩, ⟨y, []⟩] acts) m ks = ua u room (dplay (ws.take (keptN m ws.length)) s) [] [⟨x, []⟩, ⟨y, []⟩] acts := by
  unfold crashD
  have e : crashTo (ua u room s ws [⟨x, []⟩, ⟨y, []⟩] acts).files ks (ua u room s ws [⟨x, []⟩, ⟨y, []⟩] acts).files.length = [⟨x, []⟩, ⟨y, []⟩] := by
    show modF (modF [⟨x, []⟩, ⟨y, []⟩] 0 fun f => f.kept (ks.getD 0 0)) 1 (fun f => f.kept (ks.getD 1 0)) = _
    show modF [(⟨x, []⟩ : FileA).kept (ks.getD 0 0), ⟨y, []⟩] 1 (fun f => f.kept (ks.getD 1 0)) = _
    rw [plain_kept]
    show [(⟨x, []⟩ : FileA), (⟨y, []⟩ : FileA).kept (ks.getD 1 0)] = _
    rw [plain_kept]
  rw [e]; rfl
theorem kept_two (m : Int) : (2 ≤ m ∧ keptN m 2 = 2) ∨ (m = 1 ∧ keptN m 2 = 1) ∨ (m ≤ 0 ∧ keptN m 2 = 0) := by unfold keptN; omega
theorem read_ua (u room : Int) (s : Dir) (fs : List FileA) (acts : List ActA) (z : ByteArray) (f : Nat) (x : FileA) (ws : List ChangeA) (h1 : readyE false [z] = 0) (h2 : dget (dplay ws s) z.data.toList = some f) (h3 : fs[f]? = some x) :
    readR (ua u room s ws fs acts) z = (⟨x.seen.toArray⟩, 0) := by
  unfold readR
  rw [asked_ua u room s ws fs acts z [] f h1 h2]
  have e : (ua u room s ws fs acts).files[f]? = some x := h3
  dsimp only
  rw [if_neg (by show ¬ (false = true); decide), if_neg (by simp), e]
theorem read_ua_none (u room : Int) (s : Dir) (fs : List FileA) (acts : List ActA) (z : ByteArray) (ws : List ChangeA) (h1 : readyE false [z] = 0) (h2 : dget (dplay ws s) z.data.toList = none) :
    readR (ua u room s ws fs acts) z = (⟨#[]⟩, 7) := by
  unfold readR asked
  have e1 : readyE (ua u room s ws fs acts).gone [z] = 0 := h1
  have e2 : dget (ua u room s ws fs acts).seen z.data.toList = none := h2
  rw [e1, e2]; rfl
theorem plain_seen (t : ByteArray) : (⟨(⟨t, []⟩ : FileA).seen.toArray⟩ : ByteArray) = t := by
  show (⟨t.data.toList.toArray⟩ : ByteArray) = t
  rw [Lib.mk_data]

theorem free_ua (u room : Int) (s : Dir) (ws : List ChangeA) (fs : List FileA) (acts : List ActA) (k : Nat) (h : totalL (sizeAt fs) (dplay ws s) = k) : freeD (ua u room s ws fs acts) = max (room - (k : Nat)) 0 := by
  unfold freeD
  have : totalL (sizeAt (ua u room s ws fs acts).files) (ua u room s ws fs acts).seen = k := h
  rw [this]; rfl
/-- All that VfsSwaps does till the crash. -/
structure Swaps (old fresh : ByteArray) (D1 D2 D3 D4 D5 D6 D7 D8 : ADisk) : Prop where
  e1 : createD (freshD 10000) nmA = (D1, 0)
  e2 : writeD D1 nmA old = (D2, 0)
  e3 : syncD D2 nmA = (D3, 0)
  e4 : syncdirD D3 = (D4, 0)
  e5 : createD D4 nmB = (D5, 0)
  e6 : writeD D5 nmB fresh = (D6, 0)
  e7 : syncD D6 nmB = (D7, 0)
  e8 : renameD D7 nmB nmA = (D8, 0)
  r8 : readR D8 nmA = (fresh, 0)
  c2 : ∀ m ks, 2 ≤ m → readR (crashD D8 m ks) nmA = (fresh, 0) ∧ readR (crashD D8 m ks) nmB = (⟨#[]⟩, 7)
  c1 : ∀ ks, readR (crashD D8 1 ks) nmA = (old, 0) ∧ (readR (crashD D8 1 ks) nmB).2 = 0
  c0 : ∀ m ks, m ≤ 0 → readR (crashD D8 m ks) nmA = (old, 0) ∧ readR (crashD D8 m ks) nmB = (⟨#[]⟩, 7)
theorem swaps_all (old fresh : ByteArray) (ho : old.size ≤ 300) (hf : fresh.size ≤ 300) : ∃ D1 D2 D3 D4 D5 D6 D7 D8, Swaps old fresh D1 D2 D3 D4 D5 D6 D7 D8 := by
  have hA1 : readyE false [nmA] = 0 := by kernel_rfl
  have hB1 : readyE false [nmB] = 0 := by kernel_rfl
  have hBA : readyE false [nmB, nmA] = 0 := by kernel_rfl
  have E1 := create_ua 0 10000 [] [] [] [] nmA hA1 (by kernel_rfl)
  have f1 : freeD (ua (0 + 1) 10000 [] ([] ++ [⟨⟨#[]⟩, nmA, ([] : List FileA).length⟩]) ([] ++ [newF]) ([] ++ [⟨1, nmA, ⟨#[]⟩, ⟨#[]⟩, 0⟩])) = 10000 := by kernel_rfl
  obtain ⟨a2, E2⟩ := write_ua (0 + 1) 10000 [] ([] ++ [⟨⟨#[]⟩, nmA, ([] : List FileA).length⟩]) ([] ++ [newF]) ([] ++ [⟨1, nmA, ⟨#[]⟩, ⟨#[]⟩, 0⟩]) nmA old 0 hA1 (by kernel_rfl) (by rw [f1]; omega)
  have E3 := sync_ua (0 + 1 + old.size) 10000 [] ([] ++ [⟨⟨#[]⟩, nmA, ([] : List FileA).length⟩]) (if 0 < old.size then modF [newF] 0 fun x => x.more (wroteA nmA old old.size) else [newF]) a2 nmA 0 hA1 (by kernel_rfl)
  rw [ws_one nmA old (by omega)] at E3
  have E4 := syncdir_ua (0 + 1 + old.size + 1) 10000 [] ([] ++ [⟨⟨#[]⟩, nmA, ([] : List FileA).length⟩]) [⟨old, []⟩] (a2 ++ [⟨4, nmA, ⟨#[]⟩, ⟨#[]⟩, 0⟩])
  have d4 : dplay ([] ++ [⟨⟨#[]⟩, nmA, ([] : List FileA).length⟩]) [] = dirA := by kernel_rfl
  rw [d4] at E4
  generalize a2 ++ [⟨4, nmA, ⟨#[]⟩, ⟨#[]⟩, 0⟩] ++ [⟨7, ⟨#[]⟩, ⟨#[]⟩, ⟨#[]⟩, 0⟩] = a4 at *
  generalize (0 : Int) + 1 + old.size + 1 + 1 = u4 at *
  have E5 := create_ua u4 10000 dirA [] [⟨old, []⟩] a4 nmB hB1 (by kernel_rfl)
  have e5 : ([] ++ [⟨⟨#[]⟩, nmB, ([⟨old, []⟩] : List FileA).length⟩] : List ChangeA) = [chB] := rfl
  have e5' : ([⟨old, []⟩] ++ [newF] : List FileA) = [⟨old, []⟩, newF] := rfl
  rw [e5, e5'] at E5
  generalize a4 ++ [⟨1, nmB, ⟨#[]⟩, ⟨#[]⟩, 0⟩] = a5 at *
  have t5 : totalL (sizeAt [⟨old, []⟩, newF]) (dplay [chB] dirA) = old.size := by
    show old.data.toList.length + (0 + 0) = old.size
    have := Lib.size_eq old
    omega
  have f5 := free_ua (u4 + 1) 10000 dirA [chB] [⟨old, []⟩, newF] a5 old.size t5
  obtain ⟨a6, E6⟩ := write_ua (u4 + 1) 10000 dirA [chB] [⟨old, []⟩, newF] a5 nmB fresh 1 hB1 (by kernel_rfl) (by rw [f5]; omega)
  have E7 := sync_ua (u4 + 1 + fresh.size) 10000 dirA [chB] (if 0 < fresh.size then modF [⟨old, []⟩, newF] 1 fun x => x.more (wroteA nmB fresh fresh.size) else [⟨old, []⟩, newF]) a6 nmB 1 hB1 (by kernel_rfl)
  rw [ws_two ⟨old, []⟩ nmB fresh (by omega)] at E7
  generalize a6 ++ [⟨4, nmB, ⟨#[]⟩, ⟨#[]⟩, 0⟩] = a7 at *
  have E8 := rename_ua (u4 + 1 + fresh.size + 1) 10000 dirA [chB] [⟨old, []⟩, ⟨fresh, []⟩] a7 nmB nmA 1 (by decide) hBA (by kernel_rfl)
  have e8 : ([chB] ++ [⟨nmB, nmA, 1⟩] : List ChangeA) = [chB, chR] := rfl
  rw [e8] at E8
  refine ⟨_, _, _, _, _, _, _, _, E1, E2, E3, E4, E5, E6, E7, E8, ?_, fun m ks hm => ?_, fun ks => ?_, fun m ks hm => ?_⟩
  · rw [read_ua _ _ _ _ _ nmA 1 ⟨fresh, []⟩ [chB, chR] hA1 (by kernel_rfl) rfl, plain_seen]
  · rw [crash_two]
    have hk : keptN m [chB, chR].length = 2 := by unfold keptN; show min m.toNat 2 = 2; omega
    rw [hk]
    have hd : dplay ([chB, chR].take 2) dirA = [([97], 1)] := by kernel_rfl
    rw [hd]
    exact ⟨by rw [read_ua _ _ _ _ _ nmA 1 ⟨fresh, []⟩ [] hA1 (by kernel_rfl) rfl, plain_seen], read_ua_none _ _ _ _ _ nmB [] hB1 (by kernel_rfl)⟩
  · rw [crash_two]
    have hk : keptN 1 [chB, chR].length = 1 := rfl
    rw [hk]
    have hd : dplay ([chB, chR].take 1) dirA = [([97], 0), ([98], 1)] := by kernel_rfl
    rw [hd]
    exact ⟨by rw [read_ua _ _ _ _ _ nmA 0 ⟨old, []⟩ [] hA1 (by kernel_rfl) rfl, plain_seen], by
      have q := read_ua (u4 + 1 + fresh.size + 1 + 1) 10000 [([97], 0), ([98], 1)] [⟨old, []⟩, ⟨fresh, []⟩] (a7 ++ [⟨5, nmB, nmA, ⟨#[]⟩, 0⟩]) nmB 1 ⟨fresh, []⟩ [] hB1 (by kernel_rfl) rfl
      exact congrArg Prod.snd q⟩
  · rw [crash_two]
    have hk : keptN m [chB, chR].length = 0 := by unfold keptN; show min m.toNat 2 = 0; omega
    rw [hk]
    have hd : dplay ([chB, chR].take 0) dirA = dirA := rfl
    rw [hd]
    exact ⟨by rw [read_ua _ _ _ _ _ nmA 0 ⟨old, []⟩ [] hA1 (by kernel_rfl) rfl, plain_seen], read_ua_none _ _ _ _ _ nmB [] hB1 (by kernel_rfl)⟩
end Go.Proofs.Ytdfjkcdmbbmipaa
