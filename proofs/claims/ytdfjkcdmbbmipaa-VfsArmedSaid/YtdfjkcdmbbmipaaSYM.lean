/- A file that is written and synced alone, plainly. -/
import Derived.Test.YtdfjkcdmbbmipaaYI
namespace Go.Proofs.Ytdfjkcdmbbmipaa

def nmF : ByteArray := ⟨#[102]⟩
def dirF : Dir := [([102], 0)]
def catW (l : List ActA) : List UInt8 := l.flatMap fun a => a.bytes.data.toList
/-- A file of which the first s bytes of all are synced, and the others wait. -/
structure Sy (all : List UInt8) (s : Nat) (x : FileA) : Prop where
  sure : x.sure.data.toList = all.take s
  le : s ≤ all.length
  kinds : ∀ a ∈ x.waits, a.kind = 2
  cat : catW x.waits = all.drop s
theorem catW_snoc (l : List ActA) (a : ActA) : catW (l ++ [a]) = catW l ++ a.bytes.data.toList := by unfold catW; simp
theorem afterF_writes : ∀ (l : List ActA) (u : Int) (s : List UInt8), (∀ a ∈ l, a.kind = 2) → afterF l u s = s ++ (catW l).take u.toNat
  | [], u, s, _ => by simp [afterF, catW]
  | a :: r, u, s, h => by
    have hk : ¬ a.kind = 3 := by rw [h a (by simp)]; decide
    have e : catW (a :: r) = a.bytes.data.toList ++ catW r := rfl
    by_cases hu : u ≤ 0
    · rw [afterF_stop hu, show u.toNat = 0 by omega]; simp
    · rw [afterF_write hu hk, afterF_writes r _ _ (fun b hb => h b (by simp [hb])), e, List.append_assoc]
      congr 1
      have hs := Lib.size_eq a.bytes
      rw [List.take_append, ← hs]
      have e2 : (u - ((min u.toNat a.bytes.size : Nat) : Int)).toNat = u.toNat - a.bytes.size := by omega
      rw [e2]
      congr 1
      rcases Nat.le_total u.toNat a.bytes.size with hc | hc
      · rw [Nat.min_eq_left hc]
      · rw [Nat.min_eq_right hc, List.take_of_length_le (by omega), List.take_of_length_le (by omega)]
theorem seenL_writes : ∀ (l : List ActA) (s : List UInt8), (∀ a ∈ l, a.kind = 2) → seenL l s = s ++ catW l
  | [], s, _ => by simp [seenL, catW]
  | a :: r, s, h => by
    have hk : ¬ a.kind = 3 := by rw [h a (by simp)]; decide
    show seenL r (stepF s a) = s ++ (a.bytes.data.toList ++ catW r)
    rw [seenL_writes r _ (fun b hb => h b (by simp [hb]))]
    unfold stepF; rw [if_neg hk, List.append_assoc]
theorem Sy.seen {all : List UInt8} {s : Nat} {x : FileA} (h : Sy all s x) : x.seen = all := by
  unfold FileA.seen
  rw [seenL_writes _ _ h.kinds, h.sure, h.cat, List.take_append_drop]
theorem Sy.new : Sy [] 0 newF := ⟨rfl, Nat.le_refl _, (fun a ha => by cases ha), rfl⟩
theorem Sy.more {all : List UInt8} {s : Nat} {x : FileA} (h : Sy all s x) (z t : ByteArray) : Sy (all ++ t.data.toList) s (if 0 < t.size then x.more (wroteA z t t.size) else x) := by
  have hl : all.drop s ++ t.data.toList = (all ++ t.data.toList).drop s := by rw [List.drop_append_of_le_length h.le]
  have ht : (all ++ t.data.toList).take s = all.take s := by rw [List.take_append_of_le_length h.le]
  by_cases h0 : 0 < t.size
  · rw [if_pos h0]
    refine ⟨by rw [ht]; exact h.sure, by rw [List.length_append]; have := h.le; omega, fun a ha => ?_, ?_⟩
    · rcases List.mem_append.1 ha with ha | ha
      · exact h.kinds a ha
      · obtain rfl : a = wroteA z t t.size := by simpa using ha
        rfl
    · show catW (x.waits ++ [wroteA z t t.size]) = _
      rw [catW_snoc, h.cat, ← hl]
      unfold wroteA; rw [extract_all]
  · rw [if_neg h0, empty_of t h0]
    show Sy (all ++ []) s x
    rw [List.append_nil]; exact h
theorem Sy.kept {n : Nat} {all : List UInt8} {s : Nat} {x : FileA} (h : Sy all s x) (hf : FileOk n x) (hn : n ≤ 1000000) : Sy all all.length (x.kept allU) := by
  rw [kept_all hf hn, h.seen]
  refine ⟨by show all = _; rw [List.take_length], Nat.le_refl _, (fun a ha => by cases ha), ?_⟩
  rw [List.drop_length]; rfl
theorem Sy.crashed {all : List UInt8} {s : Nat} {x : FileA} (h : Sy all s x) (keep : Int) : (x.kept keep).seen = all.take (s + (max 0 (min keep ((all.length : Int) - (s : Int)))).toNat) := by
  have hle := h.le
  show afterF x.waits keep x.sure.data.toList = _
  rw [afterF_writes _ _ _ h.kinds, h.sure, h.cat]
  have e : s + (max 0 (min keep ((all.length : Int) - (s : Int)))).toNat = s + min keep.toNat (all.length - s) := by omega
  rw [e, List.take_add]
  congr 1
  rcases Nat.le_total keep.toNat (all.length - s) with hc | hc
  · rw [Nat.min_eq_left hc]
  · rw [Nat.min_eq_right hc, List.take_of_length_le (by rw [List.length_drop]; omega), List.take_of_length_le (by rw [List.length_drop]; omega)]
theorem modF_one (x : FileA) (g : FileA → FileA) : modF [x] 0 g = [g x] := rfl
theorem total_one (x : FileA) : totalL (sizeAt [x]) (dplay [] dirF) = x.seen.length := by
  show x.seen.length + 0 = _
  omega
theorem hF1 : readyE false [nmF] = 0 := by kernel_rfl
theorem hF2 : dget (dplay [] dirF) nmF.data.toList = some 0 := by kernel_rfl
/-- The start. -/
theorem sy_start (room : Int) : createD (freshD room) nmF = (ua 1 room [] [⟨⟨#[]⟩, nmF, 0⟩] [newF] [⟨1, nmF, ⟨#[]⟩, ⟨#[]⟩, 0⟩], 0) ∧
    syncdirD (ua 1 room [] [⟨⟨#[]⟩, nmF, 0⟩] [newF] [⟨1, nmF, ⟨#[]⟩, ⟨#[]⟩, 0⟩]) = (ua 2 room dirF [] [newF] ([⟨1, nmF, ⟨#[]⟩, ⟨#[]⟩, 0⟩] ++ [⟨7, ⟨#[]⟩, ⟨#[]⟩, ⟨#[]⟩, 0⟩]), 0) := by
  refine ⟨create_ua 0 room [] [] [] [] nmF hF1 (by kernel_rfl), ?_⟩
  have := syncdir_ua 1 room [] [⟨⟨#[]⟩, nmF, 0⟩] [newF] [⟨1, nmF, ⟨#[]⟩, ⟨#[]⟩, 0⟩]
  have e : dplay [⟨⟨#[]⟩, nmF, 0⟩] [] = dirF := by kernel_rfl
  rw [e] at this
  exact this
theorem sy_write {all : List UInt8} {s : Nat} {x : FileA} (h : Sy all s x) (u room : Int) (acts : List ActA) (t : ByteArray) (hr : (all.length : Int) + t.size ≤ room) :
    ∃ acts', writeD (ua u room dirF [] [x] acts) nmF t = (ua (u + t.size) room dirF [] [if 0 < t.size then x.more (wroteA nmF t t.size) else x] acts', 0) := by
  have hfr := free_ua u room dirF [] [x] acts x.seen.length (total_one x)
  rw [h.seen] at hfr
  obtain ⟨a', E⟩ := write_ua u room dirF [] [x] acts nmF t 0 hF1 hF2 (by rw [hfr]; omega)
  refine ⟨a', ?_⟩
  rw [E]
  by_cases h0 : 0 < t.size
  · rw [if_pos h0, if_pos h0]; rfl
  · rw [if_neg h0, if_neg h0]
theorem sy_sync (u room : Int) (acts : List ActA) (x : FileA) : syncD (ua u room dirF [] [x] acts) nmF = (ua (u + 1) room dirF [] [x.kept allU] (acts ++ [⟨4, nmF, ⟨#[]⟩, ⟨#[]⟩, 0⟩]), 0) :=
  sync_ua u room dirF [] [x] acts nmF 0 hF1 hF2
theorem sy_crash (u room : Int) (acts : List ActA) (x : FileA) (keep : Int) : crashD (ua u room dirF [] [x] acts) 0 [keep] = ua u room dirF [] [x.kept keep] acts := rfl
theorem sy_read (u room : Int) (acts : List ActA) (x : FileA) : readR (ua u room dirF [] [x] acts) nmF = (⟨x.seen.toArray⟩, 0) :=
  read_ua u room dirF [x] acts nmF 0 x [] hF1 hF2 rfl
theorem sy_free (u room : Int) (acts : List ActA) (x : FileA) : freeD (ua u room dirF [] [x] acts) = max (room - (x.seen.length : Nat)) 0 := free_ua u room dirF [] [x] acts _ (total_one x)
end Go.Proofs.Ytdfjkcdmbbmipaa
