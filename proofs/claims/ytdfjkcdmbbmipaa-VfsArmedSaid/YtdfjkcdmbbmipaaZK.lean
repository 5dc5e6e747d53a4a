/- An operation of an armed disk: what it leaves. -/
import Derived.Test.YtdfjkcdmbbmipaaZA
import Derived.Test.YtdfjkcdmbbmipaaZI
import Derived.Test.YtdfjkcdmbbmipaaYE
namespace Go.Proofs.Ytdfjkcdmbbmipaa
open Go.RowKit Go.Maps

/-- An armed disk that does t units in all. -/
structure Arm (t : Int) (D : ADisk) : Prop where
  armed : D.armed = true
  sum : D.left + D.units = t
  low : 0 ≤ D.left
  down : D.gone = true → D.left = 0
/-- What an operation leaves: the same sum; nothing more where the power is off. -/
structure Arms (t : Int) (D D' : ADisk) : Prop where
  arm : Arm t D'
  still : D.gone = true → D'.units = D.units
theorem Arms.refl {t : Int} {D : ADisk} (h : Arm t D) : Arms t D D := ⟨h, fun _ => rfl⟩
theorem Arms.same {t : Int} {D D' D'' : ADisk} (h : Arms t D D') (h1 : D''.armed = D'.armed) (h2 : D''.left = D'.left) (h3 : D''.units = D'.units) (h4 : D''.gone = D'.gone) : Arms t D D'' :=
  ⟨⟨h1.trans h.arm.armed, by rw [h2, h3]; exact h.arm.sum, by rw [h2]; exact h.arm.low, fun hg => by rw [h2]; exact h.arm.down (h4.symm.trans hg)⟩, fun hg => h3.trans (h.still hg)⟩
theorem arms_down {t : Int} {D : ADisk} (h : Arm t D) (hc : canDo D = false) : Arms t D (downD D) := by
  have hl : D.left < 1 := by unfold canDo at hc; rw [h.armed] at hc; simpa using hc
  have := h.low
  exact ⟨⟨h.armed, h.sum, h.low, fun _ => by show D.left = 0; omega⟩, fun _ => rfl⟩
theorem arms_did {t : Int} {D : ADisk} (h : Arm t D) (hc : canDo D = true) (a : ActA) : Arms t D (didD D a) := by
  have hl : ¬ D.left < 1 := by unfold canDo at hc; rw [h.armed] at hc; simpa using hc
  have hs := h.sum
  have el : (didD D a).left = D.left - 1 := by show (if D.armed then D.left - 1 else D.left) = _; rw [h.armed]; rfl
  refine ⟨⟨h.armed, ?_, ?_, fun hg => ?_⟩, fun hg => ?_⟩
  · rw [el]; show D.left - 1 + (D.units + 1) = t; omega
  · rw [el]; omega
  · have := h.down hg; omega
  · have := h.down hg; omega
theorem arms_spent {t : Int} {D : ADisk} (h : Arm t D) (k : Int) (hk : 0 ≤ k) : Arms t D (spentD D k) := by
  have hs := h.sum
  have hlow := h.low
  have hsp : spent D.armed D.left k = if D.left < k then D.left else k := by
    unfold spent; rw [h.armed]; simp
  have el : (spentD D k).left = D.left - spent D.armed D.left k := by show (if D.armed then _ else _) = _; rw [h.armed]; rfl
  refine ⟨⟨h.armed, ?_, ?_, fun hg => ?_⟩, fun hg => ?_⟩
  · rw [el]; show D.left - _ + (D.units + spent D.armed D.left k) = t; omega
  · rw [el, hsp]; split <;> omega
  · rw [el, hsp]
    have hg' : (D.gone || (D.armed && decide (D.left < k))) = true := hg
    rw [h.armed] at hg'
    simp at hg'
    rcases hg' with hg' | hg'
    · have := h.down hg'; split <;> omega
    · rw [if_pos hg']; omega
  · have := h.down hg
    show D.units + spent D.armed D.left k = D.units
    rw [hsp]; split <;> omega
def act0 : ActA := ⟨0, ⟨#[]⟩, ⟨#[]⟩, ⟨#[]⟩, 0⟩
theorem arms_create {t : Int} {D : ADisk} (h : Arm t D) (z : ByteArray) : Arms t D (createD D z).1 := by
  unfold createD
  split
  · exact .refl h
  · split
    · exact .refl h
    · split
      · rename_i hc; exact (arms_did h hc act0).same rfl rfl rfl rfl
      · rename_i hc; exact arms_down h (by simpa using hc)
theorem arms_sync {t : Int} {D : ADisk} (h : Arm t D) (z : ByteArray) : Arms t D (syncD D z).1 := by
  unfold syncD
  split
  · exact .refl h
  · split
    · rename_i hc; exact (arms_did h hc act0).same rfl rfl rfl rfl
    · rename_i hc; exact arms_down h (by simpa using hc)
theorem arms_remove {t : Int} {D : ADisk} (h : Arm t D) (z : ByteArray) : Arms t D (removeD D z).1 := by
  unfold removeD
  split
  · exact .refl h
  · split
    · rename_i hc; exact (arms_did h hc act0).same rfl rfl rfl rfl
    · rename_i hc; exact arms_down h (by simpa using hc)
theorem arms_syncdir {t : Int} {D : ADisk} (h : Arm t D) : Arms t D (syncdirD D).1 := by
  unfold syncdirD
  split
  · exact .refl h
  · split
    · rename_i hc; exact (arms_did h hc act0).same rfl rfl rfl rfl
    · rename_i hc; exact arms_down h (by simpa using hc)
theorem arms_rename {t : Int} {D : ADisk} (h : Arm t D) (a b : ByteArray) : Arms t D (renameD D a b).1 := by
  unfold renameD
  split
  · exact .refl h
  · split
    · rename_i hc
      split
      · exact arms_did h hc _
      · exact (arms_did h hc act0).same rfl rfl rfl rfl
    · rename_i hc; exact arms_down h (by simpa using hc)
theorem arms_cut {t : Int} {D : ADisk} (h : Arm t D) (z : ByteArray) (k : Int) : Arms t D (cutD D z k).1 := by
  unfold cutD
  split
  · exact .refl h
  · split
    · exact .refl h
    · split
      · rename_i hc; exact (arms_did h hc act0).same rfl rfl rfl rfl
      · rename_i hc; exact arms_down h (by simpa using hc)
theorem arms_write {t : Int} {D : ADisk} (h : Arm t D) (z x : ByteArray) : Arms t D (writeD D z x).1 := by
  unfold writeD
  split
  · exact .refl h
  · split
    · exact .refl h
    · dsimp only
      split
      · exact (arms_spent h _ (Int.natCast_nonneg _)).same rfl rfl rfl rfl
      · exact arms_spent h _ (Int.natCast_nonneg _)
theorem cut_fine {n : Nat} {D : ADisk} (h : Fine n D) (z : ByteArray) (k : Int) : Fine (n + 2) (cutD D z k).1 := by
  unfold cutD
  split
  · exact h.mono (by omega)
  · rename_i ha
    split
    · exact h.mono (by omega)
    · rename_i hk
      split
      · rename_i hc
        rcases asked_cases h z [] with ⟨f, ea, hfl, _, _⟩ | ea
        · rw [ea] at hk ⊢
          dsimp only at hk ⊢
          have hsz : seenSize D f = D.files[f].seen.length := by unfold seenSize sizeAt; rw [List.getElem?_eq_getElem hfl]
          rw [hsz] at hk
          have := more_fine (k := 1) (did_fine h hc (cutA z k.toNat)) (f := f) hfl (cutA z k.toNat) (.inr rfl) (fun _ => by show k.toNat ≤ D.files[f].seen.length; omega) (Nat.zero_le _) (Nat.le_refl _)
          unfold modF
          rw [dif_pos hfl]
          exact this
        · rcases ea with ea | ea | ea <;> rw [ea] at ha <;> simp at ha
      · exact (down_fine h).mono (by omega)
/-- What an operation of a disk leaves: an error by its number; the disk, armed as it was; the rest as it lay. -/
def ArmR (t : Int) (n p : Nat) (D : ADisk) (w : World) (T : Nat → Nat) (e : Ending) (w' : World) : Prop :=
  (∃ en : Nat, en ≤ 12 ∧ e = .returned (errV en)) ∧ ∃ T' D', DiskAt w' T' p D' ∧ Fine (n + 402) D' ∧ Arms t D D' ∧ Step w T w' T'
theorem le12 {α : Type} {a : α} {n : Nat} (h : n ≤ 12) : ((a, n) : α × Nat).2 ≤ 12 := h
theorem asked_le {n : Nat} {D : ADisk} (hf : Fine n D) (z : ByteArray) (zr : List ByteArray) : (asked D z zr).2 ≤ 12 := by
  rcases asked_cases hf z zr with ⟨f, e, _⟩ | e | e | e <;> rw [e] <;> exact le12 (by decide)
theorem ready_le (g : Bool) (zs : List ByteArray) : readyE g zs ≤ 12 := by
  rcases readyE_cases g zs with e | e | e <;> rw [e] <;> decide
section
variable {w : World} {T : Nat → Nat} {p n : Nat} {D : ADisk} {t : Int}
theorem create_arm (hA : DiskAt w T p D) (hf : Fine n D) (hn : n ≤ 200000) (ha : Arm t D) (z : ByteArray) (hz : z.size ≤ 1000) :
    Calls Try.prog 14 #[.pointer (some ⟨p, 0, none⟩), .string z] w (ArmR t n p D w T) := by
  refine (create_any hA hf (by omega) z (by omega)).mono ?_
  rintro e w' ⟨rfl, T', hd, hs⟩
  refine ⟨⟨_, ?_, rfl⟩, T', _, hd, (create_fine hf z (by omega)).mono (by omega), arms_create ha z, hs⟩
  have := ready_le D.gone [z]
  unfold createD; split; exact this; split; exact le12 (by decide); split <;> exact le12 (by decide)
theorem write_arm (hA : DiskAt w T p D) (hf : Fine n D) (hn : n ≤ 200000) (ha : Arm t D) (z x : ByteArray) (hz : z.size ≤ 1000) (hx : x.size ≤ 200) :
    Calls Try.prog 16 #[.pointer (some ⟨p, 0, none⟩), .string z, .string x] w (ArmR t n p D w T) := by
  refine (write_any hA hf (by omega) z x (by omega) (by omega)).mono ?_
  rintro e w' ⟨rfl, T', hd, hs⟩
  refine ⟨⟨_, ?_, rfl⟩, T', _, hd, (write_fine hf z x).mono (by omega), arms_write ha z x, hs⟩
  have := asked_le hf z []
  unfold writeD; split; exact this; split; exact le12 (by decide); dsimp only; split <;> decide
theorem cut_arm (hA : DiskAt w T p D) (hf : Fine n D) (hn : n ≤ 200000) (ha : Arm t D) (z : ByteArray) (k : Int) (hz : z.size ≤ 1000) (hk1 : -9223372036854775808 ≤ k) (hk2 : k ≤ 9223372036854775807) :
    Calls Try.prog 26 #[.pointer (some ⟨p, 0, none⟩), .string z, .int .i64 k] w (ArmR t n p D w T) := by
  refine (cut_any hA hf (by omega) z (by omega) k hk1 hk2).mono ?_
  rintro e w' ⟨rfl, T', hd, hs⟩
  refine ⟨⟨_, ?_, rfl⟩, T', _, hd, (cut_fine hf z k).mono (by omega), arms_cut ha z k, hs⟩
  have := asked_le hf z []
  unfold cutD; split; exact this; split; exact le12 (by decide); split <;> exact le12 (by decide)
theorem sync_arm (hA : DiskAt w T p D) (hf : Fine n D) (hn : n ≤ 200000) (ha : Arm t D) (z : ByteArray) (hz : z.size ≤ 1000) :
    Calls Try.prog 17 #[.pointer (some ⟨p, 0, none⟩), .string z] w (ArmR t n p D w T) := by
  refine (sync_any hA hf (by omega) z (by omega)).mono ?_
  rintro e w' ⟨rfl, T', hd, hs⟩
  refine ⟨⟨_, ?_, rfl⟩, T', _, hd, (sync_fine hf z).mono (by omega), arms_sync ha z, hs⟩
  have := asked_le hf z []
  unfold syncD; split; exact this; split <;> exact le12 (by decide)
theorem rename_arm (hA : DiskAt w T p D) (hf : Fine n D) (hn : n ≤ 200000) (ha : Arm t D) (z x : ByteArray) (hz : z.size ≤ 1000) (hx : x.size ≤ 1000) :
    Calls Try.prog 27 #[.pointer (some ⟨p, 0, none⟩), .string z, .string x] w (ArmR t n p D w T) := by
  refine (rename_any hA hf (by omega) z x (by omega) (by omega)).mono ?_
  rintro e w' ⟨rfl, T', hd, hs⟩
  refine ⟨⟨_, ?_, rfl⟩, T', _, hd, (rename_fine hf z x (by omega) (by omega)).mono (by omega), arms_rename ha z x, hs⟩
  have := asked_le hf z [x]
  unfold renameD; split; exact this; split; split <;> exact le12 (by decide); exact le12 (by decide)
theorem remove_arm (hA : DiskAt w T p D) (hf : Fine n D) (hn : n ≤ 200000) (ha : Arm t D) (z : ByteArray) (hz : z.size ≤ 1000) :
    Calls Try.prog 28 #[.pointer (some ⟨p, 0, none⟩), .string z] w (ArmR t n p D w T) := by
  refine (remove_any hA hf (by omega) z (by omega)).mono ?_
  rintro e w' ⟨rfl, T', hd, hs⟩
  refine ⟨⟨_, ?_, rfl⟩, T', _, hd, (remove_fine hf z (by omega) (fun h => by have := asked_lt hf z [] h; omega)).mono (by omega), arms_remove ha z, hs⟩
  have := asked_le hf z []
  unfold removeD; split; exact this; split <;> exact le12 (by decide)
theorem syncdir_arm (hA : DiskAt w T p D) (hf : Fine n D) (hn : n ≤ 200000) (ha : Arm t D) :
    Calls Try.prog 15 #[.pointer (some ⟨p, 0, none⟩)] w (ArmR t n p D w T) := by
  refine (syncdir_any hA hf (by omega)).mono ?_
  rintro e w' ⟨rfl, T', hd, hs⟩
  refine ⟨⟨_, ?_, rfl⟩, T', _, hd, (syncdir_fine hf).mono (by omega), arms_syncdir ha, hs⟩
  unfold syncdirD; split; exact le12 (by decide); split <;> exact le12 (by decide)
/-- Read: a text beside the error. -/
def ArmS (t : Int) (n p : Nat) (D : ADisk) (w : World) (T : Nat → Nat) (e : Ending) (w' : World) : Prop :=
  (∃ (s : ByteArray) (en : Nat), en ≤ 12 ∧ e = .returned (.tuple #[.string s, errV en])) ∧ ∃ T' D', DiskAt w' T' p D' ∧ Fine (n + 402) D' ∧ Arms t D D' ∧ Step w T w' T'
theorem read_arm (hA : DiskAt w T p D) (hf : Fine n D) (hn : n ≤ 200000) (ha : Arm t D) (z : ByteArray) (hz : z.size ≤ 1000) :
    Calls Try.prog 19 #[.pointer (some ⟨p, 0, none⟩), .string z] w (ArmS t n p D w T) := by
  refine (read_any hA hf (by omega) z (by omega)).mono ?_
  rintro e w' ⟨rfl, hb⟩
  refine ⟨⟨_, _, ?_, rfl⟩, T, D, hA.below hb, hf.mono (by omega), .refl ha, Step.below hb⟩
  have := asked_le hf z []
  unfold readR
  split
  · exact le12 (by decide)
  · split
    · exact this
    · exact le12 (by decide)
end
/-- What lay untagged lies as it lay. -/
theorem Step.cells {w w' : World} {T T' : Nat → Nat} (h : Step w T w' T') {b : Nat} {t : TypeId} {cur : Array Value} (hc : Cells w b t cur) (hb : T b = 0) : Cells w' b t cur := (h.only.same b hc.lt (fun hn => hn hb)).trans hc
theorem array9 {cur : Array Value} (h : cur.size = 9) : ∃ c0 c1 c2 c3 c4 c5 c6 c7 c8, cur = #[c0, c1, c2, c3, c4, c5, c6, c7, c8] := by
  obtain ⟨l⟩ := cur
  match l, h with
  | [c0, c1, c2, c3, c4, c5, c6, c7, c8], _ => exact ⟨c0, c1, c2, c3, c4, c5, c6, c7, c8, rfl⟩
theorem all9 {c0 c1 c2 c3 c4 c5 c6 c7 c8 : Value} (h : (#[c0, c1, c2, c3, c4, c5, c6, c7, c8] : Array Value).all (·.oneCell') = true) : c0.oneCell' = true ∧ c1.oneCell' = true ∧ c2.oneCell' = true ∧ c3.oneCell' = true ∧ c4.oneCell' = true ∧ c5.oneCell' = true ∧ c6.oneCell' = true ∧ c7.oneCell' = true ∧ c8.oneCell' = true := by
  simpa [and_assoc] using h
/-- The reference's answer, cell by cell. -/
def Two9 (W : World) (e : Ending) (w' : World) : Prop := (∃ (c0 c1 c2 c3 c4 c5 c6 c7 c8 : Value) (n : Int), (#[c0, c1, c2, c3, c4, c5, c6, c7, c8] : Array Value).all (·.oneCell') = true ∧ e = .returned (.tuple #[.agg #[c0, c1, c2, c3, c4, c5, c6, c7, c8], .int .i64 n])) ∧ Below W.heap.size W w'
theorem Two.nine {W : World} {e : Ending} {w' : World} (h : Two W e w') : Two9 W e w' := by
  obtain ⟨⟨cur, n, hz, h1, rfl⟩, hb⟩ := h
  obtain ⟨c0, c1, c2, c3, c4, c5, c6, c7, c8, rfl⟩ := array9 hz
  exact ⟨⟨c0, c1, c2, c3, c4, c5, c6, c7, c8, n, h1, rfl⟩, hb⟩
end Go.Proofs.Ytdfjkcdmbbmipaa
