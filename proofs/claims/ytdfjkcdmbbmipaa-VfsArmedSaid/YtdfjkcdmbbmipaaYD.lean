/- The law's fixed fact: the chapter's example. -/
import Derived.Test.YtdfjkcdmbbmipaaYC
namespace Go.Proofs.Ytdfjkcdmbbmipaa
open Go.RowKit Go.Maps
attribute [local go_sem] errV_0

def nmA : ByteArray := ⟨#[97]⟩
def aD0 : ADisk := freshD 100
def aD1 : ADisk := (createD aD0 nmA).1
def aD2 : ADisk := (syncdirD aD1).1
def aD3 : ADisk := (writeD aD2 nmA ⟨#[97, 98]⟩).1
def aD4 : ADisk := (syncD aD3 nmA).1
def aD5 : ADisk := (writeD aD4 nmA ⟨#[99, 100]⟩).1
def aD6 : ADisk := crashD aD5 0 [1]
theorem aE1 : (createD aD0 nmA).2 = 0 := by kernel_rfl
theorem aE2 : (syncdirD aD1).2 = 0 := by kernel_rfl
theorem aE3 : (writeD aD2 nmA ⟨#[97, 98]⟩).2 = 0 := by kernel_rfl
theorem aE4 : (syncD aD3 nmA).2 = 0 := by kernel_rfl
theorem aE5 : (writeD aD4 nmA ⟨#[99, 100]⟩).2 = 0 := by kernel_rfl
theorem aE6 : readR aD6 nmA = (⟨#[97, 98, 99]⟩, 0) := by kernel_rfl
theorem aE7 : aD6.units = 7 := by kernel_rfl
theorem aE8 : aD6.acts.length = 5 := by kernel_rfl
theorem aF0 : Fine 0 aD0 := fresh_fine 100 (by decide) (by decide)
theorem aF1 : Fine 2 aD1 := create_fine aF0 nmA (by decide)
theorem aF2 : Fine 3 aD2 := syncdir_fine aF1
theorem aF3 : Fine 9 aD3 := write_fine aF2 nmA ⟨#[97, 98]⟩
theorem aF4 : Fine 10 aD4 := sync_fine aF3 nmA
theorem aF5 : Fine 16 aD5 := write_fine aF4 nmA ⟨#[99, 100]⟩
theorem aF6 : Fine 16 aD6 := crash_fine aF5 0 [1]
theorem aC1 {w : World} {T : Nat → Nat} {p : Nat} (h : DiskAt w T p aD0) : Calls Try.prog 14 #[.pointer (some ⟨p, 0, none⟩), .string ⟨#[97]⟩] w fun e w' => e = .returned .nilIface ∧ ∃ T', DiskAt w' T' p aD1 ∧ Step w T w' T' := by
  have := create_any h aF0 (by omega) nmA (by decide)
  rw [aE1] at this; exact this
theorem aC2 {w : World} {T : Nat → Nat} {p : Nat} (h : DiskAt w T p aD1) : Calls Try.prog 15 #[.pointer (some ⟨p, 0, none⟩)] w fun e w' => e = .returned .nilIface ∧ ∃ T', DiskAt w' T' p aD2 ∧ Step w T w' T' := by
  have := syncdir_any h aF1 (by omega)
  rw [aE2] at this; exact this
theorem aC3 {w : World} {T : Nat → Nat} {p : Nat} (h : DiskAt w T p aD2) : Calls Try.prog 16 #[.pointer (some ⟨p, 0, none⟩), .string ⟨#[97]⟩, .string ⟨#[97, 98]⟩] w fun e w' => e = .returned .nilIface ∧ ∃ T', DiskAt w' T' p aD3 ∧ Step w T w' T' := by
  have := write_any h aF2 (by omega) nmA ⟨#[97, 98]⟩ (by decide) (by decide)
  rw [aE3] at this; exact this
theorem aC4 {w : World} {T : Nat → Nat} {p : Nat} (h : DiskAt w T p aD3) : Calls Try.prog 17 #[.pointer (some ⟨p, 0, none⟩), .string ⟨#[97]⟩] w fun e w' => e = .returned .nilIface ∧ ∃ T', DiskAt w' T' p aD4 ∧ Step w T w' T' := by
  have := sync_any h aF3 (by omega) nmA (by decide)
  rw [aE4] at this; exact this
theorem aC5 {w : World} {T : Nat → Nat} {p : Nat} (h : DiskAt w T p aD4) : Calls Try.prog 16 #[.pointer (some ⟨p, 0, none⟩), .string ⟨#[97]⟩, .string ⟨#[99, 100]⟩] w fun e w' => e = .returned .nilIface ∧ ∃ T', DiskAt w' T' p aD5 ∧ Step w T w' T' := by
  have := write_any h aF4 (by omega) nmA ⟨#[99, 100]⟩ (by decide) (by decide)
  rw [aE5] at this; exact this
/-- A new row of one number. -/
theorem ints1 {w w' : World} {T : Nat → Nat} (k : Int) (t : TypeId) (hl : ∀ b, T b ≠ 0 → b < w.heap.size) (h : Only (fun r => T r ≠ 0) (w.alloc (.cells #[.int .i64 k] t)) w') : ∀ j (h : j < [k].length), w'.cell? ((⟨w.heap.size, 0, none⟩ : Addr).add j) = some (.int .i64 [k][j]) := by
  intro j hj
  have : j = 0 := by simpa using hj
  subst this
  have e0 : (⟨w.heap.size, 0, none⟩ : Addr).add 0 = ⟨w.heap.size, 0, none⟩ := rfl
  rw [e0]
  rw [((Cells.new w t #[.int .i64 k]).only h (fun e => by have := hl _ e; omega)).cell]; rfl
theorem aC6 {w : World} {T : Nat → Nat} {p : Nat} (h : DiskAt w T p aD5) : Calls Try.prog 18 #[.pointer (some ⟨p, 0, none⟩), .int .i64 0, .slice (some ⟨w.heap.size, 0, none⟩) 1 1] (w.alloc (.cells #[.int .i64 1] 3)) fun e w' => e = .returned (.tuple #[]) ∧ ∃ T', DiskAt w' T' p aD6 ∧ Step w T w' T' := by
  have hb : Below w.heap.size w (w.alloc (.cells #[.int .i64 1] 3)) := (Below.refl _ w).alloc (Nat.le_refl _) _
  refine (crash_any (h.below hb) aF5 (by omega) 0 (by decide) [1] (some ⟨w.heap.size, 0, none⟩) ⟨w.heap.size, 0, none⟩ 1 (fun _ => rfl) (fun w' ho => ints1 1 3 h.low ho) (by simp; decide) (by simp)).mono ?_
  rintro e w' ⟨rfl, T', hd, hs⟩
  exact ⟨rfl, T', hd, (Step.below hb).trans hs⟩
theorem aC7 {w : World} {T : Nat → Nat} {p : Nat} (h : DiskAt w T p aD6) : Calls Try.prog 19 #[.pointer (some ⟨p, 0, none⟩), .string ⟨#[97]⟩] w fun e w' => e = .returned (.tuple #[.string ⟨#[97, 98, 99]⟩, .nilIface]) ∧ Below w.heap.size w w' := by
  have := read_any h aF6 (by omega) nmA (by decide)
  rw [aE6] at this; exact this
theorem aC8 {w : World} {T : Nat → Nat} {p : Nat} (h : DiskAt w T p aD6) : Calls Try.prog 23 #[.pointer (some ⟨p, 0, none⟩)] w fun e w' => e = .returned (.int .i64 7) ∧ w = w' := by
  have := units_any h
  rw [aE7] at this; exact this
theorem aC9 {w : World} {T : Nat → Nat} {p : Nat} (h : DiskAt w T p aD6) : Calls Try.prog 30 #[.pointer (some ⟨p, 0, none⟩)] w fun e w' => (∃ ao cap, e = .returned (.slice ao 5 cap)) ∧ Below w.heap.size w w' := by
  refine (acts_any h aF6 (by omega)).mono ?_
  rintro e w' ⟨v', rfl, _, _, ⟨ao, cap, rfl⟩, hb⟩
  rw [aE8]
  exact ⟨⟨ao, cap, rfl⟩, hb⟩
/-- What a new disk, and all that is done with it, leaves as it lay. -/
theorem fresh_below {w w1 w' : World} {T' : Nat → Nat} (hb : Below w.heap.size w w1) (hs : Step w1 (fun b => if b = w.heap.size then 1 else 0) w' T') : Below w.heap.size w w' :=
  hb.trans (hs.only.to_below hb.size (fun r hr => by simp; omega))

set_option maxRecDepth 100000 in
set_option maxHeartbeats 2000000 in
theorem alive_any (w : World) : Calls Try.prog 8 #[] w fun e w' => e = .returned (.bool true) ∧ Below w.heap.size w w' := by
  go_enter Try.func8, Try.ntmps8
  go_wp2_with fail
  refine (new_yes 100 w (by decide)).mono ?_
  rintro e w1 ⟨rfl, h1, hb, _⟩
  have HB := Lib.hid hb
  generalize hT : (fun b => if b = w.heap.size then 1 else 0) = T0 at h1
  generalize hp : w.heap.size = p at h1 ⊢
  have HP := Lib.hid hp
  have HT := Lib.hid hT
  clear hb hp hT
  go_wp2_with fail
  refine (aC1 h1).mono ?_
  rintro e w2 ⟨rfl, T2, h2, s2⟩
  go_wp2_with fail
  refine (aC2 h2).mono ?_
  rintro e w3 ⟨rfl, T3, h3, s3⟩
  go_wp2_with fail
  refine (aC3 h3).mono ?_
  rintro e w4 ⟨rfl, T4, h4, s4⟩
  go_wp2_with fail
  refine (aC4 h4).mono ?_
  rintro e w5 ⟨rfl, T5, h5, s5⟩
  go_wp2_with fail
  refine (aC5 h5).mono ?_
  rintro e w6 ⟨rfl, T6, h6, s6⟩
  go_wp2_with fail
  refine (aC6 h6).mono ?_
  rintro e w7 ⟨rfl, T7, h7, s7⟩
  go_wp2_with fail
  refine (aC7 h7).mono ?_
  rintro e w8 ⟨rfl, hb8⟩
  have h8 := h7.below hb8
  go_wp2_with fail
  refine (aC8 h8).mono ?_
  rintro e w9 ⟨rfl, rfl⟩
  go_wp2_with fail
  refine (aC9 h8).mono ?_
  rintro e w9 ⟨⟨ao, cap, rfl⟩, hb9⟩
  have S := Lib.hid (((((((s2.trans s3).trans s4).trans s5).trans s6).trans s7).trans (Step.below hb8)).trans (Step.below hb9))
  clear s2 s3 s4 s5 s6 s7 hb8 hb9 h1 h2 h3 h4 h5 h6 h7 h8
  go_wp2
  go_ret
  refine ⟨rfl, ?_⟩
  have hs := S.out
  rw [← HT.out] at hs
  have := fresh_below HB.out hs
  exact this
end Go.Proofs.Ytdfjkcdmbbmipaa
