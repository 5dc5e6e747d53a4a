/- Unfold. -/
import Derived.Test.YtngngamfceoklaaDoorFI
namespace Go.Proofs.YtngngamfceoklaaDoor
open Go.RowKit Go.Shelf

attribute [local go_sem] errV_0 errV_2 errV_6
theorem sayF_parts {ls : List (List UInt8)} (h : sayF ls = true) : ∃ a r, ls = a :: r ∧ kindL a = 4 ∧ ∀ l ∈ r, kindL l = 3 := by
  cases ls with
  | nil => cases h
  | cons a r =>
    refine ⟨a, r, rfl, ?_⟩
    unfold sayF at h
    simp only [Bool.and_eq_true, beq_iff_eq, List.all_eq_true] at h
    exact h
theorem unfold_no {ls : List (List UInt8)} (h : sayF ls = false) : unfoldN ls = 2 ∧ unfoldK ls = [] ∧ unfoldV ls = [] := by
  have e : unfoldN ls = 2 := by unfold unfoldN; rw [h]; rfl
  exact ⟨e, by unfold unfoldK; rw [e]; rfl, by unfold unfoldV; rw [e]; rfl⟩
theorem unfold_long {ls : List (List UInt8)} (h : sayF ls = true) (hl : ¬ (saidV ls).length ≤ 1000) : unfoldN ls = 6 ∧ unfoldK ls = [] ∧ unfoldV ls = [] := by
  have e : unfoldN ls = 6 := by unfold unfoldN; rw [h, if_pos rfl, if_neg hl]
  exact ⟨e, by unfold unfoldK; rw [e]; rfl, by unfold unfoldV; rw [e]; rfl⟩
theorem unfold_yes {a : List UInt8} {r : List (List UInt8)} (h : sayF (a :: r) = true) (hl : (saidV (a :: r)).length ≤ 1000) : unfoldN (a :: r) = 0 ∧ unfoldK (a :: r) = before a ∧ unfoldV (a :: r) = saidV (a :: r) := by
  have e : unfoldN (a :: r) = 0 := by unfold unfoldN; rw [h, if_pos rfl, if_pos hl]
  exact ⟨e, by unfold unfoldK; rw [e]; rfl, by unfold unfoldV; rw [e]; rfl⟩
theorem before_len (a : List UInt8) : (before a).length ≤ a.length := (List.takeWhile_prefix _).length_le

set_option maxRecDepth 100000 in
set_option maxHeartbeats 2000000 in
theorem unfold_any (ls : List (List UInt8)) (v : Value) (w : World) (hs : Strs w v (ls.map B)) (hl : ∀ l ∈ ls, l.length ≤ 100000) (hn : ls.length ≤ 100000) (hj : (saidV ls).length ≤ 1000000) :
    Calls Tryd.prog 46 #[v] w fun e w' => e = .returned (.tuple #[fieldV (unfoldK ls) (unfoldV ls), errV (unfoldN ls)]) ∧ Below w.heap.size w w' := by
  have ST := Lib.hid (fun (o : Obj) => (hs.alloc o))
  cases hF : sayF ls with
  | false =>
    obtain ⟨e1, e2, e3⟩ := unfold_no hF
    rw [e1, e2, e3]
    unfold fieldV
    go_enter Tryd.func46, Tryd.ntmps46
    go_wp2_with fail
    refine (say_any ls v _ (ST.out _) hl hn).mono ?_
    rw [hF]
    rintro e w1 ⟨rfl, b1⟩
    have R1 := cells_kept (Cells.new w 73 #[.string ⟨#[]⟩, .string ⟨#[]⟩]) b1 (by simp)
    have c0 := R1.cell 0
    have c1 := R1.cell 1
    have f0 := R1.frozen 0
    have f1 := R1.frozen 1
    have hb1 : Below w.heap.size w w1 := ((Below.refl _ _).alloc (Nat.le_refl _) _).trans (b1.mono (by simp))
    simp only [List.getElem?_toArray, List.getElem?_cons_zero, List.getElem?_cons_succ] at c0 c1
    have RE := (R1.set 0 (.string ⟨#[]⟩)).set 1 (.string ⟨#[]⟩)
    rw [set2] at RE
    clear b1 ST
    go_wp2_with fail
    refine bodyPost_ret (ret_f2 rfl _ _ w.heap.size _ rfl RE rfl) rfl ?_
    exact ⟨rfl, (hb1.setCell (Nat.le_refl _) _).setCell (Nat.le_refl _) _⟩
  | true =>
    obtain ⟨a, r, rfl, hka, hkr⟩ := sayF_parts hF
    have hg : goodKey (before a) = true := (kind4 hka).2.2
    have hal := hl a (by simp)
    have hbl := before_len a
    have SD := fun w' (h : Strs w' v ((a :: r).map B)) => said_any a r v w' h hal (fun l hm => ⟨hl l (List.mem_cons_of_mem _ hm), hkr l hm⟩) hka (by simp at hn; omega) (by omega)
    have CK := fun w' => check_any (before a) (saidV (a :: r)) (by omega) hj w'
    have hchk : checkN (before a) (saidV (a :: r)) = if (saidV (a :: r)).length ≤ 1000 then 0 else 6 := by unfold checkN; rw [hg]; rfl
    rw [hchk] at CK
    have SAY := fun w' (h : Strs w' v ((a :: r).map B)) => say_any (a :: r) v w' h hl hn
    rw [hF] at SAY
    by_cases hlen : (saidV (a :: r)).length ≤ 1000
    · rw [if_pos hlen] at CK
      obtain ⟨e1, e2, e3⟩ := unfold_yes hF hlen
      rw [e1, e2, e3]
      unfold fieldV at *
      generalize B (before a) = K at *
      generalize B (saidV (a :: r)) = V at *
      go_enter Tryd.func46, Tryd.ntmps46
      go_wp2_with fail
      refine (SAY _ (ST.out _)).mono ?_
      rintro e w1 ⟨rfl, b1⟩
      have S1 := (ST.out (.cells #[.string ⟨#[]⟩, .string ⟨#[]⟩] 73)).below b1 (Nat.le_refl _)
      have R1 := cells_kept (Cells.new w 73 #[.string ⟨#[]⟩, .string ⟨#[]⟩]) b1 (by simp)
      have hb1 : Below w.heap.size w w1 := ((Below.refl _ _).alloc (Nat.le_refl _) _).trans (b1.mono (by simp))
      have hs1 := b1.size
      simp only [World.size_alloc] at hs1
      clear b1 ST
      go_wp2_with fail
      refine (SD _ S1).mono ?_
      rintro e w2 ⟨rfl, b2⟩
      have R2 := cells_kept R1 b2 (by omega)
      have hb2 := hb1.trans (b2.mono (by omega))
      have hs2 := b2.size
      clear b2 R1 S1 hb1
      have NB := Cells.new w2 73 #[.string K, .string V]
      have OB := R2.alloc (.cells #[.string K, .string V] 73)
      have hb3 := hb2.alloc (by omega) (.cells #[.string K, .string V] 73)
      go_wp2_with fail
      refine (CK _).mono ?_
      rintro e w4 ⟨rfl, b4⟩
      have N4 := cells_kept NB b4 (by simp)
      have O4 := cells_kept OB b4 (by simp; omega)
      have hb4 := hb3.trans (b4.mono (by simp; omega))
      have n0 := N4.cell 0
      have n1 := N4.cell 1
      have c0 := O4.cell 0
      have c1 := O4.cell 1
      have f0 := O4.frozen 0
      have f1 := O4.frozen 1
      simp only [List.getElem?_toArray, List.getElem?_cons_zero, List.getElem?_cons_succ] at c0 c1 n0 n1
      have RE := (O4.set 0 (.string K)).set 1 (.string V)
      rw [set2] at RE
      clear b4 NB OB R2 hb3 hb2
      go_wp2_with fail
      refine bodyPost_ret (ret_f2 rfl _ _ w.heap.size _ rfl RE rfl) rfl ?_
      exact ⟨rfl, (hb4.setCell (Nat.le_refl _) _).setCell (Nat.le_refl _) _⟩
    · rw [if_neg hlen] at CK
      obtain ⟨e1, e2, e3⟩ := unfold_long hF hlen
      rw [e1, e2, e3]
      unfold fieldV at *
      generalize B (before a) = K at *
      generalize B (saidV (a :: r)) = V at *
      go_enter Tryd.func46, Tryd.ntmps46
      go_wp2_with fail
      refine (SAY _ (ST.out _)).mono ?_
      rintro e w1 ⟨rfl, b1⟩
      have S1 := (ST.out (.cells #[.string ⟨#[]⟩, .string ⟨#[]⟩] 73)).below b1 (Nat.le_refl _)
      have R1 := cells_kept (Cells.new w 73 #[.string ⟨#[]⟩, .string ⟨#[]⟩]) b1 (by simp)
      have hb1 : Below w.heap.size w w1 := ((Below.refl _ _).alloc (Nat.le_refl _) _).trans (b1.mono (by simp))
      have hs1 := b1.size
      simp only [World.size_alloc] at hs1
      clear b1 ST
      go_wp2_with fail
      refine (SD _ S1).mono ?_
      rintro e w2 ⟨rfl, b2⟩
      have R2 := cells_kept R1 b2 (by omega)
      have hb2 := hb1.trans (b2.mono (by omega))
      have hs2 := b2.size
      clear b2 R1 S1 hb1
      have NB := Cells.new w2 73 #[.string K, .string V]
      have OB := R2.alloc (.cells #[.string K, .string V] 73)
      have hb3 := hb2.alloc (by omega) (.cells #[.string K, .string V] 73)
      go_wp2_with fail
      refine (CK _).mono ?_
      rintro e w4 ⟨rfl, b4⟩
      have N4 := cells_kept NB b4 (by simp)
      have O4 := cells_kept OB b4 (by simp; omega)
      have hb4 := hb3.trans (b4.mono (by simp; omega))
      have n0 := N4.cell 0
      have n1 := N4.cell 1
      have c0 := O4.cell 0
      have c1 := O4.cell 1
      have f0 := O4.frozen 0
      have f1 := O4.frozen 1
      simp only [List.getElem?_toArray, List.getElem?_cons_zero, List.getElem?_cons_succ] at c0 c1 n0 n1
      have RE := (O4.set 0 (.string ⟨#[]⟩)).set 1 (.string ⟨#[]⟩)
      rw [set2] at RE
      clear b4 NB OB R2 hb3 hb2
      go_wp2_with fail
      refine bodyPost_ret (ret_f2 rfl _ _ w.heap.size _ rfl RE rfl) rfl ?_
      exact ⟨rfl, (hb4.setCell (Nat.le_refl _) _).setCell (Nat.le_refl _) _⟩
end Go.Proofs.YtngngamfceoklaaDoor
