/- Plain. -/
import Derived.Test.YtcakphfjeplnnaaDoorFJ
namespace Go.Proofs.YtcakphfjeplnnaaDoor
open Go.RowKit Go.Shelf

theorem equal_any (v v' : Value) (ss zs : List ByteArray) (w : World) (h : Strs w v ss) (h' : Strs w v' zs) (hl : ss.length ≤ 1000000) (hl' : zs.length ≤ 1000000) :
    Calls Tryd.prog 36 #[v, v'] w fun e w' => e = .returned (.bool (decide (ss = zs))) ∧ Below w.heap.size w w' := by
  obtain ⟨A, cap, rfl, hle, hc⟩ := h
  obtain ⟨A', cap', rfl, hle', hc'⟩ := h'
  by_cases hne : ss.length = zs.length
  · cases ss with
    | nil =>
      have hz : zs = [] := by cases zs with | nil => rfl | cons _ _ => simp at hne
      subst hz
      refine (Tryd.slices_Equal_string_empty A A' cap 0 cap' w (by omega)).mono ?_
      rintro e w' ⟨rfl, rfl⟩
      exact ⟨rfl, Below.refl _ _⟩
    | cons a r =>
      cases zs with
      | nil => simp at hne
      | cons b q =>
        obtain ⟨b1, o1, rfl, _, _⟩ := hc 0 a rfl
        obtain ⟨b2, o2, rfl, _, _⟩ := hc' 0 b rfl
        refine (Tryd.slices_Equal_string b1 o1 (a :: r).length cap b2 o2 (b :: q).length cap' (a :: r) (b :: q) w (Nat.le_refl _) (Nat.le_refl _) (by omega) (by omega) ?_ ?_).mono ?_
        · intro j hj
          obtain ⟨_, _, e, _, h⟩ := hc j _ (List.getElem?_eq_getElem hj)
          cases e
          rw [h, List.getD_eq_getElem?_getD, List.getElem?_eq_getElem hj]; rfl
        · intro j hj
          obtain ⟨_, _, e, _, h⟩ := hc' j _ (List.getElem?_eq_getElem hj)
          cases e
          rw [h, List.getD_eq_getElem?_getD, List.getElem?_eq_getElem hj]; rfl
        · rintro e w' ⟨rfl, n, rfl⟩
          rw [List.take_length, List.take_length]
          exact ⟨rfl, drewN_below (Below.refl _ _) n⟩
  · refine (Tryd.slices_Equal_string_lens A A' ss.length cap zs.length cap' w hne).mono ?_
    rintro e w' ⟨rfl, rfl⟩
    have : ss ≠ zs := fun e => hne (by rw [e])
    exact ⟨by simp [this], Below.refl _ _⟩
theorem unfold_zero {ls : List (List UInt8)} (h : unfoldN ls = 0) : checkN (unfoldK ls) (unfoldV ls) = 0 ∧ (unfoldK ls).length ≤ 32 ∧ (unfoldV ls).length ≤ 1000 := by
  cases hF : sayF ls with
  | false => rw [(unfold_no hF).1] at h; cases h
  | true =>
    by_cases hl : (saidV ls).length ≤ 1000
    · obtain ⟨a, r, rfl, hka, _⟩ := sayF_parts hF
      obtain ⟨_, e2, e3⟩ := unfold_yes hF hl
      have hg : goodKey (before a) = true := (kind4 hka).2.2
      rw [e2, e3]
      exact ⟨by unfold checkN; rw [hg, if_pos rfl, if_pos hl], (good_parts hg).2.1, hl⟩
    · rw [(unfold_long hF hl).1] at h; cases h
theorem mapB_inj {a b : List (List UInt8)} : (a.map B = b.map B) ↔ a = b := by
  constructor
  · intro h
    have := congrArg (List.map (·.data.toList)) h
    rw [List.map_map, List.map_map] at this
    have e : ∀ l : List (List UInt8), l.map ((·.data.toList) ∘ B) = l := fun l => by
      conv => rhs; rw [← List.map_id l]
      exact List.map_congr_left fun x _ => B_data x
    rwa [e, e] at this
  · intro h; rw [h]
attribute [local go_sem] errV_0
set_option maxRecDepth 100000 in
set_option maxHeartbeats 2000000 in
theorem plain_any (ls : List (List UInt8)) (v : Value) (w : World) (hs : Strs w v (ls.map B)) (hl : ∀ l ∈ ls, l.length ≤ 100000) (hn : ls.length ≤ 100000) (hj : (saidV ls).length ≤ 1000000) :
    Calls Tryd.prog 16 #[v] w fun e w' => e = .returned (.bool (plainL ls)) ∧ Below w.heap.size w w' := by
  have U := Lib.hid (unfold_any ls v w hs hl hn hj)
  by_cases h0 : unfoldN ls = 0
  · obtain ⟨hck, hkl, hvl⟩ := unfold_zero h0
    have LG := fun w => lines_good (unfoldK ls) (unfoldV ls) (by omega) (by omega) w hck
    have hll : (linesL (unfoldK ls) (unfoldV ls)).length ≤ 100000 := by
      have := lines_sum (unfoldK ls) (unfoldV ls); omega
    have EQ := fun (w' : World) (v' : Value) (h' : Strs w' v' ((linesL (unfoldK ls) (unfoldV ls)).map B)) (h2 : Strs w' v (ls.map B)) => equal_any v' v _ _ w' h' h2 (by rw [List.length_map]; omega) (by rw [List.length_map]; omega)
    have hP : plainL ls = decide ((linesL (unfoldK ls) (unfoldV ls)).map B = ls.map B) := by
      unfold plainL
      rw [h0]
      rw [Bool.eq_iff_iff]
      simp only [decide_true, Bool.true_and, beq_iff_eq, decide_eq_true_eq]
      exact mapB_inj.symm
    rw [hP]
    rw [h0] at U
    generalize linesL (unfoldK ls) (unfoldV ls) = ln at *
    have STS := Lib.hid hs
    clear hs hck h0 hP
    unfold fieldV at *
    generalize B (unfoldK ls) = K at *
    generalize B (unfoldV ls) = V at *
    generalize ls.map B = bs at *
    generalize ln.map B = bn at *
    go_enter Tryd.func16, Tryd.ntmps16
    go_wp2_with fail
    refine U.out.mono ?_
    rintro e w1 ⟨rfl, b1⟩
    have S1 := STS.out.below b1 (Nat.le_refl _)
    have hs1 := b1.size
    have hba := b1.alloc hs1 (.cells #[.string K, .string V] 23)
    have S1a := Lib.hid (S1.alloc (.cells #[.string K, .string V] 23))
    clear S1 U STS
    go_wp2_with fail
    refine (LG _).mono ?_
    rintro e w2 ⟨sv, rfl, S2, b2⟩
    have S3 := S1a.out.below b2 (Nat.le_refl _)
    have hb2 := hba.trans (b2.mono (by simp; omega))
    have hs2 := b2.size
    simp only [World.size_alloc] at hs2
    clear b2 hba S1a LG b1
    go_wp2_with fail
    refine (EQ _ _ S2 S3).mono ?_
    rintro e w3 ⟨rfl, b3⟩
    clear S2 S3 EQ
    go_wp2_with fail
    go_ret
    exact ⟨rfl, hb2.trans (b3.mono (by omega))⟩
  · have hP : plainL ls = false := by unfold plainL; simp [h0]
    rw [hP]
    rw [errV_pos _ (Nat.pos_of_ne_zero h0)] at U
    clear hs h0 hP
    unfold fieldV at *
    generalize B (unfoldK ls) = K at *
    generalize B (unfoldV ls) = V at *
    generalize unfoldN ls = n at *
    go_enter Tryd.func16, Tryd.ntmps16
    go_wp2_with fail
    refine U.out.mono ?_
    rintro e w1 ⟨rfl, b1⟩
    clear U
    go_wp2_with fail
    go_ret
    exact ⟨rfl, b1.alloc b1.size _⟩
end Go.Proofs.YtcakphfjeplnnaaDoor
