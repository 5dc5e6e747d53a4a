/- What is indented is dedented. -/
import Derived.Test.YtifdcnkfanenjaaDoorLM
namespace Go.Proofs.YtifdcnkfanenjaaDoor
/-- Lines of a text: none holds a line end, all but the last are ended, none is empty and not ended. -/
def wf : List Ln → Prop
  | [] => True
  | x :: xs => (10 : UInt8) ∉ x.text ∧ (x.ended = true ∨ (xs = [] ∧ x.text ≠ [])) ∧ wf xs
def sees (x : Ln) : List UInt8 × Bool := (x.text, x.ended)

theorem head_clean (t r : List UInt8) (h : (10 : UInt8) ∉ t) : head (t ++ 10 :: r) = t := by
  unfold head
  induction t with
  | nil => simp
  | cons c t ih =>
    have hc : c ≠ 10 := fun e => h (by rw [e]; exact List.mem_cons_self)
    rw [List.cons_append, List.takeWhile_cons, if_pos (by simp [hc]), ih (fun hm => h (List.mem_cons_of_mem _ hm))]
theorem head_all (t : List UInt8) (h : (10 : UInt8) ∉ t) : head t = t := by
  unfold head
  induction t with
  | nil => rfl
  | cons c t ih =>
    have hc : c ≠ 10 := fun e => h (by rw [e]; exact List.mem_cons_self)
    rw [List.takeWhile_cons, if_pos (by simp [hc]), ih (fun hm => h (List.mem_cons_of_mem _ hm))]
theorem nl_clean (t : List UInt8) (h : (10 : UInt8) ∉ t) : nl t = false := by
  unfold nl
  rw [Bool.eq_false_iff]
  intro hc
  exact h (by simpa using hc)
theorem nl_end (t r : List UInt8) : nl (t ++ 10 :: r) = true := by unfold nl; simp

/-- Lines again. -/
theorem linesOn_wf : ∀ (xs : List Ln) (no at_ : Nat), wf xs → (linesOn no at_ (xs.flatMap Ln.bytes)).map sees = xs.map sees
  | [], no, at_, _ => by simp [linesOn_nil]
  | x :: xs, no, at_, ⟨h1, h2, h3⟩ => by
    rcases h2 with he | ⟨rfl, hne⟩
    · have eb : (x :: xs).flatMap Ln.bytes = x.text ++ 10 :: xs.flatMap Ln.bytes := by simp [Ln.bytes, he]
      rw [eb, linesOn_cons _ _ _ (by simp)]
      rw [head_clean _ _ h1, nl_end]
      have hu : used (x.text ++ 10 :: xs.flatMap Ln.bytes) = x.text.length + 1 := by
        unfold used; rw [head_clean _ _ h1, nl_end]; simp
      have hd : (x.text ++ 10 :: xs.flatMap Ln.bytes).drop (x.text.length + 1) = xs.flatMap Ln.bytes := by
        rw [show x.text ++ 10 :: xs.flatMap Ln.bytes = (x.text ++ [10]) ++ xs.flatMap Ln.bytes by simp]
        exact List.drop_left' (by simp)
      rw [hu, hd, List.map_cons, List.map_cons, linesOn_wf xs _ _ h3]
      simp [sees, he]
    · have he : x.ended = false ∨ x.ended = true := by cases x.ended <;> simp
      rcases he with he | he
      · have eb : [x].flatMap Ln.bytes = x.text := by simp [Ln.bytes, he]
        rw [eb, linesOn_cons _ _ _ hne, head_all _ h1, nl_clean _ h1]
        have hu : used x.text = x.text.length := by unfold used; rw [head_all _ h1, nl_clean _ h1]; simp
        rw [hu, List.drop_length, linesOn_nil]
        simp [sees, he]
      · have eb : [x].flatMap Ln.bytes = x.text ++ 10 :: [] := by simp [Ln.bytes, he]
        rw [eb, linesOn_cons _ _ _ (by simp), head_clean _ _ h1, nl_end]
        have hu : used (x.text ++ 10 :: []) = x.text.length + 1 := by unfold used; rw [head_clean _ _ h1, nl_end]; simp
        rw [hu]
        have hd : (x.text ++ 10 :: []).drop (x.text.length + 1) = [] := by rw [List.drop_eq_nil_of_le]; simp
        rw [hd, linesOn_nil]
        simp [sees, he]
theorem wf_linesOn : ∀ (n no at_ : Nat) (l : List UInt8), l.length ≤ n → wf (linesOn no at_ l)
  | 0, _, _, l, h => by
    have : l = [] := List.length_eq_zero_iff.1 (by omega)
    subst this; rw [linesOn_nil]; trivial
  | n + 1, no, at_, l, h => by
    by_cases hl : l = []
    · subst hl; rw [linesOn_nil]; trivial
    · have hp := used_pos l hl
      have hc := linesOn_clean l.length no at_ l (Nat.le_refl _)
      rw [linesOn_cons _ _ _ hl] at hc ⊢
      refine ⟨hc _ List.mem_cons_self, ?_, wf_linesOn n _ _ _ (by simp only [List.length_drop]; omega)⟩
      cases hn : nl l with
      | true => exact .inl rfl
      | false =>
        have hh : head l = l := head_all l (fun hm => by unfold nl at hn; simp at hn; exact hn hm)
        have hu : used l = l.length := by unfold used; rw [hh, hn]; simp
        refine .inr ⟨?_, ?_⟩
        · rw [hu, List.drop_length, linesOn_nil]
        · show head l ≠ []
          rw [hh]; exact hl
theorem wf_linesOf (l : List UInt8) : wf (linesOf l) := wf_linesOn _ _ _ _ (Nat.le_refl _)

/-- With another text ahead of each. -/
def ahead (j : List UInt8) (x : Ln) : Ln := { x with text := j ++ x.text }
theorem wf_ahead (j : List UInt8) (hj : (10 : UInt8) ∉ j) : ∀ xs, wf xs → wf (xs.map (ahead j))
  | [], _ => trivial
  | x :: xs, ⟨h1, h2, h3⟩ => by
    refine ⟨fun hm => ?_, ?_, wf_ahead j hj xs h3⟩
    · rcases List.mem_append.1 hm with h | h
      · exact hj h
      · exact h1 h
    · rcases h2 with h | ⟨rfl, h⟩
      · exact .inl h
      · refine .inr ⟨rfl, fun e => h ?_⟩
        exact (List.append_eq_nil_iff.1 e).2
/-- A text without another one ahead of each line; false: it isn't there. -/
def dd (p : List UInt8) (ys : List (List UInt8 × Bool)) : List UInt8 × Bool :=
  if ys.all (fun y => p.isPrefixOf y.1) then (ys.flatMap (fun y => y.1.drop p.length ++ if y.2 then [10] else []), true) else ([], false)
theorem dd_ahead (j : List UInt8) (hj : (10 : UInt8) ∉ j) (l : List UInt8) :
    dd j ((linesOf ((linesOf l).flatMap fun x => j ++ x.bytes)).map sees) = (l, true) := by
  have e : (linesOf l).flatMap (fun x => j ++ x.bytes) = ((linesOf l).map (ahead j)).flatMap Ln.bytes := by
    rw [List.flatMap_map]
    congr 1
    funext x
    simp only [Ln.bytes, ahead, List.append_assoc]
    rfl
  rw [e]
  rw [show linesOf (((linesOf l).map (ahead j)).flatMap Ln.bytes) = linesOn 0 0 (((linesOf l).map (ahead j)).flatMap Ln.bytes) from rfl, linesOn_wf _ 0 0 (wf_ahead j hj _ (wf_linesOf l))]
  unfold dd
  rw [if_pos]
  · congr 1
    conv => rhs; rw [← linesOf_join l]
    rw [List.map_map, List.flatMap_map]
    congr 1
    funext x
    simp [sees, ahead, Ln.bytes]
    rfl
  · rw [List.all_eq_true]
    intro y hy
    obtain ⟨x, hx, rfl⟩ := List.mem_map.1 hy
    obtain ⟨x, hx, rfl⟩ := List.mem_map.1 hx
    simp [sees, ahead]
end Go.Proofs.YtifdcnkfanenjaaDoor
