/- The text of good fields, put between others with blank lines, plainly. -/
import Derived.Test.YtngngamfceoklaaDoorPO
namespace Go.Proofs.YtngngamfceoklaaDoor

/-- Texts as ended lines. -/
def num : Nat → Nat → List (List UInt8) → List Ln
  | _, _, [] => []
  | no, c, l :: r => ⟨no, c, l, true⟩ :: num (no + 1) (c + l.length + 1) r
theorem linesOn_num : ∀ (ts : List (List UInt8)) (no c : Nat), (∀ l ∈ ts, (10 : UInt8) ∉ l) → linesOn no c (textL ts) = num no c ts
  | [], no, c, _ => rfl
  | l :: r, no, c, h => by
    have e : textL (l :: r) = l ++ 10 :: textL r := by unfold textL; simp
    obtain ⟨h1, h2⟩ := head_of l (textL r) (h l List.mem_cons_self)
    have hu : used (l ++ 10 :: textL r) = l.length + 1 := by unfold used; rw [h1, h2]; rfl
    rw [e, linesOn_cons _ _ _ (by simp), h1, h2, hu]
    have hd : (l ++ 10 :: textL r).drop (l.length + 1) = textL r := by
      rw [show l ++ 10 :: textL r = (l ++ [10]) ++ textL r by simp]
      exact List.drop_left' (by simp)
    rw [hd, linesOn_num r _ _ (fun y hy => h y (List.mem_cons_of_mem _ hy))]
    rfl
theorem num_append : ∀ (a b : List (List UInt8)) (no c : Nat), num no c (a ++ b) = num no c a ++ num (no + a.length) (c + (textL a).length) b
  | [], b, no, c => rfl
  | l :: a, b, no, c => by
    have := num_append a b (no + 1) (c + l.length + 1)
    show _ :: num _ _ (a ++ b) = _ :: _ ++ _
    rw [this]
    have e : (textL (l :: a)).length = l.length + 1 + (textL a).length := by unfold textL; simp; omega
    rw [e, List.length_cons, show c + (l.length + 1 + (textL a).length) = c + l.length + 1 + (textL a).length by omega, show no + (a.length + 1) = no + 1 + a.length by omega]
    rfl
theorem run_cons {t : List UInt8} {p q : PS} {x : Ln} {xs : List Ln} (h : takeP t p x = .ok q) : runP t p (x :: xs) = runP t q xs := by
  show (match takeP t p x with | .error e => Except.error e | .ok q => runP t q xs) = _
  rw [h]
/-- Further lines go on with the field. -/
theorem run_more (t : List UInt8) : ∀ (r : List (List UInt8)) (p : PS) (no c : Nat), p.said ≠ [] → (∀ l ∈ r, kindL l = 3) → runP t p (num no c r) = .ok { p with said := p.said ++ r }
  | [], p, no, c, _, _ => by show Except.ok p = _; rw [List.append_nil]
  | l :: r, p, no, c, hs, hk => by
    have h3 := hk l List.mem_cons_self
    have hg : goesP p ⟨no, c, l, true⟩ = true := by
      unfold goesP; rw [h3]
      cases hq : p.said with
      | nil => exact absurd hq hs
      | cons a b => rfl
    have hw : wrongP p ⟨no, c, l, true⟩ = false := by unfold wrongP; rw [hg, h3]; rfl
    have he : endsP p ⟨no, c, l, true⟩ = false := by unfold endsP; rw [hw, hg]; rfl
    have ht : takeP t p ⟨no, c, l, true⟩ = .ok { p with said := p.said ++ [l] } := by
      rw [take_of (by rw [he]; intro h; cases h) hw]
      have e1 : thenP p ⟨no, c, l, true⟩ = { p with said := p.said ++ [l] } := by
        unfold thenP; rw [he, if_neg (by decide)]; unfold wentP; rw [hg, if_pos rfl]
      rw [e1]
      unfold putP
      rw [h3]; rfl
    show runP t p (⟨no, c, l, true⟩ :: num (no + 1) (c + l.length + 1) r) = _
    rw [run_cons ht, run_more t r _ _ _ (by simp) (fun y hy => hk y (List.mem_cons_of_mem _ hy))]
    simp
/-- A line that goes on with no field, ended. -/
theorem take_else {t : List UInt8} {p : PS} {no c : Nat} {l : List UInt8} (hk : kindL l ≠ 3) (h5 : kindL l ≠ 5) (h0 : endFieldN p = 0) : takeP t p ⟨no, c, l, true⟩ = .ok (putP t (endFieldP p) ⟨no, c, l, true⟩) := by
  have hg : goesP p ⟨no, c, l, true⟩ = false := goes_kind hk
  have hw : wrongP p ⟨no, c, l, true⟩ = false := by unfold wrongP; rw [hg]; simp [hk, h5]
  have he : endsP p ⟨no, c, l, true⟩ = true := by unfold endsP; rw [hg]; simp
  have hwent : wentP p ⟨no, c, l, true⟩ = p := by unfold wentP; rw [hg]; rfl
  rw [take_of (by rw [hwent]; exact fun _ => h0) hw]
  unfold thenP
  rw [he, if_pos rfl, hwent]
def linesFs (fs : List Fld) : List (List UInt8) := fs.flatMap fun f => linesL f.1 f.2
theorem lines_kinds {k v : List UInt8} (hk : goodKey k = true) : ∃ x r, linesL k v = x :: r ∧ kindL x = 4 ∧ ∀ l ∈ r, kindL l = 3 := by
  have h := lines_say (v := v) hk
  have e : linesL k v = firstL k ((partsL v).headD []) :: (partsL v).tail.map furtherL := rfl
  rw [e] at h ⊢
  refine ⟨_, _, rfl, ?_⟩
  unfold sayF at h
  simp only [Bool.and_eq_true, beq_iff_eq, List.all_eq_true] at h
  exact h
/-- Good fields, one behind the other. -/
theorem run_fields (t : List UInt8) : ∀ (fs : List Fld) (p : PS) (no c : Nat), endFieldN p = 0 → (∀ f ∈ fs, goodKey f.1 = true ∧ f.2.length ≤ 1000) → (endFieldP p).fields.length + fs.length ≤ 40 → (endFieldP p).stanzas ≤ 399 →
    ∃ q, runP t p (num no c (linesFs fs)) = .ok q ∧ endFieldN q = 0 ∧ (endFieldP q).fields = (endFieldP p).fields ++ fs ∧ (endFieldP q).items = (endFieldP p).items ∧ (endFieldP q).stanzas = (endFieldP p).stanzas ∧ (endFieldP q).at_ = (endFieldP p).at_
  | [], p, no, c, h0, _, _, _ => ⟨p, rfl, h0, by simp, rfl, rfl, rfl⟩
  | f :: fs, p, no, c, h0, hg, hn, hs => by
    obtain ⟨g1, g2⟩ := hg f List.mem_cons_self
    obtain ⟨x, r, e, kx, kr⟩ := lines_kinds (v := f.2) g1
    obtain ⟨u1, u2, u3⟩ := lines_unfold g1 g2
    have hl : linesFs (f :: fs) = (x :: r) ++ linesFs fs := by unfold linesFs; rw [List.flatMap_cons, e]
    have ht : takeP t p ⟨no, c, x, true⟩ = .ok { endFieldP p with begin_ := no, said := [x] } := by
      rw [take_else (by omega) (by omega) h0]
      unfold putP
      rw [if_pos kx]
    have hrun : runP t p (num no c (x :: r)) = .ok { endFieldP p with begin_ := no, said := x :: r } := by
      show runP t p (⟨no, c, x, true⟩ :: num _ _ r) = _
      rw [run_cons ht, run_more t r _ _ _ (by simp) kr]; rfl
    rw [hl, num_append, runP_append, hrun]
    dsimp only
    rw [List.length_cons] at hn
    have hN : endFieldN { endFieldP p with begin_ := no, said := x :: r } = 0 := by
      unfold endFieldN
      rw [if_neg (by simp)]
      show (if unfoldN (x :: r) ≠ 0 then _ else _) = 0
      rw [← e, u1, if_neg (by simp)]
      have : fullP { endFieldP p with begin_ := no, said := linesL f.1 f.2 } = false := by
        unfold fullP
        show (if (endFieldP p).fields.length = 0 then (endFieldP p).stanzas == 400 else (endFieldP p).fields.length == 40) = false
        split
        · simp; omega
        · simp; omega
      rw [this]; rfl
    have hP : endFieldP { endFieldP p with begin_ := no, said := x :: r } = { endFieldP p with begin_ := no, said := [], fields := (endFieldP p).fields ++ [f] } := by
      unfold endFieldP
      rw [if_neg (by simp)]
      show { endFieldP p with begin_ := no, said := [], fields := (endFieldP p).fields ++ [(unfoldK (x :: r), unfoldV (x :: r))] } = _
      rw [← e, u2, u3]; rfl
    obtain ⟨q, q1, q2, q3, q4, q5, q6⟩ := run_fields t fs { endFieldP p with begin_ := no, said := x :: r } (no + (x :: r).length) (c + (textL (x :: r)).length) hN (fun y hy => hg y (List.mem_cons_of_mem _ hy)) (by rw [hP]; simp; omega) (by rw [hP]; exact hs)
    refine ⟨q, q1, q2, ?_, ?_, ?_, ?_⟩
    · rw [q3, hP]; simp
    · rw [q4, hP]
    · rw [q5, hP]
    · rw [q6, hP]
theorem kind_note (note : List UInt8) (h : (10 : UInt8) ∉ note) : kindL (35 :: note) = 2 := by
  have h1 : hasB (35 :: note) 10 = false := hasB_not (by simp [h])
  have h2 : blankAll (35 :: note) = false := rfl
  have h3 : hashB (35 :: note) = true := rfl
  unfold kindL
  rw [h1, if_neg (by decide), h2, if_neg (by decide), h3, if_pos rfl]
/-- Two blocks between notes, a blank line between them. -/
theorem parse_two (a b : List Fld) (note : List UInt8) (hnote : (10 : UInt8) ∉ note) (ha : ∀ f ∈ a, goodKey f.1 = true ∧ f.2.length ≤ 1000) (hb : ∀ f ∈ b, goodKey f.1 = true ∧ f.2.length ≤ 1000) (na : a ≠ []) (nb : b ≠ []) (la : a.length ≤ 40) (lb : b.length ≤ 40)
    (t : List UInt8) (ht : t = textL ([35 :: note] ++ linesFs a ++ [[]] ++ linesFs b ++ [35 :: note])) :
    ∃ r0 r1 r2, parseL t = .ok [⟨3, r0, a⟩, ⟨1, r1, []⟩, ⟨3, r2, b⟩] := by
  have hclean : ∀ (fs : List Fld), (∀ f ∈ fs, goodKey f.1 = true ∧ f.2.length ≤ 1000) → ∀ l ∈ linesFs fs, (10 : UInt8) ∉ l := by
    intro fs hf l hl
    unfold linesFs at hl
    obtain ⟨f, hf1, hf2⟩ := List.mem_flatMap.1 hl
    exact linesL_clean _ (hf f hf1).1 l hf2
  have hn35 : (10 : UInt8) ∉ (35 :: note) := by simp [hnote]
  have hlines : linesOf t = num 0 0 ([35 :: note] ++ linesFs a ++ [[]] ++ linesFs b ++ [35 :: note]) := by
    rw [ht]
    refine linesOn_num _ 0 0 ?_
    intro l hl
    simp only [List.mem_append, List.mem_singleton] at hl
    rcases hl with (((rfl | h) | rfl) | h) | rfl
    · exact hn35
    · exact hclean a ha l h
    · simp
    · exact hclean b hb l h
    · exact hn35
  have kn := kind_note note hnote
  have k1 : kindL [] = 1 := by decide
  unfold parseL
  rw [hlines, List.append_assoc, List.append_assoc, List.append_assoc]
  have t0 : takeP t PS.new ⟨0, 0, 35 :: note, true⟩ = .ok PS.new := by
    rw [take_else (by rw [kn]; decide) (by rw [kn]; decide) rfl]
    unfold putP
    rw [if_neg (by show ¬ kindL (35 :: note) = 4; rw [kn]; decide), if_neg (by show ¬ kindL (35 :: note) = 1; rw [kn]; decide)]; rfl
  rw [show num 0 0 ([35 :: note] ++ (linesFs a ++ ([[]] ++ (linesFs b ++ [35 :: note])))) = ⟨0, 0, 35 :: note, true⟩ :: num 1 (0 + (35 :: note).length + 1) (linesFs a ++ ([[]] ++ (linesFs b ++ [35 :: note]))) from rfl]
  rw [run_cons t0, num_append, runP_append]
  have e0 : endFieldP PS.new = PS.new := rfl
  obtain ⟨q, q1, q2, q3, q4, q5, q6⟩ := run_fields t a PS.new 1 (0 + (35 :: note).length + 1) rfl ha (by rw [e0]; show 0 + a.length ≤ 40; omega) (by rw [e0]; decide)
  rw [q1]
  dsimp only
  generalize hc1 : 0 + (35 :: note).length + 1 + (textL (linesFs a)).length = c1
  generalize hn1 : 1 + (linesFs a).length = n1
  have hc1p : 0 < c1 := by omega
  rw [show num n1 c1 ([[]] ++ (linesFs b ++ [35 :: note])) = ⟨n1, c1, [], true⟩ :: num (n1 + 1) (c1 + ([] : List UInt8).length + 1) (linesFs b ++ [35 :: note]) from rfl]
  have t1 := take_else (t := t) (p := q) (no := n1) (c := c1) (l := []) (by rw [k1]; decide) (by rw [k1]; decide) q2
  rw [e0] at q3 q4 q5 q6
  have q3' : (endFieldP q).fields = a := by rw [q3]; rfl
  have q4' : (endFieldP q).items = [] := q4
  have q6' : (endFieldP q).at_ = 0 := q6
  have q5' : (endFieldP q).stanzas = 0 := q5
  have eP : putP t (endFieldP q) ⟨n1, c1, [], true⟩ = { begin_ := (endFieldP q).begin_, said := (endFieldP q).said, items := [⟨3, (t.take c1).drop 0, a⟩, ⟨1, (t.take (c1 + 1)).drop c1, []⟩], stanzas := 1, at_ := c1 + 1, fields := [] } := by
    unfold putP
    rw [if_neg (by show ¬ kindL [] = 4; rw [k1]; decide), if_pos k1]
    unfold endBlockP
    rw [if_neg (by rw [q6']; show ¬ (0 : Nat) = c1; omega), if_neg (by rw [q3']; intro h; exact na (List.length_eq_zero_iff.1 h))]
    unfold endItemP
    simp only [q3', q4', q5', q6', List.nil_append, List.length_nil, Nat.add_zero, Nat.zero_add, List.cons_append]
  rw [run_cons t1, eP]
  generalize hp2 : ({ begin_ := (endFieldP q).begin_, said := (endFieldP q).said, items := [⟨3, (t.take c1).drop 0, a⟩, ⟨1, (t.take (c1 + 1)).drop c1, []⟩], stanzas := 1, at_ := c1 + 1, fields := [] } : PS) = p2
  have s2 : p2.said = [] := by rw [← hp2]; exact endField_said q
  have z1 : endFieldN p2 = 0 := by unfold endFieldN; rw [if_pos s2]
  have z2 : endFieldP p2 = p2 := by unfold endFieldP; rw [if_pos s2]
  rw [num_append, runP_append]
  obtain ⟨q', w1, w2, w3, w4, w5, w6⟩ := run_fields t b p2 (n1 + 1) (c1 + ([] : List UInt8).length + 1) z1 hb (by rw [z2, ← hp2]; show 0 + b.length ≤ 40; omega) (by rw [z2, ← hp2]; show 1 ≤ 399; decide)
  rw [w1]
  dsimp only
  generalize hc3 : c1 + ([] : List UInt8).length + 1 + (textL (linesFs b)).length = c3
  generalize hn3 : n1 + 1 + (linesFs b).length = n3
  rw [show num n3 c3 [35 :: note] = ⟨n3, c3, 35 :: note, true⟩ :: [] from rfl]
  have t3 : takeP t q' ⟨n3, c3, 35 :: note, true⟩ = .ok (endFieldP q') := by
    rw [take_else (by rw [kn]; decide) (by rw [kn]; decide) w2]
    unfold putP
    rw [if_neg (by show ¬ kindL (35 :: note) = 4; rw [kn]; decide), if_neg (by show ¬ kindL (35 :: note) = 1; rw [kn]; decide)]
  rw [run_cons t3]
  rw [show runP t (endFieldP q') [] = .ok (endFieldP q') from rfl]
  dsimp only
  have s4 : (endFieldP q').said = [] := endField_said q'
  have z3 : endFieldN (endFieldP q') = 0 := by unfold endFieldN; rw [if_pos s4]
  have z4 : endFieldP (endFieldP q') = endFieldP q' := by unfold endFieldP; rw [if_pos (show (if q'.said = [] then q' else _).said = [] from s4)]
  unfold lastP
  rw [z3, if_neg (by decide), z4]
  rw [z2, ← hp2] at w3 w4 w6
  have w3' : (endFieldP q').fields = b := by rw [w3]; rfl
  have hlen : c1 + 1 < t.length := by
    rw [ht]
    unfold textL
    simp only [List.flatMap_append, List.length_append, List.flatMap_cons, List.flatMap_nil, List.append_nil, List.length_cons, List.length_nil]
    unfold textL at hc1
    simp only [List.length_cons] at hc1
    omega
  refine ⟨(t.take c1).drop 0, (t.take (c1 + 1)).drop c1, (t.take t.length).drop (c1 + 1), ?_⟩
  unfold endBlockP
  rw [if_neg (by rw [w6]; show ¬ c1 + 1 = t.length; omega), if_neg (by rw [w3']; intro h; exact nb (List.length_eq_zero_iff.1 h))]
  unfold endItemP
  simp only [w3', w4, w6, List.cons_append, List.nil_append]
end Go.Proofs.YtngngamfceoklaaDoor
