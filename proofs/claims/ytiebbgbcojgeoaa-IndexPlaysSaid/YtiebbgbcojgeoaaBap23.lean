/- Texts put together. -/
import Derived.ArgAppend
import Derived.Test.YtiebbgbcojgeoaaBap6
import Derived.Test.YtiebbgbcojgeoaaBap8
import Derived.Test.YtiebbgbcojgeoaaBap22
set_option linter.unusedVariables false
namespace Go.Proofs.Ytiebbgbcojgeoaa
open Go.RowKit Go.Maps Go.Sort Go.Shelf
attribute [local go_sem] Oper.semAt_some

/-- A row made anew in the world w. -/
structure AccN (w wr : World) (e : TypeId) (sz : Nat) (v : Value) (n : Nat) (xs : List Value) : Prop where
  row : wr.ownsRow w.heap.size e sz v n xs
  below : Below w.heap.size w wr
theorem AccN.start (w wr : World) (e : TypeId) (sz : Nat) (hb : Below w.heap.size w wr) : AccN w wr e sz (.slice none 0 0) 0 [] := ⟨⟨by simp, .inl ⟨rfl, rfl⟩⟩, hb⟩
theorem AccN.grow {w wr W w' : World} {e : TypeId} {sz n : Nat} {v v' : Value} {xs A : List Value} (h : AccN w wr e sz v n xs) (hb : Below wr.heap.size wr W) (ho : w'.ownsRow 0 e sz v' (n + 1) (xs ++ A)) (hg : W.grownBy w' v.ownBlock)
    (hbk : v'.ownBlock = v.ownBlock ∨ v'.ownBlock = some W.heap.size) : AccN w w' e sz v' (n + 1) (xs ++ A) := by
  have hz := h.below.size
  have hz2 := hb.size
  refine ⟨⟨ho.1, ?_⟩, (h.below.trans (hb.mono hz)).grown hg (Nat.le_trans hz hz2) (fun b e2 => (h.row.lt b e2).1)⟩
  rcases ho.2 with ⟨q, hn⟩ | ⟨g2, cap2, cur2, q, _, rest⟩
  · exact .inl ⟨q, hn⟩
  · refine .inr ⟨g2, cap2, cur2, q, ?_, rest⟩
    rcases hbk with hk | hk
    · exact (h.row.lt g2 (by rw [← hk, q]; rfl)).1
    · rw [q] at hk
      have : g2 = W.heap.size := Option.some.inj hk
      omega
theorem AccN.form {w wr : World} {e : TypeId} {sz n : Nat} {v : Value} {xs : List Value} (h : AccN w wr e sz v n xs) : ∃ A c, v = .slice A n c := by
  obtain ⟨A, c, e, _⟩ := row_sliceZ h.row
  exact ⟨A, c, e⟩
theorem AccN.zero {w wr : World} {e : TypeId} {sz n : Nat} {v : Value} {xs : List Value} (h : AccN w wr e sz v n xs) : wr.ownsRow 0 e sz v n xs := row_lower h.row (Nat.zero_le _)

theorem infoStr8q : (Try.prog.info? 9).map (fun i => (i.zero, i.size, i.bytes)) = some (some (.string ⟨#[]⟩), 1, 16) := by kernel_rfl
/-- A row of texts made anew. -/
def AccT (w wr : World) (v : Value) (ts : List (List UInt8)) : Prop := AccN w wr 9 1 v ts.length (ts.map encStr)
theorem AccT.app {w wr W w' : World} {v v' : Value} {ts : List (List UInt8)} {k : List UInt8} (h : AccT w wr v ts) (ho : w'.ownsRow w.heap.size 9 1 v' (ts.length + 1) (ts.map encStr ++ [.string (B k)])) (hg : W.grownBy w' v.ownBlock) (hb : Below wr.heap.size wr W) : AccT w w' v' (ts ++ [k]) := by
  have hz := h.below.size
  have hz2 := hb.size
  refine ⟨?_, (h.below.trans (hb.mono hz)).grown hg (Nat.le_trans hz hz2) (fun b e2 => (h.row.lt b e2).1)⟩
  rw [List.length_append, List.map_append]; exact ho
def stepA (s : List UInt8) (p : List (List UInt8) × Bool) (a : List UInt8) : List (List UInt8) × Bool :=
  (if a = s then (if p.2 = false ∧ s ≤ a then p.1 ++ [s] else p.1) else (if p.2 = false ∧ s ≤ a then p.1 ++ [s] else p.1) ++ [a], p.2 || decide (s ≤ a))
def foldA (s : List UInt8) (l : List (List UInt8)) : List (List UInt8) × Bool := l.foldl (stepA s) ([], false)
theorem foldA_snoc (s : List UInt8) (l : List (List UInt8)) (a : List UInt8) : foldA s (l ++ [a]) = stepA s (foldA s l) a := by unfold foldA; rw [List.foldl_append]; rfl
theorem foldA_len (s : List UInt8) (l : List (List UInt8)) : (foldA s l).1.length ≤ 2 * l.length := by
  have h : ∀ (l : List (List UInt8)) (p : List (List UInt8) × Bool), (l.foldl (stepA s) p).1.length ≤ p.1.length + 2 * l.length := by
    intro l
    induction l with
    | nil => intro p; simp
    | cons a r ih =>
      intro p
      have h1 := ih (stepA s p a)
      have h2 : (stepA s p a).1.length ≤ p.1.length + 2 := by
        unfold stepA
        dsimp only
        split <;> split <;> simp <;> omega
      rw [List.foldl_cons, List.length_cons]; omega
  unfold foldA; simpa using h l ([], false)
theorem foldA_done (s : List UInt8) : ∀ (l : List (List UInt8)) (o : List (List UInt8)), (∀ a ∈ l, s < a) → l.foldl (stepA s) (o, true) = (o ++ l, true)
  | [], o, _ => by simp
  | a :: r, o, h => by
    have h1 : a ≠ s := fun e => List.lt_irrefl s (e ▸ h a List.mem_cons_self)
    have e : stepA s (o, true) a = (o ++ [a], true) := by unfold stepA; simp [h1]
    rw [List.foldl_cons, e, foldA_done s r (o ++ [a]) fun x hx => h x (List.mem_cons_of_mem _ hx), List.append_assoc]; rfl
theorem addS_fold (s : List UInt8) : ∀ (l o : List (List UInt8)), l.Pairwise (fun a b => a < b) → (if (l.foldl (stepA s) (o, false)).2 then (l.foldl (stepA s) (o, false)).1 else (l.foldl (stepA s) (o, false)).1 ++ [s]) = o ++ addS l s
  | [], o, _ => by simp [addS]
  | a :: r, o, h => by
    have hc := List.pairwise_cons.1 h
    unfold addS
    rcases lt_tri a s with q | q | q
    · have h1 : a ≠ s := lt_ne q
      have h2 : ¬ s ≤ a := fun z => z q
      have e : stepA s (o, false) a = (o ++ [a], false) := by unfold stepA; simp [h1, h2]
      rw [List.foldl_cons, e, addS_fold s r (o ++ [a]) hc.2, if_pos q, List.append_assoc]; rfl
    · subst q
      have e : stepA a (o, false) a = (o ++ [a], true) := by unfold stepA; simp
      rw [List.foldl_cons, e, foldA_done a r _ hc.1, if_neg (List.lt_irrefl a), if_pos rfl]; simp
    · have h1 : a ≠ s := (lt_ne q).symm
      have h2 : s ≤ a := List.le_of_lt q
      have h3 : ¬ a < s := fun z => List.lt_irrefl _ (List.lt_trans z q)
      have e : stepA s (o, false) a = (o ++ [s] ++ [a], true) := by unfold stepA; simp [h1, h2]
      rw [List.foldl_cons, e, foldA_done s r _ fun x hx => List.lt_trans q (hc.1 x hx), if_neg h3, if_neg h1]; simp
theorem addS_is {s : List UInt8} {l : List (List UInt8)} (h : l.Pairwise fun a b => a < b) : (if (foldA s l).2 then (foldA s l).1 else (foldA s l).1 ++ [s]) = addS l s := addS_fold s l [] h
theorem addS_len (l : List (List UInt8)) (s : List UInt8) : (addS l s).length ≤ l.length + 1 := by
  induction l with
  | nil => simp [addS]
  | cons a r ih => unfold addS; split; · simp; omega
                   · split <;> simp
set_option maxRecDepth 100000 in
set_option maxHeartbeats 4000000 in
theorem refAdd_any (l : List (List UInt8)) (s : List UInt8) (v : Value) (w : World) (h : Strs w v (l.map B)) (hl : l.length ≤ 100000) (hs : l.Pairwise fun a b => a < b) :
    Calls Try.prog 46 #[v, .string (B s)] w fun e w' => ∃ u, e = .returned u ∧ AccT w w' u (addS l s) := by
  obtain ⟨i0, hi, hz0, hz1, hz2⟩ := info_parts infoStr8q
  have AE := Lib.hid (addS_is (s := s) hs)
  obtain ⟨A, cap, rfl, hle, hc⟩ := h
  rw [List.length_map] at hle ⊢
  have HC := Lib.hid hc
  clear hc
  go_enter Try.func46, Try.ntmps46
  go_wp2_with fail
  go_loopw [5, 6, 7] (fun o d i wr => ∃ k : Nat, k ≤ l.length ∧ i = .int .i64 k ∧ d = .bool (foldA s (l.take k)).2 ∧ AccT w wr o (foldA s (l.take k)).1) (fun _ _ i _ => l.length - (intOf i).toNat)
  case atStart => exact ⟨0, Nat.zero_le _, rfl, rfl, AccN.start _ _ _ _ (Below.refl _ _)⟩
  case round =>
    obtain ⟨k, hk, rfl, rfl, hacc⟩ := hrel
    by_cases hlt : k < l.length
    · obtain ⟨a, ha⟩ : ∃ a, l[k]? = some a := ⟨_, List.getElem?_eq_getElem hlt⟩
      have TK := Lib.hid (show foldA s (l.take (k + 1)) = stepA s (foldA s (l.take k)) a by rw [List.take_add_one, ha]; exact foldA_snoc _ _ _)
      obtain ⟨b, off, rfl, hb, c0⟩ := HC.out k (B a) (by rw [List.getElem?_map, ha]; rfl)
      have C1 := Lib.hid (fun (W : World) (hB : Below w.heap.size w W) => (hB.cell (p := ⟨b, off + k, none⟩) hb).trans c0)
      clear c0
      have LEN := foldA_len s (l.take k)
      rw [List.length_take] at LEN
      generalize foldA s (l.take k) = P at *
      obtain ⟨o1, d⟩ := P
      dsimp only at hacc TK LEN ⊢
      have c1 := C1.out wr hacc.below
      have ACC := Lib.hid hacc
      obtain ⟨ua, uc, rfl⟩ := hacc.form
      clear hacc
      have BL : Op.bytesLess (B a).toList (B s).toList = decide (a < s) := by rw [Lib.toList_data, Lib.toList_data, bytesLess_eq, B_data, B_data]
      have BE : ((B a).toList == (B s).toList) = decide (a = s) := by rw [Lib.toList_data, Lib.toList_data, B_data, B_data, Bool.eq_iff_iff]; simp
      cases d with
      | true =>
        by_cases e1 : a = s
        · rw [show stepA s (o1, true) a = (o1, true) by unfold stepA; simp [e1]] at TK
          rw [decide_eq_true e1] at BE
          clear BL e1 ha
          go_wp2_with fail
          go_roundw
          case rel => exact ⟨k + 1, hlt, by go_num, by rw [TK.out], by rw [TK.out]; exact ACC.out⟩
          case measure => simp [intOf]; omega
        · rw [show stepA s (o1, true) a = (o1 ++ [a], true) by unfold stepA; simp [e1]] at TK
          rw [decide_eq_false e1] at BE
          clear BL e1 ha
          have HRA1 := Lib.hid (ACC.out.row)
          have HVA1 := Lib.hid (cells_new_add wr 9 [.string (B a)])
          have HZA1 := ACC.out.below.size
          go_wp2_with (at_builtin; refine wpList_append_at rfl _ _ 55 rfl w.heap.size 9 i0 _ 1 16 Try.underlying55 hi hz0 hz1 hz2 rfl (by decide) _ _ _ rfl (HRA1.out.alloc _) ⟨wr.heap.size, 0, none⟩ 1 1 _ rfl rfl HVA1.out (by intro u hu; simp at hu; subst hu; rfl) (by unfold maxLen; omega) (by omega) (by simp only [World.size_alloc]; omega) ?_)
          intro vA1 wA1 ownA1 grA1 bkA1
          have A1 := Lib.hid (ACC.out.app  ownA1 grA1 ((Below.refl _ _).alloc (Nat.le_refl _) _))
          obtain ⟨gA1, ccA1, rfl⟩ := ownsRow_succ ownA1
          have c1A1 := C1.out wA1 A1.out.below
          clear ownA1 grA1 bkA1 HRA1 HVA1 HZA1
          go_wp2_with fail
          go_roundw
          case rel => exact ⟨k + 1, hlt, by go_num, by rw [TK.out], by rw [TK.out]; exact A1.out⟩
          case measure => simp [intOf]; omega
      | false =>
        by_cases e2 : s ≤ a
        · rw [decide_eq_false (show ¬ a < s from e2)] at BL
          by_cases e1 : a = s
          · rw [show stepA s (o1, false) a = (o1 ++ [s], true) by unfold stepA; simp [e1]] at TK
            rw [decide_eq_true e1] at BE
            clear e1 e2 ha
            have HRA1 := Lib.hid (ACC.out.row)
            have HVA1 := Lib.hid (cells_new_add wr 9 [.string (B s)])
            have HZA1 := ACC.out.below.size
            go_wp2_with (at_builtin; refine wpList_append_at rfl _ _ 55 rfl w.heap.size 9 i0 _ 1 16 Try.underlying55 hi hz0 hz1 hz2 rfl (by decide) _ _ _ rfl (HRA1.out.alloc _) ⟨wr.heap.size, 0, none⟩ 1 1 _ rfl rfl HVA1.out (by intro u hu; simp at hu; subst hu; rfl) (by unfold maxLen; omega) (by omega) (by simp only [World.size_alloc]; omega) ?_)
            intro vA1 wA1 ownA1 grA1 bkA1
            have A1 := Lib.hid (ACC.out.app  ownA1 grA1 ((Below.refl _ _).alloc (Nat.le_refl _) _))
            obtain ⟨gA1, ccA1, rfl⟩ := ownsRow_succ ownA1
            have c1A1 := C1.out wA1 A1.out.below
            clear ownA1 grA1 bkA1 HRA1 HVA1 HZA1
            go_wp2_with fail
            go_roundw
            case rel => exact ⟨k + 1, hlt, by go_num, by rw [TK.out], by rw [TK.out]; exact A1.out⟩
            case measure => simp [intOf]; omega
          · rw [show stepA s (o1, false) a = (o1 ++ [s] ++ [a], true) by unfold stepA; simp [e1, e2]] at TK
            rw [decide_eq_false e1] at BE
            clear e1 e2 ha
            have HRA1 := Lib.hid (ACC.out.row)
            have HVA1 := Lib.hid (cells_new_add wr 9 [.string (B s)])
            have HZA1 := ACC.out.below.size
            go_wp2_with (at_builtin; refine wpList_append_at rfl _ _ 55 rfl w.heap.size 9 i0 _ 1 16 Try.underlying55 hi hz0 hz1 hz2 rfl (by decide) _ _ _ rfl (HRA1.out.alloc _) ⟨wr.heap.size, 0, none⟩ 1 1 _ rfl rfl HVA1.out (by intro u hu; simp at hu; subst hu; rfl) (by unfold maxLen; omega) (by omega) (by simp only [World.size_alloc]; omega) ?_)
            intro vA1 wA1 ownA1 grA1 bkA1
            have A1 := Lib.hid (ACC.out.app  ownA1 grA1 ((Below.refl _ _).alloc (Nat.le_refl _) _))
            obtain ⟨gA1, ccA1, rfl⟩ := ownsRow_succ ownA1
            have c1A1 := C1.out wA1 A1.out.below
            clear ownA1 grA1 bkA1 HRA1 HVA1 HZA1
            have HRA2 : Hid (wA1.ownsRow w.heap.size 9 1 (.slice (some ⟨gA1, 0, none⟩) (o1.length + 1) ccA1) (o1.length + 1) ((o1 ++ [s]).map encStr)) := by have q := A1.out.row; rw [List.length_append] at q; exact q
            have HVA2 := Lib.hid (cells_new_add wA1 9 [.string (B a)])
            have HZA2 := A1.out.below.size
            go_wp2_with (at_builtin; refine wpList_append_at rfl _ _ 55 rfl w.heap.size 9 i0 _ 1 16 Try.underlying55 hi hz0 hz1 hz2 rfl (by decide) _ _ _ rfl (HRA2.out.alloc _) ⟨wA1.heap.size, 0, none⟩ 1 1 _ rfl rfl HVA2.out (by intro u hu; simp at hu; subst hu; rfl) (by unfold maxLen; omega) (by omega) (by simp only [World.size_alloc]; omega) ?_)
            intro vA2 wA2 ownA2 grA2 bkA2
            have A2 := Lib.hid (A1.out.app (by rw [List.length_append, List.map_append, List.append_assoc]; exact ownA2) grA2 ((Below.refl _ _).alloc (Nat.le_refl _) _))
            obtain ⟨gA2, ccA2, rfl⟩ := ownsRow_succ ownA2
            have c1A2 := C1.out wA2 A2.out.below
            clear ownA2 grA2 bkA2 HRA2 HVA2 HZA2
            go_wp2_with fail
            go_roundw
            case rel => exact ⟨k + 1, hlt, by go_num, by rw [TK.out], by rw [TK.out]; exact A2.out⟩
            case measure => simp [intOf]; omega
        · have e1 : a ≠ s := fun q => e2 (q ▸ List.le_refl _)
          rw [show stepA s (o1, false) a = (o1 ++ [a], false) by unfold stepA; simp [e1, e2]] at TK
          rw [decide_eq_true (show a < s from Decidable.byContradiction fun q => e2 q)] at BL
          rw [decide_eq_false e1] at BE
          clear e1 e2 ha
          have HRA1 := Lib.hid (ACC.out.row)
          have HVA1 := Lib.hid (cells_new_add wr 9 [.string (B a)])
          have HZA1 := ACC.out.below.size
          go_wp2_with (at_builtin; refine wpList_append_at rfl _ _ 55 rfl w.heap.size 9 i0 _ 1 16 Try.underlying55 hi hz0 hz1 hz2 rfl (by decide) _ _ _ rfl (HRA1.out.alloc _) ⟨wr.heap.size, 0, none⟩ 1 1 _ rfl rfl HVA1.out (by intro u hu; simp at hu; subst hu; rfl) (by unfold maxLen; omega) (by omega) (by simp only [World.size_alloc]; omega) ?_)
          intro vA1 wA1 ownA1 grA1 bkA1
          have A1 := Lib.hid (ACC.out.app  ownA1 grA1 ((Below.refl _ _).alloc (Nat.le_refl _) _))
          obtain ⟨gA1, ccA1, rfl⟩ := ownsRow_succ ownA1
          have c1A1 := C1.out wA1 A1.out.below
          clear ownA1 grA1 bkA1 HRA1 HVA1 HZA1
          go_wp2_with fail
          go_roundw
          case rel => exact ⟨k + 1, hlt, by go_num, by rw [TK.out], by rw [TK.out]; exact A1.out⟩
          case measure => simp [intOf]; omega
    · obtain rfl : k = l.length := by omega
      rw [List.take_length] at hacc ⊢
      have LEN := foldA_len s l
      generalize foldA s l = P at *
      obtain ⟨o1, d⟩ := P
      dsimp only at hacc AE LEN ⊢
      have ACC := Lib.hid hacc
      obtain ⟨ua, uc, rfl⟩ := hacc.form
      clear hacc HC
      cases d with
      | true =>
        rw [if_pos rfl] at AE
        go_wp2_with fail
        go_ret
        exact ⟨_, rfl, by rw [← AE.out]; exact ACC.out⟩
      | false =>
        rw [if_neg (by simp)] at AE
        have HRA1 := Lib.hid (ACC.out.row)
        have HVA1 := Lib.hid (cells_new_add wr 9 [.string (B s)])
        have HZA1 := ACC.out.below.size
        go_wp2_with (at_builtin; refine wpList_append_at rfl _ _ 55 rfl w.heap.size 9 i0 _ 1 16 Try.underlying55 hi hz0 hz1 hz2 rfl (by decide) _ _ _ rfl (HRA1.out.alloc _) ⟨wr.heap.size, 0, none⟩ 1 1 _ rfl rfl HVA1.out (by intro u hu; simp at hu; subst hu; rfl) (by unfold maxLen; omega) (by omega) (by simp only [World.size_alloc]; omega) ?_)
        intro vA1 wA1 ownA1 grA1 bkA1
        have A1 := Lib.hid (ACC.out.app  ownA1 grA1 ((Below.refl _ _).alloc (Nat.le_refl _) _))
        obtain ⟨gA1, ccA1, rfl⟩ := ownsRow_succ ownA1
        clear ownA1 grA1 bkA1 HRA1 HVA1 HZA1
        go_wp2_with fail
        go_ret
        exact ⟨_, rfl, by rw [← AE.out]; exact A1.out⟩
end Go.Proofs.Ytiebbgbcojgeoaa

namespace Go.Proofs.Ytiebbgbcojgeoaa
open Go.RowKit Go.Maps Go.Sort Go.Shelf
attribute [local go_sem] Oper.semAt_some

theorem infoStz8 : (Try.prog.info? 69).map (fun i => (i.zero, i.size, i.bytes)) = some (some (.agg #[.int .i64 0, .slice none 0 0]), 2, 32) := by kernel_rfl
theorem stzAt8 : ∀ (l : List Sz) (vs : List Value) (i : Nat) (s : Sz) (v : Value), l[i]? = some s → vs[i]? = some v → (stzCells l vs)[i * 2]? = some (.int .i64 s.1) ∧ (stzCells l vs)[i * 2 + 1]? = some v
  | [], _, i, s, v, h, _ => by simp at h
  | a :: l, [], i, s, v, _, h => by simp at h
  | a :: l, u :: vs, 0, s, v, h, h' => by simp at h h'; subst h h'; exact ⟨rfl, rfl⟩
  | a :: l, u :: vs, i + 1, s, v, h, h' => by
    obtain ⟨x, y⟩ := stzAt8 l vs i s v (by simpa using h) (by simpa using h')
    have e : stzCells (a :: l) (u :: vs) = .int .i64 a.1 :: u :: stzCells l vs := rfl
    rw [e, show (i + 1) * 2 = i * 2 + 1 + 1 by omega]
    exact ⟨by simpa using x, by simpa using y⟩
/-- A slice of stanzas, readable. -/
def SzD (w : World) (v : Value) (rs : List Sz) : Prop :=
  ∃ A cap, v = .slice A rs.length cap ∧ rs.length ≤ cap ∧ ∀ (i : Nat) (s : Sz), rs[i]? = some s → ∃ b off fv, A = some ⟨b, off, none⟩ ∧ b < w.heap.size ∧ w.cell? ⟨b, off + i * 2, none⟩ = some (.int .i64 s.1) ∧ w.cell? ⟨b, off + i * 2 + 1, none⟩ = some fv ∧ Flds w fv s.2
theorem SzD.below {w w' : World} {v : Value} {rs : List Sz} {n : Nat} (h : SzD w v rs) (hb : Below n w w') (hn : w.heap.size ≤ n) : SzD w' v rs := by
  obtain ⟨A, cap, hv, hle, hc⟩ := h
  refine ⟨A, cap, hv, hle, fun i s hi => ?_⟩
  obtain ⟨b, off, fv, hA, hlt, c0, c1, hf⟩ := hc i s hi
  have hlt' := Nat.lt_of_lt_of_le hlt hn
  exact ⟨b, off, fv, hA, Nat.lt_of_lt_of_le hlt hb.size, (hb.cell (p := ⟨b, off + i * 2, none⟩) hlt').trans c0, (hb.cell (p := ⟨b, off + i * 2 + 1, none⟩) hlt').trans c1, hf.below hb hn⟩
/-- A slice of stanzas whose fields' values are as F says. -/
def SzP (F : Value → Sz → Prop) (w : World) (v : Value) (rs : List Sz) : Prop :=
  ∃ A cap, v = .slice A rs.length cap ∧ rs.length ≤ cap ∧ ∀ (i : Nat) (s : Sz), rs[i]? = some s → ∃ b off fv, A = some ⟨b, off, none⟩ ∧ b < w.heap.size ∧ w.cell? ⟨b, off + i * 2, none⟩ = some (.int .i64 s.1) ∧ w.cell? ⟨b, off + i * 2 + 1, none⟩ = some fv ∧ F fv s
theorem SzP.szd {F : Value → Sz → Prop} {w : World} {v : Value} {rs : List Sz} (h : SzP F w v rs) (hF : ∀ x s, F x s → Flds w x s.2) : SzD w v rs := by
  obtain ⟨A, cap, hv, hle, hc⟩ := h
  refine ⟨A, cap, hv, hle, fun i s hi => ?_⟩
  obtain ⟨b, off, fv, hA, hlt, c0, c1, hf⟩ := hc i s hi
  exact ⟨b, off, fv, hA, hlt, c0, c1, hF _ _ hf⟩
/-- Stanzas made anew: their fields lie where they lay. -/
structure AccD (F : Value → Sz → Prop) (w wr : World) (v : Value) (fvs : List Value) (rs : List Sz) : Prop where
  acc : AccN w wr 69 2 v rs.length (stzCells rs fvs)
  len : fvs.length = rs.length
  each : ∀ (j : Nat) s x, rs[j]? = some s → fvs[j]? = some x → F x s
theorem AccD.start (F : Value → Sz → Prop) (w wr : World) (hb : Below w.heap.size w wr) : AccD F w wr (.slice none 0 0) [] [] := ⟨AccN.start _ _ _ _ hb, rfl, fun j s x h => by simp at h⟩
theorem AccD.app {F : Value → Sz → Prop} {w wr W w' : World} {v v' x : Value} {fvs : List Value} {rs : List Sz} {s : Sz} (h : AccD F w wr v fvs rs) (ho : w'.ownsRow w.heap.size 69 2 v' (rs.length + 1) (stzCells rs fvs ++ [.int .i64 s.1, x])) (hg : W.grownBy w' v.ownBlock) (hb : Below wr.heap.size wr W) (hx : F x s) : AccD F w w' v' (fvs ++ [x]) (rs ++ [s]) := by
  have hz := h.acc.below.size
  have hz2 := hb.size
  refine ⟨⟨?_, (h.acc.below.trans (hb.mono hz)).grown hg (Nat.le_trans hz hz2) (fun b e2 => (h.acc.row.lt b e2).1)⟩, by simp [h.len], fun j y u hy hu => ?_⟩
  · rw [List.length_append, stzCells_snoc _ _ _ _ h.len]; exact ho
  · rcases Nat.lt_or_ge j rs.length with q | q
    · rw [List.getElem?_append_left q] at hy
      rw [List.getElem?_append_left (by rw [h.len]; exact q)] at hu
      exact h.each j y u hy hu
    · rw [List.getElem?_append_right q] at hy
      rw [List.getElem?_append_right (by rw [h.len]; exact q), h.len] at hu
      cases e : j - rs.length with
      | zero => rw [e] at hy hu; simp at hy hu; subst hy hu; exact hx
      | succ m => rw [e] at hy; simp at hy
theorem AccD.szd {F : Value → Sz → Prop} {w wr : World} {v : Value} {fvs : List Value} {rs : List Sz} (h : AccD F w wr v fvs rs) : SzP F wr v rs := by
  have hr := h.acc.row
  rcases Joins.ownsRow_forms hr with ⟨rfl, hn⟩ | ⟨g, cap, rfl⟩
  · have : rs = [] := List.length_eq_zero_iff.1 hn
    subst this
    exact ⟨none, 0, rfl, Nat.le_refl _, fun i s h => by simp at h⟩
  · refine ⟨_, cap, rfl, (by rcases hr.2 with ⟨q, _⟩ | ⟨g', cap', cur, q, _, _, q2, _⟩; · cases q
                             · cases q; exact q2), fun i s hi => ?_⟩
    have hlt : i < rs.length := (List.getElem?_eq_some_iff.1 hi).1
    obtain ⟨x, hx⟩ : ∃ x, fvs[i]? = some x := ⟨_, List.getElem?_eq_getElem (by rw [h.len]; exact hlt)⟩
    obtain ⟨a0, a1⟩ := stzAt8 rs fvs i s x hi hx
    exact ⟨g, 0, x, rfl, (World.ownsRow.lt hr g rfl).2, by rw [Nat.zero_add, World.ownsRow.cellAt hr (i * 2) (by omega)]; exact a0, by rw [Nat.zero_add, World.ownsRow.cellAt hr (i * 2 + 1) (by omega)]; exact a1, h.each i s x hi hx⟩
theorem AccD.new {F : Value → Sz → Prop} {w wr : World} {v : Value} {fvs : List Value} {rs : List Sz} (h : AccD F w wr v fvs rs) : ∀ b off n c, v = .slice (some ⟨b, off, none⟩) n c → w.heap.size ≤ b := by
  intro b off n c e
  rcases Joins.ownsRow_forms h.acc.row with ⟨q, _⟩ | ⟨g, cap, q⟩
  · rw [e] at q; cases q
  · rw [e] at q; cases q
    exact (h.acc.row.lt b (by rw [e]; rfl)).1
theorem flds_form8 {w : World} {v : Value} {fs : List (List UInt8 × List UInt8)} (h : Flds w v fs) : ∃ A c, v = .slice A fs.length c ∧ fs.length ≤ c := by
  obtain ⟨A, c, e, hle, _⟩ := h
  exact ⟨A, c, e, hle⟩
theorem dropZ_snoc (l : List Sz) (a : Sz) (id : Int) : dropZ (l ++ [a]) id = if a.1 = id then dropZ l id else dropZ l id ++ [a] := by
  unfold dropZ
  rw [List.filter_append]
  by_cases e : a.1 = id
  · rw [if_pos e, List.filter_cons_of_neg (by simp [e])]; simp
  · rw [if_neg e, List.filter_cons_of_pos (by simp [e])]; rfl
theorem dropZ_len (l : List Sz) (id : Int) : (dropZ l id).length ≤ l.length := List.length_filter_le _ _
set_option maxRecDepth 100000 in
set_option maxHeartbeats 4000000 in
theorem refDrop_any (F : Value → Sz → Prop) (hF : ∀ x s, F x s → ∃ a c, x = .slice a s.2.length c) (l : List Sz) (id : Int) (v : Value) (w : World) (h : SzP F w v l) (hl : l.length ≤ 100000) :
    Calls Try.prog 8 #[v, .int .i64 id] w fun e w' => ∃ u fvs, e = .returned u ∧ AccD F w w' u fvs (dropZ l id) := by
  obtain ⟨i0, hi, hz0, hz1, hz2⟩ := info_parts infoStz8
  obtain ⟨A, cap, rfl, hle, hc⟩ := h
  have HC := Lib.hid hc
  clear hc
  go_enter Try.func8, Try.ntmps8
  go_wp2_with fail
  go_loopw [5, 6] (fun o i wr => ∃ (k : Nat) (fvs : List Value), k ≤ l.length ∧ i = .int .i64 k ∧ AccD F w wr o fvs (dropZ (l.take k) id)) (fun _ i _ => l.length - (intOf i).toNat)
  case atStart => exact ⟨0, [], Nat.zero_le _, rfl, AccD.start _ _ _ (Below.refl _ _)⟩
  case round =>
    obtain ⟨k, fvs, hk, rfl, hacc⟩ := hrel
    by_cases hlt : k < l.length
    · obtain ⟨a, ha⟩ : ∃ a, l[k]? = some a := ⟨_, List.getElem?_eq_getElem hlt⟩
      have TK := Lib.hid (show dropZ (l.take (k + 1)) id = if a.1 = id then dropZ (l.take k) id else dropZ (l.take k) id ++ [a] by rw [List.take_add_one, ha]; exact dropZ_snoc _ _ _)
      obtain ⟨b, off, fv, rfl, hb, c0, c1, hf⟩ := HC.out k a ha
      obtain ⟨fa, fc, rfl⟩ := hF _ _ hf
      replace c0 := (hacc.acc.below.cell (p := ⟨b, off + k * 2, none⟩) hb).trans c0
      replace c1 := (hacc.acc.below.cell (p := ⟨b, off + k * 2 + 1, none⟩) hb).trans c1
      have HFA1 := Lib.hid hf
      have LEN := dropZ_len (l.take k) id
      rw [List.length_take] at LEN
      generalize dropZ (l.take k) id = o1 at *
      have ACC := Lib.hid hacc
      obtain ⟨ua, uc, rfl⟩ := hacc.acc.form
      clear hacc hf
      by_cases e1 : a.1 = id
      · rw [if_pos e1] at TK
        have q : (a.1 != id) = false := by simp [e1]
        clear e1 ha
        go_wp2_with fail
        go_roundw
        case rel => exact ⟨k + 1, fvs, hlt, by go_num, by rw [TK.out]; exact ACC.out⟩
        case measure => simp [intOf]; omega
      · rw [if_neg e1] at TK
        have q : (a.1 != id) = true := by simpa using e1
        clear e1 ha
        have HRA1 := Lib.hid (ACC.out.acc.row)
        have HVA1 := Lib.hid (cells_new_add wr 69 [.int .i64 a.1, .slice fa a.2.length fc])
        have HZA1 := ACC.out.acc.below.size
        go_wp2_with (at_builtin; refine wpList_append_at rfl _ _ 29 rfl w.heap.size 69 i0 _ 2 32 Try.underlying29 hi hz0 hz1 hz2 rfl (by decide) _ _ _ rfl (HRA1.out.alloc _) ⟨wr.heap.size, 0, none⟩ 1 1 _ rfl rfl HVA1.out (by intro u hu; simp at hu; rcases hu with rfl | rfl <;> rfl) (by unfold maxLen; omega) (by omega) (by simp only [World.size_alloc]; omega) ?_)
        intro vA1 wA1 ownA1 grA1 bkA1
        have A1 := Lib.hid (ACC.out.app (s := a) ownA1 grA1 ((Below.refl _ _).alloc (Nat.le_refl _) _) HFA1.out)
        obtain ⟨gA1, ccA1, rfl⟩ := ownsRow_succ ownA1
        clear ownA1 grA1 bkA1 HRA1 HVA1 HZA1
        go_wp2_with fail
        go_roundw
        case rel => exact ⟨k + 1, _, hlt, by go_num, by rw [TK.out]; exact A1.out⟩
        case measure => simp [intOf]; omega
    · obtain rfl : k = l.length := by omega
      rw [List.take_length] at hacc
      have ACC := Lib.hid hacc
      obtain ⟨ua, uc, rfl⟩ := hacc.acc.form
      clear hacc HC
      go_wp2_with fail
      go_ret
      exact ⟨_, _, rfl, ACC.out⟩
end Go.Proofs.Ytiebbgbcojgeoaa

namespace Go.Proofs.Ytiebbgbcojgeoaa
open Go.RowKit Go.Maps Go.Sort Go.Shelf
attribute [local go_sem] Oper.semAt_some

/-- A stanza put at its place. -/
def insZ : List Sz → Sz → List Sz
  | [], s => [s]
  | a :: l, s => if s.1 < a.1 then s :: a :: l else a :: insZ l s
def stepP (s : Sz) (p : List Sz × Bool) (a : Sz) : List Sz × Bool := (if p.2 = false ∧ s.1 < a.1 then p.1 ++ [s] ++ [a] else p.1 ++ [a], p.2 || decide (s.1 < a.1))
def foldP (s : Sz) (l : List Sz) : List Sz × Bool := l.foldl (stepP s) ([], false)
theorem foldP_snoc (s : Sz) (l : List Sz) (a : Sz) : foldP s (l ++ [a]) = stepP s (foldP s l) a := by unfold foldP; rw [List.foldl_append]; rfl
theorem foldP_len (s : Sz) (l : List Sz) : (foldP s l).1.length ≤ 2 * l.length := by
  have h : ∀ (l : List Sz) (p : List Sz × Bool), (l.foldl (stepP s) p).1.length ≤ p.1.length + 2 * l.length := by
    intro l
    induction l with
    | nil => intro p; simp
    | cons a r ih =>
      intro p
      have h1 := ih (stepP s p a)
      have h2 : (stepP s p a).1.length ≤ p.1.length + 2 := by
        unfold stepP
        dsimp only
        split <;> simp
      rw [List.foldl_cons, List.length_cons]; omega
  unfold foldP; simpa using h l ([], false)
theorem foldP_done (s : Sz) : ∀ (l o : List Sz), l.foldl (stepP s) (o, true) = (o ++ l, true)
  | [], o => by simp
  | a :: r, o => by
    have e : stepP s (o, true) a = (o ++ [a], true) := by unfold stepP; simp
    rw [List.foldl_cons, e, foldP_done s r (o ++ [a]), List.append_assoc]; rfl
theorem insZ_fold (s : Sz) : ∀ (l o : List Sz), (if (l.foldl (stepP s) (o, false)).2 then (l.foldl (stepP s) (o, false)).1 else (l.foldl (stepP s) (o, false)).1 ++ [s]) = o ++ insZ l s
  | [], o => by simp [insZ]
  | a :: r, o => by
    unfold insZ
    by_cases q : s.1 < a.1
    · have e : stepP s (o, false) a = (o ++ [s] ++ [a], true) := by unfold stepP; simp [q]
      rw [List.foldl_cons, e, foldP_done s r, if_pos q]; simp
    · have e : stepP s (o, false) a = (o ++ [a], false) := by unfold stepP; simp [q]
      rw [List.foldl_cons, e, insZ_fold s r (o ++ [a]), if_neg q, List.append_assoc]; rfl
theorem insZ_is (s : Sz) (l : List Sz) : (if (foldP s l).2 then (foldP s l).1 else (foldP s l).1 ++ [s]) = insZ l s := insZ_fold s l []
set_option maxRecDepth 100000 in
set_option maxHeartbeats 4000000 in
theorem refPut_any (F : Value → Sz → Prop) (hF : ∀ x s, F x s → ∃ a c, x = .slice a s.2.length c) (l : List Sz) (id : Int) (fs : List (List UInt8 × List UInt8)) (v u : Value) (w : World) (h : SzP F w v l) (hu : F u (id, fs)) (hl : l.length ≤ 100000) (h1 : 1 ≤ id) :
    Calls Try.prog 12 #[v, .int .i64 id, u] w fun e w' => ∃ y, e = .returned (.tuple #[y, .int .i64 0]) ∧ SzP F w' y (insZ (dropZ l id) (id, fs)) ∧ (∀ b off n c, y = .slice (some ⟨b, off, none⟩) n c → w.heap.size ≤ b) ∧ Below w.heap.size w w' := by
  obtain ⟨i0, hi, hz0, hz1, hz2⟩ := info_parts infoStz8
  have DR := Lib.hid (refDrop_any F hF l id v w h hl)
  have HL2 := Nat.le_trans (dropZ_len l id) hl
  obtain ⟨A, cap, rfl, hle, hc⟩ := h
  obtain ⟨na, nc, rfl⟩ := hF _ _ hu
  have HU := Lib.hid hu
  clear hc hu
  have q1 : ¬ id < 1 := by omega
  go_enter Try.func12, Try.ntmps12
  go_wp2_with fail
  refine DR.out.mono ?_
  rintro e w1 ⟨y, gvs, rfl, hdr⟩
  have HS := Lib.hid hdr.szd
  have HB := Lib.hid hdr.acc.below
  have HF1 := Lib.hid HU.out
  have AE := Lib.hid (insZ_is (id, fs) (dropZ l id))
  clear hdr DR HU
  generalize hls : dropZ l id = ls at *
  have EQ := Lib.hid hls
  clear hls
  obtain ⟨B, bc, rfl, hle2, hc⟩ := HS.out
  have HC := Lib.hid hc
  clear hc HS
  go_wp2_with fail
  go_loopw [8, 9, 10] (fun o d i wr => ∃ (k : Nat) (fvs : List Value), k ≤ ls.length ∧ i = .int .i64 k ∧ d = .bool (foldP (id, fs) (ls.take k)).2 ∧ AccD F w1 wr o fvs (foldP (id, fs) (ls.take k)).1) (fun _ _ i _ => ls.length - (intOf i).toNat)
  case atStart => exact ⟨0, [], Nat.zero_le _, rfl, rfl, AccD.start _ _ _ (Below.refl _ _)⟩
  case round =>
    obtain ⟨k, fvs, hk, rfl, rfl, hacc⟩ := hrel
    by_cases hlt : k < ls.length
    · obtain ⟨a, ha⟩ : ∃ a, ls[k]? = some a := ⟨_, List.getElem?_eq_getElem hlt⟩
      have TK := Lib.hid (show foldP (id, fs) (ls.take (k + 1)) = stepP (id, fs) (foldP (id, fs) (ls.take k)) a by rw [List.take_add_one, ha]; exact foldP_snoc _ _ _)
      obtain ⟨b, off, fv, rfl, hb, c0, c1, hf⟩ := HC.out k a ha
      obtain ⟨fa, fc, rfl⟩ := hF _ _ hf
      have C01 := Lib.hid (fun (W : World) (hB : Below w1.heap.size w1 W) => And.intro ((hB.cell (p := ⟨b, off + k * 2, none⟩) hb).trans c0) ((hB.cell (p := ⟨b, off + k * 2 + 1, none⟩) hb).trans c1))
      clear c0 c1
      obtain ⟨c0, c1⟩ := C01.out wr hacc.acc.below
      have HFA := Lib.hid hf
      have LEN := foldP_len (id, fs) (ls.take k)
      rw [List.length_take] at LEN
      generalize foldP (id, fs) (ls.take k) = P at *
      obtain ⟨o1, d⟩ := P
      dsimp only at hacc TK LEN ⊢
      have ACC := Lib.hid hacc
      obtain ⟨ua, uc, rfl⟩ := hacc.acc.form
      clear hacc hf
      cases d with
      | true =>
        rw [show stepP (id, fs) (o1, true) a = (o1 ++ [a], true) by unfold stepP; simp] at TK
        clear ha
        have HRA1 := Lib.hid (ACC.out.acc.row)
        have HVA1 := Lib.hid (cells_new_add wr 69 [.int .i64 a.1, .slice fa a.2.length fc])
        have HZA1 := ACC.out.acc.below.size
        go_wp2_with (at_builtin; refine wpList_append_at rfl _ _ 29 rfl w1.heap.size 69 i0 _ 2 32 Try.underlying29 hi hz0 hz1 hz2 rfl (by decide) _ _ _ rfl (HRA1.out.alloc _) ⟨wr.heap.size, 0, none⟩ 1 1 _ rfl rfl HVA1.out (by intro u hu; simp at hu; rcases hu with rfl | rfl <;> rfl) (by unfold maxLen; omega) (by omega) (by simp only [World.size_alloc]; omega) ?_)
        intro vA1 wA1 ownA1 grA1 bkA1
        have A1 := Lib.hid (ACC.out.app (s := a) ownA1 grA1 ((Below.refl _ _).alloc (Nat.le_refl _) _) HFA.out)
        obtain ⟨gA1, ccA1, rfl⟩ := ownsRow_succ ownA1
        clear ownA1 grA1 bkA1 HRA1 HVA1 HZA1
        go_wp2_with fail
        go_roundw
        case rel => exact ⟨k + 1, _, hlt, by go_num, by rw [TK.out], by rw [TK.out]; exact A1.out⟩
        case measure => simp [intOf]; omega
      | false =>
        by_cases e1 : id < a.1
        · rw [show stepP (id, fs) (o1, false) a = (o1 ++ [(id, fs)] ++ [a], true) by unfold stepP; simp [e1]] at TK
          clear ha
          have HRA1 := Lib.hid (ACC.out.acc.row)
          have HVA1 := Lib.hid (cells_new_add wr 69 [.int .i64 id, .slice na fs.length nc])
          have HZA1 := ACC.out.acc.below.size
          go_wp2_with (at_builtin; refine wpList_append_at rfl _ _ 29 rfl w1.heap.size 69 i0 _ 2 32 Try.underlying29 hi hz0 hz1 hz2 rfl (by decide) _ _ _ rfl (HRA1.out.alloc _) ⟨wr.heap.size, 0, none⟩ 1 1 _ rfl rfl HVA1.out (by intro u hu; simp at hu; rcases hu with rfl | rfl <;> rfl) (by unfold maxLen; omega) (by omega) (by simp only [World.size_alloc]; omega) ?_)
          intro vA1 wA1 ownA1 grA1 bkA1
          have A1 := Lib.hid (ACC.out.app (s := (id, fs)) ownA1 grA1 ((Below.refl _ _).alloc (Nat.le_refl _) _) HF1.out)
          obtain ⟨gA1, ccA1, rfl⟩ := ownsRow_succ ownA1
          clear ownA1 grA1 bkA1 HRA1 HVA1 HZA1
          obtain ⟨k0, k1⟩ := C01.out wA1 A1.out.acc.below
          clear c0 c1
          have HRA2 : Hid (wA1.ownsRow w1.heap.size 69 2 (.slice (some ⟨gA1, 0, none⟩) (o1.length + 1) ccA1) (o1.length + 1) (stzCells (o1 ++ [(id, fs)]) (fvs ++ [.slice na fs.length nc]))) := by have q := A1.out.acc.row; rw [List.length_append] at q; exact q
          have HVA2 := Lib.hid (cells_new_add wA1 69 [.int .i64 a.1, .slice fa a.2.length fc])
          have HZA2 := A1.out.acc.below.size
          go_wp2_with (at_builtin; refine wpList_append_at rfl _ _ 29 rfl w1.heap.size 69 i0 _ 2 32 Try.underlying29 hi hz0 hz1 hz2 rfl (by decide) _ _ _ rfl (HRA2.out.alloc _) ⟨wA1.heap.size, 0, none⟩ 1 1 _ rfl rfl HVA2.out (by intro u hu; simp at hu; rcases hu with rfl | rfl <;> rfl) (by unfold maxLen; omega) (by omega) (by simp only [World.size_alloc]; omega) ?_)
          intro vA2 wA2 ownA2 grA2 bkA2
          have A2 := Lib.hid (A1.out.app (s := a) (by rw [List.length_append]; exact ownA2) grA2 ((Below.refl _ _).alloc (Nat.le_refl _) _) HFA.out)
          obtain ⟨gA2, ccA2, rfl⟩ := ownsRow_succ ownA2
          clear ownA2 grA2 bkA2 HRA2 HVA2 HZA2
          go_wp2_with fail
          go_roundw
          case rel => exact ⟨k + 1, _, hlt, by go_num, by rw [TK.out], by rw [TK.out]; exact A2.out⟩
          case measure => simp [intOf]; omega
        · rw [show stepP (id, fs) (o1, false) a = (o1 ++ [a], false) by unfold stepP; simp [e1]] at TK
          clear ha
          have HRA1 := Lib.hid (ACC.out.acc.row)
          have HVA1 := Lib.hid (cells_new_add wr 69 [.int .i64 a.1, .slice fa a.2.length fc])
          have HZA1 := ACC.out.acc.below.size
          go_wp2_with (at_builtin; refine wpList_append_at rfl _ _ 29 rfl w1.heap.size 69 i0 _ 2 32 Try.underlying29 hi hz0 hz1 hz2 rfl (by decide) _ _ _ rfl (HRA1.out.alloc _) ⟨wr.heap.size, 0, none⟩ 1 1 _ rfl rfl HVA1.out (by intro u hu; simp at hu; rcases hu with rfl | rfl <;> rfl) (by unfold maxLen; omega) (by omega) (by simp only [World.size_alloc]; omega) ?_)
          intro vA1 wA1 ownA1 grA1 bkA1
          have A1 := Lib.hid (ACC.out.app (s := a) ownA1 grA1 ((Below.refl _ _).alloc (Nat.le_refl _) _) HFA.out)
          obtain ⟨gA1, ccA1, rfl⟩ := ownsRow_succ ownA1
          clear ownA1 grA1 bkA1 HRA1 HVA1 HZA1
          go_wp2_with fail
          go_roundw
          case rel => exact ⟨k + 1, _, hlt, by go_num, by rw [TK.out], by rw [TK.out]; exact A1.out⟩
          case measure => simp [intOf]; omega
    · obtain rfl : k = ls.length := by omega
      rw [List.take_length] at hacc ⊢
      have LEN := foldP_len (id, fs) ls
      generalize foldP (id, fs) ls = P at *
      obtain ⟨o1, d⟩ := P
      dsimp only at hacc AE LEN ⊢
      have ACC := Lib.hid hacc
      obtain ⟨ua, uc, rfl⟩ := hacc.acc.form
      clear hacc HC
      cases d with
      | true =>
        rw [if_pos rfl] at AE
        go_wp2_with fail
        go_ret2
        exact ⟨_, rfl, by rw [EQ.out, ← AE.out]; exact ACC.out.szd, fun b off n c e => Nat.le_trans HB.out.size (ACC.out.new b off n c e), HB.out.trans (ACC.out.acc.below.mono HB.out.size)⟩
      | false =>
        rw [if_neg (by simp)] at AE
        have HRA1 := Lib.hid (ACC.out.acc.row)
        have HVA1 := Lib.hid (cells_new_add wr 69 [.int .i64 id, .slice na fs.length nc])
        have HZA1 := ACC.out.acc.below.size
        go_wp2_with (at_builtin; refine wpList_append_at rfl _ _ 29 rfl w1.heap.size 69 i0 _ 2 32 Try.underlying29 hi hz0 hz1 hz2 rfl (by decide) _ _ _ rfl (HRA1.out.alloc _) ⟨wr.heap.size, 0, none⟩ 1 1 _ rfl rfl HVA1.out (by intro u hu; simp at hu; rcases hu with rfl | rfl <;> rfl) (by unfold maxLen; omega) (by omega) (by simp only [World.size_alloc]; omega) ?_)
        intro vA1 wA1 ownA1 grA1 bkA1
        have A1 := Lib.hid (ACC.out.app (s := (id, fs)) ownA1 grA1 ((Below.refl _ _).alloc (Nat.le_refl _) _) HF1.out)
        obtain ⟨gA1, ccA1, rfl⟩ := ownsRow_succ ownA1
        clear ownA1 grA1 bkA1 HRA1 HVA1 HZA1
        go_wp2_with fail
        go_ret2
        exact ⟨_, rfl, by rw [EQ.out, ← AE.out]; exact A1.out.szd, fun b off n c e => Nat.le_trans HB.out.size (A1.out.new b off n c e), HB.out.trans (A1.out.acc.below.mono HB.out.size)⟩
set_option maxRecDepth 100000 in
set_option maxHeartbeats 1000000 in
theorem refPut_low (id : Int) (v u : Value) (w : World) (h1 : id < 1) :
    Calls Try.prog 12 #[v, .int .i64 id, u] w fun e w' => e = .returned (.tuple #[v, .int .i64 1]) ∧ Below w.heap.size w w' := by
  go_enter Try.func12, Try.ntmps12
  go_wp2_with fail
  go_ret2
  exact ⟨rfl, Below.refl _ _⟩
end Go.Proofs.Ytiebbgbcojgeoaa

