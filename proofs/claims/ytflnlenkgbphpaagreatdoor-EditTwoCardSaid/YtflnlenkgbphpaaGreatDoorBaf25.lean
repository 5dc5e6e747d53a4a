/- Texts put together: WM, FT, FU, QD. -/
import Derived.OwnWalk
import Derived.Laws.AppendOwn
import Derived.Test.YtflnlenkgbphpaaGreatDoorBaf5
import Derived.Test.YtflnlenkgbphpaaGreatDoorBaf6
import Derived.Test.YtflnlenkgbphpaaGreatDoorBaf8
import Derived.Test.YtflnlenkgbphpaaGreatDoorBaf10
import Derived.Test.YtflnlenkgbphpaaGreatDoorBaf11
import Derived.Test.YtflnlenkgbphpaaGreatDoorBaf24
set_option linter.unusedVariables false
namespace Go.Proofs.YtflnlenkgbphpaaGreatDoor
open Go.RowKit Go.Shelf

theorem head_at : ∀ (l : List UInt8) (k : Nat), l[k]? = some 10 → (∀ j, j < k → l[j]? ≠ some 10) → head l = l.take k ∧ nl l = true ∧ used l = k + 1
  | [], k, h, _ => by simp at h
  | a :: t, 0, h, _ => by
    have : a = 10 := by simpa using h
    subst this
    exact ⟨rfl, rfl, rfl⟩
  | a :: t, k + 1, h, hn => by
    have ha : a ≠ 10 := fun e => hn 0 (by omega) (by rw [e]; rfl)
    obtain ⟨h1, h2, h3⟩ := head_at t k (by simpa using h) (fun j hj => by have := hn (j + 1) (by omega); simpa using this)
    have e1 : head (a :: t) = a :: head t := by simp [head, ha]
    have e2 : nl (a :: t) = nl t := by simp [nl, Ne.symm ha]
    refine ⟨by rw [e1, h1]; rfl, by rw [e2, h2], ?_⟩
    unfold used at h3 ⊢
    rw [e1, e2, List.length_cons]; omega
theorem head_none : ∀ (l : List UInt8), (∀ j : Nat, l[j]? ≠ some 10) → head l = l ∧ nl l = false ∧ used l = l.length
  | [], _ => ⟨rfl, rfl, rfl⟩
  | a :: t, hn => by
    have ha : a ≠ 10 := fun e => hn 0 (by rw [e]; rfl)
    obtain ⟨h1, h2, h3⟩ := head_none t (fun j => by have := hn (j + 1); simpa using this)
    have e1 : head (a :: t) = a :: head t := by simp [head, ha]
    have e2 : nl (a :: t) = nl t := by simp [nl, Ne.symm ha]
    refine ⟨by rw [e1, h1], by rw [e2, h2], ?_⟩
    unfold used at h3 ⊢
    rw [e1, e2, List.length_cons]; simp only [List.length_cons]; omega

/-- What the slice of the lines holds. -/
def cellsOf (xs : List Ln) : List Value := xs.flatMap fun x => (lineV x).toList
theorem cellsOf_snoc (xs : List Ln) (x : Ln) : cellsOf (xs ++ [x]) = cellsOf xs ++ (lineV x).toList := by unfold cellsOf; simp

theorem lineV_len (x : Ln) : (lineV x).toList.length = 4 := rfl
theorem cellsOf_at : ∀ (pre : List Ln) (x : Ln) (post : List Ln) (j : Nat), j < 4 → (cellsOf (pre ++ x :: post))[pre.length * 4 + j]? = (lineV x).toList[j]?
  | [], x, post, j, hj => by
    show ((lineV x).toList ++ cellsOf post)[_]? = _
    rw [List.getElem?_append_left (by rw [lineV_len]; simp; omega)]; simp
  | y :: pre, x, post, j, hj => by
    show ((lineV y).toList ++ cellsOf (pre ++ x :: post))[_]? = _
    rw [List.getElem?_append_right (by rw [lineV_len]; simp; omega), lineV_len]
    rw [show (y :: pre).length * 4 + j - 4 = pre.length * 4 + j by simp; omega]
    exact cellsOf_at pre x post j hj
theorem info30 : (Tryz.prog.info? 182).map (fun i => (i.zero, i.size, i.bytes)) = some (some (.agg #[.int .i64 0, .int .i64 0, .string ⟨#[]⟩, .bool false]), 4, 40) := by kernel_rfl

/-- A line, laid in a block of its own ahead of an append. -/
theorem lineCells (W : World) (x : Ln) (t : TypeId) : ∀ j u, (lineV x).toList[j]? = some u → (W.alloc (.cells (lineV x) t)).cell? ((⟨W.heap.size, 0, none⟩ : Addr).add j) = some u := by
  intro j u h
  have hadd : (⟨W.heap.size, 0, none⟩ : Addr).add j = ⟨W.heap.size, j, none⟩ := by unfold Addr.add; split <;> simp_all
  rw [hadd]
  have := (Cells.new W t (lineV x)).cell j
  rw [this]
  simpa using h

theorem extract_eq (s : ByteArray) (a b : Nat) : s.extract a b = ⟨((s.data.toList.drop a).take (b - a)).toArray⟩ := by
  rw [← Lib.mk_data (s.extract a b), Lib.extract_data]
/-- The state of the loop behind k bytes. -/
structure Upto (l : List UInt8) (k at_ : Nat) (pre : List Ln) : Prop where
  split : linesOf l = pre ++ linesOn pre.length at_ (l.drop at_)
  le : at_ ≤ k
  none : ∀ j, at_ ≤ j → j < k → l[j]? ≠ some 10
  short : pre.length ≤ at_
theorem Upto.start (l : List UInt8) : Upto l 0 0 [] := ⟨rfl, Nat.le_refl _, fun j _ h => absurd h (Nat.not_lt_zero j), Nat.le_refl _⟩
theorem Upto.step {l : List UInt8} {k at_ : Nat} {pre : List Ln} (h : Upto l k at_ pre) (hk : l[k]? ≠ some 10) : Upto l (k + 1) at_ pre :=
  ⟨h.split, Nat.le_succ_of_le h.le, fun j a b => by
    by_cases e : j = k
    · subst e; exact hk
    · exact h.none j a (by omega), h.short⟩
theorem Upto.line {l : List UInt8} {k at_ : Nat} {pre : List Ln} (h : Upto l k at_ pre) (hk : l[k]? = some 10) :
    Upto l (k + 1) (k + 1) (pre ++ [⟨pre.length, at_, (l.drop at_).take (k - at_), true⟩]) := by
  have hle := h.le
  have h1 : (l.drop at_)[k - at_]? = some 10 := by rw [List.getElem?_drop, show at_ + (k - at_) = k by omega]; exact hk
  have h2 : ∀ j, j < k - at_ → (l.drop at_)[j]? ≠ some 10 := fun j hj => by rw [List.getElem?_drop]; exact h.none _ (by omega) (by omega)
  obtain ⟨a, b, c⟩ := head_at _ _ h1 h2
  have hne : l.drop at_ ≠ [] := by intro e; rw [e] at h1; simp at h1
  have hs := h.split
  rw [linesOn_cons _ _ _ hne, a, b, c, List.drop_drop, show at_ + (k - at_ + 1) = k + 1 by omega] at hs
  refine ⟨?_, Nat.le_refl _, fun j x y => by omega, by rw [List.length_append]; have := h.short; simp; omega⟩
  rw [hs, List.append_assoc, List.length_append]; rfl
theorem Upto.last {l : List UInt8} {k at_ : Nat} {pre : List Ln} (h : Upto l k at_ pre) (hk : k = l.length) :
    linesOf l = if at_ < l.length then pre ++ [⟨pre.length, at_, l.drop at_, false⟩] else pre := by
  have hs := h.split
  by_cases hlt : at_ < l.length
  · rw [if_pos hlt]
    have hne : l.drop at_ ≠ [] := by intro e; have := congrArg List.length e; simp at this; omega
    have h2 : ∀ j : Nat, (l.drop at_)[j]? ≠ some 10 := fun j => by
      rw [List.getElem?_drop]
      by_cases q : at_ + j < k
      · exact h.none _ (by omega) q
      · rw [List.getElem?_eq_none (by omega)]; simp
    obtain ⟨a, b, c⟩ := head_none _ h2
    rw [linesOn_cons _ _ _ hne, a, b, c, List.drop_length, linesOn_nil] at hs
    exact hs
  · rw [if_neg hlt]
    rw [List.drop_of_length_le (by omega), linesOn_nil, List.append_nil] at hs
    exact hs

set_option maxHeartbeats 2000000 in
theorem refSplit_any (s : ByteArray) (hs : s.size ≤ 1000000) (w : World) :
    Calls Tryz.prog 97 #[.string s] w fun e w' => ∃ v, e = .returned v ∧ w'.ownsRow w.heap.size 182 4 v (linesOf s.data.toList).length (cellsOf (linesOf s.data.toList)) ∧ Below w.heap.size w w' := by
  have N5 := Lib.hid (Lib.size_eq s)
  obtain ⟨i0, hi, hz0, hz1, hz2⟩ := info_parts info30
  go_enter Tryz.func97, Tryz.ntmps97
  go_wp2
  go_loopw [3, 4, 5] (fun v a i wr => ∃ (k at_ : Nat) (pre : List Ln), k ≤ s.size ∧ i = .int .i64 k ∧ a = .int .i64 at_ ∧ Upto s.data.toList k at_ pre ∧ (∃ ao cap, v = .slice ao pre.length cap ∧ wr.ownsRow w.heap.size 182 4 (.slice ao pre.length cap) pre.length (cellsOf pre)) ∧ Below w.heap.size w wr)
    (fun _ _ i _ => s.size - (intOf i).toNat)
  case atStart => exact ⟨0, 0, [], Nat.zero_le _, rfl, rfl, Upto.start _, ⟨none, 0, rfl, World.ownsRow_nil _ _ _ _⟩, Below.refl _ _⟩
  case round =>
    obtain ⟨k, at_, pre, hk, rfl, rfl, hu, ⟨ao, cap, rfl, hown⟩, hb⟩ := hrel
    by_cases hlt : k < s.size
    · have e : s.data.toList[k]? = some s[k] := by
        rw [List.getElem?_eq_getElem (by rw [← Lib.size_eq]; exact hlt)]; rfl
      have E := Lib.hid e
      clear e
      have q2 := byte_eq (c := s[k]) (d := 10) 10 rfl
      cases h5 : (s[k] == 10) with
      | false =>
        rw [h5] at q2
        have hu' := hu.step (k := k) (by rw [E.out]; simpa using h5)
        go_wp2
        go_roundw
        case rel => exact ⟨k + 1, at_, pre, hlt, by go_num, rfl, hu', ⟨ao, cap, rfl, hown⟩, hb⟩
        case measure => simp [intOf]; omega
      | true =>
        rw [h5] at q2
        have hu' := hu.line (k := k) (by rw [E.out]; simpa using h5)
        have he := extract_eq s at_ k
        generalize (s.data.toList.drop at_).take (k - at_) = tx at *
        have z1 := hu.le
        have z2 := hu.short
        have hc := lineCells wr ⟨pre.length, at_, tx, true⟩ 182
        dsimp only [lineV] at hc
        have HC := Lib.hid hc
        clear hc
        go_wp2_with (at_builtin; refine wpList_append_own _ rfl _ _ 179 rfl w.heap.size 182 i0 _ 4 40 Tryz.underlying179 hi hz0 hz1 hz2 rfl (by decide) _ _ _ rfl (hown.alloc _) ⟨wr.heap.size, 0, none⟩ 1 1 _ rfl rfl HC.out ?c2 ?c3 ?c4 ?c5 ?_)
        case c2 => intro u hu; simp at hu; rcases hu with rfl | rfl | rfl | rfl <;> rfl
        case c3 => unfold maxLen; omega
        case c4 => omega
        case c5 => have := hb.size; simp; omega
        intro v' w1 hown' hgrow _
        obtain ⟨g', cap', rfl⟩ := ownsRow_succ hown'
        have hb1 : Below w.heap.size w w1 := (hb.alloc hb.size _).grown hgrow (by have := hb.size; simp; omega) (fun j ej => (hown.lt j ej).1)
        go_wp2
        go_roundw
        case rel =>
          refine ⟨k + 1, k + 1, _, hlt, by go_num, by go_num, hu', ⟨some ⟨g', 0, none⟩, cap', ?_, ?_⟩, hb1⟩
          · rw [List.length_append]; rfl
          · rw [List.length_append, cellsOf_snoc]; exact hown'
        case measure => simp [intOf]; omega
    · obtain rfl : k = s.size := by omega
      have hl := hu.last N5.out
      have z1 := hu.le
      have z2 := hu.short
      by_cases h6 : at_ < s.size
      · rw [if_pos (by rw [← N5.out]; exact h6)] at hl
        have HL := Lib.hid hl
        have he : s.extract at_ s.size = ⟨(s.data.toList.drop at_).toArray⟩ := by rw [← Lib.mk_data (s.extract at_ s.size), Lib.extract_to_end]
        clear hl hu
        generalize s.data.toList.drop at_ = tx at *
        have hc := lineCells wr ⟨pre.length, at_, tx, false⟩ 182
        dsimp only [lineV] at hc
        have HC := Lib.hid hc
        clear hc
        go_wp2_with (at_builtin; refine wpList_append_own _ rfl _ _ 179 rfl w.heap.size 182 i0 _ 4 40 Tryz.underlying179 hi hz0 hz1 hz2 rfl (by decide) _ _ _ rfl (hown.alloc _) ⟨wr.heap.size, 0, none⟩ 1 1 _ rfl rfl HC.out ?d2 ?d3 ?d4 ?d5 ?_)
        case d2 => intro u hu; simp at hu; rcases hu with rfl | rfl | rfl | rfl <;> rfl
        case d3 => unfold maxLen; omega
        case d4 => omega
        case d5 => have := hb.size; simp; omega
        intro v' w1 hown' hgrow _
        have hb1 : Below w.heap.size w w1 := (hb.alloc hb.size _).grown hgrow (by have := hb.size; simp; omega) (fun j ej => (hown.lt j ej).1)
        go_wp2
        go_ret
        refine ⟨v', rfl, ?_, hb1⟩
        rw [HL.out, List.length_append, cellsOf_snoc]; exact hown'
      · rw [if_neg (by rw [← N5.out]; exact h6)] at hl
        have HL := Lib.hid hl
        clear hl hu
        go_wp2
        go_ret
        refine ⟨_, rfl, ?_, hb⟩
        rw [HL.out]; exact hown
end Go.Proofs.YtflnlenkgbphpaaGreatDoor

namespace Go.Proofs.YtflnlenkgbphpaaGreatDoor
open Go.RowKit Go.Shelf

theorem joinNl_snocs : ∀ (xs : List (List UInt8)) (y : List UInt8), xs ≠ [] → joinNl (xs ++ [y]) = joinNl xs ++ 10 :: y
  | [], _, h => absurd rfl h
  | [p], y, _ => rfl
  | p :: q :: r, y, _ => by
    show p ++ 10 :: joinNl ((q :: r) ++ [y]) = (p ++ 10 :: joinNl (q :: r)) ++ 10 :: y
    rw [joinNl_snocs (q :: r) y (by simp)]; simp
theorem joinNl_mono : ∀ (xs ys : List (List UInt8)), (joinNl xs).length ≤ (joinNl (xs ++ ys)).length
  | [], ys => by simp [joinNl]
  | [p], [] => by simp
  | [p], q :: r => by show p.length ≤ (p ++ 10 :: joinNl (q :: r)).length; simp
  | p :: q :: r, ys => by
    show (p ++ 10 :: joinNl (q :: r)).length ≤ (p ++ 10 :: joinNl ((q :: r) ++ ys)).length
    have := joinNl_mono (q :: r) ys
    simp only [List.length_append, List.length_cons] at this ⊢; omega
/-- What is said up to k further lines. -/
def accV (a : List UInt8) (r : List (List UInt8)) (k : Nat) : List UInt8 := joinNl (dropSp (afterC a) :: (r.take k).map fun l => dropDot l.tail)
theorem accV_step (a : List UInt8) (r : List (List UInt8)) (k : Nat) (x : List UInt8) (hx : r[k]? = some x) : accV a r (k + 1) = accV a r k ++ 10 :: dropDot x.tail := by
  unfold accV
  rw [List.take_add_one, hx, show (some x).toList = [x] from rfl, List.map_append, ← List.cons_append]
  exact joinNl_snocs _ _ (by simp)
theorem accV_le (a : List UInt8) (r : List (List UInt8)) (k : Nat) : (accV a r k).length ≤ (saidV (a :: r)).length := by
  unfold accV saidV saidP
  simp only [List.headD_cons, List.tail_cons]
  have := joinNl_mono (dropSp (afterC a) :: (r.take k).map fun l => dropDot l.tail) ((r.drop k).map fun l => dropDot l.tail)
  rw [List.cons_append, ← List.map_append, List.take_append_drop] at this
  exact this
theorem accV_all (a : List UInt8) (r : List (List UInt8)) : accV a r r.length = saidV (a :: r) := by
  unfold accV saidV saidP
  rw [List.take_length]; rfl
theorem allK_drop (r : List (List UInt8)) (k : Nat) (x : List UInt8) (h : r[k]? = some x) : sayG 3 (r.drop k) = ((kindL x == 3) && sayG 3 (r.drop (k + 1))) := sayG_drop r k 3 x h
theorem sayF_cons {a : List UInt8} {r : List (List UInt8)} (h : kindL a = 4) : sayF (a :: r) = sayG 3 r := by
  rw [sayF_eq]
  show (decide (0 < (a :: r).length) && ((kindL a == 4) && sayG 3 r)) = _
  simp [h]

end Go.Proofs.YtflnlenkgbphpaaGreatDoor

namespace Go.Proofs.YtflnlenkgbphpaaGreatDoor
open Go.RowKit Go.Shelf

set_option maxRecDepth 100000 in
set_option maxHeartbeats 8000000 in
theorem refUnfold_yes (a : List UInt8) (r : List (List UInt8)) (v : Value) (w : World) (hs : Strs w v ((a :: r).map B)) (hl : ∀ l ∈ a :: r, l.length ≤ 100000) (hn : (a :: r).length ≤ 100000) (hj : (saidV (a :: r)).length ≤ 1000000) (hka : kindL a = 4) :
    Calls Tryz.prog 100 #[v] w fun e w' => e = .returned (.tuple #[fieldV (unfoldK (a :: r)) (unfoldV (a :: r)), .int .i64 (unfoldN (a :: r) : Nat)]) ∧ Below w.heap.size w w' := by
  obtain ⟨A, cap, rfl, hle, hc⟩ := hs
  have hcb := cellB hc
  clear hc
  obtain ⟨b, off, rfl, hbb, hca⟩ := hcb 0 a rfl
  have PCH := Lib.hid (fun (j : Nat) x (hx : r[j]? = some x) => (show w.cell? ⟨b, off + (j + 1), none⟩ = some (.string (B x)) by
    obtain ⟨b', off', e, _, h⟩ := hcb (j + 1) x (by simpa using hx)
    cases e; exact h))
  rw [Nat.add_zero] at hca
  clear hcb
  have hal := hl a (by simp)
  have hlr : ∀ x ∈ r, x.length ≤ 100000 := fun x hx => hl x (List.mem_cons_of_mem _ hx)
  have RK := fun w => refKind_any (B a) (by rw [B_size]; omega) w
  rw [B_data, hka] at RK
  obtain ⟨k1, k2, k3⟩ := kind4 hka
  have RC := fun w => refCut_yes (B a) (by rw [B_size]; omega) w (by rw [B_data]; exact k1) (by rw [B_data]; exact k2) (by rw [B_data]; exact k3)
  rw [pre_B, post_B] at RC
  rw [List.length_map, List.length_cons] at *
  have hnz : ((r.length : Int) + 1 == 0) = false := by rw [beq_eq_false_iff_ne]; omega
  have haz : (afterC a).length ≤ a.length := by unfold afterC; rw [List.length_drop]; omega
  have hA0 : B (accV a r 0) = B (dropSp (afterC a)) := by unfold accV; rfl
  unfold fieldV
  clear k1 k2 k3 hl
  generalize hX : B a = X at *
  clear hX
  generalize hK : B (before a) = KB at *
  have HK := Lib.hid hK
  clear hK
  go_enter Tryz.func100, Tryz.ntmps100
  go_wp2_with fail
  refine (RK _).mono ?_
  rintro e w1 ⟨rfl, b1⟩
  have R1 := cells_kept (Cells.new w 35 #[.string ⟨#[]⟩, .string ⟨#[]⟩]) b1 (by simp)
  have hb1 : Below w.heap.size w w1 := ((Below.refl _ _).alloc (Nat.le_refl _) _).trans (b1.mono (by simp))
  have hca1 := (hb1.cell (p := ⟨b, off, none⟩) hbb).trans hca
  have hs1 := b1.size
  simp only [World.size_alloc] at hs1
  clear b1 hca RK
  go_wp2_with fail
  refine (RC _).mono ?_
  rintro e w2 ⟨rfl, b2⟩
  have R2 := cells_kept R1 b2 (by omega)
  have BW := Lib.hid (hb1.trans (b2.mono (by omega)))
  clear b2 R1 hb1 hca1 RC
  rcases hac : afterC a with _ | ⟨c, t⟩
  · rw [hac] at hA0
    have HA0 : Hid (B (accV a r 0) = ⟨#[]⟩) := hA0
    rw [show B [] = ⟨#[]⟩ from rfl]
    clear hA0 hac
    go_wp2_with fail
    go_loopw [5, 7] (fun s i wr => ∃ n : Nat, n ≤ r.length ∧ i = .int .i64 ((n : Int) + 1) ∧ s = .string (B (accV a r n)) ∧ sayG 3 r = sayG 3 (r.drop n) ∧ Cells wr w.heap.size 35 #[.string ⟨#[]⟩, .string ⟨#[]⟩] ∧ Below w.heap.size w wr) (fun _ i _ => r.length + 1 - (intOf i).toNat)
    case atStart => exact ⟨0, Nat.zero_le _, rfl, by rw [HA0.out], rfl, R2, BW.out⟩
    case round =>
      obtain ⟨n, hnr, rfl, rfl, hG, hR, hb⟩ := hrel
      have hal := accV_le a r n
      have hs3 := hb.size
      have hRl := hR.lt
      by_cases hlt : n < r.length
      · obtain ⟨x, hx⟩ : ∃ x, r[n]? = some x := ⟨_, List.getElem?_eq_getElem hlt⟩
        have hcx := (hb.cell (p := ⟨b, off + (n + 1), none⟩) hbb).trans (PCH.out n x hx)
        have hxl := hlr x (List.mem_of_getElem? hx)
        have hxz := B_size x
        have RK := fun w => refKind_any (B x) (by omega) w
        rw [B_data] at RK
        have STEP := accV_step a r n x hx
        rw [allK_drop r n x hx] at hG
        by_cases hk3 : kindL x = 3
        · obtain ⟨c, d, t, rfl⟩ := kind3 hk3
          have G2 : Hid (sayG 3 r = sayG 3 (r.drop (n + 1))) := by show _ = _; rw [hG, hk3]; simp
          rw [hk3] at RK
          rw [List.tail_cons] at STEP
          have hex := tail_B c (d :: t)
          have hex2 := tail_B d t
          have z1 : (B (c :: d :: t)).size = t.length + 2 := by rw [B_size]; rfl
          have z2 : (B (d :: t)).size = t.length + 1 := by rw [B_size]; rfl
          have z3 : (B t).size = t.length := B_size t
          have htl : t.length ≤ 1000000 := by simp only [List.length_cons] at hxl; omega
          rw [z1] at hex
          rw [z2] at hex2
          have hd0 : ∀ h : 0 < (B (d :: t)).size, (B (d :: t))[0]'h = d := fun _ => rfl
          have hdp : 0 < (B (d :: t)).size := by omega
          have hcp : 0 < (B (c :: d :: t)).size := by omega
          have q2 := byte_eq (c := d) (d := 46) 46 rfl
          have y1 := B_size (accV a r n)
          have y2 : (B (accV a r n) ++ ⟨#[10]⟩).size = (accV a r n).length + 1 := by rw [show (⟨#[10]⟩ : ByteArray) = B [10] from rfl, B_append, B_size]; simp
          have hal2 : (accV a r n).length ≤ 1000000 := by omega
          clear hx hG hk3 hxz hal
          by_cases hd : d = 46
          · have SB : Hid (B (accV a r (n + 1)) = (B (accV a r n) ++ ⟨#[10]⟩) ++ B t) := by
              show _ = _
              rw [STEP, show (⟨#[10]⟩ : ByteArray) = B [10] from rfl, B_append, B_append]; simp [dropDot, hd]
            have hdb : (d == 46) = true := by simp [hd]
            rw [hdb] at q2
            clear STEP hd
            generalize B (accV a r n) = acc at *
            generalize B (c :: d :: t) = X at *
            generalize B (d :: t) = Y at *
            generalize B t = Z at *
            go_wp2_with fail
            refine (RK _).mono ?_
            rintro e w4 ⟨rfl, b4⟩
            have hcx4 := (b4.cell (p := ⟨b, off + (n + 1), none⟩) (Nat.lt_of_lt_of_le hbb hs3)).trans hcx
            have R4 := cells_kept hR b4 (by omega)
            have hb4 := hb.trans (b4.mono hs3)
            clear hR b4 hcx hb
            go_wp2_with fail
            go_roundw
            case rel => exact ⟨n + 1, hlt, by go_num, by rw [SB.out], G2.out, R4, hb4⟩
            case measure => simp [intOf]; omega
          · have SB : Hid (B (accV a r (n + 1)) = (B (accV a r n) ++ ⟨#[10]⟩) ++ B (d :: t)) := by
              show _ = _
              rw [STEP, show (⟨#[10]⟩ : ByteArray) = B [10] from rfl, B_append, B_append]; simp [dropDot, hd]
            have hdb : (d == 46) = false := by simp [hd]
            rw [hdb] at q2
            clear STEP hd
            generalize B (accV a r n) = acc at *
            generalize B (c :: d :: t) = X at *
            generalize B (d :: t) = Y at *
            generalize B t = Z at *
            go_wp2_with fail
            refine (RK _).mono ?_
            rintro e w4 ⟨rfl, b4⟩
            have hcx4 := (b4.cell (p := ⟨b, off + (n + 1), none⟩) (Nat.lt_of_lt_of_le hbb hs3)).trans hcx
            have R4 := cells_kept hR b4 (by omega)
            have hb4 := hb.trans (b4.mono hs3)
            clear hR b4 hcx hb
            go_wp2_with fail
            go_roundw
            case rel => exact ⟨n + 1, hlt, by go_num, by rw [SB.out], G2.out, R4, hb4⟩
            case measure => simp [intOf]; omega
        · have hF : sayF (a :: r) = false := by
            rw [sayF_cons hka, hG]; simp [hk3]
          obtain ⟨e1, e2, e3⟩ := unfold_no hF
          have ET : Hid (unfoldN (a :: r) = 2 ∧ unfoldK (a :: r) = [] ∧ unfoldV (a :: r) = []) := ⟨e1, e2, e3⟩
          have hki : ((kindL x : Int) != 3) = true := by simp; omega
          clear hx hG hk3 e1 e2 e3 hF STEP
          generalize kindL x = kx at *
          generalize B (accV a r n) = acc at *
          generalize B x = X at *
          go_wp2_with fail
          refine (RK _).mono ?_
          rintro e w4 ⟨rfl, b4⟩
          have R4 := cells_kept hR b4 (by omega)
          have hb4 := hb.trans (b4.mono hs3)
          have c0 := R4.cell 0
          have c1 := R4.cell 1
          have f0 := R4.frozen 0
          have f1 := R4.frozen 1
          simp only [List.getElem?_toArray, List.getElem?_cons_zero, List.getElem?_cons_succ] at c0 c1
          have RE := (R4.set 0 (.string ⟨#[]⟩)).set 1 (.string ⟨#[]⟩)
          rw [set2] at RE
          clear hR b4 hcx hb
          go_wp2_with fail
          refine bodyPost_ret (ret_f2 rfl _ _ w.heap.size _ rfl RE rfl) rfl ?_
          obtain ⟨e1, e2, e3⟩ := ET.out
          exact ⟨by rw [e1, e2, e3]; rfl, (hb4.setCell (Nat.le_refl _) _).setCell (Nat.le_refl _) _⟩
      · obtain rfl : n = r.length := by omega
        rw [accV_all] at *
        rw [List.drop_length] at hG
        have hF : sayF (a :: r) = true := by rw [sayF_cons hka, hG]; rfl
        have c0 := hR.cell 0
        have c1 := hR.cell 1
        have f0 := hR.frozen 0
        have f1 := hR.frozen 1
        simp only [List.getElem?_toArray, List.getElem?_cons_zero, List.getElem?_cons_succ] at c0 c1
        have hvz := B_size (saidV (a :: r))
        by_cases hlen : (saidV (a :: r)).length ≤ 1000
        · have ET : Hid _ := unfold_yes hF hlen
          have RE := (hR.set 0 (.string KB)).set 1 (.string (B (saidV (a :: r))))
          rw [set2] at RE
          rw [← hvz] at hlen
          clear hF hG
          generalize hV : B (saidV (a :: r)) = V at *
          have HV := Lib.hid hV
          clear hV
          go_wp2_with fail
          refine bodyPost_ret (ret_f2 rfl _ _ w.heap.size _ rfl RE rfl) rfl ?_
          obtain ⟨e1, e2, e3⟩ := ET.out
          exact ⟨by rw [e1, e2, e3, HV.out, HK.out]; rfl, (hb.setCell (Nat.le_refl _) _).setCell (Nat.le_refl _) _⟩
        · have ET : Hid _ := unfold_long hF hlen
          have RE := (hR.set 0 (.string ⟨#[]⟩)).set 1 (.string ⟨#[]⟩)
          rw [set2] at RE
          rw [← hvz] at hlen
          clear hF hG
          generalize B (saidV (a :: r)) = V at *
          go_wp2_with fail
          refine bodyPost_ret (ret_f2 rfl _ _ w.heap.size _ rfl RE rfl) rfl ?_
          obtain ⟨e1, e2, e3⟩ := ET.out
          exact ⟨by rw [e1, e2, e3]; rfl, (hb.setCell (Nat.le_refl _) _).setCell (Nat.le_refl _) _⟩
  · rw [hac] at hA0 haz
    have hyz := B_size (c :: t)
    have htl : t.length ≤ 1000000 := by simp only [List.length_cons] at haz; omega
    have z1 : (B (c :: t)).size = t.length + 1 := hyz
    have hex := tail_B c t
    rw [z1] at hex
    have hd0 : ∀ h : 0 < (B (c :: t)).size, (B (c :: t))[0]'h = c := fun _ => rfl
    have hdp : 0 < (B (c :: t)).size := by omega
    have q2 := byte_eq (c := c) (d := 32) 32 rfl
    have hAA : (c = 32 ∧ B (accV a r 0) = B t) ∨ (c ≠ 32 ∧ B (accV a r 0) = B (c :: t)) := by
      by_cases h : c = 32
      · exact .inl ⟨h, by rw [hA0]; unfold dropSp; rw [h]; rfl⟩
      · exact .inr ⟨h, by rw [hA0]; unfold dropSp; simp [h]⟩
    clear hA0 hac hyz haz
    have y1 := B_size t
    generalize B (c :: t) = Y0 at *
    generalize B t = Z0 at *
    rcases hAA with ⟨hc, hA0⟩ | ⟨hc, hA0⟩
    · have hcb : (c == 32) = true := by simp [hc]
      rw [hcb] at q2
      have HA0 := Lib.hid hA0
      clear hA0 hc
      go_wp2_with fail
      go_loopw [5, 7] (fun s i wr => ∃ n : Nat, n ≤ r.length ∧ i = .int .i64 ((n : Int) + 1) ∧ s = .string (B (accV a r n)) ∧ sayG 3 r = sayG 3 (r.drop n) ∧ Cells wr w.heap.size 35 #[.string ⟨#[]⟩, .string ⟨#[]⟩] ∧ Below w.heap.size w wr) (fun _ i _ => r.length + 1 - (intOf i).toNat)
      case atStart => exact ⟨0, Nat.zero_le _, rfl, by rw [HA0.out], rfl, R2, BW.out⟩
      case round =>
        obtain ⟨n, hnr, rfl, rfl, hG, hR, hb⟩ := hrel
        have hal := accV_le a r n
        have hs3 := hb.size
        have hRl := hR.lt
        by_cases hlt : n < r.length
        · obtain ⟨x, hx⟩ : ∃ x, r[n]? = some x := ⟨_, List.getElem?_eq_getElem hlt⟩
          have hcx := (hb.cell (p := ⟨b, off + (n + 1), none⟩) hbb).trans (PCH.out n x hx)
          have hxl := hlr x (List.mem_of_getElem? hx)
          have hxz := B_size x
          have RK := fun w => refKind_any (B x) (by omega) w
          rw [B_data] at RK
          have STEP := accV_step a r n x hx
          rw [allK_drop r n x hx] at hG
          by_cases hk3 : kindL x = 3
          · obtain ⟨c, d, t, rfl⟩ := kind3 hk3
            have G2 : Hid (sayG 3 r = sayG 3 (r.drop (n + 1))) := by show _ = _; rw [hG, hk3]; simp
            rw [hk3] at RK
            rw [List.tail_cons] at STEP
            have hex := tail_B c (d :: t)
            have hex2 := tail_B d t
            have z1 : (B (c :: d :: t)).size = t.length + 2 := by rw [B_size]; rfl
            have z2 : (B (d :: t)).size = t.length + 1 := by rw [B_size]; rfl
            have z3 : (B t).size = t.length := B_size t
            have htl : t.length ≤ 1000000 := by simp only [List.length_cons] at hxl; omega
            rw [z1] at hex
            rw [z2] at hex2
            have hd0 : ∀ h : 0 < (B (d :: t)).size, (B (d :: t))[0]'h = d := fun _ => rfl
            have hdp : 0 < (B (d :: t)).size := by omega
            have hcp : 0 < (B (c :: d :: t)).size := by omega
            have q2 := byte_eq (c := d) (d := 46) 46 rfl
            have y1 := B_size (accV a r n)
            have y2 : (B (accV a r n) ++ ⟨#[10]⟩).size = (accV a r n).length + 1 := by rw [show (⟨#[10]⟩ : ByteArray) = B [10] from rfl, B_append, B_size]; simp
            have hal2 : (accV a r n).length ≤ 1000000 := by omega
            clear hx hG hk3 hxz hal
            by_cases hd : d = 46
            · have SB : Hid (B (accV a r (n + 1)) = (B (accV a r n) ++ ⟨#[10]⟩) ++ B t) := by
                show _ = _
                rw [STEP, show (⟨#[10]⟩ : ByteArray) = B [10] from rfl, B_append, B_append]; simp [dropDot, hd]
              have hdb : (d == 46) = true := by simp [hd]
              rw [hdb] at q2
              clear STEP hd
              generalize B (accV a r n) = acc at *
              generalize B (c :: d :: t) = X at *
              generalize B (d :: t) = Y at *
              generalize B t = Z at *
              go_wp2_with fail
              refine (RK _).mono ?_
              rintro e w4 ⟨rfl, b4⟩
              have hcx4 := (b4.cell (p := ⟨b, off + (n + 1), none⟩) (Nat.lt_of_lt_of_le hbb hs3)).trans hcx
              have R4 := cells_kept hR b4 (by omega)
              have hb4 := hb.trans (b4.mono hs3)
              clear hR b4 hcx hb
              go_wp2_with fail
              go_roundw
              case rel => exact ⟨n + 1, hlt, by go_num, by rw [SB.out], G2.out, R4, hb4⟩
              case measure => simp [intOf]; omega
            · have SB : Hid (B (accV a r (n + 1)) = (B (accV a r n) ++ ⟨#[10]⟩) ++ B (d :: t)) := by
                show _ = _
                rw [STEP, show (⟨#[10]⟩ : ByteArray) = B [10] from rfl, B_append, B_append]; simp [dropDot, hd]
              have hdb : (d == 46) = false := by simp [hd]
              rw [hdb] at q2
              clear STEP hd
              generalize B (accV a r n) = acc at *
              generalize B (c :: d :: t) = X at *
              generalize B (d :: t) = Y at *
              generalize B t = Z at *
              go_wp2_with fail
              refine (RK _).mono ?_
              rintro e w4 ⟨rfl, b4⟩
              have hcx4 := (b4.cell (p := ⟨b, off + (n + 1), none⟩) (Nat.lt_of_lt_of_le hbb hs3)).trans hcx
              have R4 := cells_kept hR b4 (by omega)
              have hb4 := hb.trans (b4.mono hs3)
              clear hR b4 hcx hb
              go_wp2_with fail
              go_roundw
              case rel => exact ⟨n + 1, hlt, by go_num, by rw [SB.out], G2.out, R4, hb4⟩
              case measure => simp [intOf]; omega
          · have hF : sayF (a :: r) = false := by
              rw [sayF_cons hka, hG]; simp [hk3]
            obtain ⟨e1, e2, e3⟩ := unfold_no hF
            have ET : Hid (unfoldN (a :: r) = 2 ∧ unfoldK (a :: r) = [] ∧ unfoldV (a :: r) = []) := ⟨e1, e2, e3⟩
            have hki : ((kindL x : Int) != 3) = true := by simp; omega
            clear hx hG hk3 e1 e2 e3 hF STEP
            generalize kindL x = kx at *
            generalize B (accV a r n) = acc at *
            generalize B x = X at *
            go_wp2_with fail
            refine (RK _).mono ?_
            rintro e w4 ⟨rfl, b4⟩
            have R4 := cells_kept hR b4 (by omega)
            have hb4 := hb.trans (b4.mono hs3)
            have c0 := R4.cell 0
            have c1 := R4.cell 1
            have f0 := R4.frozen 0
            have f1 := R4.frozen 1
            simp only [List.getElem?_toArray, List.getElem?_cons_zero, List.getElem?_cons_succ] at c0 c1
            have RE := (R4.set 0 (.string ⟨#[]⟩)).set 1 (.string ⟨#[]⟩)
            rw [set2] at RE
            clear hR b4 hcx hb
            go_wp2_with fail
            refine bodyPost_ret (ret_f2 rfl _ _ w.heap.size _ rfl RE rfl) rfl ?_
            obtain ⟨e1, e2, e3⟩ := ET.out
            exact ⟨by rw [e1, e2, e3]; rfl, (hb4.setCell (Nat.le_refl _) _).setCell (Nat.le_refl _) _⟩
        · obtain rfl : n = r.length := by omega
          rw [accV_all] at *
          rw [List.drop_length] at hG
          have hF : sayF (a :: r) = true := by rw [sayF_cons hka, hG]; rfl
          have c0 := hR.cell 0
          have c1 := hR.cell 1
          have f0 := hR.frozen 0
          have f1 := hR.frozen 1
          simp only [List.getElem?_toArray, List.getElem?_cons_zero, List.getElem?_cons_succ] at c0 c1
          have hvz := B_size (saidV (a :: r))
          by_cases hlen : (saidV (a :: r)).length ≤ 1000
          · have ET : Hid _ := unfold_yes hF hlen
            have RE := (hR.set 0 (.string KB)).set 1 (.string (B (saidV (a :: r))))
            rw [set2] at RE
            rw [← hvz] at hlen
            clear hF hG
            generalize hV : B (saidV (a :: r)) = V at *
            have HV := Lib.hid hV
            clear hV
            go_wp2_with fail
            refine bodyPost_ret (ret_f2 rfl _ _ w.heap.size _ rfl RE rfl) rfl ?_
            obtain ⟨e1, e2, e3⟩ := ET.out
            exact ⟨by rw [e1, e2, e3, HV.out, HK.out]; rfl, (hb.setCell (Nat.le_refl _) _).setCell (Nat.le_refl _) _⟩
          · have ET : Hid _ := unfold_long hF hlen
            have RE := (hR.set 0 (.string ⟨#[]⟩)).set 1 (.string ⟨#[]⟩)
            rw [set2] at RE
            rw [← hvz] at hlen
            clear hF hG
            generalize B (saidV (a :: r)) = V at *
            go_wp2_with fail
            refine bodyPost_ret (ret_f2 rfl _ _ w.heap.size _ rfl RE rfl) rfl ?_
            obtain ⟨e1, e2, e3⟩ := ET.out
            exact ⟨by rw [e1, e2, e3]; rfl, (hb.setCell (Nat.le_refl _) _).setCell (Nat.le_refl _) _⟩
    · have hcb : (c == 32) = false := by simp [hc]
      rw [hcb] at q2
      have HA0 := Lib.hid hA0
      clear hA0 hc
      go_wp2_with fail
      go_loopw [5, 7] (fun s i wr => ∃ n : Nat, n ≤ r.length ∧ i = .int .i64 ((n : Int) + 1) ∧ s = .string (B (accV a r n)) ∧ sayG 3 r = sayG 3 (r.drop n) ∧ Cells wr w.heap.size 35 #[.string ⟨#[]⟩, .string ⟨#[]⟩] ∧ Below w.heap.size w wr) (fun _ i _ => r.length + 1 - (intOf i).toNat)
      case atStart => exact ⟨0, Nat.zero_le _, rfl, by rw [HA0.out], rfl, R2, BW.out⟩
      case round =>
        obtain ⟨n, hnr, rfl, rfl, hG, hR, hb⟩ := hrel
        have hal := accV_le a r n
        have hs3 := hb.size
        have hRl := hR.lt
        by_cases hlt : n < r.length
        · obtain ⟨x, hx⟩ : ∃ x, r[n]? = some x := ⟨_, List.getElem?_eq_getElem hlt⟩
          have hcx := (hb.cell (p := ⟨b, off + (n + 1), none⟩) hbb).trans (PCH.out n x hx)
          have hxl := hlr x (List.mem_of_getElem? hx)
          have hxz := B_size x
          have RK := fun w => refKind_any (B x) (by omega) w
          rw [B_data] at RK
          have STEP := accV_step a r n x hx
          rw [allK_drop r n x hx] at hG
          by_cases hk3 : kindL x = 3
          · obtain ⟨c, d, t, rfl⟩ := kind3 hk3
            have G2 : Hid (sayG 3 r = sayG 3 (r.drop (n + 1))) := by show _ = _; rw [hG, hk3]; simp
            rw [hk3] at RK
            rw [List.tail_cons] at STEP
            have hex := tail_B c (d :: t)
            have hex2 := tail_B d t
            have z1 : (B (c :: d :: t)).size = t.length + 2 := by rw [B_size]; rfl
            have z2 : (B (d :: t)).size = t.length + 1 := by rw [B_size]; rfl
            have z3 : (B t).size = t.length := B_size t
            have htl : t.length ≤ 1000000 := by simp only [List.length_cons] at hxl; omega
            rw [z1] at hex
            rw [z2] at hex2
            have hd0 : ∀ h : 0 < (B (d :: t)).size, (B (d :: t))[0]'h = d := fun _ => rfl
            have hdp : 0 < (B (d :: t)).size := by omega
            have hcp : 0 < (B (c :: d :: t)).size := by omega
            have q2 := byte_eq (c := d) (d := 46) 46 rfl
            have y1 := B_size (accV a r n)
            have y2 : (B (accV a r n) ++ ⟨#[10]⟩).size = (accV a r n).length + 1 := by rw [show (⟨#[10]⟩ : ByteArray) = B [10] from rfl, B_append, B_size]; simp
            have hal2 : (accV a r n).length ≤ 1000000 := by omega
            clear hx hG hk3 hxz hal
            by_cases hd : d = 46
            · have SB : Hid (B (accV a r (n + 1)) = (B (accV a r n) ++ ⟨#[10]⟩) ++ B t) := by
                show _ = _
                rw [STEP, show (⟨#[10]⟩ : ByteArray) = B [10] from rfl, B_append, B_append]; simp [dropDot, hd]
              have hdb : (d == 46) = true := by simp [hd]
              rw [hdb] at q2
              clear STEP hd
              generalize B (accV a r n) = acc at *
              generalize B (c :: d :: t) = X at *
              generalize B (d :: t) = Y at *
              generalize B t = Z at *
              go_wp2_with fail
              refine (RK _).mono ?_
              rintro e w4 ⟨rfl, b4⟩
              have hcx4 := (b4.cell (p := ⟨b, off + (n + 1), none⟩) (Nat.lt_of_lt_of_le hbb hs3)).trans hcx
              have R4 := cells_kept hR b4 (by omega)
              have hb4 := hb.trans (b4.mono hs3)
              clear hR b4 hcx hb
              go_wp2_with fail
              go_roundw
              case rel => exact ⟨n + 1, hlt, by go_num, by rw [SB.out], G2.out, R4, hb4⟩
              case measure => simp [intOf]; omega
            · have SB : Hid (B (accV a r (n + 1)) = (B (accV a r n) ++ ⟨#[10]⟩) ++ B (d :: t)) := by
                show _ = _
                rw [STEP, show (⟨#[10]⟩ : ByteArray) = B [10] from rfl, B_append, B_append]; simp [dropDot, hd]
              have hdb : (d == 46) = false := by simp [hd]
              rw [hdb] at q2
              clear STEP hd
              generalize B (accV a r n) = acc at *
              generalize B (c :: d :: t) = X at *
              generalize B (d :: t) = Y at *
              generalize B t = Z at *
              go_wp2_with fail
              refine (RK _).mono ?_
              rintro e w4 ⟨rfl, b4⟩
              have hcx4 := (b4.cell (p := ⟨b, off + (n + 1), none⟩) (Nat.lt_of_lt_of_le hbb hs3)).trans hcx
              have R4 := cells_kept hR b4 (by omega)
              have hb4 := hb.trans (b4.mono hs3)
              clear hR b4 hcx hb
              go_wp2_with fail
              go_roundw
              case rel => exact ⟨n + 1, hlt, by go_num, by rw [SB.out], G2.out, R4, hb4⟩
              case measure => simp [intOf]; omega
          · have hF : sayF (a :: r) = false := by
              rw [sayF_cons hka, hG]; simp [hk3]
            obtain ⟨e1, e2, e3⟩ := unfold_no hF
            have ET : Hid (unfoldN (a :: r) = 2 ∧ unfoldK (a :: r) = [] ∧ unfoldV (a :: r) = []) := ⟨e1, e2, e3⟩
            have hki : ((kindL x : Int) != 3) = true := by simp; omega
            clear hx hG hk3 e1 e2 e3 hF STEP
            generalize kindL x = kx at *
            generalize B (accV a r n) = acc at *
            generalize B x = X at *
            go_wp2_with fail
            refine (RK _).mono ?_
            rintro e w4 ⟨rfl, b4⟩
            have R4 := cells_kept hR b4 (by omega)
            have hb4 := hb.trans (b4.mono hs3)
            have c0 := R4.cell 0
            have c1 := R4.cell 1
            have f0 := R4.frozen 0
            have f1 := R4.frozen 1
            simp only [List.getElem?_toArray, List.getElem?_cons_zero, List.getElem?_cons_succ] at c0 c1
            have RE := (R4.set 0 (.string ⟨#[]⟩)).set 1 (.string ⟨#[]⟩)
            rw [set2] at RE
            clear hR b4 hcx hb
            go_wp2_with fail
            refine bodyPost_ret (ret_f2 rfl _ _ w.heap.size _ rfl RE rfl) rfl ?_
            obtain ⟨e1, e2, e3⟩ := ET.out
            exact ⟨by rw [e1, e2, e3]; rfl, (hb4.setCell (Nat.le_refl _) _).setCell (Nat.le_refl _) _⟩
        · obtain rfl : n = r.length := by omega
          rw [accV_all] at *
          rw [List.drop_length] at hG
          have hF : sayF (a :: r) = true := by rw [sayF_cons hka, hG]; rfl
          have c0 := hR.cell 0
          have c1 := hR.cell 1
          have f0 := hR.frozen 0
          have f1 := hR.frozen 1
          simp only [List.getElem?_toArray, List.getElem?_cons_zero, List.getElem?_cons_succ] at c0 c1
          have hvz := B_size (saidV (a :: r))
          by_cases hlen : (saidV (a :: r)).length ≤ 1000
          · have ET : Hid _ := unfold_yes hF hlen
            have RE := (hR.set 0 (.string KB)).set 1 (.string (B (saidV (a :: r))))
            rw [set2] at RE
            rw [← hvz] at hlen
            clear hF hG
            generalize hV : B (saidV (a :: r)) = V at *
            have HV := Lib.hid hV
            clear hV
            go_wp2_with fail
            refine bodyPost_ret (ret_f2 rfl _ _ w.heap.size _ rfl RE rfl) rfl ?_
            obtain ⟨e1, e2, e3⟩ := ET.out
            exact ⟨by rw [e1, e2, e3, HV.out, HK.out]; rfl, (hb.setCell (Nat.le_refl _) _).setCell (Nat.le_refl _) _⟩
          · have ET : Hid _ := unfold_long hF hlen
            have RE := (hR.set 0 (.string ⟨#[]⟩)).set 1 (.string ⟨#[]⟩)
            rw [set2] at RE
            rw [← hvz] at hlen
            clear hF hG
            generalize B (saidV (a :: r)) = V at *
            go_wp2_with fail
            refine bodyPost_ret (ret_f2 rfl _ _ w.heap.size _ rfl RE rfl) rfl ?_
            obtain ⟨e1, e2, e3⟩ := ET.out
            exact ⟨by rw [e1, e2, e3]; rfl, (hb.setCell (Nat.le_refl _) _).setCell (Nat.le_refl _) _⟩
end Go.Proofs.YtflnlenkgbphpaaGreatDoor

namespace Go.Proofs.YtflnlenkgbphpaaGreatDoor
open Go.RowKit Go.Shelf

/-- A slice of lines, readable; a slice of their kinds. -/
def LnsR (w : World) (v : Value) (xs : List Ln) : Prop :=
  ∃ A cap, v = .slice A xs.length cap ∧ xs.length ≤ cap ∧ ∀ (i : Nat) (x : Ln), xs[i]? = some x → ∃ b off, A = some ⟨b, off, none⟩ ∧ b < w.heap.size ∧ w.cell? ⟨b, off + i * 4 + 1 + 1, none⟩ = some (.string (B x.text)) ∧ w.cell? ⟨b, off + i * 4 + 1 + 1 + 1, none⟩ = some (.bool x.ended)
theorem LnsR.below {w w' : World} {v : Value} {xs : List Ln} {n : Nat} (h : LnsR w v xs) (hb : Below n w w') (hn : w.heap.size ≤ n) : LnsR w' v xs := by
  obtain ⟨A, cap, hv, hle, hc⟩ := h
  refine ⟨A, cap, hv, hle, fun i x hi => ?_⟩
  obtain ⟨b, off, hA, hlt, c0, c1⟩ := hc i x hi
  have hlt' := Nat.lt_of_lt_of_le hlt hn
  exact ⟨b, off, hA, Nat.lt_of_lt_of_le hlt hb.size, (hb.cell (p := ⟨b, off + i * 4 + 1 + 1, none⟩) hlt').trans c0, (hb.cell (p := ⟨b, off + i * 4 + 1 + 1 + 1, none⟩) hlt').trans c1⟩
def KdsR (w : World) (v : Value) (xs : List Ln) : Prop :=
  ∃ A cap, v = .slice A xs.length cap ∧ xs.length ≤ cap ∧ ∀ (i : Nat) (x : Ln), xs[i]? = some x → ∃ b off, A = some ⟨b, off, none⟩ ∧ b < w.heap.size ∧ w.cell? ⟨b, off + i, none⟩ = some (.int .i64 (kindL x.text : Nat))
theorem KdsR.below {w w' : World} {v : Value} {xs : List Ln} {n : Nat} (h : KdsR w v xs) (hb : Below n w w') (hn : w.heap.size ≤ n) : KdsR w' v xs := by
  obtain ⟨A, cap, hv, hle, hc⟩ := h
  refine ⟨A, cap, hv, hle, fun i x hi => ?_⟩
  obtain ⟨b, off, hA, hlt, c0⟩ := hc i x hi
  exact ⟨b, off, hA, Nat.lt_of_lt_of_le hlt hb.size, (hb.cell (p := ⟨b, off + i, none⟩) (Nat.lt_of_lt_of_le hlt hn)).trans c0⟩
def kindCells (xs : List Ln) : List Value := xs.map fun x => .int .i64 (kindL x.text : Nat)
theorem kds_of_own {w : World} {base : Nat} {v : Value} {xs : List Ln} (h : w.ownsRow base 3 1 v xs.length (kindCells xs)) : KdsR w v xs := by
  rcases Joins.ownsRow_forms h with ⟨e, hn⟩ | ⟨g, cap, e⟩
  · have : xs = [] := List.length_eq_zero_iff.1 hn
    rw [e, this]
    exact ⟨none, 0, rfl, Nat.le_refl _, fun i it hi => by simp at hi⟩
  · refine ⟨some ⟨g, 0, none⟩, cap, e, (by rcases h.2 with ⟨q, _⟩ | ⟨g', cap', cur, q, _, _, q2, _⟩; · rw [e] at q; cases q
                                           · rw [e] at q; cases q; exact q2), fun i x hi => ?_⟩
    have hlt : i < xs.length := by
      rcases Nat.lt_or_ge i xs.length with q | q
      · exact q
      · rw [List.getElem?_eq_none q] at hi; cases hi
    rw [e] at h
    refine ⟨g, 0, rfl, (World.ownsRow.lt h g rfl).2, ?_⟩
    rw [Nat.zero_add, World.ownsRow.cellAt h i (by omega)]
    unfold kindCells
    rw [List.getElem?_map, hi]; rfl
theorem lns_of_own {w : World} {base : Nat} {v : Value} {xs : List Ln} (h : w.ownsRow base 182 4 v xs.length (cellsOf xs)) : LnsR w v xs := by
  rcases Joins.ownsRow_forms h with ⟨e, hn⟩ | ⟨g, cap, e⟩
  · have : xs = [] := List.length_eq_zero_iff.1 hn
    rw [e, this]
    exact ⟨none, 0, rfl, Nat.le_refl _, fun i it hi => by simp at hi⟩
  · refine ⟨some ⟨g, 0, none⟩, cap, e, (by rcases h.2 with ⟨q, _⟩ | ⟨g', cap', cur, q, _, _, q2, _⟩; · rw [e] at q; cases q
                                           · rw [e] at q; cases q; exact q2), fun i x hi => ?_⟩
    have hlt : i < xs.length := by
      rcases Nat.lt_or_ge i xs.length with q | q
      · exact q
      · rw [List.getElem?_eq_none q] at hi; cases hi
    rw [e] at h
    have hx : xs = xs.take i ++ x :: xs.drop (i + 1) := by
      have e := List.drop_eq_getElem_cons hlt
      rw [List.getElem?_eq_getElem hlt] at hi
      rw [Option.some.inj hi] at e
      rw [← e, List.take_append_drop]
    have hti : (xs.take i).length = i := by rw [List.length_take]; omega
    have c2 : (cellsOf xs)[i * 4 + 2]? = some (.string ⟨x.text.toArray⟩) := by
      have := cellsOf_at (xs.take i) x (xs.drop (i + 1)) 2 (by decide)
      rw [hti, ← hx] at this
      exact this
    have c3 : (cellsOf xs)[i * 4 + 3]? = some (.bool x.ended) := by
      have := cellsOf_at (xs.take i) x (xs.drop (i + 1)) 3 (by decide)
      rw [hti, ← hx] at this
      exact this
    refine ⟨g, 0, rfl, (World.ownsRow.lt h g rfl).2, ?_, ?_⟩
    · rw [Nat.zero_add, World.ownsRow.cellAt h (i * 4 + 1 + 1) (by omega)]; exact c2
    · rw [Nat.zero_add, World.ownsRow.cellAt h (i * 4 + 1 + 1 + 1) (by omega)]; exact c3
/-- Which kind the line ahead has; 0: there is none. -/
def prevK (xs : List Ln) (i : Nat) : Nat := if i = 0 then 0 else match xs[i - 1]? with | some x => kindL x.text | none => 0
set_option maxHeartbeats 1000000 in
theorem behind_any (xs : List Ln) (v : Value) (i : Nat) (w : World) (h : KdsR w v xs) (hi : i < xs.length) (hn : xs.length ≤ 1000000) :
    Calls Tryz.prog 130 #[v, .int .i64 i] w fun e w' => e = .returned (.bool (decide (prevK xs i = 4 ∨ prevK xs i = 3))) ∧ w = w' := by
  obtain ⟨A, cap, rfl, hle, hc⟩ := h
  by_cases h0 : i = 0
  · subst h0
    have e : decide (prevK xs 0 = 4 ∨ prevK xs 0 = 3) = false := rfl
    rw [e]
    clear hc
    go_enter Tryz.func130, Tryz.ntmps130
    go_wp2
    go_ret
    exact ⟨rfl, rfl⟩
  · obtain ⟨j, rfl⟩ : ∃ j, i = j + 1 := ⟨i - 1, by omega⟩
    obtain ⟨y, hy⟩ : ∃ y, xs[j]? = some y := ⟨_, List.getElem?_eq_getElem (by omega)⟩
    obtain ⟨b, off, rfl, hbb, c0⟩ := hc j y hy
    have hp : prevK xs (j + 1) = kindL y.text := by unfold prevK; rw [if_neg (by omega), Nat.add_sub_cancel, hy]
    rw [hp]
    have e1 : IntKind.i64.wrap (((j + 1 : Nat) : Int) - 1) = (j : Int) := by rw [IntWalk.i64_in _ (by omega)]; omega
    have e2 : (((j + 1 : Nat) : Int) - 1) = (j : Int) := by omega
    have e3 : (0 : Int) < ((j + 1 : Nat) : Int) := by omega
    clear hc hp hy
    rcases kindL_pos y.text with hk | hk | hk | hk | hk
    all_goals
      rw [hk] at c0 ⊢
      go_enter Tryz.func130, Tryz.ntmps130
      go_wp2
      go_ret
      exact ⟨rfl, rfl⟩
end Go.Proofs.YtflnlenkgbphpaaGreatDoor

