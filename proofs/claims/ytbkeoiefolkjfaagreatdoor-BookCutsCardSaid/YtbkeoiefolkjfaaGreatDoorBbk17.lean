/- Texts put together: WM, WN, WO, AF, RM, EJ, RO, JB, EM. -/
import Derived.OwnWalk
import Derived.Laws.AppendOwn
import Derived.StillTail
import Derived.Test.YtbkeoiefolkjfaaGreatDoorBbk3
import Derived.Test.YtbkeoiefolkjfaaGreatDoorBbk5
import Derived.Test.YtbkeoiefolkjfaaGreatDoorBbk7
import Derived.Test.YtbkeoiefolkjfaaGreatDoorBbk13
import Derived.Test.YtbkeoiefolkjfaaGreatDoorBbk14
import Derived.Test.YtbkeoiefolkjfaaGreatDoorBbk15
import Derived.Test.YtbkeoiefolkjfaaGreatDoorBbk16
set_option linter.unusedVariables false
set_option maxRecDepth 100000
set_option maxHeartbeats 16000000
namespace Go.Proofs.YtbkeoiefolkjfaaGreatDoor
open Go.RowKit Go.Shelf
theorem head_at : ∀ (l : List UInt8) (k : Nat), l[k]? = some 10 -> (∀ j, j < k -> l[j]? ≠ some 10) -> head l = l.take k /\ nl l = true /\ used l = k + 1
  | [], k, h, _ => by simp at h
  | a :: t, 0, h, _ => by
    have : a = 10 := by simpa using h
    subst this
    exact ⟨rfl, rfl, rfl⟩
  | a :: t, k + 1, h, hn => by
    have ha : a ≠ 10 := fun e => hn 0 (by omega) (by rw [e]; rfl)
    obtain ⟨h1, h2, h3⟩ := head_at t k (by simpa using h) (fun j hj => by have := hn (j + 1) (by omega); simpa using this)
    have e1 : head (a :: t) = a :: head t := by simp [head, ha]
    have e2 : nl (a :: t) = nl t := by simp [nl, Ne.symm ha]
    refine ⟨by rw [e1, h1]; rfl, by rw [e2, h2], ?_⟩
    unfold used at h3 ⊢
    rw [e1, e2, List.length_cons]; omega
theorem head_none : ∀ (l : List UInt8), (∀ j : Nat, l[j]? ≠ some 10) -> head l = l /\ nl l = false /\ used l = l.length
  | [], _ => ⟨rfl, rfl, rfl⟩
  | a :: t, hn => by
    have ha : a ≠ 10 := fun e => hn 0 (by rw [e]; rfl)
    obtain ⟨h1, h2, h3⟩ := head_none t (fun j => by have := hn (j + 1); simpa using this)
    have e1 : head (a :: t) = a :: head t := by simp [head, ha]
    have e2 : nl (a :: t) = nl t := by simp [nl, Ne.symm ha]
    refine ⟨by rw [e1, h1], by rw [e2, h2], ?_⟩
    unfold used at h3 ⊢
    rw [e1, e2, List.length_cons]; simp only [List.length_cons]; omega
def cellsOf (xs : List Ln) : List Value := xs.flatMap fun x => (lineV x).toList
theorem cellsOf_snoc (xs : List Ln) (x : Ln) : cellsOf (xs ++ [x]) = cellsOf xs ++ (lineV x).toList := by unfold cellsOf; simp
theorem lineV_len (x : Ln) : (lineV x).toList.length = 4 := rfl
theorem cellsOf_at : ∀ (pre : List Ln) (x : Ln) (post : List Ln) (j : Nat), j < 4 -> (cellsOf (pre ++ x :: post))[pre.length * 4 + j]? = (lineV x).toList[j]?
  | [], x, post, j, hj => by
    show ((lineV x).toList ++ cellsOf post)[_]? = _
    rw [List.getElem?_append_left (by rw [lineV_len]; simp; omega)]; simp
  | y :: pre, x, post, j, hj => by
    show ((lineV y).toList ++ cellsOf (pre ++ x :: post))[_]? = _
    rw [List.getElem?_append_right (by rw [lineV_len]; simp; omega), lineV_len]
    rw [show (y :: pre).length * 4 + j - 4 = pre.length * 4 + j by simp; omega]
    exact cellsOf_at pre x post j hj
theorem info30 : (Tryz.prog.info? 74).map (fun i => (i.zero, i.size, i.bytes)) = some (some (.agg #[.int .i64 0, .int .i64 0, .string ⟨#[]⟩, .bool false]), 4, 40) := by kernel_rfl
theorem lineCells (W : World) (x : Ln) (t : TypeId) : ∀ j u, (lineV x).toList[j]? = some u -> (W.alloc (.cells (lineV x) t)).cell? ((⟨W.heap.size, 0, none⟩ : Addr).add j) = some u := by
  intro j u h
  have hadd : (⟨W.heap.size, 0, none⟩ : Addr).add j = ⟨W.heap.size, j, none⟩ := by unfold Addr.add; split <;> simp_all
  rw [hadd]
  have := (Cells.new W t (lineV x)).cell j
  rw [this]
  simpa using h
theorem extract_eq (s : ByteArray) (a b : Nat) : s.extract a b = ⟨((s.data.toList.drop a).take (b - a)).toArray⟩ := by
  rw [<- Lib.mk_data (s.extract a b), Lib.extract_data]
structure Upto (l : List UInt8) (k at_ : Nat) (pre : List Ln) : Prop where
  split : linesOf l = pre ++ linesOn pre.length at_ (l.drop at_)
  le : at_ <= k
  none : ∀ j, at_ <= j -> j < k -> l[j]? ≠ some 10
  short : pre.length <= at_
theorem Upto.start (l : List UInt8) : Upto l 0 0 [] := ⟨rfl, Nat.le_refl _, fun j _ h => absurd h (Nat.not_lt_zero j), Nat.le_refl _⟩
theorem Upto.step {l : List UInt8} {k at_ : Nat} {pre : List Ln} (h : Upto l k at_ pre) (hk : l[k]? ≠ some 10) : Upto l (k + 1) at_ pre :=
  ⟨h.split, Nat.le_succ_of_le h.le, fun j a b => by
    by_cases e : j = k
    . subst e; exact hk
    exact h.none j a (by omega), h.short⟩
theorem Upto.line {l : List UInt8} {k at_ : Nat} {pre : List Ln} (h : Upto l k at_ pre) (hk : l[k]? = some 10) :
    Upto l (k + 1) (k + 1) (pre ++ [⟨pre.length, at_, (l.drop at_).take (k - at_), true⟩]) := by
  have hle := h.le
  have h1 : (l.drop at_)[k - at_]? = some 10 := by rw [List.getElem?_drop, show at_ + (k - at_) = k by omega]; exact hk
  have h2 : ∀ j, j < k - at_ -> (l.drop at_)[j]? ≠ some 10 := fun j hj => by rw [List.getElem?_drop]; exact h.none _ (by omega) (by omega)
  obtain ⟨a, b, c⟩ := head_at _ _ h1 h2
  have hne : l.drop at_ ≠ [] := by intro e; rw [e] at h1; simp at h1
  have hs := h.split
  rw [linesOn_cons _ _ _ hne, a, b, c, List.drop_drop, show at_ + (k - at_ + 1) = k + 1 by omega] at hs
  refine ⟨?_, Nat.le_refl _, fun j x y => by omega, by rw [List.length_append]; have := h.short; simp; omega⟩
  rw [hs, List.append_assoc, List.length_append]; rfl
theorem Upto.last {l : List UInt8} {k at_ : Nat} {pre : List Ln} (h : Upto l k at_ pre) (hk : k = l.length) :
    linesOf l = if at_ < l.length then pre ++ [⟨pre.length, at_, l.drop at_, false⟩] else pre := by
  have hs := h.split
  by_cases hlt : at_ < l.length
  . rw [if_pos hlt]
    have hne : l.drop at_ ≠ [] := by intro e; have := congrArg List.length e; simp at this; omega
    have h2 : ∀ j : Nat, (l.drop at_)[j]? ≠ some 10 := fun j => by
      rw [List.getElem?_drop]
      by_cases q : at_ + j < k
      . exact h.none _ (by omega) q
      rw [List.getElem?_eq_none (by omega)]; simp
    obtain ⟨a, b, c⟩ := head_none _ h2
    rw [linesOn_cons _ _ _ hne, a, b, c, List.drop_length, linesOn_nil] at hs
    exact hs
  rw [if_neg hlt]
  rw [List.drop_of_length_le (by omega), linesOn_nil, List.append_nil] at hs
  exact hs
theorem refSplit_any (s : ByteArray) (hs : s.size <= 1000000) (w : World) :
    Calls Tryz.prog 31 #[.string s] w fun e w' => ∃ v, e = .returned v /\ w'.ownsRow w.heap.size 74 4 v (linesOf s.data.toList).length (cellsOf (linesOf s.data.toList)) /\ Below w.heap.size w w' := by
  have N5 := Lib.hid (Lib.size_eq s)
  obtain ⟨i0, hi, hz0, hz1, hz2⟩ := info_parts info30
  go_enter Tryz.func31, Tryz.ntmps31
  go_wp2
  go_loopw [3, 4, 5] (fun v a i wr => ∃ (k at_ : Nat) (pre : List Ln), k <= s.size /\ i = .int .i64 k /\ a = .int .i64 at_ /\ Upto s.data.toList k at_ pre /\ (∃ ao cap, v = .slice ao pre.length cap /\ wr.ownsRow w.heap.size 74 4 (.slice ao pre.length cap) pre.length (cellsOf pre)) /\ Below w.heap.size w wr)
    (fun _ _ i _ => s.size - (intOf i).toNat)
  case atStart => exact ⟨0, 0, [], Nat.zero_le _, rfl, rfl, Upto.start _, ⟨none, 0, rfl, World.ownsRow_nil _ _ _ _⟩, Below.refl _ _⟩
  case round =>
  obtain ⟨k, at_, pre, hk, rfl, rfl, hu, ⟨ao, cap, rfl, hown⟩, hb⟩ := hrel
  by_cases hlt : k < s.size
  . have e : s.data.toList[k]? = some s[k] := by
      rw [List.getElem?_eq_getElem (by rw [<- Lib.size_eq]; exact hlt)]; rfl
    have E := Lib.hid e
    clear e
    have q2 := byte_eq (c := s[k]) (d := 10) 10 rfl
    cases h5 : (s[k] == 10) with
    | false =>
      rw [h5] at q2
      have hu' := hu.step (k := k) (by rw [E.out]; simpa using h5)
      go_wp2
      go_roundw
      case rel => exact ⟨k + 1, at_, pre, hlt, by go_num, rfl, hu', ⟨ao, cap, rfl, hown⟩, hb⟩
      case measure => simp [intOf]; omega
    | true =>
    rw [h5] at q2
    have hu' := hu.line (k := k) (by rw [E.out]; simpa using h5)
    have he := extract_eq s at_ k
    generalize (s.data.toList.drop at_).take (k - at_) = tx at *
    have z1 := hu.le
    have z2 := hu.short
    have hc := lineCells wr ⟨pre.length, at_, tx, true⟩ 74
    dsimp only [lineV] at hc
    have HC := Lib.hid hc
    clear hc
    go_wp2_with (at_builtin; refine wpList_append_own _ rfl _ _ 71 rfl w.heap.size 74 i0 _ 4 40 Tryz.underlying71 hi hz0 hz1 hz2 rfl (by decide) _ _ _ rfl (hown.alloc _) ⟨wr.heap.size, 0, none⟩ 1 1 _ rfl rfl HC.out ?c2 ?c3 ?c4 ?c5 ?_)
    case c2 => intro u hu; simp at hu; rcases hu with rfl | rfl | rfl | rfl <;> rfl
    case c3 => unfold maxLen; omega
    case c4 => omega
    case c5 => have := hb.size; simp; omega
    intro v' w1 hown' hgrow _
    obtain ⟨g', cap', rfl⟩ := ownsRow_succ hown'
    have hb1 : Below w.heap.size w w1 := (hb.alloc hb.size _).grown hgrow (by have := hb.size; simp; omega) (fun j ej => (hown.lt j ej).1)
    go_wp2
    go_roundw
    case rel =>
      refine ⟨k + 1, k + 1, _, hlt, by go_num, by go_num, hu', ⟨some ⟨g', 0, none⟩, cap', ?_, ?_⟩, hb1⟩
      . rw [List.length_append]; rfl
      rw [List.length_append, cellsOf_snoc]; exact hown'
    case measure => simp [intOf]; omega
  obtain rfl : k = s.size := by omega
  have hl := hu.last N5.out
  have z1 := hu.le
  have z2 := hu.short
  by_cases h6 : at_ < s.size
  . rw [if_pos (by rw [<- N5.out]; exact h6)] at hl
    have HL := Lib.hid hl
    have he : s.extract at_ s.size = ⟨(s.data.toList.drop at_).toArray⟩ := by rw [<- Lib.mk_data (s.extract at_ s.size), Lib.extract_to_end]
    clear hl hu
    generalize s.data.toList.drop at_ = tx at *
    have hc := lineCells wr ⟨pre.length, at_, tx, false⟩ 74
    dsimp only [lineV] at hc
    have HC := Lib.hid hc
    clear hc
    go_wp2_with (at_builtin; refine wpList_append_own _ rfl _ _ 71 rfl w.heap.size 74 i0 _ 4 40 Tryz.underlying71 hi hz0 hz1 hz2 rfl (by decide) _ _ _ rfl (hown.alloc _) ⟨wr.heap.size, 0, none⟩ 1 1 _ rfl rfl HC.out ?d2 ?d3 ?d4 ?d5 ?_)
    case d2 => intro u hu; simp at hu; rcases hu with rfl | rfl | rfl | rfl <;> rfl
    case d3 => unfold maxLen; omega
    case d4 => omega
    case d5 => have := hb.size; simp; omega
    intro v' w1 hown' hgrow _
    have hb1 : Below w.heap.size w w1 := (hb.alloc hb.size _).grown hgrow (by have := hb.size; simp; omega) (fun j ej => (hown.lt j ej).1)
    go_wp2
    go_ret
    refine ⟨v', rfl, ?_, hb1⟩
    rw [HL.out, List.length_append, cellsOf_snoc]; exact hown'
  rw [if_neg (by rw [<- N5.out]; exact h6)] at hl
  have HL := Lib.hid hl
  clear hl hu
  go_wp2
  go_ret
  refine ⟨_, rfl, ?_, hb⟩
  rw [HL.out]; exact hown
end Go.Proofs.YtbkeoiefolkjfaaGreatDoor
namespace Go.Proofs.YtbkeoiefolkjfaaGreatDoor
open Go.RowKit Go.Shelf
attribute [local go_sem] Oper.semAt_some
end Go.Proofs.YtbkeoiefolkjfaaGreatDoor
namespace Go.Proofs.YtbkeoiefolkjfaaGreatDoor
open Go.RowKit Go.Shelf
attribute [local go_sem] Oper.semAt_some
def indL (j : List UInt8) (xs : List Ln) : List UInt8 := xs.flatMap fun x => j ++ x.bytes
theorem indL_snoc (j : List UInt8) (pre : List Ln) (x : Ln) : indL j (pre ++ [x]) = indL j pre ++ j ++ x.text ++ (endS x.ended).data.toList := by
  have e : (endS x.ended).data.toList = if x.ended then [10] else [] := by unfold endS; cases x.ended <;> rfl
  rw [e]
  simp [indL, Ln.bytes]
theorem indL_len (j : List UInt8) (n m : Nat) : ∀ xs : List Ln, (∀ x ∈ xs, x.bytes.length <= m) -> xs.length <= n -> j.length <= m -> (indL j xs).length <= n * (2 * m)
  | [], _, _, _ => by simp [indL]
  | x :: xs, h, hn, hj => by
    obtain ⟨n, rfl⟩ : ∃ k, n = k + 1 := ⟨n - 1, by simp at hn; omega⟩
    have ih := indL_len j n m xs (fun y hy => h y (List.mem_cons_of_mem _ hy)) (by simpa using hn) hj
    have h1 := h x List.mem_cons_self
    have e : indL j (x :: xs) = j ++ x.bytes ++ indL j xs := by simp [indL]
    rw [e, Nat.add_mul]
    simp only [List.length_append]
    omega
def InvI (w : World) (z R : Nat) (j : List UInt8) (pre : List Ln) (W : World) : Prop :=
  Boxed W z 9 (.string ⟨j.toArray⟩) /\ Bld (z + 1) R (indL j pre) W /\ Below w.heap.size w W
theorem indent_any (s : ByteArray) (hs : s.size <= 1000000) (sl : Value) (j : List UInt8) (hj : j.length <= 1000000) (w : World)
    (hjoin : Calls Tryz.prog 124 #[sl, .string ⟨#[]⟩] w fun e w' => e = .returned (.string ⟨j.toArray⟩) /\ Below w.heap.size w w') :
    Calls Tryz.prog 87 #[.string s, sl] w fun e w' => e = .returned (.string ⟨(indL j (linesOf s.data.toList)).toArray⟩) /\ Below w.heap.size w w' := by
  have hpos : ∀ x ∈ linesOf s.data.toList, x.bytes.length <= 1000000 := by
    intro x hx
    have e := linesOf_join s.data.toList
    obtain ⟨a, b, hab⟩ := List.append_of_mem hx
    rw [hab, List.flatMap_append, List.flatMap_cons] at e
    have := congrArg List.length e
    rw [<- Lib.size_eq] at this
    simp only [List.length_append] at this
    omega
  have hll := linesOf_length s.data.toList
  rw [<- Lib.size_eq] at hll
  obtain ⟨xs, hxs⟩ : ∃ xs, linesOf s.data.toList = xs := ⟨_, rfl⟩
  rw [hxs] at hpos hll ⊢
  have HXS := Lib.hid hxs
  clear hxs
  refine callsIn_wide (n := 9).1 ?_
  refine callsIn_of_wp_marks Tryz.func87 rfl trivial ?_ rfl
  simp only [Tryz.ntmps87, List.size_toArray, List.length_cons, List.length_nil, Nat.reduceAdd, Nat.reduceSub, Array.replicate_succ, Array.replicate_zero, List.push_toArray, List.append_toArray, List.nil_append, List.cons_append]
  gi_wp2_with fail
  refine ⟨trivial, (callsIn_wide.2 hjoin).mono ?_⟩
  rintro e w1 ⟨rfl, hb1⟩
  have zs := hb1.size
  gi_wp2_with fail
  refine ⟨trivial, (callsIn_wide.2 (split_any s _)).mono ?_⟩
  rintro e w3 ⟨rfl, rfl⟩
  gi_wp2_with fail
  have k5 := Boxed.new w1 9 (.string ⟨j.toArray⟩)
  have kb := Bld.new (w1.alloc (.cells #[.string ⟨j.toArray⟩] 9)) (w1.heap.size + 8)
  rw [World.size_alloc] at kb
  have k7 := boxNew3 w1 (.cells #[.string ⟨j.toArray⟩] 9) (.cells #[.pointer none, .slice none 0 0] 133) 9 (.string s)
  have HH := split_hands s (w1.heap.size + 2) _ k7 (by omega)
  rw [HXS.out] at HH
  have hz : (((w1.alloc (.cells #[.string ⟨j.toArray⟩] 9)).alloc (.cells #[.pointer none, .slice none 0 0] 133)).alloc (.cells #[.string s] 9)).heap.size = w1.heap.size + 3 := by simp
  have ab : ∀ k, k <= 5 -> Abide (w1.heap.size + 3) k (InvI w w1.heap.size (w1.heap.size + 8) j) := fun k hk pre W W' h ht =>
    ⟨ht.box h.1 (.inl (by omega)), h.2.1.turned ht (by omega) (by omega), h.2.2.trans (ht.below (by omega) h.2.2.size)⟩
  have init : InvI w w1.heap.size (w1.heap.size + 8) j [] (((w1.alloc (.cells #[.string ⟨j.toArray⟩] 9)).alloc (.cells #[.pointer none, .slice none 0 0] 133)).alloc (.cells #[.string s] 9)) :=
    ⟨(k5.alloc _).alloc _, kb.alloc _, ((hb1.alloc (by omega) _).alloc (by simp; omega) _).alloc (by simp; omega) _⟩
  refine wp_rangedA (gf := 98) (lb := #[.pointer (some ⟨w1.heap.size + 2, 0, none⟩)]) rfl (enters_of Tryz.func98 (by kernel_rfl) rfl) HH (fun _ => rfl)
    (InvI w w1.heap.size (w1.heap.size + 8) j) (fun _ _ _ => False) (by rw [hz]; exact ab _ (by omega)) (fun _ _ _ _ hs _ => hs) init
    (fun a pre x a' W => ∃ Bx, w1.heap.size + 3 + 5 <= Bx /\ a' = { tmps := (a.tmps.setIfInBounds 12 (.agg (lineV x))).setIfInBounds 7 (.pointer (some ⟨Bx, 0, none⟩)), defers := [] } /\ Cells W Bx 99 (lineV x) /\
      InvI w w1.heap.size (w1.heap.size + 8) j pre W)
    ?hM ?assign ?body ?done ?stop
  case hM =>
    rw [hz]
    rintro a pre x a' _ W W' ⟨Bx, h1, h2, h3, h4⟩ ht
    exact ⟨Bx, h1, h2, (ht.same Bx h3.lt (.inr (by omega))).trans h3, ab 2 (by omega) pre W W' h4 ht⟩
  case assign =>
    rw [hz]
    intro l pre x post W hx hsz hi
    clear hx
    dsimp only [lineV]
    gi_wp2
    exact ⟨(Stay.refl _ _ W).alloc hsz _, W.heap.size, by omega, rfl, Cells.new _ _ _, hi.1.alloc _, hi.2.1.alloc _, hi.2.2.alloc hi.2.2.size _⟩
  case body =>
    rw [hz]
    rintro l pre x post a' W hx hsz ⟨Bx, hB, rfl, hc, h1, h2, h3⟩
    have hlen : (indL j (pre ++ [x])).length <= 1000000 * (2 * 1000000) := by
      refine indL_len j 1000000 1000000 _ (fun y hy => hpos y ?_) ?_ hj
      . rw [hx]
        rcases List.mem_append.1 hy with h | h
        . exact List.mem_append_left _ h
        rw [List.mem_singleton.1 h]; simp
      have := congrArg List.length hx
      simp at this ⊢
      omega
    rw [indL_snoc] at hlen
    simp only [List.length_append, <- Lib.size_eq] at hlen
    have HS := Lib.hid (indL_snoc j pre x)
    clear hx
    simp only [List.setIfInBounds_toArray, List.set_cons_zero, List.set_cons_succ, lineV] at hc ⊢
    have c5 := h1.cell
    have hne : Bx ≠ w1.heap.size + 1 := by omega
    obtain ⟨en, hen⟩ : ∃ en, x.ended = en := ⟨_, rfl⟩
    rw [hen] at hlen hc ⊢
    gi_wp2_with fail
    refine ⟨trivial, ((callsIn_wide.2 (writes (w1.heap.size + 1) (w1.heap.size + 8) _ ⟨j.toArray⟩ W h2 (by omega) (by omega) ?_)).inRound l).mono ?_⟩
    . have : (⟨j.toArray⟩ : ByteArray).size = j.length := by simp [ByteArray.size]
      omega
    rintro e W1 ⟨rfl, b1, o1⟩
    have m1 : Cells W1 Bx 99 _ := o1.other hc hne (by decide)
    have p2 : W1.cell? ⟨Bx, 2, none⟩ = some (.string ⟨x.text.toArray⟩) := m1.cell 2
    have z1 := o1.size
    gi_wp2_with fail
    refine ⟨trivial, ((callsIn_wide.2 (writes (w1.heap.size + 1) (w1.heap.size + 8) _ ⟨x.text.toArray⟩ W1 b1 (by omega) (by omega) ?_)).inRound l).mono ?_⟩
    . have e1 : (⟨x.text.toArray⟩ : ByteArray).size = x.text.length := by simp [ByteArray.size]
      simp only [List.length_append, e1]
      omega
    rintro e W2 ⟨rfl, b2, o2⟩
    have m2 : Cells W2 Bx 99 _ := o2.other m1 hne (by decide)
    have z2 := o2.size
    have q0 : W2.cell? ⟨Bx, 0, none⟩ = some (.int .i64 x.no) := m2.cell 0
    have q1 : W2.cell? ⟨Bx, 1, none⟩ = some (.int .i64 x.at_) := m2.cell 1
    have q2 : W2.cell? ⟨Bx, 2, none⟩ = some (.string ⟨x.text.toArray⟩) := m2.cell 2
    have q3 : W2.cell? ⟨Bx, 3, none⟩ = some (.bool en) := m2.cell 3
    gi_wp2_with fail
    refine ⟨trivial, ((callsIn_wide.2 (end_any _ _ _ _ _)).inRound l).mono ?_⟩
    rintro e W3 ⟨rfl, rfl⟩
    gi_wp2_with fail
    refine ⟨trivial, ((callsIn_wide.2 (writes (w1.heap.size + 1) (w1.heap.size + 8) _ (endS en) _ (b2.alloc _) (by omega) (by simp; omega) ?_)).inRound l).mono ?_⟩
    . have e1 : (⟨x.text.toArray⟩ : ByteArray).size = x.text.length := by simp [ByteArray.size]
      simp only [List.length_append]
      omega
    rintro e W4 ⟨rfl, b3, o3⟩
    gi_wp2_with fail
    have oo := ((o1.trans o2).alloc (.cells #[.int .i64 x.no, .int .i64 x.at_, .string ⟨x.text.toArray⟩, .bool en] 99)).trans o3
    refine ⟨oo.stay (by omega) (by omega) (by omega), oo.box h1 (by omega) (by omega), ?_, h3.trans (oo.below (by omega) (by omega) (by have := h3.size; omega))⟩
    rw [HS.out, hen]
    exact b3
  case done =>
    rw [hz]
    rintro W ⟨h1, h2, h3⟩ hmark
    have zW : w1.heap.size + 3 < W.heap.size := (Array.getElem?_eq_some_iff.1 hmark).1
    gi_wp2_with fail
    refine ⟨trivial, (callsIn_wide.2 (Tryz.Builder_String_any_k w.heap.size (w1.heap.size + 1) _ W (h2.library (by omega) (by omega)) (by omega))).mono ?_⟩
    rintro e W1 ⟨rfl, _, g2, g3⟩
    have hK : W1.heap[w1.heap.size + 3]? = some (.deferred (some [])) := g3 _ _ hmark (by simp) (fun c fz e => by cases e)
    gi_wp2
    refine ⟨by simp, .inl ⟨_, _, rfl, run_takeDeferred hK, ?_⟩⟩
    refine ⟨_, results_tmp rfl _ _ _, rfl, (h3.trans g2).trans (belowK_b (w := w) (Nat.le_refl _) W1 _ _ _ (by omega) hK rfl rfl)⟩
  case stop => exact fun _ _ _ _ h => h.elim
end Go.Proofs.YtbkeoiefolkjfaaGreatDoor
namespace Go.Proofs.YtbkeoiefolkjfaaGreatDoor
open Go.RowKit Go.Shelf
attribute [local go_sem] Oper.semAt_some
theorem indent_one (s a : ByteArray) (hs : s.size <= 1000000) (ha : a.size <= 100000) (bk : Nat) (w : World) (h0 : w.cell? ⟨bk, 0, none⟩ = some (.string a)) (hbk : bk < w.heap.size) :
    Calls Tryz.prog 87 #[.string s, .slice (some ⟨bk, 0, none⟩) 1 1] w fun e w' => e = .returned (.string ⟨(indL a.data.toList (linesOf s.data.toList)).toArray⟩) /\ Below w.heap.size w w' := by
  refine indent_any s hs _ _ (by rw [<- Lib.size_eq]; omega) w ?_
  have hj : Lib.join ([a].map (·.data.toList)) (⟨#[]⟩ : ByteArray).data.toList = a.data.toList := by simp [Lib.join]
  have := Tryz.strings_Join bk 0 1 [a] ⟨#[]⟩ w (fun j x hx => by
    match j, hx with
    | 0, hx => cases hx; exact h0) hbk (by simp) (by simp) (by rw [hj, <- Lib.size_eq]; omega)
  rw [hj] at this
  exact this
theorem foldG_le {fs : List Fld} (h : GoodF fs) : (foldG fs).length <= 4000 * fs.length := by
  replace h := h.each
  induction fs with
  | nil => exact Nat.le_refl _
  | cons f r ih =>
  have e : foldG (f :: r) = textL (linesL f.1 f.2) ++ foldG r := by unfold foldG; rw [List.flatMap_cons]
  obtain ⟨a, b⟩ := h f List.mem_cons_self
  have := text_le (k := f.1) (v := f.2) (by unfold checkN; rw [if_pos a, if_pos b])
  rw [e, List.length_append, List.length_cons]
  have := ih (fun x hx => h x (List.mem_cons_of_mem _ hx))
  omega
theorem GoodF.foldN {fs : List Fld} (h : GoodF fs) : foldN fs = 0 := foldN_of fs fun f hf => by
  obtain ⟨a, b⟩ := h.each f hf
  unfold checkN; rw [if_pos a, if_pos b]
theorem GoodF.foldT {fs : List Fld} (h : GoodF fs) : foldT fs = foldG fs := by unfold Proofs.YtbkeoiefolkjfaaGreatDoor.foldT; rw [if_pos h.foldN]
theorem goodKey_len {k : List UInt8} (h : goodKey k = true) : k.length <= 32 := (good_parts h).2.1
theorem GoodF.small {fs : List Fld} (h : GoodF fs) : ∀ f ∈ fs, f.1.length <= 100000 /\ f.2.length <= 100000 := fun f hf => by
  obtain ⟨a, b⟩ := h.each f hf
  have := goodKey_len a
  omega
theorem ind_le (ls : List Ln) : (ls.flatMap (fun x => [32, 32] ++ x.bytes)).length = 2 * ls.length + (ls.flatMap Ln.bytes).length := by
  induction ls with
  | nil => rfl
  | cons x r ih =>
  rw [List.flatMap_cons, List.flatMap_cons, List.length_append, List.length_append, ih, List.length_append, List.length_cons]
  simp only [List.length_cons, List.length_nil]
  omega
theorem edT_parts {ed : Ed} (h : GoodF ed.fields) : edT ed = (lineA ed.kind ed.id ++ [10]) ++ indL [32, 32] (linesOf (foldG ed.fields)) := by
  rw [edT_eq h]; unfold indL; simp
theorem edT_le {ed : Ed} (h : GoodF ed.fields) (hi : I64 ed.id) : (edT ed).length <= 600000 := by
  have h1 := foldG_le h
  have h2 := h.len
  have h3 := linesOf_length (foldG ed.fields)
  have h4 := Lib.itoa_length_le ed.id hi.1 hi.2
  have h5 : (lineA ed.kind ed.id).length <= 40 := by
    unfold lineA
    split
    . rename_i hk
      have : (wordL ed.kind).length <= 7 := by rcases hk with e | e | e <;> rw [e] <;> decide
      rw [List.length_cons, List.length_append, List.length_cons]; omega
    simp
  rw [edT_eq h, List.length_append, List.length_cons, ind_le, linesOf_join]
  omega
def EncR (w w' : World) (eds : List Ed) (e : Ending) : Prop :=
  Below w.heap.size w w' /\ (((chkB eds).2 = 0 /\ e = .returned (.tuple #[.string (B (batchT eds)), .nilIface])) \/ ((chkB eds).2 ≠ 0 /\ ∃ u, e = .returned (.tuple #[.string ⟨#[]⟩, u]) /\ ErrZ w.heap.size w' u (chkB eds).1 (chkB eds).2))
theorem encode_any (eds : List Ed) (v : Value) (w : World) (h : EdV w v eds) (hl : eds.length <= 1000000) (hf : Fines8 eds) (hi : ∀ ed ∈ eds, I64 ed.id) (ht : Tabs w) :
    Calls Tryz.prog 42 #[v] w fun e w' => EncR w w' eds e := by
  have CK := Lib.hid (checkB_any8 eds v w h hl hf ht.err)
  obtain ⟨A, cap, rfl, hle, hc⟩ := h
  have PC := Lib.hid hc
  have HT := Lib.hid ht
  have HI := Lib.hid hi
  clear hc hf ht hi
  go_enter Tryz.func42, Tryz.ntmps42
  go_wp2_with fail
  refine CK.out.mono ?_
  rintro e w1 ⟨u, rfl, b1, hz⟩
  by_cases h0 : (chkB eds).2 = 0
  . obtain ⟨⟨g1, g40⟩, GD⟩ := chkB_good h0
    have GDH := Lib.hid GD
    obtain rfl : u = .nilIface := by
      obtain ⟨_, ⟨rfl, _⟩ | ⟨_, _, _, hx⟩⟩ := hz
      . rw [h0]; rfl
      exact absurd h0 hx
    have B1 := Lib.hid b1
    have Z0 := Lib.hid h0
    have hz1 := b1.size
    have NB := Bld.new w1 (w1.heap.size + 1)
    have NBB : Below w.heap.size w (w1.alloc (.cells #[.pointer none, .slice none 0 0] 133)) := b1.alloc b1.size _
    clear hz GD b1 CK h0
    go_wp2_with fail
    go_loopw [17] (fun i wr => ∃ k : Nat, k <= eds.length /\ i = .int .i64 k /\ Bld w1.heap.size (w1.heap.size + 1) (batchT (eds.take k)) wr /\ (batchT (eds.take k)).length <= 600000 * k /\ Below w.heap.size w wr /\ w1.heap.size < wr.heap.size) (fun i _ => eds.length - (intOf i).toNat)
    case atStart => exact ⟨0, Nat.zero_le _, rfl, NB, Nat.le_refl _, NBB, by simp⟩
    case round =>
    obtain ⟨k, hk, rfl, hbl, hbt, hb, hzr⟩ := hrel
    by_cases hlt : k < eds.length
    . obtain ⟨ed, hed⟩ : ∃ ed, eds[k]? = some ed := ⟨_, List.getElem?_eq_getElem hlt⟩
      obtain ⟨b, off, fv, rfl, hbb, c0, c1, c2, hfl⟩ := PC.out k ed hed
      obtain ⟨fa, fc, rfl, _, _⟩ := _root_.id hfl.1
      replace c0 := (hb.cell (p := ⟨b, off + k * 3, none⟩) hbb).trans c0
      replace c1 := (hb.cell (p := ⟨b, off + k * 3 + 1, none⟩) hbb).trans c1
      replace c2 := (hb.cell (p := ⟨b, off + k * 3 + 1 + 1, none⟩) hbb).trans c2
      have hge := GDH.out ed (List.mem_of_getElem? hed)
      have hie := HI.out ed (List.mem_of_getElem? hed)
      have GF := goodE_F hge
      have TK : Hid (batchT (eds.take (k + 1)) = batchT (eds.take k) ++ ((lineA ed.kind ed.id ++ [10]) ++ indL [32, 32] (linesOf (foldG ed.fields)))) := by
        show _ = _
        rw [take_snoc hed, batchT_snoc, edT_parts GF]
      have ELE := edT_le GF hie
      rw [edT_parts GF] at ELE
      obtain ⟨wa, hwa⟩ : ∃ wa, wa = wr.alloc (.cells #[.int .i64 ed.kind, .int .i64 ed.id, .slice fa ed.fields.length fc] 40) := ⟨_, rfl⟩
      have hsr := hb.size
      have hba : Below wr.heap.size wr wa := by rw [hwa]; exact (Below.refl _ wr).alloc (Nat.le_refl _) _
      have hwz : wa.heap.size = wr.heap.size + 1 := by rw [hwa]; simp
      have cx : Cells wa wr.heap.size 40 #[.int .i64 ed.kind, .int .i64 ed.id, .slice fa ed.fields.length fc] := by rw [hwa]; exact Cells.new _ _ _
      have d0 := cx.cell 0
      have d1 := cx.cell 1
      have d2 := cx.cell 2
      have hB := hb.trans (hba.mono hsr)
      have LNE := Lib.hid (lineA_any ed (.slice fa ed.fields.length fc) hie wa (HT.out.below hB (Nat.le_refl _)))
      have blA := hbl.kept hba (Nat.le_refl _)
      have BLA := Lib.hid blA
      have HBA := Lib.hid hB
      have CX := Lib.hid cx
      have FLD : Hid (∀ W, Below w.heap.size w W -> Calls Tryz.prog 86 #[.slice fa ed.fields.length fc] W fun e w' => e = .returned (.tuple #[.string (B (foldG ed.fields)), .nilIface]) /\ Below W.heap.size W w') := fun W hW => by
        have := fold_any ed.fields (.slice fa ed.fields.length fc) W (hfl.1.below hW (Nat.le_refl _)) (by have := GF.len; omega) GF.small
        rw [GF.foldT, GF.foldN] at this
        exact this
      have fle := foldG_le GF
      have fl40 := GF.len
      have FLE : (B (foldG ed.fields)).size <= 160000 := by rw [B_size]; omega
      clear hed hfl hbl blA hba hB cx hge hie GF hbb fle fl40
      have WRL : Hid (∀ (l : List UInt8) (s : ByteArray) (W : World), Bld w1.heap.size (w1.heap.size + 1) l W -> wr.heap.size < W.heap.size -> l.length + s.size <= 140737488355328 ->
          Calls Tryz.prog 84 #[.pointer (some ⟨w1.heap.size, 0, none⟩), .string s] W fun e W' => e = .returned (.tuple #[.int .i64 s.size, .nilIface]) /\ Bld w1.heap.size (w1.heap.size + 1) (l ++ s.data.toList) W' /\ Wrote w1.heap.size (w1.heap.size + 1) W W') := fun l s W h1 h2 h3 => writes _ _ l s W h1 (by omega) (by omega) h3
      have LE1 : (B (lineA ed.kind ed.id)).size + 1 + (indL [32, 32] (linesOf (foldG ed.fields))).length <= 600000 := by
        rw [B_size]; rw [List.length_append, List.length_append] at ELE; exact ELE
      have DL := Lib.hid (B_data (lineA ed.kind ed.id))
      have DF := Lib.hid (B_data (foldG ed.fields))
      have IND : Hid (∀ W, Calls Tryz.prog 87 #[.string (B (foldG ed.fields)), .slice (some ⟨W.heap.size, 0, none⟩) 1 1] (W.alloc (.cells #[.string ⟨#[32, 32]⟩] 9)) fun e W' => e = .returned (.string (B (indL [32, 32] (linesOf (foldG ed.fields))))) /\ Below W.heap.size W W') := fun W => by
        refine (indent_one _ ⟨#[32, 32]⟩ (by omega) (by decide) W.heap.size _ (by simp) (by simp)).mono ?_
        rintro e W' ⟨rfl, b⟩
        refine ⟨?_, ((Below.refl _ W).alloc (Nat.le_refl _) _).trans (b.mono (by simp))⟩
        rw [show (⟨#[32, 32]⟩ : ByteArray).data.toList = [32, 32] from rfl, B_data]; rfl
      have DI := Lib.hid (B_data (indL [32, 32] (linesOf (foldG ed.fields))))
      have LEI : (B (indL [32, 32] (linesOf (foldG ed.fields)))).size = (indL [32, 32] (linesOf (foldG ed.fields))).length := B_size _
      have LEL : (B (lineA ed.kind ed.id)).size = (lineA ed.kind ed.id).length := B_size _
      clear DF
      generalize hIND : B (indL [32, 32] (linesOf (foldG ed.fields))) = ind at *
      generalize hIL : indL [32, 32] (linesOf (foldG ed.fields)) = indl at *
      generalize hLA : B (lineA ed.kind ed.id) = la at *
      generalize hLL : lineA ed.kind ed.id = lal at *
      generalize hFG : B (foldG ed.fields) = fg at *
      generalize hBT : batchT (eds.take k) = bt at *
      clear hIND hIL hLA hLL hFG d0 d1 d2
      have D2 : Hid (∀ W, Cells W wr.heap.size 40 #[.int .i64 ed.kind, .int .i64 ed.id, .slice fa ed.fields.length fc] -> W.cell? ⟨wr.heap.size, 2, none⟩ = some (.slice fa ed.fields.length fc)) := fun W h => by rw [h.cell]; rfl
      subst hwa
      go_wp2_with fail
      refine LNE.out.mono ?_
      rintro e w2 ⟨rfl, b2⟩
      have hs2 := b2.size
      rw [hwz] at hs2
      have bl2 := BLA.out.kept b2 (Nat.le_refl _)
      have HB2 := Lib.hid (HBA.out.trans (b2.mono HBA.out.size))
      have cx2 := cells_kept CX.out b2 (by rw [hwz]; omega)
      clear b2 LNE BLA
      go_wp2_with fail
      refine (WRL.out _ _ w2 bl2 (by omega) (by omega)).mono ?_
      rintro e w3 ⟨rfl, bl3, o3⟩
      have hs3 := o3.size
      have cx3 : Cells w3 wr.heap.size 40 _ := o3.other cx2 (by omega) (by decide)
      have HB3 := Lib.hid (HB2.out.trans (o3.below (by omega) (by omega) (by omega)))
      rw [DL.out] at bl3
      clear o3 cx2 bl2
      go_wp2_with fail
      refine (WRL.out _ ⟨#[10]⟩ w3 bl3 (by omega) (by rw [List.length_append]; show _ + 1 <= _; omega)).mono ?_
      rintro e w4 ⟨rfl, bl4, o4⟩
      have hs4 := o4.size
      have cx4 : Cells w4 wr.heap.size 40 _ := o4.other cx3 (by omega) (by decide)
      have HB4 := Lib.hid (HB3.out.trans (o4.below (by omega) (by omega) (by omega)))
      have BL4 := Lib.hid bl4
      have d2 := D2.out w4 cx4
      have FL4 := Lib.hid (FLD.out w4 HB4.out)
      clear o4 cx3 bl3 bl4 FLD cx4
      go_wp2_with fail
      refine FL4.out.mono ?_
      rintro e w5 ⟨rfl, b5⟩
      have hs5 := b5.size
      have bl5 := BL4.out.kept b5 (Nat.le_refl _)
      have HB5 := Lib.hid (HB4.out.trans (b5.mono HB4.out.size))
      have BL5 := Lib.hid bl5
      have IN5 := Lib.hid (IND.out w5)
      clear b5 bl5 FL4 BL4 IND
      go_wp2_with fail
      refine IN5.out.mono ?_
      rintro e w6 ⟨rfl, b6⟩
      have hs6 := b6.size
      have bl6 := BL5.out.kept b6 (Nat.le_refl _)
      have HB6 := Lib.hid (HB5.out.trans (b6.mono HB5.out.size))
      clear b6 IN5 BL5
      go_wp2_with fail
      refine (WRL.out _ _ w6 bl6 (by omega) (by rw [List.length_append, List.length_append]; show _ + 1 + _ <= _; omega)).mono ?_
      rintro e w7 ⟨rfl, bl7, o7⟩
      have hs7 := o7.size
      have HB7 := Lib.hid (HB6.out.trans (o7.below (by omega) (by omega) (by omega)))
      rw [DI.out] at bl7
      have BL7 := Lib.hid bl7
      clear o7 bl6 bl7
      go_wp2_with fail
      go_roundw
      case rel =>
        have eT : batchT (eds.take (k + 1)) = bt ++ lal ++ (⟨#[10]⟩ : ByteArray).data.toList ++ indl := by
          rw [TK.out, show (⟨#[10]⟩ : ByteArray).data.toList = [10] from rfl]; simp
        refine ⟨k + 1, hlt, by go_num, by rw [eT]; exact BL7.out, ?_, HB7.out, by omega⟩
        rw [eT, List.length_append, List.length_append, List.length_append]
        show _ + _ + 1 + _ <= _
        omega
      case measure => simp [intOf]; omega
    obtain rfl : k = eds.length := by omega
    rw [List.take_length] at hbl
    have Z := Lib.hid Z0.out
    clear PC HT HI GDH hbt
    have hbs := hb.size
    go_wp2_with fail
    refine (Tryz.Builder_String_any_k w1.heap.size w1.heap.size _ wr (hbl.library (Nat.le_refl _) (by omega)) (by omega)).mono ?_
    rintro e w5 ⟨rfl, _, b5, _⟩
    have B5 := Lib.hid (hb.trans (b5.mono hz1))
    go_wp2_with fail
    go_ret2
    exact ⟨B5.out, .inl ⟨Z.out, rfl⟩⟩
  have NZ := Lib.hid h0
  have Z1 := Lib.hid hz
  have B1 := Lib.hid b1
  obtain ⟨_, ⟨rfl, hx⟩ | ⟨kk, ⟨q, _, rfl, _⟩, _, _⟩⟩ := hz
  . obtain ⟨n, hn⟩ : ∃ n, n = (chkB eds).2 := ⟨_, rfl⟩
    have hpos : 0 < (chkB eds).2 := Nat.pos_of_ne_zero h0
    have ZR : Hid (EncR w w1 eds (.returned (.tuple #[.string ⟨#[]⟩, errV (chkB eds).2]))) := ⟨B1.out, .inr ⟨h0, _, rfl, Z1.out⟩⟩
    rw [errV_pos _ hpos] at ZR ⊢
    clear CK Z1 hx b1 PC
    generalize ((chkB eds).2 : Int) = zz at *
    go_wp2_with fail
    go_ret2
    exact ZR.out
  have ZR : Hid (EncR w w1 eds (.returned (.tuple #[.string ⟨#[]⟩, .iface 68 (.pointer (some ⟨q, 0, none⟩))]))) := ⟨B1.out, .inr ⟨h0, _, rfl, Z1.out⟩⟩
  clear CK Z1 b1 PC
  go_wp2_with fail
  go_ret2
  exact ZR.out
end Go.Proofs.YtbkeoiefolkjfaaGreatDoor
namespace Go.Proofs.YtbkeoiefolkjfaaGreatDoor
open Go.RowKit
structure MTab (a0 : Act) (w0 : World) (n : Nat) (dst : Nat -> Option Nat) (Pv : Nat -> Value -> World -> Prop) (R : World -> World -> Prop) (l : Array Bool) (a : Act) (w : World) : Prop where
  dfr : a.defers = a0.defers
  sz : a.tmps.size = a0.tmps.size
  frm : ∀ j, (∀ k, k < n -> dst k ≠ some j) -> a.tmps[j]? = a0.tmps[j]?
  val : ∀ i d, l.getD i false = true -> dst i = some d -> ∃ v, a.tmps[d]? = some v /\ Pv i v w
  wd : R w0 w
theorem wpAny_mono {P : Program} {ops : Array Oper} {Q : Exit -> Act -> World -> Prop} (a0 : Act) (w0 : World) (dst : Nat -> Option Nat) (Pv : Nat -> Value -> World -> Prop) (R : World -> World -> Prop)
    (R0 : R w0 w0) (RT : ∀ x y, R w0 x -> R x y -> R w0 y) (PM : ∀ i v x y, R w0 x -> R x y -> Pv i v x -> Pv i v y)
    (hd : ∀ i o, ops[i]? = some o -> o.dst = dst i) (inj : ∀ i k d, i < ops.size -> k < ops.size -> dst i = some d -> dst k = some d -> i = k) (dlt : ∀ i d, i < ops.size -> dst i = some d -> d < a0.tmps.size)
    (hlow : ∀ i o e, ops[i]? = some o -> e ∈ o.after -> Region.binds .any e = true -> e.on < i)
    (step : ∀ i o a w, ops[i]? = some o -> a.tmps.size = a0.tmps.size -> (∀ j, (∀ k, k < ops.size -> dst k ≠ some j) -> a.tmps[j]? = a0.tmps[j]?) -> (∀ e ∈ o.after, Region.binds .any e = true -> ∀ d, dst e.on = some d -> ∃ v, a.tmps[d]? = some v /\ Pv e.on v w) -> R w0 w ->
      (Region.wanted o (yielded ops a.tmps) = true /\ ∀ K : Act -> World -> Prop, (∀ v w', R w w' -> Pv i v w' -> K (a.put (dst i) v) w') -> Oper.wp P o a w K Q) \/ (Region.wanted o (yielded ops a.tmps) = false /\ Pv i undef w))
    (RR : ∀ w, R w0 w -> R w w)
    (hQ : ∀ a w, a.defers = a0.defers -> a.tmps.size = a0.tmps.size -> (∀ j, (∀ k, k < ops.size -> dst k ≠ some j) -> a.tmps[j]? = a0.tmps[j]?) -> (∀ i d, i < ops.size -> dst i = some d -> ∃ v, a.tmps[d]? = some v /\ Pv i v w) -> R w0 w -> Q .normal a w) :
    wpAny P .any ops Q ops.size (Array.replicate ops.size false) a0 w0 := by
  refine wpAny_inv (MTab a0 w0 ops.size dst Pv R) ?step ?done ops.size _ a0 _ ?start (by simp) (by unfold todo; simp)
  case start =>
    have e : ∀ i, (Array.replicate ops.size false).getD i false = false := fun i => by
      rw [Array.getD_eq_getD_getElem?, Array.getElem?_replicate]; split <;> rfl
    exact ⟨rfl, rfl, fun _ _ => rfl, (fun i d h => absurd ((e i).symm.trans h) (by decide)), R0⟩
  case done =>
    intro l a w I hl hr
    have A := all_done hl hlow hr
    exact hQ a w I.dfr I.sz I.frm (fun i d hi h => I.val i d (A i hi) h) I.wd
  case step =>
  intro l i o a w I hl ho hli he
  have hil := lt_of_getD hli
  have hi : i < ops.size := by omega
  have dep : ∀ e ∈ o.after, Region.binds .any e = true -> ∀ d, dst e.on = some d -> ∃ v, a.tmps[d]? = some v /\ Pv e.on v w := fun e h1 h2 d h3 => I.val e.on d (he e h1 h2) h3
  have key : ∀ v w', R w w' -> Pv i v w' -> MTab a0 w0 ops.size dst Pv R (l.setIfInBounds i true) (a.put (dst i) v) w' := by
    intro v w' hR hP
    have hwd := RT w w' I.wd hR
    cases hdi : dst i with
    | none =>
      refine ⟨I.dfr, I.sz, I.frm, fun k d hk hkd => ?_, hwd⟩
      rw [getD_set l i hil] at hk
      by_cases q : k = i
      . rw [q, hdi] at hkd; cases hkd
      rw [if_neg q] at hk
      obtain ⟨u, h1, h2⟩ := I.val k d hk hkd
      exact ⟨u, h1, PM k u w w' I.wd hR h2⟩
    | some d0 =>
    have hd0 := dlt i d0 hi hdi
    have T : ∀ j, (a.put (some d0) v).tmps[j]? = if j = d0 then some v else a.tmps[j]? := fun j => by
      show (a.tmps.setIfInBounds d0 v)[j]? = _
      rw [Array.getElem?_setIfInBounds]
      by_cases h : d0 = j
      . subst h; simp [I.sz, hd0]
      rw [if_neg h, if_neg (Ne.symm h)]
    refine ⟨I.dfr, ?_, fun j hj => ?_, fun k d hk hkd => ?_, hwd⟩
    . show (a.tmps.setIfInBounds d0 v).size = _
      simp [I.sz]
    . rw [T, if_neg (fun e => hj i hi (by rw [hdi, e]))]; exact I.frm j hj
    rw [T]
    rw [getD_set l i hil] at hk
    by_cases q : k = i
    . subst q
      rw [hdi] at hkd
      rw [if_pos (Option.some.inj hkd).symm]
      exact ⟨v, rfl, hP⟩
    rw [if_neg q] at hk
    have hkl : k < ops.size := by
      rcases Nat.lt_or_ge k ops.size with z | z
      . exact z
      rw [Array.getD_eq_getD_getElem?, Array.getElem?_eq_none (by omega)] at hk; cases hk
    rw [if_neg (fun e => q (inj k i d hkl hi hkd (by rw [hdi, e])))]
    obtain ⟨u, h1, h2⟩ := I.val k d hk hkd
    exact ⟨u, h1, PM k u w w' I.wd hR h2⟩
  unfold wpOp
  rw [ho]
  dsimp only
  rcases step i o a w ho I.sz I.frm dep I.wd with ⟨h1, h2⟩ | ⟨h1, h2⟩
  . rw [if_pos h1]
    exact .inl (h2 _ key)
  rw [if_neg (by rw [h1]; decide), hd i o ho]
  exact key undef w (RR w I.wd) h2
def pvL (L : List (Value -> World -> Prop)) (i : Nat) (v : Value) (w : World) : Prop := match L[i]? with | some P => P v w | none => True
def AllM : List (Value -> World -> Prop) -> Prop
  | [] => True
  | P :: r => (∀ v x y, Below x.heap.size x y -> P v x -> P v y) /\ AllM r
theorem pvL_mono : ∀ {L : List (Value -> World -> Prop)} (_ : AllM L) {i : Nat} {v : Value} {x y : World}, Below x.heap.size x y -> pvL L i v x -> pvL L i v y
  | [], _, i, v, x, y, _, _ => trivial
  | P :: r, h, 0, v, x, y, hb, hp => h.1 v x y hb hp
  | P :: r, h, i + 1, v, x, y, hb, hp => pvL_mono (L := r) h.2 (i := i) hb hp
end Go.Proofs.YtbkeoiefolkjfaaGreatDoor
namespace Go.Proofs.YtbkeoiefolkjfaaGreatDoor
open Go.RowKit
theorem todo_set {l : Array Bool} {i : Nat} (hi : i < l.size) (hl : l.getD i true = false) : todo (l.setIfInBounds i true) + 1 = todo l := by
  have hlf : l[i] = false := by simpa [Array.getD, hi] using hl
  have key : ∀ (xs : List Bool) (j : Nat) (hj : j < xs.length), xs[j] = false -> ((xs.set j true).filter (fun b => !b)).length + 1 = (xs.filter (fun b => !b)).length := by
    intro xs
    induction xs with
    | nil => intro j hj; simp at hj
    | cons x xs ih2 =>
    intro j hj hx
    cases j with
    | zero => simp at hx; subst hx; simp
    | succ j =>
    have := ih2 j (by simpa using hj) (by simpa using hx)
    cases x <;> simp at this ⊢ <;> omega
  have h2 := key l.toList i (by simpa using hi) (by simpa using hlf)
  unfold todo
  have e : (l.setIfInBounds i true).toList = l.toList.set i true := by simp
  rw [e]; exact h2
theorem todo_head {l : Array Bool} {n g : Nat} (hs : l.size = n + g) (h1 : ∀ i, i < n -> l.getD i true = true) (h2 : ∀ t, n <= t -> t < l.size -> l.getD t true = false) : l = (List.replicate n true ++ List.replicate g false).toArray := by
  apply Array.ext
  . simp [hs]
  intro i hi _
  have e : l[i] = l.getD i true := by simp [Array.getD, hi]
  rw [e]
  by_cases h : i < n
  . rw [h1 i h]; simp [h]
  rw [h2 i (by omega) hi]; simp [List.getElem_append, h]
theorem wpAny_mono_tail {P : Program} {l0 : List Oper} {Q : Exit -> Act -> World -> Prop} (n g : Nat) (hng : n + g = l0.length) (hg : 0 < g) (a0 : Act) (w0 : World) (dst : Nat -> Option Nat) (L : List (Value -> World -> Prop)) (M : AllM L)
    (hs : Region.sinkB .any l0.toArray n = true) (hc : Region.chainB .any l0.toArray n = true) (hq : Region.seqB .any l0.toArray g n (List.replicate n true ++ List.replicate g false).toArray = true)
    (hd : ∀ i o, i < n -> l0[i]? = some o -> o.dst = dst i) (inj : ∀ i k d, i < n -> k < n -> dst i = some d -> dst k = some d -> i = k) (dlt : ∀ i d, i < n -> dst i = some d -> d < a0.tmps.size)
    (hlow : ∀ i o e, l0[i]? = some o -> e ∈ o.after -> Region.binds .any e = true -> e.on < i)
    (step : ∀ i o a w, i < n -> l0[i]? = some o -> a.tmps.size = a0.tmps.size -> (∀ j, (∀ k, k < n -> dst k ≠ some j) -> a.tmps[j]? = a0.tmps[j]?) -> (∀ e ∈ o.after, Region.binds .any e = true -> ∀ d, dst e.on = some d -> ∃ v, a.tmps[d]? = some v /\ pvL L e.on v w) -> Below w0.heap.size w0 w ->
      (Region.wanted o (yielded l0.toArray a.tmps) = true /\ ∀ K : Act -> World -> Prop, (∀ v w', Below w.heap.size w w' -> pvL L i v w' -> K (a.put (dst i) v) w') -> Oper.wp P o a w K Q) \/ (Region.wanted o (yielded l0.toArray a.tmps) = false /\ pvL L i undef w))
    (tail : ∀ a w, a.defers = a0.defers -> a.tmps.size = a0.tmps.size -> (∀ j, (∀ k, k < n -> dst k ≠ some j) -> a.tmps[j]? = a0.tmps[j]?) -> (∀ i d, i < n -> dst i = some d -> ∃ v, a.tmps[d]? = some v /\ pvL L i v w) -> Below w0.heap.size w0 w -> wpList P l0.toArray Q (l0.drop n) a w) :
    wpAny P .any l0.toArray Q l0.toArray.size (Array.replicate l0.toArray.size false) a0 w0 := by
  have key : ∀ (m : Nat) (l : Array Bool) (a : Act) (w : World), HeadInv .any l0.toArray n l -> MTab a0 w0 n dst (pvL L) (fun x y => Below x.heap.size x y) l a w -> todo l = m -> wpAny P .any l0.toArray Q m l a w := by
    intro m
    induction m with
    | zero =>
      intro l a w inv I ht
      exfalso
      have hn : n < l.size := by rw [inv.size]; simp; omega
      have h1 := todo_set hn (inv.tail n (Nat.le_refl _) (by simp; omega))
      omega
    | succ m ih =>
    intro l a w inv I ht
    by_cases hh : ∃ i, i < n /\ l.getD i true = false
    . obtain ⟨i0, hi0, hl0⟩ := hh
      have hwait := tail_waits hs hc (by simp; omega) inv (n - i0) i0 rfl hi0 hl0
      refine ⟨fun hr => ?_, fun i hi => ?_⟩
      . exfalso
        have hall := all_done (ops := l0.toArray) inv.size (fun i o e ho he hb => hlow i o e (by simpa using ho) he hb) hr i0 (by simp; omega)
        have hi0' : i0 < l.size := by rw [inv.size]; simp; omega
        have e1 : l.getD i0 false = l.getD i0 true := by simp [Array.getD, hi0']
        rw [e1, hl0] at hall; cases hall
      have hin : i < n := by
        rcases Nat.lt_or_ge i n with q | q
        . exact q
        exact absurd hi (hwait i q)
      obtain ⟨o, ho, hli, he⟩ := ready_spec hi
      have ho' : l0[i]? = some o := by simpa using ho
      have hil : i < l.size := by rw [inv.size]; simp; omega
      have dep : ∀ e ∈ o.after, Region.binds .any e = true -> ∀ d, dst e.on = some d -> ∃ v, a.tmps[d]? = some v /\ pvL L e.on v w := fun e h1 h2 d h3 => I.val e.on d (he e h1 h2) h3
      have nxt : ∀ v w', Below w.heap.size w w' -> pvL L i v w' -> wpAny P .any l0.toArray Q m (l.setIfInBounds i true) (a.put (dst i) v) w' := by
        intro v w' hR hP
        refine ih _ _ _ (inv.set hi hin) ?_ (by have := todo_set hil hli; omega)
        have hwd : Below w0.heap.size w0 w' := I.wd.trans (hR.mono I.wd.size)
        cases hdi : dst i with
        | none =>
          refine ⟨I.dfr, I.sz, I.frm, fun k d hk hkd => ?_, hwd⟩
          rw [getD_set l i hil] at hk
          by_cases q : k = i
          . rw [q, hdi] at hkd; cases hkd
          rw [if_neg q] at hk
          obtain ⟨u, h1, h2⟩ := I.val k d hk hkd
          exact ⟨u, h1, pvL_mono M hR h2⟩
        | some d0 =>
        have hd0 := dlt i d0 hin hdi
        have T : ∀ j, (a.put (some d0) v).tmps[j]? = if j = d0 then some v else a.tmps[j]? := fun j => by
          show (a.tmps.setIfInBounds d0 v)[j]? = _
          rw [Array.getElem?_setIfInBounds]
          by_cases h : d0 = j
          . subst h; simp [I.sz, hd0]
          rw [if_neg h, if_neg (Ne.symm h)]
        refine ⟨I.dfr, ?_, fun j hj => ?_, fun k d hk hkd => ?_, hwd⟩
        . show (a.tmps.setIfInBounds d0 v).size = _
          simp [I.sz]
        . rw [T, if_neg (fun e => hj i hin (by rw [hdi, e]))]; exact I.frm j hj
        rw [T]
        rw [getD_set l i hil] at hk
        by_cases q : k = i
        . subst q
          rw [hdi] at hkd
          rw [if_pos (Option.some.inj hkd).symm]
          exact ⟨v, rfl, hP⟩
        rw [if_neg q] at hk
        have hkl : k < l.size := by
          rcases Nat.lt_or_ge k l.size with z | z
          . exact z
          rw [Array.getD_eq_getD_getElem?, Array.getElem?_eq_none (by omega)] at hk; cases hk
        have hkn : k < n := by
          rcases Nat.lt_or_ge k n with z | z
          . exact z
          have h1 := inv.tail k z (by rw [<- inv.size]; exact hkl)
          have e1 : l.getD k false = l.getD k true := by simp [Array.getD, hkl]
          rw [e1, h1] at hk; cases hk
        rw [if_neg (fun e => q (inj k i d hkn hin hkd (by rw [hdi, e])))]
        obtain ⟨u, h1, h2⟩ := I.val k d hk hkd
        exact ⟨u, h1, pvL_mono M hR h2⟩
      unfold wpOp
      rw [ho]
      dsimp only
      rcases step i o a w hin ho' I.sz I.frm dep I.wd with ⟨h1, h2⟩ | ⟨h1, h2⟩
      . rw [if_pos h1]
        exact .inl (h2 _ nxt)
      rw [if_neg (by rw [h1]; decide), hd i o hin ho']
      exact nxt undef w (Below.refl _ _) h2
    have h1 : ∀ i, i < n -> l.getD i true = true := fun i hi => by
      cases q : l.getD i true with
      | true => rfl
      | false => exact absurd ⟨i, hi, q⟩ hh
    have hls : l.size = n + g := by rw [inv.size]; simp; omega
    have el := todo_head hls h1 (fun t h2 h3 => inv.tail t h2 (by rw [<- inv.size]; exact h3))
    have hd1 : ∀ i, i < n -> l.getD i false = true := fun i hi => by
      have e1 : l.getD i false = l.getD i true := by
        have : i < l.size := by omega
        simp [Array.getD, this]
      rw [e1]; exact h1 i hi
    have hgl : (l0.drop n).length = g := by simp; omega
    have hm : m + 1 = g := by
      rw [<- ht, el]
      unfold todo
      simp [List.filter_append]
    have := wpAny_of_seq (P := P) (md := .any) (ops := l0.toArray) (Q' := Q) (l0.drop n) n l a w (fun j => by simp [List.getElem?_drop]) (by rw [hgl, el]; exact hq)
      (tail a w I.dfr I.sz I.frm (fun i d hi h => I.val i d (hd1 i hi) h) I.wd)
    rw [hgl] at this
    rw [hm]; exact this
  refine key l0.toArray.size (Array.replicate l0.toArray.size false) a0 w0 ?_ ?_ (by unfold todo; simp)
  . exact ⟨by simp, fun j oj _ hl => (by rw [getD_replicate_false] at hl; cases hl), fun t _ ht => getD_in (by simpa using ht) (getD_replicate_false _ _)⟩
  have e : ∀ i, (Array.replicate l0.toArray.size false).getD i false = false := fun i => getD_replicate_false _ i
  exact ⟨rfl, rfl, fun _ _ => rfl, (fun i d h => absurd ((e i).symm.trans h) (by decide)), Below.refl _ _⟩
end Go.Proofs.YtbkeoiefolkjfaaGreatDoor
namespace Go.Proofs.YtbkeoiefolkjfaaGreatDoor
open Go.RowKit Go.Shelf
attribute [local go_sem] Oper.semAt_some
theorem evT {a : Act} {i : Nat} {v : Value} (h : a.tmps[i]? = some v) : a.eval (.tmp i) = v := by
  show a.tmps.getD i undef = v
  rw [Array.getD_eq_getD_getElem?, h]; rfl
theorem wantN {ops : Array Oper} {o : Oper} {a : Act} (h : o.guard = none) : Region.wanted o (yielded ops a.tmps) = true := by
  unfold Region.wanted; rw [h]
theorem wantG {ops : Array Oper} {o : Oper} {a : Act} {i d : Nat} {b : Bool} (hg : o.guard = some (i, b)) (hd : ((ops[i]?).bind (·.dst)) = some d) (h : a.tmps[d]? = some (.bool b)) : Region.wanted o (yielded ops a.tmps) = true := by
  have y : yielded ops a.tmps i = some b := by
    unfold yielded
    rw [hd]
    show (match a.tmps[d]? with | some (.bool b) => some b | _ => none) = _
    rw [h]
  unfold Region.wanted
  rw [hg]
  show (yielded ops a.tmps i == some b) = true
  rw [y]; simp
theorem act_set : ∀ (L : List (Nat × Value)) (s t : Array Value), s.size = t.size -> (∀ p ∈ L, s[p.1]? = some p.2) -> (∀ j, j ∉ L.map Prod.fst -> s[j]? = t[j]?) -> s = L.foldl (fun u p => u.setIfInBounds p.1 p.2) t
  | [], s, t, _, _, h => Array.ext_getElem? (fun j => h j (by simp))
  | p :: L, s, t, hs, h1, h2 => by
    rw [List.foldl_cons]
    refine act_set L s _ (by simpa using hs) (fun q hq => h1 q (List.mem_cons_of_mem _ hq)) (fun j hj => ?_)
    rw [Array.getElem?_setIfInBounds]
    have hp := h1 p List.mem_cons_self
    by_cases q : p.1 = j
    . have : p.1 < t.size := by rw [<- hs]; exact (Array.getElem?_eq_some_iff.1 hp).1
      rw [if_pos q, if_pos this, <- q]; exact hp
    rw [if_neg q]
    exact h2 j (by rw [List.map_cons]; intro hm; rcases List.mem_cons.1 hm with e | e; exact q e.symm; exact hj e)
theorem act_set' {a a0 : Act} (L : List (Nat × Value)) (hd : a.defers = a0.defers) (hs : a.tmps.size = a0.tmps.size) (h1 : ∀ p ∈ L, a.tmps[p.1]? = some p.2) (h2 : ∀ j, j ∉ L.map Prod.fst -> a.tmps[j]? = a0.tmps[j]?) : a = { a0 with tmps := L.foldl (fun u p => u.setIfInBounds p.1 p.2) a0.tmps } := by
  have := act_set L a.tmps a0.tmps hs h1 h2
  obtain ⟨t, d⟩ := a
  obtain ⟨t0, d0⟩ := a0
  simp only at this hd ⊢
  subst this hd
  rfl
section
variable {o : Oper} {a : Act} {w : World} {K : Act -> World -> Prop} {Q : Exit -> Act -> World -> Prop}
theorem mo_run {v : Value} (e : (execOp a.eval o).run Tryz.prog w = .ok (.value v) w) (hK : K (a.put o.dst v) w) : Oper.wp Tryz.prog o a w K Q := by
  unfold Oper.wp
  rw [e]; exact hK
theorem mo_move {x : Operand} {v : Value} (ho : o.op = Op.move x) (hx : a.eval x = v) (hK : K (a.put o.dst v) w) : Oper.wp Tryz.prog o a w K Q :=
  mo_run (by simp only [execOp, ho, hx]; simp [go_sem]) hK
theorem mo_assign {x : Operand} {v : Value} (ho : o.op = Op.assign x) (hx : a.eval x = v) (hK : K (a.put o.dst v) w) : Oper.wp Tryz.prog o a w K Q :=
  mo_run (by simp only [execOp, ho, hx]; simp [go_sem]) hK
theorem mo_not {x : Operand} {b : Bool} (ho : o.op = Op.unOp UnOp.not 4 x) (hx : a.eval x = .bool b) (hK : K (a.put o.dst (.bool (!b))) w) : Oper.wp Tryz.prog o a w K Q :=
  mo_run (by simp only [execOp, ho, hx]; simp [go_sem]) hK
theorem mo_pick {c x y : Operand} {b : Bool} {v u z : Value} (ho : o.op = Op.pick c x y) (hc : a.eval c = .bool b) (hx : a.eval x = v) (hy : a.eval y = u) (hz : z = if b = true then v else u) (hK : K (a.put o.dst z) w) : Oper.wp Tryz.prog o a w K Q := by
  subst hz
  exact mo_run (by simp only [execOp, ho, hc, hx, hy]; cases b <;> simp [go_sem]) hK
theorem mo_eqlI {x y : Operand} {m n : Int} (ho : o.op = Op.binOp BinOp.eql 3 x y 3) (hx : a.eval x = .int .i64 m) (hy : a.eval y = .int .i64 n) (hK : K (a.put o.dst (.bool (m == n))) w) : Oper.wp Tryz.prog o a w K Q :=
  mo_run (by simp only [execOp, ho, hx, hy]; simp [go_sem]) hK
theorem mo_neqI {x y : Operand} {m n : Int} (ho : o.op = Op.binOp BinOp.neq 3 x y 3) (hx : a.eval x = .int .i64 m) (hy : a.eval y = .int .i64 n) (hK : K (a.put o.dst (.bool (m != n))) w) : Oper.wp Tryz.prog o a w K Q :=
  mo_run (by simp only [execOp, ho, hx, hy]; simp [go_sem]) hK
theorem mo_eqlS {x y : Operand} {m n : ByteArray} (ho : o.op = Op.binOp BinOp.eql 9 x y 9) (hx : a.eval x = .string m) (hy : a.eval y = .string n) (hK : K (a.put o.dst (.bool (m.toList == n.toList))) w) : Oper.wp Tryz.prog o a w K Q :=
  mo_run (by simp only [execOp, ho, hx, hy]; simp [go_sem]) hK
theorem mo_neqS {x y : Operand} {m n : ByteArray} (ho : o.op = Op.binOp BinOp.neq 9 x y 9) (hx : a.eval x = .string m) (hy : a.eval y = .string n) (hK : K (a.put o.dst (.bool (m.toList != n.toList))) w) : Oper.wp Tryz.prog o a w K Q :=
  mo_run (by simp only [execOp, ho, hx, hy]; simp [go_sem, bne]) hK
theorem mo_field {x : Operand} {T : TypeId} {k b i j : Nat} (hf : (Instr.fieldAt T (.pointer (some ⟨b, i, none⟩)) k).run Tryz.prog w = .ok (.pointer (some ⟨b, j, none⟩)) w) (ho : o.op = Op.fieldAddr T x k) (hx : a.eval x = .pointer (some ⟨b, i, none⟩)) (hK : K (a.put o.dst (.pointer (some ⟨b, j, none⟩))) w) : Oper.wp Tryz.prog o a w K Q :=
  mo_run (by simp only [execOp, ho, hx]; simp [hf]) hK
theorem mo_load {x : Operand} {T : TypeId} {b i : Nat} {u : Value} (hl : (Instr.loadAt T (.pointer (some ⟨b, i, none⟩))).run Tryz.prog w = .ok u w) (ho : o.op = Op.load T x) (hx : a.eval x = .pointer (some ⟨b, i, none⟩)) (hK : K (a.put o.dst u) w) : Oper.wp Tryz.prog o a w K Q :=
  mo_run (by simp only [execOp, ho, hx]; simp [hl]) hK
end
section
variable {o : Oper} {a : Act} {w : World} {K : Act -> World -> Prop} {Q : Exit -> Act -> World -> Prop} {T : Value -> World -> Prop}
theorem mo_call1 {x : Operand} {u : Value} (F : Nat) {T1 : TypeId} (ho : o.op = Op.call { callee := Callee.value (Operand.func F), args := #[x], argTypes := #[T1] }) (hx : a.eval x = u)
    (en : ∀ args w, (callFunc F args).run Tryz.prog w = .ok (.enter F args) w) (hC : Calls Tryz.prog F #[u] w fun e w' => ∃ v, e = .returned v /\ T v w') (hK : ∀ v w', T v w' -> K (a.put o.dst v) w') : Oper.wp Tryz.prog o a w K Q := by
  unfold Oper.wp
  have e : (execOp a.eval o).run Tryz.prog w = .ok (.enter F #[u]) w := by
    have hf : a.eval (.func F) = .func (.func F) #[] #[] := rfl
    generalize a.eval = ρ at hx hf ⊢
    simp only [execOp, ho]
    simp [go_sem, resolve, invoke, hx, hf, en]
  rw [e]
  refine hC.mono ?_
  rintro e w' ⟨v, rfl, h⟩
  exact hK v w' h
theorem mo_call2 {x y : Operand} {u z : Value} (F : Nat) {T1 T2 : TypeId} (ho : o.op = Op.call { callee := Callee.value (Operand.func F), args := #[x, y], argTypes := #[T1, T2] }) (hx : a.eval x = u) (hy : a.eval y = z)
    (en : ∀ args w, (callFunc F args).run Tryz.prog w = .ok (.enter F args) w) (hC : Calls Tryz.prog F #[u, z] w fun e w' => ∃ v, e = .returned v /\ T v w') (hK : ∀ v w', T v w' -> K (a.put o.dst v) w') : Oper.wp Tryz.prog o a w K Q := by
  unfold Oper.wp
  have e : (execOp a.eval o).run Tryz.prog w = .ok (.enter F #[u, z]) w := by
    have hf : a.eval (.func F) = .func (.func F) #[] #[] := rfl
    generalize a.eval = ρ at hx hy hf ⊢
    simp only [execOp, ho]
    simp [go_sem, resolve, invoke, hx, hy, hf, en]
  rw [e]
  refine hC.mono ?_
  rintro e w' ⟨v, rfl, h⟩
  exact hK v w' h
end
end Go.Proofs.YtbkeoiefolkjfaaGreatDoor
namespace Go.Proofs.YtbkeoiefolkjfaaGreatDoor
open Go.RowKit Go.Shelf
attribute [local go_sem] Oper.semAt_some
section
variable {o : Oper} {a : Act} {w : World} {K : Act -> World -> Prop} {Q : Exit -> Act -> World -> Prop}
theorem mo_subI {x y : Operand} {m n : Int} (hw : IntKind.i64.wrap (m - n) = m - n) (ho : o.op = Op.binOp BinOp.sub 3 x y 3) (hx : a.eval x = .int .i64 m) (hy : a.eval y = .int .i64 n) (hK : K (a.put o.dst (.int .i64 (m - n))) w) : Oper.wp Tryz.prog o a w K Q :=
  mo_run (by simp only [execOp, ho, hx, hy]; simp [go_sem, hw]) hK
theorem mo_index {x y : Operand} {T : TypeId} {u z p : Value} (hr : (Instr.indexAt T u z).run Tryz.prog w = .ok p w) (ho : o.op = Op.indexAddr T x y) (hx : a.eval x = u) (hy : a.eval y = z) (hK : K (a.put o.dst p) w) : Oper.wp Tryz.prog o a w K Q :=
  mo_run (by simp only [execOp, ho, hx, hy]; simp [hr]) hK
theorem mo_loadv {x : Operand} {T : TypeId} {p u : Value} (hl : (Instr.loadAt T p).run Tryz.prog w = .ok u w) (ho : o.op = Op.load T x) (hx : a.eval x = p) (hK : K (a.put o.dst u) w) : Oper.wp Tryz.prog o a w K Q :=
  mo_run (by simp only [execOp, ho, hx]; simp [hl]) hK
end
end Go.Proofs.YtbkeoiefolkjfaaGreatDoor
namespace Go.Proofs.YtbkeoiefolkjfaaGreatDoor
open Go.RowKit Go.Shelf
attribute [local go_sem] Oper.semAt_some
section
variable {o : Oper} {a : Act} {w : World} {K : Act -> World -> Prop} {Q : Exit -> Act -> World -> Prop}
theorem mo_runW {v : Value} {w' : World} (e : (execOp a.eval o).run Tryz.prog w = .ok (.value v) w') (hK : K (a.put o.dst v) w') : Oper.wp Tryz.prog o a w K Q := by
  unfold Oper.wp
  rw [e]; exact hK
theorem mo_lit3 {x : Operand} {k i : Int} {fa : Option Addr} {fn fc : Nat} (ho : o.op = Op.buildSlice 37 1 #[(0, x)]) (hx : a.eval x = .agg #[.int .i64 k, .int .i64 i, .slice fa fn fc])
    (hK : K (a.put o.dst (.slice (some ⟨w.heap.size, 0, none⟩) 1 1)) (w.alloc (.cells #[.int .i64 k, .int .i64 i, .slice fa fn fc] 40))) : Oper.wp Tryz.prog o a w K Q := by
  refine mo_runW ?_ hK
  simp only [execOp, ho]
  rw [show (Array.map (fun (p : Nat × Operand) => match p with | (i, x) => (i, a.eval x)) #[((0 : Nat), x)]) = #[((0 : Nat), Value.agg #[.int .i64 k, .int .i64 i, .slice fa fn fc])] from by rw [<- hx]; simp]
  kernel_rfl
theorem mo_build3 {x y z : Operand} {k i : Int} {fa : Option Addr} {fn fc : Nat} (ho : o.op = Op.build 40 #[(0, x), (1, y), (2, z)]) (hx : a.eval x = .int .i64 k) (hy : a.eval y = .int .i64 i) (hz : a.eval z = .slice fa fn fc)
    (hK : K (a.put o.dst (.agg #[.int .i64 k, .int .i64 i, .slice fa fn fc])) w) : Oper.wp Tryz.prog o a w K Q := by
  refine mo_runW ?_ hK
  simp only [execOp, ho]
  rw [show (Array.map (fun (p : Nat × Operand) => match p with | (i, x) => (i, a.eval x)) #[((0 : Nat), x), (1, y), (2, z)]) = #[((0 : Nat), Value.int .i64 k), (1, .int .i64 i), (2, .slice fa fn fc)] from by rw [<- hx, <- hy, <- hz]; simp]
  kernel_rfl
end
end Go.Proofs.YtbkeoiefolkjfaaGreatDoor
