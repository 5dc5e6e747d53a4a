/- Dedent. -/
import Derived.Test.YtifdcnkfanenjaaDoorWO
import Derived.Test.YtifdcnkfanenjaaDoorIM
namespace Go.Proofs.YtifdcnkfanenjaaDoor
open Go.RowKit Go.Shelf
attribute [local go_sem] Oper.semAt_some

/-- The lines without what is ahead of them. -/
def cutL (p : List UInt8) (xs : List Ln) : List UInt8 := xs.flatMap fun x => Lib.trimPrefix x.text p ++ if x.ended then [10] else []
theorem cutL_snoc (p : List UInt8) (pre : List Ln) (x : Ln) : cutL p (pre ++ [x]) = cutL p pre ++ Lib.trimPrefix x.text p ++ (endS x.ended).data.toList := by
  have e : (endS x.ended).data.toList = if x.ended then [10] else [] := by unfold endS; cases x.ended <;> rfl
  rw [e]
  simp [cutL]
theorem cutL_len (p : List UInt8) : ∀ xs : List Ln, (cutL p xs).length ≤ (xs.flatMap Ln.bytes).length
  | [] => by simp [cutL]
  | x :: xs => by
    have ih := cutL_len p xs
    have h1 := Lib.trimPrefix_le x.text p
    have e : cutL p (x :: xs) = (Lib.trimPrefix x.text p ++ if x.ended then [10] else []) ++ cutL p xs := by simp [cutL]
    rw [e, List.flatMap_cons]
    simp only [List.length_append, Ln.bytes]
    omega
theorem dd_all (p : List UInt8) (xs : List Ln) (h : ∀ x ∈ xs, Lib.hasPrefix x.text p = true) : dd p (xs.map sees) = (cutL p xs, true) := by
  unfold dd
  rw [if_pos]
  · rw [List.flatMap_map]
    congr 1
    unfold cutL
    induction xs with
    | nil => rfl
    | cons x xs ih =>
      rw [List.flatMap_cons, List.flatMap_cons, ih (fun y hy => h y (List.mem_cons_of_mem _ hy))]
      have := h x List.mem_cons_self
      simp only [Lib.trimPrefix, this, if_true, sees]
      rfl
  · rw [List.all_eq_true]
    intro y hy
    obtain ⟨x, hx, rfl⟩ := List.mem_map.1 hy
    exact h x hx
theorem dd_some (p : List UInt8) (xs : List Ln) (x : Ln) (hx : x ∈ xs) (h : Lib.hasPrefix x.text p = false) : dd p (xs.map sees) = ([], false) := by
  unfold dd
  rw [if_neg]
  intro ha
  have := (List.all_eq_true.1 ha) (sees x) (List.mem_map.2 ⟨x, hx, rfl⟩)
  have e : Lib.hasPrefix x.text p = true := this
  rw [h] at e
  cases e

def Rooms (w : World) (p : ByteArray) (W : World) : Prop :=
  Boxed W w.heap.size 9 (.string p) ∧ Boxed W (w.heap.size + 1) 9 (.string ⟨#[]⟩) ∧ Boxed W (w.heap.size + 2) 4 (.bool false) ∧ Below w.heap.size w W
theorem Rooms.turned {w : World} {p : ByteArray} {W W' : World} {B k : Nat} (h : Rooms w p W) (ht : Turned B k W W') (hB : w.heap.size + 2 < B) : Rooms w p W' :=
  ⟨ht.box h.1 (.inl (by omega)), ht.box h.2.1 (.inl (by omega)), ht.box h.2.2.1 (.inl hB), h.2.2.2.trans (ht.below (by omega) h.2.2.2.size)⟩
theorem Rooms.alloc {w : World} {p : ByteArray} {W : World} (h : Rooms w p W) (o : Obj) : Rooms w p (W.alloc o) := ⟨h.1.alloc _, h.2.1.alloc _, h.2.2.1.alloc _, h.2.2.2.alloc h.2.2.2.size _⟩
theorem Rooms.wrote {w : World} {p : ByteArray} {W W' : World} {b R : Nat} (h : Rooms w p W) (ho : Wrote b R W W') (hb : w.heap.size + 2 < b) (hR : w.heap.size + 2 < R) : Rooms w p W' :=
  ⟨ho.box h.1 (by omega) (by omega), ho.box h.2.1 (by omega) (by omega), ho.box h.2.2.1 (by omega) (by omega), h.2.2.2.trans (ho.below (by omega) (by omega) h.2.2.2.size)⟩
/-- What holds between two rounds. -/
def InvD (w : World) (p : ByteArray) (R : Nat) (pre : List Ln) (W : World) : Prop :=
  Rooms w p W ∧ Bld (w.heap.size + 3) R (cutL p.data.toList pre) W ∧ ∀ x ∈ pre, Lib.hasPrefix x.text p.data.toList = true
/-- What holds behind the return in the loop. -/
def OutD (w : World) (p : ByteArray) (c : Code) (pre : List Ln) (W : World) : Prop :=
  Rooms w p W ∧ c = .ret ∧ ∃ x ∈ pre, Lib.hasPrefix x.text p.data.toList = false

/-- The way out: the mark is taken, the results are read from their boxes. -/
theorem twoOut (w W : World) (a b : ByteArray × Bool) (tmps : Array Value) (h4 : Boxed W (w.heap.size + 1) 9 (.string a.1)) (h5 : Boxed W (w.heap.size + 2) 4 (.bool b.2)) (hK : W.heap[w.heap.size + 5]? = some (.deferred (some []))) (hB : Below w.heap.size w W) (t4 : tmps[4]? = some (.pointer (some ⟨w.heap.size + 1, 0, none⟩))) (t5 : tmps[5]? = some (.pointer (some ⟨w.heap.size + 2, 0, none⟩))) :
    bodyPostM Fence.wide 9 Tryd.prog Tryd.f20 (fun e w' => e = .returned (.tuple #[.string a.1, .bool b.2]) ∧ Below w.heap.size w w') .ret { tmps := tmps, defers := [{ target := .collected (w.heap.size + 5), args := #[] }] } W := by
  have p1 := grownBy_putObj' W (w.heap.size + 5) (.deferred none)
  have zW : w.heap.size + 5 < W.heap.size := (Array.getElem?_eq_some_iff.1 hK).1
  have r4 : Boxed (W.putObj (w.heap.size + 5) (.deferred none)) (w.heap.size + 1) 9 (.string a.1) := (p1.block _ (by omega) (fun e => by have := Option.some.inj e; omega)).trans h4
  have r5 : Boxed (W.putObj (w.heap.size + 5) (.deferred none)) (w.heap.size + 2) 4 (.bool b.2) := (p1.block _ (by omega) (fun e => by have := Option.some.inj e; omega)).trans h5
  have c4 := r4.cell
  have c5 := r5.cell
  refine ⟨by simp, .inl ⟨_, _, rfl, run_takeDeferred hK, ?_⟩⟩
  exact ⟨.tuple #[.string a.1, .bool b.2], by simp [results, Tryd.f20, go_sem, t4, t5, c4, c5], rfl, hB.trans (belowK_b (w := w) (Nat.le_refl _) W _ _ _ (by omega) hK rfl rfl)⟩

set_option maxRecDepth 100000 in
set_option maxHeartbeats 4000000 in
theorem dedent_any (s p : ByteArray) (hs : s.size ≤ 1000000000) (w : World) :
    Calls Tryd.prog 20 #[.string s, .string p] w fun e w' => e = .returned (.tuple #[.string ⟨(dd p.data.toList ((linesOf s.data.toList).map sees)).1.toArray⟩, .bool (dd p.data.toList ((linesOf s.data.toList).map sees)).2]) ∧ Below w.heap.size w w' := by
  have hjl : ((linesOf s.data.toList).flatMap Ln.bytes).length ≤ 1000000000 := by rw [linesOf_join, ← Lib.size_eq]; exact hs
  obtain ⟨xs, hxs⟩ : ∃ xs, linesOf s.data.toList = xs := ⟨_, rfl⟩
  rw [hxs] at hjl ⊢
  have HXS := Lib.hid hxs
  clear hxs
  refine callsIn_wide (n := 9).1 ?_
  refine callsIn_of_wp_marks Tryd.func20 rfl trivial ?_ rfl
  simp only [Tryd.ntmps20, List.size_toArray, List.length_cons, List.length_nil, Nat.reduceAdd, Nat.reduceSub, Array.replicate_succ, Array.replicate_zero, List.push_toArray, List.append_toArray, List.nil_append, List.cons_append]
  gi_wp2_with fail
  refine ⟨trivial, (callsIn_wide.2 (split_any s _)).mono ?_⟩
  rintro e w3 ⟨rfl, rfl⟩
  gi_wp2_with fail
  have k1 := Boxed.new w 9 (.string p)
  have k2 := boxNew2 w (.cells #[.string p] 9) 9 (.string ⟨#[]⟩)
  have k3 := boxNew3 w (.cells #[.string p] 9) (.cells #[.string ⟨#[]⟩] 9) 4 (.bool false)
  have kb := Bld.new (((w.alloc (.cells #[.string p] 9)).alloc (.cells #[.string ⟨#[]⟩] 9)).alloc (.cells #[.bool false] 4)) (w.heap.size + 10)
  have kz : (((w.alloc (.cells #[.string p] 9)).alloc (.cells #[.string ⟨#[]⟩] 9)).alloc (.cells #[.bool false] 4)).heap.size = w.heap.size + 3 := by simp
  rw [kz] at kb
  have rooms : Rooms w p (((w.alloc (.cells #[.string p] 9)).alloc (.cells #[.string ⟨#[]⟩] 9)).alloc (.cells #[.bool false] 4)) :=
    ⟨(k1.alloc _).alloc _, k2.alloc _, k3, ((((Below.refl _ w).alloc (Nat.le_refl _) _).alloc (by simp) _).alloc (by simp; omega) _)⟩
  generalize ((w.alloc (.cells #[.string p] 9)).alloc (.cells #[.string ⟨#[]⟩] 9)).alloc (.cells #[.bool false] 4) = w1 at *
  have k7 := boxNew2 w1 (.cells #[.pointer none, .slice none 0 0] 53) 9 (.string s)
  rw [kz] at k7
  have HH := split_hands s (w.heap.size + 4) _ k7 (by omega)
  rw [HXS.out] at HH
  have hz : ((w1.alloc (.cells #[.pointer none, .slice none 0 0] 53)).alloc (.cells #[.string s] 9)).heap.size = w.heap.size + 5 := by simp [kz]
  have ab : ∀ k, k ≤ 5 → Abide (w.heap.size + 5) k (InvD w p (w.heap.size + 10)) := fun k hk pre W W' h ht =>
    ⟨h.1.turned ht (by omega), h.2.1.turned ht (by omega) (by omega), h.2.2⟩
  have init : InvD w p (w.heap.size + 10) [] ((w1.alloc (.cells #[.pointer none, .slice none 0 0] 53)).alloc (.cells #[.string s] 9)) :=
    ⟨(rooms.alloc _).alloc _, kb.alloc _, fun x hx => by cases hx⟩
  refine wp_rangedA (gf := 24) (lb := #[.pointer (some ⟨w.heap.size + 4, 0, none⟩)]) rfl (enters_of Tryd.func24 (by kernel_rfl) rfl) HH (fun _ => rfl)
    (InvD w p (w.heap.size + 10)) (OutD w p) (by rw [hz]; exact ab _ (by omega)) (fun c pre W W' h ht => ⟨h.1.turned ht (by rw [hz]; omega), h.2⟩) init
    (fun a pre x a' W => ∃ Bx, w.heap.size + 5 + 5 ≤ Bx ∧ a' = { tmps := (a.tmps.setIfInBounds 12 (.agg (lineV x))).setIfInBounds 7 (.pointer (some ⟨Bx, 0, none⟩)), defers := [] } ∧ Cells W Bx 29 (lineV x) ∧
      InvD w p (w.heap.size + 10) pre W)
    ?hM ?assign ?body ?done ?stop
  case hM =>
    rw [hz]
    rintro a pre x a' _ W W' ⟨Bx, h1, h2, h3, h4⟩ ht
    exact ⟨Bx, h1, h2, (ht.same Bx h3.lt (.inr (by omega))).trans h3, ab 2 (by omega) pre W W' h4 ht⟩
  case assign =>
    rw [hz]
    intro l pre x post W hx hsz hi
    clear hx
    dsimp only [lineV]
    gi_wp2
    exact ⟨(Stay.refl _ _ W).alloc hsz _, W.heap.size, by omega, rfl, Cells.new _ _ _, hi.1.alloc _, hi.2.1.alloc _, hi.2.2⟩
  case body =>
    rw [hz]
    rintro l pre x post a' W hx hsz ⟨Bx, hB, rfl, hc, h1, h2, h3⟩
    have hlen := cutL_len p.data.toList (pre ++ [x])
    have hlen2 : ((pre ++ [x]).flatMap Ln.bytes).length ≤ 1000000000 := by
      rw [hx, show pre ++ x :: post = (pre ++ [x]) ++ post by simp, List.flatMap_append, List.length_append] at hjl
      omega
    have hlen := Nat.le_trans hlen hlen2
    rw [cutL_snoc] at hlen
    simp only [List.length_append, ← Lib.size_eq] at hlen
    have HS := Lib.hid (cutL_snoc p.data.toList pre x)
    clear hx hjl hlen2
    simp only [List.setIfInBounds_toArray, List.set_cons_zero, List.set_cons_succ, lineV] at hc ⊢
    have hne : Bx ≠ w.heap.size + 3 := by omega
    obtain ⟨en, hen⟩ : ∃ en, x.ended = en := ⟨_, rfl⟩
    rw [hen] at hlen hc ⊢
    have c3 := h1.1.cell
    have p2 : W.cell? ⟨Bx, 2, none⟩ = some (.string ⟨x.text.toArray⟩) := hc.cell 2
    gi_wp2_with fail
    refine ⟨trivial, ((callsIn_wide.2 (Tryd.strings_CutPrefix ⟨x.text.toArray⟩ p W)).inRound l).mono ?_⟩
    rintro e V ⟨rfl, rfl⟩
    have eh : Lib.hasPrefix (⟨x.text.toArray⟩ : ByteArray).data.toList p.data.toList = Lib.hasPrefix x.text p.data.toList := rfl
    have et : Lib.trimPrefix (⟨x.text.toArray⟩ : ByteArray).data.toList p.data.toList = Lib.trimPrefix x.text p.data.toList := rfl
    rw [eh, et]
    cases hp : Lib.hasPrefix x.text p.data.toList
    · have c4 := h1.2.1.cell
      have f4 := h1.2.1.frozen
      have c5 : V.cell? ⟨w.heap.size + 1 + 1, 0, none⟩ = some (.bool false) := h1.2.2.1.cell
      have f5 : V.frozen? ⟨w.heap.size + 1 + 1, 0, none⟩ = false := h1.2.2.1.frozen
      gi_wp2
      refine ⟨((Stay.refl _ _ _).setCell (.inl (by show w.heap.size + 1 < _; omega)) _).setCell (.inl (by show w.heap.size + 1 + 1 < _; omega)) _, ?_, rfl, x, by simp, hp⟩
      refine ⟨setOther (setOther h1.1 (by omega) _) (by omega) _, setOther (Boxed.set _ h1.2.1) (by omega) _, Boxed.set _ (setOther h1.2.2.1 (by omega) _), ?_⟩
      exact (h1.2.2.2.setCell (p := ⟨w.heap.size + 1, 0, none⟩) (by show _ ≤ w.heap.size + 1; omega) _).setCell (p := ⟨w.heap.size + 1 + 1, 0, none⟩) (by show _ ≤ w.heap.size + 1 + 1; omega) _
    · gi_wp2_with fail
      refine ⟨trivial, ((callsIn_wide.2 (writes (w.heap.size + 3) (w.heap.size + 10) _ ⟨(Lib.trimPrefix x.text p.data.toList).toArray⟩ V h2 (by omega) (by omega) ?_)).inRound l).mono ?_⟩
      · have e1 : (⟨(Lib.trimPrefix x.text p.data.toList).toArray⟩ : ByteArray).size = (Lib.trimPrefix x.text p.data.toList).length := by simp [ByteArray.size]
        omega
      rintro e W2 ⟨rfl, b2, o2⟩
      have m2 : Cells W2 Bx 29 _ := o2.other hc hne (by decide)
      have z2 := o2.size
      have q0 : W2.cell? ⟨Bx, 0, none⟩ = some (.int .i64 x.no) := m2.cell 0
      have q1 : W2.cell? ⟨Bx, 1, none⟩ = some (.int .i64 x.at_) := m2.cell 1
      have q2 : W2.cell? ⟨Bx, 2, none⟩ = some (.string ⟨x.text.toArray⟩) := m2.cell 2
      have q3 : W2.cell? ⟨Bx, 3, none⟩ = some (.bool en) := m2.cell 3
      gi_wp2_with fail
      refine ⟨trivial, ((callsIn_wide.2 (end_any _ _ _ _ _)).inRound l).mono ?_⟩
      rintro e W3 ⟨rfl, rfl⟩
      gi_wp2_with fail
      refine ⟨trivial, ((callsIn_wide.2 (writes (w.heap.size + 3) (w.heap.size + 10) _ (endS en) _ (b2.alloc _) (by omega) (by simp; omega) ?_)).inRound l).mono ?_⟩
      · simp only [List.length_append]
        omega
      rintro e W4 ⟨rfl, b3, o3⟩
      gi_wp2_with fail
      have oo := (o2.alloc (.cells #[.int .i64 x.no, .int .i64 x.at_, .string ⟨x.text.toArray⟩, .bool en] 29)).trans o3
      refine ⟨oo.stay (by omega) (by omega) (by omega), h1.wrote oo (by omega) (by omega), ?_, ?_⟩
      · rw [HS.out, hen]
        exact b3
      · intro y hy
        rcases List.mem_append.1 hy with h | h
        · exact h3 y h
        · rw [List.mem_singleton.1 h]; exact hp
  case done =>
    rw [hz]
    rintro W ⟨h1, h2, h3⟩ hmark
    have zW : w.heap.size + 5 < W.heap.size := (Array.getElem?_eq_some_iff.1 hmark).1
    gi_wp2_with fail
    refine ⟨trivial, (callsIn_wide.2 (Tryd.Builder_String_any_k (w.heap.size + 3) (w.heap.size + 3) _ W (h2.library (by omega) (by omega)) (by omega))).mono ?_⟩
    rintro e W1 ⟨rfl, _, g2, g3⟩
    have hK : W1.heap[w.heap.size + 5]? = some (.deferred (some [])) := g3 _ _ hmark (by simp) (fun c fz e => by cases e)
    have b4 : Boxed W1 (w.heap.size + 1) 9 (.string ⟨#[]⟩) := under h1.2.1 g2 (by omega)
    have b5 : Boxed W1 (w.heap.size + 2) 4 (.bool false) := under h1.2.2.1 g2 (by omega)
    have hbel : Below w.heap.size w W1 := h1.2.2.2.trans (g2.mono (by omega))
    have c4 := b4.cell
    have f4 := b4.frozen
    have c5 : W1.cell? ⟨w.heap.size + 1 + 1, 0, none⟩ = some (.bool false) := b5.cell
    have f5 : W1.frozen? ⟨w.heap.size + 1 + 1, 0, none⟩ = false := b5.frozen
    clear k1 k2 k3 kb k7 HH ab init rooms
    gi_wp2
    rw [dd_all _ _ h3]
    obtain ⟨W2, hW2⟩ : ∃ W2, (W1.setCell ⟨w.heap.size + 1, 0, none⟩ (.string ⟨(cutL p.data.toList xs).toArray⟩)).setCell ⟨w.heap.size + 1 + 1, 0, none⟩ (.bool true) = W2 := ⟨_, rfl⟩
    have e4 : Boxed W2 (w.heap.size + 1) 9 (.string ⟨(cutL p.data.toList xs).toArray⟩) := by rw [← hW2]; exact setOther (Boxed.set _ b4) (by omega) _
    have e5 : Boxed W2 (w.heap.size + 2) 4 (.bool true) := by rw [← hW2]; exact Boxed.set _ (setOther b5 (by omega) _)
    have eK : W2.heap[w.heap.size + 5]? = some (.deferred (some [])) := by
      rw [← hW2]
      exact (Below.heap_setCell _ _ _ _ (by show w.heap.size + 5 ≠ w.heap.size + 1 + 1; omega)).trans ((Below.heap_setCell _ _ _ _ (by show w.heap.size + 5 ≠ w.heap.size + 1; omega)).trans hK)
    have eB : Below w.heap.size w W2 := by
      rw [← hW2]
      exact (hbel.setCell (p := ⟨w.heap.size + 1, 0, none⟩) (by show _ ≤ w.heap.size + 1; omega) _).setCell (p := ⟨w.heap.size + 1 + 1, 0, none⟩) (by show _ ≤ w.heap.size + 1 + 1; omega) _
    rw [hW2]
    exact twoOut w W2 (⟨(cutL p.data.toList xs).toArray⟩, true) (⟨#[]⟩, true) _ e4 e5 eK eB rfl rfl
  case stop =>
    rw [hz]
    rintro c pre W hpre ⟨h1, rfl, x, hx, hp⟩ hmark
    have zW : w.heap.size + 5 < W.heap.size := (Array.getElem?_eq_some_iff.1 hmark).1
    gi_wp2
    rw [dd_some _ _ x (hpre.subset hx) hp]
    exact twoOut w W (⟨#[]⟩, false) (⟨#[]⟩, false) _ h1.2.1 h1.2.2.1 hmark h1.2.2.2 rfl rfl
end Go.Proofs.YtifdcnkfanenjaaDoor
