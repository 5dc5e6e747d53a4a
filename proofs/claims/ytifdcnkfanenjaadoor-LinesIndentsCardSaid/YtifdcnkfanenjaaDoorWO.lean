/- Indent. -/
import Derived.Test.YtifdcnkfanenjaaDoorWN
import Derived.Test.YtifdcnkfanenjaaDoorBU
namespace Go.Proofs.YtifdcnkfanenjaaDoor
open Go.RowKit Go.Shelf
attribute [local go_sem] Oper.semAt_some

/-- A text with another one ahead of each line. -/
def indL (j : List UInt8) (xs : List Ln) : List UInt8 := xs.flatMap fun x => j ++ x.bytes
theorem indL_snoc (j : List UInt8) (pre : List Ln) (x : Ln) : indL j (pre ++ [x]) = indL j pre ++ j ++ x.text ++ (endS x.ended).data.toList := by
  have e : (endS x.ended).data.toList = if x.ended then [10] else [] := by unfold endS; cases x.ended <;> rfl
  rw [e]
  simp [indL, Ln.bytes]
theorem indL_len (j : List UInt8) (n m : Nat) : ∀ xs : List Ln, (∀ x ∈ xs, x.bytes.length ≤ m) → xs.length ≤ n → j.length ≤ m → (indL j xs).length ≤ n * (2 * m)
  | [], _, _, _ => by simp [indL]
  | x :: xs, h, hn, hj => by
    obtain ⟨n, rfl⟩ : ∃ k, n = k + 1 := ⟨n - 1, by simp at hn; omega⟩
    have ih := indL_len j n m xs (fun y hy => h y (List.mem_cons_of_mem _ hy)) (by simpa using hn) hj
    have h1 := h x List.mem_cons_self
    have e : indL j (x :: xs) = j ++ x.bytes ++ indL j xs := by simp [indL]
    rw [e, Nat.add_mul]
    simp only [List.length_append]
    omega
/-- What holds between two rounds. -/
def InvI (w : World) (z R : Nat) (j : List UInt8) (pre : List Ln) (W : World) : Prop :=
  Boxed W z 9 (.string ⟨j.toArray⟩) ∧ Bld (z + 1) R (indL j pre) W ∧ Below w.heap.size w W

set_option maxRecDepth 100000 in
set_option maxHeartbeats 4000000 in
theorem indent_any (s : ByteArray) (hs : s.size ≤ 100000) (sl : Value) (j : List UInt8) (hj : j.length ≤ 100000) (w : World)
    (hjoin : Calls Tryd.prog 37 #[sl, .string ⟨#[]⟩] w fun e w' => e = .returned (.string ⟨j.toArray⟩) ∧ Below w.heap.size w w') :
    Calls Tryd.prog 22 #[.string s, sl] w fun e w' => e = .returned (.string ⟨(indL j (linesOf s.data.toList)).toArray⟩) ∧ Below w.heap.size w w' := by
  have hpos : ∀ x ∈ linesOf s.data.toList, x.bytes.length ≤ 100000 := by
    intro x hx
    have e := linesOf_join s.data.toList
    obtain ⟨a, b, hab⟩ := List.append_of_mem hx
    rw [hab, List.flatMap_append, List.flatMap_cons] at e
    have := congrArg List.length e
    rw [← Lib.size_eq] at this
    simp only [List.length_append] at this
    omega
  have hll := linesOf_length s.data.toList
  rw [← Lib.size_eq] at hll
  obtain ⟨xs, hxs⟩ : ∃ xs, linesOf s.data.toList = xs := ⟨_, rfl⟩
  rw [hxs] at hpos hll ⊢
  have HXS := Lib.hid hxs
  clear hxs
  refine callsIn_wide (n := 9).1 ?_
  refine callsIn_of_wp_marks Tryd.func22 rfl trivial ?_ rfl
  simp only [Tryd.ntmps22, List.size_toArray, List.length_cons, List.length_nil, Nat.reduceAdd, Nat.reduceSub, Array.replicate_succ, Array.replicate_zero, List.push_toArray, List.append_toArray, List.nil_append, List.cons_append]
  gi_wp2_with fail
  refine ⟨trivial, (callsIn_wide.2 hjoin).mono ?_⟩
  rintro e w1 ⟨rfl, hb1⟩
  have zs := hb1.size
  gi_wp2_with fail
  refine ⟨trivial, (callsIn_wide.2 (split_any s _)).mono ?_⟩
  rintro e w3 ⟨rfl, rfl⟩
  gi_wp2_with fail
  have k5 := Boxed.new w1 9 (.string ⟨j.toArray⟩)
  have kb := Bld.new (w1.alloc (.cells #[.string ⟨j.toArray⟩] 9)) (w1.heap.size + 8)
  rw [World.size_alloc] at kb
  have k7 := boxNew3 w1 (.cells #[.string ⟨j.toArray⟩] 9) (.cells #[.pointer none, .slice none 0 0] 53) 9 (.string s)
  have HH := split_hands s (w1.heap.size + 2) _ k7 (by omega)
  rw [HXS.out] at HH
  have hz : (((w1.alloc (.cells #[.string ⟨j.toArray⟩] 9)).alloc (.cells #[.pointer none, .slice none 0 0] 53)).alloc (.cells #[.string s] 9)).heap.size = w1.heap.size + 3 := by simp
  have ab : ∀ k, k ≤ 5 → Abide (w1.heap.size + 3) k (InvI w w1.heap.size (w1.heap.size + 8) j) := fun k hk pre W W' h ht =>
    ⟨ht.box h.1 (.inl (by omega)), h.2.1.turned ht (by omega) (by omega), h.2.2.trans (ht.below (by omega) h.2.2.size)⟩
  have init : InvI w w1.heap.size (w1.heap.size + 8) j [] (((w1.alloc (.cells #[.string ⟨j.toArray⟩] 9)).alloc (.cells #[.pointer none, .slice none 0 0] 53)).alloc (.cells #[.string s] 9)) :=
    ⟨(k5.alloc _).alloc _, kb.alloc _, ((hb1.alloc (by omega) _).alloc (by simp; omega) _).alloc (by simp; omega) _⟩
  refine wp_rangedA (gf := 24) (lb := #[.pointer (some ⟨w1.heap.size + 2, 0, none⟩)]) rfl (enters_of Tryd.func24 (by kernel_rfl) rfl) HH (fun _ => rfl)
    (InvI w w1.heap.size (w1.heap.size + 8) j) (fun _ _ _ => False) (by rw [hz]; exact ab _ (by omega)) (fun _ _ _ _ hs _ => hs) init
    (fun a pre x a' W => ∃ Bx, w1.heap.size + 3 + 5 ≤ Bx ∧ a' = { tmps := (a.tmps.setIfInBounds 12 (.agg (lineV x))).setIfInBounds 7 (.pointer (some ⟨Bx, 0, none⟩)), defers := [] } ∧ Cells W Bx 29 (lineV x) ∧
      InvI w w1.heap.size (w1.heap.size + 8) j pre W)
    ?hM ?assign ?body ?done ?stop
  case hM =>
    rw [hz]
    rintro a pre x a' _ W W' ⟨Bx, h1, h2, h3, h4⟩ ht
    exact ⟨Bx, h1, h2, (ht.same Bx h3.lt (.inr (by omega))).trans h3, ab 2 (by omega) pre W W' h4 ht⟩
  case assign =>
    rw [hz]
    intro l pre x post W hx hsz hi
    clear hx
    dsimp only [lineV]
    gi_wp2
    exact ⟨(Stay.refl _ _ W).alloc hsz _, W.heap.size, by omega, rfl, Cells.new _ _ _, hi.1.alloc _, hi.2.1.alloc _, hi.2.2.alloc hi.2.2.size _⟩
  case body =>
    rw [hz]
    rintro l pre x post a' W hx hsz ⟨Bx, hB, rfl, hc, h1, h2, h3⟩
    have hlen : (indL j (pre ++ [x])).length ≤ 100000 * (2 * 100000) := by
      refine indL_len j 100000 100000 _ (fun y hy => hpos y ?_) ?_ hj
      · rw [hx]
        rcases List.mem_append.1 hy with h | h
        · exact List.mem_append_left _ h
        · rw [List.mem_singleton.1 h]; simp
      · have := congrArg List.length hx
        simp at this ⊢
        omega
    rw [indL_snoc] at hlen
    simp only [List.length_append, ← Lib.size_eq] at hlen
    have HS := Lib.hid (indL_snoc j pre x)
    clear hx
    simp only [List.setIfInBounds_toArray, List.set_cons_zero, List.set_cons_succ, lineV] at hc ⊢
    have c5 := h1.cell
    have hne : Bx ≠ w1.heap.size + 1 := by omega
    obtain ⟨en, hen⟩ : ∃ en, x.ended = en := ⟨_, rfl⟩
    rw [hen] at hlen hc ⊢
    gi_wp2_with fail
    refine ⟨trivial, ((callsIn_wide.2 (writes (w1.heap.size + 1) (w1.heap.size + 8) _ ⟨j.toArray⟩ W h2 (by omega) (by omega) ?_)).inRound l).mono ?_⟩
    · have : (⟨j.toArray⟩ : ByteArray).size = j.length := by simp [ByteArray.size]
      omega
    rintro e W1 ⟨rfl, b1, o1⟩
    have m1 : Cells W1 Bx 29 _ := o1.other hc hne (by decide)
    have p2 : W1.cell? ⟨Bx, 2, none⟩ = some (.string ⟨x.text.toArray⟩) := m1.cell 2
    have z1 := o1.size
    gi_wp2_with fail
    refine ⟨trivial, ((callsIn_wide.2 (writes (w1.heap.size + 1) (w1.heap.size + 8) _ ⟨x.text.toArray⟩ W1 b1 (by omega) (by omega) ?_)).inRound l).mono ?_⟩
    · have e1 : (⟨x.text.toArray⟩ : ByteArray).size = x.text.length := by simp [ByteArray.size]
      simp only [List.length_append, e1]
      omega
    rintro e W2 ⟨rfl, b2, o2⟩
    have m2 : Cells W2 Bx 29 _ := o2.other m1 hne (by decide)
    have z2 := o2.size
    have q0 : W2.cell? ⟨Bx, 0, none⟩ = some (.int .i64 x.no) := m2.cell 0
    have q1 : W2.cell? ⟨Bx, 1, none⟩ = some (.int .i64 x.at_) := m2.cell 1
    have q2 : W2.cell? ⟨Bx, 2, none⟩ = some (.string ⟨x.text.toArray⟩) := m2.cell 2
    have q3 : W2.cell? ⟨Bx, 3, none⟩ = some (.bool en) := m2.cell 3
    gi_wp2_with fail
    refine ⟨trivial, ((callsIn_wide.2 (end_any _ _ _ _ _)).inRound l).mono ?_⟩
    rintro e W3 ⟨rfl, rfl⟩
    gi_wp2_with fail
    refine ⟨trivial, ((callsIn_wide.2 (writes (w1.heap.size + 1) (w1.heap.size + 8) _ (endS en) _ (b2.alloc _) (by omega) (by simp; omega) ?_)).inRound l).mono ?_⟩
    · have e1 : (⟨x.text.toArray⟩ : ByteArray).size = x.text.length := by simp [ByteArray.size]
      simp only [List.length_append]
      omega
    rintro e W4 ⟨rfl, b3, o3⟩
    gi_wp2_with fail
    have oo := ((o1.trans o2).alloc (.cells #[.int .i64 x.no, .int .i64 x.at_, .string ⟨x.text.toArray⟩, .bool en] 29)).trans o3
    refine ⟨oo.stay (by omega) (by omega) (by omega), oo.box h1 (by omega) (by omega), ?_, h3.trans (oo.below (by omega) (by omega) (by have := h3.size; omega))⟩
    rw [HS.out, hen]
    exact b3
  case done =>
    rw [hz]
    rintro W ⟨h1, h2, h3⟩ hmark
    have zW : w1.heap.size + 3 < W.heap.size := (Array.getElem?_eq_some_iff.1 hmark).1
    gi_wp2_with fail
    refine ⟨trivial, (callsIn_wide.2 (Tryd.Builder_String_any_k w.heap.size (w1.heap.size + 1) _ W (h2.library (by omega) (by omega)) (by omega))).mono ?_⟩
    rintro e W1 ⟨rfl, _, g2, g3⟩
    have hK : W1.heap[w1.heap.size + 3]? = some (.deferred (some [])) := g3 _ _ hmark (by simp) (fun c fz e => by cases e)
    gi_wp2
    refine ⟨by simp, .inl ⟨_, _, rfl, run_takeDeferred hK, ?_⟩⟩
    refine ⟨_, results_tmp rfl _ _ _, rfl, (h3.trans g2).trans (belowK_b (w := w) (Nat.le_refl _) W1 _ _ _ (by omega) hK rfl rfl)⟩
  case stop => exact fun _ _ _ _ h => h.elim
end Go.Proofs.YtifdcnkfanenjaaDoor
