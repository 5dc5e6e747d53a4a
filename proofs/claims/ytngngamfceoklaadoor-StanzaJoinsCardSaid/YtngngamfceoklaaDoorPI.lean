/- A line is taken, whichever; what holds between two lines. -/
import Derived.Test.YtngngamfceoklaaDoorPH
import Derived.Test.YtngngamfceoklaaDoorRH
namespace Go.Proofs.YtngngamfceoklaaDoor
open Go.RowKit Go.Shelf
attribute [local go_sem] errV_0 errV_2

theorem kindL_pos (l : List UInt8) : kindL l = 1 ∨ kindL l = 2 ∨ kindL l = 3 ∨ kindL l = 4 ∨ kindL l = 5 := by
  unfold kindL
  split; · simp
  split; · simp
  split; · simp
  split; · simp
  split <;> simp
theorem take_any {w : World} {T : Nat → Nat} {R b : Nat} {text : ByteArray} {p : PS} (h : ParserAt w T R b text p) (hR : R ≤ w.heap.size) (x : Ln) (hi : Inv p x.at_) (hx : x.at_ + x.bytes.length ≤ text.size) (ht : text.size ≤ 60000) (hno : x.no ≤ x.at_) :
    Calls Tryd.prog 27 #[.pointer (some ⟨b, 0, none⟩), .agg #[.int .i64 x.no, .int .i64 x.at_, .string (B x.text), .bool x.ended]] w fun e w' => Taken w T R b text p x e w' := by
  cases hg : goesP p x with
  | true =>
    have hbl : x.text.length ≤ x.bytes.length := by unfold Ln.bytes; simp
    exact take_on h hR x hi (by omega) hno hg
  | false =>
    rcases kindL_pos x.text with hk | hk | hk | hk | hk
    · exact take_off1 h hR x hi hx (by omega) hno hg hk
    · exact take_off2 h hR x hi hx (by omega) hno hg hk
    · exact take_off3 h hR x hi hx (by omega) hno hg hk
    · exact take_off4 h hR x hi hx (by omega) hno hg hk
    · exact take_off5 h hR x hi hx (by omega) hno hg hk

/-- The function's own boxes: the results'. -/
def Out (w W : World) (v e : Value) : Prop :=
  Cells W w.heap.size 23 #[v] ∧ Cells W (w.heap.size + 1) 25 #[e] ∧ Below w.heap.size w W
/-- What holds between two lines. -/
def InvP (w : World) (text : ByteArray) (pre : List Ln) (W : World) : Prop :=
  Out w W (.slice none 0 0) .nilIface ∧ ∃ T p, runP text.data.toList PS.new pre = .ok p ∧ Inv p (pre.flatMap Ln.bytes).length ∧ ParserAt W T (w.heap.size + 2) (w.heap.size + 2) text p ∧ ∀ k, w.heap.size + 3 ≤ k → k < w.heap.size + 9 → T k = 0
/-- What holds where a line was wrong. -/
def OutP (w : World) (text : ByteArray) (c : Code) (pre : List Ln) (W : World) : Prop :=
  c = .ret ∧ ∃ a n v, runP text.data.toList PS.new pre = .error (a, n) ∧ Out w W (.slice none 0 0) v ∧ FaultAt (w.heap.size + 9) W v a n
theorem Out.turned {w W W' : World} {v e : Value} {B k : Nat} (h : Out w W v e) (ht : Turned B k W W') (hB : w.heap.size + 2 ≤ B) : Out w W' v e :=
  ⟨(ht.same _ h.1.lt (.inl (by omega))).trans h.1, (ht.same _ h.2.1.lt (.inl (by omega))).trans h.2.1, h.2.2.trans (ht.below (by omega) h.2.2.size)⟩
theorem Out.alloc {w W : World} {v e : Value} (h : Out w W v e) (o : Obj) : Out w (W.alloc o) v e := ⟨h.1.alloc o, h.2.1.alloc o, h.2.2.alloc h.2.2.size o⟩
theorem Out.only {w W W' : World} {v e : Value} {S : Nat → Prop} (h : Out w W v e) (g : Only S W W') (hS : ∀ r, S r → w.heap.size + 2 ≤ r) : Out w W' v e :=
  ⟨h.1.only g (fun s => by have := hS _ s; omega), h.2.1.only g (fun s => by have := hS _ s; omega), h.2.2.trans (g.to_below h.2.2.size (fun r hr s => by have := hS _ s; omega))⟩
theorem Out.set {w W : World} {v e : Value} (h : Out w W v e) (v' e' : Value) : Out w ((W.setCell ⟨w.heap.size, 0, none⟩ v').setCell ⟨w.heap.size + 1, 0, none⟩ e') v' e' := by
  obtain ⟨h1, h2, h3⟩ := h
  exact ⟨Cells.other (h1.set 0 v') (by simp) _, Cells.set (Cells.other h2 (by simp) v') 0 e', (h3.setCell (p := ⟨w.heap.size, 0, none⟩) (Nat.le_refl _) _).setCell (p := ⟨w.heap.size + 1, 0, none⟩) (by show _ ≤ w.heap.size + 1; omega) _⟩
theorem ParserAt.turned {w w' : World} {T : Nat → Nat} {R b B k : Nat} {text : ByteArray} {p : PS} (h : ParserAt w T R b text p) (ht : Turned B k w w') (hz : ∀ r, B ≤ r → r < B + k → T r = 0) : ParserAt w' T R b text p := by
  obtain ⟨V, h⟩ := h
  refine ⟨V, h.same (fun r hr => ht.same r (h.low r hr).2 ?_) ht.size⟩
  rcases Nat.lt_or_ge r B with q | q
  · exact .inl q
  · rcases Nat.lt_or_ge r (B + k) with q' | q'
    · exact absurd (hz r q q') hr
    · exact .inr q'
theorem InvP.turned {w W W' : World} {text : ByteArray} {pre : List Ln} {B k : Nat} (h : InvP w text pre W) (ht : Turned B k W W') (hB : w.heap.size + 3 ≤ B) (hk : B + k ≤ w.heap.size + 9) : InvP w text pre W' := by
  obtain ⟨h1, T, p, h2, h3, h4, h5⟩ := h
  exact ⟨h1.turned ht (by omega), T, p, h2, h3, h4.turned ht (fun r a b => h5 r (by omega) (by omega)), h5⟩
theorem InvP.alloc {w W : World} {text : ByteArray} {pre : List Ln} (h : InvP w text pre W) (o : Obj) : InvP w text pre (W.alloc o) := by
  obtain ⟨h1, T, p, h2, h3, h4, h5⟩ := h
  exact ⟨h1.alloc o, T, p, h2, h3, h4.below ((Below.refl _ _).alloc (Nat.le_refl _) o), h5⟩
theorem OutP.turned {w W W' : World} {text : ByteArray} {c : Code} {pre : List Ln} {B k : Nat} (h : OutP w text c pre W) (ht : Turned B k W W') (hB : w.heap.size + 3 ≤ B) (hk : B + k ≤ w.heap.size + 9) : OutP w text c pre W' := by
  obtain ⟨h0, a, n, v, h1, h2, q, h3, h4, h5⟩ := h
  exact ⟨h0, a, n, v, h1, h2.turned ht (by omega), q, h3, h4, (ht.same q h5.lt (.inr (by omega))).trans h5⟩
theorem runP_snoc {text : List UInt8} {pre : List Ln} {p q : PS} {x : Ln} (h : runP text PS.new pre = .ok p) (ht : takeP text p x = .ok q) : runP text PS.new (pre ++ [x]) = .ok q := by
  rw [runP_append, h]; show (match takeP text p x with | .error e => _ | .ok q => runP text q []) = _; rw [ht]; rfl
theorem runP_snoc_no {text : List UInt8} {pre : List Ln} {p : PS} {e : Nat × Nat} {x : Ln} (h : runP text PS.new pre = .ok p) (ht : takeP text p x = .error e) : runP text PS.new (pre ++ [x]) = .error e := by
  rw [runP_append, h]; show (match takeP text p x with | .error e => _ | .ok q => runP text q []) = _; rw [ht]
theorem runP_stop {text : List UInt8} {pre xs : List Ln} {e : Nat × Nat} (h : runP text PS.new pre = .error e) (hp : pre <+: xs) : runP text PS.new xs = .error e := by
  obtain ⟨post, rfl⟩ := hp
  rw [runP_append, h]
end Go.Proofs.YtngngamfceoklaaDoor
