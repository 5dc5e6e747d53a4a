/- Texts put together: RH, PI, PJ, PK, FK, BU, FN, GB, PN, PL, PM, PT, MH. -/
import Derived.Shelf.Strings.BuilderK
import Derived.Lib.FrozenHead
import Derived.Test.YthblpjjocokphaaGreatDoorBase3
set_option linter.unusedVariables false
/- What a range over the lines wants: boxes, rows, the rule of the statement with the act as it stands. -/
namespace Go.Proofs.YthblpjjocokphaaGreatDoor
open Go.RowKit Go.Shelf
attribute [local go_sem] Oper.semAt_some

theorem under {W W' : World} {b n : Nat} {t : TypeId} {v : Value} (h : Boxed W b t v) (hb : Below n W W') (hn : b < n) : Boxed W' b t v := (hb.block b hn).trans h
theorem rowBase {W : World} {base base' : Nat} {e : TypeId} {size : Nat} {v : Value} {n : Nat} {xs : List Value} (h : W.ownsRow base e size v n xs) (hb : base' ≤ base) : W.ownsRow base' e size v n xs := by
  refine ⟨h.1, ?_⟩
  rcases h.2 with hn | ⟨g, cap, cur, hv, hg, rest⟩
  · exact .inl hn
  · exact .inr ⟨g, cap, cur, hv, Nat.le_trans hb hg, rest⟩
theorem rowForm {W : World} {base : Nat} {e : TypeId} {size : Nat} {v : Value} {n : Nat} {xs : List Value} (h : W.ownsRow base e size v n xs) : ∃ ao cap, v = .slice ao n cap := by
  rcases h.2 with ⟨rfl, rfl⟩ | ⟨g, cap, cur, rfl, _⟩
  · exact ⟨none, 0, rfl⟩
  · exact ⟨_, cap, rfl⟩
theorem boxNew3 (w : World) (o1 o2 : Obj) (t : TypeId) (v : Value) : Boxed (((w.alloc o1).alloc o2).alloc (.cells #[v] t)) (w.heap.size + 2) t v := by
  have := boxNew2 (w.alloc o1) o2 t v
  rwa [World.size_alloc] at this
theorem boxNew4 (w : World) (o1 o2 o3 : Obj) (t : TypeId) (v : Value) : Boxed ((((w.alloc o1).alloc o2).alloc o3).alloc (.cells #[v] t)) (w.heap.size + 3) t v := by
  have := boxNew3 (w.alloc o1) o2 o3 t v
  rwa [World.size_alloc] at this
theorem wp_rangedA {P : Program} {α : Type} {g : Operand} {ps : Array Tmp} {assign body : Code} {Q : Exit → Act → World → Prop} {a : Act} {w : World}
    {gf : Nat} {lb : Array Value} (hg : a.eval g = .func (.func gf) #[] lb) (eg : ∀ args w, (callFunc gf args).run P w = .ok (.enter gf args) w)
    {encs : α → Array Value} {k : Nat} {xs : List α} (hseq : Hands P gf lb encs k xs w) (hps : ∀ x, (encs x).size = ps.size)
    (I : List α → World → Prop) (Ix : Code → List α → World → Prop) (hI : Abide w.heap.size (k + 2) I) (hIx : ∀ c, Abide w.heap.size 2 (Ix c)) (h0 : I [] w)
    (M : Act → List α → α → Act → World → Prop) (hM : ∀ a pre x a', Abide w.heap.size 2 (fun (_ : Unit) W => M a pre x a' W))
    (hassign : ∀ (l : Nat) (pre : List α) (x : α) (post : List α) (W : World), xs = pre ++ x :: post → w.heap.size + (k + 2) ≤ W.heap.size → I pre W →
      assign.wpIn (Fence.wide.inRound l) 7 P (assigned w.heap.size (k + 2) (M a pre x) W) { tmps := (ps.zip (encs x)).foldl (fun t (p, v) => t.setIfInBounds p v) a.tmps, defers := [] } W)
    (hbody : ∀ (l : Nat) (pre : List α) (x : α) (post : List α) (a' : Act) (W : World), xs = pre ++ x :: post → w.heap.size + (k + 2) ≤ W.heap.size → M a pre x a' W →
      body.wpIn (Fence.wide.inRound l) 7 P (left w.heap.size (k + 2) I Ix (pre ++ [x]) W) a' W)
    (hdone : ∀ (W : World), I xs W → W.heap[w.heap.size]? = some (.deferred (some [])) → Q .normal { a with defers := { target := .collected w.heap.size, args := #[] } :: a.defers } W)
    (hstop : ∀ (c : Code) (pre : List α) (W : World), pre <+: xs → Ix c pre W → W.heap[w.heap.size]? = some (.deferred (some [])) → c.wpIn Fence.wide 9 P Q { a with defers := { target := .collected w.heap.size, args := #[] } :: a.defers } W) :
    (Code.rangeFunc g ps assign body).wpIn Fence.wide 9 P Q a w :=
  wp_ranged hg eg hseq hps I Ix hI hIx h0 (M a) (hM a) hassign hbody hdone hstop
theorem mkAppend (a b : List UInt8) : (⟨a.toArray⟩ : ByteArray) ++ ⟨b.toArray⟩ = ⟨(a ++ b).toArray⟩ := by
  rw [← Lib.mk_data ((⟨a.toArray⟩ : ByteArray) ++ ⟨b.toArray⟩), ByteArray.data_append, Array.toList_append]
theorem setOther {W : World} {b c : Nat} {t : TypeId} {v : Value} (h : Boxed W b t v) (hne : b ≠ c) (u : Value) : Boxed (W.setCell ⟨c, 0, none⟩ u) b t v := h.other hne u
theorem foldOne (p : Tmp) (v : Value) (t : Array Value) : ((#[p] : Array Tmp).zip #[v]).foldl (fun t (x : Tmp × Value) => t.setIfInBounds x.1 x.2) t = t.setIfInBounds p v := by simp
theorem boxStored {W : World} {b : Nat} {t : TypeId} {u v : Value} (h : Boxed (W.setCell ⟨b, 0, none⟩ v) b t u) : Boxed (W.setCell ⟨b, 0, none⟩ v) b t v := by
  unfold Boxed World.setCell at h ⊢
  simp only [Array.getElem?_modify, if_pos] at h ⊢
  cases ho : W.heap[b]? with
  | none => rw [ho] at h; cases h
  | some o =>
    rw [ho] at h
    cases o with
    | cells c e fr =>
      simp only [Option.map_some, Option.some.injEq, Obj.cells.injEq, Option.isSome_none, Bool.false_eq_true, if_false] at h ⊢
      obtain ⟨h1, h2, h3⟩ := h
      refine ⟨?_, h2, h3⟩
      have hs := congrArg Array.size h1
      simp at hs
      apply Array.ext
      · simp [hs]
      · intro i hi1 hi2
        have : i = 0 := by simp at hi2; omega
        subst this
        simp
    | _ => simp at h
end Go.Proofs.YthblpjjocokphaaGreatDoor
/- A line is taken, whichever; what holds between two lines. -/
namespace Go.Proofs.YthblpjjocokphaaGreatDoor
open Go.RowKit Go.Shelf
attribute [local go_sem] errV_0 errV_2

theorem kindL_pos (l : List UInt8) : kindL l = 1 ∨ kindL l = 2 ∨ kindL l = 3 ∨ kindL l = 4 ∨ kindL l = 5 := by
  unfold kindL
  split; · simp
  split; · simp
  split; · simp
  split; · simp
  split <;> simp
theorem take_any {w : World} {T : Nat → Nat} {R b : Nat} {text : ByteArray} {p : PS} (h : ParserAt w T R b text p) (hR : R ≤ w.heap.size) (x : Ln) (hi : Inv p x.at_) (hx : x.at_ + x.bytes.length ≤ text.size) (ht : text.size ≤ 60000) (hno : x.no ≤ x.at_) :
    Calls Tryz.prog 11 #[.pointer (some ⟨b, 0, none⟩), .agg #[.int .i64 x.no, .int .i64 x.at_, .string (B x.text), .bool x.ended]] w fun e w' => Taken w T R b text p x e w' := by
  cases hg : goesP p x with
  | true =>
    have hbl : x.text.length ≤ x.bytes.length := by unfold Ln.bytes; simp
    exact take_on h hR x hi (by omega) hno hg
  | false =>
    rcases kindL_pos x.text with hk | hk | hk | hk | hk
    · exact take_off1 h hR x hi hx (by omega) hno hg hk
    · exact take_off2 h hR x hi hx (by omega) hno hg hk
    · exact take_off3 h hR x hi hx (by omega) hno hg hk
    · exact take_off4 h hR x hi hx (by omega) hno hg hk
    · exact take_off5 h hR x hi hx (by omega) hno hg hk

/-- The function's own boxes: the results'. -/
def Out (w W : World) (v e : Value) : Prop :=
  Cells W w.heap.size 27 #[v] ∧ Cells W (w.heap.size + 1) 24 #[e] ∧ Below w.heap.size w W
/-- What holds between two lines. -/
def InvP (w : World) (text : ByteArray) (pre : List Ln) (W : World) : Prop :=
  Out w W (.slice none 0 0) .nilIface ∧ ∃ T p, runP text.data.toList PS.new pre = .ok p ∧ Inv p (pre.flatMap Ln.bytes).length ∧ ParserAt W T (w.heap.size + 2) (w.heap.size + 2) text p ∧ ∀ k, w.heap.size + 3 ≤ k → k < w.heap.size + 9 → T k = 0
/-- What holds where a line was wrong. -/
def OutP (w : World) (text : ByteArray) (c : Code) (pre : List Ln) (W : World) : Prop :=
  c = .ret ∧ ∃ a n v, runP text.data.toList PS.new pre = .error (a, n) ∧ Out w W (.slice none 0 0) v ∧ FaultAt (w.heap.size + 9) W v a n
theorem Out.turned {w W W' : World} {v e : Value} {B k : Nat} (h : Out w W v e) (ht : Turned B k W W') (hB : w.heap.size + 2 ≤ B) : Out w W' v e :=
  ⟨(ht.same _ h.1.lt (.inl (by omega))).trans h.1, (ht.same _ h.2.1.lt (.inl (by omega))).trans h.2.1, h.2.2.trans (ht.below (by omega) h.2.2.size)⟩
theorem Out.alloc {w W : World} {v e : Value} (h : Out w W v e) (o : Obj) : Out w (W.alloc o) v e := ⟨h.1.alloc o, h.2.1.alloc o, h.2.2.alloc h.2.2.size o⟩
theorem Out.only {w W W' : World} {v e : Value} {S : Nat → Prop} (h : Out w W v e) (g : Only S W W') (hS : ∀ r, S r → w.heap.size + 2 ≤ r) : Out w W' v e :=
  ⟨h.1.only g (fun s => by have := hS _ s; omega), h.2.1.only g (fun s => by have := hS _ s; omega), h.2.2.trans (g.to_below h.2.2.size (fun r hr s => by have := hS _ s; omega))⟩
theorem Out.set {w W : World} {v e : Value} (h : Out w W v e) (v' e' : Value) : Out w ((W.setCell ⟨w.heap.size, 0, none⟩ v').setCell ⟨w.heap.size + 1, 0, none⟩ e') v' e' := by
  obtain ⟨h1, h2, h3⟩ := h
  exact ⟨Cells.other (h1.set 0 v') (by simp) _, Cells.set (Cells.other h2 (by simp) v') 0 e', (h3.setCell (p := ⟨w.heap.size, 0, none⟩) (Nat.le_refl _) _).setCell (p := ⟨w.heap.size + 1, 0, none⟩) (by show _ ≤ w.heap.size + 1; omega) _⟩
theorem ParserAt.turned {w w' : World} {T : Nat → Nat} {R b B k : Nat} {text : ByteArray} {p : PS} (h : ParserAt w T R b text p) (ht : Turned B k w w') (hz : ∀ r, B ≤ r → r < B + k → T r = 0) : ParserAt w' T R b text p := by
  obtain ⟨V, h⟩ := h
  refine ⟨V, h.same (fun r hr => ht.same r (h.low r hr).2 ?_) ht.size⟩
  rcases Nat.lt_or_ge r B with q | q
  · exact .inl q
  · rcases Nat.lt_or_ge r (B + k) with q' | q'
    · exact absurd (hz r q q') hr
    · exact .inr q'
theorem InvP.turned {w W W' : World} {text : ByteArray} {pre : List Ln} {B k : Nat} (h : InvP w text pre W) (ht : Turned B k W W') (hB : w.heap.size + 3 ≤ B) (hk : B + k ≤ w.heap.size + 9) : InvP w text pre W' := by
  obtain ⟨h1, T, p, h2, h3, h4, h5⟩ := h
  exact ⟨h1.turned ht (by omega), T, p, h2, h3, h4.turned ht (fun r a b => h5 r (by omega) (by omega)), h5⟩
theorem InvP.alloc {w W : World} {text : ByteArray} {pre : List Ln} (h : InvP w text pre W) (o : Obj) : InvP w text pre (W.alloc o) := by
  obtain ⟨h1, T, p, h2, h3, h4, h5⟩ := h
  exact ⟨h1.alloc o, T, p, h2, h3, h4.below ((Below.refl _ _).alloc (Nat.le_refl _) o), h5⟩
theorem OutP.turned {w W W' : World} {text : ByteArray} {c : Code} {pre : List Ln} {B k : Nat} (h : OutP w text c pre W) (ht : Turned B k W W') (hB : w.heap.size + 3 ≤ B) (hk : B + k ≤ w.heap.size + 9) : OutP w text c pre W' := by
  obtain ⟨h0, a, n, v, h1, h2, q, h3, h4, h5⟩ := h
  exact ⟨h0, a, n, v, h1, h2.turned ht (by omega), q, h3, h4, (ht.same q h5.lt (.inr (by omega))).trans h5⟩
theorem runP_snoc {text : List UInt8} {pre : List Ln} {p q : PS} {x : Ln} (h : runP text PS.new pre = .ok p) (ht : takeP text p x = .ok q) : runP text PS.new (pre ++ [x]) = .ok q := by
  rw [runP_append, h]; show (match takeP text p x with | .error e => _ | .ok q => runP text q []) = _; rw [ht]; rfl
theorem runP_snoc_no {text : List UInt8} {pre : List Ln} {p : PS} {e : Nat × Nat} {x : Ln} (h : runP text PS.new pre = .ok p) (ht : takeP text p x = .error e) : runP text PS.new (pre ++ [x]) = .error e := by
  rw [runP_append, h]; show (match takeP text p x with | .error e => _ | .ok q => runP text q []) = _; rw [ht]
theorem runP_stop {text : List UInt8} {pre xs : List Ln} {e : Nat × Nat} (h : runP text PS.new pre = .error e) (hp : pre <+: xs) : runP text PS.new xs = .error e := by
  obtain ⟨post, rfl⟩ := hp
  rw [runP_append, h]
end Go.Proofs.YthblpjjocokphaaGreatDoor
/- Parse. -/
namespace Go.Proofs.YthblpjjocokphaaGreatDoor
open Go.RowKit Go.Shelf
attribute [local go_sem] Oper.semAt_some errV_0

/-- A slice of items, readable. -/
def Its (w : World) (v : Value) (its : List It) : Prop :=
  ∃ A cap, v = .slice A its.length cap ∧ its.length ≤ cap ∧ ∀ (i : Nat) (it : It), its[i]? = some it → ∃ b off fv, A = some ⟨b, off, none⟩ ∧ b < w.heap.size ∧
    w.cell? ⟨b, off + i * 3, none⟩ = some (.int .i64 it.kind) ∧ w.cell? ⟨b, off + i * 3 + 1, none⟩ = some (.string (B it.raw)) ∧ w.cell? ⟨b, off + i * 3 + 1 + 1, none⟩ = some fv ∧ Flds w fv it.fields
theorem Its.below {w w' : World} {v : Value} {its : List It} {n : Nat} (h : Its w v its) (hb : Below n w w') (hn : w.heap.size ≤ n) : Its w' v its := by
  obtain ⟨A, cap, hv, hle, hc⟩ := h
  refine ⟨A, cap, hv, hle, fun i it hi => ?_⟩
  obtain ⟨b, off, fv, hA, hlt, c0, c1, c2, hf⟩ := hc i it hi
  have hlt' := Nat.lt_of_lt_of_le hlt hn
  exact ⟨b, off, fv, hA, Nat.lt_of_lt_of_le hlt hb.size, (hb.cell (p := ⟨b, off + i * 3, none⟩) hlt').trans c0, (hb.cell (p := ⟨b, off + i * 3 + 1, none⟩) hlt').trans c1, (hb.cell (p := ⟨b, off + i * 3 + 1 + 1, none⟩) hlt').trans c2, hf.below hb hn⟩
theorem ParserV.its {w : World} {T : Nat → Nat} {R b : Nat} {text : ByteArray} {p : PS} {V : PV} (h : ParserV w T R b text p V) : Its w V.v3 p.items := by
  rcases Joins.ownsRow_forms h.r3 with ⟨e, hn⟩ | ⟨g, cap, e⟩
  · have : p.items = [] := List.length_eq_zero_iff.1 hn
    rw [e, this]
    exact ⟨none, 0, rfl, Nat.le_refl _, fun i it hi => by simp at hi⟩
  · refine ⟨some ⟨g, 0, none⟩, cap, e, (by rcases h.r3.2 with ⟨q, _⟩ | ⟨g', cap', cur, q, _, _, q2, _⟩; · rw [e] at q; cases q
                                           · rw [e] at q; cases q; exact q2), fun i it hi => ?_⟩
    have hlt : i < p.items.length := by
      rcases Nat.lt_or_ge i p.items.length with q | q
      · exact q
      · rw [List.getElem?_eq_none q] at hi; cases hi
    obtain ⟨fv, hfv⟩ : ∃ fv, V.fvs[i]? = some fv := ⟨_, List.getElem?_eq_getElem (by rw [h.nf]; exact hlt)⟩
    obtain ⟨a0, a1, a2⟩ := itemsCells_at _ _ i it fv hi hfv
    have hr := h.r3
    rw [e] at hr
    refine ⟨g, 0, fv, rfl, (World.ownsRow.lt hr g rfl).2, ?_, ?_, ?_, flds_of_own (h.rf i it fv hi hfv).1⟩
    · rw [Nat.zero_add, World.ownsRow.cellAt hr (i * 3) (by omega)]; exact a0
    · rw [Nat.zero_add, World.ownsRow.cellAt hr (i * 3 + 1) (by omega)]; exact a1
    · rw [Nat.zero_add, World.ownsRow.cellAt hr (i * 3 + 1 + 1) (by omega)]; exact a2
/-- The fields' slices that are nil have no room. -/
def NilI (w : World) (v : Value) (its : List It) : Prop := ∀ (i : Nat) (b off : Nat) (n cap m c : Nat), v = .slice (some ⟨b, off, none⟩) n cap → i < its.length → w.cell? ⟨b, off + i * 3 + 1 + 1, none⟩ = some (.slice none m c) → c = 0
theorem ParserV.nil {w : World} {T : Nat → Nat} {R b : Nat} {text : ByteArray} {p : PS} {V : PV} (h : ParserV w T R b text p V) : NilI w V.v3 p.items := by
  intro i b off n cap m c e hlt hcell
  obtain ⟨it, hi⟩ : ∃ it, p.items[i]? = some it := ⟨_, List.getElem?_eq_getElem hlt⟩
  obtain ⟨fv, hfv⟩ : ∃ fv, V.fvs[i]? = some fv := ⟨_, List.getElem?_eq_getElem (by rw [h.nf]; exact hlt)⟩
  obtain ⟨_, _, a2⟩ := itemsCells_at _ _ i it fv hi hfv
  have hr := h.r3
  rcases Joins.ownsRow_forms hr with ⟨e', hn⟩ | ⟨g, cap', e'⟩
  · omega
  · rw [e'] at e hr
    cases e
    rw [Nat.zero_add, World.ownsRow.cellAt hr (i * 3 + 1 + 1) (by omega), a2] at hcell
    cases hcell
    rcases (h.rf i it _ hi hfv).1.2 with ⟨q, _⟩ | ⟨g', cap', cur, q, _⟩
    · cases q; rfl
    · cases q
/-- What Parse comes to, of a text that isn't too long. -/
def Parsed (w : World) (text : List UInt8) (e : Ending) (w' : World) : Prop :=
  Below w.heap.size w w' ∧ match parseL text with
    | .error (a, n) => ∃ v, e = .returned (.tuple #[.slice none 0 0, v]) ∧ FaultAt w.heap.size w' v a n
    | .ok its => ∃ v, e = .returned (.tuple #[v, .nilIface]) ∧ Its w' v its ∧ NilI w' v its
theorem Parsed.no {w w' : World} {text : List UInt8} {v : Value} {a n : Nat} (h : parseL text = .error (a, n)) (hb : Below w.heap.size w w') (hf : FaultAt w.heap.size w' v a n) : Parsed w text (.returned (.tuple #[.slice none 0 0, v])) w' :=
  ⟨hb, by rw [h]; exact ⟨v, rfl, hf⟩⟩
theorem Parsed.yes {w w' : World} {text : List UInt8} {v : Value} {its : List It} (h : parseL text = .ok its) (hb : Below w.heap.size w w') (hf : Its w' v its ∧ NilI w' v its) : Parsed w text (.returned (.tuple #[v, .nilIface])) w' :=
  ⟨hb, by rw [h]; exact ⟨v, rfl, hf⟩⟩

/-- The way out: the mark is taken, the results are read from their boxes. -/
theorem parseOut {Q : Ending → World → Prop} (w W : World) (v e : Value) (tmps : Array Value) (hO : Out w W v e) (hv1 : v.oneCell' = true) (he1 : e.oneCell' = true) (hK : W.heap[w.heap.size + 4]? = some (.deferred (some []))) (t2 : tmps[2]? = some (.pointer (some ⟨w.heap.size, 0, none⟩))) (t3 : tmps[3]? = some (.pointer (some ⟨w.heap.size + 1, 0, none⟩)))
    (hQ : Below w.heap.size w (W.putObj (w.heap.size + 4) (.deferred none)) → Q (.returned (.tuple #[v, e])) (W.putObj (w.heap.size + 4) (.deferred none))) :
    bodyPostM Fence.wide 9 Tryz.prog Tryz.f6 Q .ret { tmps := tmps, defers := [{ target := .collected (w.heap.size + 4), args := #[] }] } W := by
  obtain ⟨h4, h5, hB⟩ := hO
  have p1 := grownBy_putObj' W (w.heap.size + 4) (.deferred none)
  have r4 : Cells (W.putObj (w.heap.size + 4) (.deferred none)) w.heap.size 27 #[v] := (p1.block _ h4.lt (fun e => by have := Option.some.inj e; omega)).trans h4
  have r5 : Cells (W.putObj (w.heap.size + 4) (.deferred none)) (w.heap.size + 1) 24 #[e] := (p1.block _ h5.lt (fun e => by have := Option.some.inj e; omega)).trans h5
  have c4 : (W.putObj (w.heap.size + 4) (.deferred none)).cell? ⟨w.heap.size, 0, none⟩ = some v := r4.cell 0
  have c5 : (W.putObj (w.heap.size + 4) (.deferred none)).cell? ⟨w.heap.size + 1, 0, none⟩ = some e := r5.cell 0
  refine ⟨by simp, .inl ⟨_, _, rfl, run_takeDeferred hK, ?_⟩⟩
  exact ⟨.tuple #[v, e], by simp [results, Tryz.f6, go_sem, t2, t3, c4, c5], hQ (hB.trans (belowK_b (w := w) (Nat.le_refl _) W _ _ _ (by omega) hK rfl rfl))⟩

theorem linesOn_pos : ∀ (n no at_ : Nat) (l : List UInt8), l.length ≤ n → ∀ x ∈ linesOn no at_ l, 1 ≤ x.bytes.length
  | 0, _, _, l, h, x, hx => by
    have : l = [] := List.length_eq_zero_iff.1 (by omega)
    subst this
    rw [linesOn_nil] at hx; cases hx
  | n + 1, no, at_, l, h, x, hx => by
    by_cases hl : l = []
    · subst hl; rw [linesOn_nil] at hx; cases hx
    · have hp := used_pos l hl
      rw [linesOn_cons _ _ _ hl] at hx
      rcases List.mem_cons.1 hx with rfl | hx
      · have : (Ln.bytes ⟨no, at_, head l, nl l⟩).length = used l := by
          unfold Ln.bytes used; simp only [List.length_append]; split <;> rfl
        omega
      · exact linesOn_pos n _ _ _ (by simp only [List.length_drop]; omega) x hx
theorem bytes_ge : ∀ (pre : List Ln), (∀ x ∈ pre, 1 ≤ x.bytes.length) → pre.length ≤ (pre.flatMap Ln.bytes).length
  | [], _ => Nat.le_refl _
  | x :: pre, h => by
    have ih := bytes_ge pre (fun y hy => h y (List.mem_cons_of_mem _ hy))
    have := h x List.mem_cons_self
    rw [List.flatMap_cons, List.length_append, List.length_cons]; omega

set_option maxRecDepth 100000 in
set_option maxHeartbeats 4000000 in
theorem parse_any (s : ByteArray) (hs : s.size ≤ 60000) (w : World) :
    Calls Tryz.prog 6 #[.string s] w fun e w' => Parsed w s.data.toList e w' := by
  obtain ⟨xs, hxs⟩ : ∃ xs, linesOf s.data.toList = xs := ⟨_, rfl⟩
  have HXS := Lib.hid hxs
  have hat := fun pre x post (e : xs = pre ++ x :: post) => linesOf_at s.data.toList pre x post (hxs.trans e)
  have HAT := Lib.hid hat
  have hj : (xs.flatMap Ln.bytes) = s.data.toList := by rw [← hxs]; exact linesOf_join _
  have hjl : (xs.flatMap Ln.bytes).length = s.size := by rw [hj, ← Lib.size_eq]
  have HJL := Lib.hid hjl
  have hpos : ∀ x ∈ xs, 1 ≤ x.bytes.length := by rw [← hxs]; exact linesOn_pos _ 0 0 _ (Nat.le_refl _)
  have HPOS := Lib.hid hpos
  clear hxs hat hjl hj hpos
  refine callsIn_wide (n := 9).1 ?_
  refine callsIn_of_wp_marks Tryz.func6 rfl trivial ?_ rfl
  simp only [Tryz.ntmps6, List.size_toArray, List.length_cons, List.length_nil, Nat.reduceAdd, Nat.reduceSub, Array.replicate_succ, Array.replicate_zero, List.push_toArray, List.append_toArray, List.nil_append, List.cons_append]
  gi_wp2_with fail
  refine ⟨trivial, (callsIn_wide.2 (split_any s _)).mono ?_⟩
  rintro e w3 ⟨rfl, rfl⟩
  gi_wp2_with fail
  have k7 := boxNew4 w (.cells #[.slice none 0 0] 27) (.cells #[.nilIface] 24) (.cells #[.int .i64 0, .slice none 0 0, .string s, .slice none 0 0, .int .i64 0, .int .i64 0, .slice none 0 0] 42) 9 (.string s)
  have HH := split_hands s (w.heap.size + 3) _ k7 (by omega)
  rw [HXS.out] at HH
  have n0 := ParserV.new ((w.alloc (.cells #[.slice none 0 0] 27)).alloc (.cells #[.nilIface] 24)) s (w.heap.size + 2) (by simp)
  rw [World.size_alloc, World.size_alloc] at n0
  change ParserV _ (fun k => if k = w.heap.size + 2 then 1 else 0) _ (w.heap.size + 2) _ _ _ at n0
  have o0 : Out w ((((w.alloc (.cells #[.slice none 0 0] 27)).alloc (.cells #[.nilIface] 24)).alloc (.cells #[.int .i64 0, .slice none 0 0, .string s, .slice none 0 0, .int .i64 0, .int .i64 0, .slice none 0 0] 42)).alloc (.cells #[.string s] 9)) (.slice none 0 0) .nilIface := by
    have h1 := Cells.new (w.alloc (.cells #[.slice none 0 0] 27)) 24 #[.nilIface]
    rw [World.size_alloc] at h1
    exact ⟨(((Cells.new w _ _).alloc _).alloc _).alloc _, (h1.alloc _).alloc _, ((((Below.refl _ w).alloc (Nat.le_refl _) _).alloc (by simp) _).alloc (by simp; omega) _).alloc (by simp; omega) _⟩
  have init : InvP w s [] ((((w.alloc (.cells #[.slice none 0 0] 27)).alloc (.cells #[.nilIface] 24)).alloc (.cells #[.int .i64 0, .slice none 0 0, .string s, .slice none 0 0, .int .i64 0, .int .i64 0, .slice none 0 0] 42)).alloc (.cells #[.string s] 9)) :=
    ⟨o0, _, PS.new, rfl, Inv.new, ParserAt.below ⟨_, n0⟩ ((Below.refl _ _).alloc (Nat.le_refl _) _), fun k h1 h2 => if_neg (by omega)⟩
  have hz : ((((w.alloc (.cells #[.slice none 0 0] 27)).alloc (.cells #[.nilIface] 24)).alloc (.cells #[.int .i64 0, .slice none 0 0, .string s, .slice none 0 0, .int .i64 0, .int .i64 0, .slice none 0 0] 42)).alloc (.cells #[.string s] 9)).heap.size = w.heap.size + 4 := by simp
  refine wp_rangedA (gf := 20) (lb := #[.pointer (some ⟨w.heap.size + 3, 0, none⟩)]) rfl (enters_of Tryz.func20 (by kernel_rfl) rfl) HH (fun _ => rfl)
    (InvP w s) (OutP w s) (by rw [hz]; exact fun pre W W' h ht => h.turned ht (by omega) (by omega)) (fun c pre W W' h ht => h.turned ht (by rw [hz]; omega) (by rw [hz]; omega)) init
    (fun a pre x a' W => ∃ Bx, w.heap.size + 9 ≤ Bx ∧ a' = { tmps := (a.tmps.setIfInBounds 16 (.agg (lineV x))).setIfInBounds 5 (.pointer (some ⟨Bx, 0, none⟩)), defers := [] } ∧ Cells W Bx 47 (lineV x) ∧ InvP w s pre W)
    ?hM ?assign ?body ?done ?stop
  case hM =>
    rw [hz]
    rintro a pre x a' _ W W' ⟨Bx, h1, h2, h3, h4⟩ ht
    exact ⟨Bx, h1, h2, (ht.same Bx h3.lt (.inr (by omega))).trans h3, h4.turned ht (by omega) (by omega)⟩
  case assign =>
    rw [hz]
    intro l pre x post W hx hsz hi
    clear hx
    dsimp only [lineV]
    gi_wp2
    exact ⟨(Stay.refl _ _ W).alloc hsz _, W.heap.size, by omega, rfl, Cells.new _ _ _, hi.alloc _⟩
  case body =>
    rw [hz]
    rintro l pre x post a' W hx hsz ⟨Bx, hB, rfl, hc, hO, T, p, hr, hi, hp, hT⟩
    obtain ⟨hno, hat⟩ := HAT.out pre x post hx
    rw [← hat] at hi
    have hsum := HJL.out
    rw [hx, List.flatMap_append, List.flatMap_cons, List.length_append, List.length_append, ← hat] at hsum
    have hge := bytes_ge pre (fun y hy => HPOS.out y (by rw [hx]; exact List.mem_append_left _ hy))
    rw [← hno, ← hat] at hge
    have hR : w.heap.size + 2 ≤ W.heap.size := by omega
    have TK := take_any hp hR x hi (by omega) hs hge
    have HR := Lib.hid hr
    have HI := Lib.hid hi
    have HX := Lib.hid (show x.at_ = (pre.flatMap Ln.bytes).length from hat)
    clear hx hr hi hat hsum hno
    simp only [List.setIfInBounds_toArray, List.set_cons_zero, List.set_cons_succ, lineV] at hc ⊢
    have q0 : W.cell? ⟨Bx, 0, none⟩ = some (.int .i64 x.no) := hc.cell 0
    have q1 : W.cell? ⟨Bx, 1, none⟩ = some (.int .i64 x.at_) := hc.cell 1
    have q2 : W.cell? ⟨Bx, 2, none⟩ = some (.string ⟨x.text.toArray⟩) := hc.cell 2
    have q3 : W.cell? ⟨Bx, 3, none⟩ = some (.bool x.ended) := hc.cell 3
    have stay : ∀ W1, Only (fun r => T r ≠ 0) W W1 → Stay (w.heap.size + 4) 5 W W1 := fun W1 ho => ⟨ho.size, fun r h1 h2 => ho.same r (by omega) (fun hn => hn (hT r (by omega) (by omega)))⟩
    have hTR : ∀ r, T r ≠ 0 → w.heap.size + 2 ≤ r := fun r hr => by obtain ⟨V, hv⟩ := hp; exact (hv.low r hr).1
    gi_wp2_with fail
    refine ⟨trivial, ((callsIn_wide.2 TK).inRound l).mono ?_⟩
    rintro e W1 ht
    unfold Taken at ht
    cases htk : takeP s.data.toList p x with
    | error an =>
      obtain ⟨a, n⟩ := an
      rw [htk] at ht
      obtain ⟨v, rfl, hf, ho⟩ := ht
      have hrn := runP_snoc_no HR.out htk
      obtain ⟨q, hq, rfl, hqc⟩ := hf
      have hO1 := hO.only ho hTR
      have c2 : W1.cell? ⟨w.heap.size, 0, none⟩ = some (.slice none 0 0) := hO1.1.cell 0
      have f2 := hO1.1.frozen 0
      have c3 : W1.cell? ⟨w.heap.size + 1, 0, none⟩ = some .nilIface := hO1.2.1.cell 0
      have f3 := hO1.2.1.frozen 0
      have hst := stay W1 ho
      clear TK hO hc
      gi_wp2
      refine ⟨(hst.setCell (.inl (by show w.heap.size < _; omega)) _).setCell (.inl (by show w.heap.size + 1 < _; omega)) _, rfl, a, n, _, hrn, hO1.set _ _, q, by omega, rfl, ?_⟩
      exact Cells.other (Cells.other hqc (by show q ≠ w.heap.size; omega) _) (by show q ≠ w.heap.size + 1; omega) _
    | ok p' =>
      rw [htk] at ht
      obtain ⟨rfl, T', hp', hst⟩ := ht
      have hrn := runP_snoc HR.out htk
      obtain ⟨hi', _⟩ := Inv.take HI.out hge htk
      clear TK hc
      gi_wp2
      refine ⟨stay W1 hst.only, hO.only hst.only hTR, T', p', hrn, ?_, hp', fun r h1 h2 => (hst.old r (by omega)).2 (hT r h1 h2)⟩
      rw [List.flatMap_append, List.length_append, ← HX.out]
      simpa using hi'
  case done =>
    rw [hz]
    rintro W ⟨hO, T, p, hr, hi, hp, hT⟩ hmark
    have zW : w.heap.size + 4 < W.heap.size := (Array.getElem?_eq_some_iff.1 hmark).1
    rw [HJL.out] at hi
    have hTR : ∀ r, T r ≠ 0 → w.heap.size + 2 ≤ r := fun r hr => by obtain ⟨V, hv⟩ := hp; exact (hv.low r hr).1
    have EF := endField_any hp (by omega) (by have := hi.said; omega) (by have := hi.fields; omega)
    have PL : Hid (parseL s.data.toList = lastP s.data.toList p) := by
      show _ = _
      unfold parseL; rw [HXS.out, hr]
    have HI := Lib.hid hi.endField
    have h4 : T (w.heap.size + 4) = 0 := hT _ (by omega) (by omega)
    have l0 := hp.lt
    clear hr hi hp
    gi_wp2_with fail
    refine ⟨trivial, (callsIn_wide.2 EF).mono ?_⟩
    rintro e W1 hE
    unfold EndField at hE
    by_cases h0 : endFieldN p = 0
    · rw [if_pos h0] at hE
      obtain ⟨rfl, T1, g1, s1⟩ := hE
      have hO1 := hO.only s1.only hTR
      have hm1 := (s1.only.same _ zW (fun e => e h4)).trans hmark
      have h41 := (s1.old _ zW).2 h4
      have hTR1 : ∀ r, T1 r ≠ 0 → w.heap.size + 2 ≤ r := fun r hr => by obtain ⟨V, hv⟩ := g1; exact (hv.low r hr).1
      have zW1 := s1.only.size
      have e0 := endField_at p
      have hat := HI.out.at_
      have EB := endBlock_any g1 (by omega) s.size hat (Nat.le_refl _) (by omega) (by have := HI.out.items; omega) (by have := HI.out.stanzas; omega)
      have l1 := g1.lt
      have PY : Hid (parseL s.data.toList = .ok (endBlockP s.data.toList (endFieldP p) s.size).items) := by
        show _ = _
        rw [PL.out]; unfold lastP; rw [if_neg (by simpa using h0), ← Lib.size_eq]
      clear EF hO hmark HI PL g1
      gi_wp2_with fail
      refine ⟨trivial, (callsIn_wide.2 EB).mono ?_⟩
      rintro e W2 ⟨rfl, T2, ⟨V2, g2⟩, s2⟩
      have hO2 := hO1.only s2.only hTR1
      have hm2 := (s2.only.same _ (by omega) (fun e => e h41)).trans hm1
      obtain ⟨a3, c3, e3, _⟩ := own_slice g2.r3
      have hits := g2.its
      have q3 : W2.cell? ⟨w.heap.size + 1 + 1, 3, none⟩ = some (.slice a3 (endBlockP s.data.toList (endFieldP p) s.size).items.length c3) := by rw [← e3]; exact g2.cells.cell 3
      have l2 := g2.lt
      have c2 : W2.cell? ⟨w.heap.size, 0, none⟩ = some (.slice none 0 0) := hO2.1.cell 0
      have f2 := hO2.1.frozen 0
      have c3' : W2.cell? ⟨w.heap.size + 1, 0, none⟩ = some .nilIface := hO2.2.1.cell 0
      have f3 := hO2.2.1.frozen 0
      rw [e3] at hits
      have HITS := Lib.hid hits
      have hT2 : T2 (w.heap.size + 4) = 0 := (s2.old _ (by omega)).2 h41
      have HG := Lib.hid (fun W' (hs : ∀ k, T2 k ≠ 0 → W'.heap[k]? = W2.heap[k]?) hz => And.intro (g2.same (w' := W') hs hz).its (g2.same (w' := W') hs hz).nil)
      have hlow2 : ∀ r, T2 r ≠ 0 → w.heap.size + 2 ≤ r := fun r hr => (g2.low r hr).1
      rw [e3] at HG
      clear EB hits g2
      gi_wp2
      refine parseOut w _ (.slice a3 (endBlockP s.data.toList (endFieldP p) s.size).items.length c3) .nilIface _ (hO2.set _ _) rfl rfl ?_ rfl rfl fun hb => .yes PY.out hb (HG.out _ ?_ ?_)
      · exact (Below.heap_setCell _ _ _ _ (by show w.heap.size + 4 ≠ w.heap.size + 1; omega)).trans ((Below.heap_setCell _ _ _ _ (by show w.heap.size + 4 ≠ w.heap.size; omega)).trans hm2)
      · intro k hk
        have h1 := hlow2 k hk
        rw [World.putObj_heap_other (by rintro rfl; exact hk hT2)]
        exact (Below.heap_setCell _ _ _ _ (by show k ≠ w.heap.size + 1; omega)).trans (Below.heap_setCell _ _ _ _ (by show k ≠ w.heap.size; omega))
      · simp [World.setCell]
    · rw [if_neg h0] at hE
      obtain ⟨v, rfl, ⟨q, hq, rfl, hqc⟩, hb1⟩ := hE
      have hO1 : Out w W1 (.slice none 0 0) .nilIface := ⟨hO.1.below hb1 hO.1.lt, hO.2.1.below hb1 hO.2.1.lt, hO.2.2.trans (hb1.mono hO.2.2.size)⟩
      have hm1 := (hb1.block _ zW).trans hmark
      have c2 : W1.cell? ⟨w.heap.size, 0, none⟩ = some (.slice none 0 0) := hO1.1.cell 0
      have f2 := hO1.1.frozen 0
      have c3' : W1.cell? ⟨w.heap.size + 1, 0, none⟩ = some .nilIface := hO1.2.1.cell 0
      have f3 := hO1.2.1.frozen 0
      have PN : Hid (parseL s.data.toList = .error (p.begin_, endFieldN p)) := by
        show _ = _
        rw [PL.out]; unfold lastP; rw [if_pos h0]
      clear EF hO hmark HI PL
      gi_wp2
      refine parseOut w _ (.slice none 0 0) (.iface 64 (.pointer (some ⟨q, 0, none⟩))) _ (hO1.set _ _) rfl rfl ?_ rfl rfl fun hb => .no PN.out hb ⟨q, by omega, rfl, ?_⟩
      · exact (Below.heap_setCell _ _ _ _ (by show w.heap.size + 4 ≠ w.heap.size + 1; omega)).trans ((Below.heap_setCell _ _ _ _ (by show w.heap.size + 4 ≠ w.heap.size; omega)).trans hm1)
      · exact (World.putObj_heap_other (by omega)).trans (Cells.other (Cells.other hqc (by show q ≠ w.heap.size; omega) _) (by show q ≠ w.heap.size + 1; omega) _)
  case stop =>
    rw [hz]
    rintro c pre W hpre ⟨rfl, a, n, v, hr, hO, ⟨q, hq, rfl, hqc⟩⟩ hmark
    have PN : Hid (parseL s.data.toList = .error (a, n)) := by
      show _ = _
      unfold parseL; rw [HXS.out, runP_stop hr hpre]
    gi_wp2
    refine parseOut w _ (.slice none 0 0) (.iface 64 (.pointer (some ⟨q, 0, none⟩))) _ hO rfl rfl hmark rfl rfl fun hb => .no PN.out hb ⟨q, by omega, rfl, ?_⟩
    exact (World.putObj_heap_other (by omega)).trans hqc
end Go.Proofs.YthblpjjocokphaaGreatDoor
/- Errors at places, by their numbers; the law's fixed fact. -/
namespace Go.Proofs.YthblpjjocokphaaGreatDoor
open Go.RowKit Go.Shelf

theorem assertErrF (q : Option Addr) (w : World) : (Instr.typeAssert (.iface 64 (.pointer q)) 24 36 true).run Tryz.prog w = .ok (.tuple #[.int .i64 0, .bool false]) w := by kernel_rfl
theorem assertFaultF (q : Option Addr) (w : World) : (Instr.typeAssert (.iface 64 (.pointer q)) 24 64 true).run Tryz.prog w = .ok (.tuple #[.pointer q, .bool true]) w := by kernel_rfl
theorem assertFaultE (n : Int) (w : World) : (Instr.typeAssert (.iface 36 (.int .i64 n)) 24 64 true).run Tryz.prog w = .ok (.tuple #[.pointer none, .bool false]) w := by kernel_rfl
theorem assertFault0 (w : World) : (Instr.typeAssert .nilIface 24 64 true).run Tryz.prog w = .ok (.tuple #[.pointer none, .bool false]) w := by kernel_rfl
theorem assertErrN (n : Int) (w : World) : (Instr.typeAssert (.iface 36 (.int .i64 n)) 24 36 true).run Tryz.prog w = .ok (.tuple #[.int .i64 n, .bool true]) w := by kernel_rfl
attribute [local go_sem] errV_0 assertErrF assertFaultF assertFaultE assertFault0 assertErrN
set_option maxHeartbeats 1000000 in
theorem parse_long (s : ByteArray) (hs : 60000 < s.size) (h2 : s.size ≤ maxLen) (w : World) :
    Calls Tryz.prog 6 #[.string s] w fun e w' => e = .returned (.tuple #[.slice none 0 0, .iface 36 (.int .i64 1)]) ∧ Below w.heap.size w w' := by
  unfold maxLen at h2
  refine callsIn_wide (n := 9).1 ?_
  refine callsIn_of_wp_marks Tryz.func6 rfl trivial ?_ rfl
  simp only [Tryz.ntmps6, List.size_toArray, List.length_cons, List.length_nil, Nat.reduceAdd, Nat.reduceSub, Array.replicate_succ, Array.replicate_zero, List.push_toArray, List.append_toArray, List.nil_append, List.cons_append]
  gi_wp2_with fail
  have h0 : Cells ((w.alloc (.cells #[.slice none 0 0] 27)).alloc (.cells #[.iface 36 (.int .i64 1)] 24)) w.heap.size 27 #[.slice none 0 0] := (Cells.new w _ _).alloc _
  have h1 := Cells.new (w.alloc (.cells #[.slice none 0 0] 27)) 24 #[.iface 36 (.int .i64 1)]
  rw [World.size_alloc] at h1
  have c0 := h0.cell 0
  have c1 := h1.cell 0
  simp only [List.getElem?_toArray, List.getElem?_cons_zero] at c0 c1
  exact ⟨.tuple #[.slice none 0 0, .iface 36 (.int .i64 1)], by simp [results, Tryz.f6, go_sem, c0, c1], rfl, ((Below.refl _ w).alloc (Nat.le_refl _) _).alloc (by simp) _⟩
theorem Its.at_ {w : World} {v : Value} {its : List It} (h : Its w v its) {i : Nat} {it : It} (hi : its[i]? = some it) : ∃ b off cap fa fc, v = .slice (some ⟨b, off, none⟩) its.length cap ∧ its.length ≤ cap ∧ b < w.heap.size ∧ w.cell? ⟨b, off + i * 3, none⟩ = some (.int .i64 it.kind) ∧ w.cell? ⟨b, off + i * 3 + 1, none⟩ = some (.string (B it.raw)) ∧ w.cell? ⟨b, off + i * 3 + 1 + 1, none⟩ = some (.slice fa it.fields.length fc) ∧ it.fields.length ≤ fc := by
  obtain ⟨A, cap, rfl, hle, hc⟩ := h
  obtain ⟨b, off, fv, rfl, hlt, c0, c1, c2, fa, fc, rfl, hfl, _⟩ := hc i it hi
  exact ⟨b, off, cap, fa, fc, rfl, hle, hlt, c0, c1, c2, hfl⟩
theorem alive_parse : parseL [65, 58, 32, 49, 10, 35, 32, 120, 10, 10] = .ok [⟨3, [65, 58, 32, 49, 10, 35, 32, 120, 10], [([65], [49])]⟩, ⟨1, [10], []⟩] := by kernel_rfl
end Go.Proofs.YthblpjjocokphaaGreatDoor
/- Plain. -/
namespace Go.Proofs.YthblpjjocokphaaGreatDoor
open Go.RowKit Go.Shelf

theorem unfold_zero {ls : List (List UInt8)} (h : unfoldN ls = 0) : checkN (unfoldK ls) (unfoldV ls) = 0 ∧ (unfoldK ls).length ≤ 32 ∧ (unfoldV ls).length ≤ 1000 := by
  cases hF : sayF ls with
  | false => rw [(unfold_no hF).1] at h; cases h
  | true =>
    by_cases hl : (saidV ls).length ≤ 1000
    · obtain ⟨a, r, rfl, hka, _⟩ := sayF_parts hF
      obtain ⟨_, e2, e3⟩ := unfold_yes hF hl
      have hg : goodKey (before a) = true := (kind4 hka).2.2
      rw [e2, e3]
      exact ⟨by unfold checkN; rw [hg, if_pos rfl, if_pos hl], (good_parts hg).2.1, hl⟩
    · rw [(unfold_long hF hl).1] at h; cases h
theorem mapB_inj {a b : List (List UInt8)} : (a.map B = b.map B) ↔ a = b := by
  constructor
  · intro h
    have := congrArg (List.map (·.data.toList)) h
    rw [List.map_map, List.map_map] at this
    have e : ∀ l : List (List UInt8), l.map ((·.data.toList) ∘ B) = l := fun l => by
      conv => rhs; rw [← List.map_id l]
      exact List.map_congr_left fun x _ => B_data x
    rwa [e, e] at this
  · intro h; rw [h]
attribute [local go_sem] errV_0
end Go.Proofs.YthblpjjocokphaaGreatDoor
/- A strings.Builder in a block of its own, its row from R on: what WriteString does to the world, block by block. -/
namespace Go.Proofs.YthblpjjocokphaaGreatDoor
open Go.RowKit Go.Shelf

theorem laid166 : Lays.n166 Tryz.prog Tryz.lays156_ren := { Tryz.lays156 with }
theorem laid240 : Lays.n240 Tryz.prog Tryz.lays156_ren := { Tryz.lays156 with }

/-- The builder in block b holds the bytes l; its row lies from R on. -/
def Bld (b R : Nat) (l : List UInt8) (W : World) : Prop :=
  ∃ p v, W.heap[b]? = some (.cells #[p, v] 124 (0, 0)) ∧ (p = .pointer none ∨ p = .pointer (some ⟨b, 0, none⟩)) ∧ W.ownsRow R 5 1 v l.length (Lib.byteCells l)

/-- Whatever lay below R lies as it lay, but block b. -/
structure Wrote (b R : Nat) (W W' : World) : Prop where
  os : W'.os = W.os
  tape : W'.tape = W.tape
  output : W'.output = W.output
  size : W.heap.size ≤ W'.heap.size
  same : ∀ r, r < R → r < W.heap.size → r ≠ b → W'.heap[r]? = W.heap[r]?
  others : Lib.OthersKept 5 (some b) W W'

theorem Wrote.refl (b R : Nat) (W : World) : Wrote b R W W := ⟨rfl, rfl, rfl, Nat.le_refl _, fun _ _ _ _ => rfl, Lib.OthersKept.refl _ _ _⟩
theorem Wrote.trans {b R : Nat} {X Y Z : World} (h : Wrote b R X Y) (g : Wrote b R Y Z) : Wrote b R X Z :=
  ⟨g.os.trans h.os, g.tape.trans h.tape, g.output.trans h.output, Nat.le_trans h.size g.size, fun r a c e => (g.same r a (Nat.lt_of_lt_of_le c h.size) e).trans (h.same r a c e), h.others.trans g.others⟩
theorem Wrote.grown {b R : Nat} {X Y Z : World} (h : Wrote b R X Y) {row : Option Nat} (hg : Y.grownBy Z row) (hr : ∀ r, row = some r → R ≤ r ∧ ∃ c fz, Y.heap[r]? = some (.cells c 5 fz)) : Wrote b R X Z :=
  h.trans ⟨hg.os, hg.tape, hg.output, hg.size, fun r a c e => hg.block r c (fun e2 => by have := (hr r e2.symm).1; omega), (Lib.OthersKept.refl _ _ _).grown hg (fun g e => (hr g e).2)⟩
theorem Wrote.put {b R : Nat} {X Y : World} (h : Wrote b R X Y) (j : Nat) (u : Value) : Wrote b R X (Y.setCell ⟨b, j, none⟩ u) :=
  h.trans ⟨rfl, rfl, rfl, by simp [World.setCell], fun r _ _ e => Below.heap_setCell _ _ _ _ e, Lib.OthersKept.setCell (b := b) (Lib.OthersKept.refl _ _ Y) ⟨b, j, none⟩ rfl u⟩
theorem Wrote.other {b R c : Nat} {X Y : World} {cs : Array Value} {t : TypeId} (h : Wrote b R X Y) (hc : X.heap[c]? = some (.cells cs t (0, 0))) (hne : c ≠ b) (ht : t ≠ 5) : Y.heap[c]? = some (.cells cs t (0, 0)) :=
  h.others c _ hc (fun e => hne (Option.some.inj e)) (fun c' fz e => ht (by injection e))
theorem Wrote.alloc {b R : Nat} {X Y : World} (h : Wrote b R X Y) (o : Obj) : Wrote b R X (Y.alloc o) :=
  h.grown (World.grownBy_alloc Y o none) (fun r e => by cases e)
theorem Wrote.drew {b R : Nat} {X Y : World} (h : Wrote b R X Y) : Wrote b R X Y.drew := ⟨h.os, h.tape, h.output, h.size, h.same, h.others⟩
theorem Wrote.below {b R n : Nat} {X Y : World} (h : Wrote b R X Y) (hb : n ≤ b) (hR : n ≤ R) (hs : n ≤ X.heap.size) : Below n X Y :=
  ⟨h.os, h.tape, h.output, h.size, fun r a => h.same r (by omega) (by omega) (by omega)⟩
theorem Wrote.stay {b R B k : Nat} {X Y : World} (h : Wrote b R X Y) (hb : b < B) (hR : B + k ≤ R) (hs : B + k ≤ X.heap.size) : Stay B k X Y :=
  ⟨h.size, fun r a c => h.same r (by omega) (by omega) (by omega)⟩
theorem Wrote.box {b R c : Nat} {X Y : World} {t : TypeId} {v : Value} (h : Wrote b R X Y) (hv : Boxed X c t v) (hc : c < R) (hne : c ≠ b) : Boxed Y c t v :=
  (h.same c hc hv.lt hne).trans hv

theorem Bld.lt {b R : Nat} {l : List UInt8} {W : World} (h : Bld b R l W) : b < W.heap.size := by
  obtain ⟨p, v, hb, _⟩ := h
  exact (Array.getElem?_eq_some_iff.1 hb).1
theorem Bld.alloc {b R : Nat} {l : List UInt8} {W : World} (h : Bld b R l W) (o : Obj) : Bld b R l (W.alloc o) := by
  have hlt := h.lt
  obtain ⟨p, v, hb, hp, hv⟩ := h
  exact ⟨p, v, (Below.heap_alloc _ _ _ hlt).trans hb, hp, hv.alloc _⟩
theorem Bld.new (w : World) (R : Nat) : Bld w.heap.size R [] (w.alloc (.cells #[.pointer none, .slice none 0 0] 124)) :=
  ⟨_, _, World.alloc_heap_new w _, .inl rfl, by simp [Lib.byteCells], .inl ⟨rfl, rfl⟩⟩
theorem Bld.turned {b R B k : Nat} {l : List UInt8} {W W' : World} (h : Bld b R l W) (ht : Turned B k W W') (hb : b < B) (hR : B + k ≤ R) : Bld b R l W' := by
  have hlt := h.lt
  obtain ⟨p, v, hb', hp, hv⟩ := h
  refine ⟨p, v, (ht.same b hlt (.inl hb)).trans hb', hp, ?_⟩
  exact ht.row hv (fun g e => .inr (by have := (hv.lt g e).1; omega))
/-- As the library's builder. -/
theorem Bld.library {b R B : Nat} {l : List UInt8} {W : World} (h : Bld b R l W) (hB : B ≤ b) (hR : B ≤ R) : Lib.IsBuilderF 124 5 B b (Lib.byteCells l) W := by
  obtain ⟨p, v, hb, hp, hv⟩ := h
  have hv2 : W.ownsRow B 5 1 v (Lib.byteCells l).length (Lib.byteCells l) := by
    rw [Lib.byteCells_length]
    refine ⟨hv.1, ?_⟩
    rcases hv.2 with hn | ⟨g, cap, cur, e1, e2, rest⟩
    · exact .inl hn
    · exact .inr ⟨g, cap, cur, e1, Nat.le_trans hR e2, rest⟩
  have hne : v.ownBlock ≠ some b := Lib.ownBlock_ne hv hb (by decide)
  refine Lib.IsBuilderF.of ?_
  rcases hp with rfl | rfl
  · exact .inl ⟨hB, v, hb, hv2, hne⟩
  · exact .inr ⟨hB, v, hb, hv2, hne⟩

set_option maxHeartbeats 2000000 in
set_option maxRecDepth 100000 in
theorem writes (b R : Nat) (l : List UInt8) (s : ByteArray) (w : World) (h : Bld b R l w) (hbR : b < R) (hR : R ≤ w.heap.size) (hlen : l.length + s.size ≤ 140737488355328) :
    Calls Tryz.prog 81 #[.pointer (some ⟨b, 0, none⟩), .string s] w fun e w' => e = .returned (.tuple #[.int .i64 s.size, .nilIface]) ∧ Bld b R (l ++ s.data.toList) w' ∧ Wrote b R w w' := by
  obtain ⟨i0, hi, hz0, hz1, hz2⟩ := info_parts Tryz.Builder_Extra_156.infoByte
  have hcopy : Calls Tryz.prog 92 #[.pointer (some ⟨b, 0, none⟩)] w fun e w' => e = .returned (.tuple #[]) ∧ (∃ v, w'.heap[b]? = some (.cells #[.pointer (some ⟨b, 0, none⟩), v] 124 (0, 0)) ∧ w'.ownsRow R 5 1 v l.length (Lib.byteCells l)) ∧ Wrote b R w w' := by
    obtain ⟨p, v, hb, hp, hv⟩ := h
    have hlt : b < w.heap.size := (Array.getElem?_eq_some_iff.1 hb).1
    rcases hp with rfl | rfl
    · refine (Any.Builder_copyCheck_fresh laid240 Tryz.Builder_Extra_156.toX72 b w ?_ ?_ ?_).mono ?_
      · rw [Lib.cell_of_heap hb]; rfl
      · simp [World.shape?, hb]; rfl
      · exact Lib.frozen_of_heap hb 0
      rintro e w' ⟨rfl, rfl⟩
      refine ⟨rfl, ⟨v, ?_, ?_⟩, ?_⟩
      · simp [World.setCell, Array.getElem?_modify, hb]
      · exact hv.kept (grownBy_setCell' w b _) (by
          cases hvb : v.ownBlock with
          | none => exact .inl rfl
          | some g => exact .inr (fun e => by have := (hv.lt g hvb).1; have := Option.some.inj e; omega))
      · exact (Wrote.refl b R w).put 0 _
    · refine (Any.Builder_copyCheck_used laid240 Tryz.Builder_Extra_156.toX72 b w ?_).mono ?_
      · rw [Lib.cell_of_heap hb]; rfl
      rintro e w' ⟨rfl, rfl⟩
      exact ⟨rfl, ⟨v, hb, hv⟩, Wrote.refl b R _⟩
  go_enter Tryz.func81, Tryz.ntmps81
  go_wp2_with (go_at_call 92; refine hcopy.mono ?_)
  rintro e w1 ⟨rfl, ⟨v, hbk, hown⟩, hw1⟩
  have c0 : w1.cell? ⟨b, 0, none⟩ = some (.pointer (some ⟨b, 0, none⟩)) := by rw [Lib.cell_of_heap hbk]; rfl
  have c1 : w1.cell? ⟨b, 1, none⟩ = some v := by rw [Lib.cell_of_heap hbk]; rfl
  go_wp2_with (at_builtin; refine Lib.wpList_append_own_string _ rfl _ _ 82 9 rfl R 5 i0 Tryz.underlying82 Tryz.underlying9 hi hz0 hz1 hz2 _ _ _ rfl hown s rfl ?c3 ?c4 ?c5 ?_)
  case c3 => unfold maxLen; omega
  case c4 => omega
  case c5 => have := hw1.size; omega
  intro v' w2 hown' hgrow _
  have hlt : b < w1.heap.size := (Array.getElem?_eq_some_iff.1 hbk).1
  have hrow : ∀ r, v.ownBlock = some r → R ≤ r := fun r e => (hown.lt r e).1
  have hb2 : w2.heap[b]? = some (.cells #[.pointer (some ⟨b, 0, none⟩), v] 124 (0, 0)) := by
    rw [hgrow.block b hlt (fun e => by have := hrow b e.symm; omega)]
    exact hbk
  have d0 : w2.cell? ⟨b, 0, none⟩ = some (.pointer (some ⟨b, 0, none⟩)) := by rw [Lib.cell_of_heap hb2]; rfl
  have d1 : w2.cell? ⟨b, 1, none⟩ = some v := by rw [Lib.cell_of_heap hb2]; rfl
  have f1 : w2.frozen? ⟨b, 1, none⟩ = false := Lib.frozen_of_heap hb2 1
  obtain ⟨ao, n', cap, rfl⟩ : ∃ ao n' cap, v' = .slice ao n' cap := by
    rcases hown'.2 with ⟨hv, _⟩ | ⟨g, cap, cur, hv, _⟩
    · exact ⟨_, _, _, hv⟩
    · exact ⟨_, _, _, hv⟩
  go_wp2
  go_ret2
  have hset : w2.grownBy (w2.setCell ⟨b, 1, none⟩ (.slice ao n' cap)) (some b) :=
    ⟨rfl, rfl, rfl, by simp [World.setCell], fun k _ hk => Below.heap_setCell _ _ _ k (fun e => hk (by rw [e]))⟩
  refine ⟨rfl, ⟨.pointer (some ⟨b, 0, none⟩), .slice ao n' cap, ?_, .inr rfl, ?_⟩, ?_⟩
  · simp [World.setCell, Array.getElem?_modify, hb2]
  · rw [List.length_append, ← Lib.size_eq, Lib.byteCells_append, ← Lib.strCells_eq]
    refine hown'.kept hset ?_
    cases hvb : (Value.slice ao n' cap).ownBlock with
    | none => exact .inl rfl
    | some g => exact .inr (fun e => by have := (hown'.lt g hvb).1; have := Option.some.inj e; omega)
  · refine (hw1.grown hgrow (fun r e => ⟨hrow r e, ?_⟩)).put 1 _
    rcases hown.2 with ⟨hn, _⟩ | ⟨g, cap, cur, hv, _, hg, _⟩
    · rw [hn] at e; cases e
    · rw [hv] at e
      cases e
      exact ⟨_, _, hg⟩
end Go.Proofs.YthblpjjocokphaaGreatDoor
/- Fold: what is folded, plainly; the frames of a builder beside rows of texts. -/
namespace Go.Proofs.YthblpjjocokphaaGreatDoor
open Go.RowKit Go.Shelf

def foldN : List (List UInt8 × List UInt8) → Nat
  | [] => 0
  | f :: r => if checkN f.1 f.2 = 0 then foldN r else checkN f.1 f.2
def foldG (fs : List (List UInt8 × List UInt8)) : List UInt8 := fs.flatMap fun f => textL (linesL f.1 f.2)
def foldT (fs : List (List UInt8 × List UInt8)) : List UInt8 := if foldN fs = 0 then foldG fs else []
theorem foldN_le : ∀ fs, foldN fs ≤ 6
  | [] => by decide
  | f :: r => by
    unfold foldN
    split
    · exact foldN_le r
    · unfold checkN; split
      · split <;> decide
      · decide
theorem checkN_zero {k v : List UInt8} (h : checkN k v = 0) : goodKey k = true ∧ v.length ≤ 1000 := by
  unfold checkN at h
  split at h
  · rename_i hg
    split at h
    · rename_i hl; exact ⟨hg, hl⟩
    · cases h
  · cases h
theorem text_le {k v : List UInt8} (h : checkN k v = 0) : (textL (linesL k v)).length ≤ 4000 := by
  obtain ⟨a, b⟩ := checkN_zero h
  have c := (good_parts a).2.1
  rw [textL_len]
  have := lines_sum k v
  omega
theorem foldG_snoc (fs : List (List UInt8 × List UInt8)) (f : List UInt8 × List UInt8) : foldG (fs ++ [f]) = foldG fs ++ textL (linesL f.1 f.2) := by unfold foldG; simp
theorem textL_snoc (ls : List (List UInt8)) (x : List UInt8) : textL (ls ++ [x]) = (textL ls ++ x) ++ [10] := by unfold textL; simp
theorem textL_take (ls : List (List UInt8)) (j : Nat) : (textL (ls.take j)).length ≤ (textL ls).length := by
  conv => rhs; rw [← List.take_append_drop j ls, textL_append, List.length_append]
  omega
/-- A row of texts beside a builder. -/
theorem OwnS.wrote {w w' : World} {base b R : Nat} {v : Value} {ss : List ByteArray} (h : OwnS w base v ss) (hw : Wrote b R w w') {cs : Array Value} (hb : w.heap[b]? = some (.cells cs 124 (0, 0))) : OwnS w' base v ss := by
  refine ⟨h.1, ?_⟩
  rcases h.2 with hn | ⟨g, cap, cur, hv, hg, hc, rest⟩
  · exact .inl hn
  · refine .inr ⟨g, cap, cur, hv, hg, hw.other hc ?_ (by decide), rest⟩
    rintro rfl
    rw [hb] at hc
    cases hc
theorem Bld.kept {b R N : Nat} {l : List UInt8} {W W' : World} (h : Bld b R l W) (hb : Below N W W') (hN : W.heap.size ≤ N) : Bld b R l W' := by
  have hlt := h.lt
  obtain ⟨p, v, hb', hp, hv⟩ := h
  exact ⟨p, v, (hb.block b (by omega)).trans hb', hp, own_kept hv hb hN⟩
theorem Bld.cells {b R : Nat} {l : List UInt8} {W : World} (h : Bld b R l W) : ∃ cs, W.heap[b]? = some (.cells cs 124 (0, 0)) := by
  obtain ⟨p, v, hb', _⟩ := h
  exact ⟨_, hb'⟩
end Go.Proofs.YthblpjjocokphaaGreatDoor
/- Slices of fields: Much, Copies, Fields. -/
namespace Go.Proofs.YthblpjjocokphaaGreatDoor
open Go.RowKit Go.Shelf

def minF (fs : List (List UInt8 × List UInt8)) : Nat := (fs.map fun f => min f.1.length 10000 + min f.2.length 10000).sum
theorem minF_snoc (fs : List (List UInt8 × List UInt8)) (f : List UInt8 × List UInt8) : minF (fs ++ [f]) = minF fs + (min f.1.length 10000 + min f.2.length 10000) := by unfold minF; simp
theorem minF_small : ∀ (fs : List (List UInt8 × List UInt8)), minF fs ≤ 6000 → ∀ f ∈ fs, f.1.length ≤ 6000 ∧ f.2.length ≤ 6000
  | [], _, f, hf => by simp at hf
  | a :: r, h, f, hf => by
    have e : minF (a :: r) = (min a.1.length 10000 + min a.2.length 10000) + minF r := rfl
    rw [e] at h
    rcases List.mem_cons.1 hf with rfl | hf
    · omega
    · exact minF_small r (by omega) f hf
structure FldsIn (w : World) (v : Value) (fs : List (List UInt8 × List UInt8)) : Prop where
  flds : Flds w v fs
  nil : ∀ n c, v = .slice none n c → c = 0
  len : fs.length ≤ maxLen
  each : ∀ f ∈ fs, f.1.length ≤ maxLen ∧ f.2.length ≤ maxLen

def MuchR (fs : List (List UInt8 × List UInt8)) (e : Ending) : Prop := ∃ b : Bool, e = .returned (.bool b) ∧ (b = false → fs.length ≤ 61 ∧ (∀ f ∈ fs, f.1.length ≤ 6000 ∧ f.2.length ≤ 6000) ∧ minF fs ≤ 6000)
set_option maxRecDepth 100000 in
set_option maxHeartbeats 4000000 in
theorem fields_quiet (fs : List (List UInt8 × List UInt8)) (v v' : Value) (w : World) (h : Flds w v fs) (h' : Flds w v' fs) (hn : fs.length ≤ 1000000) :
    Calls Tryz.prog 14 #[v, v'] w fun e w' => e = .returned (.bool true) ∧ ∃ m, w' = w.drewN m := by
  obtain ⟨A, cap, rfl, hle, hc⟩ := h
  obtain ⟨A', cap', rfl, hle', hc'⟩ := h'
  have PC := Lib.hid hc
  have PC' := Lib.hid hc'
  clear hc hc'
  go_enter Tryz.func14, Tryz.ntmps14
  go_wp2_with fail
  go_loopw [13] (fun i wr => ∃ k : Nat, k ≤ fs.length ∧ i = .int .i64 k ∧ ∃ m, wr = w.drewN m) (fun i _ => fs.length - (intOf i).toNat)
  case atStart => exact ⟨0, Nat.zero_le _, rfl, 0, rfl⟩
  case round =>
    obtain ⟨k, hk, rfl, nd, hwr⟩ := hrel
    by_cases hlt : k < fs.length
    · obtain ⟨f, hf⟩ : ∃ f, fs[k]? = some f := ⟨_, List.getElem?_eq_getElem hlt⟩
      obtain ⟨b, off, rfl, hbb, c0, c1⟩ := PC.out k f hf
      obtain ⟨b', off', rfl, hbb', c0', c1'⟩ := PC'.out k f hf
      replace c0 : wr.cell? ⟨b, off + k * 2, none⟩ = some (.string (B f.1)) := by rw [hwr]; exact c0
      replace c1 : wr.cell? ⟨b, off + k * 2 + 1, none⟩ = some (.string (B f.2)) := by rw [hwr]; exact c1
      replace c0' : wr.cell? ⟨b', off' + k * 2, none⟩ = some (.string (B f.1)) := by rw [hwr]; exact c0'
      replace c1' : wr.cell? ⟨b', off' + k * 2 + 1, none⟩ = some (.string (B f.2)) := by rw [hwr]; exact c1'
      have HW := Lib.hid hwr
      clear hf PC PC' hwr
      generalize B f.1 = X at *
      generalize B f.2 = Y at *
      go_wp2_with (go_quiet (fail))
      go_roundw
      case rel => exact ⟨k + 1, hlt, by go_num, nd + _, by rw [HW.out]; exact World.drewN_drewN _ _ _⟩
      case measure => simp [intOf]; omega
    · obtain rfl : k = fs.length := by omega
      clear PC PC'
      go_wp2_with fail
      go_ret
      exact ⟨rfl, nd, by first | rfl | exact hwr⟩
theorem fields_same (fs : List (List UInt8 × List UInt8)) (v v' : Value) (w : World) (h : Flds w v fs) (h' : Flds w v' fs) (hn : fs.length ≤ 1000000) :
    Calls Tryz.prog 14 #[v, v'] w fun e w' => e = .returned (.bool true) ∧ Below w.heap.size w w' :=
  (fields_quiet fs v v' w h h' hn).mono fun e w' ⟨a, m, b⟩ => ⟨a, by rw [b]; exact drewN_below (Below.refl _ _) m⟩
end Go.Proofs.YthblpjjocokphaaGreatDoor
/- The same items. -/
namespace Go.Proofs.YthblpjjocokphaaGreatDoor
open Go.RowKit Go.Shelf

theorem Flds.drewN {w : World} {v : Value} {fs : List Fld} (h : Flds w v fs) (n : Nat) : Flds (w.drewN n) v fs := h
set_option maxRecDepth 100000 in
set_option maxHeartbeats 8000000 in
theorem items_quiet (its : List It) (v v' : Value) (w : World) (h : Its w v its) (h' : Its w v' its) (hn : its.length ≤ 1000000) (hf : ∀ it ∈ its, it.fields.length ≤ 1000000) :
    Calls Tryz.prog 7 #[v, v'] w fun e w' => e = .returned (.bool true) ∧ ∃ m, w' = w.drewN m := by
  obtain ⟨A, cap, rfl, hle, hc⟩ := h
  obtain ⟨A', cap', rfl, hle', hc'⟩ := h'
  have PC := Lib.hid hc
  have PC' := Lib.hid hc'
  have HF := Lib.hid hf
  clear hc hc' hf
  go_enter Tryz.func7, Tryz.ntmps7
  go_wp2_with fail
  go_loopw [13] (fun i wr => ∃ k : Nat, k ≤ its.length ∧ i = .int .i64 k ∧ ∃ m, wr = w.drewN m) (fun i _ => its.length - (intOf i).toNat)
  case atStart => exact ⟨0, Nat.zero_le _, rfl, 0, rfl⟩
  case round =>
    obtain ⟨k, hk, rfl, nd, hwr⟩ := hrel
    by_cases hlt : k < its.length
    · obtain ⟨it, hit⟩ : ∃ it, its[k]? = some it := ⟨_, List.getElem?_eq_getElem hlt⟩
      obtain ⟨b, off, fv, rfl, hbb, c0, c1, c2, hfl⟩ := PC.out k it hit
      obtain ⟨b', off', fv', rfl, hbb', c0', c1', c2', hfl'⟩ := PC'.out k it hit
      have hm := HF.out it (List.mem_of_getElem? hit)
      have FQ0 : ∀ n, Calls Tryz.prog 14 #[fv, fv'] (wr.drewN n) fun e w' => e = .returned (.bool true) ∧ ∃ m, w' = (wr.drewN n).drewN m := by
        intro n
        rw [hwr]
        exact fields_quiet it.fields fv fv' ((w.drewN nd).drewN n) ((hfl.drewN nd).drewN n) ((hfl'.drewN nd).drewN n) hm
      have FQ := Lib.hid FQ0
      clear FQ0
      replace c0 : wr.cell? ⟨b, off + k * 3, none⟩ = some (.int .i64 it.kind) := by rw [hwr]; exact c0
      replace c1 : wr.cell? ⟨b, off + k * 3 + 1, none⟩ = some (.string (B it.raw)) := by rw [hwr]; exact c1
      replace c2 : wr.cell? ⟨b, off + k * 3 + 1 + 1, none⟩ = some fv := by rw [hwr]; exact c2
      replace c0' : wr.cell? ⟨b', off' + k * 3, none⟩ = some (.int .i64 it.kind) := by rw [hwr]; exact c0'
      replace c1' : wr.cell? ⟨b', off' + k * 3 + 1, none⟩ = some (.string (B it.raw)) := by rw [hwr]; exact c1'
      replace c2' : wr.cell? ⟨b', off' + k * 3 + 1 + 1, none⟩ = some fv' := by rw [hwr]; exact c2'
      have HW := Lib.hid hwr
      clear hit PC PC' hwr hfl hfl' HF
      generalize B it.raw = X at *
      generalize it.kind = K at *
      go_wp2_with (go_quiet ((go_at_call 14; exact Calls.quiet_of (FQ.out _))))
      go_roundw
      case rel => exact ⟨k + 1, hlt, by go_num, _, by rw [HW.out]; exact World.drewN_drewN _ _ _⟩
      case measure => simp [intOf]; omega
    · obtain rfl : k = its.length := by omega
      clear PC PC'
      go_wp2_with fail
      go_ret
      exact ⟨rfl, nd, by first | rfl | exact hwr⟩
end Go.Proofs.YthblpjjocokphaaGreatDoor
/- StanzaMany. -/
namespace Go.Proofs.YthblpjjocokphaaGreatDoor
open Go.RowKit Go.Shelf

def repB (n : Nat) (l : List UInt8) : List UInt8 := (List.replicate n l).flatten
theorem repB_succ (n : Nat) (l : List UInt8) : repB (n + 1) l = repB n l ++ l := by unfold repB; rw [List.replicate_succ', List.flatten_append]; simp
theorem repB_len (n : Nat) (l : List UInt8) : (repB n l).length = n * l.length := by
  induction n with
  | zero => simp [repB]
  | succ n ih => rw [repB_succ, List.length_append, ih]; rw [Nat.succ_mul]
/-- What comes of a text: place and number, or how many items, and how many fields the first has. -/
def outM (r : Res (List It)) : Nat × Nat × Nat × Nat := match r with | .error (a, n) => (a, n, 0, 0) | .ok its => (0, 0, its.length, (its.head?.map (·.fields.length)).getD 0)
set_option maxRecDepth 1000000
theorem one38 : outM (parseL (repB 38 [65, 58, 10])) = (0, 0, 1, 38) := by kernel_rfl
theorem one39 : outM (parseL (repB 39 [65, 58, 10])) = (0, 0, 1, 39) := by kernel_rfl
theorem one40 : outM (parseL (repB 40 [65, 58, 10])) = (0, 0, 1, 40) := by kernel_rfl
theorem one41 : outM (parseL (repB 41 [65, 58, 10])) = (40, 11, 0, 0) := by kernel_rfl
theorem one42 : outM (parseL (repB 42 [65, 58, 10])) = (40, 11, 0, 0) := by kernel_rfl
theorem many398 : outM (parseL (repB 398 [65, 58, 10, 10])) = (0, 0, 796, 1) := by kernel_rfl
theorem many399 : outM (parseL (repB 399 [65, 58, 10, 10])) = (0, 0, 798, 1) := by kernel_rfl
theorem many400 : outM (parseL (repB 400 [65, 58, 10, 10])) = (0, 0, 800, 1) := by kernel_rfl
theorem many401 : outM (parseL (repB 401 [65, 58, 10, 10])) = (800, 11, 0, 0) := by kernel_rfl
theorem many402 : outM (parseL (repB 402 [65, 58, 10, 10])) = (800, 11, 0, 0) := by kernel_rfl
theorem one_all (n : Nat) (h1 : 38 ≤ n) (h2 : n ≤ 42) : outM (parseL (repB n [65, 58, 10])) = if n ≤ 40 then (0, 0, 1, n) else (40, 11, 0, 0) := by
  rcases (by omega : n = 38 ∨ n = 39 ∨ n = 40 ∨ n = 41 ∨ n = 42) with rfl | rfl | rfl | rfl | rfl
  · exact one38
  · exact one39
  · exact one40
  · exact one41
  · exact one42
theorem many_all (n : Nat) (h1 : 398 ≤ n) (h2 : n ≤ 402) : outM (parseL (repB n [65, 58, 10, 10])) = if n ≤ 400 then (0, 0, 2 * n, 1) else (800, 11, 0, 0) := by
  rcases (by omega : n = 398 ∨ n = 399 ∨ n = 400 ∨ n = 401 ∨ n = 402) with rfl | rfl | rfl | rfl | rfl
  · exact many398
  · exact many399
  · exact many400
  · exact many401
  · exact many402
theorem out_no {r : Res (List It)} {a n : Nat} (h : outM r = (a, n, 0, 0)) (hn : n ≠ 0) : r = .error (a, n) := by
  cases r with
  | error e => unfold outM at h; simp only [Prod.mk.injEq] at h; obtain ⟨h1, h2, _⟩ := h; rw [← h1, ← h2]
  | ok its => unfold outM at h; simp only [Prod.mk.injEq] at h; exact absurd h.2.1.symm hn
theorem out_yes {r : Res (List It)} {m k : Nat} (h : outM r = (0, 0, m, k)) (hm : m ≠ 0) : ∃ its, r = .ok its ∧ its.length = m ∧ ∃ it, its[0]? = some it ∧ it.fields.length = k := by
  cases r with
  | error e => unfold outM at h; simp only [Prod.mk.injEq] at h; exact absurd h.2.2.1.symm hm
  | ok its =>
    unfold outM at h; simp only [Prod.mk.injEq] at h
    cases its with
    | nil => exact absurd h.2.2.1.symm hm
    | cons it r => exact ⟨_, rfl, h.2.2.1, it, rfl, by simpa using h.2.2.2⟩
end Go.Proofs.YthblpjjocokphaaGreatDoor
/- StanzaMany's walk. -/
namespace Go.Proofs.YthblpjjocokphaaGreatDoor
open Go.RowKit Go.Shelf

theorem u64_rem (a : Int) : ∃ m : Nat, m ≤ 4 ∧ (IntKind.u64.wrap a).tmod 5 = m := by
  have h : 0 ≤ IntKind.u64.wrap a := by
    simp [IntKind.wrap, IntKind.bits, IntKind.signed]; omega
  rw [Int.tmod_eq_emod_of_nonneg h]
  refine ⟨((IntKind.u64.wrap a) % 5).toNat, by omega, by omega⟩
theorem rem_in (a : Int) (k : Nat) (hk : k ≤ 1000) : ∃ n : Nat, k ≤ n ∧ n ≤ k + 4 ∧ wrap64 ((k : Int) + wrap64 ((IntKind.u64.wrap a).tmod 5)) = n := by
  obtain ⟨m, hm, e⟩ := u64_rem a
  rw [e]
  refine ⟨k + m, by omega, by omega, ?_⟩
  unfold wrap64; omega
theorem repB_text (n : Nat) (l : List UInt8) : B (repB n l) ++ B l = B (repB (n + 1) l) := by rw [repB_succ, ← B_append]
theorem parsedNo {w w' : World} {t : List UInt8} {e : Ending} {a n : Nat} (h : Parsed w t e w') (hp : parseL t = .error (a, n)) : Below w.heap.size w w' ∧ ∃ v, e = .returned (.tuple #[.slice none 0 0, v]) ∧ FaultAt w.heap.size w' v a n := by
  obtain ⟨h1, h2⟩ := h
  rw [hp] at h2
  exact ⟨h1, h2⟩
theorem parsedYes {w w' : World} {t : List UInt8} {e : Ending} {its : List It} (h : Parsed w t e w') (hp : parseL t = .ok its) : Below w.heap.size w w' ∧ ∃ v, e = .returned (.tuple #[v, .nilIface]) ∧ Its w' v its := by
  obtain ⟨h1, h2⟩ := h
  rw [hp] at h2
  obtain ⟨v, e1, e2, _⟩ := h2
  exact ⟨h1, v, e1, e2⟩
theorem parsedYes2 {w w' : World} {t : List UInt8} {e : Ending} {its : List It} (h : Parsed w t e w') (hp : parseL t = .ok its) : Below w.heap.size w w' ∧ ∃ v, e = .returned (.tuple #[v, .nilIface]) ∧ Its w' v its ∧ NilI w' v its := by
  obtain ⟨h1, h2⟩ := h
  rw [hp] at h2
  exact ⟨h1, h2⟩
/-- The texts, parsed. -/
structure ManyP (n : Nat) (one : List UInt8) (small : Bool) : Prop where
  no : small = false → parseL one = .error (n, 11)

end Go.Proofs.YthblpjjocokphaaGreatDoor
/- StanzaCuts' walk. -/
namespace Go.Proofs.YthblpjjocokphaaGreatDoor
open Go.RowKit Go.Shelf

theorem Its.take {w : World} {A : Option Addr} {n cap : Nat} {its : List It} (h : Its w (.slice A n cap) its) (k : Nat) (hk : k ≤ its.length) : Its w (.slice A k cap) (its.take k) := by
  obtain ⟨A', cap', e, hle, hc⟩ := h
  cases e
  have hl : (its.take k).length = k := by rw [List.length_take]; omega
  refine ⟨A, cap, by rw [hl], by omega, fun i it hi => hc i it ?_⟩
  rw [List.getElem?_take] at hi
  split at hi
  · exact hi
  · cases hi
theorem Its.drop {w : World} {b off n cap : Nat} {its : List It} (h : Its w (.slice (some ⟨b, off, none⟩) n cap) its) (k : Nat) (hk : k ≤ its.length) : Its w (.slice (some ⟨b, off + k * 3, none⟩) (its.length - k) (cap - k)) (its.drop k) := by
  obtain ⟨A', cap', e, hle, hc⟩ := h
  cases e
  refine ⟨_, cap - k, by rw [List.length_drop], by rw [List.length_drop]; omega, fun i it hi => ?_⟩
  rw [List.getElem?_drop] at hi
  obtain ⟨b', off', fv, e, h1, h2, h3, h4, h5⟩ := hc _ it hi
  cases e
  refine ⟨b, off + k * 3, fv, rfl, h1, ?_, ?_, ?_, h5⟩
  · rw [show off + k * 3 + i * 3 = off + (k + i) * 3 by omega]; exact h2
  · rw [show off + k * 3 + i * 3 + 1 = off + (k + i) * 3 + 1 by omega]; exact h3
  · rw [show off + k * 3 + i * 3 + 1 + 1 = off + (k + i) * 3 + 1 + 1 by omega]; exact h4
theorem Its.nil (w : World) (A : Option Addr) (cap : Nat) : Its w (.slice A 0 cap) [] := ⟨A, cap, rfl, Nat.zero_le _, fun i it h => by simp at h⟩
/-- How many bytes the first items have. -/
def atI (its : List It) (k : Nat) : Nat := ((its.take k).flatMap It.raw).length
theorem atI_succ (its : List It) (k : Nat) (it : It) (h : its[k]? = some it) : atI its (k + 1) = atI its k + it.raw.length := by
  unfold atI; rw [List.take_add_one, h]; simp
theorem atI_le (its : List It) (t : List UInt8) (h : its.flatMap It.raw = t) (k : Nat) : atI its k ≤ t.length := by
  have e : t = (its.take k).flatMap It.raw ++ (its.drop k).flatMap It.raw := by rw [← List.flatMap_append, List.take_append_drop]; exact h.symm
  unfold atI
  rw [e, List.length_append]; omega

end Go.Proofs.YthblpjjocokphaaGreatDoor
/- A header ahead of a good text is parsed to a Remark and a Blank more: the law. -/
namespace Go.Proofs.YthblpjjocokphaaGreatDoor.Hd
open Go.RowKit Go.Shelf
attribute [local go_sem] Oper.semAt_some

theorem two_len (g : Nat) (l : List It) : (two g ++ l).length = l.length + 2 := by unfold two; simp
theorem two_drop (g : Nat) (l : List It) : (two g ++ l).drop 2 = l := by unfold two; rfl
set_option maxRecDepth 100000 in
set_option maxHeartbeats 8000000 in
theorem remarksLaw (a b : Int) (s : ByteArray) (hs : s.size ≤ maxLen) (w : World) (ht : Tab w) :
    Calls Tryz.prog 3 #[.int .i64 a, .int .i64 b, .string s] w fun e w' => e = .returned (.bool true) ∧ Below w.heap.size w w' := by
  have AL := Lib.hid (alive12 w ht)
  unfold maxLen at hs
  by_cases hlong : 3000 < s.size
  · clear ht
    go_enter Tryz.func3, Tryz.ntmps3
    go_wp2_with fail
    refine AL.out.mono ?_
    rintro e w1 ⟨rfl, hb⟩
    go_wp2_with fail
    go_ret
    exact ⟨rfl, hb⟩
  by_cases ha : 1 ≤ a ∧ a ≤ 2147483648
  rotate_left
  · have LA := Lib.hid (fun W => line_not a (by omega) W)
    rw [errV_pos 1 (by omega)] at LA
    by_cases hb : 1 ≤ b ∧ b ≤ 2147483648
    · obtain ⟨g, rfl⟩ : ∃ g : Nat, b = g := ⟨b.toNat, by omega⟩
      have LB := Lib.hid (fun W (hb : Below w.heap.size w W) => line_any g (by omega) (by omega) W (ht.below hb (Nat.le_refl _)))
      clear ht ha hb
      go_enter Tryz.func3, Tryz.ntmps3
      go_wp2_with fail
      refine AL.out.mono ?_
      rintro e w1 ⟨rfl, hb⟩
      go_wp2_with fail
      refine (LA.out _).mono ?_
      rintro e w2 ⟨rfl, rfl⟩
      go_wp2_with fail
      refine (LB.out _ hb).mono ?_
      rintro e w3 ⟨rfl, hb3⟩
      have hb4 := hb.trans (hb3.mono hb.size)
      go_wp2_with fail
      go_ret
      exact ⟨rfl, hb4⟩
    · have LB := Lib.hid (fun W => line_not b (by omega) W)
      rw [errV_pos 1 (by omega)] at LB
      clear ht ha hb
      go_enter Tryz.func3, Tryz.ntmps3
      go_wp2_with fail
      refine AL.out.mono ?_
      rintro e w1 ⟨rfl, hb⟩
      go_wp2_with fail
      refine (LA.out _).mono ?_
      rintro e w2 ⟨rfl, rfl⟩
      go_wp2_with fail
      refine (LB.out _).mono ?_
      rintro e w3 ⟨rfl, rfl⟩
      go_wp2_with fail
      go_ret
      exact ⟨rfl, hb⟩
  obtain ⟨ga, rfl⟩ : ∃ g : Nat, a = g := ⟨a.toNat, by omega⟩
  have LA := Lib.hid (fun W (hb : Below w.heap.size w W) => line_any ga (by omega) (by omega) W (ht.below hb (Nat.le_refl _)))
  by_cases hbb : 1 ≤ b ∧ b ≤ 2147483648
  rotate_left
  · have LB := Lib.hid (fun W => line_not b (by omega) W)
    rw [errV_pos 1 (by omega)] at LB
    clear ht ha hbb
    go_enter Tryz.func3, Tryz.ntmps3
    go_wp2_with fail
    refine AL.out.mono ?_
    rintro e w1 ⟨rfl, hb⟩
    go_wp2_with fail
    refine (LA.out _ hb).mono ?_
    rintro e w2 ⟨rfl, hb2⟩
    have hb3 := hb.trans (hb2.mono hb.size)
    go_wp2_with fail
    refine (LB.out _).mono ?_
    rintro e w3 ⟨rfl, rfl⟩
    go_wp2_with fail
    go_ret
    exact ⟨rfl, hb3⟩
  obtain ⟨gb, rfl⟩ : ∃ g : Nat, b = g := ⟨b.toNat, by omega⟩
  have LB := Lib.hid (fun W (hb : Below w.heap.size w W) => line_any gb (by omega) (by omega) W (ht.below hb (Nat.le_refl _)))
  obtain ⟨q, q1, q2⟩ : ∃ q : Bool, ((B (headL ga)).toList == (B (headL gb)).toList) = q ∧ ((ga : Int) == (gb : Int)) = q := by
    refine ⟨decide (ga = gb), ?_, ?_⟩
    · rw [sameB, decide_eq_decide]
      exact head_inj (by omega) (by omega)
    · rw [Bool.eq_iff_iff]; simp; omega
  have hsx : (B (headL ga)).size ≤ 28 := by rw [B_size]; exact (head_len ga (by omega)).2
  obtain ⟨l, rfl⟩ := of_B s
  have hl : l.length ≤ 3000 := by have := B_size l; omega
  have hxl : (headL ga).length ≤ 28 := (head_len ga (by omega)).2
  have P1 := fun W => parse_any (B l) (by rw [B_size]; omega) W
  have P2 := fun W => parse_any (B (headL ga ++ l)) (by rw [B_size, List.length_append]; omega) W
  rw [B_data] at P1 P2
  have hsz : (B l).size ≤ 3000 := by rw [B_size]; exact hl
  have E : B (headL ga ++ l) = B (headL ga) ++ B l := (B_append _ _).symm
  rw [E] at P2
  have P1 := Lib.hid P1
  have P2 := Lib.hid P2
  cases hp : parseL l with
  | error an =>
    obtain ⟨pa, pn⟩ := an
    have HP := Lib.hid hp
    clear ht ha hbb hp E hl hxl
    generalize B (headL ga) = X at *
    generalize B (headL gb) = Y at *
    generalize B l = Z at *
    cases q
    all_goals
      go_enter Tryz.func3, Tryz.ntmps3
      go_wp2_with fail
      refine AL.out.mono ?_
      rintro e w1 ⟨rfl, hb⟩
      go_wp2_with fail
      refine (LA.out _ hb).mono ?_
      rintro e w2 ⟨rfl, hb2⟩
      have hb3 := hb.trans (hb2.mono hb.size)
      go_wp2_with fail
      refine (LB.out _ hb3).mono ?_
      rintro e w4 ⟨rfl, hb4⟩
      have hb5 := hb3.trans (hb4.mono hb3.size)
      go_wp2_with fail
      refine (P1.out _).mono ?_
      rintro e w6 hP
      obtain ⟨hb6, v, rfl, fq, _, rfl, _⟩ := parsedNo hP HP.out
      have hb7 := hb5.trans (hb6.mono hb5.size)
      go_wp2_with fail
      go_ret
      exact ⟨rfl, hb7⟩
  | ok its =>
    have HP := Lib.hid hp
    have HP2 := Lib.hid (parse_head ga l hp)
    obtain ⟨hj, hln, heach⟩ := parse_join hp
    have hn : its.length ≤ 1000000 := by omega
    have EK := Lib.hid heach
    clear ht ha hbb hp E hxl hj hln heach
    generalize B (headL ga) = X at *
    generalize B (headL gb) = Y at *
    generalize B l = Z at *
    cases q
    all_goals
      go_enter Tryz.func3, Tryz.ntmps3
      go_wp2_with fail
      refine AL.out.mono ?_
      rintro e w1 ⟨rfl, hb⟩
      go_wp2_with fail
      refine (LA.out _ hb).mono ?_
      rintro e w2 ⟨rfl, hb2⟩
      have hb3 := hb.trans (hb2.mono hb.size)
      go_wp2_with fail
      refine (LB.out _ hb3).mono ?_
      rintro e w4 ⟨rfl, hb4⟩
      have hb5 := hb3.trans (hb4.mono hb3.size)
      go_wp2_with fail
      refine (P1.out _).mono ?_
      rintro e w6 hP
      obtain ⟨hb6, v, rfl, i1⟩ := parsedYes hP HP.out
      have hb7 := hb5.trans (hb6.mono hb5.size)
      obtain ⟨A, cap, rfl, hle, _⟩ := id i1
      have I1 := Lib.hid i1
      clear hP i1
      go_wp2_with fail
      refine (P2.out _).mono ?_
      rintro e w8 hP
      obtain ⟨hb8, v, rfl, i2⟩ := parsedYes hP HP2.out
      have hb9 := hb7.trans (hb8.mono hb7.size)
      have i1' := I1.out.below hb8 (Nat.le_refl _)
      have HP := I1
      obtain ⟨b0, off, cap2, fa, fc, rfl, hle2, hbl, c0, _, _, _⟩ := i2.at_ (i := 0) (it := ⟨2, SIGN ++ (Lib.decDigits ga ++ [10]), []⟩) (by unfold two; rfl)
      obtain ⟨_, _, _, _, _, e1, _, _, c1, _, _, _⟩ := i2.at_ (i := 1) (it := ⟨1, [10], []⟩) (by unfold two; rfl)
      cases e1
      have iD := i2.drop 2 (by rw [two_len]; omega)
      rw [two_drop, two_len] at iD
      rw [two_len] at hle2
      have IQ := Lib.hid (items_quiet its _ _ w8 iD i1' hn (fun y hy => by have := (EK.out y hy).1; omega))
      have IQ0 := Lib.hid (fun (h : its.length = 0) => items_quiet its (.slice (some ⟨b0, off, none⟩) its.length 0) _ w8 (by rw [List.eq_nil_of_length_eq_zero h]; exact Its.nil _ _ _) i1' hn (fun y hy => by have := (EK.out y hy).1; omega))
      rw [two_len]
      clear i1' i2 iD hP hb8 hb6 hb4 hb2
      simp only [Nat.zero_mul, Nat.one_mul, Nat.add_zero] at c0 c1
      rw [show its.length + 2 - 2 = its.length by omega, show off + 2 * 3 = off + 6 from rfl] at IQ
      by_cases hcap : cap2 = 2
      · subst hcap
        have h0 : its.length = 0 := by omega
        have IQ4 := IQ0.out h0
        rw [h0] at IQ4
        clear IQ IQ0
        go_wp2_with fail
        refine IQ4.mono ?_
        clear IQ4
        rintro e w10 ⟨rfl, m10, rfl⟩
        go_wp2_with fail
        go_ret
        exact ⟨rfl, drewN_below hb9 _⟩
      · clear IQ0
        go_wp2_with fail
        refine IQ.out.mono ?_
        rintro e w10 ⟨rfl, m10, rfl⟩
        go_wp2_with fail
        go_ret
        exact ⟨rfl, drewN_below hb9 _⟩
theorem remarksCall (a b : Int) (s : ByteArray) (w : World) (_ : (Lit.int .i64 a).wf = true) (_ : (Lit.int .i64 b).wf = true) (hs : s.size ≤ maxLen) (ht : Tab w) :
    Calls Tryz.prog 3 #[.int .i64 a, .int .i64 b, .string s] w fun e w' => e = .returned (.bool true) ∧ Below w.heap.size w w' := remarksLaw a b s hs w ht
end Go.Proofs.YthblpjjocokphaaGreatDoor.Hd
