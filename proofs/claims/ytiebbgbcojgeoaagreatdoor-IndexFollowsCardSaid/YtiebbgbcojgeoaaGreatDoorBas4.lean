/- Texts put together: RF, IK, IL, IN. -/
import Derived.RangeFuncNested
import Derived.RangeFuncBound
import Derived.RangeFuncCalls
import Derived.RangeFuncLeaves
import Derived.Lib.Hide
import Derived.RangeFuncFrom
import Derived.RangeFuncOne
import Derived.OwnWalkIn
import Derived.Maps.AppendAt
import Derived.Shelf.SlIterI.Stops
import Derived.Sort.KeysCollected
import Derived.Test.YtiebbgbcojgeoaaGreatDoorBas3
set_option linter.unusedVariables false
namespace Go.Proofs.YtiebbgbcojgeoaaGreatDoor
open Go.RowKit

/-- The blocks from B on, k of them, lie as they lay. -/
structure Stay (B k : Nat) (W W' : World) : Prop where
  size : W.heap.size ≤ W'.heap.size
  same : ∀ r, B ≤ r → r < B + k → W'.heap[r]? = W.heap[r]?

theorem Stay.refl (B k : Nat) (W : World) : Stay B k W W := ⟨Nat.le_refl _, fun _ _ _ => rfl⟩
theorem Stay.trans {B k : Nat} {X Y Z : World} (h : Stay B k X Y) (g : Stay B k Y Z) : Stay B k X Z :=
  ⟨Nat.le_trans h.size g.size, fun r a b => (g.same r a b).trans (h.same r a b)⟩
theorem Stay.alloc {B k : Nat} {X Y : World} (h : Stay B k X Y) (hs : B + k ≤ Y.heap.size) (o : Obj) : Stay B k X (Y.alloc o) :=
  h.trans ⟨by simp, fun r _ b => Below.heap_alloc _ _ _ (by omega)⟩
theorem Stay.setCell {B k : Nat} {X Y : World} (h : Stay B k X Y) {p : Addr} (hp : p.block < B ∨ B + k ≤ p.block) (u : Value) : Stay B k X (Y.setCell p u) :=
  h.trans ⟨by simp [World.setCell], fun r a b => Below.heap_setCell _ _ _ _ (by omega)⟩
theorem Stay.drew {B k : Nat} {X Y : World} (h : Stay B k X Y) : Stay B k X Y.drew := ⟨h.size, h.same⟩
theorem Stay.sub {B k B' k' : Nat} {X Y : World} (h : Stay B k X Y) (a : B ≤ B') (b : B' + k' ≤ B + k) : Stay B' k' X Y :=
  ⟨h.size, fun r c d => h.same r (by omega) (by omega)⟩
theorem Stay.grown {B k : Nat} {X Y Z : World} (h : Stay B k X Y) {row : Option Nat} (hg : Y.grownBy Z row) (hs : B + k ≤ Y.heap.size) (hr : ∀ r, row = some r → r < B ∨ B + k ≤ r) : Stay B k X Z :=
  h.trans ⟨hg.size, fun r a b => hg.block r (by omega) (fun e => by have := hr r e.symm; omega)⟩
theorem Stay.below {B k n : Nat} {X Y Z : World} (h : Stay B k X Y) (hb : Below n Y Z) (hn : B + k ≤ n) : Stay B k X Z :=
  h.trans ⟨hb.size, fun r _ b => hb.block r (by omega)⟩

/-- Whatever lay lies as it lay, but for the blocks from B on, k of them. -/
structure Turned (B k : Nat) (W W' : World) : Prop where
  os : W'.os = W.os
  tape : W'.tape = W.tape
  output : W'.output = W.output
  size : W.heap.size ≤ W'.heap.size
  same : ∀ r, r < W.heap.size → r < B ∨ B + k ≤ r → W'.heap[r]? = W.heap[r]?

theorem Turned.refl (B k : Nat) (W : World) : Turned B k W W := ⟨rfl, rfl, rfl, Nat.le_refl _, fun _ _ _ => rfl⟩
theorem Turned.trans {B k : Nat} {X Y Z : World} (h : Turned B k X Y) (g : Turned B k Y Z) : Turned B k X Z :=
  ⟨g.os.trans h.os, g.tape.trans h.tape, g.output.trans h.output, Nat.le_trans h.size g.size, fun r a b => (g.same r (Nat.lt_of_lt_of_le a h.size) b).trans (h.same r a b)⟩
theorem Turned.grown {B k : Nat} {X Y Z : World} (h : Turned B k X Y) {row : Option Nat} (hg : Y.grownBy Z row) (hr : ∀ r, row = some r → B ≤ r ∧ r < B + k) : Turned B k X Z :=
  h.trans ⟨hg.os, hg.tape, hg.output, hg.size, fun r a b => hg.block r a (fun e => by have := hr r e.symm; omega)⟩
theorem Turned.alloc {B k : Nat} {X Y : World} (h : Turned B k X Y) (o : Obj) : Turned B k X (Y.alloc o) :=
  h.grown (World.grownBy_alloc Y o none) (fun r e => by cases e)
theorem Turned.putObj {B k : Nat} {X Y : World} (h : Turned B k X Y) {l : Nat} (o : Obj) (a : B ≤ l) (b : l < B + k) : Turned B k X (Y.putObj l o) :=
  h.grown (grownBy_putObj' Y l o) (fun r e => by cases e; exact ⟨a, b⟩)
theorem Turned.setCell {B k : Nat} {X Y : World} (h : Turned B k X Y) {p : Addr} (a : B ≤ p.block) (b : p.block < B + k) (u : Value) : Turned B k X (Y.setCell p u) :=
  h.trans ⟨rfl, rfl, rfl, by simp [World.setCell], fun r _ c => Below.heap_setCell _ _ _ _ (by omega)⟩
theorem Turned.drew {B k : Nat} {X Y : World} (h : Turned B k X Y) : Turned B k X Y.drew := ⟨h.os, h.tape, h.output, h.size, h.same⟩
theorem Turned.sub {B k B' k' : Nat} {X Y : World} (h : Turned B' k' X Y) (a : B ≤ B') (b : B' + k' ≤ B + k) : Turned B k X Y :=
  ⟨h.os, h.tape, h.output, h.size, fun r c d => h.same r c (by omega)⟩
theorem Turned.of_below {B k n : Nat} {X Y : World} (h : Below n X Y) (hn : X.heap.size ≤ n) : Turned B k X Y :=
  ⟨h.os, h.tape, h.output, h.size, fun r a _ => h.block r (by omega)⟩
theorem Turned.below {B k n : Nat} {X Y : World} (h : Turned B k X Y) (hn : n ≤ B) (hs : n ≤ X.heap.size) : Below n X Y :=
  ⟨h.os, h.tape, h.output, h.size, fun r a => h.same r (by omega) (by omega)⟩
theorem Turned.box {B k b : Nat} {X Y : World} {t : TypeId} {v : Value} (h : Turned B k X Y) (hv : Boxed X b t v) (hb : b < B ∨ B + k ≤ b) : Boxed Y b t v :=
  (h.same b (Array.getElem?_eq_some_iff.1 (show X.heap[b]? = _ from hv)).1 hb).trans hv
theorem Turned.row {B k : Nat} {X Y : World} {base : Nat} {e : TypeId} {size : Nat} {v : Value} {n : Nat} {xs : List Value} (h : Turned B k X Y) (hr : X.ownsRow base e size v n xs)
    (hb : ∀ b, v.ownBlock = some b → b < B ∨ B + k ≤ b) : Y.ownsRow base e size v n xs := by
  refine ⟨hr.1, ?_⟩
  rcases hr.2 with hn | ⟨g, cap, cur, rfl, hbase, hg, rest⟩
  · exact .inl hn
  · exact .inr ⟨g, cap, cur, rfl, hbase, (h.same g (Array.getElem?_eq_some_iff.1 hg).1 (hb g rfl)).trans hg, rest⟩

/-- What abides the turns of the blocks from B on, k of them, and whatever is laid. -/
def Abide {β : Type} (B k : Nat) (J : β → World → Prop) : Prop := ∀ s W W', J s W → Turned B k W W' → J s W'

theorem Abide.sub {β : Type} {B k B' k' : Nat} {J : β → World → Prop} (h : Abide B k J) (a : B ≤ B') (b : B' + k' ≤ B + k) : Abide B' k' J :=
  fun s W W' hs ht => h s W W' hs (ht.sub a b)
theorem Abide.alloc {β : Type} {B k : Nat} {J : β → World → Prop} (h : Abide B k J) {s : β} {W : World} (o : Obj) (hs : J s W) : J s (W.alloc o) :=
  h s W _ hs ((Turned.refl _ _ _).alloc o)
theorem Abide.putObj {β : Type} {B k : Nat} {J : β → World → Prop} (h : Abide B k J) {s : β} {W : World} {l : Nat} (o : Obj) (hs : J s W) (a : B ≤ l) (b : l < B + k) : J s (W.putObj l o) :=
  h s W _ hs ((Turned.refl _ _ _).putObj o a b)
theorem Abide.and {β : Type} {B k : Nat} {I J : β → World → Prop} (h : Abide B k I) (g : Abide B k J) : Abide B k (fun s W => I s W ∧ J s W) :=
  fun s W W' hs ht => ⟨h s W W' hs.1 ht, g s W W' hs.2 ht⟩
theorem Abide.pure {β : Type} (B k : Nat) (p : β → Prop) : Abide B k (fun s (_ : World) => p s) := fun _ _ _ hs _ => hs
theorem Abide.below {β : Type} {B k n : Nat} {w : World} (hn : n ≤ w.heap.size) (hB : n ≤ B) : Abide B k (fun (_ : β) W => Below n w W) :=
  fun _ _ _ hs ht => hs.trans (ht.below hB (Nat.le_trans hn hs.size))
/-- A box outside. -/
theorem Abide.box {β : Type} {B k b : Nat} {t : TypeId} (hb : b < B ∨ B + k ≤ b) (f : β → Value) : Abide B k (fun s W => Boxed W b t (f s)) :=
  fun _ _ _ hs ht => ht.box hs hb

/-- THE ITERATOR's CONTRACT: the function g, with what it has captured, hands the xs over, one by one; k boxes of its own. -/
def Hands {α : Type} (P : Program) (g : Nat) (lb : Array Value) (encs : α → Array Value) (k : Nat) (xs : List α) (w : World) : Prop :=
  ∀ (l : Nat) (J Jx : List α → World → Prop) (W : World), Below w.heap.size w W → Abide W.heap.size k J →
    (∀ pre x post W1, xs = pre ++ x :: post → W.heap.size + k ≤ W1.heap.size → J pre W1 → YieldAt Fence.wide 7 P l (encs x) W1 fun e W' =>
      (e = .returned (.bool true) ∧ J (pre ++ [x]) W' ∧ Stay W.heap.size k W1 W') ∨ (e = .returned (.bool false) ∧ Jx (pre ++ [x]) W')) →
    J [] W →
    CallsIn Fence.wide 8 P g (#[.func (.yield l) #[] #[]] ++ lb) W fun e W' => (∃ v, e = .returned v) ∧ (J xs W' ∨ ∃ pre, pre <+: xs ∧ Jx pre W')

/-- How the body of a round may be left. -/
def left {α : Type} (B k : Nat) (I : List α → World → Prop) (Ix : Code → List α → World → Prop) (xs : List α) (W : World) : Exit → Act → World → Prop
  | .normal, _, W' => Stay B k W W' ∧ I xs W'
  | .ret, _, W' => Stay B k W W' ∧ Ix .ret xs W'
  | .exit id, _, W' => Stay B k W W' ∧ Ix (.exit id) xs W'
  | .goto t, _, W' => Stay B k W W' ∧ Ix (.goto t) xs W'
  | .panic _, _, _ => False
  | .outgrown, _, _ => False

/-- What is to be shown behind the assignment to the loop's left sides. -/
def assigned (B k : Nat) (M : Act → World → Prop) (W : World) : Exit → Act → World → Prop :=
  Exit.then (fun a' W' => Stay B k W W' ∧ M a' W') (fun _ _ _ => False)

variable {P : Program}

theorem wp_ranged {α : Type} {g : Operand} {ps : Array Tmp} {assign body : Code} {Q : Exit → Act → World → Prop} {a : Act} {w : World}
    {gf : Nat} {lb : Array Value} (hg : a.eval g = .func (.func gf) #[] lb) (eg : ∀ args w, (callFunc gf args).run P w = .ok (.enter gf args) w)
    {encs : α → Array Value} {k : Nat} {xs : List α} (hseq : Hands P gf lb encs k xs w) (hps : ∀ x, (encs x).size = ps.size)
    (I : List α → World → Prop) (Ix : Code → List α → World → Prop) (hI : Abide w.heap.size (k + 2) I) (hIx : ∀ c, Abide w.heap.size 2 (Ix c)) (h0 : I [] w)
    (M : List α → α → Act → World → Prop) (hM : ∀ pre x a', Abide w.heap.size 2 (fun (_ : Unit) W => M pre x a' W))
    (hassign : ∀ (l : Nat) (pre : List α) (x : α) (post : List α) (W : World), xs = pre ++ x :: post → w.heap.size + (k + 2) ≤ W.heap.size → I pre W →
      assign.wpIn (Fence.wide.inRound l) 7 P (assigned w.heap.size (k + 2) (M pre x) W) { tmps := (ps.zip (encs x)).foldl (fun t (p, v) => t.setIfInBounds p v) a.tmps, defers := [] } W)
    (hbody : ∀ (l : Nat) (pre : List α) (x : α) (post : List α) (a' : Act) (W : World), xs = pre ++ x :: post → w.heap.size + (k + 2) ≤ W.heap.size → M pre x a' W →
      body.wpIn (Fence.wide.inRound l) 7 P (left w.heap.size (k + 2) I Ix (pre ++ [x]) W) a' W)
    (hdone : ∀ (W : World), I xs W → W.heap[w.heap.size]? = some (.deferred (some [])) → Q .normal { a with defers := { target := .collected w.heap.size, args := #[] } :: a.defers } W)
    (hstop : ∀ (c : Code) (pre : List α) (W : World), pre <+: xs → Ix c pre W → W.heap[w.heap.size]? = some (.deferred (some [])) → c.wpIn Fence.wide 9 P Q { a with defers := { target := .collected w.heap.size, args := #[] } :: a.defers } W) :
    (Code.rangeFunc g ps assign body).wpIn Fence.wide 9 P Q a w := by
  refine wpIn_rangeFunc fun fn _ => ?_
  show ∃ l mark w₁ d w₁' f args w₂, (Instr.enterLoop fn a.tmps ps assign body none).run P w = .ok (l, mark) w₁ ∧ _
  obtain ⟨rec, hrec⟩ : ∃ rec : LoopState → Option Code → Loop, rec = fun st pe => { state := st, pending := pe, fn, tmps := a.tmps, params := ps, assign, body, defers := w.heap.size } := ⟨_, rfl⟩
  obtain ⟨W1, hW1⟩ : ∃ W1, (w.alloc (.deferred (some []))).alloc (.loop (rec .ready none)) = W1 := ⟨_, rfl⟩
  have hz1 : W1.heap.size = w.heap.size + 2 := by rw [← hW1]; simp
  have hL1 : W1.heap[w.heap.size + 1]? = some (.loop (rec .ready none)) := by
    rw [← hW1]; have := World.alloc_heap_new (w.alloc (.deferred (some []))) (.loop (rec .ready none)); rwa [World.size_alloc] at this
  have hK1 : W1.heap[w.heap.size]? = some (.deferred (some [])) := by
    rw [← hW1]; exact (Below.heap_alloc _ _ _ (by simp)).trans (World.alloc_heap_new w _)
  have hI1 : I [] W1 := by rw [← hW1]; exact hI.alloc _ (hI.alloc _ h0)
  have hb1 : Below w.heap.size w W1 := by rw [← hW1]; exact ((Below.refl _ w).alloc (Nat.le_refl _) _).alloc (by simp) _
  -- a turn of one of the iterator's own boxes leaves the two blocks of the statement as they were
  have two : ∀ {A B : World}, Turned W1.heap.size k A B → ∀ q o, q < w.heap.size + 2 → A.heap[q]? = some o → B.heap[q]? = some o :=
    fun ht q o hq ho => (ht.same q (Array.getElem?_eq_some_iff.1 ho).1 (by omega)).trans ho
  refine ⟨w.heap.size + 1, [{ target := .collected w.heap.size, args := #[] }], W1, { target := .fn (.func gf) lb, args := #[.func (.yield (w.heap.size + 1)) #[] #[]] }, W1, gf,
    #[.func (.yield (w.heap.size + 1)) #[] #[]] ++ lb, W1, ?_, ?_, fun _ _ => trivial, ?_, (fun h => by cases h), ?_⟩
  · rw [← hW1, hrec]; exact run_enterLoop_outer _ _ _ _ _
  · simp only [resolve, hg]
    simp [go_sem]
  · simp [invoke, go_sem, eg]
  refine (hseq (w.heap.size + 1)
    (fun pre W => I pre W ∧ W.heap[w.heap.size + 1]? = some (.loop (rec .ready none)) ∧ W.heap[w.heap.size]? = some (.deferred (some [])))
    (fun pre W => ∃ c, Ix c pre W ∧ W.heap[w.heap.size + 1]? = some (.loop (rec .done (some c))) ∧ W.heap[w.heap.size]? = some (.deferred (some [])))
    W1 hb1
    (fun s A B hs ht => ⟨hI s A B hs.1 (ht.sub (by omega) (by omega)), two ht _ _ (by omega) hs.2.1, two ht _ _ (by omega) hs.2.2⟩)
    ?_ ⟨hI1, hL1, hK1⟩).mono ?_
  · -- one round
    rintro pre x post W hx hsz ⟨hi, hl, hk⟩
    rw [hz1] at hsz
    have hy := run_yield (P := P) (args := encs x) hl (by rw [hrec]; exact hps x)
    rw [hrec] at hy
    refine ⟨fn, _, assign, body, hy, roundIn_of_wpIn trivial (wpIn_mono (hassign _ pre x post W hx (by omega) hi) ?_)⟩
    intro e a' Wa hp
    cases e with
    | normal =>
      obtain ⟨hs1, hm⟩ := hp
      have hla := (hs1.same (w.heap.size + 1) (by omega) (by omega)).trans hl
      have hka := (hs1.same w.heap.size (by omega) (by omega)).trans hk
      have hlt := (Array.getElem?_eq_some_iff.1 hla).1
      refine ⟨_, run_beginRound hla (by rw [hrec]), ?_⟩
      have hl2 : (Wa.putObj (w.heap.size + 1) (.loop { rec .ready none with state := .busy })).heap[w.heap.size + 1]? = some (.loop { rec .ready none with state := .busy }) := World.putObj_heap_same hlt
      have hk2 : (Wa.putObj (w.heap.size + 1) (.loop { rec .ready none with state := .busy })).heap[w.heap.size]? = some (.deferred (some [])) := (World.putObj_heap_other (by omega)).trans hka
      have hn2 : ∀ r, w.heap.size + 2 ≤ r → (Wa.putObj (w.heap.size + 1) (.loop { rec .ready none with state := .busy })).heap[r]? = Wa.heap[r]? := fun r hr => World.putObj_heap_other (by omega)
      have hz2 : ∀ o, (Wa.putObj (w.heap.size + 1) o).heap.size = Wa.heap.size := fun o => by simp
      have hm2 := (hM pre x a').putObj (s := ()) (.loop { rec .ready none with state := .busy }) hm (l := w.heap.size + 1) (by omega) (by omega)
      have hsa := hs1.size
      refine wpIn_mono (hbody _ pre x post a' _ hx (by rw [hz2]; omega) hm2) ?_
      have fin : ∀ (jump : Option Code) (W3 : World), Stay w.heap.size (k + 2) (Wa.putObj (w.heap.size + 1) (.loop { rec .ready none with state := .busy })) W3 →
          (Instr.endRound (w.heap.size + 1) jump).run P W3 = .ok (.bool jump.isNone) (W3.putObj (w.heap.size + 1) (.loop (rec (if jump.isNone then .ready else .done) jump))) ∧
          (W3.putObj (w.heap.size + 1) (.loop (rec (if jump.isNone then .ready else .done) jump))).heap[w.heap.size + 1]? = some (.loop (rec (if jump.isNone then .ready else .done) jump)) ∧
          (W3.putObj (w.heap.size + 1) (.loop (rec (if jump.isNone then .ready else .done) jump))).heap[w.heap.size]? = some (.deferred (some [])) := fun jump W3 hs3 => by
        have hl3 := (hs3.same (w.heap.size + 1) (by omega) (by omega)).trans hl2
        have hk3 := (hs3.same w.heap.size (by omega) (by omega)).trans hk2
        have := run_endRound (P := P) jump hl3
        rw [hrec] at this ⊢
        exact ⟨this, World.putObj_heap_same (Array.getElem?_eq_some_iff.1 hl3).1, (World.putObj_heap_other (by omega)).trans hk3⟩
      intro e a3 W3 hp
      cases e with
      | normal =>
        obtain ⟨hs3, hi3⟩ := hp
        obtain ⟨hr, hl4, hk4⟩ := fin none W3 hs3
        refine ⟨_, _, hr, .inl ⟨rfl, ⟨hI.putObj _ hi3 (by omega) (by omega), hl4, hk4⟩, ?_⟩⟩
        have hsz3 := hs3.size
        refine ⟨by simp only [World.putObj, Array.size_setIfInBounds] at hsz3 ⊢; omega, fun r a b => ?_⟩
        rw [hz1] at a b
        rw [World.putObj_heap_other (by omega), hs3.same r (by omega) (by omega), hn2 r a, hs1.same r (by omega) (by omega)]
      | ret =>
        obtain ⟨hs3, hi3⟩ := hp
        obtain ⟨hr, hl4, hk4⟩ := fin (some .ret) W3 hs3
        exact ⟨_, _, hr, .inr ⟨rfl, .ret, (hIx _).putObj _ hi3 (by omega) (by omega), hl4, hk4⟩⟩
      | exit id =>
        obtain ⟨hs3, hi3⟩ := hp
        obtain ⟨hr, hl4, hk4⟩ := fin (some (.exit id)) W3 hs3
        exact ⟨_, _, hr, .inr ⟨rfl, .exit id, (hIx _).putObj _ hi3 (by omega) (by omega), hl4, hk4⟩⟩
      | goto t =>
        obtain ⟨hs3, hi3⟩ := hp
        obtain ⟨hr, hl4, hk4⟩ := fin (some (.goto t)) W3 hs3
        exact ⟨_, _, hr, .inr ⟨rfl, .goto t, (hIx _).putObj _ hi3 (by omega) (by omega), hl4, hk4⟩⟩
      | panic ch => exact hp.elim
      | outgrown => exact hp.elim
    | ret => exact hp.elim
    | exit id => exact hp.elim
    | goto t => exact hp.elim
    | panic ch => exact hp.elim
    | outgrown => exact hp.elim
  · -- behind the iterator
    rintro e W2 ⟨⟨v, rfl⟩, (⟨hi, hl, hk⟩ | ⟨pre, hpre, c, hi, hl, hk⟩)⟩
    · exact ⟨none, _, by have := run_endLoop (P := P) hl (by rw [hrec]; simp); rw [hrec] at this; exact this, hdone _ (hI.putObj _ hi (by omega) (by omega)) ((World.putObj_heap_other (by omega)).trans hk)⟩
    · exact ⟨some c, _, by have := run_endLoop (P := P) hl (by rw [hrec]; simp); rw [hrec] at this; exact this, hstop c pre _ hpre ((hIx c).putObj _ hi (by omega) (by omega)) ((World.putObj_heap_other (by omega)).trans hk)⟩
end Go.Proofs.YtiebbgbcojgeoaaGreatDoor

namespace Go.Proofs.YtiebbgbcojgeoaaGreatDoor
open Go.RowKit Go.Maps Go.Sort Go.Shelf
attribute [local go_sem] Oper.semAt_some

/-- append of one value in a round, and where the new row lies. -/
theorem wpListIn_append_at {F : Fence} {n : Nat} {P : Program} (w : World) {ops : Array Oper} {rest : List Oper} {o : Oper} {a : Act} {Q : Exit → Act → World → Prop}
    (hg : o.guard = none) (s x : Operand) (t : TypeId) (hop : o.op = Op.call { callee := Callee.builtin Builtin.append, args := #[s, x], argTypes := #[t, t] })
    (base : Nat) (e : TypeId) (i : TypeInfo) (z : Value) (size bytes : Nat) (h1 : P.underlying t = some (.slice e)) (h2 : P.info? e = some i) (h3 : i.zero = some z) (h4 : i.size = size) (h5 : i.bytes = bytes) (h6 : z.cells.size = size) (h7 : 0 < size)
    (v : Value) (k : Nat) (xs : List Value) (hs : a.eval s = v) (hown : w.ownsRow base e size v k xs) (ad : Addr) (m c : Nat) (news : List Value) (hx : a.eval x = .slice (some ad) m c) (hn : news.length = m * size)
    (hc : ∀ j u, news[j]? = some u → w.cell? (ad.add j) = some u) (h1c : ∀ u ∈ news, u.oneCell' = true) (b1 : k + m ≤ maxLen) (b2 : (k + m) * bytes ≤ 140737488355328) (b3 : base ≤ w.heap.size)
    (hK : ∀ v' w', w'.ownsRow base e size v' (k + m) (xs ++ news) → w.grownBy w' v.ownBlock → Hid (v'.ownBlock = v.ownBlock ∨ v'.ownBlock = some w.heap.size) → wpListIn F n P ops Q rest (a.put o.dst v') w') :
    wpListIn F n P ops Q (o :: rest) a w := by
  refine wpListIn_plain hg fun K hK' => ?_
  obtain ⟨v', w', hrun, r1, r2, _, r3⟩ := run_append_own_at (P := P) w base t o.type e i z size bytes h1 h2 h3 h4 h5 h6 h7 v k xs hown ad m c news hn hc h1c b1 b2 b3
  unfold Oper.wpIn
  refine ⟨?_, ?_⟩
  · simp [Oper.about, hop, resolve, Target.leads, Sem.run_pure]
  · rw [Oper.semAt_plain F _ _ (by rw [hop]; intro c hc'; cases hc')]
    simp [execOp, hop, resolve, invoke, builtin, hs, hx, hrun, Result.andThen]
    exact hK' _ _ (hK v' w' r1 r2 r3)
theorem row_sliceZ {w : World} {base : Nat} {e : TypeId} {size : Nat} {v : Value} {n : Nat} {xs : List Value} (h : w.ownsRow base e size v n xs) : ∃ a cap, v = .slice a n cap ∧ n ≤ cap := by
  rcases h.2 with ⟨rfl, rfl⟩ | ⟨g, cap, cur, rfl, _, _, hle, _⟩
  · exact ⟨none, 0, rfl, Nat.le_refl _⟩
  · exact ⟨_, cap, rfl, hle⟩
theorem row_belowZ {w w' : World} {base N : Nat} {e : TypeId} {size : Nat} {v : Value} {n : Nat} {xs : List Value} (h : w.ownsRow base e size v n xs) (hb : Below N w w') (hN : w.heap.size ≤ N) : w'.ownsRow base e size v n xs :=
  row_only (S := fun _ => False) h (Only.of_below hb hN) (fun _ _ h => h)
/-- What has come so far, in the box of block B: onto xs. -/
def ApI (lo B : Nat) (w : World) (v : Value) (xs pre : List Int) (W : World) : Prop :=
  ∃ u, Boxed W B 88 u ∧ W.ownsRow lo 3 1 u (xs ++ pre).length ((xs ++ pre).map encZ) ∧ (∀ r, u.ownBlock = some r → v.ownBlock = some r ∨ B < r) ∧ Only (fun r => v.ownBlock = some r) w W
theorem row_cells {W : World} {base : Nat} {e : TypeId} {size n r : Nat} {u : Value} {xs : List Value} (h : W.ownsRow base e size u n xs) (hr : u.ownBlock = some r) : ∃ cur, W.heap[r]? = some (.cells cur e (0, 0)) := by
  rcases h.2 with ⟨rfl, _⟩ | ⟨g, cap, cur, rfl, _, hg, _⟩
  · cases hr
  · have : g = r := Option.some.inj hr
    subst this; exact ⟨_, hg⟩
theorem row_grown {W W' : World} {base : Nat} {e : TypeId} {size n : Nat} {u : Value} {xs : List Value} {row : Option Nat} (h : W.ownsRow base e size u n xs) (hg : W.grownBy W' row) (hne : ∀ r, row = some r → u.ownBlock ≠ some r) : W'.ownsRow base e size u n xs :=
  row_only (S := fun r => row = some r) h ((Only.refl _ W).grown hg (fun _ hk => .inl hk)) (fun b hb q => hne b q hb)
theorem tInt_ne : 88 ≠ 3 := by decide
theorem ap_own (lo : Nat) (w : World) (v : Value) (xs : List Int) (B : Nat) (hB : w.heap.size + 1 ≤ B) : OwnFrom B (ApI lo w.heap.size w v xs) := by
  intro pre W W' row ⟨u, h1, h2, h3, h4⟩ hg hr
  refine ⟨u, h1.kept hg (fun e => ?_), row_grown h2 hg (fun r e hu => ?_), h3, h4.grown hg (fun k hk => .inr (by have := (hr k hk).1; omega))⟩
  · have := (hr _ e.symm).1; omega
  · obtain ⟨_, o, ho, hc⟩ := hr r e
    obtain ⟨cur, hcur⟩ := row_cells h2 hu
    rw [ho] at hcur
    cases hcur
    cases hc
theorem infoIntZ : (Tryz.prog.info? 3).map (fun i => (i.zero, i.size, i.bytes)) = some (some (.int .i64 0), 1, 8) := by kernel_rfl
set_option maxRecDepth 100000 in
set_option maxHeartbeats 4000000 in
theorem appendSeq_any (lo : Nat) (v : Value) (xs : List Int) (w : World) (hv : w.ownsRow lo 3 1 v xs.length (xs.map encZ)) (hlo : lo ≤ w.heap.size) (Bm b n : Nat) {R : Value → Option (DataW Unit × List MemPlace)} (D : DataW Unit) (hBm : Bm < w.heap.size) (hm : w.cell? ⟨Bm, 0, none⟩ = some (.map (some b)))
    (hown : w.ownsMap Tryz.prog 3 R b n D) (hlen : xs.length + Maps.size D ≤ 10000000000000) :
    Calls Tryz.prog 121 #[v, .func (.func 125) #[] #[.pointer (some ⟨Bm, 0, none⟩)]] w fun e w' => ∃ u ss, e = .returned u ∧ ss.Perm (intKeys D) ∧ w'.ownsRow lo 3 1 u (xs ++ ss).length ((xs ++ ss).map encZ) ∧ Only (fun r => v.ownBlock = some r) w w' := by
  have hseq := AnyZI.keys_stops (ρ := Tryz.keysH_ren) { Tryz.keysH with } Fence.wide 8 trivial rfl (by omega) Bm b n D w hBm hm hown
  obtain ⟨va, vc, rfl, hvc⟩ := row_sliceZ hv
  have hV := Lib.hid hv
  have HS := Lib.hid hseq
  clear hv hseq hown hm
  refine callsIn_wide (n := 9).1 ?_
  refine callsIn_of_wp_marks Tryz.func121 rfl trivial ?_ rfl
  simp only [Tryz.ntmps121, List.size_toArray, List.length_cons, List.length_nil, Nat.reduceAdd, Nat.reduceSub, Array.replicate_succ, Array.replicate_zero, List.push_toArray, List.append_toArray, List.nil_append, List.cons_append]
  gi_wp2_with fail
  obtain ⟨w1, hw1⟩ : ∃ w1, w1 = w.alloc (.cells #[.slice va xs.length vc] 88) := ⟨_, rfl⟩
  have hz : w1.heap.size = w.heap.size + 1 := by rw [hw1]; simp
  have B0 : Boxed w1 w.heap.size 88 (.slice va xs.length vc) := by rw [hw1]; exact Boxed.new w _ _
  have hb1 : Below w.heap.size w w1 := by rw [hw1]; exact (Below.refl _ w).alloc (Nat.le_refl _) _
  have r1 : w1.ownsRow lo 3 1 (.slice va xs.length vc) xs.length (xs.map encZ) := row_belowZ hV.out hb1 (Nat.le_refl _)
  rw [← hw1]
  clear hw1
  refine wpIn_rangeFunc_ownF (w := w1) rfl (by decide) rfl trivial (enters_of Tryz.func125 (by kernel_rfl) rfl) (encs := fun x : Int => #[encZ x]) (Kp := KeepsWalks) (w0 := w) HS.out walksK_t walksK_b hb1 (fun _ => rfl)
    (ApI lo w.heap.size w (.slice va xs.length vc) xs) (fun _ _ _ => False) (by rw [hz]; exact ap_own lo w _ xs _ (Nat.le_refl _)) (fun _ _ _ _ _ hs _ _ => hs)
    ⟨_, B0, by simpa using r1, fun r hr => .inl hr, Only.of_below hb1 (Nat.le_refl _)⟩
    (fun x => { tmps := #[.slice va xs.length vc, .func (.func 125) #[] #[.pointer (some ⟨Bm, 0, none⟩)], .pointer (some ⟨w.heap.size, 0, none⟩), undef, .slice none 0 0, encZ x, .func (.func 125) #[] #[.pointer (some ⟨Bm, 0, none⟩)], encZ x, undef, undef, undef, undef, undef], defers := [] }) ?assign ?body ?done ?stop
  case assign =>
    intro l x W K hK
    gi_wp2
    exact hK
  case body =>
    rintro l pre x W ⟨u, h1, h2, h3, h4⟩ hpre
    obtain ⟨i0, hi, hz0, hz1, hz2⟩ := info_parts infoIntZ
    obtain ⟨ys, hys⟩ : ∃ ys, ys = xs ++ pre := ⟨_, rfl⟩
    have hxl : ys.length ≤ 10000000000000 := by rw [hys, List.length_append]; omega
    rw [← hys] at h2
    have HY := Lib.hid hys
    clear hys
    obtain ⟨ua, uc, rfl, huc⟩ := row_sliceZ h2
    have c1 := h1.cell
    have HB := Lib.hid h1
    have H4 := Lib.hid h4
    have hsw := h4.size
    have hbx := h1.lt
    have r2 := row_belowZ h2 ((Below.refl W.heap.size W).alloc (Nat.le_refl _) (.cells #[.int .i64 x] 3)) (Nat.le_refl _)
    have H2 := Lib.hid h2
    have hne : (Value.slice ua ys.length uc).ownBlock ≠ some w.heap.size := fun e => by
      obtain ⟨cur, hc⟩ := row_cells h2 e
      have := (show W.heap[w.heap.size]? = _ from h1).symm.trans hc
      injection this with this
      injection this with _ this _
      exact tInt_ne this
    have HNE := Lib.hid hne
    have H3 := Lib.hid h3
    clear h1 h4 h2 hne h3
    gi_wp2_with (first
      | (gi_at_builtin; refine wpListIn_append_at _ rfl _ _ 88 rfl lo 3 i0 (.int .i64 0) 1 8 Tryz.underlying88 hi hz0 hz1 hz2 rfl (by decide) _ _ _ rfl r2 ⟨W.heap.size, 0, none⟩ 1 1 [.int .i64 x] rfl rfl (cell_one_new _ _ _) (by simp [Value.oneCell']) (by unfold maxLen; omega) (by omega) (by simp; omega) ?_; intro v' w3 hown3 hg3 hbk
         have hb3 : Boxed w3 w.heap.size 88 (.slice ua ys.length uc) := (HB.out.alloc _).kept hg3 (fun e => HNE.out e.symm)
         have hc3 := hb3.cell
         have hf3 := hb3.frozen
         obtain ⟨g', cap', rfl⟩ := ownsRow_succ hown3
         have HB3 := Lib.hid hb3
         have HG3 := Lib.hid hg3
         have HO3 := Lib.hid hown3
         clear hb3 hg3 hown3))
    have hg : (W.alloc (.cells #[.int .i64 x] 3)).grownBy w3 (Value.slice ua ys.length uc).ownBlock := HG3.out
    have hrw : ∀ j o, (Value.slice ua ys.length uc).ownBlock = some j → (W.alloc (.cells #[.int .i64 x] 3)).heap[j]? = some o → o.isCells = true := fun j o e ho => by
      obtain ⟨cur, hc⟩ := row_cells r2 e
      rw [ho] at hc
      cases hc
      rfl
    have hko : KeepsOthers W (w3.setCell ⟨w.heap.size, 0, none⟩ (.slice (some ⟨g', 0, none⟩) (ys.length + 1) cap')) := ((KeepsOthers.alloc W _).trans (KeepsOthers.of_grownBy hg hrw)).trans (KeepsOthers.setCell _ _ _)
    have hwx : (W.alloc (.cells #[.int .i64 x] 3)).heap.size = W.heap.size + 1 := by simp
    have hgb : (Value.slice ua ys.length uc).ownBlock = some g' ∨ g' = W.heap.size + 1 := by
      rcases hbk.out with e | e
      · exact .inl e.symm
      · refine .inr ?_
        have e' : some g' = some (W.alloc (.cells #[.int .i64 x] 3)).heap.size := e
        rw [hwx] at e'
        exact Option.some.inj e'
    have hgne : g' ≠ w.heap.size := fun e => by
      subst e
      rcases hgb with e | e
      · exact HNE.out e
      · omega
    have hrow := row_only (S := (· = w.heap.size)) HO3.out ((Only.refl (· = w.heap.size) w3).cellS 0 (.slice (some ⟨g', 0, none⟩) (ys.length + 1) cap')) (fun b hb e => hgne (by have q : g' = b := Option.some.inj hb; omega))
    have hon : Only (fun r => (Value.slice ua ys.length uc).ownBlock = some r ∨ r = w.heap.size) W (w3.setCell ⟨w.heap.size, 0, none⟩ (.slice (some ⟨g', 0, none⟩) (ys.length + 1) cap')) :=
      (((Only.refl _ W).alloc _).grown hg (fun k hk => .inl (.inl hk))).setCell (p := ⟨w.heap.size, 0, none⟩) (.inl (.inr rfl)) _
    have e1 : xs ++ (pre ++ [x]) = ys ++ [x] := by rw [HY.out, List.append_assoc]
    refine ⟨hko, hko.walks, _, Boxed.set _ HB3.out, ?_, ?_, H4.out.trans hon ?_⟩
    · rw [e1]
      have : (ys ++ [x]).map encZ = ys.map encZ ++ [.int .i64 x] := by rw [List.map_append]; rfl
      rw [this, List.length_append]
      exact hrow
    · intro r hr
      have q : g' = r := Option.some.inj hr
      subst q
      rcases hgb with e | e
      · exact H3.out _ e
      · exact .inr (by omega)
    · rintro r hr (e | e)
      · rcases H3.out r e with q | q
        · exact q
        · omega
      · omega
  case done =>
    rintro D' ss W hD ⟨hperm, _⟩ ⟨u, h1, h2, h3, h4⟩ hK
    rw [hz] at hD
    obtain ⟨ys, hys⟩ : ∃ ys, ys = xs ++ ss := ⟨_, rfl⟩
    rw [← hys] at h2
    have HY := Lib.hid hys
    clear hys
    obtain ⟨ua, uc, rfl, huc⟩ := row_sliceZ h2
    have c := h1.cell
    have H2 := Lib.hid h2
    have H4 := Lib.hid h4
    have HD := Lib.hid hD
    clear h2 h3 h4 hD
    gi_wp2
    refine ⟨by simp, .inl ⟨_, _, rfl, run_takeDeferred hK, ?_⟩⟩
    have pb := grownBy_putObj' W D' (.deferred none)
    have hr5 := row_grown H2.out pb (fun r e hu => by
      cases e
      obtain ⟨cur, hc⟩ := row_cells H2.out hu
      rw [hK] at hc
      cases hc)
    exact ⟨_, results_tmp rfl _ _ _, .slice ua ys.length uc, ss, rfl, hperm, by rw [← HY.out]; exact hr5, H4.out.grown pb (fun k e => .inr (by cases e; have := HD.out; omega))⟩
  case stop =>
    intro D c pre W _ _ h _
    exact h.elim
end Go.Proofs.YtiebbgbcojgeoaaGreatDoor

namespace Go.Proofs.YtiebbgbcojgeoaaGreatDoor
open Go.RowKit Go.Maps

/-- How many of the fields have a key and a value. -/
def cntF (k v : List UInt8) (fs : List (List UInt8 × List UInt8)) : Nat := fs.countP fun f => f.1 == k && f.2 == v
theorem addFs_eq (id : Int) : ∀ (fs : List (List UInt8 × List UInt8)) (F : List UInt8 → List UInt8 → Int → Nat) (k v : List UInt8) (i : Int), addFs id F fs k v i = F k v i + if i = id then cntF k v fs else 0
  | [], F, k, v, i => by
    show F k v i = _
    unfold cntF; simp
  | f :: r, F, k, v, i => by
    have ih := addFs_eq id r (fun k => if k = f.1 then upF (F k) f.2 id else F k) k v i
    have e : addFs id F (f :: r) k v i = addFs id (fun k => if k = f.1 then upF (F k) f.2 id else F k) r k v i := rfl
    rw [e, ih]
    unfold cntF
    rw [List.countP_cons]
    by_cases hi : i = id
    · rw [if_pos hi, if_pos hi]
      by_cases hk : k = f.1
      · rw [if_pos hk]
        by_cases hv : v = f.2
        · subst hk hv hi; simp [upF]; omega
        · have : (f.1 == k && f.2 == v) = false := by simp [Ne.symm hv]
          simp only [upF]
          rw [if_neg (fun e => hv e.1), this]; simp
      · have : (f.1 == k && f.2 == v) = false := by simp [Ne.symm hk]
        rw [if_neg hk, this]; simp
    · rw [if_neg hi, if_neg hi]
      by_cases hk : k = f.1
      · rw [if_pos hk]; simp only [upF]; rw [if_neg (fun e => hi e.2)]
      · rw [if_neg hk]
/-- A stanza: its number, its fields. -/
abbrev Sz := Int × List (List UInt8 × List UInt8)
def idsOf (rs : List Sz) (i : Int) : Bool := rs.any fun s => s.1 == i
def fOf : List Sz → List UInt8 → List UInt8 → Int → Nat
  | [], _, _, _ => 0
  | s :: r, k, v, i => (if i = s.1 then cntF k v s.2 else 0) + fOf r k v i
theorem fOf_append : ∀ (a b : List Sz) (k v : List UInt8) (i : Int), fOf (a ++ b) k v i = fOf a k v i + fOf b k v i
  | [], b, k, v, i => by simp [fOf]
  | s :: a, b, k, v, i => by
    have := fOf_append a b k v i
    simp only [List.cons_append, fOf, this]; omega
theorem idsOf_append (a b : List Sz) (i : Int) : idsOf (a ++ b) i = (idsOf a i || idsOf b i) := by unfold idsOf; rw [List.any_append]
theorem idsOf_cons (s : Sz) (b : List Sz) (i : Int) : idsOf (s :: b) i = (s.1 == i || idsOf b i) := rfl
theorem idsOf_iff (rs : List Sz) (i : Int) : idsOf rs i = true ↔ i ∈ rs.map Prod.fst := by
  unfold idsOf
  rw [List.any_eq_true, List.mem_map]
  constructor
  · rintro ⟨s, h, e⟩; exact ⟨s, h, by simpa using e⟩
  · rintro ⟨s, h, e⟩; exact ⟨s, h, by simpa using e⟩
theorem fOf_out : ∀ (rs : List Sz) (k v : List UInt8) (i : Int), idsOf rs i = false → fOf rs k v i = 0
  | [], _, _, _, _ => rfl
  | s :: r, k, v, i, h => by
    rw [idsOf_cons] at h
    simp only [Bool.or_eq_false_iff, beq_eq_false_iff_ne, ne_eq] at h
    rw [fOf, if_neg (fun e => h.1 e.symm), fOf_out r k v i h.2]
/-- A stanza that isn't known is taken in. -/
theorem fOf_put (a b : List Sz) (id : Int) (fs : List (List UInt8 × List UInt8)) : addFs id (fOf (a ++ b)) fs = fOf (a ++ (id, fs) :: b) := by
  funext k v i
  rw [addFs_eq, fOf_append, fOf_append, fOf]; dsimp only; omega
theorem idsOf_put (a b : List Sz) (id : Int) (fs : List (List UInt8 × List UInt8)) : (fun i => if i = id then true else idsOf (a ++ b) i) = idsOf (a ++ (id, fs) :: b) := by
  funext i
  rw [idsOf_append, idsOf_append, idsOf_cons]
  by_cases h : i = id
  · rw [if_pos h]; simp [h]
  · rw [if_neg h]
    have : ((id, fs).1 == i) = false := by simpa using Ne.symm h
    rw [this, Bool.false_or]
theorem fOf_snoc (a : List Sz) (id : Int) (fs : List (List UInt8 × List UInt8)) : addFs id (fOf a) fs = fOf (a ++ [(id, fs)]) := by
  have := fOf_put a [] id fs
  rwa [List.append_nil] at this
theorem idsOf_snoc (a : List Sz) (id : Int) (fs : List (List UInt8 × List UInt8)) : (fun i => if i = id then true else idsOf a i) = idsOf (a ++ [(id, fs)]) := by
  have := idsOf_put a [] id fs
  rwa [List.append_nil] at this
/-- A stanza is forgotten. -/
def outF (id : Int) (F : List UInt8 → List UInt8 → Int → Nat) : List UInt8 → List UInt8 → Int → Nat := fun k v i => if i = id then 0 else F k v i
def outI (id : Int) (ids : Int → Bool) : Int → Bool := fun i => if i = id then false else ids i
theorem nodup_mid {a b : List Sz} {s : Sz} (h : ((a ++ s :: b).map Prod.fst).Nodup) : idsOf (a ++ b) s.1 = false := by
  rw [Bool.eq_false_iff]
  intro e
  rw [idsOf_iff] at e
  rw [List.map_append, List.map_cons] at h
  rw [List.map_append] at e
  have := (List.perm_middle (a := s.1) (l₁ := a.map Prod.fst) (l₂ := b.map Prod.fst)).nodup_iff.1 h
  exact (List.nodup_cons.1 this).1 e
theorem fOf_drop (a b : List Sz) (s : Sz) (h : idsOf (a ++ b) s.1 = false) : outF s.1 (fOf (a ++ s :: b)) = fOf (a ++ b) := by
  funext k v i
  unfold outF
  by_cases e : i = s.1
  · rw [if_pos e]; subst e; exact (fOf_out _ k v _ h).symm
  · rw [if_neg e, fOf_append, fOf_append, fOf, if_neg e]; omega
theorem idsOf_drop (a b : List Sz) (s : Sz) (h : idsOf (a ++ b) s.1 = false) : outI s.1 (idsOf (a ++ s :: b)) = idsOf (a ++ b) := by
  funext i
  unfold outI
  by_cases e : i = s.1
  · rw [if_pos e]; subst e; exact h.symm
  · rw [if_neg e, idsOf_append, idsOf_append, idsOf_cons]
    have : (s.1 == i) = false := by simpa using Ne.symm e
    rw [this, Bool.false_or]
theorem outF_none (id : Int) (F : List UInt8 → List UInt8 → Int → Nat) (h : ∀ k v, F k v id = 0) : outF id F = F := by
  funext k v i; unfold outF; split
  · rename_i e; subst e; exact (h k v).symm
  · rfl
theorem outI_none (id : Int) (ids : Int → Bool) (h : ids id = false) : outI id ids = ids := by
  funext i; unfold outI; split
  · rename_i e; subst e; exact h.symm
  · rfl
theorem cntF_le (k v : List UInt8) (fs : List (List UInt8 × List UInt8)) : cntF k v fs ≤ fs.length := List.countP_le_length
/-- The sum over numbers that are all different. -/
theorem sum_pick (n : Nat) (j : Int) : ∀ ss : List Int, ss.Nodup → (ss.map fun i => if i = j then n else 0).sum ≤ n
  | [], _ => Nat.zero_le _
  | i :: r, h => by
    have ih := sum_pick n j r (List.nodup_cons.1 h).2
    rw [List.map_cons, List.sum_cons]
    by_cases e : i = j
    · rw [if_pos e]
      have : (r.map fun i => if i = j then n else 0).sum = 0 := by
        have hn : j ∉ r := by rw [← e]; exact (List.nodup_cons.1 h).1
        clear ih h
        induction r with
        | nil => rfl
        | cons a r ih =>
          rw [List.map_cons, List.sum_cons, if_neg (fun q => hn (by rw [q]; exact List.mem_cons_self)), ih (fun q => hn (List.mem_cons_of_mem _ q))]
      omega
    · rw [if_neg e]; omega
/-- How many fields there are, all in all. -/
def numF (rs : List Sz) : Nat := (rs.map fun s => s.2.length).sum
theorem sum_add (f g : Int → Nat) : ∀ ss : List Int, (ss.map fun i => f i + g i).sum = (ss.map f).sum + (ss.map g).sum
  | [] => rfl
  | i :: r => by rw [List.map_cons, List.map_cons, List.map_cons, List.sum_cons, List.sum_cons, List.sum_cons, sum_add f g r]; omega
theorem fOf_sum (k v : List UInt8) : ∀ (rs : List Sz) (ss : List Int), ss.Nodup → (ss.map (fOf rs k v)).sum ≤ numF rs
  | [], ss, _ => by
    have : (ss.map (fOf [] k v)).sum = 0 := by
      induction ss with
      | nil => rfl
      | cons a r ih => rw [List.map_cons, List.sum_cons, ih (by rename_i h; exact (List.nodup_cons.1 h).2)]; rfl
    rw [this]; exact Nat.zero_le _
  | s :: r, ss, h => by
    have ih := fOf_sum k v r ss h
    have e : ss.map (fOf (s :: r) k v) = ss.map fun i => (if i = s.1 then cntF k v s.2 else 0) + fOf r k v i := rfl
    rw [e, sum_add (fun i => if i = s.1 then cntF k v s.2 else 0) (fOf r k v) ss]
    have h1 := sum_pick (cntF k v s.2) s.1 ss h
    have h2 := cntF_le k v s.2
    unfold numF at ih ⊢
    rw [List.map_cons, List.sum_cons]; omega
theorem fOf_pos {k v : List UInt8} {i : Int} : ∀ {rs : List Sz}, 0 < fOf rs k v i → ∃ s ∈ rs, s.1 = i ∧ (k, v) ∈ s.2
  | [], h => by cases h
  | s :: r, h => by
    rw [fOf] at h
    by_cases e : i = s.1
    · by_cases hc : 0 < cntF k v s.2
      · obtain ⟨f, hf, hq⟩ := List.countP_pos_iff.1 hc
        simp only [Bool.and_eq_true, beq_iff_eq] at hq
        exact ⟨s, List.mem_cons_self, e.symm, by rw [← hq.1, ← hq.2]; exact hf⟩
      · rw [if_pos e] at h
        obtain ⟨s', h1, h2⟩ := fOf_pos (k := k) (v := v) (i := i) (rs := r) (by omega)
        exact ⟨s', List.mem_cons_of_mem _ h1, h2⟩
    · rw [if_neg e] at h
      obtain ⟨s', h1, h2⟩ := fOf_pos (k := k) (v := v) (i := i) (rs := r) (by omega)
      exact ⟨s', List.mem_cons_of_mem _ h1, h2⟩
theorem fOf_of {k v : List UInt8} {rs : List Sz} {s : Sz} (hs : s ∈ rs) (hf : (k, v) ∈ s.2) : 0 < fOf rs k v s.1 := by
  induction rs with
  | nil => cases hs
  | cons a r ih =>
    rw [fOf]
    rcases List.mem_cons.1 hs with rfl | hs
    · have : 0 < cntF k v s.2 := List.countP_pos_iff.2 ⟨(k, v), hf, by simp⟩
      rw [if_pos rfl]; omega
    · have := ih hs; omega
end Go.Proofs.YtiebbgbcojgeoaaGreatDoor

namespace Go.Proofs.YtiebbgbcojgeoaaGreatDoor
open Go.RowKit Go.Maps Go.Sort

/-- What a map of maps reads as. -/
def ReadsR (D : DataW Unit) (f : List UInt8 → Option Nat) : Prop := (∀ k, has D (.string k) = (f k).isSome) ∧ ∀ k c, f k = some c → ∀ z, D.atKey (.string k) z = .lit (.int .i64 (c : Int))
theorem RefM.reads {w : World} {b n : Nat} {f : List UInt8 → Option Nat} (h : RefM w b n f) : ∃ D : DataW Unit, w.ownsMap Tryz.prog 9 refElem b n D ∧ ReadsR D f := h
theorem ReadsR.ref {w : World} {b n : Nat} {D : DataW Unit} {f : List UInt8 → Option Nat} (h : ReadsR D f) (ho : w.ownsMap Tryz.prog 9 refElem b n D) : RefM w b n f := ⟨D, ho, h.1, h.2⟩
theorem ReadsR.del {D : DataW Unit} {f : List UInt8 → Option Nat} (h : ReadsR D f) (s : List UInt8) : ReadsR (D.del (.string s)) (fun k => if k = s then none else f k) := by
  refine ⟨fun k => ?_, fun k d hk z => ?_⟩
  · dsimp only
    by_cases q : k = s
    · subst q
      rw [Maps.has_del_same, if_pos rfl]; rfl
    · rw [Maps.has_del_other (fun e => q (by injection e)), if_neg q, h.1]
  · dsimp only at hk
    by_cases q : k = s
    · rw [if_pos q] at hk; cases hk
    · rw [if_neg q] at hk
      rw [Maps.atKey_del_other (fun e => q (by injection e))]
      exact h.2 k d hk z
theorem ReadsR.elem {D : DataW Unit} {f : List UInt8 → Option Nat} (h : ReadsR D f) {s : List UInt8} {o : Option Nat} {y : DataW Unit × List MemPlace} (hv : refElem (.map o) = some y) (hat : ∀ z, D.atKey (.string s) z = y.1) : ∃ c, o = some c ∧ f s = some c := by
  have hh := has_true_of_atKey hat
  rw [h.1] at hh
  obtain ⟨c, hc⟩ := Option.isSome_iff_exists.1 hh
  have h2 := (hat (.lit (.int .i64 0))).symm.trans (h.2 s c hc (.lit (.int .i64 0)))
  obtain ⟨y1, y2⟩ := y
  dsimp only at h2
  subst h2
  have := refElem_some hv
  injection this with this
  exact ⟨c, this, hc⟩
/-- How many keys a map of maps has. -/
theorem RefM.len {w : World} {b n : Nat} {f : List UInt8 → Option Nat} (h : RefM w b n f) {t e : TypeId} (ht : Tryz.prog.underlying t = some (.map 9 e)) :
    ∃ m : Nat, (∀ ty, (Builtin.len_ #[t] ty #[.map (some b)]).run Tryz.prog w = .ok (.int .i64 (m : Nat)) w) ∧ (m = 0 ↔ ∀ k, f k = none) := by
  obtain ⟨D, ho, h1, _⟩ := h
  refine ⟨Maps.size D, fun ty => ho.len ht ty, ?_⟩
  obtain ⟨es, rfl, _, hk⟩ := ho.entries keyS
  rw [size_eq]
  constructor
  · intro h0 k
    have : es = [] := List.eq_nil_of_length_eq_zero h0
    subst this
    have := h1 k
    cases hf : f k with
    | none => rfl
    | some c => rw [hf] at this; cases this
  · intro h0
    cases es with
    | nil => rfl
    | cons p r =>
      obtain ⟨es', hD', hko⟩ := ho.keysOf
      obtain rfl : p :: r = es' := by simpa using hD'
      obtain ⟨v, hv⟩ := hko p List.mem_cons_self
      obtain ⟨x, _, hx, _⟩ := Maps.keyOf_str Tryz.underlying9 hv
      have := h1 x
      rw [h0 x, has_eq, List.any_cons, hx] at this
      simp [Lit.sameKey] at this
theorem CntM.len {w : World} {b n : Nat} {f : Int → Nat} (h : CntM w b n f) {t e : TypeId} (ht : Tryz.prog.underlying t = some (.map 3 e)) :
    ∃ m : Nat, (∀ ty, (Builtin.len_ #[t] ty #[.map (some b)]).run Tryz.prog w = .ok (.int .i64 (m : Nat)) w) ∧ (m = 0 ↔ ∀ i, f i = 0) := by
  obtain ⟨D, ho, h1, _⟩ := h
  refine ⟨Maps.size D, fun ty => ho.len ht ty, ?_⟩
  obtain ⟨es, rfl, _, hk⟩ := ho.entries keyI
  rw [size_eq]
  constructor
  · intro h0 k
    have : es = [] := List.eq_nil_of_length_eq_zero h0
    subst this
    have := h1 k
    by_cases hf : 0 < f k
    · have := this.2 hf; cases this
    · omega
  · intro h0
    cases es with
    | nil => rfl
    | cons p r =>
      obtain ⟨es', hD', hko⟩ := ho.keysOf
      obtain rfl : p :: r = es' := by simpa using hD'
      obtain ⟨v, hv⟩ := hko p List.mem_cons_self
      obtain ⟨x, _, hx, _⟩ := Maps.keyOf_i64 Tryz.underlying3 hv
      have := (h1 x).1 (by rw [has_eq, List.any_cons, hx]; simp [Lit.sameKey])
      rw [h0 x] at this; omega
section
variable (w : World) {ops : Array Oper} {rest : List Oper} {o : Oper} {a : Act} {Q : Exit → Act → World → Prop}
set_option maxRecDepth 100000 in
/-- A step of a range over a map of maps. -/
theorem wpList_next_sr (hg : o.guard = none) (it : Operand) (hop : o.op = Op.next it false) (b r n : Nat) (D : DataW Unit) (left : Lit → Bool) (cnt : Nat)
    (hit : a.eval it = .pointer (some ⟨r, 0, none⟩)) (h : w.ranges Tryz.prog 9 refElem b r n D left cnt) {f : List UInt8 → Option Nat} (hr : ReadsR D f)
    (hDone : cnt = 0 → (∀ kl, left kl = false) → wpList Tryz.prog ops Q rest (a.put o.dst (.tuple #[.bool false])) w)
    (hMore : ∀ (s : List UInt8) (c : Nat) (w' : World) (cnt' : Nat), s.length ≤ maxLen → left (.string s) = true → f s = some c → w'.ranges Tryz.prog 9 refElem b r n D (fun z => left z && !z.sameKey (.string s)) cnt' → cnt' < cnt →
      w.grownBy w' (some r) → w'.heap.size = w.heap.size → (Instr.entry (.pointer (some ⟨r, 0, none⟩))).run Tryz.prog w' = .ok (.tuple #[.string (B s), .map (some c)]) w' → wpList Tryz.prog ops Q rest (a.put o.dst (.tuple #[.bool true, .string (B s), .map (some c)])) w') :
    wpList Tryz.prog ops Q (o :: rest) a w :=
  wpList_next_ranges w hg it hop 9 keyS refElem (fun s : List UInt8 => .string (B s)) Value.map (fun key kl hkey => by obtain ⟨x, rfl, _⟩ := Maps.keyOf_str Tryz.underlying9 hkey; exact ⟨x, rfl⟩) (fun v y hv => refElem_inv hv)
    b r n D left cnt hit h hDone (fun x c kl y w' cnt' hkey hlk hv hat hrg hlt hgr hsz hen => by
      obtain ⟨x', ex, rfl, hx⟩ := Maps.keyOf_str Tryz.underlying9 hkey
      have e2 : x = x' := by
        have e3 : Value.string (B x) = Value.string (B x') := ex
        have e3 := Value.string.inj e3
        have := congrArg (fun b : ByteArray => b.data.toList) e3
        simpa [B_data] using this
      subst e2
      obtain ⟨c', rfl, hc⟩ := hr.elem hv hat
      exact hMore x c' w' cnt' hx hlk hc hrg hlt hgr hsz hen)
/-- delete of a holder. -/
theorem wpList_delete_cnt (hg : o.guard = none) (m x : Operand) (t e : TypeId) (hop : o.op = Op.call { callee := Callee.builtin Builtin.delete, args := #[m, x], argTypes := #[t, 3] })
    (ht : Tryz.prog.underlying t = some (.map 3 3)) (c n : Nat) (f : Int → Nat) (id : Int) (hw : (Lit.int .i64 id).wf = true) (hm : a.eval m = .map (some c)) (hx : a.eval x = .int .i64 id) (h : CntM w c n f)
    (hK : ∀ w', CntM w' c n (fun k => if k = id then 0 else f k) → Only (· = c) w w' → w'.heap.size = w.heap.size → wpList Tryz.prog ops Q rest (a.put o.dst (.tuple #[])) w') :
    wpList Tryz.prog ops Q (o :: rest) a w := by
  refine wpList_plain hg fun K' hK' => ?_
  obtain ⟨w', hrun, r1, r2, r3⟩ := h.drop ht id hw o.type
  unfold Oper.wp
  simp [execOp, hop, resolve, invoke, builtin, hm, hx, hrun, Result.andThen]
  exact hK' _ _ (hK w' r1 r2 r3)
end
def outV (id : Int) (f : List UInt8 → Int → Nat) : List UInt8 → Int → Nat := fun v i => if i = id then 0 else f v i
theorem HoldAt.size {w : World} {T : Nat → Tag} {lo n : Nat} {k v : List UInt8} {c : Nat} {f : Int → Nat} (h : HoldAt w T lo k v n (some c) f) : c < w.heap.size := h.2.2.1.lt
theorem strike {left : Lit → Bool} {s v : List UInt8} : (fun z : Lit => left z && !z.sameKey (.string s)) (.string v) = (left (.string v) && !decide (v = s)) := by
  show (left (.string v) && !(Lit.string v).sameKey (.string s)) = _
  congr 2
  by_cases h : v = s
  · subst h; simp [Lit.sameKey]
  · simp [Lit.sameKey, h]
set_option maxRecDepth 100000 in
set_option maxHeartbeats 4000000 in
theorem vdrop_any {w : World} {T : Nat → Tag} {lo b n : Nat} {k : List UInt8} {f : List UInt8 → Int → Nat} (h : ValAt w T lo k b n f) (hT : ∀ c, w.heap.size ≤ c → T c = (0, [], [])) (id : Int) (hw : (Lit.int .i64 id).wf = true) :
    Calls Tryz.prog 81 #[.map (some b), .int .i64 id] w fun e w' => e = .returned (.tuple #[]) ∧ ValAt w' T lo k b n (outV id f) ∧ Only (OfKey T k) w w' := by
  obtain ⟨h1, h2, g, h3, h4⟩ := h
  obtain ⟨D, hown, hrd⟩ := h3.reads
  have HR := Lib.hid hrd
  have H4 := Lib.hid h4
  have hTr : Hid (∀ c, OfKey T k c → c < w.heap.size) := fun c hc => by
    by_cases q : c < w.heap.size
    · exact q
    · have h9 := hc.idx; rw [hT c (by omega)] at h9; rcases h9 with h9 | h9 <;> cases h9
  have H1 := Lib.hid h1
  have hbl := hown.lt
  clear h4 hrd h3 h1
  go_enter Tryz.func81, Tryz.ntmps81
  go_wp2_with (at_range; refine wpList_range_own _ rfl _ 157 rfl 9 164 keyS Tryz.underlying157 _ b n _ rfl hown ?_; intro w0 hrg0 hg0 hs0)
  go_frame
  go_loopw [8] (fun _ wr => ∃ (left : Lit → Bool) (cnt : Nat) (D' : DataW Unit) (g' : List UInt8 → Option Nat), wr.ranges Tryz.prog 9 refElem b w.heap.size n D' left cnt ∧ ReadsR D' g' ∧
      (∀ v, (left (.string v) = true ∧ g' v = g v ∧ HoldAt wr T lo k v n (g v) (f v)) ∨ (left (.string v) = false ∧ HoldAt wr T lo k v n (g' v) (outV id f v))) ∧ Only (OfKey T k) w wr) (fun _ wr => wr.rangeLeft b w.heap.size)
  case atStart =>
    have o0 : Only (OfKey T k) w w0 := (Only.refl _ w).grown hg0 (fun k hk => by cases hk)
    refine ⟨_, _, D, g, hrg0, HR.out, fun v => ?_, o0⟩
    have hv := H4.out v
    have o1 : Only (fun _ => False) w w0 := (Only.refl _ w).grown hg0 (fun k hk => by cases hk)
    cases hh : has D (.string v) with
    | true => exact .inl ⟨rfl, rfl, hv.turn o1 (fun _ _ => rfl) (fun _ _ h => h)⟩
    | false =>
      have : g v = none := by
        have := HR.out.1 v
        rw [hh] at this
        cases hg : g v with
        | none => rfl
        | some c => rw [hg] at this; cases this
      rw [this] at hv ⊢
      exact .inr ⟨rfl, fun i => by unfold outV; split; rfl; exact hv i⟩
  case round =>
    obtain ⟨left, cnt, D', g', hrg, hrd, hall, ho⟩ := hrel
    have HO := Lib.hid ho
    have HA := Lib.hid hall
    have HD := Lib.hid hrd
    clear ho hall
    go_wp2_with (at_next; refine wpList_next_sr _ rfl _ rfl b w.heap.size n _ _ _ rfl hrg hrd ?_ ?_)
    · intro _ hl0
      have HL := Lib.hid hl0
      clear hl0
      go_wp2_with fail
      go_end0
      refine ⟨rfl, ⟨H1.out, h2, g', HD.out.ref hrg.owns, fun v => ?_⟩, HO.out⟩
      rcases HA.out v with ⟨e, _⟩ | ⟨_, e⟩
      · rw [HL.out] at e; cases e
      · exact e
    · intro s c w1 cnt1 hs hl hgs hrg1 hlt hg1 hs1 hen
      have hsv : g s = some c ∧ HoldAt wr T lo k s n (some c) (f s) := by
        rcases HA.out s with ⟨_, e1, e2⟩ | ⟨e, _⟩
        · rw [← e1] at e2; rw [hgs] at e1 e2; exact ⟨e1.symm, e2⟩
        · rw [hl] at e; cases e
      obtain ⟨hgs0, t1, t2, t3, t4⟩ := hsv
      have o1 : Only (· = w.heap.size) wr w1 := (Only.refl _ wr).grown hg1 (fun k hk => by cases hk; exact .inl rfl)
      have cne : c ≠ w.heap.size := fun e => by have := hTr.out c (.inr ⟨s, t1⟩); omega
      have t3 := t3.only o1 cne
      have HC := Lib.hid (And.intro t1 (And.intro t2 t4))
      have HO1 := Lib.hid o1
      have HS := Lib.hid (And.intro hl (And.intro hgs hgs0))
      clear t1 t2 t4 o1 hl hgs hgs0 hs1
      go_wp2_with (at_delete; refine wpList_delete_cnt _ rfl _ _ 164 3 rfl Tryz.underlying164 c n (f s) id hw rfl rfl t3 ?_; intro w2 hc2 ho2 hz2)
      obtain ⟨m, hlen, hm⟩ := hc2.len Tryz.underlying164
      have hbc : b ≠ c := fun e => by subst e; have h5 := H1.out; rw [HC.out.1] at h5; injection h5 with h5; omega
      have hrg2 : w2.ranges Tryz.prog 9 refElem b w.heap.size n D' (fun z => left z && !z.sameKey (.string s)) cnt1 := by
        obtain ⟨es, clock, since, seen, c0, q1, F, hs, hD, q2, rest⟩ := hrg1
        have l1 := (Array.getElem?_eq_some_iff.1 q1).1
        have l2 := (Array.getElem?_eq_some_iff.1 q2).1
        exact ⟨es, clock, since, seen, c0, (ho2.same b l1 hbc).trans q1, F, hs, hD, (ho2.same _ l2 (Ne.symm cne)).trans q2, rest⟩
      have HW2 := Lib.hid (And.intro hc2 ho2)
      have HM := Lib.hid hm
      clear hc2 ho2 hm
      -- what holds of the others behind a round
      have OTH : Hid (∀ w3, Only (· = b) w2 w3 → (∀ v, v ≠ s → (left (.string v) = true ∧ g' v = g v ∧ HoldAt w3 T lo k v n (g v) (f v)) ∨ (left (.string v) = false ∧ HoldAt w3 T lo k v n (g' v) (outV id f v))) ∧ Only (OfKey T k) w w3) := fun w3 o3 => by
        have tr : ∀ v, v ≠ s → ∀ q ff, HoldAt wr T lo k v n q ff → HoldAt w3 T lo k v n q ff := fun v hv q ff hh => by
          have a1 := hh.turn HO1.out (fun _ _ => rfl) (fun c hc e => by subst e; have := hTr.out _ (.inr ⟨v, hc⟩); omega)
          have a2 := a1.turn HW2.out.2 (fun _ _ => rfl) (fun d hd e => by subst e; have h5 := HC.out.1; rw [hd] at h5; injection h5 with _ h5; injection h5 with _ h5; exact hv h5)
          exact a2.turn o3 (fun _ _ => rfl) (fun d hd e => by subst e; have h5 := H1.out; rw [hd] at h5; injection h5 with h5; omega)
        refine ⟨fun v hv => ?_, ((HO.out.trans HO1.out (fun r hr e => by omega)).trans HW2.out.2 (fun r hr e => by subst e; exact .inr ⟨s, HC.out.1⟩)).trans o3 (fun r hr e => by subst e; exact .inl H1.out)⟩
        rcases HA.out v with ⟨e1, e2, e3⟩ | ⟨e1, e2⟩
        · exact .inl ⟨e1, e2, tr v hv _ _ e3⟩
        · exact .inr ⟨e1, tr v hv _ _ e2⟩
      have STK : Hid (∀ v, (fun z : Lit => left z && !z.sameKey (.string s)) (.string v) = (left (.string v) && !decide (v = s))) := fun v => strike
      by_cases hz : m = 0
      · subst hz
        go_wp2_with (at_delete; refine wpList_delete_ranges _ rfl _ _ 157 9 rfl 164 keyS Tryz.underlying157 refElem b w.heap.size n _ _ _ rfl hrg2 _ (.string s) rfl (Go.WideMaps.keyOf_string_mk Tryz.underlying9 (s := B s) (by rw [B_size]; exact hs)) ?_; intro w3 cnt3 hrg3 hle hturn; go_frame)
        rw [strike_twice] at hrg3
        have o3 : Only (· = b) w2 w3 := (Only.refl _ w2).grown hturn.grown (fun j hj => by cases hj; exact .inl rfl)
        obtain ⟨p1, p2⟩ := OTH.out w3 o3
        go_roundw
        case rel =>
          refine ⟨_, cnt3, _, _, hrg3, HD.out.del s, fun v => ?_, p2⟩
          rw [STK.out v]
          by_cases hv : v = s
          · subst hv
            rw [if_pos rfl]
            refine .inr ⟨by simp, fun i => ?_⟩
            have := HM.out.1 (by first | exact rfl | trivial) i
            unfold outV; exact this
          · rw [if_neg hv]
            have := p1 v hv
            simpa [hv] using this
        case measure => rw [hrg3.left_eq, hrg.left_eq]; omega
      · obtain ⟨m, rfl⟩ : ∃ q, m = q + 1 := ⟨m - 1, by omega⟩
        go_wp2_with fail
        obtain ⟨p1, p2⟩ := OTH.out w2 (Only.refl _ _)
        go_roundw
        case rel =>
          refine ⟨_, cnt1, _, _, hrg2, HD.out, fun v => ?_, p2⟩
          rw [STK.out v]
          by_cases hv : v = s
          · subst hv
            refine .inr ⟨by simp, ?_⟩
            rw [HS.out.2.1]
            refine ⟨HC.out.1, HC.out.2.1, HW2.out.1, ?_⟩
            have := fun e => hz (HM.out.2 e)
            exact Classical.byContradiction fun hn => this fun i => by
              have : ¬ 0 < (if i = id then 0 else f v i) := fun e => hn ⟨i, e⟩
              omega
          · have := p1 v hv
            simpa [hv] using this
        case measure => rw [hrg2.left_eq, hrg.left_eq]; exact hlt
end Go.Proofs.YtiebbgbcojgeoaaGreatDoor

