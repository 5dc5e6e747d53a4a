/- Texts put together: WA, RF, OB, WB, WC, WD, RH. -/
import Derived.Test.YtbkeoiefolkjfaaGreatDoorChecked
import Derived.WalkKit
import Derived.ShutString
import Derived.Lib.Hide
import Derived.BigCall
import Derived.RegionTactic
import Derived.ChangeAlike
import Derived.Deep.QuietTactic
import Derived.BigQuiet
import Derived.Outline
import Derived.IntWalk
import Derived.RangeFuncNested
import Derived.RangeFuncBound
import Derived.RangeFuncCalls
import Derived.RangeFuncLeaves
import Derived.Test.YtbkeoiefolkjfaaGreatDoorProg
import Derived.Maps.Own
import Derived.Maps.OwnSet
import Derived.Maps.AppendAt
import Derived.Below
import Derived.Deep.Quiet
import Derived.Deep.WholeRow
import Derived.Deep.RegionWith
import Derived.Deep.AppendLies
import Derived.Deep.RegionHeld3
import Derived.Deep.DeepCutAuto
import Derived.Shelf.Abstract
import Derived.Shelf.RegionOpen
import Derived.OwnWalkIn
import Derived.TacticsInMore
import Derived.LoopNIn
import Derived.LoopIn
import Derived.Test.YtbkeoiefolkjfaaGreatDoorBxa1
import Derived.Test.YtbkeoiefolkjfaaGreatDoorBxa3
set_option linter.unusedVariables false
set_option maxRecDepth 100000
set_option maxHeartbeats 16000000
namespace Go.Proofs.YtbkeoiefolkjfaaGreatDoor
open Go.RowKit
theorem indexByte_cases (l : List UInt8) (c : UInt8) : (Lib.indexByte l c = -1 /\ c ∉ l) \/ (Lib.indexByte l c = ((l.takeWhile (· != c)).length : Int) /\ c ∈ l) := by
 induction l with
 | nil => left; exact ⟨rfl, by simp⟩
 | cons a t ih =>
 unfold Lib.indexByte
 by_cases h : a = c
 ·subst h; right; simp
 have hb : (a == c) = false := by simp [h]
 rcases ih with ⟨h1, h2⟩ | ⟨h1, h2⟩
 ·left; rw [h1]; simp [h, h2, Ne.symm h]
 right; rw [h1]; simp [h, h2]
theorem cut0_no (s : ByteArray) (c : UInt8) (w : World) (h : c ∉ s.data.toList) :
  Calls Tryz.prog 107 #[.string s, .string ⟨#[c]⟩] w fun e w' => e = .returned (.tuple #[.string s, .string ⟨#[]⟩, .bool false]) /\ ∃ n, w' = w.drewN n := by
 have e0 : Lib.indexByte s.data.toList c = -1 := by
  rcases indexByte_cases s.data.toList c with ⟨a, _⟩ | ⟨_, a⟩
  ·exact a
  exact absurd a h
 go_enter Tryz.func107, Tryz.ntmps107
 go_wp2_with (go_at_call 141; refine (Tryz.stringslite_Index_one s c _).mono ?_; rw [e0]; rintro e w' ⟨rfl, rfl⟩)
 go_ret3
 exact ⟨rfl, 0, rfl⟩
theorem cut0_yes (s : ByteArray) (c : UInt8) (w : World) (hs : s.size <= maxLen) (h : c ∈ s.data.toList) :
  Calls Tryz.prog 107 #[.string s, .string ⟨#[c]⟩] w fun e w' => e = .returned (.tuple #[.string (s.extract 0 (s.data.toList.takeWhile (· != c)).length), .string (s.extract ((s.data.toList.takeWhile (· != c)).length + 1) s.size), .bool true]) /\ ∃ n, w' = w.drewN n := by
 have e0 : Lib.indexByte s.data.toList c = ((s.data.toList.takeWhile (· != c)).length : Int) := by
  rcases indexByte_cases s.data.toList c with ⟨_, a⟩ | ⟨a, _⟩
  ·exact absurd h a
  exact a
 have hlt : (s.data.toList.takeWhile (· != c)).length < s.size := by
  rw [Lib.size_eq]
  rcases Nat.lt_or_ge (s.data.toList.takeWhile (· != c)).length s.data.toList.length with h1 | h1
  ·exact h1
  exfalso
  have h2 : s.data.toList.takeWhile (· != c) = s.data.toList := List.IsPrefix.eq_of_length_le (List.takeWhile_prefix _) h1
  have h3 := List.all_eq_true.1 (List.all_takeWhile (p := fun (x : UInt8) => x != c) (l := s.data.toList)) c (by rw [h2]; exact h)
  simp at h3
 unfold maxLen at hs
 generalize (s.data.toList.takeWhile (· != c)).length = i at *
 have h1 : IntKind.i64.wrap ((i : Int) + 1) = (i : Int) + 1 := IntWalk.i64_in _ (by omega)
 go_enter Tryz.func107, Tryz.ntmps107
 go_wp2_with (go_at_call 141; refine (Tryz.stringslite_Index_one s c _).mono ?_; rw [e0]; rintro e w' ⟨rfl, rfl⟩)
 go_quiet (fail)
 go_wp2
 go_ret3
 exact ⟨rfl, _, rfl⟩
theorem cut_no (s : ByteArray) (c : UInt8) (w : World) (h : c ∉ s.data.toList) :
  Calls Tryz.prog 56 #[.string s, .string ⟨#[c]⟩] w fun e w' => e = .returned (.tuple #[.string s, .string ⟨#[]⟩, .bool false]) /\ ∃ n, w' = w.drewN n := by
 go_enter Tryz.func56, Tryz.ntmps56
 go_wp2_with (go_at_call 107; refine (cut0_no s c _ h).mono ?_; rintro e w' ⟨rfl, n, rfl⟩)
 go_ret3
 exact ⟨rfl, _, rfl⟩
theorem cut_yes (s : ByteArray) (c : UInt8) (w : World) (hs : s.size <= maxLen) (h : c ∈ s.data.toList) :
  Calls Tryz.prog 56 #[.string s, .string ⟨#[c]⟩] w fun e w' => e = .returned (.tuple #[.string (s.extract 0 (s.data.toList.takeWhile (· != c)).length), .string (s.extract ((s.data.toList.takeWhile (· != c)).length + 1) s.size), .bool true]) /\ ∃ n, w' = w.drewN n := by
 go_enter Tryz.func56, Tryz.ntmps56
 go_wp2_with (go_at_call 107; refine (cut0_yes s c _ hs h).mono ?_; rintro e w' ⟨rfl, n, rfl⟩)
 go_ret3
 exact ⟨rfl, _, rfl⟩
def lineV (x : Ln) : Array Value := #[.int .i64 x.no, .int .i64 x.at_, .string ⟨x.text.toArray⟩, .bool x.ended]
def endS (b : Bool) : ByteArray := if b then ⟨#[10]⟩ else ⟨#[]⟩
theorem end_any (a b : Int) (t : ByteArray) (x : Bool) (w : World) :
  Calls Tryz.prog 125 #[.agg #[.int .i64 a, .int .i64 b, .string t, .bool x]] w fun e w' => e = .returned (.string (endS x)) /\ w' = w.alloc (.cells #[.int .i64 a, .int .i64 b, .string t, .bool x] 99) := by
 cases x
 all_goals
  go_enter Tryz.func125, Tryz.ntmps125
  go_wp2
  go_ret
  exact ⟨rfl, rfl⟩
end Go.Proofs.YtbkeoiefolkjfaaGreatDoor
namespace Go.Proofs.YtbkeoiefolkjfaaGreatDoor
open Go.RowKit
structure Stay (B k : Nat) (W W' : World) : Prop where
 size : W.heap.size <= W'.heap.size
 same : ∀ r, B <= r -> r < B + k -> W'.heap[r]? = W.heap[r]?
theorem Stay.refl (B k : Nat) (W : World) : Stay B k W W := ⟨Nat.le_refl _, fun _ _ _ => rfl⟩
theorem Stay.trans {B k : Nat} {X Y Z : World} (h : Stay B k X Y) (g : Stay B k Y Z) : Stay B k X Z :=
 ⟨Nat.le_trans h.size g.size, fun r a b => (g.same r a b).trans (h.same r a b)⟩
theorem Stay.alloc {B k : Nat} {X Y : World} (h : Stay B k X Y) (hs : B + k <= Y.heap.size) (o : Obj) : Stay B k X (Y.alloc o) :=
 h.trans ⟨by simp, fun r _ b => Below.heap_alloc _ _ _ (by omega)⟩
theorem Stay.setCell {B k : Nat} {X Y : World} (h : Stay B k X Y) {p : Addr} (hp : p.block < B \/ B + k <= p.block) (u : Value) : Stay B k X (Y.setCell p u) :=
 h.trans ⟨by simp [World.setCell], fun r a b => Below.heap_setCell _ _ _ _ (by omega)⟩
theorem Stay.grown {B k : Nat} {X Y Z : World} (h : Stay B k X Y) {row : Option Nat} (hg : Y.grownBy Z row) (hs : B + k <= Y.heap.size) (hr : ∀ r, row = some r -> r < B \/ B + k <= r) : Stay B k X Z :=
 h.trans ⟨hg.size, fun r a b => hg.block r (by omega) (fun e => by have := hr r e.symm; omega)⟩
theorem Stay.below {B k n : Nat} {X Y Z : World} (h : Stay B k X Y) (hb : Below n Y Z) (hn : B + k <= n) : Stay B k X Z :=
 h.trans ⟨hb.size, fun r _ b => hb.block r (by omega)⟩
structure Turned (B k : Nat) (W W' : World) : Prop where
 os : W'.os = W.os
 tape : W'.tape = W.tape
 output : W'.output = W.output
 size : W.heap.size <= W'.heap.size
 same : ∀ r, r < W.heap.size -> r < B \/ B + k <= r -> W'.heap[r]? = W.heap[r]?
theorem Turned.refl (B k : Nat) (W : World) : Turned B k W W := ⟨rfl, rfl, rfl, Nat.le_refl _, fun _ _ _ => rfl⟩
theorem Turned.trans {B k : Nat} {X Y Z : World} (h : Turned B k X Y) (g : Turned B k Y Z) : Turned B k X Z :=
 ⟨g.os.trans h.os, g.tape.trans h.tape, g.output.trans h.output, Nat.le_trans h.size g.size, fun r a b => (g.same r (Nat.lt_of_lt_of_le a h.size) b).trans (h.same r a b)⟩
theorem Turned.grown {B k : Nat} {X Y Z : World} (h : Turned B k X Y) {row : Option Nat} (hg : Y.grownBy Z row) (hr : ∀ r, row = some r -> B <= r /\ r < B + k) : Turned B k X Z :=
 h.trans ⟨hg.os, hg.tape, hg.output, hg.size, fun r a b => hg.block r a (fun e => by have := hr r e.symm; omega)⟩
theorem Turned.alloc {B k : Nat} {X Y : World} (h : Turned B k X Y) (o : Obj) : Turned B k X (Y.alloc o) :=
 h.grown (World.grownBy_alloc Y o none) (fun r e => by cases e)
theorem Turned.putObj {B k : Nat} {X Y : World} (h : Turned B k X Y) {l : Nat} (o : Obj) (a : B <= l) (b : l < B + k) : Turned B k X (Y.putObj l o) :=
 h.grown (grownBy_putObj' Y l o) (fun r e => by cases e; exact ⟨a, b⟩)
theorem Turned.sub {B k B' k' : Nat} {X Y : World} (h : Turned B' k' X Y) (a : B <= B') (b : B' + k' <= B + k) : Turned B k X Y :=
 ⟨h.os, h.tape, h.output, h.size, fun r c d => h.same r c (by omega)⟩
theorem Turned.below {B k n : Nat} {X Y : World} (h : Turned B k X Y) (hn : n <= B) (hs : n <= X.heap.size) : Below n X Y :=
 ⟨h.os, h.tape, h.output, h.size, fun r a => h.same r (by omega) (by omega)⟩
theorem Turned.box {B k b : Nat} {X Y : World} {t : TypeId} {v : Value} (h : Turned B k X Y) (hv : Boxed X b t v) (hb : b < B \/ B + k <= b) : Boxed Y b t v :=
 (h.same b (Array.getElem?_eq_some_iff.1 (show X.heap[b]? = _ from hv)).1 hb).trans hv
theorem Turned.row {B k : Nat} {X Y : World} {base : Nat} {e : TypeId} {size : Nat} {v : Value} {n : Nat} {xs : List Value} (h : Turned B k X Y) (hr : X.ownsRow base e size v n xs)
  (hb : ∀ b, v.ownBlock = some b -> b < B \/ B + k <= b) : Y.ownsRow base e size v n xs := by
 refine ⟨hr.1, ?_⟩
 rcases hr.2 with hn | ⟨g, cap, cur, rfl, hbase, hg, rest⟩
 ·exact .inl hn
 exact .inr ⟨g, cap, cur, rfl, hbase, (h.same g (Array.getElem?_eq_some_iff.1 hg).1 (hb g rfl)).trans hg, rest⟩
def Abide {β : Type} (B k : Nat) (J : β -> World -> Prop) : Prop := ∀ s W W', J s W -> Turned B k W W' -> J s W'
theorem Abide.alloc {β : Type} {B k : Nat} {J : β -> World -> Prop} (h : Abide B k J) {s : β} {W : World} (o : Obj) (hs : J s W) : J s (W.alloc o) :=
 h s W _ hs ((Turned.refl _ _ _).alloc o)
theorem Abide.putObj {β : Type} {B k : Nat} {J : β -> World -> Prop} (h : Abide B k J) {s : β} {W : World} {l : Nat} (o : Obj) (hs : J s W) (a : B <= l) (b : l < B + k) : J s (W.putObj l o) :=
 h s W _ hs ((Turned.refl _ _ _).putObj o a b)
def Hands {α : Type} (P : Program) (g : Nat) (lb : Array Value) (encs : α -> Array Value) (k : Nat) (xs : List α) (w : World) : Prop :=
 ∀ (l : Nat) (J Jx : List α -> World -> Prop) (W : World), Below w.heap.size w W -> Abide W.heap.size k J ->
  (∀ pre x post W1, xs = pre ++ x :: post -> W.heap.size + k <= W1.heap.size -> J pre W1 -> YieldAt Fence.wide 7 P l (encs x) W1 fun e W' =>
   (e = .returned (.bool true) /\ J (pre ++ [x]) W' /\ Stay W.heap.size k W1 W') \/ (e = .returned (.bool false) /\ Jx (pre ++ [x]) W')) ->
  J [] W ->
  CallsIn Fence.wide 8 P g (#[.func (.yield l) #[] #[]] ++ lb) W fun e W' => (∃ v, e = .returned v) /\ (J xs W' \/ ∃ pre, pre <+: xs /\ Jx pre W')
def left {α : Type} (B k : Nat) (I : List α -> World -> Prop) (Ix : Code -> List α -> World -> Prop) (xs : List α) (W : World) : Exit -> Act -> World -> Prop
 | .normal, _, W' => Stay B k W W' /\ I xs W'
 | .ret, _, W' => Stay B k W W' /\ Ix .ret xs W'
 | .exit id, _, W' => Stay B k W W' /\ Ix (.exit id) xs W'
 | .goto t, _, W' => Stay B k W W' /\ Ix (.goto t) xs W'
 | .panic _, _, _ => False
 | .outgrown, _, _ => False
def assigned (B k : Nat) (M : Act -> World -> Prop) (W : World) : Exit -> Act -> World -> Prop :=
 Exit.then (fun a' W' => Stay B k W W' /\ M a' W') (fun _ _ _ => False)
variable {P : Program}
theorem wp_ranged {α : Type} {g : Operand} {ps : Array Tmp} {assign body : Code} {Q : Exit -> Act -> World -> Prop} {a : Act} {w : World}
  {gf : Nat} {lb : Array Value} (hg : a.eval g = .func (.func gf) #[] lb) (eg : ∀ args w, (callFunc gf args).run P w = .ok (.enter gf args) w)
  {encs : α -> Array Value} {k : Nat} {xs : List α} (hseq : Hands P gf lb encs k xs w) (hps : ∀ x, (encs x).size = ps.size)
  (I : List α -> World -> Prop) (Ix : Code -> List α -> World -> Prop) (hI : Abide w.heap.size (k + 2) I) (hIx : ∀ c, Abide w.heap.size 2 (Ix c)) (h0 : I [] w)
  (M : List α -> α -> Act -> World -> Prop) (hM : ∀ pre x a', Abide w.heap.size 2 (fun (_ : Unit) W => M pre x a' W))
  (hassign : ∀ (l : Nat) (pre : List α) (x : α) (post : List α) (W : World), xs = pre ++ x :: post -> w.heap.size + (k + 2) <= W.heap.size -> I pre W ->
   assign.wpIn (Fence.wide.inRound l) 7 P (assigned w.heap.size (k + 2) (M pre x) W) { tmps := (ps.zip (encs x)).foldl (fun t (p, v) => t.setIfInBounds p v) a.tmps, defers := [] } W)
  (hbody : ∀ (l : Nat) (pre : List α) (x : α) (post : List α) (a' : Act) (W : World), xs = pre ++ x :: post -> w.heap.size + (k + 2) <= W.heap.size -> M pre x a' W ->
   body.wpIn (Fence.wide.inRound l) 7 P (left w.heap.size (k + 2) I Ix (pre ++ [x]) W) a' W)
  (hdone : ∀ (W : World), I xs W -> W.heap[w.heap.size]? = some (.deferred (some [])) -> Q .normal { a with defers := { target := .collected w.heap.size, args := #[] } :: a.defers } W)
  (hstop : ∀ (c : Code) (pre : List α) (W : World), pre <+: xs -> Ix c pre W -> W.heap[w.heap.size]? = some (.deferred (some [])) -> c.wpIn Fence.wide 9 P Q { a with defers := { target := .collected w.heap.size, args := #[] } :: a.defers } W) :
  (Code.rangeFunc g ps assign body).wpIn Fence.wide 9 P Q a w := by
 refine wpIn_rangeFunc fun fn _ => ?_
 show ∃ l mark w₁ d w₁' f args w₂, (Instr.enterLoop fn a.tmps ps assign body none).run P w = .ok (l, mark) w₁ /\ _
 obtain ⟨rec, hrec⟩ : ∃ rec : LoopState -> Option Code -> Loop, rec = fun st pe => { state := st, pending := pe, fn, tmps := a.tmps, params := ps, assign, body, defers := w.heap.size } := ⟨_, rfl⟩
 obtain ⟨W1, hW1⟩ : ∃ W1, (w.alloc (.deferred (some []))).alloc (.loop (rec .ready none)) = W1 := ⟨_, rfl⟩
 have hz1 : W1.heap.size = w.heap.size + 2 := by rw [<- hW1]; simp
 have hL1 : W1.heap[w.heap.size + 1]? = some (.loop (rec .ready none)) := by
  rw [<- hW1]; have := World.alloc_heap_new (w.alloc (.deferred (some []))) (.loop (rec .ready none)); rwa [World.size_alloc] at this
 have hK1 : W1.heap[w.heap.size]? = some (.deferred (some [])) := by
  rw [<- hW1]; exact (Below.heap_alloc _ _ _ (by simp)).trans (World.alloc_heap_new w _)
 have hI1 : I [] W1 := by rw [<- hW1]; exact hI.alloc _ (hI.alloc _ h0)
 have hb1 : Below w.heap.size w W1 := by rw [<- hW1]; exact ((Below.refl _ w).alloc (Nat.le_refl _) _).alloc (by simp) _
 have two : ∀ {A B : World}, Turned W1.heap.size k A B -> ∀ q o, q < w.heap.size + 2 -> A.heap[q]? = some o -> B.heap[q]? = some o :=
  fun ht q o hq ho => (ht.same q (Array.getElem?_eq_some_iff.1 ho).1 (by omega)).trans ho
 refine ⟨w.heap.size + 1, [{ target := .collected w.heap.size, args := #[] }], W1, { target := .fn (.func gf) lb, args := #[.func (.yield (w.heap.size + 1)) #[] #[]] }, W1, gf,
  #[.func (.yield (w.heap.size + 1)) #[] #[]] ++ lb, W1, ?_, ?_, fun _ _ => trivial, ?_, (fun h => by cases h), ?_⟩
 ·rw [<- hW1, hrec]; exact run_enterLoop_outer _ _ _ _ _
 ·simp only [resolve, hg]
  simp [go_sem]
 ·simp [invoke, go_sem, eg]
 refine (hseq (w.heap.size + 1)
  (fun pre W => I pre W /\ W.heap[w.heap.size + 1]? = some (.loop (rec .ready none)) /\ W.heap[w.heap.size]? = some (.deferred (some [])))
  (fun pre W => ∃ c, Ix c pre W /\ W.heap[w.heap.size + 1]? = some (.loop (rec .done (some c))) /\ W.heap[w.heap.size]? = some (.deferred (some [])))
  W1 hb1
  (fun s A B hs ht => ⟨hI s A B hs.1 (ht.sub (by omega) (by omega)), two ht _ _ (by omega) hs.2.1, two ht _ _ (by omega) hs.2.2⟩)
  ?_ ⟨hI1, hL1, hK1⟩).mono ?_
 ·
  rintro pre x post W hx hsz ⟨hi, hl, hk⟩
  rw [hz1] at hsz
  have hy := run_yield (P := P) (args := encs x) hl (by rw [hrec]; exact hps x)
  rw [hrec] at hy
  refine ⟨fn, _, assign, body, hy, roundIn_of_wpIn trivial (wpIn_mono (hassign _ pre x post W hx (by omega) hi) ?_)⟩
  intro e a' Wa hp
  cases e with
  | normal =>
   obtain ⟨hs1, hm⟩ := hp
   have hla := (hs1.same (w.heap.size + 1) (by omega) (by omega)).trans hl
   have hka := (hs1.same w.heap.size (by omega) (by omega)).trans hk
   have hlt := (Array.getElem?_eq_some_iff.1 hla).1
   refine ⟨_, run_beginRound hla (by rw [hrec]), ?_⟩
   have hl2 : (Wa.putObj (w.heap.size + 1) (.loop { rec .ready none with state := .busy })).heap[w.heap.size + 1]? = some (.loop { rec .ready none with state := .busy }) := World.putObj_heap_same hlt
   have hk2 : (Wa.putObj (w.heap.size + 1) (.loop { rec .ready none with state := .busy })).heap[w.heap.size]? = some (.deferred (some [])) := (World.putObj_heap_other (by omega)).trans hka
   have hn2 : ∀ r, w.heap.size + 2 <= r -> (Wa.putObj (w.heap.size + 1) (.loop { rec .ready none with state := .busy })).heap[r]? = Wa.heap[r]? := fun r hr => World.putObj_heap_other (by omega)
   have hz2 : ∀ o, (Wa.putObj (w.heap.size + 1) o).heap.size = Wa.heap.size := fun o => by simp
   have hm2 := (hM pre x a').putObj (s := ()) (.loop { rec .ready none with state := .busy }) hm (l := w.heap.size + 1) (by omega) (by omega)
   have hsa := hs1.size
   refine wpIn_mono (hbody _ pre x post a' _ hx (by rw [hz2]; omega) hm2) ?_
   have fin : ∀ (jump : Option Code) (W3 : World), Stay w.heap.size (k + 2) (Wa.putObj (w.heap.size + 1) (.loop { rec .ready none with state := .busy })) W3 ->
     (Instr.endRound (w.heap.size + 1) jump).run P W3 = .ok (.bool jump.isNone) (W3.putObj (w.heap.size + 1) (.loop (rec (if jump.isNone then .ready else .done) jump))) /\
     (W3.putObj (w.heap.size + 1) (.loop (rec (if jump.isNone then .ready else .done) jump))).heap[w.heap.size + 1]? = some (.loop (rec (if jump.isNone then .ready else .done) jump)) /\
     (W3.putObj (w.heap.size + 1) (.loop (rec (if jump.isNone then .ready else .done) jump))).heap[w.heap.size]? = some (.deferred (some [])) := fun jump W3 hs3 => by
    have hl3 := (hs3.same (w.heap.size + 1) (by omega) (by omega)).trans hl2
    have hk3 := (hs3.same w.heap.size (by omega) (by omega)).trans hk2
    have := run_endRound (P := P) jump hl3
    rw [hrec] at this ⊢
    exact ⟨this, World.putObj_heap_same (Array.getElem?_eq_some_iff.1 hl3).1, (World.putObj_heap_other (by omega)).trans hk3⟩
   intro e a3 W3 hp
   cases e with
   | normal =>
    obtain ⟨hs3, hi3⟩ := hp
    obtain ⟨hr, hl4, hk4⟩ := fin none W3 hs3
    refine ⟨_, _, hr, .inl ⟨rfl, ⟨hI.putObj _ hi3 (by omega) (by omega), hl4, hk4⟩, ?_⟩⟩
    have hsz3 := hs3.size
    refine ⟨by simp only [World.putObj, Array.size_setIfInBounds] at hsz3 ⊢; omega, fun r a b => ?_⟩
    rw [hz1] at a b
    rw [World.putObj_heap_other (by omega), hs3.same r (by omega) (by omega), hn2 r a, hs1.same r (by omega) (by omega)]
   | ret =>
    obtain ⟨hs3, hi3⟩ := hp
    obtain ⟨hr, hl4, hk4⟩ := fin (some .ret) W3 hs3
    exact ⟨_, _, hr, .inr ⟨rfl, .ret, (hIx _).putObj _ hi3 (by omega) (by omega), hl4, hk4⟩⟩
   | exit id =>
    obtain ⟨hs3, hi3⟩ := hp
    obtain ⟨hr, hl4, hk4⟩ := fin (some (.exit id)) W3 hs3
    exact ⟨_, _, hr, .inr ⟨rfl, .exit id, (hIx _).putObj _ hi3 (by omega) (by omega), hl4, hk4⟩⟩
   | goto t =>
    obtain ⟨hs3, hi3⟩ := hp
    obtain ⟨hr, hl4, hk4⟩ := fin (some (.goto t)) W3 hs3
    exact ⟨_, _, hr, .inr ⟨rfl, .goto t, (hIx _).putObj _ hi3 (by omega) (by omega), hl4, hk4⟩⟩
   | panic ch => exact hp.elim
   | outgrown => exact hp.elim
  | ret => exact hp.elim
  | exit id => exact hp.elim
  | goto t => exact hp.elim
  | panic ch => exact hp.elim
  | outgrown => exact hp.elim
 -- behind the iterator
 rintro e W2 ⟨⟨v, rfl⟩, (⟨hi, hl, hk⟩ | ⟨pre, hpre, c, hi, hl, hk⟩)⟩
 ·exact ⟨none, _, by have := run_endLoop (P := P) hl (by rw [hrec]; simp); rw [hrec] at this; exact this, hdone _ (hI.putObj _ hi (by omega) (by omega)) ((World.putObj_heap_other (by omega)).trans hk)⟩
 exact ⟨some c, _, by have := run_endLoop (P := P) hl (by rw [hrec]; simp); rw [hrec] at this; exact this, hstop c pre _ hpre ((hIx c).putObj _ hi (by omega) (by omega)) ((World.putObj_heap_other (by omega)).trans hk)⟩
end Go.Proofs.YtbkeoiefolkjfaaGreatDoor
namespace Go.RowKit
end Go.RowKit
namespace Go.Proofs.YtbkeoiefolkjfaaGreatDoor
open Go.RowKit
structure Only (S : Nat -> Prop) (W W' : World) : Prop where
 os : W'.os = W.os
 tape : W'.tape = W.tape
 output : W'.output = W.output
 size : W.heap.size <= W'.heap.size
 same : ∀ r, r < W.heap.size -> ¬ S r -> W'.heap[r]? = W.heap[r]?
section
variable {S : Nat -> Prop} {X Y Z : World}
theorem Only.refl (S : Nat -> Prop) (W : World) : Only S W W := ⟨rfl, rfl, rfl, Nat.le_refl _, fun _ _ _ => rfl⟩
theorem Only.trans {S' : Nat -> Prop} (h : Only S X Y) (g : Only S' Y Z) (hs : ∀ r, r < X.heap.size -> S' r -> S r) : Only S X Z :=
 ⟨g.os.trans h.os, g.tape.trans h.tape, g.output.trans h.output, Nat.le_trans h.size g.size, fun r a b => (g.same r (Nat.lt_of_lt_of_le a h.size) (fun c => b (hs r a c))).trans (h.same r a b)⟩
theorem Only.alloc (h : Only S X Y) (o : Obj) : Only S X (Y.alloc o) :=
 ⟨h.os, h.tape, h.output, by simp; have := h.size; omega, fun r a b => (Below.heap_alloc _ _ _ (Nat.lt_of_lt_of_le a h.size)).trans (h.same r a b)⟩
theorem Only.setCell (h : Only S X Y) {p : Addr} (hp : S p.block \/ X.heap.size <= p.block) (u : Value) : Only S X (Y.setCell p u) :=
 ⟨h.os, h.tape, h.output, by simp only [World.setCell, Array.size_modify]; exact h.size, fun r a b => (Below.heap_setCell _ _ _ _ (by rintro rfl; rcases hp with hp | hp; exact b hp; omega)).trans (h.same r a b)⟩
theorem Only.cellS {p : Nat} (h : Only (· = p) X Y) (o : Nat) (u : Value) : Only (· = p) X (Y.setCell ⟨p, o, none⟩ u) := h.setCell (p := ⟨p, o, none⟩) (.inl rfl) u
theorem Only.drew (h : Only S X Y) : Only S X Y.drew := ⟨h.os, h.tape, h.output, h.size, h.same⟩
theorem Only.drewN (h : Only S X Y) (n : Nat) : Only S X (Y.drewN n) := ⟨h.os, h.tape, h.output, h.size, h.same⟩
theorem Only.grown (h : Only S X Y) {row : Option Nat} (g : Y.grownBy Z row) (hr : ∀ k, row = some k -> S k \/ X.heap.size <= k) : Only S X Z :=
 ⟨g.os.trans h.os, g.tape.trans h.tape, g.output.trans h.output, Nat.le_trans h.size g.size, fun r a b => (g.block r (Nat.lt_of_lt_of_le a h.size) (fun e => by rcases hr r e.symm with c | c; exact b c; omega)).trans (h.same r a b)⟩
theorem Only.below (h : Only S X Y) {B : Nat} (g : Below B Y Z) (hB : X.heap.size <= B) : Only S X Z :=
 ⟨g.os.trans h.os, g.tape.trans h.tape, g.output.trans h.output, Nat.le_trans h.size g.size, fun r a b => (g.block r (by omega)).trans (h.same r a b)⟩
theorem Only.to_below (h : Only S X Y) {B : Nat} (hB : B <= X.heap.size) (hs : ∀ r, r < B -> ¬ S r) : Below B X Y :=
 ⟨h.os, h.tape, h.output, h.size, fun r a => h.same r (by omega) (hs r a)⟩
theorem Only.of_below {B : Nat} (g : Below B X Y) (hB : X.heap.size <= B) : Only S X Y := (Only.refl S X).below g hB
theorem Only.mono {S' : Nat -> Prop} (h : Only S X Y) (hs : ∀ r, r < X.heap.size -> S r -> S' r) : Only S' X Y := ⟨h.os, h.tape, h.output, h.size, fun r a b => h.same r a (fun c => b (hs r a c))⟩
end
theorem row_same {W W' : World} {base : Nat} {e : TypeId} {size : Nat} {v : Value} {n : Nat} {xs : List Value} (h : W.ownsRow base e size v n xs) (hs : ∀ b, v.ownBlock = some b -> W'.heap[b]? = W.heap[b]?) : W'.ownsRow base e size v n xs := by
 refine ⟨h.1, ?_⟩
 rcases h.2 with hn | ⟨g, cap, cur, rfl, hbase, hg, rest⟩
 ·exact .inl hn
 exact .inr ⟨g, cap, cur, rfl, hbase, (hs g rfl).trans hg, rest⟩
theorem row_only {W W' : World} {S : Nat -> Prop} {base : Nat} {e : TypeId} {size : Nat} {v : Value} {n : Nat} {xs : List Value} (h : W.ownsRow base e size v n xs) (g : Only S W W') (hs : ∀ b, v.ownBlock = some b -> ¬ S b) : W'.ownsRow base e size v n xs :=
 row_same h fun b hb => g.same b (h.lt b hb).2 (hs b hb)
theorem row_below {W W' : World} {B : Nat} {base : Nat} {e : TypeId} {size : Nat} {v : Value} {n : Nat} {xs : List Value} (h : W.ownsRow base e size v n xs) (g : Below B W W') (hB : W.heap.size <= B) : W'.ownsRow base e size v n xs :=
 row_same h fun b hb => g.block b (Nat.lt_of_lt_of_le (h.lt b hb).2 hB)
theorem row_cell {W : World} {base : Nat} {e : TypeId} {size : Nat} {v : Value} {n : Nat} {xs : List Value} (h : W.ownsRow base e size v n xs) {p : Addr} (hp : v.ownBlock ≠ some p.block) (u : Value) : (W.setCell p u).ownsRow base e size v n xs :=
 row_same h fun b hb => Below.heap_setCell _ _ _ _ (fun e => hp (by rw [hb, e]))
def Cells (W : World) (b : Nat) (t : TypeId) (cur : Array Value) : Prop := W.heap[b]? = some (.cells cur t (0, 0))
section
variable {W W' : World} {b : Nat} {t : TypeId} {cur : Array Value}
theorem Cells.lt (h : Cells W b t cur) : b < W.heap.size := (Array.getElem?_eq_some_iff.1 (show W.heap[b]? = _ from h)).1
theorem Cells.new (W : World) (t : TypeId) (cur : Array Value) : Cells (W.alloc (.cells cur t)) W.heap.size t cur := heap_alloc_new W _
theorem Cells.alloc (h : Cells W b t cur) (o : Obj) : Cells (W.alloc o) b t cur := (Below.heap_alloc _ _ _ h.lt).trans h
theorem Cells.drewN (h : Cells W b t cur) (n : Nat) : Cells (W.drewN n) b t cur := h
theorem Cells.drew (h : Cells W b t cur) : Cells W.drew b t cur := h
theorem Cells.other (h : Cells W b t cur) {p : Addr} (hp : b ≠ p.block) (u : Value) : Cells (W.setCell p u) b t cur := (Below.heap_setCell _ _ _ _ hp).trans h
theorem Cells.set (h : Cells W b t cur) (i : Nat) (u : Value) : Cells (W.setCell ⟨b, i, none⟩ u) b t (cur.setIfInBounds i u) := by
 obtain ⟨hlt, hk⟩ := Array.getElem?_eq_some_iff.1 (show W.heap[b]? = _ from h)
 show (W.heap.modify b _)[b]? = _
 rw [Array.getElem?_eq_getElem (by rw [Array.size_modify]; exact hlt), Array.getElem_modify_self, hk]
 rfl
theorem Cells.cell (h : Cells W b t cur) (i : Nat) : W.cell? ⟨b, i, none⟩ = cur[i]? := by
 simp [World.cell?, show W.heap[b]? = _ from h]
theorem Cells.frozen (h : Cells W b t cur) (i : Nat) : W.frozen? ⟨b, i, none⟩ = false := by
 simp [World.frozen?, show W.heap[b]? = _ from h]
theorem Cells.only {S : Nat -> Prop} (h : Cells W b t cur) (g : Only S W W') (hb : ¬ S b) : Cells W' b t cur := (g.same b h.lt hb).trans h
theorem Cells.below {B : Nat} (h : Cells W b t cur) (g : Below B W W') (hb : b < B) : Cells W' b t cur := (g.block b hb).trans h
theorem Cells.grown {row : Option Nat} (h : Cells W b t cur) (g : W.grownBy W' row) (hb : some b ≠ row) : Cells W' b t cur := (g.block b h.lt hb).trans h
end
end Go.Proofs.YtbkeoiefolkjfaaGreatDoor
namespace Go.Proofs.YtbkeoiefolkjfaaGreatDoor
open Go.RowKit
def restS (s : ByteArray) : ByteArray := if nl s.data.toList then s.extract ((head s.data.toList).length + 1) s.size else ⟨#[]⟩
theorem takeWhile_all {p : UInt8 -> Bool} : ∀ {l : List UInt8}, (∀ x ∈ l, p x = true) -> l.takeWhile p = l
 | [], _ => rfl
 | a :: l, h => by rw [List.takeWhile_cons, h a (by simp), if_pos rfl, takeWhile_all fun x hx => h x (by simp [hx])]
theorem cut_line (s : ByteArray) (w : World) (hs : s.size <= maxLen) :
  Calls Tryz.prog 56 #[.string s, .string ⟨#[10]⟩] w fun e w' => e = .returned (.tuple #[.string ⟨(head s.data.toList).toArray⟩, .string (restS s), .bool (nl s.data.toList)]) /\ ∃ n, w' = w.drewN n := by
 by_cases h : (10 : UInt8) ∈ s.data.toList
 ·have e1 : nl s.data.toList = true := by unfold nl; simpa using h
  have e2 : s.extract 0 (s.data.toList.takeWhile (· != 10)).length = ⟨(head s.data.toList).toArray⟩ := by
   have h0 := Lib.extract_data s 0 (s.data.toList.takeWhile (· != 10)).length
   rw [<- Lib.mk_data (s.extract 0 _), h0]
   have : List.take ((s.data.toList.takeWhile (· != 10)).length - 0) (List.drop 0 s.data.toList) = head s.data.toList := by
    rw [List.drop_zero, Nat.sub_zero]
    exact (List.prefix_iff_eq_take.1 (List.takeWhile_prefix _)).symm
   rw [this]
  refine (cut_yes s 10 w hs h).mono ?_
  rintro e w' ⟨rfl, n, rfl⟩
  refine ⟨?_, n, rfl⟩
  rw [e1, e2]; unfold restS; rw [if_pos e1]; rfl
 have e1 : nl s.data.toList = false := by unfold nl; simpa using h
 have e2 : head s.data.toList = s.data.toList := by
  exact takeWhile_all fun x hx => by simp; rintro rfl; exact h hx
 refine (cut_no s 10 w h).mono ?_
 rintro e w' ⟨rfl, n, rfl⟩
 refine ⟨?_, n, rfl⟩
 rw [e1, e2, Lib.mk_data]; unfold restS; rw [e1]; rfl
structure Two (b c : Nat) (W W' : World) : Prop where
 os : W'.os = W.os
 tape : W'.tape = W.tape
 output : W'.output = W.output
 size : W.heap.size <= W'.heap.size
 same : ∀ r, r < W.heap.size -> r ≠ b -> r ≠ c -> W'.heap[r]? = W.heap[r]?
theorem Two.refl (b c : Nat) (W : World) : Two b c W W := ⟨rfl, rfl, rfl, Nat.le_refl _, fun _ _ _ _ => rfl⟩
theorem Two.alloc {b c : Nat} {X Y : World} (h : Two b c X Y) (o : Obj) : Two b c X (Y.alloc o) :=
 ⟨h.os, h.tape, h.output, by simp; have := h.size; omega, fun r a x y => (Below.heap_alloc _ _ _ (Nat.lt_of_lt_of_le a h.size)).trans (h.same r a x y)⟩
theorem Two.setCell {b c : Nat} {X Y : World} (h : Two b c X Y) {p : Addr} (hp : p.block = b \/ p.block = c \/ X.heap.size <= p.block) (u : Value) : Two b c X (Y.setCell p u) :=
 ⟨h.os, h.tape, h.output, by simp only [World.setCell, Array.size_modify]; exact h.size, fun r a x y => (Below.heap_setCell _ _ _ _ (by omega)).trans (h.same r a x y)⟩
theorem Two.drew {b c : Nat} {X Y : World} (h : Two b c X Y) : Two b c X Y.drew := ⟨h.os, h.tape, h.output, h.size, h.same⟩
theorem Two.drewN {b c : Nat} {X Y : World} (h : Two b c X Y) (n : Nat) : Two b c X (Y.drewN n) := ⟨h.os, h.tape, h.output, h.size, h.same⟩
theorem Two.box {b c d : Nat} {X Y : World} {t : TypeId} {v : Value} (h : Two b c X Y) (hv : Boxed X d t v) (x : d ≠ b) (y : d ≠ c) : Boxed Y d t v :=
 (h.same d hv.lt x y).trans hv
theorem Two.turned {b c B k : Nat} {X Y : World} (h : Two b c X Y) (hb : B <= b /\ b < B + k) (hc : B <= c /\ c < B + k) : Turned B k X Y :=
 ⟨h.os, h.tape, h.output, h.size, fun r a x => h.same r a (by omega) (by omega)⟩
theorem next_no (s : ByteArray) (at_ : Nat) (Bat Btx Bno : Nat) (w : World) (hat : Boxed w Bat 3 (.int .i64 at_)) (htx : Boxed w Btx 9 (.string s)) (he : at_ = s.size) :
  Calls Tryz.prog 133 #[.pointer (some ⟨Bat, 0, none⟩), .pointer (some ⟨Btx, 0, none⟩), .pointer (some ⟨Bno, 0, none⟩)] w fun e w' =>
   e = .returned (.tuple #[.agg #[.int .i64 0, .int .i64 0, .string ⟨#[]⟩, .bool false], .bool false]) /\ Two Bno Bat w w' := by
 have c1 := hat.cell
 have c2 := htx.cell
 have z1 := hat.lt
 have z2 := htx.lt
 have e1 : ((at_ : Int) == (s.size : Int)) = true := by rw [he]; simp
 go_enter Tryz.func133, Tryz.ntmps133
 go_wp2
 refine bodyPost_ret (v := .tuple #[.agg #[.int .i64 0, .int .i64 0, .string ⟨#[]⟩, .bool false], .bool false]) (by simp [results, Tryz.results133, go_sem]) rfl ⟨rfl, ?_⟩
 exact (Two.refl _ _ _).alloc _
theorem next_yes (s : ByteArray) (at_ no : Nat) (Bat Btx Bno : Nat) (w : World) (hat : Boxed w Bat 3 (.int .i64 at_)) (htx : Boxed w Btx 9 (.string s)) (hno : Boxed w Bno 3 (.int .i64 no))
  (h1 : at_ < s.size) (h2 : no < s.size) (hs : s.size <= 4294967295) (d1 : Bat ≠ Btx) (d2 : Bat ≠ Bno) (d3 : Btx ≠ Bno) :
  Calls Tryz.prog 133 #[.pointer (some ⟨Bat, 0, none⟩), .pointer (some ⟨Btx, 0, none⟩), .pointer (some ⟨Bno, 0, none⟩)] w fun e w' =>
   e = .returned (.tuple #[.agg (lineV ⟨no, at_, head (s.data.toList.drop at_), nl (s.data.toList.drop at_)⟩), .bool true]) /\ Two Bno Bat w w' /\ Boxed w' Bno 3 (.int .i64 (no + 1 : Nat)) /\ Boxed w' Bat 3 (.int .i64 (at_ + used (s.data.toList.drop at_) : Nat)) := by
 have c1 := hat.cell
 have c2 := htx.cell
 have c3 := hno.cell
 have f1 := hat.frozen
 have f3 := hno.frozen
 have z1 := hat.lt
 have z2 := htx.lt
 have z3 := hno.lt
 have e1 : ((at_ : Int) == (s.size : Int)) = false := by rw [beq_eq_false_iff_ne]; omega
 go_enter Tryz.func133, Tryz.ntmps133
 go_wp2_with fail
 have hx : (s.extract at_ s.size).data.toList = s.data.toList.drop at_ := Lib.extract_to_end s at_
 have hz : (s.extract at_ s.size).size <= maxLen := by rw [Lib.size_eq, hx]; unfold maxLen; simp only [List.length_drop, <- Lib.size_eq]; omega
 refine (cut_line (s.extract at_ s.size) _ hz).mono ?_
 rw [hx]
 rintro e w1 ⟨rfl, n1, rfl⟩
 have hu : (head (s.data.toList.drop at_)).length + (endS (nl (s.data.toList.drop at_))).size = used (s.data.toList.drop at_) := by
  unfold used endS; cases nl (s.data.toList.drop at_) <;> rfl
 have hul := used_le (s.data.toList.drop at_)
 rw [List.length_drop, <- Lib.size_eq] at hul
 have hu' : (⟨(head (s.data.toList.drop at_)).toArray⟩ : ByteArray).size = (head (s.data.toList.drop at_)).length := by simp [Lib.size_eq]
 generalize hhd : head (s.data.toList.drop at_) = hd at *
 generalize hen : nl (s.data.toList.drop at_) = en at *
 generalize hus : used (s.data.toList.drop at_) = us at *
 have H1 := Lib.hid hhd
 have H2 := Lib.hid hen
 have H3 := Lib.hid hus
 clear hhd hen hus
 generalize restS (s.extract at_ s.size) = rs at *
 have HU := Lib.hid hu
 have HU' := Lib.hid hu'
 clear hu hu' hx hz
 have hat2 : Boxed (w.alloc (.cells #[.int .i64 0, .int .i64 0, .string ⟨#[]⟩, .bool false] 99)) Bat 3 (.int .i64 at_) := hat.alloc _
 go_upto_region 5 with fail
 go_cut [] (fun wx => Two Bno Bat w wx /\ wx.heap.size = w.heap.size + 1 + 1 /\ Boxed wx Bno 3 (.int .i64 (no + 1 : Nat)) /\ Boxed wx Bat 3 (.int .i64 at_) /\
  Cells wx w.heap.size 99 #[.int .i64 0, .int .i64 0, .string ⟨#[]⟩, .bool false] /\ Cells wx (w.heap.size + 1) 99 #[.int .i64 no, .int .i64 at_, .string ⟨hd.toArray⟩, .bool en])
 case first =>
  go_wp2_with fail
  go_meet
  refine ⟨?_, ?_, ?_, ?_, ?_, ?_⟩
  ·exact (((((((Two.refl Bno Bat w).alloc _).alloc _).drewN n1).setCell (.inr (.inr (by simp))) _).setCell (.inr (.inr (by simp))) _).setCell (.inl rfl) _)
  ·simp [World.setCell]
  ·exact Boxed.set _ (Cells.other (Cells.other (((Cells.alloc (Cells.alloc hno _) _).drewN n1)) (by simp; omega) _) (by simp; omega) _)
  ·exact Cells.other (Cells.other (Cells.other (((Cells.alloc (Cells.alloc hat _) _).drewN n1)) (by simp; omega) _) (by simp; omega) _) d2 _
  ·exact Cells.other (Cells.other (Cells.other (((Cells.alloc (Cells.new w _ _) _).drewN n1)) (by simp) _) (by simp) _) (by simp; omega) _
  have h0 := Cells.new (w.alloc (.cells #[.int .i64 0, .int .i64 0, .string ⟨#[]⟩, .bool false] 99)) 99 #[.int .i64 no, .int .i64 at_, .string ⟨#[]⟩, .bool false]
  rw [World.size_alloc] at h0
  exact Cells.other (((h0.drewN n1).set 2 (.string ⟨hd.toArray⟩)).set 3 (.bool en)) (by simp; omega) _
 case rest =>
 obtain ⟨t1, t2, t3, t4, t5, t6⟩ := hcut
 have t3' := Lib.hid t3
 have q0 := t4.cell
 have q1 := t4.frozen
 have q2 : wc.cell? ⟨w.heap.size + 1, 2, none⟩ = some (.string ⟨hd.toArray⟩) := t6.cell 2
 have q3 : wc.cell? ⟨w.heap.size + 1, 0, none⟩ = some (.int .i64 no) := t6.cell 0
 have q4 : wc.cell? ⟨w.heap.size + 1, 1, none⟩ = some (.int .i64 at_) := t6.cell 1
 have g1 : (wc.alloc (.cells #[.int .i64 no, .int .i64 at_, .string ⟨hd.toArray⟩, .bool en] 99)).cell? ⟨Bat, 0, none⟩ = some (.int .i64 at_) := (Boxed.alloc t4 _).cell
 have g2 : (wc.alloc (.cells #[.int .i64 no, .int .i64 at_, .string ⟨hd.toArray⟩, .bool en] 99)).frozen? ⟨Bat, 0, none⟩ = false := (Boxed.alloc t4 _).frozen
 have keepA : ∀ o, ((wc.alloc o).cell? ⟨w.heap.size + 1, 0, none⟩ = some (.int .i64 no) /\ (wc.alloc o).cell? ⟨w.heap.size + 1, 1, none⟩ = some (.int .i64 at_) /\ (wc.alloc o).cell? ⟨w.heap.size + 1, 2, none⟩ = some (.string ⟨hd.toArray⟩) /\ (wc.alloc o).cell? ⟨w.heap.size + 1, 3, none⟩ = some (.bool en)) :=
  fun o => ⟨(Cells.alloc t6 o).cell 0, (Cells.alloc t6 o).cell 1, (Cells.alloc t6 o).cell 2, (Cells.alloc t6 o).cell 3⟩
 have keepB : ∀ o v, (((wc.alloc o).setCell ⟨Bat, 0, none⟩ v).cell? ⟨w.heap.size + 1, 0, none⟩ = some (.int .i64 no) /\ ((wc.alloc o).setCell ⟨Bat, 0, none⟩ v).cell? ⟨w.heap.size + 1, 1, none⟩ = some (.int .i64 at_) /\ ((wc.alloc o).setCell ⟨Bat, 0, none⟩ v).cell? ⟨w.heap.size + 1, 2, none⟩ = some (.string ⟨hd.toArray⟩) /\ ((wc.alloc o).setCell ⟨Bat, 0, none⟩ v).cell? ⟨w.heap.size + 1, 3, none⟩ = some (.bool en)) :=
  fun o v => by
   have hne : w.heap.size + 1 ≠ Bat := by omega
   exact ⟨((Cells.alloc t6 o).other hne v).cell 0, ((Cells.alloc t6 o).other hne v).cell 1, ((Cells.alloc t6 o).other hne v).cell 2, ((Cells.alloc t6 o).other hne v).cell 3⟩
 have g3 : (wc.alloc (.cells #[.int .i64 no, .int .i64 at_, .string ⟨hd.toArray⟩, .bool en] 99)).cell? ⟨w.heap.size + 1, 2, none⟩ = some (.string ⟨hd.toArray⟩) := (Cells.alloc t6 _).cell 2
 clear keepA keepB
 have n0 : (endS en).size <= 1 := by unfold endS; cases en <;> decide
 have n1 : hd.length <= 4294967295 := by have := HU.out; omega
 have n2 : hd.length + (endS en).size <= s.size - at_ := by have := HU.out; omega
 have n3 : IntKind.i64.wrap ((hd.length : Int) + ((endS en).size : Int)) = (hd.length : Int) + ((endS en).size : Int) := IntWalk.i64_in _ (by omega)
 have n4 : IntKind.i64.wrap ((at_ : Int) + ((hd.length : Int) + ((endS en).size : Int))) = (at_ : Int) + ((hd.length : Int) + ((endS en).size : Int)) := IntWalk.i64_in _ (by omega)
 have q5 : wc.cell? ⟨w.heap.size + 1, 3, none⟩ = some (.bool en) := t6.cell 3
 go_upto_region 6 with fail
 go_cut [] (fun wx => Two Bno Bat w wx /\ Boxed wx Bno 3 (.int .i64 (no + 1 : Nat)) /\ Boxed wx Bat 3 (.int .i64 (at_ + us : Nat)) /\
  Cells wx w.heap.size 99 #[.int .i64 0, .int .i64 0, .string ⟨#[]⟩, .bool false] /\ Cells wx (w.heap.size + 1) 99 #[.int .i64 no, .int .i64 at_, .string ⟨hd.toArray⟩, .bool en])
 case first =>
  go_region_with (go_at_call 125; refine (end_any _ _ _ _ _).mono ?_; rintro e w1 ⟨rfl, rfl⟩)
  all_goals
   go_wp2_with fail
   go_meet
   have e9 : Value.int .i64 ((at_ : Int) + ((hd.length : Int) + ((endS en).size : Int))) = Value.int .i64 ((at_ + us : Nat) : Int) := by have := HU.out; congr 1; omega
   rw [e9]
   exact ⟨((t1.alloc _).setCell (.inr (.inl rfl)) _).drew, Cells.other (Cells.alloc t3 _) (fun e => d2 e.symm) _, Boxed.set _ (Boxed.alloc t4 _), Cells.other (Cells.alloc t5 _) (by simp; omega) _, Cells.other (Cells.alloc t6 _) (by simp; omega) _⟩
 case rest =>
 obtain ⟨r1, r2, r3, r4, r5⟩ := hcut
 have s0 : wc.cell? ⟨w.heap.size + 1, 0, none⟩ = some (.int .i64 no) := r5.cell 0
 have s1 : wc.cell? ⟨w.heap.size + 1, 1, none⟩ = some (.int .i64 at_) := r5.cell 1
 have s2 : wc.cell? ⟨w.heap.size + 1, 2, none⟩ = some (.string ⟨hd.toArray⟩) := r5.cell 2
 have s3 : wc.cell? ⟨w.heap.size + 1, 3, none⟩ = some (.bool en) := r5.cell 3
 have s4 : wc.cell? ⟨w.heap.size, 0, none⟩ = some (.int .i64 0) := r4.cell 0
 have s5 : wc.cell? ⟨w.heap.size, 1, none⟩ = some (.int .i64 0) := r4.cell 1
 have s6 : wc.cell? ⟨w.heap.size, 2, none⟩ = some (.string ⟨#[]⟩) := r4.cell 2
 have s7 : wc.cell? ⟨w.heap.size, 3, none⟩ = some (.bool false) := r4.cell 3
 have y0 := r4.frozen 0
 have y1 := r4.frozen 1
 have y2 := r4.frozen 2
 have y3 := r4.frozen 3
 go_wp2_with fail
 have k4 := (((r4.set 0 (.int .i64 no)).set 1 (.int .i64 at_)).set 2 (.string ⟨hd.toArray⟩)).set 3 (.bool en)
 have w0 := k4.cell 0
 have w1 := k4.cell 1
 have w2 := k4.cell 2
 have w3 := k4.cell 3
 simp at w0 w1 w2 w3
 refine bodyPost_ret (v := .tuple #[.agg #[.int .i64 no, .int .i64 at_, .string ⟨hd.toArray⟩, .bool en], .bool true]) (by simp [results, Tryz.results133, go_sem, w0, w1, w2, w3]) rfl ?_
 have z5 : Bat ≠ w.heap.size := by omega
 have z6 : Bno ≠ w.heap.size := by omega
 refine ⟨by rw [H1.out, H2.out]; rfl, ?_, ?_, ?_⟩
 ·exact (((r1.setCell (.inr (.inr (Nat.le_refl _))) _).setCell (.inr (.inr (Nat.le_refl _))) _).setCell (.inr (.inr (Nat.le_refl _))) _).setCell (.inr (.inr (Nat.le_refl _))) _
 ·exact Cells.other (Cells.other (Cells.other (Cells.other r2 z6 _) z6 _) z6 _) z6 _
 rw [H3.out]; exact Cells.other (Cells.other (Cells.other (Cells.other r3 z5 _) z5 _) z5 _) z5 _
end Go.Proofs.YtbkeoiefolkjfaaGreatDoor
namespace Go.Proofs.YtbkeoiefolkjfaaGreatDoor
open Go.RowKit Go.Shelf
attribute [local go_sem] Oper.semAt_some
theorem from_any (s : ByteArray) (w : World) :
  Calls Tryz.prog 99 #[.string s] w fun e w' => e = .returned (.func (.func 133) #[] #[.pointer (some ⟨w.heap.size + 1 + 1, 0, none⟩), .pointer (some ⟨w.heap.size, 0, none⟩), .pointer (some ⟨w.heap.size + 1, 0, none⟩)]) /\
   w' = ((w.alloc (.cells #[.string s] 9)).alloc (.cells #[.int .i64 0] 3)).alloc (.cells #[.int .i64 0] 3) := by
 go_enter Tryz.func99, Tryz.ntmps99
 go_wp2
 go_ret
 exact ⟨rfl, rfl⟩
theorem next_yes2 (s : ByteArray) (at_ no : Nat) (Bat Btx Bno : Nat) (w : World) (hat : Boxed w Bat 3 (.int .i64 at_)) (htx : Boxed w Btx 9 (.string s)) (hno : Boxed w Bno 3 (.int .i64 no))
  (h1 : at_ < s.size) (h2 : no < s.size) (hs : s.size <= 4294967295) (d1 : Bat ≠ Btx) (d2 : Bat ≠ Bno) (d3 : Btx ≠ Bno) (hd : List UInt8) (en : Bool) (us : Nat)
  (H1 : head (s.data.toList.drop at_) = hd) (H2 : nl (s.data.toList.drop at_) = en) (H3 : used (s.data.toList.drop at_) = us) :
  Calls Tryz.prog 133 #[.pointer (some ⟨Bat, 0, none⟩), .pointer (some ⟨Btx, 0, none⟩), .pointer (some ⟨Bno, 0, none⟩)] w fun e w' =>
   e = .returned (.tuple #[.agg #[.int .i64 no, .int .i64 at_, .string ⟨hd.toArray⟩, .bool en], .bool true]) /\ Two Bno Bat w w' /\ Boxed w' Bno 3 (.int .i64 (no + 1 : Nat)) /\ Boxed w' Bat 3 (.int .i64 (at_ + us : Nat)) := by
 subst H1 H2 H3
 exact next_yes s at_ no Bat Btx Bno w hat htx hno h1 h2 hs d1 d2 d3
def atOf (B : Nat) (w : World) : Nat := match w.cell? ⟨B, 0, none⟩ with | some (.int _ n) => n.toNat | _ => 0
theorem atOf_eq {B : Nat} {w : World} {t : TypeId} {n : Nat} (h : Boxed w B t (.int .i64 n)) : atOf B w = n := by unfold atOf; rw [h.cell]; simp
theorem split_hands (s : ByteArray) (Bs : Nat) (w : World) (hbox : Boxed w Bs 9 (.string s)) (hs : s.size <= 4294967295) :
  Hands Tryz.prog 98 #[.pointer (some ⟨Bs, 0, none⟩)] (fun x => #[.agg (lineV x)]) 3 (linesOf s.data.toList) w := by
 intro l J Jx W hW hJ hY h0
 have hb : Boxed W Bs 9 (.string s) := (hW.block Bs hbox.lt).trans hbox
 have c0 := hb.cell
 refine callsIn_of_wp Tryz.func98 rfl trivial ?_ rfl
 simp only [Tryz.ntmps98, List.size_toArray, List.length_cons, List.length_nil, Nat.reduceAdd, Nat.reduceSub, Array.replicate_succ, Array.replicate_zero, List.push_toArray, List.append_toArray, List.nil_append, List.cons_append]
 gi_wp2_with (refine ⟨trivial, ?_⟩; gi_at_call 99; refine (callsIn_wide.2 (from_any s _)).mono ?_; rintro e w' ⟨rfl, rfl⟩)
 gi_loopw [4] (fun _ wr => ∃ pre at_, linesOf s.data.toList = pre ++ linesOn pre.length at_ (s.data.toList.drop at_) /\ at_ <= s.size /\ pre.length <= at_ /\ Boxed wr W.heap.size 9 (.string s) /\
   Boxed wr (W.heap.size + 1) 3 (.int .i64 (pre.length : Nat)) /\ Boxed wr (W.heap.size + 1 + 1) 3 (.int .i64 at_) /\ J pre wr)
  (fun _ wr => s.size - atOf (W.heap.size + 1 + 1) wr)
 case atStart =>
  refine ⟨[], 0, rfl, Nat.zero_le _, Nat.le_refl _, ?_, ?_, ?_, hJ.alloc _ (hJ.alloc _ (hJ.alloc _ h0))⟩
  ·exact ((Boxed.new W _ _).alloc _).alloc _
  ·have := (Boxed.new (W.alloc (.cells #[.string s] 9)) 3 (.int .i64 0)).alloc (.cells #[.int .i64 0] 3)
   rw [World.size_alloc] at this; exact this
  have := Boxed.new ((W.alloc (.cells #[.string s] 9)).alloc (.cells #[.int .i64 0] 3)) 3 (.int .i64 0)
  rw [World.size_alloc, World.size_alloc] at this; exact this
 case round =>
 obtain ⟨pre, at_, hx, ha, hn, b1, b2, b3, hj⟩ := hrel
 by_cases he : at_ = s.size
 ·gi_wp2_with (refine ⟨trivial, ?_⟩; gi_at_call 133; refine (callsIn_wide.2 (next_no s at_ _ _ _ _ b3 b1 he)).mono ?_; rintro e w' ⟨rfl, h2⟩)
  refine ⟨fun _ h => (by cases h), ?_⟩
  gi_wp2
  refine bodyPost_ret (results_none rfl _ _ _) rfl ⟨⟨_, rfl⟩, .inl ?_⟩
  rw [he, List.drop_of_length_le (by rw [<- Lib.size_eq]; exact Nat.le_refl _), linesOn_nil, List.append_nil] at hx
  rw [hx]
  exact hJ.alloc _ (hJ _ _ _ hj (h2.turned (by omega) (by omega)))
 have hlt : at_ < s.size := by omega
 have hne : s.data.toList.drop at_ ≠ [] := by
  intro e; have := congrArg List.length e; rw [List.length_drop, <- Lib.size_eq] at this; simp at this; omega
 rw [linesOn_cons _ _ _ hne, List.drop_drop] at hx
 have hu := used_pos _ hne
 have hul := used_le (s.data.toList.drop at_)
 rw [List.length_drop, <- Lib.size_eq] at hul
 generalize hhd : head (s.data.toList.drop at_) = hd at *
 generalize hen : nl (s.data.toList.drop at_) = en at *
 generalize hus : used (s.data.toList.drop at_) = us at *
 have N := callsIn_wide (n := 7).2 (next_yes2 s at_ pre.length _ _ _ _ b3 b1 b2 hlt (by omega) hs (by omega) (by omega) (by omega) hd en us hhd hen hus)
 have HX := Lib.hid hx
 clear hhd hen hus hx hne he
 gi_wp2_with (refine ⟨trivial, ?_⟩; gi_at_call 133; refine N.mono ?_; clear N; rintro e w' ⟨rfl, h2, h3, h4⟩)
 have hz := h2.size
 have hz3 := b3.lt
 have jw : J pre w' := hJ _ _ _ hj (h2.turned (by omega) (by omega))
 obtain ⟨fn, tmps, assign, body, hy, hR⟩ := hY pre ⟨pre.length, at_, hd, en⟩ _ (w'.alloc (.cells #[.int .i64 pre.length, .int .i64 at_, .string ⟨hd.toArray⟩, .bool en] 99)) HX.out (by simp; omega) (hJ.alloc _ jw)
 dsimp only [lineV] at hy
 rw [hy, Oper.uponIn_round]
 refine ⟨fun h => (by cases h), hR.mono ?_⟩
 clear hR hy
 rintro e W3 (⟨rfl, hJ3, hk3⟩ | ⟨rfl, hJx3⟩)
 ·gi_wp2
  go_roundw
  case rel =>
   refine ⟨pre ++ [⟨pre.length, at_, hd, en⟩], at_ + us, ?_, by omega, by simp; omega, ?_, ?_, ?_, hJ3⟩
   ·rw [List.append_assoc, List.singleton_append, List.length_append]; exact HX.out
   ·exact (hk3.same _ (by omega) (by omega)).trans ((h2.box b1 (by omega) (by omega)).alloc _)
   ·rw [List.length_append]; exact (hk3.same _ (by omega) (by omega)).trans (Boxed.alloc h3 _)
   exact (hk3.same _ (by omega) (by omega)).trans (Boxed.alloc h4 _)
  case measure =>
  rw [atOf_eq b3, atOf_eq (B := W.heap.size + 1 + 1) (w := W3) (n := at_ + us) ((hk3.same _ (by omega) (by omega)).trans (Boxed.alloc h4 _))]
  omega
 gi_wp2
 refine bodyPost_ret (results_none rfl _ _ _) rfl ⟨⟨_, rfl⟩, .inr ⟨_, ⟨linesOn (pre.length + 1) (at_ + us) (List.drop (at_ + us) s.data.toList), ?_⟩, hJx3⟩⟩
 rw [HX.out, List.append_assoc, List.singleton_append]
end Go.Proofs.YtbkeoiefolkjfaaGreatDoor
namespace Go.Proofs.YtbkeoiefolkjfaaGreatDoor
open Go.RowKit Go.Shelf
attribute [local go_sem] Oper.semAt_some
theorem split_any (s : ByteArray) (w : World) :
  Calls Tryz.prog 51 #[.string s] w fun e w' => e = .returned (.func (.func 98) #[] #[.pointer (some ⟨w.heap.size, 0, none⟩)]) /\ w' = w.alloc (.cells #[.string s] 9) := by
 go_enter Tryz.func51, Tryz.ntmps51
 go_wp2
 go_ret
 exact ⟨rfl, rfl⟩
theorem boxNew2 (w : World) (o : Obj) (t : TypeId) (v : Value) : Boxed ((w.alloc o).alloc (.cells #[v] t)) (w.heap.size + 1) t v := by
 have := Boxed.new (w.alloc o) t v
 rwa [World.size_alloc] at this
end Go.Proofs.YtbkeoiefolkjfaaGreatDoor
namespace Go.Proofs.YtbkeoiefolkjfaaGreatDoor
open Go.RowKit Go.Shelf
attribute [local go_sem] Oper.semAt_some
theorem under {W W' : World} {b n : Nat} {t : TypeId} {v : Value} (h : Boxed W b t v) (hb : Below n W W') (hn : b < n) : Boxed W' b t v := (hb.block b hn).trans h
theorem rowBase {W : World} {base base' : Nat} {e : TypeId} {size : Nat} {v : Value} {n : Nat} {xs : List Value} (h : W.ownsRow base e size v n xs) (hb : base' <= base) : W.ownsRow base' e size v n xs := by
 refine ⟨h.1, ?_⟩
 rcases h.2 with hn | ⟨g, cap, cur, hv, hg, rest⟩
 ·exact .inl hn
 exact .inr ⟨g, cap, cur, hv, Nat.le_trans hb hg, rest⟩
theorem rowForm {W : World} {base : Nat} {e : TypeId} {size : Nat} {v : Value} {n : Nat} {xs : List Value} (h : W.ownsRow base e size v n xs) : ∃ ao cap, v = .slice ao n cap := by
 rcases h.2 with ⟨rfl, rfl⟩ | ⟨g, cap, cur, rfl, _⟩
 ·exact ⟨none, 0, rfl⟩
 exact ⟨_, cap, rfl⟩
theorem boxNew3 (w : World) (o1 o2 : Obj) (t : TypeId) (v : Value) : Boxed (((w.alloc o1).alloc o2).alloc (.cells #[v] t)) (w.heap.size + 2) t v := by
 have := boxNew2 (w.alloc o1) o2 t v
 rwa [World.size_alloc] at this
theorem boxNew4 (w : World) (o1 o2 o3 : Obj) (t : TypeId) (v : Value) : Boxed ((((w.alloc o1).alloc o2).alloc o3).alloc (.cells #[v] t)) (w.heap.size + 3) t v := by
 have := boxNew3 (w.alloc o1) o2 o3 t v
 rwa [World.size_alloc] at this
theorem wp_rangedA {P : Program} {α : Type} {g : Operand} {ps : Array Tmp} {assign body : Code} {Q : Exit -> Act -> World -> Prop} {a : Act} {w : World}
  {gf : Nat} {lb : Array Value} (hg : a.eval g = .func (.func gf) #[] lb) (eg : ∀ args w, (callFunc gf args).run P w = .ok (.enter gf args) w)
  {encs : α -> Array Value} {k : Nat} {xs : List α} (hseq : Hands P gf lb encs k xs w) (hps : ∀ x, (encs x).size = ps.size)
  (I : List α -> World -> Prop) (Ix : Code -> List α -> World -> Prop) (hI : Abide w.heap.size (k + 2) I) (hIx : ∀ c, Abide w.heap.size 2 (Ix c)) (h0 : I [] w)
  (M : Act -> List α -> α -> Act -> World -> Prop) (hM : ∀ a pre x a', Abide w.heap.size 2 (fun (_ : Unit) W => M a pre x a' W))
  (hassign : ∀ (l : Nat) (pre : List α) (x : α) (post : List α) (W : World), xs = pre ++ x :: post -> w.heap.size + (k + 2) <= W.heap.size -> I pre W ->
   assign.wpIn (Fence.wide.inRound l) 7 P (assigned w.heap.size (k + 2) (M a pre x) W) { tmps := (ps.zip (encs x)).foldl (fun t (p, v) => t.setIfInBounds p v) a.tmps, defers := [] } W)
  (hbody : ∀ (l : Nat) (pre : List α) (x : α) (post : List α) (a' : Act) (W : World), xs = pre ++ x :: post -> w.heap.size + (k + 2) <= W.heap.size -> M a pre x a' W ->
   body.wpIn (Fence.wide.inRound l) 7 P (left w.heap.size (k + 2) I Ix (pre ++ [x]) W) a' W)
  (hdone : ∀ (W : World), I xs W -> W.heap[w.heap.size]? = some (.deferred (some [])) -> Q .normal { a with defers := { target := .collected w.heap.size, args := #[] } :: a.defers } W)
  (hstop : ∀ (c : Code) (pre : List α) (W : World), pre <+: xs -> Ix c pre W -> W.heap[w.heap.size]? = some (.deferred (some [])) -> c.wpIn Fence.wide 9 P Q { a with defers := { target := .collected w.heap.size, args := #[] } :: a.defers } W) :
  (Code.rangeFunc g ps assign body).wpIn Fence.wide 9 P Q a w :=
 wp_ranged hg eg hseq hps I Ix hI hIx h0 (M a) (hM a) hassign hbody hdone hstop
theorem mkAppend (a b : List UInt8) : (⟨a.toArray⟩ : ByteArray) ++ ⟨b.toArray⟩ = ⟨(a ++ b).toArray⟩ := by
 rw [<- Lib.mk_data ((⟨a.toArray⟩ : ByteArray) ++ ⟨b.toArray⟩), ByteArray.data_append, Array.toList_append]
theorem setOther {W : World} {b c : Nat} {t : TypeId} {v : Value} (h : Boxed W b t v) (hne : b ≠ c) (u : Value) : Boxed (W.setCell ⟨c, 0, none⟩ u) b t v := h.other hne u
end Go.Proofs.YtbkeoiefolkjfaaGreatDoor
