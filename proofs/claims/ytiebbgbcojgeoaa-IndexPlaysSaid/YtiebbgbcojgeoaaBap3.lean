/- Texts put together: IJ, RF, IK, IL. -/
import Derived.RangeFuncNested
import Derived.RangeFuncBound
import Derived.RangeFuncCalls
import Derived.RangeFuncLeaves
import Derived.Lib.Hide
import Derived.RangeFuncFrom
import Derived.RangeFuncOne
import Derived.OwnWalkIn
import Derived.Maps.AppendAt
import Derived.Shelf.SlIterI.Stops
import Derived.Test.YtiebbgbcojgeoaaBap2
set_option linter.unusedVariables false
namespace Go.Proofs.Ytiebbgbcojgeoaa
open Go.RowKit Go.Maps Go.Sort Go.Shelf

theorem lookRoom (x : Nat) : x ≤ 1000000 → x ≤ 10000000 := fun h => by omega
set_option maxRecDepth 100000 in
set_option maxHeartbeats 1000000 in
theorem valuesOf_g {w : World} {T : Nat → Tag} {lo x kb yb n : Nat} {ids : Int → Bool} (hb : IdxB w T lo x kb yb n ids) {g : List UInt8 → Option Nat} (h1 : RefM w yb n g) (k : ByteArray) (hk : k.size ≤ maxLen) :
    Calls Try.prog 36 #[.pointer (some ⟨x, 0, none⟩), .string k] w fun e w' => e = .returned (.map (g k.data.toList)) ∧ w' = w := by
  have c1 : w.cell? ⟨x, 1, none⟩ = some (.map (some yb)) := hb.cell.cell 1
  have lk := h1.look Try.underlying65 (by kernel_rfl) k hk
  go_enter Try.func36, Try.ntmps36
  go_wp2_with fail
  go_ret
  exact ⟨rfl, rfl⟩
theorem ansS_nil {w w' : World} (hb : Below w.heap.size w w') : AnsS w w' (.slice none 0 0) [] := ⟨⟨by simp, .inl ⟨rfl, rfl⟩⟩, ⟨fun _ => rfl, fun _ => rfl⟩, hb⟩
theorem ansI_nil {w w' : World} (hb : Below w.heap.size w w') : AnsI w w' (.slice none 0 0) [] := ⟨⟨by simp, .inl ⟨rfl, rfl⟩⟩, ⟨fun _ => rfl, fun _ => rfl⟩, hb⟩
set_option maxRecDepth 100000 in
set_option maxHeartbeats 1000000 in
theorem idxValues {w : World} {T : Nat → Tag} {lo x kb yb n : Nat} {ids : Int → Bool} {F : List UInt8 → List UInt8 → Int → Nat} (h : IdxAt w T lo x kb yb n ids F) (hn : n ≤ 1000000) (k : ByteArray) (hk : k.size ≤ maxLen) :
    Calls Try.prog 23 #[.pointer (some ⟨x, 0, none⟩), .string k] w fun e w' => ∃ v ss, e = .returned v ∧ ss.Nodup ∧ (∀ s, s ∈ ss ↔ ∃ i, 0 < F k.data.toList s i) ∧ AnsS w w' v ss := by
  obtain ⟨hb, g, h1, h2⟩ := h
  have hkey := h2 k.data.toList
  have VO := callsIn_wide (n := 5) |>.2 (valuesOf_g hb h1 k hk)
  have hfV : Fence.wide.fn 36 := trivial
  have hfK : Fence.wide.fn 44 := trivial
  have hfS : Fence.wide.fn 42 := trivial
  clear h1 h2 hb
  refine (callsIn_wide (n := 6)).1 ?_
  cases hg : g k.data.toList with
  | none =>
    rw [hg] at VO hkey
    have cS := sortedV_nil w
    have HK := Lib.hid hkey
    clear hkey
    refine callsIn_of_wp Try.func23 rfl trivial ?_ rfl
    simp only [Try.ntmps23, List.size_toArray, List.length_cons, List.length_nil, Nat.reduceAdd, Nat.reduceSub, Array.replicate_succ, Array.replicate_zero, List.push_toArray, List.append_toArray, List.nil_append, List.cons_append]
    gi_wp2_with (first
      | (gi_at_call 36; refine VO.mono ?_; rintro e w1 ⟨rfl, rfl⟩)
      | (gi_at_call 44; refine (keysV_call _ _).mono ?_; rintro e w' ⟨rfl, rfl⟩)
      | (gi_at_call 42; refine cS.mono ?_; rintro e w' ⟨rfl, hb⟩))
    go_ret
    exact ⟨_, [], rfl, List.nodup_nil, fun s => ⟨fun e => (by cases e), fun ⟨i, e⟩ => by have : F k.data.toList s i = 0 := HK.out s i; omega⟩, ansS_nil hb⟩
  | some b =>
    rw [hg] at VO hkey
    obtain ⟨⟨_, _, gg, ⟨D, ho, hh, _⟩, hv⟩, _⟩ := hkey
    have cS := sortedV b n D refElem w ho (Nat.le_trans ho.size_le (lookRoom n hn))
    obtain ⟨nd, mm⟩ := strKeys_mem ho
    have HM := Lib.hid (And.intro nd (And.intro mm (And.intro hh hv)))
    clear hh hv nd mm
    refine callsIn_of_wp Try.func23 rfl trivial ?_ rfl
    simp only [Try.ntmps23, List.size_toArray, List.length_cons, List.length_nil, Nat.reduceAdd, Nat.reduceSub, Array.replicate_succ, Array.replicate_zero, List.push_toArray, List.append_toArray, List.nil_append, List.cons_append]
    gi_wp2_with (first
      | (gi_at_call 36; refine VO.mono ?_; rintro e w1 ⟨rfl, rfl⟩)
      | (gi_at_call 44; refine (keysV_call _ _).mono ?_; rintro e w' ⟨rfl, rfl⟩)
      | (gi_at_call 42; refine cS.mono ?_; rintro e w' ⟨v, ss, rfl, hS, ha⟩))
    go_ret
    refine ⟨v, ss, rfl, (hS.nodup_iff).2 HM.out.1, fun s => ?_, ha⟩
    rw [hS.mem_iff, HM.out.2.1, HM.out.2.2.1]
    have := HM.out.2.2.2 s
    cases hs : gg s with
    | none => rw [hs] at this; exact ⟨fun e => (by cases e), fun ⟨i, e⟩ => by have : F k.data.toList s i = 0 := this i; omega⟩
    | some c => rw [hs] at this; exact ⟨fun _ => this.2.2.2, fun _ => rfl⟩
set_option maxRecDepth 100000 in
set_option maxHeartbeats 1000000 in
theorem idxEqual {w : World} {T : Nat → Tag} {lo x kb yb n : Nat} {ids : Int → Bool} {F : List UInt8 → List UInt8 → Int → Nat} (h : IdxAt w T lo x kb yb n ids F) (hn : n ≤ 1000000) (k s : ByteArray) (hk : k.size ≤ maxLen) (hs : s.size ≤ maxLen) :
    Calls Try.prog 20 #[.pointer (some ⟨x, 0, none⟩), .string k, .string s] w fun e w' => ∃ v ss, e = .returned v ∧ ss.Nodup ∧ (∀ i, i ∈ ss ↔ 0 < F k.data.toList s.data.toList i) ∧ AnsI w w' v ss := by
  obtain ⟨hb, g, h1, h2⟩ := h
  obtain ⟨d, lk, hh⟩ := (h2 k.data.toList).look s hs
  have VO := callsIn_wide (n := 5) |>.2 (valuesOf_g hb h1 k hk)
  have hfV : Fence.wide.fn 36 := trivial
  have hfK : Fence.wide.fn 40 := trivial
  have hfS : Fence.wide.fn 39 := trivial
  clear h1 h2 hb
  refine (callsIn_wide (n := 6)).1 ?_
  cases d with
  | none =>
    have cS := sortedH_nil w
    have HK := Lib.hid hh
    clear hh
    refine callsIn_of_wp Try.func20 rfl trivial ?_ rfl
    simp only [Try.ntmps20, List.size_toArray, List.length_cons, List.length_nil, Nat.reduceAdd, Nat.reduceSub, Array.replicate_succ, Array.replicate_zero, List.push_toArray, List.append_toArray, List.nil_append, List.cons_append]
    gi_wp2_with (first
      | (gi_at_call 36; refine VO.mono ?_; rintro e w1 ⟨rfl, rfl⟩)
      | (gi_at_call 40; refine (keysH_call _ _).mono ?_; rintro e w' ⟨rfl, rfl⟩)
      | (gi_at_call 39; refine cS.mono ?_; rintro e w' ⟨rfl, hb⟩))
    go_ret
    exact ⟨_, [], rfl, List.nodup_nil, fun i => ⟨fun e => (by cases e), fun e => by have : F k.data.toList s.data.toList i = 0 := HK.out i; omega⟩, ansI_nil hb⟩
  | some c =>
    obtain ⟨_, _, hc, _⟩ := hh
    obtain ⟨D, ho, q1, _⟩ := has_i64 hc
    have cS := sortedH c n D _ w ho (Nat.le_trans ho.size_le (lookRoom n hn))
    obtain ⟨nd, mm⟩ := intKeys_mem ho
    have HM := Lib.hid (And.intro nd (And.intro mm q1))
    clear q1 nd mm
    refine callsIn_of_wp Try.func20 rfl trivial ?_ rfl
    simp only [Try.ntmps20, List.size_toArray, List.length_cons, List.length_nil, Nat.reduceAdd, Nat.reduceSub, Array.replicate_succ, Array.replicate_zero, List.push_toArray, List.append_toArray, List.nil_append, List.cons_append]
    gi_wp2_with (first
      | (gi_at_call 36; refine VO.mono ?_; rintro e w1 ⟨rfl, rfl⟩)
      | (gi_at_call 40; refine (keysH_call _ _).mono ?_; rintro e w' ⟨rfl, rfl⟩)
      | (gi_at_call 39; refine cS.mono ?_; rintro e w' ⟨v, ss, rfl, hS, ha⟩))
    go_ret
    exact ⟨v, ss, rfl, (hS.nodup_iff).2 HM.out.1, fun i => by rw [hS.mem_iff, HM.out.2.1, HM.out.2.2], ha⟩
end Go.Proofs.Ytiebbgbcojgeoaa

namespace Go.Proofs.Ytiebbgbcojgeoaa
open Go.RowKit

/-- The blocks from B on, k of them, lie as they lay. -/
structure Stay (B k : Nat) (W W' : World) : Prop where
  size : W.heap.size ≤ W'.heap.size
  same : ∀ r, B ≤ r → r < B + k → W'.heap[r]? = W.heap[r]?

theorem Stay.refl (B k : Nat) (W : World) : Stay B k W W := ⟨Nat.le_refl _, fun _ _ _ => rfl⟩
theorem Stay.trans {B k : Nat} {X Y Z : World} (h : Stay B k X Y) (g : Stay B k Y Z) : Stay B k X Z :=
  ⟨Nat.le_trans h.size g.size, fun r a b => (g.same r a b).trans (h.same r a b)⟩
theorem Stay.alloc {B k : Nat} {X Y : World} (h : Stay B k X Y) (hs : B + k ≤ Y.heap.size) (o : Obj) : Stay B k X (Y.alloc o) :=
  h.trans ⟨by simp, fun r _ b => Below.heap_alloc _ _ _ (by omega)⟩
theorem Stay.setCell {B k : Nat} {X Y : World} (h : Stay B k X Y) {p : Addr} (hp : p.block < B ∨ B + k ≤ p.block) (u : Value) : Stay B k X (Y.setCell p u) :=
  h.trans ⟨by simp [World.setCell], fun r a b => Below.heap_setCell _ _ _ _ (by omega)⟩
theorem Stay.drew {B k : Nat} {X Y : World} (h : Stay B k X Y) : Stay B k X Y.drew := ⟨h.size, h.same⟩
theorem Stay.grown {B k : Nat} {X Y Z : World} (h : Stay B k X Y) {row : Option Nat} (hg : Y.grownBy Z row) (hs : B + k ≤ Y.heap.size) (hr : ∀ r, row = some r → r < B ∨ B + k ≤ r) : Stay B k X Z :=
  h.trans ⟨hg.size, fun r a b => hg.block r (by omega) (fun e => by have := hr r e.symm; omega)⟩
theorem Stay.below {B k n : Nat} {X Y Z : World} (h : Stay B k X Y) (hb : Below n Y Z) (hn : B + k ≤ n) : Stay B k X Z :=
  h.trans ⟨hb.size, fun r _ b => hb.block r (by omega)⟩

/-- Whatever lay lies as it lay, but for the blocks from B on, k of them. -/
structure Turned (B k : Nat) (W W' : World) : Prop where
  os : W'.os = W.os
  tape : W'.tape = W.tape
  output : W'.output = W.output
  size : W.heap.size ≤ W'.heap.size
  same : ∀ r, r < W.heap.size → r < B ∨ B + k ≤ r → W'.heap[r]? = W.heap[r]?

theorem Turned.refl (B k : Nat) (W : World) : Turned B k W W := ⟨rfl, rfl, rfl, Nat.le_refl _, fun _ _ _ => rfl⟩
theorem Turned.trans {B k : Nat} {X Y Z : World} (h : Turned B k X Y) (g : Turned B k Y Z) : Turned B k X Z :=
  ⟨g.os.trans h.os, g.tape.trans h.tape, g.output.trans h.output, Nat.le_trans h.size g.size, fun r a b => (g.same r (Nat.lt_of_lt_of_le a h.size) b).trans (h.same r a b)⟩
theorem Turned.grown {B k : Nat} {X Y Z : World} (h : Turned B k X Y) {row : Option Nat} (hg : Y.grownBy Z row) (hr : ∀ r, row = some r → B ≤ r ∧ r < B + k) : Turned B k X Z :=
  h.trans ⟨hg.os, hg.tape, hg.output, hg.size, fun r a b => hg.block r a (fun e => by have := hr r e.symm; omega)⟩
theorem Turned.alloc {B k : Nat} {X Y : World} (h : Turned B k X Y) (o : Obj) : Turned B k X (Y.alloc o) :=
  h.grown (World.grownBy_alloc Y o none) (fun r e => by cases e)
theorem Turned.setCell {B k : Nat} {X Y : World} (h : Turned B k X Y) {p : Addr} (a : B ≤ p.block) (b : p.block < B + k) (u : Value) : Turned B k X (Y.setCell p u) :=
  h.trans ⟨rfl, rfl, rfl, by simp [World.setCell], fun r _ c => Below.heap_setCell _ _ _ _ (by omega)⟩
theorem Turned.drew {B k : Nat} {X Y : World} (h : Turned B k X Y) : Turned B k X Y.drew := ⟨h.os, h.tape, h.output, h.size, h.same⟩
theorem Turned.of_below {B k n : Nat} {X Y : World} (h : Below n X Y) (hn : X.heap.size ≤ n) : Turned B k X Y :=
  ⟨h.os, h.tape, h.output, h.size, fun r a _ => h.block r (by omega)⟩
theorem Turned.below {B k n : Nat} {X Y : World} (h : Turned B k X Y) (hn : n ≤ B) (hs : n ≤ X.heap.size) : Below n X Y :=
  ⟨h.os, h.tape, h.output, h.size, fun r a => h.same r (by omega) (by omega)⟩
theorem Turned.box {B k b : Nat} {X Y : World} {t : TypeId} {v : Value} (h : Turned B k X Y) (hv : Boxed X b t v) (hb : b < B ∨ B + k ≤ b) : Boxed Y b t v :=
  (h.same b (Array.getElem?_eq_some_iff.1 (show X.heap[b]? = _ from hv)).1 hb).trans hv
theorem Turned.row {B k : Nat} {X Y : World} {base : Nat} {e : TypeId} {size : Nat} {v : Value} {n : Nat} {xs : List Value} (h : Turned B k X Y) (hr : X.ownsRow base e size v n xs)
    (hb : ∀ b, v.ownBlock = some b → b < B ∨ B + k ≤ b) : Y.ownsRow base e size v n xs := by
  refine ⟨hr.1, ?_⟩
  rcases hr.2 with hn | ⟨g, cap, cur, rfl, hbase, hg, rest⟩
  · exact .inl hn
  · exact .inr ⟨g, cap, cur, rfl, hbase, (h.same g (Array.getElem?_eq_some_iff.1 hg).1 (hb g rfl)).trans hg, rest⟩

/-- What abides the turns of the blocks from B on, k of them, and whatever is laid. -/
def Abide {β : Type} (B k : Nat) (J : β → World → Prop) : Prop := ∀ s W W', J s W → Turned B k W W' → J s W'

theorem Abide.alloc {β : Type} {B k : Nat} {J : β → World → Prop} (h : Abide B k J) {s : β} {W : World} (o : Obj) (hs : J s W) : J s (W.alloc o) :=
  h s W _ hs ((Turned.refl _ _ _).alloc o)
theorem Abide.and {β : Type} {B k : Nat} {I J : β → World → Prop} (h : Abide B k I) (g : Abide B k J) : Abide B k (fun s W => I s W ∧ J s W) :=
  fun s W W' hs ht => ⟨h s W W' hs.1 ht, g s W W' hs.2 ht⟩
theorem Abide.below {β : Type} {B k n : Nat} {w : World} (hn : n ≤ w.heap.size) (hB : n ≤ B) : Abide B k (fun (_ : β) W => Below n w W) :=
  fun _ _ _ hs ht => hs.trans (ht.below hB (Nat.le_trans hn hs.size))
/-- A box outside. -/
theorem Abide.box {β : Type} {B k b : Nat} {t : TypeId} (hb : b < B ∨ B + k ≤ b) (f : β → Value) : Abide B k (fun s W => Boxed W b t (f s)) :=
  fun _ _ _ hs ht => ht.box hs hb

/-- How the body of a round may be left. -/
def left {α : Type} (B k : Nat) (I : List α → World → Prop) (Ix : Code → List α → World → Prop) (xs : List α) (W : World) : Exit → Act → World → Prop
  | .normal, _, W' => Stay B k W W' ∧ I xs W'
  | .ret, _, W' => Stay B k W W' ∧ Ix .ret xs W'
  | .exit id, _, W' => Stay B k W W' ∧ Ix (.exit id) xs W'
  | .goto t, _, W' => Stay B k W W' ∧ Ix (.goto t) xs W'
  | .panic _, _, _ => False
  | .outgrown, _, _ => False

variable {P : Program}

end Go.Proofs.Ytiebbgbcojgeoaa

namespace Go.Proofs.Ytiebbgbcojgeoaa
open Go.RowKit Go.Maps Go.Sort Go.Shelf
attribute [local go_sem] Oper.semAt_some

/-- append of one value in a round, and where the new row lies. -/
theorem wpListIn_append_at {F : Fence} {n : Nat} {P : Program} (w : World) {ops : Array Oper} {rest : List Oper} {o : Oper} {a : Act} {Q : Exit → Act → World → Prop}
    (hg : o.guard = none) (s x : Operand) (t : TypeId) (hop : o.op = Op.call { callee := Callee.builtin Builtin.append, args := #[s, x], argTypes := #[t, t] })
    (base : Nat) (e : TypeId) (i : TypeInfo) (z : Value) (size bytes : Nat) (h1 : P.underlying t = some (.slice e)) (h2 : P.info? e = some i) (h3 : i.zero = some z) (h4 : i.size = size) (h5 : i.bytes = bytes) (h6 : z.cells.size = size) (h7 : 0 < size)
    (v : Value) (k : Nat) (xs : List Value) (hs : a.eval s = v) (hown : w.ownsRow base e size v k xs) (ad : Addr) (m c : Nat) (news : List Value) (hx : a.eval x = .slice (some ad) m c) (hn : news.length = m * size)
    (hc : ∀ j u, news[j]? = some u → w.cell? (ad.add j) = some u) (h1c : ∀ u ∈ news, u.oneCell' = true) (b1 : k + m ≤ maxLen) (b2 : (k + m) * bytes ≤ 140737488355328) (b3 : base ≤ w.heap.size)
    (hK : ∀ v' w', w'.ownsRow base e size v' (k + m) (xs ++ news) → w.grownBy w' v.ownBlock → Hid (v'.ownBlock = v.ownBlock ∨ v'.ownBlock = some w.heap.size) → wpListIn F n P ops Q rest (a.put o.dst v') w') :
    wpListIn F n P ops Q (o :: rest) a w := by
  refine wpListIn_plain hg fun K hK' => ?_
  obtain ⟨v', w', hrun, r1, r2, _, r3⟩ := run_append_own_at (P := P) w base t o.type e i z size bytes h1 h2 h3 h4 h5 h6 h7 v k xs hown ad m c news hn hc h1c b1 b2 b3
  unfold Oper.wpIn
  refine ⟨?_, ?_⟩
  · simp [Oper.about, hop, resolve, Target.leads, Sem.run_pure]
  · rw [Oper.semAt_plain F _ _ (by rw [hop]; intro c hc'; cases hc')]
    simp [execOp, hop, resolve, invoke, builtin, hs, hx, hrun, Result.andThen]
    exact hK' _ _ (hK v' w' r1 r2 r3)
theorem row_sliceZ {w : World} {base : Nat} {e : TypeId} {size : Nat} {v : Value} {n : Nat} {xs : List Value} (h : w.ownsRow base e size v n xs) : ∃ a cap, v = .slice a n cap ∧ n ≤ cap := by
  rcases h.2 with ⟨rfl, rfl⟩ | ⟨g, cap, cur, rfl, _, _, hle, _⟩
  · exact ⟨none, 0, rfl, Nat.le_refl _⟩
  · exact ⟨_, cap, rfl, hle⟩
theorem row_belowZ {w w' : World} {base N : Nat} {e : TypeId} {size : Nat} {v : Value} {n : Nat} {xs : List Value} (h : w.ownsRow base e size v n xs) (hb : Below N w w') (hN : w.heap.size ≤ N) : w'.ownsRow base e size v n xs :=
  row_only (S := fun _ => False) h (Only.of_below hb hN) (fun _ _ h => h)
/-- What has come so far, in the box of block B: onto xs. -/
def ApI (lo B : Nat) (w : World) (v : Value) (xs pre : List Int) (W : World) : Prop :=
  ∃ u, Boxed W B 51 u ∧ W.ownsRow lo 3 1 u (xs ++ pre).length ((xs ++ pre).map encZ) ∧ (∀ r, u.ownBlock = some r → v.ownBlock = some r ∨ B < r) ∧ Only (fun r => v.ownBlock = some r) w W
theorem row_cells {W : World} {base : Nat} {e : TypeId} {size n r : Nat} {u : Value} {xs : List Value} (h : W.ownsRow base e size u n xs) (hr : u.ownBlock = some r) : ∃ cur, W.heap[r]? = some (.cells cur e (0, 0)) := by
  rcases h.2 with ⟨rfl, _⟩ | ⟨g, cap, cur, rfl, _, hg, _⟩
  · cases hr
  · have : g = r := Option.some.inj hr
    subst this; exact ⟨_, hg⟩
theorem row_grown {W W' : World} {base : Nat} {e : TypeId} {size n : Nat} {u : Value} {xs : List Value} {row : Option Nat} (h : W.ownsRow base e size u n xs) (hg : W.grownBy W' row) (hne : ∀ r, row = some r → u.ownBlock ≠ some r) : W'.ownsRow base e size u n xs :=
  row_only (S := fun r => row = some r) h ((Only.refl _ W).grown hg (fun _ hk => .inl hk)) (fun b hb q => hne b q hb)
theorem tInt_ne : 51 ≠ 3 := by decide
theorem ap_own (lo : Nat) (w : World) (v : Value) (xs : List Int) (B : Nat) (hB : w.heap.size + 1 ≤ B) : OwnFrom B (ApI lo w.heap.size w v xs) := by
  intro pre W W' row ⟨u, h1, h2, h3, h4⟩ hg hr
  refine ⟨u, h1.kept hg (fun e => ?_), row_grown h2 hg (fun r e hu => ?_), h3, h4.grown hg (fun k hk => .inr (by have := (hr k hk).1; omega))⟩
  · have := (hr _ e.symm).1; omega
  · obtain ⟨_, o, ho, hc⟩ := hr r e
    obtain ⟨cur, hcur⟩ := row_cells h2 hu
    rw [ho] at hcur
    cases hcur
    cases hc
theorem infoIntZ : (Try.prog.info? 3).map (fun i => (i.zero, i.size, i.bytes)) = some (some (.int .i64 0), 1, 8) := by kernel_rfl
set_option maxRecDepth 100000 in
set_option maxHeartbeats 4000000 in
theorem appendSeq_any (lo : Nat) (v : Value) (xs : List Int) (w : World) (hv : w.ownsRow lo 3 1 v xs.length (xs.map encZ)) (hlo : lo ≤ w.heap.size) (Bm b n : Nat) {R : Value → Option (DataW Unit × List MemPlace)} (D : DataW Unit) (hBm : Bm < w.heap.size) (hm : w.cell? ⟨Bm, 0, none⟩ = some (.map (some b)))
    (hown : w.ownsMap Try.prog 3 R b n D) (hlen : xs.length + Maps.size D ≤ 10000000000000) :
    Calls Try.prog 50 #[v, .func (.func 54) #[] #[.pointer (some ⟨Bm, 0, none⟩)]] w fun e w' => ∃ u ss, e = .returned u ∧ ss.Perm (intKeys D) ∧ w'.ownsRow lo 3 1 u (xs ++ ss).length ((xs ++ ss).map encZ) ∧ Only (fun r => v.ownBlock = some r) w w' := by
  have hseq := AnyZI.keys_stops (ρ := Try.keysH_ren) { Try.keysH with } Fence.wide 8 trivial rfl (by omega) Bm b n D w hBm hm hown
  obtain ⟨va, vc, rfl, hvc⟩ := row_sliceZ hv
  have hV := Lib.hid hv
  have HS := Lib.hid hseq
  clear hv hseq hown hm
  refine callsIn_wide (n := 9).1 ?_
  refine callsIn_of_wp_marks Try.func50 rfl trivial ?_ rfl
  simp only [Try.ntmps50, List.size_toArray, List.length_cons, List.length_nil, Nat.reduceAdd, Nat.reduceSub, Array.replicate_succ, Array.replicate_zero, List.push_toArray, List.append_toArray, List.nil_append, List.cons_append]
  gi_wp2_with fail
  obtain ⟨w1, hw1⟩ : ∃ w1, w1 = w.alloc (.cells #[.slice va xs.length vc] 51) := ⟨_, rfl⟩
  have hz : w1.heap.size = w.heap.size + 1 := by rw [hw1]; simp
  have B0 : Boxed w1 w.heap.size 51 (.slice va xs.length vc) := by rw [hw1]; exact Boxed.new w _ _
  have hb1 : Below w.heap.size w w1 := by rw [hw1]; exact (Below.refl _ w).alloc (Nat.le_refl _) _
  have r1 : w1.ownsRow lo 3 1 (.slice va xs.length vc) xs.length (xs.map encZ) := row_belowZ hV.out hb1 (Nat.le_refl _)
  rw [← hw1]
  clear hw1
  refine wpIn_rangeFunc_ownF (w := w1) rfl (by decide) rfl trivial (enters_of Try.func54 (by kernel_rfl) rfl) (encs := fun x : Int => #[encZ x]) (Kp := KeepsWalks) (w0 := w) HS.out walksK_t walksK_b hb1 (fun _ => rfl)
    (ApI lo w.heap.size w (.slice va xs.length vc) xs) (fun _ _ _ => False) (by rw [hz]; exact ap_own lo w _ xs _ (Nat.le_refl _)) (fun _ _ _ _ _ hs _ _ => hs)
    ⟨_, B0, by simpa using r1, fun r hr => .inl hr, Only.of_below hb1 (Nat.le_refl _)⟩
    (fun x => { tmps := #[.slice va xs.length vc, .func (.func 54) #[] #[.pointer (some ⟨Bm, 0, none⟩)], .pointer (some ⟨w.heap.size, 0, none⟩), undef, .slice none 0 0, encZ x, .func (.func 54) #[] #[.pointer (some ⟨Bm, 0, none⟩)], encZ x, undef, undef, undef, undef, undef], defers := [] }) ?assign ?body ?done ?stop
  case assign =>
    intro l x W K hK
    gi_wp2
    exact hK
  case body =>
    rintro l pre x W ⟨u, h1, h2, h3, h4⟩ hpre
    obtain ⟨i0, hi, hz0, hz1, hz2⟩ := info_parts infoIntZ
    obtain ⟨ys, hys⟩ : ∃ ys, ys = xs ++ pre := ⟨_, rfl⟩
    have hxl : ys.length ≤ 10000000000000 := by rw [hys, List.length_append]; omega
    rw [← hys] at h2
    have HY := Lib.hid hys
    clear hys
    obtain ⟨ua, uc, rfl, huc⟩ := row_sliceZ h2
    have c1 := h1.cell
    have HB := Lib.hid h1
    have H4 := Lib.hid h4
    have hsw := h4.size
    have hbx := h1.lt
    have r2 := row_belowZ h2 ((Below.refl W.heap.size W).alloc (Nat.le_refl _) (.cells #[.int .i64 x] 3)) (Nat.le_refl _)
    have H2 := Lib.hid h2
    have hne : (Value.slice ua ys.length uc).ownBlock ≠ some w.heap.size := fun e => by
      obtain ⟨cur, hc⟩ := row_cells h2 e
      have := (show W.heap[w.heap.size]? = _ from h1).symm.trans hc
      injection this with this
      injection this with _ this _
      exact tInt_ne this
    have HNE := Lib.hid hne
    have H3 := Lib.hid h3
    clear h1 h4 h2 hne h3
    gi_wp2_with (first
      | (gi_at_builtin; refine wpListIn_append_at _ rfl _ _ 51 rfl lo 3 i0 (.int .i64 0) 1 8 Try.underlying51 hi hz0 hz1 hz2 rfl (by decide) _ _ _ rfl r2 ⟨W.heap.size, 0, none⟩ 1 1 [.int .i64 x] rfl rfl (cell_one_new _ _ _) (by simp [Value.oneCell']) (by unfold maxLen; omega) (by omega) (by simp; omega) ?_; intro v' w3 hown3 hg3 hbk
         have hb3 : Boxed w3 w.heap.size 51 (.slice ua ys.length uc) := (HB.out.alloc _).kept hg3 (fun e => HNE.out e.symm)
         have hc3 := hb3.cell
         have hf3 := hb3.frozen
         obtain ⟨g', cap', rfl⟩ := ownsRow_succ hown3
         have HB3 := Lib.hid hb3
         have HG3 := Lib.hid hg3
         have HO3 := Lib.hid hown3
         clear hb3 hg3 hown3))
    have hg : (W.alloc (.cells #[.int .i64 x] 3)).grownBy w3 (Value.slice ua ys.length uc).ownBlock := HG3.out
    have hrw : ∀ j o, (Value.slice ua ys.length uc).ownBlock = some j → (W.alloc (.cells #[.int .i64 x] 3)).heap[j]? = some o → o.isCells = true := fun j o e ho => by
      obtain ⟨cur, hc⟩ := row_cells r2 e
      rw [ho] at hc
      cases hc
      rfl
    have hko : KeepsOthers W (w3.setCell ⟨w.heap.size, 0, none⟩ (.slice (some ⟨g', 0, none⟩) (ys.length + 1) cap')) := ((KeepsOthers.alloc W _).trans (KeepsOthers.of_grownBy hg hrw)).trans (KeepsOthers.setCell _ _ _)
    have hwx : (W.alloc (.cells #[.int .i64 x] 3)).heap.size = W.heap.size + 1 := by simp
    have hgb : (Value.slice ua ys.length uc).ownBlock = some g' ∨ g' = W.heap.size + 1 := by
      rcases hbk.out with e | e
      · exact .inl e.symm
      · refine .inr ?_
        have e' : some g' = some (W.alloc (.cells #[.int .i64 x] 3)).heap.size := e
        rw [hwx] at e'
        exact Option.some.inj e'
    have hgne : g' ≠ w.heap.size := fun e => by
      subst e
      rcases hgb with e | e
      · exact HNE.out e
      · omega
    have hrow := row_only (S := (· = w.heap.size)) HO3.out ((Only.refl (· = w.heap.size) w3).cellS 0 (.slice (some ⟨g', 0, none⟩) (ys.length + 1) cap')) (fun b hb e => hgne (by have q : g' = b := Option.some.inj hb; omega))
    have hon : Only (fun r => (Value.slice ua ys.length uc).ownBlock = some r ∨ r = w.heap.size) W (w3.setCell ⟨w.heap.size, 0, none⟩ (.slice (some ⟨g', 0, none⟩) (ys.length + 1) cap')) :=
      (((Only.refl _ W).alloc _).grown hg (fun k hk => .inl (.inl hk))).setCell (p := ⟨w.heap.size, 0, none⟩) (.inl (.inr rfl)) _
    have e1 : xs ++ (pre ++ [x]) = ys ++ [x] := by rw [HY.out, List.append_assoc]
    refine ⟨hko, hko.walks, _, Boxed.set _ HB3.out, ?_, ?_, H4.out.trans hon ?_⟩
    · rw [e1]
      have : (ys ++ [x]).map encZ = ys.map encZ ++ [.int .i64 x] := by rw [List.map_append]; rfl
      rw [this, List.length_append]
      exact hrow
    · intro r hr
      have q : g' = r := Option.some.inj hr
      subst q
      rcases hgb with e | e
      · exact H3.out _ e
      · exact .inr (by omega)
    · rintro r hr (e | e)
      · rcases H3.out r e with q | q
        · exact q
        · omega
      · omega
  case done =>
    rintro D' ss W hD ⟨hperm, _⟩ ⟨u, h1, h2, h3, h4⟩ hK
    rw [hz] at hD
    obtain ⟨ys, hys⟩ : ∃ ys, ys = xs ++ ss := ⟨_, rfl⟩
    rw [← hys] at h2
    have HY := Lib.hid hys
    clear hys
    obtain ⟨ua, uc, rfl, huc⟩ := row_sliceZ h2
    have c := h1.cell
    have H2 := Lib.hid h2
    have H4 := Lib.hid h4
    have HD := Lib.hid hD
    clear h2 h3 h4 hD
    gi_wp2
    refine ⟨by simp, .inl ⟨_, _, rfl, run_takeDeferred hK, ?_⟩⟩
    have pb := grownBy_putObj' W D' (.deferred none)
    have hr5 := row_grown H2.out pb (fun r e hu => by
      cases e
      obtain ⟨cur, hc⟩ := row_cells H2.out hu
      rw [hK] at hc
      cases hc)
    exact ⟨_, results_tmp rfl _ _ _, .slice ua ys.length uc, ss, rfl, hperm, by rw [← HY.out]; exact hr5, H4.out.grown pb (fun k e => .inr (by cases e; have := HD.out; omega))⟩
  case stop =>
    intro D c pre W _ _ h _
    exact h.elim
end Go.Proofs.Ytiebbgbcojgeoaa

namespace Go.Proofs.Ytiebbgbcojgeoaa
open Go.RowKit Go.Maps

/-- How many of the fields have a key and a value. -/
def cntF (k v : List UInt8) (fs : List (List UInt8 × List UInt8)) : Nat := fs.countP fun f => f.1 == k && f.2 == v
theorem addFs_eq (id : Int) : ∀ (fs : List (List UInt8 × List UInt8)) (F : List UInt8 → List UInt8 → Int → Nat) (k v : List UInt8) (i : Int), addFs id F fs k v i = F k v i + if i = id then cntF k v fs else 0
  | [], F, k, v, i => by
    show F k v i = _
    unfold cntF; simp
  | f :: r, F, k, v, i => by
    have ih := addFs_eq id r (fun k => if k = f.1 then upF (F k) f.2 id else F k) k v i
    have e : addFs id F (f :: r) k v i = addFs id (fun k => if k = f.1 then upF (F k) f.2 id else F k) r k v i := rfl
    rw [e, ih]
    unfold cntF
    rw [List.countP_cons]
    by_cases hi : i = id
    · rw [if_pos hi, if_pos hi]
      by_cases hk : k = f.1
      · rw [if_pos hk]
        by_cases hv : v = f.2
        · subst hk hv hi; simp [upF]; omega
        · have : (f.1 == k && f.2 == v) = false := by simp [Ne.symm hv]
          simp only [upF]
          rw [if_neg (fun e => hv e.1), this]; simp
      · have : (f.1 == k && f.2 == v) = false := by simp [Ne.symm hk]
        rw [if_neg hk, this]; simp
    · rw [if_neg hi, if_neg hi]
      by_cases hk : k = f.1
      · rw [if_pos hk]; simp only [upF]; rw [if_neg (fun e => hi e.2)]
      · rw [if_neg hk]
/-- A stanza: its number, its fields. -/
abbrev Sz := Int × List (List UInt8 × List UInt8)
def idsOf (rs : List Sz) (i : Int) : Bool := rs.any fun s => s.1 == i
def fOf : List Sz → List UInt8 → List UInt8 → Int → Nat
  | [], _, _, _ => 0
  | s :: r, k, v, i => (if i = s.1 then cntF k v s.2 else 0) + fOf r k v i
theorem fOf_append : ∀ (a b : List Sz) (k v : List UInt8) (i : Int), fOf (a ++ b) k v i = fOf a k v i + fOf b k v i
  | [], b, k, v, i => by simp [fOf]
  | s :: a, b, k, v, i => by
    have := fOf_append a b k v i
    simp only [List.cons_append, fOf, this]; omega
theorem idsOf_append (a b : List Sz) (i : Int) : idsOf (a ++ b) i = (idsOf a i || idsOf b i) := by unfold idsOf; rw [List.any_append]
theorem idsOf_cons (s : Sz) (b : List Sz) (i : Int) : idsOf (s :: b) i = (s.1 == i || idsOf b i) := rfl
theorem idsOf_iff (rs : List Sz) (i : Int) : idsOf rs i = true ↔ i ∈ rs.map Prod.fst := by
  unfold idsOf
  rw [List.any_eq_true, List.mem_map]
  constructor
  · rintro ⟨s, h, e⟩; exact ⟨s, h, by simpa using e⟩
  · rintro ⟨s, h, e⟩; exact ⟨s, h, by simpa using e⟩
theorem fOf_out : ∀ (rs : List Sz) (k v : List UInt8) (i : Int), idsOf rs i = false → fOf rs k v i = 0
  | [], _, _, _, _ => rfl
  | s :: r, k, v, i, h => by
    rw [idsOf_cons] at h
    simp only [Bool.or_eq_false_iff, beq_eq_false_iff_ne, ne_eq] at h
    rw [fOf, if_neg (fun e => h.1 e.symm), fOf_out r k v i h.2]
/-- A stanza that isn't known is taken in. -/
theorem fOf_put (a b : List Sz) (id : Int) (fs : List (List UInt8 × List UInt8)) : addFs id (fOf (a ++ b)) fs = fOf (a ++ (id, fs) :: b) := by
  funext k v i
  rw [addFs_eq, fOf_append, fOf_append, fOf]; dsimp only; omega
theorem idsOf_put (a b : List Sz) (id : Int) (fs : List (List UInt8 × List UInt8)) : (fun i => if i = id then true else idsOf (a ++ b) i) = idsOf (a ++ (id, fs) :: b) := by
  funext i
  rw [idsOf_append, idsOf_append, idsOf_cons]
  by_cases h : i = id
  · rw [if_pos h]; simp [h]
  · rw [if_neg h]
    have : ((id, fs).1 == i) = false := by simpa using Ne.symm h
    rw [this, Bool.false_or]
theorem fOf_snoc (a : List Sz) (id : Int) (fs : List (List UInt8 × List UInt8)) : addFs id (fOf a) fs = fOf (a ++ [(id, fs)]) := by
  have := fOf_put a [] id fs
  rwa [List.append_nil] at this
theorem idsOf_snoc (a : List Sz) (id : Int) (fs : List (List UInt8 × List UInt8)) : (fun i => if i = id then true else idsOf a i) = idsOf (a ++ [(id, fs)]) := by
  have := idsOf_put a [] id fs
  rwa [List.append_nil] at this
/-- A stanza is forgotten. -/
def outF (id : Int) (F : List UInt8 → List UInt8 → Int → Nat) : List UInt8 → List UInt8 → Int → Nat := fun k v i => if i = id then 0 else F k v i
def outI (id : Int) (ids : Int → Bool) : Int → Bool := fun i => if i = id then false else ids i
theorem outF_none (id : Int) (F : List UInt8 → List UInt8 → Int → Nat) (h : ∀ k v, F k v id = 0) : outF id F = F := by
  funext k v i; unfold outF; split
  · rename_i e; subst e; exact (h k v).symm
  · rfl
theorem outI_none (id : Int) (ids : Int → Bool) (h : ids id = false) : outI id ids = ids := by
  funext i; unfold outI; split
  · rename_i e; subst e; exact h.symm
  · rfl
theorem cntF_le (k v : List UInt8) (fs : List (List UInt8 × List UInt8)) : cntF k v fs ≤ fs.length := List.countP_le_length
/-- The sum over numbers that are all different. -/
theorem sum_pick (n : Nat) (j : Int) : ∀ ss : List Int, ss.Nodup → (ss.map fun i => if i = j then n else 0).sum ≤ n
  | [], _ => Nat.zero_le _
  | i :: r, h => by
    have ih := sum_pick n j r (List.nodup_cons.1 h).2
    rw [List.map_cons, List.sum_cons]
    by_cases e : i = j
    · rw [if_pos e]
      have : (r.map fun i => if i = j then n else 0).sum = 0 := by
        have hn : j ∉ r := by rw [← e]; exact (List.nodup_cons.1 h).1
        clear ih h
        induction r with
        | nil => rfl
        | cons a r ih =>
          rw [List.map_cons, List.sum_cons, if_neg (fun q => hn (by rw [q]; exact List.mem_cons_self)), ih (fun q => hn (List.mem_cons_of_mem _ q))]
      omega
    · rw [if_neg e]; omega
/-- How many fields there are, all in all. -/
def numF (rs : List Sz) : Nat := (rs.map fun s => s.2.length).sum
theorem sum_add (f g : Int → Nat) : ∀ ss : List Int, (ss.map fun i => f i + g i).sum = (ss.map f).sum + (ss.map g).sum
  | [] => rfl
  | i :: r => by rw [List.map_cons, List.map_cons, List.map_cons, List.sum_cons, List.sum_cons, List.sum_cons, sum_add f g r]; omega
theorem fOf_sum (k v : List UInt8) : ∀ (rs : List Sz) (ss : List Int), ss.Nodup → (ss.map (fOf rs k v)).sum ≤ numF rs
  | [], ss, _ => by
    have : (ss.map (fOf [] k v)).sum = 0 := by
      induction ss with
      | nil => rfl
      | cons a r ih => rw [List.map_cons, List.sum_cons, ih (by rename_i h; exact (List.nodup_cons.1 h).2)]; rfl
    rw [this]; exact Nat.zero_le _
  | s :: r, ss, h => by
    have ih := fOf_sum k v r ss h
    have e : ss.map (fOf (s :: r) k v) = ss.map fun i => (if i = s.1 then cntF k v s.2 else 0) + fOf r k v i := rfl
    rw [e, sum_add (fun i => if i = s.1 then cntF k v s.2 else 0) (fOf r k v) ss]
    have h1 := sum_pick (cntF k v s.2) s.1 ss h
    have h2 := cntF_le k v s.2
    unfold numF at ih ⊢
    rw [List.map_cons, List.sum_cons]; omega
theorem fOf_pos {k v : List UInt8} {i : Int} : ∀ {rs : List Sz}, 0 < fOf rs k v i → ∃ s ∈ rs, s.1 = i ∧ (k, v) ∈ s.2
  | [], h => by cases h
  | s :: r, h => by
    rw [fOf] at h
    by_cases e : i = s.1
    · by_cases hc : 0 < cntF k v s.2
      · obtain ⟨f, hf, hq⟩ := List.countP_pos_iff.1 hc
        simp only [Bool.and_eq_true, beq_iff_eq] at hq
        exact ⟨s, List.mem_cons_self, e.symm, by rw [← hq.1, ← hq.2]; exact hf⟩
      · rw [if_pos e] at h
        obtain ⟨s', h1, h2⟩ := fOf_pos (k := k) (v := v) (i := i) (rs := r) (by omega)
        exact ⟨s', List.mem_cons_of_mem _ h1, h2⟩
    · rw [if_neg e] at h
      obtain ⟨s', h1, h2⟩ := fOf_pos (k := k) (v := v) (i := i) (rs := r) (by omega)
      exact ⟨s', List.mem_cons_of_mem _ h1, h2⟩
theorem fOf_of {k v : List UInt8} {rs : List Sz} {s : Sz} (hs : s ∈ rs) (hf : (k, v) ∈ s.2) : 0 < fOf rs k v s.1 := by
  induction rs with
  | nil => cases hs
  | cons a r ih =>
    rw [fOf]
    rcases List.mem_cons.1 hs with rfl | hs
    · have : 0 < cntF k v s.2 := List.countP_pos_iff.2 ⟨(k, v), hf, by simp⟩
      rw [if_pos rfl]; omega
    · have := ih hs; omega
end Go.Proofs.Ytiebbgbcojgeoaa

