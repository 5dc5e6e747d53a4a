/- Texts put together: OB, LM, KM, FM, FS, IA, IB. -/
import Derived.Test.YtiebbgbcojgeoaaProg
import Derived.WalkKit
import Derived.Maps.Own
import Derived.Maps.OwnSet
import Derived.Maps.AppendAt
import Derived.Lib.Hide
import Derived.Below
import Derived.Deep.Quiet
import Derived.Deep.WholeRow
import Derived.Test.YtiebbgbcojgeoaaChecked
import Derived.ProofKit
import Derived.OpenShut
import Derived.Lib.Strings
import Derived.Deep.QuietTactic
import Derived.BigQuiet
import Derived.Maps.Views
import Derived.Maps.RangeWalk
import Derived.WalkSpells
set_option linter.unusedVariables false
namespace Go.RowKit
end Go.RowKit
namespace Go.Proofs.Ytiebbgbcojgeoaa
open Go.RowKit

/-- Whatever lay lies as it lay, but for the blocks of S. -/
structure Only (S : Nat → Prop) (W W' : World) : Prop where
  os : W'.os = W.os
  tape : W'.tape = W.tape
  output : W'.output = W.output
  size : W.heap.size ≤ W'.heap.size
  same : ∀ r, r < W.heap.size → ¬ S r → W'.heap[r]? = W.heap[r]?
section
variable {S : Nat → Prop} {X Y Z : World}
theorem Only.refl (S : Nat → Prop) (W : World) : Only S W W := ⟨rfl, rfl, rfl, Nat.le_refl _, fun _ _ _ => rfl⟩
theorem Only.trans {S' : Nat → Prop} (h : Only S X Y) (g : Only S' Y Z) (hs : ∀ r, r < X.heap.size → S' r → S r) : Only S X Z :=
  ⟨g.os.trans h.os, g.tape.trans h.tape, g.output.trans h.output, Nat.le_trans h.size g.size, fun r a b => (g.same r (Nat.lt_of_lt_of_le a h.size) (fun c => b (hs r a c))).trans (h.same r a b)⟩
theorem Only.alloc (h : Only S X Y) (o : Obj) : Only S X (Y.alloc o) :=
  ⟨h.os, h.tape, h.output, by simp; have := h.size; omega, fun r a b => (Below.heap_alloc _ _ _ (Nat.lt_of_lt_of_le a h.size)).trans (h.same r a b)⟩
theorem Only.setCell (h : Only S X Y) {p : Addr} (hp : S p.block ∨ X.heap.size ≤ p.block) (u : Value) : Only S X (Y.setCell p u) :=
  ⟨h.os, h.tape, h.output, by simp only [World.setCell, Array.size_modify]; exact h.size, fun r a b => (Below.heap_setCell _ _ _ _ (by rintro rfl; rcases hp with hp | hp; exact b hp; omega)).trans (h.same r a b)⟩
theorem Only.cellS {p : Nat} (h : Only (· = p) X Y) (o : Nat) (u : Value) : Only (· = p) X (Y.setCell ⟨p, o, none⟩ u) := h.setCell (p := ⟨p, o, none⟩) (.inl rfl) u
theorem Only.drew (h : Only S X Y) : Only S X Y.drew := ⟨h.os, h.tape, h.output, h.size, h.same⟩
theorem Only.drewN (h : Only S X Y) (n : Nat) : Only S X (Y.drewN n) := ⟨h.os, h.tape, h.output, h.size, h.same⟩
theorem Only.grown (h : Only S X Y) {row : Option Nat} (g : Y.grownBy Z row) (hr : ∀ k, row = some k → S k ∨ X.heap.size ≤ k) : Only S X Z :=
  ⟨g.os.trans h.os, g.tape.trans h.tape, g.output.trans h.output, Nat.le_trans h.size g.size, fun r a b => (g.block r (Nat.lt_of_lt_of_le a h.size) (fun e => by rcases hr r e.symm with c | c; exact b c; omega)).trans (h.same r a b)⟩
theorem Only.below (h : Only S X Y) {B : Nat} (g : Below B Y Z) (hB : X.heap.size ≤ B) : Only S X Z :=
  ⟨g.os.trans h.os, g.tape.trans h.tape, g.output.trans h.output, Nat.le_trans h.size g.size, fun r a b => (g.block r (by omega)).trans (h.same r a b)⟩
theorem Only.to_below (h : Only S X Y) {B : Nat} (hB : B ≤ X.heap.size) (hs : ∀ r, r < B → ¬ S r) : Below B X Y :=
  ⟨h.os, h.tape, h.output, h.size, fun r a => h.same r (by omega) (hs r a)⟩
theorem Only.of_below {B : Nat} (g : Below B X Y) (hB : X.heap.size ≤ B) : Only S X Y := (Only.refl S X).below g hB
theorem Only.mono {S' : Nat → Prop} (h : Only S X Y) (hs : ∀ r, r < X.heap.size → S r → S' r) : Only S' X Y := ⟨h.os, h.tape, h.output, h.size, fun r a b => h.same r a (fun c => b (hs r a c))⟩
end

theorem row_same {W W' : World} {base : Nat} {e : TypeId} {size : Nat} {v : Value} {n : Nat} {xs : List Value} (h : W.ownsRow base e size v n xs) (hs : ∀ b, v.ownBlock = some b → W'.heap[b]? = W.heap[b]?) : W'.ownsRow base e size v n xs := by
  refine ⟨h.1, ?_⟩
  rcases h.2 with hn | ⟨g, cap, cur, rfl, hbase, hg, rest⟩
  · exact .inl hn
  · exact .inr ⟨g, cap, cur, rfl, hbase, (hs g rfl).trans hg, rest⟩
theorem row_only {W W' : World} {S : Nat → Prop} {base : Nat} {e : TypeId} {size : Nat} {v : Value} {n : Nat} {xs : List Value} (h : W.ownsRow base e size v n xs) (g : Only S W W') (hs : ∀ b, v.ownBlock = some b → ¬ S b) : W'.ownsRow base e size v n xs :=
  row_same h fun b hb => g.same b (h.lt b hb).2 (hs b hb)
theorem row_cell {W : World} {base : Nat} {e : TypeId} {size : Nat} {v : Value} {n : Nat} {xs : List Value} (h : W.ownsRow base e size v n xs) {p : Addr} (hp : v.ownBlock ≠ some p.block) (u : Value) : (W.setCell p u).ownsRow base e size v n xs :=
  row_same h fun b hb => Below.heap_setCell _ _ _ _ (fun e => hp (by rw [hb, e]))
/-- A block of cells known whole. -/
def Cells (W : World) (b : Nat) (t : TypeId) (cur : Array Value) : Prop := W.heap[b]? = some (.cells cur t (0, 0))
section
variable {W W' : World} {b : Nat} {t : TypeId} {cur : Array Value}
theorem Cells.lt (h : Cells W b t cur) : b < W.heap.size := (Array.getElem?_eq_some_iff.1 (show W.heap[b]? = _ from h)).1
theorem Cells.new (W : World) (t : TypeId) (cur : Array Value) : Cells (W.alloc (.cells cur t)) W.heap.size t cur := heap_alloc_new W _
theorem Cells.alloc (h : Cells W b t cur) (o : Obj) : Cells (W.alloc o) b t cur := (Below.heap_alloc _ _ _ h.lt).trans h
theorem Cells.drewN (h : Cells W b t cur) (n : Nat) : Cells (W.drewN n) b t cur := h
theorem Cells.drew (h : Cells W b t cur) : Cells W.drew b t cur := h
theorem Cells.other (h : Cells W b t cur) {p : Addr} (hp : b ≠ p.block) (u : Value) : Cells (W.setCell p u) b t cur := (Below.heap_setCell _ _ _ _ hp).trans h
theorem Cells.set (h : Cells W b t cur) (i : Nat) (u : Value) : Cells (W.setCell ⟨b, i, none⟩ u) b t (cur.setIfInBounds i u) := by
  obtain ⟨hlt, hk⟩ := Array.getElem?_eq_some_iff.1 (show W.heap[b]? = _ from h)
  show (W.heap.modify b _)[b]? = _
  rw [Array.getElem?_eq_getElem (by rw [Array.size_modify]; exact hlt), Array.getElem_modify_self, hk]
  rfl
theorem Cells.cell (h : Cells W b t cur) (i : Nat) : W.cell? ⟨b, i, none⟩ = cur[i]? := by
  simp [World.cell?, show W.heap[b]? = _ from h]
theorem Cells.frozen (h : Cells W b t cur) (i : Nat) : W.frozen? ⟨b, i, none⟩ = false := by
  simp [World.frozen?, show W.heap[b]? = _ from h]
theorem Cells.only {S : Nat → Prop} (h : Cells W b t cur) (g : Only S W W') (hb : ¬ S b) : Cells W' b t cur := (g.same b h.lt hb).trans h
theorem Cells.below {B : Nat} (h : Cells W b t cur) (g : Below B W W') (hb : b < B) : Cells W' b t cur := (g.block b hb).trans h
theorem Cells.grown {row : Option Nat} (h : Cells W b t cur) (g : W.grownBy W' row) (hb : some b ≠ row) : Cells W' b t cur := (g.block b h.lt hb).trans h
end
end Go.Proofs.Ytiebbgbcojgeoaa

namespace Go.Proofs.Ytiebbgbcojgeoaa

/-- A line: number, place, bytes, whether it is ended. -/
structure Ln where
  no : Nat
  at_ : Nat
  text : List UInt8
  ended : Bool
deriving DecidableEq

def head (l : List UInt8) : List UInt8 := l.takeWhile (· != 10)
def nl (l : List UInt8) : Bool := l.contains 10
def used (l : List UInt8) : Nat := (head l).length + if nl l then 1 else 0
def linesF : Nat → Nat → Nat → List UInt8 → List Ln
  | 0, _, _, _ => []
  | f + 1, no, at_, l => if l = [] then [] else ⟨no, at_, head l, nl l⟩ :: linesF f (no + 1) (at_ + used l) (l.drop (used l))
def linesOn (no at_ : Nat) (l : List UInt8) : List Ln := linesF l.length no at_ l
def linesOf (l : List UInt8) : List Ln := linesOn 0 0 l
/-- What stands in the text for a line. -/
def Ln.bytes (x : Ln) : List UInt8 := x.text ++ if x.ended then [10] else []

end Go.Proofs.Ytiebbgbcojgeoaa

namespace Go.Proofs.Ytiebbgbcojgeoaa

def blankB (c : UInt8) : Bool := c == 32 || c == 9
def beginsB : List UInt8 → Bool
  | [] => false
  | c :: _ => blankB c
def hashB : List UInt8 → Bool
  | [] => false
  | c :: _ => c == 35
def hasB (l : List UInt8) (c : UInt8) : Bool := l.contains c
def blankAll (l : List UInt8) : Bool := l.all blankB
def goodKey (k : List UInt8) : Bool := decide (1 ≤ k.length) && decide (k.length ≤ 32) && !beginsB k && !hashB k && !hasB k 58 && !hasB k 10
def before (l : List UInt8) : List UInt8 := l.takeWhile (· != 58)
def kindL (l : List UInt8) : Nat :=
  if hasB l 10 = true then 5 else if blankAll l = true then 1 else if hashB l = true then 2 else if beginsB l = true then 3 else if hasB l 58 = true ∧ goodKey (before l) = true then 4 else 5

end Go.Proofs.Ytiebbgbcojgeoaa

namespace Go.Proofs.Ytiebbgbcojgeoaa

/-- What stands between line ends. -/
def partsL : List UInt8 → List (List UInt8)
  | [] => [[]]
  | c :: t => if c = 10 then [] :: partsL t else (c :: (partsL t).headD []) :: (partsL t).tail
def joinNl : List (List UInt8) → List UInt8
  | [] => []
  | [p] => p
  | p :: q :: r => p ++ 10 :: joinNl (q :: r)
def firstL (k l : List UInt8) : List UInt8 := if l = [] then k ++ [58] else k ++ 58 :: 32 :: l
def dotted (l : List UInt8) : Bool := blankAll l || (l.head? == some 46)
def furtherL (l : List UInt8) : List UInt8 := if dotted l then 32 :: 46 :: l else 32 :: l
/-- A field's lines. -/
def linesL (k v : List UInt8) : List (List UInt8) := firstL k ((partsL v).headD []) :: (partsL v).tail.map furtherL
def checkN (k v : List UInt8) : Nat := if goodKey k then (if v.length ≤ 1000 then 0 else 6) else 5
def textL (ls : List (List UInt8)) : List UInt8 := ls.flatMap fun l => l ++ [10]

def dropSp (l : List UInt8) : List UInt8 := if l.head? = some 32 then l.tail else l
def dropDot (l : List UInt8) : List UInt8 := if l.head? = some 46 then l.tail else l
def afterC (l : List UInt8) : List UInt8 := l.drop ((before l).length + 1)
def sayF : List (List UInt8) → Bool
  | [] => false
  | a :: r => (kindL a == 4) && r.all (fun l => kindL l == 3)
def saidP (ls : List (List UInt8)) : List (List UInt8) := dropSp (afterC (ls.headD [])) :: ls.tail.map fun l => dropDot l.tail
def saidV (ls : List (List UInt8)) : List UInt8 := joinNl (saidP ls)
def unfoldN (ls : List (List UInt8)) : Nat := if sayF ls then (if (saidV ls).length ≤ 1000 then 0 else 6) else 2
def unfoldK (ls : List (List UInt8)) : List UInt8 := if unfoldN ls = 0 then before (ls.headD []) else []
def unfoldV (ls : List (List UInt8)) : List UInt8 := if unfoldN ls = 0 then saidV ls else []
theorem textL_append (a b : List (List UInt8)) : textL (a ++ b) = textL a ++ textL b := by unfold textL; simp
end Go.Proofs.Ytiebbgbcojgeoaa

namespace Go.Proofs.Ytiebbgbcojgeoaa
open Go.RowKit Go.WideShapes Go.ChangeAt Go.ChangeShapes

theorem drewN_below {B : Nat} {a w : World} (h : Below B a w) (n : Nat) : Below B a (w.drewN n) := ⟨h.os, h.tape, h.output, h.size, h.block⟩
def Strs (w : World) (v : Value) (ss : List ByteArray) : Prop :=
  ∃ A cap, v = .slice A ss.length cap ∧ ss.length ≤ cap ∧ ∀ (i : Nat) (s : ByteArray), ss[i]? = some s → ∃ b off, A = some ⟨b, off, none⟩ ∧ b < w.heap.size ∧ w.cell? ⟨b, off + i, none⟩ = some (.string s)
theorem Strs.below {w w' : World} {v : Value} {ss : List ByteArray} {n : Nat} (h : Strs w v ss) (hb : Below n w w') (hn : w.heap.size ≤ n) : Strs w' v ss := by
  obtain ⟨A, cap, hv, hle, hc⟩ := h
  refine ⟨A, cap, hv, hle, fun i s hs => ?_⟩
  obtain ⟨b, off, hA, hlt, hcell⟩ := hc i s hs
  exact ⟨b, off, hA, Nat.lt_of_lt_of_le hlt hb.size, (hb.cell (p := ⟨b, off + i, none⟩) (Nat.lt_of_lt_of_le hlt hn)).trans hcell⟩
theorem Strs.alloc {w : World} {v : Value} {ss : List ByteArray} (h : Strs w v ss) (o : Obj) : Strs (w.alloc o) v ss :=
  h.below ((Below.refl w.heap.size w).alloc (Nat.le_refl _) o) (Nat.le_refl _)
theorem Strs.none (w : World) (c : Nat) : Strs w (.slice none 0 c) [] := ⟨_, c, rfl, Nat.zero_le _, fun i s h => by simp at h⟩
theorem Strs.one (w : World) (t : TypeId) (a : ByteArray) : Strs (w.alloc (.cells #[.string a] t)) (.slice (some ⟨w.heap.size, 0, .none⟩) 1 1) [a] := by
  refine ⟨_, 1, rfl, Nat.le_refl _, ?_⟩
  intro i s h
  refine ⟨w.heap.size, 0, rfl, by simp, ?_⟩
  rw [World.cell?_alloc_at _ _ _ _ rfl]
  match i, h with
  | 0, h => simp at h; subst h; rfl
  | n + 1, h => simp at h
theorem Strs.laid (w : World) (t : TypeId) (ss : List ByteArray) (c : Nat) (hle : ss.length ≤ c) : Strs (w.alloc (.cells (ss.map Value.string).toArray t)) (.slice (some ⟨w.heap.size, 0, .none⟩) ss.length c) ss := by
  refine ⟨_, c, rfl, hle, ?_⟩
  intro i s h
  refine ⟨w.heap.size, 0, rfl, by simp, ?_⟩
  rw [World.cell?_alloc_at _ _ _ _ rfl]
  simp [h]
structure StrsIn (w : World) (v : Value) (ss : List ByteArray) : Prop where
  strs : Strs w v ss
  len : ss.length ≤ maxLen
  each : ∀ (i : Nat) (s : ByteArray), ss[i]? = some s → s.size ≤ maxLen
theorem StrsIn.below {w w' : World} {v : Value} {ss : List ByteArray} {n : Nat} (h : StrsIn w v ss) (hb : Below n w w') (hn : w.heap.size ≤ n) : StrsIn w' v ss := ⟨h.strs.below hb hn, h.len, h.each⟩

/-- A text of bytes. -/
def B (l : List UInt8) : ByteArray := ⟨l.toArray⟩
theorem B_data (l : List UInt8) : (B l).data.toList = l := by simp [B]
theorem B_of (s : ByteArray) : B s.data.toList = s := by cases s; simp [B]
theorem B_size (l : List UInt8) : (B l).size = l.length := by simp [B, ByteArray.size]
/-- An error by its number; 0: none. -/
def errV (n : Nat) : Value := if n = 0 then .nilIface else .iface 50 (.int .i64 (n : Int))
theorem errV_0 : errV 0 = .nilIface := rfl
theorem errV_2 : errV 2 = .iface 50 (.int .i64 2) := rfl
theorem errV_5 : errV 5 = .iface 50 (.int .i64 5) := rfl
theorem errV_6 : errV 6 = .iface 50 (.int .i64 6) := rfl
theorem errV_pos (n : Nat) (h : 0 < n) : errV n = .iface 50 (.int .i64 (n : Int)) := by unfold errV; rw [if_neg (by omega)]
attribute [local go_sem] errV_0
theorem assertErr (n : Int) (w : World) : (Instr.typeAssert (.iface 50 (.int .i64 n)) 37 50 true).run Try.prog w = .ok (.tuple #[.int .i64 n, .bool true]) w := by kernel_rfl
attribute [local go_sem] assertErr
set_option maxRecDepth 100000 in
set_option maxHeartbeats 1000000 in
theorem num_any (n : Nat) (hn : n ≤ 1000) (w : World) : Calls Try.prog 13 #[errV n] w fun e w' => e = .returned (.int .i64 n) ∧ w = w' := by
  by_cases h0 : n = 0
  · subst h0
    go_enter Try.func13, Try.ntmps13
    go_wp2
    refine wp_loop_rounds 1 ?_
    rw [rounds_succ]
    go_wp2
    go_ret
    exact ⟨rfl, rfl⟩
  · rw [errV_pos n (by omega)]
    have hne : ((n : Int) != 0) = true := by simp; omega
    have hne2 : ((n : Int) == 0) = false := by simp; omega
    clear h0
    go_enter Try.func13, Try.ntmps13
    go_wp2
    refine wp_loop_rounds 1 ?_
    rw [rounds_succ]
    go_wp2
    go_ret
    exact ⟨rfl, rfl⟩
set_option maxHeartbeats 2000000 in
theorem texts_any (v v' : Value) (ss zs : List ByteArray) (w : World) (h : Strs w v ss) (h' : Strs w v' zs) (hl : ss.length ≤ 1000000) (hl' : zs.length ≤ 1000000) :
    Calls Try.prog 27 #[v, v'] w fun e w' => e = .returned (.bool (decide (ss = zs))) ∧ Below w.heap.size w w' := by
  obtain ⟨A, cap, rfl, hle, hc⟩ := h
  obtain ⟨A', cap', rfl, hle', hc'⟩ := h'
  by_cases hne : ss.length = zs.length
  · go_enter Try.func27, Try.ntmps27
    go_wp2
    go_loopw [13] (fun i wr => ∃ k : Nat, k ≤ ss.length ∧ i = .int .i64 k ∧ (ss.take k = zs.take k) ∧ Below w.heap.size w wr) (fun i _ => ss.length - (intOf i).toNat)
    case atStart => exact ⟨0, Nat.zero_le _, rfl, rfl, Below.refl _ _⟩
    case round =>
      obtain ⟨k, hk, rfl, he, hbl⟩ := hrel
      by_cases hlt : k < ss.length
      · obtain ⟨x, e1⟩ : ∃ x, ss[k]? = some x := ⟨_, List.getElem?_eq_getElem hlt⟩
        obtain ⟨y, e2⟩ : ∃ y, zs[k]? = some y := ⟨_, List.getElem?_eq_getElem (by omega)⟩
        obtain ⟨b, off, rfl, hb, c1⟩ := hc k _ e1
        obtain ⟨b', off', rfl, hb', c2⟩ := hc' k _ e2
        replace c1 := (hbl.cell (p := ⟨b, off + k, none⟩) hb).trans c1
        replace c2 := (hbl.cell (p := ⟨b', off' + k, none⟩) hb').trans c2
        have E := Lib.hid he
        have T1 : Hid (ss.take (k + 1) = ss.take k ++ [x]) := by show _ = _; rw [List.take_add_one, e1]; rfl
        have T2 : Hid (zs.take (k + 1) = zs.take k ++ [y]) := by show _ = _; rw [List.take_add_one, e2]; rfl
        have F := Lib.hid (show x ≠ y → ss ≠ zs from fun hn hs => by subst hs; rw [e1] at e2; exact hn (Option.some.inj e2))
        have hz : k < zs.length := by omega
        clear hc hc' e1 e2 he
        by_cases hxy : x = y
        · subst hxy
          go_wp2_with (go_quiet (fail))
          go_roundw
          case rel => exact ⟨k + 1, hlt, by go_num, by rw [T1.out, T2.out, E.out], drewN_below hbl _⟩
          case measure => simp [intOf]; omega
        · have hx2 : ¬ x.toList = y.toList := fun e => hxy (by apply ByteArray.ext; apply Array.ext'; have := e; rw [Lib.toList_data, Lib.toList_data] at this; exact this)
          have F2 := Lib.hid (F.out hxy)
          clear F
          have hx3 : (x.toList == y.toList) = false := by simpa using hx2
          have hx4 : (x.toList != y.toList) = true := by simpa using hx2
          go_wp2_with (go_quiet (fail))
          go_ret
          exact ⟨by simp [F2.out], drewN_below hbl _⟩
      · obtain rfl : k = ss.length := by omega
        rw [List.take_of_length_le (Nat.le_refl _), List.take_of_length_le (by omega)] at he
        clear hc hc'
        go_wp2
        go_ret
        exact ⟨by simp [he], hbl⟩
  · have hn : ¬ ((ss.length : Int) = zs.length) := by omega
    have F := Lib.hid (show ss ≠ zs from fun hs => by subst hs; exact hne rfl)
    clear hc hc' hne
    go_enter Try.func27, Try.ntmps27
    go_wp2
    go_ret
    exact ⟨by simp [F.out], Below.refl _ _⟩
end Go.Proofs.Ytiebbgbcojgeoaa

namespace Go.Proofs.Ytiebbgbcojgeoaa
open Go.RowKit Go.Maps

/-- How a map in a map reads: by its block. -/
def refElem : Value → Option (DataW Unit × List MemPlace)
  | .map (some b) => some (.lit (.int .i64 (b : Int)), [])
  | .map none => some (.lit (.int .i64 (-1)), [])
  | _ => none
theorem refElem_inv {v : Value} {z : DataW Unit × List MemPlace} (h : refElem v = some z) : ∃ o, v = .map o := by
  unfold refElem at h
  split at h
  · exact ⟨_, rfl⟩
  · exact ⟨_, rfl⟩
  · cases h
theorem refElem_some {v : Value} {c : Nat} {ps : List MemPlace} (h : refElem v = some (.lit (.int .i64 (c : Int)), ps)) : v = .map (some c) := by
  obtain ⟨o, rfl⟩ := refElem_inv h
  cases o with
  | none =>
    have h1 : some ((.lit (.int .i64 (-1)) : DataW Unit), ([] : List MemPlace)) = some (.lit (.int .i64 (c : Int)), ps) := h
    injection h1 with h1
    injection h1 with h1 _
    injection h1 with h1
    injection h1 with _ h1
    omega
  | some b =>
    have h1 : some ((.lit (.int .i64 (b : Int)) : DataW Unit), ([] : List MemPlace)) = some (.lit (.int .i64 (c : Int)), ps) := h
    injection h1 with h1
    injection h1 with h1 _
    injection h1 with h1
    injection h1 with _ h1
    have : b = c := by omega
    rw [this]
theorem refElem_none {v : Value} {ps : List MemPlace} (h : refElem v = some (.lit (.int .i64 (-1)), ps)) : v = .map none := by
  obtain ⟨o, rfl⟩ := refElem_inv h
  cases o with
  | none => rfl
  | some b =>
    have h1 : some ((.lit (.int .i64 (b : Int)) : DataW Unit), ([] : List MemPlace)) = some (.lit (.int .i64 (-1)), ps) := h
    injection h1 with h1
    injection h1 with h1 _
    injection h1 with h1
    injection h1 with _ h1
    omega
theorem keyS : Keyed Try.prog 9 := string_keyed Try.underlying9
theorem keyI : Keyed Try.prog 3 := int_keyed Try.underlying3
theorem litS (s : List UInt8) : WideAt.IsKeyLit (.string s) := by first | exact trivial | exact rfl | decide
theorem litI {a : Int} (h : (Lit.int .i64 a).wf = true) : WideAt.IsKeyLit (.int .i64 a) := by first | exact trivial | exact h | exact rfl
/-- A map from texts to blocks. -/
def RefM (w : World) (b n : Nat) (f : List UInt8 → Option Nat) : Prop :=
  ∃ D : DataW Unit, w.ownsMap Try.prog 9 refElem b n D ∧ (∀ k, has D (.string k) = (f k).isSome) ∧ ∀ k c, f k = some c → ∀ z, D.atKey (.string k) z = .lit (.int .i64 (c : Int))
theorem RefM.lt {w : World} {b n : Nat} {f : List UInt8 → Option Nat} (h : RefM w b n f) : b < w.heap.size := by obtain ⟨D, h, _⟩ := h; exact h.lt
theorem RefM.same {w w' : World} {b n : Nat} {f : List UInt8 → Option Nat} (h : RefM w b n f) (hs : w'.heap[b]? = w.heap[b]?) : RefM w' b n f := by
  obtain ⟨D, ⟨es, clock, hb, r⟩, h2⟩ := h
  exact ⟨D, ⟨es, clock, hs.trans hb, r⟩, h2⟩
theorem RefM.only {w w' : World} {b n : Nat} {f : List UInt8 → Option Nat} {S : Nat → Prop} (h : RefM w b n f) (g : Only S w w') (hs : ¬ S b) : RefM w' b n f := h.same (g.same b h.lt hs)
theorem RefM.mono {w : World} {b n m : Nat} {f : List UInt8 → Option Nat} (h : RefM w b n f) (hm : n ≤ m) : RefM w b m f := by obtain ⟨D, h, r⟩ := h; exact ⟨D, h.mono hm, r⟩
theorem RefM.made (w : World) : RefM (w.alloc (.map #[] 0)) w.heap.size 0 (fun _ => none) :=
  ⟨.map [], World.ownsMap_made w _ _ _, (fun k => rfl), fun k c h => by cases h⟩
/-- m[k], of whatever map type with texts as keys and maps as elements. -/
theorem RefM.look {w : World} {b n : Nat} {f : List UInt8 → Option Nat} (h : RefM w b n f) {t e : TypeId} (ht : Try.prog.underlying t = some (.map 9 e)) (hz : (zeroValue e).run Try.prog w = .ok (.map none) w) (s : ByteArray) (hs : s.size ≤ maxLen) :
    (Instr.lookup t (.map (some b)) (.string s) false).run Try.prog w = .ok (.map (f s.data.toList)) w := by
  obtain ⟨D, ho, h1, h2⟩ := h
  obtain ⟨v, ps, hrun, hat⟩ := ho.lookup keyS ht hz (show refElem (.map none) = some (.lit (.int .i64 (-1)), []) from rfl) (Go.WideMaps.keyOf_string_mk Try.underlying9 hs)
  rw [hrun]
  cases hf : f s.data.toList with
  | none =>
    have := h1 s.data.toList
    rw [hf] at this
    rw [Maps.atKey_of_not_has this] at hat
    rw [refElem_none hat]
  | some c =>
    rw [h2 _ c hf] at hat
    rw [refElem_some hat]
theorem RefM.store {w : World} {b n : Nat} {f : List UInt8 → Option Nat} (h : RefM w b n f) {t e : TypeId} (ht : Try.prog.underlying t = some (.map 9 e)) (hn : n < maxLen) (s : ByteArray) (hs : s.size ≤ maxLen) (c : Nat) :
    ∃ w', (Instr.mapUpdate t (.map (some b)) (.string s) (.map (some c))).run Try.prog w = .ok () w' ∧ RefM w' b (n + 1) (fun k => if k = s.data.toList then some c else f k) ∧ Only (· = b) w w' ∧ w'.heap.size = w.heap.size := by
  obtain ⟨D, ho, h1, h2⟩ := h
  have hm := ho.isMap
  obtain ⟨w', hrun, ho', ht'⟩ := ho.store keyS ht hn (Go.WideMaps.keyOf_string_mk Try.underlying9 hs) (show refElem (.map (some c)) = some (.lit (.int .i64 (c : Int)), []) from rfl)
  refine ⟨w', hrun, ⟨_, ho', fun k => ?_, fun k d hk z => ?_⟩, (Only.refl _ w).grown ht'.grown (fun k hk => .inl (by cases hk; rfl)), ?_⟩
  · dsimp only
    by_cases q : k = s.data.toList
    · subst q
      rw [Maps.has_put_same hm (litS _), if_pos rfl]; rfl
    · rw [Maps.has_put_other (fun e => q (by injection e)), if_neg q, h1]
  · dsimp only at hk
    by_cases q : k = s.data.toList
    · subst q
      rw [if_pos rfl] at hk
      cases hk
      exact Maps.atKey_put_same hm (litS _) _ _
    · rw [if_neg q] at hk
      rw [Maps.atKey_put_other (fun e => q (by injection e))]
      exact h2 k d hk z
  · obtain ⟨es, clock, es', clock', hb, rfl⟩ := ht'
    show (w.heap.setIfInBounds b (.map es' clock')).size = _
    exact Array.size_setIfInBounds
theorem RefM.drop {w : World} {b n : Nat} {f : List UInt8 → Option Nat} (h : RefM w b n f) {t e : TypeId} (ht : Try.prog.underlying t = some (.map 9 e)) (s : ByteArray) (hs : s.size ≤ maxLen) (ty : TypeId) :
    ∃ w', (Builtin.delete_ #[t, 9] ty #[.map (some b), .string s]).run Try.prog w = .ok (.tuple #[]) w' ∧ RefM w' b n (fun k => if k = s.data.toList then none else f k) ∧ Only (· = b) w w' ∧ w'.heap.size = w.heap.size := by
  obtain ⟨D, ho, h1, h2⟩ := h
  obtain ⟨w', hrun, ho', ht'⟩ := ho.drop keyS ht (Go.WideMaps.keyOf_string_mk Try.underlying9 hs) ty
  refine ⟨w', hrun, ⟨_, ho', fun k => ?_, fun k d hk z => ?_⟩, (Only.refl _ w).grown ht'.grown (fun k hk => .inl (by cases hk; rfl)), ?_⟩
  · dsimp only
    by_cases q : k = s.data.toList
    · subst q
      rw [Maps.has_del_same, if_pos rfl]; rfl
    · rw [Maps.has_del_other (fun e => q (by injection e)), if_neg q, h1]
  · dsimp only at hk
    by_cases q : k = s.data.toList
    · rw [if_pos q] at hk; cases hk
    · rw [if_neg q] at hk
      rw [Maps.atKey_del_other (fun e => q (by injection e))]
      exact h2 k d hk z
  · obtain ⟨es, clock, es', clock', hb, rfl⟩ := ht'
    show (w.heap.setIfInBounds b (.map es' clock')).size = _
    exact Array.size_setIfInBounds
/-- A map from numbers to counts: 0 of what isn't in it. -/
def CntM (w : World) (b n : Nat) (f : Int → Nat) : Prop :=
  ∃ D : DataW Unit, w.ownsMap Try.prog 3 (plainElem Try.prog 3) b n D ∧ (∀ k, has D (.int .i64 k) = true ↔ 0 < f k) ∧ ∀ k, 0 < f k → ∀ z, D.atKey (.int .i64 k) z = .lit (.int .i64 (f k : Int))
theorem CntM.lt {w : World} {b n : Nat} {f : Int → Nat} (h : CntM w b n f) : b < w.heap.size := by obtain ⟨D, h, _⟩ := h; exact h.lt
theorem CntM.same {w w' : World} {b n : Nat} {f : Int → Nat} (h : CntM w b n f) (hs : w'.heap[b]? = w.heap[b]?) : CntM w' b n f := by
  obtain ⟨D, ⟨es, clock, hb, r⟩, h2⟩ := h
  exact ⟨D, ⟨es, clock, hs.trans hb, r⟩, h2⟩
theorem CntM.only {w w' : World} {b n : Nat} {f : Int → Nat} {S : Nat → Prop} (h : CntM w b n f) (g : Only S w w') (hs : ¬ S b) : CntM w' b n f := h.same (g.same b h.lt hs)
theorem CntM.mono {w : World} {b n m : Nat} {f : Int → Nat} (h : CntM w b n f) (hm : n ≤ m) : CntM w b m f := by obtain ⟨D, h, r⟩ := h; exact ⟨D, h.mono hm, r⟩
theorem CntM.made (w : World) : CntM (w.alloc (.map #[] 0)) w.heap.size 0 (fun _ => 0) :=
  ⟨.map [], World.ownsMap_made w _ _ _, (fun k => ⟨fun h => (by cases h), fun h => (by cases h)⟩), fun k h => by cases h⟩
theorem lit_int {a b : Int} (h : (.lit (.int .i64 a) : DataW Unit) = .lit (.int .i64 b)) : a = b := by
  injection h with h
  injection h with _ h
theorem hrun_eq {a b : Int} {w : World} (h : a = b) : (.ok (.int .i64 a) w : Result Value) = .ok (.int .i64 b) w := by rw [h]
theorem CntM.look {w : World} {b n : Nat} {f : Int → Nat} (h : CntM w b n f) {t : TypeId} (ht : Try.prog.underlying t = some (.map 3 3)) (id : Int) (hw : (Lit.int .i64 id).wf = true) :
    (Instr.lookup t (.map (some b)) (.int .i64 id) false).run Try.prog w = .ok (.int .i64 (f id : Nat)) w := by
  obtain ⟨D, ho, h1, h2⟩ := h
  obtain ⟨v, ps, hrun, hat⟩ := ho.lookup keyI ht (show (zeroValue 3).run Try.prog w = .ok (.int .i64 0) w by kernel_rfl) (plainElem_int (H := Unit) Try.underlying3 (a := 0) (by decide)) (Maps.keyOf_int_mk Try.underlying3 hw)
  obtain ⟨c, rfl, hc, _⟩ := plainElem_int_inv Try.underlying3 hat
  rw [hrun]
  have hc1 := (Prod.mk.inj hc).1
  by_cases q : 0 < f id
  · rw [h2 id q] at hc1
    exact hrun_eq (lit_int hc1).symm
  · have := h1 id
    rw [Maps.atKey_of_not_has (Bool.eq_false_iff.2 fun e => q (this.1 e))] at hc1
    rw [show f id = 0 by omega]
    exact hrun_eq (lit_int hc1).symm
theorem CntM.store {w : World} {b n : Nat} {f : Int → Nat} (h : CntM w b n f) {t : TypeId} (ht : Try.prog.underlying t = some (.map 3 3)) (hn : n < maxLen) (id : Int) (hw : (Lit.int .i64 id).wf = true) (c : Nat) (hc : 0 < c) (hcw : (Lit.int .i64 (c : Int)).wf = true) :
    ∃ w', (Instr.mapUpdate t (.map (some b)) (.int .i64 id) (.int .i64 (c : Int))).run Try.prog w = .ok () w' ∧ CntM w' b (n + 1) (fun k => if k = id then c else f k) ∧ Only (· = b) w w' ∧ w'.heap.size = w.heap.size := by
  obtain ⟨D, ho, h1, h2⟩ := h
  have hm := ho.isMap
  obtain ⟨w', hrun, ho', ht'⟩ := ho.store keyI ht hn (Maps.keyOf_int_mk Try.underlying3 hw) (plainElem_int (H := Unit) Try.underlying3 hcw)
  refine ⟨w', hrun, ⟨_, ho', fun k => ?_, fun k hk z => ?_⟩, (Only.refl _ w).grown ht'.grown (fun k hk => .inl (by cases hk; rfl)), ?_⟩
  · dsimp only
    by_cases q : k = id
    · subst q
      rw [Maps.has_put_same hm (litI hw), if_pos rfl]; exact ⟨fun _ => hc, fun _ => rfl⟩
    · rw [Maps.has_put_other (fun e => q (by injection e)), if_neg q, h1]
  · dsimp only at hk ⊢
    by_cases q : k = id
    · subst q
      rw [if_pos rfl]
      exact Maps.atKey_put_same hm (litI hw) _ _
    · rw [if_neg q] at hk ⊢
      rw [Maps.atKey_put_other (fun e => q (by injection e))]
      exact h2 k hk z
  · obtain ⟨es, clock, es', clock', hb, rfl⟩ := ht'
    show (w.heap.setIfInBounds b (.map es' clock')).size = _
    exact Array.size_setIfInBounds
theorem CntM.drop {w : World} {b n : Nat} {f : Int → Nat} (h : CntM w b n f) {t : TypeId} (ht : Try.prog.underlying t = some (.map 3 3)) (id : Int) (hw : (Lit.int .i64 id).wf = true) (ty : TypeId) :
    ∃ w', (Builtin.delete_ #[t, 3] ty #[.map (some b), .int .i64 id]).run Try.prog w = .ok (.tuple #[]) w' ∧ CntM w' b n (fun k => if k = id then 0 else f k) ∧ Only (· = b) w w' ∧ w'.heap.size = w.heap.size := by
  obtain ⟨D, ho, h1, h2⟩ := h
  obtain ⟨w', hrun, ho', ht'⟩ := ho.drop keyI ht (Maps.keyOf_int_mk Try.underlying3 hw) ty
  refine ⟨w', hrun, ⟨_, ho', fun k => ?_, fun k hk z => ?_⟩, (Only.refl _ w).grown ht'.grown (fun k hk => .inl (by cases hk; rfl)), ?_⟩
  · dsimp only
    by_cases q : k = id
    · subst q
      rw [Maps.has_del_same, if_pos rfl]; exact ⟨fun h => (by cases h), fun h => (by cases h)⟩
    · rw [Maps.has_del_other (fun e => q (by injection e)), if_neg q, h1]
  · dsimp only at hk ⊢
    by_cases q : k = id
    · rw [if_pos q] at hk; omega
    · rw [if_neg q] at hk ⊢
      rw [Maps.atKey_del_other (fun e => q (by injection e))]
      exact h2 k hk z
  · obtain ⟨es, clock, es', clock', hb, rfl⟩ := ht'
    show (w.heap.setIfInBounds b (.map es' clock')).size = _
    exact Array.size_setIfInBounds
/-- A set of numbers. -/
def SetM (w : World) (b n : Nat) (f : Int → Bool) : Prop :=
  ∃ D : DataW Unit, w.ownsMap Try.prog 3 unitElem b n D ∧ ∀ k, has D (.int .i64 k) = f k
theorem SetM.lt {w : World} {b n : Nat} {f : Int → Bool} (h : SetM w b n f) : b < w.heap.size := by obtain ⟨D, h, _⟩ := h; exact h.lt
theorem SetM.same {w w' : World} {b n : Nat} {f : Int → Bool} (h : SetM w b n f) (hs : w'.heap[b]? = w.heap[b]?) : SetM w' b n f := by
  obtain ⟨D, ⟨es, clock, hb, r⟩, h2⟩ := h
  exact ⟨D, ⟨es, clock, hs.trans hb, r⟩, h2⟩
theorem SetM.only {w w' : World} {b n : Nat} {f : Int → Bool} {S : Nat → Prop} (h : SetM w b n f) (g : Only S w w') (hs : ¬ S b) : SetM w' b n f := h.same (g.same b h.lt hs)
theorem SetM.mono {w : World} {b n m : Nat} {f : Int → Bool} (h : SetM w b n f) (hm : n ≤ m) : SetM w b m f := by obtain ⟨D, h, r⟩ := h; exact ⟨D, h.mono hm, r⟩
theorem SetM.made (w : World) : SetM (w.alloc (.map #[] 0)) w.heap.size 0 (fun _ => false) := ⟨.map [], World.ownsMap_made w _ _ _, fun k => rfl⟩
end Go.Proofs.Ytiebbgbcojgeoaa

namespace Go.Proofs.Ytiebbgbcojgeoaa
open Go.RowKit Go.Maps

/-- What a block of the index is for: (1, key) a key's values, (2, key, value) a value's holders; 3 the index, 4 its numbers, 5 its keys. -/
abbrev Tag := Nat × List UInt8 × List UInt8
/-- A value's holders. -/
def HoldAt (w : World) (T : Nat → Tag) (lo : Nat) (k v : List UInt8) (n : Nat) (c : Option Nat) (f : Int → Nat) : Prop :=
  match c with
  | none => ∀ i, f i = 0
  | some c => T c = (2, k, v) ∧ lo ≤ c ∧ CntM w c n f ∧ ∃ i, 0 < f i
/-- A key's values. -/
def ValAt (w : World) (T : Nat → Tag) (lo : Nat) (k : List UInt8) (b n : Nat) (f : List UInt8 → Int → Nat) : Prop :=
  T b = (1, k, []) ∧ lo ≤ b ∧ ∃ g, RefM w b n g ∧ ∀ v, HoldAt w T lo k v n (g v) (f v)
/-- A block is a key's. -/
def OfKey (T : Nat → Tag) (k : List UInt8) (c : Nat) : Prop := T c = (1, k, []) ∨ ∃ v, T c = (2, k, v)
theorem HoldAt.mono {w : World} {T : Nat → Tag} {lo n m : Nat} {k v : List UInt8} {c : Option Nat} {f : Int → Nat} (h : HoldAt w T lo k v n c f) (hm : n ≤ m) : HoldAt w T lo k v m c f := by
  cases c with
  | none => exact h
  | some c => exact ⟨h.1, h.2.1, h.2.2.1.mono hm, h.2.2.2⟩
theorem HoldAt.turn {w w' : World} {T T' : Nat → Tag} {lo n : Nat} {k v : List UInt8} {c : Option Nat} {f : Int → Nat} {S : Nat → Prop} (h : HoldAt w T lo k v n c f) (g : Only S w w') (ht : ∀ c, c < w.heap.size → T' c = T c) (hs : ∀ c, T c = (2, k, v) → ¬ S c) : HoldAt w' T' lo k v n c f := by
  cases c with
  | none => exact h
  | some c => exact ⟨(ht c h.2.2.1.lt).trans h.1, h.2.1, h.2.2.1.only g (hs c h.1), h.2.2.2⟩
theorem ValAt.turn {w w' : World} {T T' : Nat → Tag} {lo b n : Nat} {k : List UInt8} {f : List UInt8 → Int → Nat} {S : Nat → Prop} (h : ValAt w T lo k b n f) (g : Only S w w') (ht : ∀ c, c < w.heap.size → T' c = T c) (hs : ∀ c, OfKey T k c → ¬ S c) : ValAt w' T' lo k b n f := by
  obtain ⟨h1, h2, g', h3, h4⟩ := h
  exact ⟨(ht b h3.lt).trans h1, h2, g', h3.only g (hs b (.inl h1)), fun v => (h4 v).turn g ht fun c hc => hs c (.inr ⟨v, hc⟩)⟩
theorem ValAt.mono {w : World} {T : Nat → Tag} {lo b n m : Nat} {k : List UInt8} {f : List UInt8 → Int → Nat} (h : ValAt w T lo k b n f) (hm : n ≤ m) : ValAt w T lo k b m f := by
  obtain ⟨h1, h2, g', h3, h4⟩ := h
  exact ⟨h1, h2, g', h3.mono hm, fun v => (h4 v).mono hm⟩
/-- One more of a value's. -/
def upF (f : List UInt8 → Int → Nat) (s : List UInt8) (id : Int) : List UInt8 → Int → Nat := fun v i => if v = s ∧ i = id then f v i + 1 else f v i

set_option maxRecDepth 100000 in
set_option maxHeartbeats 2000000 in
theorem add_any {w : World} {T : Nat → Tag} {lo b n : Nat} {k : List UInt8} {f : List UInt8 → Int → Nat} (h : ValAt w T lo k b n f) (s : ByteArray) (hs : s.size ≤ maxLen) (id : Int) (hw : (Lit.int .i64 id).wf = true) (hn : n ≤ 1000000) (hc : f s.data.toList id ≤ 1000000) (hlo : lo ≤ w.heap.size) :
    Calls Try.prog 45 #[.map (some b), .string s, .int .i64 id] w fun e w' => e = .returned (.tuple #[]) ∧
      ∃ T', (∀ c, c < w.heap.size → T' c = T c) ∧ ValAt w' T' lo k b (n + 1) (upF f s.data.toList id) ∧ Only (OfKey T k) w w' := by
  obtain ⟨h1, h2, g, h3, h4⟩ := h
  have hg := h4 s.data.toList
  have lk := h3.look Try.underlying73 (show (zeroValue 95).run Try.prog w = .ok (.map none) w by kernel_rfl) s hs
  have hmm := @run_makeMap Try.prog
  have e1 : ∀ c w, (binOp BinOp.eql 95 (.map (some c)) (.map none)).run Try.prog w = .ok (.bool false) w := fun c w => Go.run_eql_map_nil w _ _ _ _ Try.underlying95
  have e2 : ∀ w, (binOp BinOp.eql 95 (.map none) (.map none)).run Try.prog w = .ok (.bool true) w := fun w => Go.run_eql_map_nil w _ _ _ _ Try.underlying95
  cases hgs : g s.data.toList with
  | none =>
    rw [hgs] at hg lk
    obtain ⟨w1, hrun1, p1, p2, p3⟩ := (h3.same (Below.heap_alloc w (.map #[] 0) b h3.lt)).store Try.underlying73 (by unfold maxLen; omega) s hs w.heap.size
    obtain ⟨w2, hrun2, r1, r2, r3⟩ := ((CntM.made w).only p2 (by have := h3.lt; omega)).store Try.underlying95 (by unfold maxLen; omega) id hw 1 (by omega) (by decide)
    rw [show ((1 : Nat) : Int) = 1 from rfl] at hrun2
    have lk1 := p1.look Try.underlying73 (show (zeroValue 95).run Try.prog w1 = .ok (.map none) w1 by kernel_rfl) s hs
    rw [if_pos rfl] at lk1
    have lc := ((CntM.made w).only p2 (by have := h3.lt; omega)).look Try.underlying95 id hw
    go_enter Try.func45, Try.ntmps45
    go_wp2
    go_end0
    have hb := h3.lt
    have o1 : Only (· = b) w w1 := ((Only.refl _ w).alloc (.map #[] 0)).trans p2 (fun _ _ e => e)
    have o2 : Only (· = b) w w2 := o1.trans r2 fun r hr e => absurd e (by omega)
    have hT : ∀ c, c < w.heap.size → (if c = w.heap.size then ((2, k, s.data.toList) : Tag) else T c) = T c := fun c hc => if_neg (by omega)
    refine ⟨rfl, fun c => if c = w.heap.size then (2, k, s.data.toList) else T c, hT, ⟨(hT b hb).trans h1, h2, _, p1.only r2 (by omega), fun v => ?_⟩, o2.mono fun r _ e => by subst e; exact .inl h1⟩
    by_cases hv : v = s.data.toList
    · subst hv
      rw [if_pos rfl]
      refine ⟨if_pos rfl, hlo, ?_, ⟨id, by simp [upF]⟩⟩
      have : (fun k => if k = id then 1 else 0) = upF f s.data.toList id s.data.toList := by
        funext i
        have := hg i
        by_cases hi : i = id
        · subst hi; simp [upF, this]
        · simp [upF, hi, this]
      rw [← this]; exact r1.mono (by omega)
    · have : upF f s.data.toList id v = f v := by funext i; simp [upF, hv]
      rw [this, if_neg hv]
      exact ((h4 v).turn o2 hT (fun d hd e => by subst e; rw [h1] at hd; injection hd with hd; omega)).mono (by omega)
  | some c =>
    rw [hgs] at hg lk
    obtain ⟨c1, c2, c3, c4⟩ := hg
    have lc := c3.look Try.underlying95 id hw
    obtain ⟨w', hrun, q1, q2, q3⟩ := c3.store Try.underlying95 (by unfold maxLen; omega) id hw (f s.data.toList id + 1) (by omega) (by simp [Lit.wf, IntKind.min, IntKind.max, IntKind.signed, IntKind.bits]; omega)
    have hcast : ((f s.data.toList id + 1 : Nat) : Int) = (f s.data.toList id : Int) + 1 := by simp
    rw [hcast] at hrun
    go_enter Try.func45, Try.ntmps45
    go_wp2
    go_end0
    have hne : ∀ v, v ≠ s.data.toList → ∀ d, T d = (2, k, v) → d ≠ c := by
      intro v hv d hd e; subst e; rw [hd] at c1; injection c1 with _ c1; injection c1 with _ c1; exact hv c1
    refine ⟨rfl, T, fun _ _ => rfl, ⟨h1, h2, g, (h3.only q2 (by intro e; subst e; rw [h1] at c1; injection c1 with c1; omega)).mono (by omega), fun v => ?_⟩, q2.mono fun r _ e => by subst e; exact .inr ⟨_, c1⟩⟩
    by_cases hv : v = s.data.toList
    · subst hv
      rw [hgs]
      refine ⟨c1, c2, ?_, ⟨id, by simp [upF]⟩⟩
      have : (fun k => if k = id then f s.data.toList id + 1 else f s.data.toList k) = upF f s.data.toList id s.data.toList := by
        funext i; by_cases hi : i = id <;> simp [upF, hi]
      rw [← this]; exact q1
    · have : upF f s.data.toList id v = f v := by funext i; simp [upF, hv]
      rw [this]
      exact ((h4 v).turn q2 (fun _ _ => rfl) (hne v hv)).mono (by omega)
end Go.Proofs.Ytiebbgbcojgeoaa

