/- Texts put together: OB, VA, VM, VE, VB, S, VC, VD, VH, OC, VF. -/
import Derived.Test.YtembondddgfpcaaProg
import Derived.WalkKit
import Derived.Maps.Own
import Derived.Maps.OwnSet
import Derived.Maps.AppendAt
import Derived.Lib.Hide
import Derived.Below
import Derived.Deep.Quiet
import Derived.Deep.WholeRow
import Derived.Lib.ConvBytes
import Derived.Lib.AppendStr
import Derived.Lib.Bytes
import Derived.Lib.UnsafeStr
import Derived.Deep.Upon
import Derived.Laws.IdiomCopy
import Derived.Shelf.Small.Bits
import Derived.Shelf.Strconv.Itoa0
import Derived.Shelf.GgClosure.StringsIndexFunc
import Derived.Ground.GgwProg
import Derived.Shelf.GgClosure.StringsIndexFuncTop
import Derived.Ground.SlgfProg
import Derived.Shelf.SlicesE.IndexFunc
import Derived.Laws.RangeAny
import Derived.Laws.EntriesVeiled
import Derived.Deep.QuietTactic
import Derived.BigQuiet
import Derived.Deep.RegionLaw
import Derived.RegionTactic
set_option linter.unusedVariables false
namespace Go.RowKit
theorem Below.drewNN {B : Nat} {a w : World} (h : Below B a w) (n : Nat) : Below B a (w.drewN n) := ⟨h.os, h.tape, h.output, h.size, h.block⟩
end Go.RowKit
namespace Go.Proofs.Ytembondddgfpcaa
open Go.RowKit

/-- Whatever lay lies as it lay, but for the blocks of S. -/
structure Only (S : Nat → Prop) (W W' : World) : Prop where
  os : W'.os = W.os
  tape : W'.tape = W.tape
  output : W'.output = W.output
  size : W.heap.size ≤ W'.heap.size
  same : ∀ r, r < W.heap.size → ¬ S r → W'.heap[r]? = W.heap[r]?
section
variable {S : Nat → Prop} {X Y Z : World}
theorem Only.refl (S : Nat → Prop) (W : World) : Only S W W := ⟨rfl, rfl, rfl, Nat.le_refl _, fun _ _ _ => rfl⟩
theorem Only.trans {S' : Nat → Prop} (h : Only S X Y) (g : Only S' Y Z) (hs : ∀ r, r < X.heap.size → S' r → S r) : Only S X Z :=
  ⟨g.os.trans h.os, g.tape.trans h.tape, g.output.trans h.output, Nat.le_trans h.size g.size, fun r a b => (g.same r (Nat.lt_of_lt_of_le a h.size) (fun c => b (hs r a c))).trans (h.same r a b)⟩
theorem Only.alloc (h : Only S X Y) (o : Obj) : Only S X (Y.alloc o) :=
  ⟨h.os, h.tape, h.output, by simp; have := h.size; omega, fun r a b => (Below.heap_alloc _ _ _ (Nat.lt_of_lt_of_le a h.size)).trans (h.same r a b)⟩
theorem Only.setCell (h : Only S X Y) {p : Addr} (hp : S p.block ∨ X.heap.size ≤ p.block) (u : Value) : Only S X (Y.setCell p u) :=
  ⟨h.os, h.tape, h.output, by simp only [World.setCell, Array.size_modify]; exact h.size, fun r a b => (Below.heap_setCell _ _ _ _ (by rintro rfl; rcases hp with hp | hp; exact b hp; omega)).trans (h.same r a b)⟩
theorem Only.cellS {p : Nat} (h : Only (· = p) X Y) (o : Nat) (u : Value) : Only (· = p) X (Y.setCell ⟨p, o, none⟩ u) := h.setCell (p := ⟨p, o, none⟩) (.inl rfl) u
theorem Only.drew (h : Only S X Y) : Only S X Y.drew := ⟨h.os, h.tape, h.output, h.size, h.same⟩
theorem Only.drewN (h : Only S X Y) (n : Nat) : Only S X (Y.drewN n) := ⟨h.os, h.tape, h.output, h.size, h.same⟩
theorem Only.grown (h : Only S X Y) {row : Option Nat} (g : Y.grownBy Z row) (hr : ∀ k, row = some k → S k ∨ X.heap.size ≤ k) : Only S X Z :=
  ⟨g.os.trans h.os, g.tape.trans h.tape, g.output.trans h.output, Nat.le_trans h.size g.size, fun r a b => (g.block r (Nat.lt_of_lt_of_le a h.size) (fun e => by rcases hr r e.symm with c | c; exact b c; omega)).trans (h.same r a b)⟩
theorem Only.below (h : Only S X Y) {B : Nat} (g : Below B Y Z) (hB : X.heap.size ≤ B) : Only S X Z :=
  ⟨g.os.trans h.os, g.tape.trans h.tape, g.output.trans h.output, Nat.le_trans h.size g.size, fun r a b => (g.block r (by omega)).trans (h.same r a b)⟩
theorem Only.to_below (h : Only S X Y) {B : Nat} (hB : B ≤ X.heap.size) (hs : ∀ r, r < B → ¬ S r) : Below B X Y :=
  ⟨h.os, h.tape, h.output, h.size, fun r a => h.same r (by omega) (hs r a)⟩
theorem Only.of_below {B : Nat} (g : Below B X Y) (hB : X.heap.size ≤ B) : Only S X Y := (Only.refl S X).below g hB
theorem Only.mono {S' : Nat → Prop} (h : Only S X Y) (hs : ∀ r, r < X.heap.size → S r → S' r) : Only S' X Y := ⟨h.os, h.tape, h.output, h.size, fun r a b => h.same r a (fun c => b (hs r a c))⟩
end

theorem row_same {W W' : World} {base : Nat} {e : TypeId} {size : Nat} {v : Value} {n : Nat} {xs : List Value} (h : W.ownsRow base e size v n xs) (hs : ∀ b, v.ownBlock = some b → W'.heap[b]? = W.heap[b]?) : W'.ownsRow base e size v n xs := by
  refine ⟨h.1, ?_⟩
  rcases h.2 with hn | ⟨g, cap, cur, rfl, hbase, hg, rest⟩
  · exact .inl hn
  · exact .inr ⟨g, cap, cur, rfl, hbase, (hs g rfl).trans hg, rest⟩
theorem row_only {W W' : World} {S : Nat → Prop} {base : Nat} {e : TypeId} {size : Nat} {v : Value} {n : Nat} {xs : List Value} (h : W.ownsRow base e size v n xs) (g : Only S W W') (hs : ∀ b, v.ownBlock = some b → ¬ S b) : W'.ownsRow base e size v n xs :=
  row_same h fun b hb => g.same b (h.lt b hb).2 (hs b hb)
theorem row_below {W W' : World} {B : Nat} {base : Nat} {e : TypeId} {size : Nat} {v : Value} {n : Nat} {xs : List Value} (h : W.ownsRow base e size v n xs) (g : Below B W W') (hB : W.heap.size ≤ B) : W'.ownsRow base e size v n xs :=
  row_same h fun b hb => g.block b (Nat.lt_of_lt_of_le (h.lt b hb).2 hB)
theorem row_cell {W : World} {base : Nat} {e : TypeId} {size : Nat} {v : Value} {n : Nat} {xs : List Value} (h : W.ownsRow base e size v n xs) {p : Addr} (hp : v.ownBlock ≠ some p.block) (u : Value) : (W.setCell p u).ownsRow base e size v n xs :=
  row_same h fun b hb => Below.heap_setCell _ _ _ _ (fun e => hp (by rw [hb, e]))
/-- A block of cells known whole. -/
def Cells (W : World) (b : Nat) (t : TypeId) (cur : Array Value) : Prop := W.heap[b]? = some (.cells cur t (0, 0))
section
variable {W W' : World} {b : Nat} {t : TypeId} {cur : Array Value}
theorem Cells.lt (h : Cells W b t cur) : b < W.heap.size := (Array.getElem?_eq_some_iff.1 (show W.heap[b]? = _ from h)).1
theorem Cells.new (W : World) (t : TypeId) (cur : Array Value) : Cells (W.alloc (.cells cur t)) W.heap.size t cur := heap_alloc_new W _
theorem Cells.alloc (h : Cells W b t cur) (o : Obj) : Cells (W.alloc o) b t cur := (Below.heap_alloc _ _ _ h.lt).trans h
theorem Cells.drewN (h : Cells W b t cur) (n : Nat) : Cells (W.drewN n) b t cur := h
theorem Cells.drew (h : Cells W b t cur) : Cells W.drew b t cur := h
theorem Cells.other (h : Cells W b t cur) {p : Addr} (hp : b ≠ p.block) (u : Value) : Cells (W.setCell p u) b t cur := (Below.heap_setCell _ _ _ _ hp).trans h
theorem Cells.set (h : Cells W b t cur) (i : Nat) (u : Value) : Cells (W.setCell ⟨b, i, none⟩ u) b t (cur.setIfInBounds i u) := by
  obtain ⟨hlt, hk⟩ := Array.getElem?_eq_some_iff.1 (show W.heap[b]? = _ from h)
  show (W.heap.modify b _)[b]? = _
  rw [Array.getElem?_eq_getElem (by rw [Array.size_modify]; exact hlt), Array.getElem_modify_self, hk]
  rfl
theorem Cells.cell (h : Cells W b t cur) (i : Nat) : W.cell? ⟨b, i, none⟩ = cur[i]? := by
  simp [World.cell?, show W.heap[b]? = _ from h]
theorem Cells.frozen (h : Cells W b t cur) (i : Nat) : W.frozen? ⟨b, i, none⟩ = false := by
  simp [World.frozen?, show W.heap[b]? = _ from h]
theorem Cells.only {S : Nat → Prop} (h : Cells W b t cur) (g : Only S W W') (hb : ¬ S b) : Cells W' b t cur := (g.same b h.lt hb).trans h
theorem Cells.below {B : Nat} (h : Cells W b t cur) (g : Below B W W') (hb : b < B) : Cells W' b t cur := (g.block b hb).trans h
theorem Cells.grown {row : Option Nat} (h : Cells W b t cur) (g : W.grownBy W' row) (hb : some b ≠ row) : Cells W' b t cur := (g.block b h.lt hb).trans h
end
end Go.Proofs.Ytembondddgfpcaa


namespace Go.Proofs.Ytembondddgfpcaa
open Go.RowKit

/-- v is a slice of the row g, of which no cell is frozen, and reads as l. -/
structure BRow (w : World) (g cap : Nat) (v : Value) (l : List UInt8) : Prop where
  val : v = .slice (some ⟨g, 0, none⟩) l.length cap
  lt : g < w.heap.size
  fits : l.length ≤ cap
  most : cap ≤ maxLen
  some_ : ∀ j, j < cap → (w.cell? ⟨g, j, none⟩).isSome = true
  free : ∀ j, j < cap → w.frozen? ⟨g, j, none⟩ = false
  cell : ∀ j (h : j < l.length), w.cell? ⟨g, j, none⟩ = some (.int .u8 (l[j].toNat : Int))

theorem BRow.same {w w' : World} {g cap : Nat} {v : Value} {l : List UInt8} (h : BRow w g cap v l) (hs : w'.heap[g]? = w.heap[g]?) : BRow w' g cap v l := by
  have c : ∀ j, w'.cell? ⟨g, j, none⟩ = w.cell? ⟨g, j, none⟩ := fun j => World.cell?_of_block (a := ⟨g, j, none⟩) hs
  have f : ∀ j, w'.frozen? ⟨g, j, none⟩ = w.frozen? ⟨g, j, none⟩ := fun j => World.frozen?_of_block (a := ⟨g, j, none⟩) hs
  refine ⟨h.val, ?_, h.fits, h.most, fun j hj => by rw [c]; exact h.some_ j hj, fun j hj => by rw [f]; exact h.free j hj, fun j hj => by rw [c]; exact h.cell j hj⟩
  obtain ⟨hl, hk⟩ : ∃ hl : g < w.heap.size, w.heap[g]? = some w.heap[g] := ⟨h.lt, Array.getElem?_eq_getElem h.lt⟩
  rw [hk] at hs
  exact (Array.getElem?_eq_some_iff.1 hs).1
theorem BRow.cut {w : World} {g cap : Nat} {v : Value} {l : List UInt8} (h : BRow w g cap v l) (k : Nat) (hk : k ≤ l.length) : BRow w g cap (.slice (some ⟨g, 0, none⟩) k cap) (l.take k) := by
  have e : (l.take k).length = k := by rw [List.length_take]; omega
  refine ⟨by rw [e], h.lt, by have := h.fits; omega, h.most, h.some_, h.free, fun j hj => ?_⟩
  rw [h.cell j (by omega)]
  simp
theorem bytesWorld_only {S : Nat → Prop} (w : World) (e : TypeId) (s : ByteArray) : Only S w (Lib.bytesWorld w e s) := by
  refine ⟨rfl, rfl, rfl, by rw [Lib.bytesWorld_size]; omega, fun r hr _ => Lib.bytesWorld_at_old w e s r hr⟩
theorem BRow.made (w : World) (e : TypeId) (s : ByteArray) (hs : s.size ≤ 1000000) : BRow (Lib.bytesWorld w e s) w.heap.size (grownCap w s.size 0 e) (.slice (some ⟨w.heap.size, 0, none⟩) s.size (grownCap w s.size 0 e)) s.data.toList := by
  have hge := grownCap_ge w s.size 0 e
  have hle := grownCap_le_maxLen w s.size 0 e (by unfold maxLen; omega)
  have hsz : (Lib.bytesCells w e s).size = grownCap w s.size 0 e := by
    unfold Lib.bytesCells
    simp only [Array.size_append, Array.size_map, Array.size_replicate]
    have : s.data.size = s.size := rfl
    omega
  have hl : s.data.toList.length = s.size := (Lib.size_eq s).symm
  refine ⟨by rw [hl], by rw [Lib.bytesWorld_size]; omega, by omega, hle, fun j hj => ?_, fun j hj => ?_, fun j hj => ?_⟩
  · simp [World.cell?, Lib.bytesWorld_at_new, hsz, hj]
  · simp [World.frozen?, Lib.bytesWorld_at_new, hsz]; omega
  · rw [Lib.bytesWorld_cell w e s j (by omega)]
    have hj' : j < s.data.size := by simpa using hj
    rw [List.getD_eq_getElem?_getD, List.getElem?_eq_getElem hj]; rfl
theorem BRow.back {P : Program} {w : World} {g cap : Nat} {v : Value} {l : List UInt8} (h : BRow w g cap v l) (src dst e : TypeId) (hs : P.underlying src = some (.slice e)) (he : P.underlying e = some (.int .u8)) (hd : P.underlying dst = some .string) :
    (convert src dst v).run P w = .ok (.string ⟨l.toArray⟩) w := by
  rw [h.val]
  refine run_convert_bytes_back w src dst e ⟨g, 0, none⟩ cap l hs he hd (fun j hj => ?_)
  have e : (⟨g, 0, none⟩ : Addr).add j = ⟨g, j, none⟩ := by unfold Addr.add; split <;> simp_all
  rw [e]
  exact h.cell j hj
theorem tape_setCells (g : Nat) : ∀ (vs : List Value) (o : Nat) (w : World), (w.setCells g o vs).tape = w.tape
  | [], _, _ => rfl
  | v :: vs, o, w => by unfold World.setCells; rw [tape_setCells g vs]; rfl
theorem size_setCells (g : Nat) : ∀ (vs : List Value) (o : Nat) (w : World), (w.setCells g o vs).heap.size = w.heap.size
  | [], _, _ => rfl
  | v :: vs, o, w => by unfold World.setCells; rw [size_setCells g vs]; simp [World.setCell]

theorem BRow.run_append {P : Program} {w : World} {g cap : Nat} {v : Value} {l : List UInt8} (h : BRow w g cap v l) (t u ty e : TypeId) (i : TypeInfo) (ht : P.underlying t = some (.slice e)) (hu : P.underlying u = some .string) (hi : P.info? e = some i) (hz : i.zero = some (.int .u8 0))
    (hsize : i.size = 1) (hby : i.bytes = 1) (s : ByteArray) (h63 : l.length + s.size ≤ 1000000000) :
    ∃ v' w' g' cap', (Builtin.append_ #[t, u] ty #[v, .string s]).run P w = .ok v' w' ∧ BRow w' g' cap' v' (l ++ s.data.toList) ∧ Only (· = g) w w' ∧ (g' = g ∨ w.heap.size ≤ g') := by
  have hsl : (Lib.strCells s).length = s.size := Lib.strCells_length s
  have hd : s.data.toList.length = s.size := (Lib.size_eq s).symm
  have hlen : (l ++ s.data.toList).length = l.length + s.size := by rw [List.length_append, hd]
  have hcells : ∀ j (hj : j < s.size), (Lib.strCells s)[j]'(by omega) = .int .u8 ((s.data.toList[j]'(by omega)).toNat : Int) := by
    intro j hj; simp [Lib.strCells]
  rw [h.val]
  by_cases hroom : l.length + s.size ≤ cap
  · have hst := run_storeCells_cells (P := P) g l.length (Lib.strCells s) 0 w (fun j hj => h.some_ _ (by omega)) (fun j hj => h.free _ (by omega)) (Lib.strCells_oneCell s)
    simp only [Nat.add_zero] at hst
    have hf := Lib.run_firstCells_string (P := P) w 1 s
    refine ⟨.slice (some ⟨g, 0, none⟩) (l.length + s.size) cap, w.setCells g l.length (Lib.strCells s), g, cap, ?_, ?_, ?_, .inl rfl⟩
    · simp [Builtin.append_, run_underlying ht, run_underlying hu, sizeOf, typeInfo, hi, hsize, Builtin.lenOf, hroom, hf, Addr.add_lit, hst]
    · refine ⟨by rw [hlen], by rw [size_setCells]; exact h.lt, by omega, h.most, fun j hj => ?_, fun j hj => by rw [World.frozen?_setCells]; exact h.free j hj, fun j hj => ?_⟩
      · by_cases hin : l.length ≤ j ∧ j < l.length + s.size
        · have := World.cell?_setCells_in g (Lib.strCells s) l.length w (fun j hj => h.some_ _ (by omega)) (j - l.length) (by omega)
          rw [show l.length + (j - l.length) = j by omega] at this
          rw [this]; rfl
        · rw [World.cell?_setCells_out g (Lib.strCells s) l.length w ⟨g, j, none⟩ (fun _ _ => by simp only; omega)]
          exact h.some_ j hj
      · by_cases hin : j < l.length
        · rw [World.cell?_setCells_out g (Lib.strCells s) l.length w ⟨g, j, none⟩ (fun _ _ => by simp only; omega), h.cell j hin, List.getElem_append_left hin]
        · have := World.cell?_setCells_in g (Lib.strCells s) l.length w (fun j hj => h.some_ _ (by omega)) (j - l.length) (by omega)
          rw [show l.length + (j - l.length) = j by omega] at this
          rw [this, hcells _ (by omega), List.getElem_append_right (by omega)]
    · exact ⟨World.os_setCells w g _ _, tape_setCells g _ _ w, World.output_setCells w g _ _, by rw [size_setCells]; exact Nat.le_refl _, fun r hr hne => World.heap_setCells_other w g _ _ hr hne⟩
  · have hx : (Lib.byteCells l).length = l.length := Lib.byteCells_length l
    have holds : ∀ j u, (Lib.byteCells l)[j]? = some u → w.cell? ((⟨g, 0, none⟩ : Addr).add j) = some u := by
      intro j u hu'
      have e : (⟨g, 0, none⟩ : Addr).add j = ⟨g, j, none⟩ := by unfold Addr.add; split <;> simp_all
      have hj : j < l.length := by have := (List.getElem?_eq_some_iff.1 hu').1; omega
      rw [e, h.cell j hj]
      rw [← hu']
      simp [Lib.byteCells, hj]
    have hr := Lib.run_append_grow_string (P := P) w t u ty e i (.int .u8 0) ht hu hi hz ⟨g, 0, none⟩ l.length cap (Lib.byteCells l) (by rw [hsize]; omega) holds s (by omega) (by omega) (by rw [hby]; exact growslice_fits (by omega) (by omega))
    have hge := grownCap_ge w (l.length + s.size) cap e
    have hcm2 := grownCap_le_maxLen w (l.length + s.size) cap e (by unfold maxLen; omega)
    have hcs : Cells (w.drew.alloc (.cells ((Lib.byteCells l).toArray ++ (Lib.strCells s).toArray ++ Builtin.zeroCells (Value.int .u8 0).cells (grownCap w (l.length + s.size) cap e - (l.length + s.size))) e)) w.heap.size e _ := Cells.new w.drew e _
    have hz1 : (Value.int IntKind.u8 0).cells.size = 1 := rfl
    refine ⟨_, _, w.heap.size, grownCap w (l.length + s.size) cap e, hr, ⟨by rw [hlen], by simp, by omega, hcm2, fun j hj => ?_, fun j hj => hcs.frozen j, fun j hj => ?_⟩, ((Only.refl (· = g) w).drew).alloc _, .inr (Nat.le_refl _)⟩
    · rw [hcs.cell j]
      have : j < ((Lib.byteCells l).toArray ++ (Lib.strCells s).toArray ++ Builtin.zeroCells (Value.int .u8 0).cells (grownCap w (l.length + s.size) cap e - (l.length + s.size))).size := by
        simp only [Array.size_append, List.size_toArray, size_zeroCells, hz1, hx, hsl]; omega
      rw [Array.getElem?_eq_getElem this]; rfl
    · have e1 : (Lib.byteCells l).toArray ++ (Lib.strCells s).toArray = (Lib.byteCells (l ++ s.data.toList)).toArray := by
        rw [Lib.byteCells_append, ← Lib.strCells_eq]; simp
      rw [hcs.cell j, e1, Array.getElem?_append_left (by simp only [List.size_toArray, Lib.byteCells_length]; omega)]
      rw [List.getElem?_toArray]
      unfold Lib.byteCells
      rw [List.getElem?_map, List.getElem?_eq_getElem hj]; rfl

theorem wpList_append_brow {P : Program} {w : World} {ops : Array Oper} {rest : List Oper} {op : Oper} {a : Act} {Q : Exit → Act → World → Prop} (hgd : op.guard = none) (sl x : Operand) (t u : TypeId)
    (ho : op.op = .call { callee := .builtin .append, args := #[sl, x], argTypes := #[t, u] }) (g cap : Nat)
    (e : TypeId) (i : TypeInfo) (ht : P.underlying t = some (.slice e)) (hu : P.underlying u = some .string) (hi : P.info? e = some i) (hz : i.zero = some (.int .u8 0)) (hsize : i.size = 1) (hby : i.bytes = 1)
    (v : Value) (l : List UInt8) (hs : a.eval sl = v) (h : BRow w g cap v l) (s : ByteArray) (hx : a.eval x = .string s) (h63 : l.length + s.size ≤ 1000000000)
    (hK : ∀ v' w' g' cap', BRow w' g' cap' v' (l ++ s.data.toList) → Only (· = g) w w' → (g' = g ∨ w.heap.size ≤ g') → wpList P ops Q rest (a.put op.dst v') w') : wpList P ops Q (op :: rest) a w := by
  refine wpList_plain hgd fun K hK' => ?_
  obtain ⟨v', w', g', cap', hr, h2, h3, h4⟩ := h.run_append (P := P) t u op.type e i ht hu hi hz hsize hby s h63
  unfold Oper.wp execOp
  simp only [ho, resolve, invoke, builtin, Sem.run_bind, Sem.run_pure, Result.andThen_ok, List.map_toArray, List.map_cons, List.map_nil, hs, hx, hr]
  exact hK' _ _ (hK v' w' g' cap' h2 h3 h4)
end Go.Proofs.Ytembondddgfpcaa

namespace Go.Proofs.Ytembondddgfpcaa
open Go.RowKit Go.Maps

abbrev Dir := List (List UInt8 × Nat)
def dlit (x : List UInt8 × Nat) : Lit × DataW Unit := (.string x.1, .lit (.int .i64 (x.2 : Int)))
def dmapD (l : Dir) : DataW Unit := .map (l.map dlit)
def dins (x : List UInt8 × Nat) : Dir → Dir
  | [] => [x]
  | y :: r => if bytesBefore x.1 y.1 then x :: y :: r else y :: dins x r
def ddel (l : Dir) (k : List UInt8) : Dir := l.filter fun p => !(p.1 == k)
def dput (l : Dir) (k : List UInt8) (f : Nat) : Dir := dins (k, f) (ddel l k)
def dget (l : Dir) (k : List UInt8) : Option Nat := (l.find? fun p => p.1 == k).map (·.2)

theorem dmapD_del (l : Dir) (k : List UInt8) : (dmapD l).del (.string k) = dmapD (ddel l k) := by
  unfold dmapD DataW.del ddel
  simp only [List.filter_map]
  rfl
theorem dins_map (x : List UInt8 × Nat) : ∀ l : Dir, DataW.insert (dlit x) (l.map dlit) = (dins x l).map dlit
  | [] => rfl
  | y :: r => by
    simp only [List.map_cons, DataW.insert, dins]
    by_cases h : bytesBefore x.1 y.1 = true
    · rw [if_pos h, if_pos (show (dlit x).1.before (dlit y).1 = true from h)]; rfl
    · rw [if_neg h, if_neg (show ¬ (dlit x).1.before (dlit y).1 = true from h), List.map_cons, dins_map x r]
theorem dmapD_put (l : Dir) (k : List UInt8) (f : Nat) : (dmapD l).put (.string k) (.lit (.int .i64 (f : Int))) = dmapD (dput l k f) := by
  unfold dmapD DataW.put dput ddel
  simp only [List.filter_map]
  exact congrArg DataW.map (dins_map (k, f) _)
theorem dmapD_has (l : Dir) (k : List UInt8) : Maps.has (dmapD l) (.string k) = (dget l k).isSome := by
  unfold dmapD dget
  rw [Maps.has_eq, List.any_map, Option.isSome_map, List.isSome_find?]
  rfl
theorem dmapD_at (l : Dir) (k : List UInt8) (z : DataW Unit) : (dmapD l).atKey (.string k) z = match dget l k with | some f => .lit (.int .i64 (f : Int)) | none => z := by
  unfold dmapD dget DataW.atKey
  simp only [List.find?_map]
  have e : ((fun p : Lit × DataW Unit => p.1.sameKey (Lit.string k)) ∘ dlit) = fun p : List UInt8 × Nat => p.1 == k := rfl
  rw [e]
  cases h : l.find? (fun p => p.1 == k) with
  | none => rfl
  | some p => rfl
theorem dput_length (l : Dir) (k : List UInt8) (f : Nat) : (dput l k f).length ≤ l.length + 1 := by
  have h1 : ∀ (x : List UInt8 × Nat) (l : Dir), (dins x l).length = l.length + 1 := by
    intro x l
    induction l with
    | nil => rfl
    | cons y r ih => unfold dins; split <;> simp [ih]
  unfold dput ddel
  rw [h1]
  have := List.length_filter_le (fun p : List UInt8 × Nat => !(p.1 == k)) l
  omega

theorem keyT : Keyed Try.prog 9 := string_keyed Try.underlying9
theorem zeroI (w : World) : (zeroValue 3).run Try.prog w = .ok (.int .i64 0) w := by kernel_rfl

theorem mapSome (b : Nat) (w : World) : (binOp .eql 65 (.map (some b)) (.map none)).run Try.prog w = .ok (.bool false) w := by kernel_rfl
theorem mapNil (w : World) : (binOp .eql 65 (.map none) (.map none)).run Try.prog w = .ok (.bool true) w := by kernel_rfl
/-- A value of the maps' type, of at most n entries, that reads as l. -/
def MapAt (W : World) (n : Nat) (v : Value) (l : Dir) : Prop :=
  (v = .map none ∧ l = []) ∨ ∃ b, v = .map (some b) ∧ W.ownsMap Try.prog 9 (plainElem Try.prog 3) b n (dmapD l)
def mapBlock : Value → Option Nat
  | .map b => b
  | _ => none
theorem MapAt.look {W : World} {n : Nat} {v : Value} {l : Dir} (h : MapAt W n v l) (s : ByteArray) (hs : s.size ≤ maxLen) :
    (Instr.lookup 65 v (.string s) true).run Try.prog W = .ok (.tuple #[.int .i64 ((dget l s.data.toList).getD 0 : Nat), .bool (dget l s.data.toList).isSome]) W := by
  rcases h with ⟨rfl, rfl⟩ | ⟨b, rfl, ho⟩
  · exact Maps.look_nil (w := W) true keyT Try.underlying65 (zeroI W) (Go.WideMaps.keyOf_string_mk Try.underlying9 hs)
  · obtain ⟨v, ps, hrun, hat⟩ := ho.look_ok keyT Try.underlying65 (zeroI W) (plainElem_int (H := Unit) Try.underlying3 (a := 0) (by decide)) (Go.WideMaps.keyOf_string_mk Try.underlying9 hs)
    obtain ⟨c, rfl, hc, _⟩ := plainElem_int_inv Try.underlying3 hat
    rw [dmapD_has] at hrun
    rw [hrun]
    rw [dmapD_at] at hc
    have := congrArg Prod.fst hc
    cases hq : dget l s.data.toList with
    | none => rw [hq] at this; simp at this; rw [← this]; rfl
    | some f => rw [hq] at this; simp at this; rw [← this]; rfl
theorem MapAt.drewN {W : World} {n : Nat} {v : Value} {l : Dir} (h : MapAt W n v l) (k : Nat) : MapAt (W.drewN k) n v l := h
theorem MapAt.mono {W : World} {n m : Nat} {v : Value} {l : Dir} (h : MapAt W n v l) (hm : n ≤ m) : MapAt W m v l := by
  rcases h with h | ⟨b, rfl, ho⟩
  · exact .inl h
  · exact .inr ⟨b, rfl, ho.mono hm⟩
theorem MapAt.lt {W : World} {n : Nat} {v : Value} {l : Dir} (h : MapAt W n v l) : ∀ b, mapBlock v = some b → b < W.heap.size := by
  rcases h with ⟨rfl, _⟩ | ⟨b, rfl, ho⟩
  · intro b hb; cases hb
  · intro c hc; cases hc; exact ho.lt
theorem MapAt.same {W W' : World} {n : Nat} {v : Value} {l : Dir} (h : MapAt W n v l) (hs : ∀ b, mapBlock v = some b → W'.heap[b]? = W.heap[b]?) : MapAt W' n v l := by
  rcases h with h | ⟨b, rfl, es, clock, hb, r⟩
  · exact .inl h
  · exact .inr ⟨b, rfl, es, clock, (hs b rfl).trans hb, r⟩
theorem MapAt.only {W W' : World} {n : Nat} {v : Value} {l : Dir} {S : Nat → Prop} (h : MapAt W n v l) (g : Only S W W') (hs : ∀ b, mapBlock v = some b → ¬ S b) : MapAt W' n v l :=
  h.same fun b hb => g.same b (h.lt b hb) (hs b hb)
theorem MapAt.below {W W' : World} {n B : Nat} {v : Value} {l : Dir} (h : MapAt W n v l) (g : Below B W W') (hB : W.heap.size ≤ B) : MapAt W' n v l :=
  h.same fun b hb => g.block b (Nat.lt_of_lt_of_le (h.lt b hb) hB)
end Go.Proofs.Ytembondddgfpcaa

namespace Go.Proofs.Ytembondddgfpcaa
open Go.RowKit

/-- The cells of a disk. -/
def diskCells (units : Int) (armed : Bool) (left : Int) (gone : Bool) (room : Int) (sure seen waits files acts : Value) : Array Value :=
  #[.int .i64 units, .bool armed, .int .i64 left, .bool gone, .int .i64 room, sure, seen, waits, files, acts]
def spent (armed : Bool) (left : Int) (n : Int) : Int := if armed && decide (left < n) then left else n
set_option maxRecDepth 100000 in
set_option maxHeartbeats 800000 in
theorem spend_any (p : Nat) (t : TypeId) (units left : Int) (armed gone : Bool) (room : Int) (v5 v6 v7 v8 v9 : Value) (n : Int) (w : World) (hc : Cells w p t (diskCells units armed left gone room v5 v6 v7 v8 v9))
    (hn : 0 ≤ n) (hl : 0 ≤ left) (hu : 0 ≤ units) (hu2 : units ≤ 1000000000000) (hn2 : n ≤ 1000000000000) (hl2 : left ≤ 9223372036854775807) :
    Calls Try.prog 52 #[.pointer (some ⟨p, 0, none⟩), .int .i64 n] w fun e w' => e = .returned (.int .i64 (spent armed left n)) ∧
      Cells w' p t (diskCells (units + spent armed left n) armed (if armed then left - spent armed left n else left) (gone || (armed && decide (left < n))) room v5 v6 v7 v8 v9) ∧ Only (· = p) w w' := by
  have c0 : w.cell? ⟨p, 0, none⟩ = some (.int .i64 units) := by rw [hc.cell]; rfl
  have c1 : w.cell? ⟨p, 1, none⟩ = some (.bool armed) := by rw [hc.cell]; rfl
  have c2 : w.cell? ⟨p, 2, none⟩ = some (.int .i64 left) := by rw [hc.cell]; rfl
  have c3 : w.cell? ⟨p, 3, none⟩ = some (.bool gone) := by rw [hc.cell]; rfl
  have f0 := hc.frozen 0
  have f2 := hc.frozen 2
  have f3 := hc.frozen 3
  cases armed
  · have hs : spent false left n = n := rfl
    go_enter Try.func52, Try.ntmps52
    go_wp2
    go_ret
    refine ⟨rfl, ?_, ((Only.refl _ w).cellS 0 _)⟩
    simpa [diskCells] using hc.set 0 (.int .i64 (units + n))
  · by_cases hlt : left < n
    · have hs : spent true left n = left := by simp [spent, hlt]
      rw [hs]
      go_enter Try.func52, Try.ntmps52
      go_wp2
      go_ret
      refine ⟨rfl, ?_, (((Only.refl _ w).cellS 3 _).cellS 2 _).cellS 0 _⟩
      simpa [diskCells] using ((hc.set 3 (.bool true)).set 2 (.int .i64 0)).set 0 (.int .i64 (units + left))
    · have hs : spent true left n = n := by simp [spent, hlt]
      rw [hs]
      go_enter Try.func52, Try.ntmps52
      go_wp2
      go_ret
      refine ⟨rfl, ?_, (((Only.refl _ w).cellS 2 _).cellS 0 _)⟩
      have hf : decide (left < n) = false := decide_eq_false (by omega)
      simpa [diskCells, hf] using (hc.set 2 (.int .i64 (left - n))).set 0 (.int .i64 (units + n))
end Go.Proofs.Ytembondddgfpcaa

namespace Go.Proofs
open Go.Shelf
def Try.laysGw17_ren : Go.Shelf.Ren := ⟨fun | 17 => 78 | 15 => 83 | 20 => 95 | n => n, fun | 9 => 9 | 23 => 145 | 4 => 4 | 3 => 3 | 0 => 0 | 21 => 21 | n => n, fun | n => n⟩
theorem Try.laysGw17 : Go.Proofs.LaysGw.n17 Try.prog Try.laysGw17_ren := {
  mixed := by kernel_rfl
  f15 := Try.func83.trans (congrArg some (by kernel_rfl))
  f17 := Try.func78.trans (congrArg some (by kernel_rfl))
  f20 := Try.func95.trans (congrArg some (by kernel_rfl))
  t0 := Try.underlying0
  a0 := Try.isAgg0
  z0 := Try.sizeOf0
  v0 := Try.zeroValue0
  i0 := by kernel_rfl
  t3 := Try.underlying3
  a3 := Try.isAgg3
  z3 := Try.sizeOf3
  v3 := Try.zeroValue3
  i3 := by kernel_rfl
  t4 := Try.underlying4
  a4 := Try.isAgg4
  z4 := Try.sizeOf4
  v4 := Try.zeroValue4
  i4 := by kernel_rfl
  t9 := Try.underlying9
  a9 := Try.isAgg9
  z9 := Try.sizeOf9
  v9 := Try.zeroValue9
  i9 := by kernel_rfl
  t21 := Try.underlying21
  a21 := Try.isAgg21
  z21 := Try.sizeOf21
  v21 := Try.zeroValue21
  i21 := by kernel_rfl
  t23 := Try.underlying145
  a23 := Try.isAgg145
  z23 := Try.sizeOf145
  v23 := Try.zeroValue145
  i23 := by kernel_rfl }
open Go.RowKit Go.Lib in
theorem Try.strings_ContainsFunc (g : Nat) (lb : Array Value) (eg : ∀ args w, (callFunc g args).run Try.prog w = .ok (.enter g args) w) (p : Nat → Bool) (s : ByteArray) (w : World) (hp : PredAt Try.prog g lb encR p w) :
    Calls Try.prog 78 #[.string s, .func (.func g) #[] lb] w fun e w' => e = .returned (.bool (decide (0 ≤ Lib.idxFunc p true s))) ∧ Below w.heap.size w w' := Any.strings_ContainsFunc Try.laysGw17 g lb eg p s w hp
end Go.Proofs

namespace Go.Proofs.Ytembondddgfpcaa
open Go.RowKit

def goodC (c : UInt8) : Bool := (97 ≤ c.toNat && c.toNat ≤ 122) || (48 ≤ c.toNat && c.toNat ≤ 57) || c.toNat == 46
def goodB (s : ByteArray) : Bool := decide (1 ≤ s.size) && decide (s.size ≤ 20) && s.data.toList.all goodC
def wrongR (r : Nat) : Bool := (decide (r < 97) || decide (122 < r)) && (decide (r < 48) || decide (57 < r)) && r != 46
theorem wrongR_high (r : Nat) (h : 128 ≤ r) : wrongR r = true := by
  unfold wrongR; simp <;> omega
theorem wrongR_of (c : UInt8) : wrongR c.toNat = !goodC c := by
  unfold wrongR goodC
  rw [Bool.eq_iff_iff]
  simp <;> omega
theorem goodC_high (c : UInt8) (h : 128 ≤ c.toNat) : goodC c = false := by
  unfold goodC
  simp <;> omega
theorem idx_wrong (s : ByteArray) : ∀ (f pos : Nat), s.size ≤ pos + f → decide (0 ≤ Lib.idxFuncFrom wrongR true s f pos) = !(s.data.toList.drop pos).all goodC
  | 0, pos, h => by
    rw [List.drop_of_length_le (by rw [← Lib.size_eq]; omega)]
    simp [Lib.idxFuncFrom]
  | f + 1, pos, h => by
    unfold Lib.idxFuncFrom
    by_cases hp : pos < s.size
    · rw [if_pos hp]
      have hd : s.data.toList.drop pos = s[pos] :: s.data.toList.drop (pos + 1) := by
        rw [← List.getElem_cons_drop (by rw [← Lib.size_eq]; exact hp)]; rfl
      rw [hd, List.all_cons]
      by_cases ha : s[pos].toNat < 128
      · rw [decode_ascii s pos hp ha, wrongR_of]
        by_cases hg : goodC s[pos] = true
        · rw [hg]
          simp only [Bool.not_true, Bool.false_eq_true, if_false, Bool.true_and]
          exact idx_wrong s f (pos + 1) (by omega)
        · have hg' : goodC s[pos] = false := by simpa using hg
          rw [hg']
          simp
      · obtain ⟨h1, h2⟩ := decode_high s pos hp (by omega)
        rw [wrongR_high _ h1, if_pos rfl, goodC_high _ (by omega)]
        simp
    · rw [if_neg hp, List.drop_of_length_le (by rw [← Lib.size_eq]; omega)]
      simp

set_option maxHeartbeats 400000 in
theorem wrong_any (w : World) : PredAt Try.prog 75 #[] encR wrongR w := by
  intro W r _
  unfold FnGives encR
  by_cases h1 : r < 97
  all_goals by_cases h2 : 122 < r
  all_goals by_cases h3 : r < 48
  all_goals by_cases h4 : 57 < r
  all_goals try omega
  all_goals
    go_enter Try.func75, Try.ntmps75
    go_wp2
    go_ret
    refine ⟨congrArg (fun b => Ending.returned (Value.bool b)) (Bool.eq_iff_iff.2 ?_), 0, rfl⟩
    unfold wrongR
    simp <;> omega

set_option maxHeartbeats 400000 in
/-- What good's second closure says of a name: that it isn't good. -/
theorem bad_any (s : ByteArray) (B : Nat) (w : World) (hc : Cells w B 145 #[.func (.func 75) #[] #[]]) (hs : s.size ≤ 1000000) :
    Calls Try.prog 77 #[.string s, .pointer (some ⟨B, 0, none⟩)] w fun e w' => e = .returned (.bool (!goodB s)) ∧ Below w.heap.size w w' := by
  have c0 : w.cell? ⟨B, 0, none⟩ = some (.func (.func 75) #[] #[]) := by rw [hc.cell]; rfl
  have hsl : s.size = s.data.toList.length := Lib.size_eq s
  by_cases h0 : s.size = 0
  · have hg : goodB s = false := by unfold goodB; simp [h0]
    rw [hg]
    have hse : s.data.toList = [] := List.eq_nil_of_length_eq_zero (by omega)
    have he : s = ⟨#[]⟩ := by rw [← Lib.mk_data s, hse]
    clear hsl hse h0
    subst he
    go_enter Try.func77, Try.ntmps77
    go_wp2
    go_ret
    exact ⟨rfl, Below.refl _ _⟩
  · have hne : s.toList.isEmpty = false := by
      rw [Lib.toList_data]; cases hq : s.data.toList with
      | nil => exact absurd (by rw [hsl, hq]; rfl) h0
      | cons _ _ => rfl
    by_cases h1 : 20 < s.size
    · have hg : goodB s = false := by unfold goodB; simp [show ¬ s.size ≤ 20 by omega]
      rw [hg]
      clear hsl
      go_enter Try.func77, Try.ntmps77
      go_wp2
      go_ret
      exact ⟨rfl, Below.refl _ _⟩
    · have hg : goodB s = !(decide (0 ≤ Lib.idxFunc wrongR true s)) := by
        unfold Lib.idxFunc
        rw [idx_wrong s s.size 0 (by omega)]
        unfold goodB
        simp [show 1 ≤ s.size by omega, show s.size ≤ 20 by omega]
      rw [hg, Bool.not_not]
      have C := Try.strings_ContainsFunc 75 #[] (enters_of Try.func75 (by kernel_rfl) rfl) wrongR s w (wrong_any w)
      clear hsl hg
      have hd : decide ((20 : Int) < (s.size : Int)) = false := decide_eq_false (by omega)
      go_enter Try.func77, Try.ntmps77
      go_wp2_with (go_at_call 78; refine C.mono ?_; rintro e w' ⟨rfl, hb⟩)
      go_ret
      exact ⟨rfl, hb⟩

set_option maxHeartbeats 1000000 in
set_option maxRecDepth 100000 in
/-- slices.IndexFunc over names, with good's second closure. -/
theorem index_any (zs : List ByteArray) (b cap B : Nat) (w : World) (hcl : ∀ j (h : j < zs.length), w.cell? ⟨b, j, none⟩ = some (.string zs[j])) (hb : b < w.heap.size) (hc : Cells w B 145 #[.func (.func 75) #[] #[]])
    (hs : ∀ z ∈ zs, z.size ≤ 1000000) (hl : zs.length ≤ 1000) :
    Calls Try.prog 82 #[.slice (some ⟨b, 0, none⟩) zs.length cap, .func (.func 77) #[] #[.pointer (some ⟨B, 0, none⟩)]] w fun e w' =>
      (∃ r : Int, e = .returned (.int .i64 r) ∧ decide (0 ≤ r) = !zs.all goodB) ∧ Below w.heap.size w w' := by
  go_enter Try.func82, Try.ntmps82
  go_wp2
  go_loopw [8] (fun i wr => ∃ k : Nat, k ≤ zs.length ∧ i = .int .i64 k ∧ (zs.take k).all goodB = true ∧ Below w.heap.size w wr) (fun i _ => zs.length - (intOf i).toNat)
  case atStart => exact ⟨0, Nat.zero_le _, rfl, rfl, Below.refl _ _⟩
  case round =>
    obtain ⟨k, hk, rfl, hall, hbel⟩ := hrel
    by_cases hlt : k < zs.length
    · have hck := (hbel.cell (p := ⟨b, k, none⟩) hb).trans (hcl k hlt)
      have hcB := hc.below hbel hc.lt
      have hz : zs[k].size ≤ 1000000 := hs _ (List.getElem_mem hlt)
      have ht : zs.take (k + 1) = zs.take k ++ [zs[k]] := by rw [List.take_succ_eq_append_getElem hlt]
      have hm : zs[k] ∈ zs := List.getElem_mem hlt
      generalize hzk : zs[k] = z at *
      have C := bad_any z B wr hcB hz
      by_cases hg : goodB z = true
      · have HA : Hid ((zs.take (k + 1)).all goodB = true) := by show _ = _; rw [ht, List.all_append, hall]; simp [hg]
        rw [hg] at C
        have HZ := Lib.hid hzk
        have HL := Lib.hid hall
        clear ht hall hzk hg
        go_wp2_with (go_at_call 77; refine C.mono ?_; rintro e w' ⟨rfl, hb2⟩)
        go_roundw
        case rel => exact ⟨k + 1, by omega, by go_num, HA.out, hbel.trans (hb2.mono hbel.size)⟩
        case measure => simp [intOf]; omega
      · have hg' : goodB z = false := by simpa using hg
        have hA : zs.all goodB = false := by
          rw [List.all_eq_false]; exact ⟨z, hm, by rw [hg']; simp⟩
        rw [hg'] at C
        have HZ := Lib.hid hzk
        have HL := Lib.hid hall
        have HA := Lib.hid hA
        clear ht hall hzk hg hg' hA
        go_wp2_with (go_at_call 77; refine C.mono ?_; rintro e w' ⟨rfl, hb2⟩)
        go_ret
        refine ⟨⟨(k : Int), rfl, ?_⟩, hbel.trans (hb2.mono hbel.size)⟩
        rw [HA.out]; simp
    · have he : k = zs.length := by omega
      have HA : Hid (zs.all goodB = true) := by show _ = _; rw [he, List.take_length] at hall; exact hall
      clear hall
      go_wp2
      go_ret
      refine ⟨⟨-1, rfl, ?_⟩, hbel⟩
      rw [HA.out]; rfl

set_option maxHeartbeats 400000 in
theorem contains_any (zs : List ByteArray) (b cap B : Nat) (w : World) (hcl : ∀ j (h : j < zs.length), w.cell? ⟨b, j, none⟩ = some (.string zs[j])) (hb : b < w.heap.size) (hc : Cells w B 145 #[.func (.func 75) #[] #[]])
    (hs : ∀ z ∈ zs, z.size ≤ 1000000) (hl : zs.length ≤ 1000) :
    Calls Try.prog 76 #[.slice (some ⟨b, 0, none⟩) zs.length cap, .func (.func 77) #[] #[.pointer (some ⟨B, 0, none⟩)]] w fun e w' =>
      e = .returned (.bool (!zs.all goodB)) ∧ Below w.heap.size w w' := by
  have C := index_any zs b cap B w hcl hb hc hs hl
  clear hcl hs
  go_enter Try.func76, Try.ntmps76
  go_wp2_with (go_at_call 82; refine C.mono ?_; rintro e w' ⟨⟨r, rfl, hr⟩, hb2⟩; have HR := Lib.hid hr; clear hr)
  go_ret
  exact ⟨by rw [← HR.out]; rfl, hb2⟩

set_option maxHeartbeats 400000 in
theorem good_any (zs : List ByteArray) (b cap : Nat) (w : World) (hcl : ∀ j (h : j < zs.length), w.cell? ⟨b, j, none⟩ = some (.string zs[j])) (hb : b < w.heap.size)
    (hs : ∀ z ∈ zs, z.size ≤ 1000000) (hl : zs.length ≤ 1000) :
    Calls Try.prog 70 #[.slice (some ⟨b, 0, none⟩) zs.length cap] w fun e w' => e = .returned (.bool (zs.all goodB)) ∧ Below w.heap.size w w' := by
  have C := fun W (hbel : Below w.heap.size w W) (hc : Cells W w.heap.size 145 #[.func (.func 75) #[] #[]]) =>
    contains_any zs b cap w.heap.size W (fun j h => (hbel.cell (p := ⟨b, j, none⟩) hb).trans (hcl j h)) (Nat.lt_of_lt_of_le hb hbel.size) hc hs hl
  have HC := Lib.hid C
  clear hcl hs C
  have hcell : (w.alloc (.cells #[Value.nilFunc] 145)).cell? ⟨w.heap.size, 0, none⟩ = some .nilFunc := by rw [(Cells.new w 145 #[Value.nilFunc]).cell]; rfl
  have hfr : (w.alloc (.cells #[Value.nilFunc] 145)).frozen? ⟨w.heap.size, 0, none⟩ = false := (Cells.new w 145 #[Value.nilFunc]).frozen 0
  go_enter Try.func70, Try.ntmps70
  go_wp2_with fail
  refine (HC.out _ ((Below.refl _ w).alloc (Nat.le_refl _) _) (Cells.new w _ _)).mono ?_
  rintro e w' ⟨rfl, hb2⟩
  have hb3 : Below w.heap.size w w' := ((Below.refl _ w).alloc (Nat.le_refl _) _).trans (hb2.mono (by simp))
  clear hb2 HC hcell hfr
  go_wp2
  go_ret
  exact ⟨rfl, hb3⟩
end Go.Proofs.Ytembondddgfpcaa

namespace Go.Proofs.Ytembondddgfpcaa
open Go.RowKit

/-- An error by its number; 0: none. -/
def errV (n : Nat) : Value := if n = 0 then .nilIface else .iface 31 (.int .i64 (n : Int))
theorem errV_0 : errV 0 = .nilIface := rfl
theorem errV_1 : errV 1 = .iface 31 (.int .i64 1) := rfl
theorem errV_3 : errV 3 = .iface 31 (.int .i64 3) := rfl
theorem errV_4 : errV 4 = .iface 31 (.int .i64 4) := rfl
theorem errV_7 : errV 7 = .iface 31 (.int .i64 7) := rfl
theorem errV_12 : errV 12 = .iface 31 (.int .i64 12) := rfl
def readyE (gone : Bool) (zs : List ByteArray) : Nat := if zs.all goodB then (if gone then 3 else 0) else 1

set_option maxHeartbeats 400000 in
theorem ready_any (zs : List ByteArray) (b cap p : Nat) (units : Int) (armed : Bool) (left : Int) (gone : Bool) (room : Int) (v5 v6 v7 v8 v9 : Value) (w : World) (hd : Cells w p 71 (diskCells units armed left gone room v5 v6 v7 v8 v9)) (hcl : ∀ j (h : j < zs.length), w.cell? ⟨b, j, none⟩ = some (.string zs[j])) (hb : b < w.heap.size)
    (hs : ∀ z ∈ zs, z.size ≤ 1000000) (hl : zs.length ≤ 1000) :
    Calls Try.prog 49 #[.pointer (some ⟨p, 0, none⟩), .slice (some ⟨b, 0, none⟩) zs.length cap] w fun e w' => e = .returned (errV (readyE gone zs)) ∧ Below w.heap.size w w' := by
  have C := good_any zs b cap w hcl hb hs hl
  have G := fun w' (hb2 : Below w.heap.size w w') => ((hb2.cell (p := ⟨p, 3, none⟩) hd.lt).trans (hd.cell 3))
  unfold readyE
  clear hcl hs
  cases hg : zs.all goodB
  · rw [hg] at C
    clear hg G
    go_enter Try.func49, Try.ntmps49
    go_wp2_with (go_at_call 70; refine C.mono ?_; rintro e w' ⟨rfl, hb2⟩)
    go_ret
    exact ⟨rfl, hb2⟩
  · rw [hg] at C
    cases gone
    all_goals
      clear hg
      go_enter Try.func49, Try.ntmps49
      go_wp2_with (go_at_call 70; refine C.mono ?_; rintro e w' ⟨rfl, hb2⟩; have c3 := G w' hb2; simp only [diskCells] at c3; change w'.cell? ⟨p, 3, none⟩ = some _ at c3; clear G)
      go_ret
      exact ⟨rfl, hb2⟩

/-- What find answers: the file, the error's number. -/
def findR (r : Nat) (q : Option Nat) : Nat × Nat := if r = 0 then (match q with | some f => (f, 0) | none => (0, 7)) else (0, r)
theorem readyE_cases (gone : Bool) (zs : List ByteArray) : readyE gone zs = 0 ∨ readyE gone zs = 1 ∨ readyE gone zs = 3 := by unfold readyE; split; split; simp; simp; simp

attribute [local go_sem] errV_0 errV_1 errV_3 errV_7
set_option maxHeartbeats 1000000 in
theorem find_any (z : ByteArray) (zr : List ByteArray) (b cap p : Nat) (units : Int) (armed : Bool) (left : Int) (gone : Bool) (room : Int) (v5 v6 v7 v8 v9 : Value) (n : Nat) (l : Dir) (w : World) (hd : Cells w p 71 (diskCells units armed left gone room v5 v6 v7 v8 v9)) (hm : MapAt w n v6 l)
    (hcl : ∀ j (h : j < (z :: zr).length), w.cell? ⟨b, j, none⟩ = some (.string (z :: zr)[j])) (hb : b < w.heap.size)
    (hs : ∀ x ∈ z :: zr, x.size ≤ 1000000) (hl : (z :: zr).length ≤ 1000) :
    Calls Try.prog 47 #[.pointer (some ⟨p, 0, none⟩), .slice (some ⟨b, 0, none⟩) (z :: zr).length cap] w fun e w' =>
      e = .returned (.tuple #[.int .i64 (findR (readyE gone (z :: zr)) (dget l z.data.toList)).1, errV (findR (readyE gone (z :: zr)) (dget l z.data.toList)).2]) ∧ Below w.heap.size w w' := by
  have C := ready_any (z :: zr) b cap p units armed left gone room v5 v6 v7 v8 v9 w hd hcl hb hs hl
  have hz : z.size ≤ 1000000 := hs z (by simp)
  have h0 := hcl 0 (by simp)
  simp only [List.getElem_cons_zero] at h0
  have hlen : (0 : Int) < (((z :: zr).length : Nat) : Int) := by simp <;> omega
  have hlenN : 0 < (z :: zr).length := by simp
  clear hcl hs hl
  generalize (z :: zr).length = len at *
  have HN := readyE_cases gone (z :: zr)
  generalize readyE gone (z :: zr) = r at *
  have G := fun w' (hb2 : Below w.heap.size w w') => show _ ∧ _ ∧ _ from ⟨(hb2.cell (p := ⟨p, 6, none⟩) hd.lt).trans (hd.cell 6), (hb2.cell (p := ⟨b, 0, none⟩) hb).trans h0, fun k => ((hm.below hb2 (Nat.le_refl _)).drewN k).look z (by unfold maxLen; omega)⟩
  obtain ⟨q, hq⟩ : ∃ q, dget l z.data.toList = q := ⟨_, rfl⟩
  rw [hq] at G ⊢
  clear hm hd h0 hq hz
  rcases HN with rfl | rfl | rfl
  · cases q
    all_goals
      go_enter Try.func47, Try.ntmps47
      go_wp2_with (go_at_call 49; refine C.mono ?_; rintro e w' ⟨rfl, hb2⟩; obtain ⟨c6, ch, hlook⟩ := G w' hb2; simp only [diskCells] at c6; change w'.cell? ⟨p, 6, none⟩ = some v6 at c6; clear G C)
      go_quiet (fail)
      go_wp2
      go_ret2
      exact ⟨rfl, hb2.drewNN nq⟩
  · go_enter Try.func47, Try.ntmps47
    go_wp2_with (go_at_call 49; refine C.mono ?_; rintro e w' ⟨rfl, hb2⟩; clear G C)
    go_ret2
    exact ⟨rfl, hb2⟩
  · go_enter Try.func47, Try.ntmps47
    go_wp2_with (go_at_call 49; refine C.mono ?_; rintro e w' ⟨rfl, hb2⟩; clear G C)
    go_ret2
    exact ⟨rfl, hb2⟩
end Go.Proofs.Ytembondddgfpcaa

namespace Go.Proofs.Ytembondddgfpcaa
open Go.RowKit Go.Maps

/-- A change of names. -/
structure ChangeA where
  off : ByteArray
  on : ByteArray
  file : Nat
def ChangeA.cells (c : ChangeA) : List Value := [.string c.off, .string c.on, .int .i64 c.file]
def capply (off on : List UInt8) (file : Nat) (l : Dir) : Dir := if on = [] then ddel l off else dput (ddel l off) on file
theorem ddel_length (l : Dir) (k : List UInt8) : (ddel l k).length ≤ l.length := List.length_filter_le _ _

set_option maxRecDepth 100000 in
set_option maxHeartbeats 1000000 in
theorem apply_any (off on : ByteArray) (file : Nat) (b n : Nat) (l : Dir) (w : World) (ho : w.ownsMap Try.prog 9 (plainElem Try.prog 3) b n (dmapD l)) (hn : n ≤ 1000000) (h1 : off.size ≤ 1000000) (h2 : on.size ≤ 1000000) (hf : file ≤ 1000000) :
    Calls Try.prog 69 #[.agg #[.string off, .string on, .int .i64 file], .map (some b)] w fun e w' => e = .returned (.tuple #[]) ∧
      w'.ownsMap Try.prog 9 (plainElem Try.prog 3) b (n + 1) (dmapD (capply off.data.toList on.data.toList file l)) ∧ Only (· = b) w w' := by
  have k1 := Go.WideMaps.keyOf_string_mk Try.underlying9 (s := off) (by unfold maxLen; omega)
  have k2 := Go.WideMaps.keyOf_string_mk Try.underlying9 (s := on) (by unfold maxLen; omega)
  have hfl : plainElem (H := Unit) Try.prog 3 (.int .i64 (file : Int)) = some (.lit (.int .i64 (file : Int)), []) := plainElem_int Try.underlying3 (by simp [Lit.wf, IntKind.min, IntKind.max, IntKind.signed, IntKind.bits]; omega)
  unfold capply
  by_cases he : on.data.toList = []
  · rw [if_pos he]
    have hoe : on = ⟨#[]⟩ := by rw [← Lib.mk_data on, he]
    clear he
    subst hoe
    go_enter Try.func69, Try.ntmps69
    go_wp2_with (at_delete; refine wpList_delete_own _ rfl _ _ 65 9 rfl 3 keyT Try.underlying65 _ b n (dmapD l) rfl (ho.alloc _) _ _ rfl k1 ?_; intro w1 hown1 hturn1; have bx := (Cells.new w 107 #[.string off, .string ⟨#[]⟩, .int .i64 file]).grown hturn1.grown (by have := ho.lt; intro e; cases e; omega); have bx1 := bx.cell 1; simp at bx1)
    go_end0
    rw [dmapD_del] at hown1
    exact ⟨rfl, hown1.mono (by omega), ((Only.refl _ w).alloc _).grown hturn1.grown (fun k hk => .inl (by cases hk; rfl))⟩
  · rw [if_neg he]
    have hne : on.toList.isEmpty = false := by
      rw [Lib.toList_data]; cases hq : on.data.toList with
      | nil => exact absurd hq he
      | cons _ _ => rfl
    have hne2 : (!on.toList.isEmpty) = true := by rw [hne]; rfl
    clear he
    go_enter Try.func69, Try.ntmps69
    go_wp2_with (first | (at_delete; refine wpList_delete_own _ rfl _ _ 65 9 rfl 3 keyT Try.underlying65 _ b n (dmapD l) rfl (ho.alloc _) _ _ rfl k1 ?_; intro w1 hown1 hturn1; have bx := (Cells.new w 107 #[.string off, .string on, .int .i64 file]).grown hturn1.grown (by have := ho.lt; intro e; cases e; omega); have bx1 := bx.cell 1; have bx2 := bx.cell 2; simp at bx1 bx2) | (at_mapUpdate; refine wpList_mapUpdate_own _ rfl _ _ _ 65 rfl 9 3 keyT Try.underlying65 _ b n _ rfl hown1 (by unfold maxLen; omega) _ _ _ rfl rfl k2 _ [] hfl ?_; intro w2 hown2 hgrow2))
    go_end0
    rw [dmapD_del, dmapD_put] at hown2
    exact ⟨rfl, hown2, (((Only.refl _ w).alloc _).grown hturn1.grown (fun k hk => .inl (by cases hk; rfl))).grown hgrow2 (fun k hk => .inl (by cases hk; rfl))⟩
end Go.Proofs.Ytembondddgfpcaa

namespace Go.Proofs.Ytembondddgfpcaa
open Go.RowKit

/-- append onto a slice that is owned, as one step of a region that draws. -/
theorem step_append_own {P : Program} {ops : Array Oper} {o : Oper} {a : Act} {w : World} {K : Act → World → Prop} {Q : Exit → Act → World → Prop} {E : Prop}
    (hg : o.guard = none) (s x : Operand) (t : TypeId) (hop : o.op = Op.call { callee := Callee.builtin Builtin.append, args := #[s, x], argTypes := #[t, t] })
    (e : TypeId) (i : TypeInfo) (z : Value) (size bytes : Nat) (ht : P.underlying t = some (.slice e)) (hi : P.info? e = some i) (hz : i.zero = some z)
    (hsize : i.size = size) (hby : i.bytes = bytes) (hzs : z.cells.size = size) (hsz : 0 < size)
    (v : Value) (n : Nat) (xs : List Value) (hs : a.eval s = v) (hown : w.ownsRow 0 e size v n xs)
    (ad : Addr) (m c : Nat) (news : List Value) (hx : a.eval x = .slice (some ad) m c) (hl : news.length = m * size) (hnews : ∀ j u, news[j]? = some u → w.cell? (ad.add j) = some u) (h1 : ∀ u ∈ news, u.oneCell' = true)
    (h63 : n + m ≤ maxLen) (hbytes : (n + m) * bytes ≤ 140737488355328)
    (hK : ∀ v' w', w'.ownsRow 0 e size v' (n + m) (xs ++ news) → w.grownBy w' v.ownBlock → (v'.ownBlock = v.ownBlock ∨ v'.ownBlock = some w.heap.size) → K (a.put o.dst v') w') :
    if Region.wanted o (yielded ops a.tmps) = true then Oper.wp P o a w K Q else E := by
  have hw : Region.wanted o (yielded ops a.tmps) = true := by simp [Region.wanted, hg]
  rw [if_pos hw]
  obtain ⟨v', w', hr, h2, h3, h4, h5⟩ := run_append_own_at (P := P) w 0 t o.type e i z size bytes ht hi hz hsize hby hzs hsz v n xs hown ad m c news hl hnews h1 h63 hbytes (Nat.zero_le _)
  unfold Oper.wp
  simp [execOp, hop, resolve, invoke, builtin, hs, hx, hr, Result.andThen]
  exact hK v' w' h2 h3 h5

theorem cells_new_add (w : World) (t : TypeId) (cs : List Value) : ∀ j u, cs[j]? = some u → (w.alloc (.cells cs.toArray t)).cell? ((⟨w.heap.size, 0, none⟩ : Addr).add j) = some u := by
  intro j u hj
  have := (Cells.new w t cs.toArray).cell j
  have e : (⟨w.heap.size, 0, none⟩ : Addr).add j = ⟨w.heap.size, j, none⟩ := by unfold Addr.add; split <;> simp_all
  rw [e, this, List.getElem?_toArray, hj]
theorem slice_of_own {w : World} {base : Nat} {e : TypeId} {size : Nat} {v : Value} {n : Nat} {xs : List Value} (h : w.ownsRow base e size v (n + 1) xs) : ∃ g cap, v = .slice (some ⟨g, 0, none⟩) (n + 1) cap := by
  rcases h.2 with ⟨_, h⟩ | ⟨g, cap, _, h, _⟩
  · omega
  · exact ⟨g, cap, h⟩

/-- What is known behind an append of one element onto a slice that is owned; W: the world ahead of it. -/
theorem appended {w W w' : World} {g : Nat} {t : TypeId} {cur : Array Value} (hg : Cells w g t cur) {vw v' : Value} {n : Nat} {xs A : List Value} {e : TypeId} {size : Nat} (hown : w.ownsRow 0 e size vw n xs) (hne : vw.ownBlock ≠ some g)
    (hb : Below w.heap.size w W) (ho : w'.ownsRow 0 e size v' (n + 1) (xs ++ A)) (hgr : W.grownBy w' vw.ownBlock) (hbk : v'.ownBlock = vw.ownBlock ∨ v'.ownBlock = some W.heap.size) :
    (∃ g' cap, v' = .slice (some ⟨g', 0, none⟩) (n + 1) cap) ∧ Cells w' g t cur ∧ (∀ r, w.heap.size ≤ r → r < W.heap.size → w'.heap[r]? = W.heap[r]?) ∧
      (v'.ownBlock = vw.ownBlock ∨ ∃ k, v'.ownBlock = some k ∧ w.heap.size ≤ k ∧ k < w'.heap.size) ∧ Only (fun r => some r = vw.ownBlock) w w' := by
  have hs := hb.size
  refine ⟨slice_of_own ho, (hgr.block g (Nat.lt_of_lt_of_le hg.lt hs) (fun e => hne e.symm)).trans ((hb.block g hg.lt).trans hg), fun r h1 h2 => hgr.block r h2 (fun e => ?_), ?_, ?_⟩
  · have := (hown.lt r e.symm).2; omega
  · rcases hbk with h | h
    · exact .inl h
    · exact .inr ⟨_, h, hs, (ho.lt _ h).2⟩
  · exact (Only.of_below hb (Nat.le_refl _)).grown hgr (fun k hk => .inl hk.symm)

def tagged (T : Nat → Nat) (o : Option Nat) (t : Nat) : Prop := ∀ b, o = some b → T b = t
def retag (T : Nat → Nat) (lo : Nat) (o : Option Nat) (t : Nat) : Nat → Nat := fun b => if lo ≤ b ∧ o = some b then t else T b
/-- The same block, or a new one from lo on, below hi. -/
def sameOr (lo hi : Nat) (a b : Option Nat) : Prop := b = a ∨ ∃ k, b = some k ∧ lo ≤ k ∧ k < hi
theorem retag_old {T : Nat → Nat} {lo : Nat} {o : Option Nat} {t b : Nat} (h : b < lo) : retag T lo o t b = T b := by
  unfold retag; rw [if_neg (by omega)]
theorem retag_same {T : Nat → Nat} {lo hi : Nat} {a b : Option Nat} {t : Nat} (h : sameOr lo hi a b) (ha : tagged T a t) : tagged (retag T lo b t) b t := by
  intro k hk
  unfold retag
  split
  · rfl
  · rename_i hn
    rcases h with h | ⟨j, h, h1, _⟩
    · exact ha k (by rw [← h]; exact hk)
    · rw [h] at hk; cases hk; exact absurd ⟨h1, h⟩ hn
theorem retag_other {T : Nat → Nat} {lo : Nat} {o c : Option Nat} {t u : Nat} (hc : tagged T c u) (hl : ∀ k, c = some k → k < lo) : tagged (retag T lo o t) c u := by
  intro k hk; rw [retag_old (hl k hk)]; exact hc k hk
theorem retag_zero {T : Nat → Nat} {lo hi m : Nat} {a o : Option Nat} {t : Nat} (hT : ∀ b, T b ≠ 0 → b < m) (hm : m ≤ hi) (h : sameOr lo hi a o) (ha : ∀ k, a = some k → k < m) : ∀ b, retag T lo o t b ≠ 0 → b < hi := by
  intro b hb
  unfold retag at hb
  split at hb
  · rename_i hn
    rcases h with h | ⟨j, h, _, h2⟩
    · have := ha b (by rw [← h]; exact hn.2); omega
    · have := hn.2; rw [h] at this; cases this; exact h2
  · have := hT b hb; omega

/-- A step of a tagged thing: other blocks lie as they lay; what was tagged is so still. -/
structure Step (w : World) (T : Nat → Nat) (w' : World) (T' : Nat → Nat) : Prop where
  only : Only (fun r => T r ≠ 0) w w'
  old : ∀ r, r < w.heap.size → T' r = T r
theorem Step.refl (w : World) (T : Nat → Nat) : Step w T w T := ⟨Only.refl _ _, fun _ _ => rfl⟩
theorem Step.trans {w w1 w2 : World} {T T1 T2 : Nat → Nat} (h : Step w T w1 T1) (g : Step w1 T1 w2 T2) : Step w T w2 T2 :=
  ⟨h.only.trans g.only (fun r hr hn => by rw [← h.old r hr]; exact hn), fun r hr => (g.old r (Nat.lt_of_lt_of_le hr h.only.size)).trans (h.old r hr)⟩
theorem Step.below {w w' : World} {T : Nat → Nat} (h : Below w.heap.size w w') : Step w T w' T := ⟨Only.of_below h (Nat.le_refl _), fun _ _ => rfl⟩

end Go.Proofs.Ytembondddgfpcaa

namespace Go.Proofs.Ytembondddgfpcaa
open Go.RowKit

theorem infoAct : (Try.prog.info? 89).map (fun i => (i.zero, i.size, i.bytes)) = some (some (.agg #[.int .i64 0, .string ⟨#[]⟩, .string ⟨#[]⟩, .string ⟨#[]⟩, .int .i64 0]), 5, 64) := by kernel_rfl

/-- An act's cells. -/
structure ActA where
  kind : Nat
  name : ByteArray
  other : ByteArray
  bytes : ByteArray
  at_ : Nat
def ActA.cells (a : ActA) : List Value := [.int .i64 a.kind, .string a.name, .string a.other, .string a.bytes, .int .i64 a.at_]
def actsCells (l : List ActA) : List Value := l.flatMap ActA.cells
theorem actsCells_snoc (l : List ActA) (a : ActA) : actsCells (l ++ [a]) = actsCells l ++ a.cells := by unfold actsCells; simp
/-- What waits of a file, with one act more. -/
structure Waited (g o : Nat) (cur : Array Value) (vw : Value) (n : Nat) (xs : List Value) (news : List Value) (size' : Int) (w w' : World) : Prop where
  ex : ∃ v', Cells w' g 96 ((cur.setIfInBounds (o + 1) v').setIfInBounds (o + 2) (.int .i64 size')) ∧ w'.ownsRow 0 89 5 v' (n + 1) (xs ++ news) ∧ (v'.ownBlock = vw.ownBlock ∨ ∃ k, v'.ownBlock = some k ∧ w.heap.size ≤ k ∧ k < w'.heap.size)
  only : Only (fun r => r = g ∨ some r = vw.ownBlock) w w'
theorem Waited.mk' {g o : Nat} {cur : Array Value} {vw v' : Value} {n : Nat} {xs news : List Value} {size' : Int} {w w' : World} (hlt : g < w.heap.size) (hg : Cells w' g 96 cur) (ho : w'.ownsRow 0 89 5 v' (n + 1) (xs ++ news)) (hne : vw.ownBlock ≠ some g)
    (hk : v'.ownBlock = vw.ownBlock ∨ ∃ k, v'.ownBlock = some k ∧ w.heap.size ≤ k ∧ k < w'.heap.size) (hon : Only (fun r => some r = vw.ownBlock) w w') :
    Waited g o cur vw n xs news size' w ((w'.setCell ⟨g, o + 1, none⟩ v').setCell ⟨g, o + 2, none⟩ (.int .i64 size')) := by
  have hvg : v'.ownBlock ≠ some g := by
    intro e
    rcases hk with h | ⟨k, h, h2, _⟩
    · exact hne (h.symm.trans e)
    · rw [h] at e; cases e; omega
  refine ⟨⟨v', (hg.set _ _).set _ _, row_cell (row_cell ho hvg _) hvg _, ?_⟩, ?_⟩
  · simpa [World.setCell] using hk
  · exact ((hon.mono (S' := fun r => r = g ∨ some r = vw.ownBlock) (fun r _ h => .inr h)).setCell (p := ⟨g, o + 1, none⟩) (.inl (.inl rfl)) _).setCell (p := ⟨g, o + 2, none⟩) (.inl (.inl rfl)) _

theorem Waited.drew {g o : Nat} {cur : Array Value} {vw : Value} {n : Nat} {xs news : List Value} {size' : Int} {w w' : World} (h : Waited g o cur vw n xs news size' w w') : Waited g o cur vw n xs news size' w w'.drew := ⟨h.ex, h.only.drew⟩

set_option maxRecDepth 100000 in
set_option maxHeartbeats 2000000 in
theorem wait_cut (g o : Nat) (cur : Array Value) (vw : Value) (size : Nat) (n : Nat) (xs : List Value) (name other bytes : ByteArray) (at_ : Nat) (w : World)
    (hg : Cells w g 96 cur) (h1 : cur[o + 1]? = some vw) (h2 : cur[o + 2]? = some (.int .i64 size)) (hown : w.ownsRow 0 89 5 vw n xs) (hne : vw.ownBlock ≠ some g) (hn : n ≤ 1000000) :
    Calls Try.prog 53 #[.pointer (some ⟨g, o, none⟩), .agg #[.int .i64 3, .string name, .string other, .string bytes, .int .i64 at_]] w fun e w' => e = .returned (.tuple #[]) ∧
      Waited g o cur vw n xs [.int .i64 3, .string name, .string other, .string bytes, .int .i64 at_] at_ w w' := by
  obtain ⟨i0, hi, hz0, hz1, hz2⟩ := info_parts infoAct
  have c1 : w.cell? ⟨g, o + 1, none⟩ = some vw := by rw [hg.cell, h1]
  have hgl := hg.lt
  have HO := Lib.hid hown
  have HE := Lib.hid hne
  clear hown hne
  go_enter Try.func53, Try.ntmps53
  go_wp2
  go_region_law ((refine step_append_own rfl (.tmp 8) (.tmp 10) 60 rfl 89 i0 _ 5 64 Try.underlying60 hi hz0 hz1 hz2 rfl (by decide) vw n xs (by simp [Act.eval]) (by exact ((HO.out.alloc _).alloc _).drew) ⟨w.heap.size + 1, 0, none⟩ 1 1 [.int .i64 3, .string name, .string other, .string bytes, .int .i64 at_] (by simp [Act.eval]) rfl (by have := cells_new_add (w.alloc (.cells #[.int .i64 3, .string name, .string other, .string bytes, .int .i64 at_] 89)) 89 [.int .i64 3, .string name, .string other, .string bytes, .int .i64 at_]; rw [World.size_alloc] at this; exact this) (by intro u hu; simp at hu; rcases hu with rfl | rfl | rfl | rfl | rfl <;> rfl) (by unfold maxLen; omega) (by omega) ?_); intro v' w' ho hgr hbk; obtain ⟨⟨g', cap', rfl⟩, hg', hbx, hk, hon⟩ := appended hg HO.out HE.out ((((Below.refl _ w).alloc (Nat.le_refl _) _).alloc (by simp) _).drew) ho hgr hbk; have k1 := (hg'.cell (o + 1)).trans h1; have kf1 := hg'.frozen (o + 1); have k2 := (hg'.cell (o + 2)).trans h2; have kf2 := hg'.frozen (o + 2); have bx : Cells w' w.heap.size 89 #[.int .i64 3, .string name, .string other, .string bytes, .int .i64 at_] := (hbx _ (Nat.le_refl _) (by simp; omega)).trans ((Cells.new w _ _).alloc _); have b0 := bx.cell 0; have b3 := bx.cell 3; have b4 := bx.cell 4; simp at b0 b3 b4)
  all_goals
    go_wp2
    refine bodyPost_ret (v := .tuple #[]) (by simp [results, Try.results53, go_sem]) rfl ⟨rfl, Waited.mk' hgl hg' ho HE.out hk hon⟩

set_option maxRecDepth 100000 in
set_option maxHeartbeats 2000000 in
theorem wait_write (g o : Nat) (cur : Array Value) (vw : Value) (size : Nat) (n : Nat) (xs : List Value) (name other bytes : ByteArray) (at_ : Nat) (w : World)
    (hg : Cells w g 96 cur) (h1 : cur[o + 1]? = some vw) (h2 : cur[o + 2]? = some (.int .i64 size)) (hown : w.ownsRow 0 89 5 vw n xs) (hne : vw.ownBlock ≠ some g) (hn : n ≤ 1000000) (hsz : size ≤ 1000000) (hb : bytes.size ≤ 1000000) :
    Calls Try.prog 53 #[.pointer (some ⟨g, o, none⟩), .agg #[.int .i64 2, .string name, .string other, .string bytes, .int .i64 at_]] w fun e w' => e = .returned (.tuple #[]) ∧
      Waited g o cur vw n xs [.int .i64 2, .string name, .string other, .string bytes, .int .i64 at_] ((size : Int) + (bytes.size : Int)) w w' := by
  obtain ⟨i0, hi, hz0, hz1, hz2⟩ := info_parts infoAct
  have c1 : w.cell? ⟨g, o + 1, none⟩ = some vw := by rw [hg.cell, h1]
  have hgl := hg.lt
  have HO := Lib.hid hown
  have HE := Lib.hid hne
  clear hown hne
  go_enter Try.func53, Try.ntmps53
  go_wp2
  go_region_law ((refine step_append_own rfl (.tmp 8) (.tmp 10) 60 rfl 89 i0 _ 5 64 Try.underlying60 hi hz0 hz1 hz2 rfl (by decide) vw n xs (by simp [Act.eval]) (by exact ((HO.out.alloc _).alloc _).drew) ⟨w.heap.size + 1, 0, none⟩ 1 1 [.int .i64 2, .string name, .string other, .string bytes, .int .i64 at_] (by simp [Act.eval]) rfl (by have := cells_new_add (w.alloc (.cells #[.int .i64 2, .string name, .string other, .string bytes, .int .i64 at_] 89)) 89 [.int .i64 2, .string name, .string other, .string bytes, .int .i64 at_]; rw [World.size_alloc] at this; exact this) (by intro u hu; simp at hu; rcases hu with rfl | rfl | rfl | rfl | rfl <;> rfl) (by unfold maxLen; omega) (by omega) ?_); intro v' w' ho hgr hbk; obtain ⟨⟨g', cap', rfl⟩, hg', hbx, hk, hon⟩ := appended hg HO.out HE.out ((((Below.refl _ w).alloc (Nat.le_refl _) _).alloc (by simp) _).drew) ho hgr hbk; have k1 := (hg'.cell (o + 1)).trans h1; have kf1 := hg'.frozen (o + 1); have k2 := (hg'.cell (o + 2)).trans h2; have kf2 := hg'.frozen (o + 2); have bx : Cells w' w.heap.size 89 #[.int .i64 2, .string name, .string other, .string bytes, .int .i64 at_] := (hbx _ (Nat.le_refl _) (by simp; omega)).trans ((Cells.new w _ _).alloc _); have b0 := bx.cell 0; have b3 := bx.cell 3; have b4 := bx.cell 4; simp at b0 b3 b4)
  all_goals
    go_wp2
    go_region
    all_goals
      go_wp2
      go_end0
      exact ⟨rfl, (Waited.mk' hgl hg' ho HE.out hk hon).drew⟩
end Go.Proofs.Ytembondddgfpcaa

