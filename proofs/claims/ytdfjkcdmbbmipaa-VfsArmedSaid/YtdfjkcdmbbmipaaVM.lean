/- Rows of bytes of the call's own, some cells behind which may be marked: made of a string, cut, appended to, made a string. -/
import Derived.Test.YtdfjkcdmbbmipaaVA
import Derived.Lib.ConvBytes
import Derived.Lib.AppendStr
import Derived.Lib.Bytes
import Derived.Lib.UnsafeStr
import Derived.Deep.Upon
import Derived.Laws.IdiomCopy
namespace Go.Proofs.Ytdfjkcdmbbmipaa
open Go.RowKit

/-- v is a slice of the row g, of which no cell is frozen, and reads as l. -/
structure BRow (w : World) (g cap : Nat) (v : Value) (l : List UInt8) : Prop where
  val : v = .slice (some ⟨g, 0, none⟩) l.length cap
  lt : g < w.heap.size
  fits : l.length ≤ cap
  most : cap ≤ maxLen
  some_ : ∀ j, j < cap → (w.cell? ⟨g, j, none⟩).isSome = true
  free : ∀ j, j < cap → w.frozen? ⟨g, j, none⟩ = false
  cell : ∀ j (h : j < l.length), w.cell? ⟨g, j, none⟩ = some (.int .u8 (l[j].toNat : Int))

theorem BRow.same {w w' : World} {g cap : Nat} {v : Value} {l : List UInt8} (h : BRow w g cap v l) (hs : w'.heap[g]? = w.heap[g]?) : BRow w' g cap v l := by
  have c : ∀ j, w'.cell? ⟨g, j, none⟩ = w.cell? ⟨g, j, none⟩ := fun j => World.cell?_of_block (a := ⟨g, j, none⟩) hs
  have f : ∀ j, w'.frozen? ⟨g, j, none⟩ = w.frozen? ⟨g, j, none⟩ := fun j => World.frozen?_of_block (a := ⟨g, j, none⟩) hs
  refine ⟨h.val, ?_, h.fits, h.most, fun j hj => by rw [c]; exact h.some_ j hj, fun j hj => by rw [f]; exact h.free j hj, fun j hj => by rw [c]; exact h.cell j hj⟩
  obtain ⟨hl, hk⟩ : ∃ hl : g < w.heap.size, w.heap[g]? = some w.heap[g] := ⟨h.lt, Array.getElem?_eq_getElem h.lt⟩
  rw [hk] at hs
  exact (Array.getElem?_eq_some_iff.1 hs).1
theorem BRow.cut {w : World} {g cap : Nat} {v : Value} {l : List UInt8} (h : BRow w g cap v l) (k : Nat) (hk : k ≤ l.length) : BRow w g cap (.slice (some ⟨g, 0, none⟩) k cap) (l.take k) := by
  have e : (l.take k).length = k := by rw [List.length_take]; omega
  refine ⟨by rw [e], h.lt, by have := h.fits; omega, h.most, h.some_, h.free, fun j hj => ?_⟩
  rw [h.cell j (by omega)]
  simp
theorem bytesWorld_only {S : Nat → Prop} (w : World) (e : TypeId) (s : ByteArray) : Only S w (Lib.bytesWorld w e s) := by
  refine ⟨rfl, rfl, rfl, by rw [Lib.bytesWorld_size]; omega, fun r hr _ => Lib.bytesWorld_at_old w e s r hr⟩
theorem BRow.made (w : World) (e : TypeId) (s : ByteArray) (hs : s.size ≤ 1000000) : BRow (Lib.bytesWorld w e s) w.heap.size (grownCap w s.size 0 e) (.slice (some ⟨w.heap.size, 0, none⟩) s.size (grownCap w s.size 0 e)) s.data.toList := by
  have hge := grownCap_ge w s.size 0 e
  have hle := grownCap_le_maxLen w s.size 0 e (by unfold maxLen; omega)
  have hsz : (Lib.bytesCells w e s).size = grownCap w s.size 0 e := by
    unfold Lib.bytesCells
    simp only [Array.size_append, Array.size_map, Array.size_replicate]
    have : s.data.size = s.size := rfl
    omega
  have hl : s.data.toList.length = s.size := (Lib.size_eq s).symm
  refine ⟨by rw [hl], by rw [Lib.bytesWorld_size]; omega, by omega, hle, fun j hj => ?_, fun j hj => ?_, fun j hj => ?_⟩
  · simp [World.cell?, Lib.bytesWorld_at_new, hsz, hj]
  · simp [World.frozen?, Lib.bytesWorld_at_new, hsz]; omega
  · rw [Lib.bytesWorld_cell w e s j (by omega)]
    have hj' : j < s.data.size := by simpa using hj
    rw [List.getD_eq_getElem?_getD, List.getElem?_eq_getElem hj]; rfl
theorem BRow.back {P : Program} {w : World} {g cap : Nat} {v : Value} {l : List UInt8} (h : BRow w g cap v l) (src dst e : TypeId) (hs : P.underlying src = some (.slice e)) (he : P.underlying e = some (.int .u8)) (hd : P.underlying dst = some .string) :
    (convert src dst v).run P w = .ok (.string ⟨l.toArray⟩) w := by
  rw [h.val]
  refine run_convert_bytes_back w src dst e ⟨g, 0, none⟩ cap l hs he hd (fun j hj => ?_)
  have e : (⟨g, 0, none⟩ : Addr).add j = ⟨g, j, none⟩ := by unfold Addr.add; split <;> simp_all
  rw [e]
  exact h.cell j hj
theorem tape_setCells (g : Nat) : ∀ (vs : List Value) (o : Nat) (w : World), (w.setCells g o vs).tape = w.tape
  | [], _, _ => rfl
  | v :: vs, o, w => by unfold World.setCells; rw [tape_setCells g vs]; rfl
theorem size_setCells (g : Nat) : ∀ (vs : List Value) (o : Nat) (w : World), (w.setCells g o vs).heap.size = w.heap.size
  | [], _, _ => rfl
  | v :: vs, o, w => by unfold World.setCells; rw [size_setCells g vs]; simp [World.setCell]

theorem BRow.run_append {P : Program} {w : World} {g cap : Nat} {v : Value} {l : List UInt8} (h : BRow w g cap v l) (t u ty e : TypeId) (i : TypeInfo) (ht : P.underlying t = some (.slice e)) (hu : P.underlying u = some .string) (hi : P.info? e = some i) (hz : i.zero = some (.int .u8 0))
    (hsize : i.size = 1) (hby : i.bytes = 1) (s : ByteArray) (h63 : l.length + s.size ≤ 1000000000) :
    ∃ v' w' g' cap', (Builtin.append_ #[t, u] ty #[v, .string s]).run P w = .ok v' w' ∧ BRow w' g' cap' v' (l ++ s.data.toList) ∧ Only (· = g) w w' ∧ (g' = g ∨ w.heap.size ≤ g') := by
  have hsl : (Lib.strCells s).length = s.size := Lib.strCells_length s
  have hd : s.data.toList.length = s.size := (Lib.size_eq s).symm
  have hlen : (l ++ s.data.toList).length = l.length + s.size := by rw [List.length_append, hd]
  have hcells : ∀ j (hj : j < s.size), (Lib.strCells s)[j]'(by omega) = .int .u8 ((s.data.toList[j]'(by omega)).toNat : Int) := by
    intro j hj; simp [Lib.strCells]
  rw [h.val]
  by_cases hroom : l.length + s.size ≤ cap
  · have hst := run_storeCells_cells (P := P) g l.length (Lib.strCells s) 0 w (fun j hj => h.some_ _ (by omega)) (fun j hj => h.free _ (by omega)) (Lib.strCells_oneCell s)
    simp only [Nat.add_zero] at hst
    have hf := Lib.run_firstCells_string (P := P) w 1 s
    refine ⟨.slice (some ⟨g, 0, none⟩) (l.length + s.size) cap, w.setCells g l.length (Lib.strCells s), g, cap, ?_, ?_, ?_, .inl rfl⟩
    · simp [Builtin.append_, run_underlying ht, run_underlying hu, sizeOf, typeInfo, hi, hsize, Builtin.lenOf, hroom, hf, Addr.add_lit, hst]
    · refine ⟨by rw [hlen], by rw [size_setCells]; exact h.lt, by omega, h.most, fun j hj => ?_, fun j hj => by rw [World.frozen?_setCells]; exact h.free j hj, fun j hj => ?_⟩
      · by_cases hin : l.length ≤ j ∧ j < l.length + s.size
        · have := World.cell?_setCells_in g (Lib.strCells s) l.length w (fun j hj => h.some_ _ (by omega)) (j - l.length) (by omega)
          rw [show l.length + (j - l.length) = j by omega] at this
          rw [this]; rfl
        · rw [World.cell?_setCells_out g (Lib.strCells s) l.length w ⟨g, j, none⟩ (fun _ _ => by simp only; omega)]
          exact h.some_ j hj
      · by_cases hin : j < l.length
        · rw [World.cell?_setCells_out g (Lib.strCells s) l.length w ⟨g, j, none⟩ (fun _ _ => by simp only; omega), h.cell j hin, List.getElem_append_left hin]
        · have := World.cell?_setCells_in g (Lib.strCells s) l.length w (fun j hj => h.some_ _ (by omega)) (j - l.length) (by omega)
          rw [show l.length + (j - l.length) = j by omega] at this
          rw [this, hcells _ (by omega), List.getElem_append_right (by omega)]
    · exact ⟨World.os_setCells w g _ _, tape_setCells g _ _ w, World.output_setCells w g _ _, by rw [size_setCells]; exact Nat.le_refl _, fun r hr hne => World.heap_setCells_other w g _ _ hr hne⟩
  · have hx : (Lib.byteCells l).length = l.length := Lib.byteCells_length l
    have holds : ∀ j u, (Lib.byteCells l)[j]? = some u → w.cell? ((⟨g, 0, none⟩ : Addr).add j) = some u := by
      intro j u hu'
      have e : (⟨g, 0, none⟩ : Addr).add j = ⟨g, j, none⟩ := by unfold Addr.add; split <;> simp_all
      have hj : j < l.length := by have := (List.getElem?_eq_some_iff.1 hu').1; omega
      rw [e, h.cell j hj]
      rw [← hu']
      simp [Lib.byteCells, hj]
    have hr := Lib.run_append_grow_string (P := P) w t u ty e i (.int .u8 0) ht hu hi hz ⟨g, 0, none⟩ l.length cap (Lib.byteCells l) (by rw [hsize]; omega) holds s (by omega) (by omega) (by rw [hby]; exact growslice_fits (by omega) (by omega))
    have hge := grownCap_ge w (l.length + s.size) cap e
    have hcm2 := grownCap_le_maxLen w (l.length + s.size) cap e (by unfold maxLen; omega)
    have hcs : Cells (w.drew.alloc (.cells ((Lib.byteCells l).toArray ++ (Lib.strCells s).toArray ++ Builtin.zeroCells (Value.int .u8 0).cells (grownCap w (l.length + s.size) cap e - (l.length + s.size))) e)) w.heap.size e _ := Cells.new w.drew e _
    have hz1 : (Value.int IntKind.u8 0).cells.size = 1 := rfl
    refine ⟨_, _, w.heap.size, grownCap w (l.length + s.size) cap e, hr, ⟨by rw [hlen], by simp, by omega, hcm2, fun j hj => ?_, fun j hj => hcs.frozen j, fun j hj => ?_⟩, ((Only.refl (· = g) w).drew).alloc _, .inr (Nat.le_refl _)⟩
    · rw [hcs.cell j]
      have : j < ((Lib.byteCells l).toArray ++ (Lib.strCells s).toArray ++ Builtin.zeroCells (Value.int .u8 0).cells (grownCap w (l.length + s.size) cap e - (l.length + s.size))).size := by
        simp only [Array.size_append, List.size_toArray, size_zeroCells, hz1, hx, hsl]; omega
      rw [Array.getElem?_eq_getElem this]; rfl
    · have e1 : (Lib.byteCells l).toArray ++ (Lib.strCells s).toArray = (Lib.byteCells (l ++ s.data.toList)).toArray := by
        rw [Lib.byteCells_append, ← Lib.strCells_eq]; simp
      rw [hcs.cell j, e1, Array.getElem?_append_left (by simp only [List.size_toArray, Lib.byteCells_length]; omega)]
      rw [List.getElem?_toArray]
      unfold Lib.byteCells
      rw [List.getElem?_map, List.getElem?_eq_getElem hj]; rfl

theorem wpList_append_brow {P : Program} {w : World} {ops : Array Oper} {rest : List Oper} {op : Oper} {a : Act} {Q : Exit → Act → World → Prop} (hgd : op.guard = none) (sl x : Operand) (t u : TypeId)
    (ho : op.op = .call { callee := .builtin .append, args := #[sl, x], argTypes := #[t, u] }) (g cap : Nat)
    (e : TypeId) (i : TypeInfo) (ht : P.underlying t = some (.slice e)) (hu : P.underlying u = some .string) (hi : P.info? e = some i) (hz : i.zero = some (.int .u8 0)) (hsize : i.size = 1) (hby : i.bytes = 1)
    (v : Value) (l : List UInt8) (hs : a.eval sl = v) (h : BRow w g cap v l) (s : ByteArray) (hx : a.eval x = .string s) (h63 : l.length + s.size ≤ 1000000000)
    (hK : ∀ v' w' g' cap', BRow w' g' cap' v' (l ++ s.data.toList) → Only (· = g) w w' → (g' = g ∨ w.heap.size ≤ g') → wpList P ops Q rest (a.put op.dst v') w') : wpList P ops Q (op :: rest) a w := by
  refine wpList_plain hgd fun K hK' => ?_
  obtain ⟨v', w', g', cap', hr, h2, h3, h4⟩ := h.run_append (P := P) t u op.type e i ht hu hi hz hsize hby s h63
  unfold Oper.wp execOp
  simp only [ho, resolve, invoke, builtin, Sem.run_bind, Sem.run_pure, Result.andThen_ok, List.map_toArray, List.map_cons, List.map_nil, hs, hx, hr]
  exact hK' _ _ (hK v' w' g' cap' h2 h3 h4)
end Go.Proofs.Ytdfjkcdmbbmipaa
