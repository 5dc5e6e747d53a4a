/- Texts put together: IU, JC, PA, PO, PQ, PR. -/
import Derived.Test.YtiebbgbcojgeoaaGreatDoorBas1
import Derived.Test.YtiebbgbcojgeoaaGreatDoorBas2
import Derived.Test.YtiebbgbcojgeoaaGreatDoorBas5
set_option linter.unusedVariables false
namespace Go.Proofs.YtiebbgbcojgeoaaGreatDoor
open Go.RowKit Go.Maps Go.Sort Go.Shelf

/-- A slice of numbers, readable. -/
def Nums (w : World) (v : Value) (zs : List Int) : Prop :=
  ∃ A cap, v = .slice A zs.length cap ∧ zs.length ≤ cap ∧ ∀ k z, zs[k]? = some z → ∃ b off, A = some ⟨b, off, none⟩ ∧ b < w.heap.size ∧ w.cell? ⟨b, off + k, none⟩ = some (.int .i64 z)
theorem Nums.below {w w' : World} {v : Value} {zs : List Int} {n : Nat} (h : Nums w v zs) (hb : Below n w w') (hn : w.heap.size ≤ n) : Nums w' v zs := by
  obtain ⟨A, cap, e, hle, hc⟩ := h
  refine ⟨A, cap, e, hle, fun k z hk => ?_⟩
  obtain ⟨b, off, e, hbl, c⟩ := hc k z hk
  exact ⟨b, off, e, Nat.lt_of_lt_of_le hbl hb.size, (hb.cell (p := ⟨b, off + k, none⟩) (Nat.lt_of_lt_of_le hbl hn)).trans c⟩
theorem Nums.row {w : World} {base : Nat} {v : Value} {zs : List Int} (h : w.ownsRow base 3 1 v zs.length (zs.map encZ)) : Nums w v zs := by
  obtain ⟨A, cap, rfl, hle⟩ := row_sliceZ h
  refine ⟨A, cap, rfl, hle, fun k z hk => ?_⟩
  obtain ⟨b, c, e⟩ := Joins.ownsRow_form h (List.length_pos_of_mem (List.mem_of_getElem? hk))
  have e2 := e
  cases e2
  have h1 := h.lt b rfl
  refine ⟨b, 0, rfl, h1.2, ?_⟩
  have hk2 : k < zs.length := (List.getElem?_eq_some_iff.1 hk).1
  have := World.ownsRow.cellAt h k (by omega)
  rw [Nat.zero_add, this]
  simp [hk, encZ]
theorem AnsI.nums {w w' : World} {v : Value} {ss : List Int} (h : AnsI w w' v ss) : Nums w' v (sortZ ss) := by
  have h1 := h.1
  have e : ss.length = (sortZ ss).length := (sortZ_perm ss).length_eq.symm
  rw [e] at h1
  exact Nums.row h1
def sortS (ss : List (List UInt8)) : List (List UInt8) := ss.mergeSort fun x y => decide (x ≤ y)
theorem sortS_perm (ss : List (List UInt8)) : (sortS ss).Perm ss := List.mergeSort_perm _ _
theorem sortS_le (xs : List (List UInt8)) : (sortS xs).Pairwise fun x y => x ≤ y := by
  have := List.pairwise_mergeSort (le := fun x y : List UInt8 => decide (x ≤ y)) (fun a b c h1 h2 => by simp at h1 h2 ⊢; exact List.le_trans h1 h2) (fun a b => by simp; exact List.le_total a b) xs
  exact this.imp fun h => by simpa using h
theorem sortS_same {xs : List (List UInt8)} (h : xs.Pairwise fun x y => x ≤ y) : sortS xs = xs := List.mergeSort_of_pairwise (h.imp fun h => by simpa using h)
theorem sortS_eq {xs ys : List (List UInt8)} (h : xs.Perm ys) : sortS xs = sortS ys :=
  List.Perm.eq_of_pairwise (le := fun x y : List UInt8 => x ≤ y) (fun a b _ _ h1 h2 => List.le_antisymm h1 h2) (sortS_le xs) (sortS_le ys) (((sortS_perm xs).trans h).trans (sortS_perm ys).symm)
theorem strs_row {w : World} {base : Nat} {v : Value} {ss : List (List UInt8)} (h : w.ownsRow base 9 1 v ss.length (ss.map encStr)) : Strs w v (ss.map B) := by
  obtain ⟨A, cap, rfl, hle⟩ := row_sliceZ h
  refine ⟨A, cap, by rw [List.length_map], by rw [List.length_map]; exact hle, fun k z hk => ?_⟩
  rw [List.getElem?_map] at hk
  cases hs : ss[k]? with
  | none => rw [hs] at hk; cases hk
  | some s =>
    rw [hs] at hk
    cases hk
    obtain ⟨b, c, e⟩ := Joins.ownsRow_form h (List.length_pos_of_mem (List.mem_of_getElem? hs))
    have e2 := e
    cases e2
    have h1 := h.lt b rfl
    refine ⟨b, 0, rfl, h1.2, ?_⟩
    have hk2 : k < ss.length := (List.getElem?_eq_some_iff.1 hs).1
    have := World.ownsRow.cellAt h k (by omega)
    rw [Nat.zero_add, this]
    simp [hs, encStr, B]
theorem AnsS.strs {w w' : World} {v : Value} {ss : List (List UInt8)} (h : AnsS w w' v ss) : Strs w' v ((sortS ss).map B) := by
  have h1 := h.1
  have e : ss.length = (sortS ss).length := (sortS_perm ss).length_eq.symm
  rw [e] at h1
  exact strs_row h1
set_option maxRecDepth 100000 in
set_option maxHeartbeats 2000000 in
theorem ints_any (v v' : Value) (ss zs : List Int) (w : World) (h : Nums w v ss) (h' : Nums w v' zs) (hl : ss.length ≤ 10000000000000) (hl' : zs.length ≤ 10000000000000) :
    Calls Tryz.prog 44 #[v, v'] w fun e w' => e = .returned (.bool (decide (ss = zs))) ∧ Below w.heap.size w w' := by
  obtain ⟨A, cap, rfl, hle, hc⟩ := h
  obtain ⟨A', cap', rfl, hle', hc'⟩ := h'
  by_cases hne : ss.length = zs.length
  · go_enter Tryz.func44, Tryz.ntmps44
    go_wp2
    go_loopw [13] (fun i wr => ∃ k : Nat, k ≤ ss.length ∧ i = .int .i64 k ∧ (ss.take k = zs.take k) ∧ Below w.heap.size w wr) (fun i _ => ss.length - (intOf i).toNat)
    case atStart => exact ⟨0, Nat.zero_le _, rfl, rfl, Below.refl _ _⟩
    case round =>
      obtain ⟨k, hk, rfl, he, hbl⟩ := hrel
      by_cases hlt : k < ss.length
      · obtain ⟨x, e1⟩ : ∃ x, ss[k]? = some x := ⟨_, List.getElem?_eq_getElem hlt⟩
        obtain ⟨y, e2⟩ : ∃ y, zs[k]? = some y := ⟨_, List.getElem?_eq_getElem (by omega)⟩
        obtain ⟨b, off, rfl, hb, c1⟩ := hc k _ e1
        obtain ⟨b', off', rfl, hb', c2⟩ := hc' k _ e2
        replace c1 := (hbl.cell (p := ⟨b, off + k, none⟩) hb).trans c1
        replace c2 := (hbl.cell (p := ⟨b', off' + k, none⟩) hb').trans c2
        have E := Lib.hid he
        have T1 : Hid (ss.take (k + 1) = ss.take k ++ [x]) := by show _ = _; rw [List.take_add_one, e1]; rfl
        have T2 : Hid (zs.take (k + 1) = zs.take k ++ [y]) := by show _ = _; rw [List.take_add_one, e2]; rfl
        have F := Lib.hid (show x ≠ y → ss ≠ zs from fun hn hs => by subst hs; rw [e1] at e2; exact hn (Option.some.inj e2))
        have hz : k < zs.length := by omega
        clear hc hc' e1 e2 he
        by_cases hxy : x = y
        · subst hxy
          go_wp2_with (go_quiet (fail))
          go_roundw
          case rel => exact ⟨k + 1, hlt, by go_num, by rw [T1.out, T2.out, E.out], drewN_below hbl _⟩
          case measure => simp [intOf]; omega
        · have F2 := Lib.hid (F.out hxy)
          clear F
          have hx4 : (x != y) = true := by simpa using hxy
          go_wp2_with (go_quiet (fail))
          go_ret
          exact ⟨by simp [F2.out], drewN_below hbl _⟩
      · obtain rfl : k = ss.length := by omega
        rw [List.take_of_length_le (Nat.le_refl _), List.take_of_length_le (by omega)] at he
        clear hc hc'
        go_wp2
        go_ret
        exact ⟨by simp [he], hbl⟩
  · have hn : ¬ ((ss.length : Int) = zs.length) := by omega
    have F := Lib.hid (show ss ≠ zs from fun hs => by subst hs; exact hne rfl)
    clear hc hc' hne
    go_enter Tryz.func44, Tryz.ntmps44
    go_wp2
    go_ret
    exact ⟨by simp [F.out], Below.refl _ _⟩
/-- The stanzas without one; with one more. -/
def dropZ (rs : List Sz) (id : Int) : List Sz := rs.filter fun s => decide (s.1 ≠ id)
def putZ (rs : List Sz) (id : Int) (fs : List (List UInt8 × List UInt8)) : List Sz := dropZ rs id ++ [(id, fs)]
theorem ids_drop (rs : List Sz) (id : Int) : outI id (idsOf rs) = idsOf (dropZ rs id) := by
  funext i
  rw [Bool.eq_iff_iff, idsOf_iff]
  unfold outI dropZ
  rw [List.mem_map]
  by_cases e : i = id
  · rw [if_pos e]
    exact ⟨fun h => (by cases h), fun ⟨s, h1, h2⟩ => by have := (List.mem_filter.1 h1).2; simp at this; exact absurd (h2.trans e) this⟩
  · rw [if_neg e, idsOf_iff, List.mem_map]
    exact ⟨fun ⟨s, h1, h2⟩ => ⟨s, List.mem_filter.2 ⟨h1, by simp; intro q; exact e (h2.symm.trans q)⟩, h2⟩, fun ⟨s, h1, h2⟩ => ⟨s, (List.mem_filter.1 h1).1, h2⟩⟩
theorem f_drop : ∀ (rs : List Sz) (id : Int), outF id (fOf rs) = fOf (dropZ rs id)
  | [], id => by funext k v i; unfold outF dropZ; split <;> rfl
  | s :: r, id => by
    have ih := f_drop r id
    funext k v i
    have h := congrFun (congrFun (congrFun ih k) v) i
    unfold outF at h ⊢
    unfold dropZ at h ⊢
    by_cases e : s.1 = id
    · rw [List.filter_cons_of_neg (by simp [e]), ← h]
      by_cases q : i = id
      · rw [if_pos q, if_pos q]
      · rw [if_neg q, if_neg q, fOf, if_neg (fun z => q (z.trans e)), Nat.zero_add]
    · rw [List.filter_cons_of_pos (by simp [e]), fOf, fOf, ← h]
      by_cases q : i = id
      · rw [if_pos q, if_pos q, if_neg (fun z => e (z.symm.trans q))]
      · rw [if_neg q, if_neg q]
/-- What an index carries: blocks at or above S, what it knows. -/
structure IdxL (S : Nat) (w : World) (T : Nat → Tag) (x kb yb n : Nat) (rs : List Sz) : Prop where
  at_ : IdxAt w T S x kb yb n (idsOf rs) (fOf rs)
  low : ∀ c, c < S → T c = (0, [], [])
  size : S ≤ w.heap.size
  n : n ≤ 800000
theorem IdxL.below {S : Nat} {w w' : World} {T : Nat → Tag} {x kb yb n : Nat} {rs : List Sz} (h : IdxL S w T x kb yb n rs) {N : Nat} (hb : Below N w w') (hN : w.heap.size ≤ N) : IdxL S w' T x kb yb n rs :=
  ⟨h.at_.turn (Only.of_below hb hN : Only (fun _ => False) w w') (fun _ _ => rfl) (fun _ _ h => h), h.low, Nat.le_trans h.size hb.size, h.n⟩
theorem IdxL.only {S : Nat} {w w' : World} {T T' : Nat → Tag} {x kb yb n : Nat} {rs : List Sz} (h : IdxL S w T x kb yb n rs) (ho : Only (OfIdx T) w w') : Below S w w' := ho.to_below h.size (fun r hr e => by unfold OfIdx at e; rw [h.low r hr] at e; exact e rfl)
theorem new_L (w : World) : Calls Tryz.prog 79 #[] w fun e w' => e = .returned (.pointer (some ⟨w.heap.size + 2, 0, none⟩)) ∧ ∃ T, IdxL w.heap.size w' T (w.heap.size + 2) w.heap.size (w.heap.size + 1) 0 [] ∧ Below w.heap.size w w' := by
  refine (new_idx w (fun _ => (0, [], [])) w.heap.size (Nat.le_refl _)).mono ?_
  rintro e w' ⟨rfl, T, ht, hi, ho⟩
  exact ⟨rfl, T, ⟨hi, fun c hc => ht c hc, ho.size, Nat.zero_le _⟩, ho.to_below (Nat.le_refl _) (fun _ _ h => h)⟩
theorem put_L {S : Nat} {w : World} {T : Nat → Tag} {x kb yb n : Nat} {rs : List Sz} (h : IdxL S w T x kb yb n rs) (id : Int) (hw : (Lit.int .i64 id).wf = true) (h1 : 1 ≤ id) (v : Value) (fs : List (List UInt8 × List UInt8)) (hF : ∀ W, Only (OfIdx (bareT T w.heap.size)) w W → Flds W v fs) (hn : n + 1 + 2 * fs.length ≤ 800000)
    (hf : ∀ f ∈ fs, f.1.length ≤ maxLen ∧ f.2.length ≤ maxLen) :
    Calls Tryz.prog 38 #[.pointer (some ⟨x, 0, none⟩), .int .i64 id, v] w fun e w' => e = .returned .nilIface ∧
      ∃ T', (∀ c, c < w.heap.size → T' c = T c) ∧ IdxL S w' T' x kb yb (n + 1 + 2 * fs.length) (putZ rs id fs) ∧ Only (OfIdx T) w w' := by
  refine (put_any h.at_.bareT id hw h1 v fs hF (by omega) (fun hi k v => fOf_out rs k v id hi) hf h.size).mono ?_
  rintro e w' ⟨rfl, T', ht, hi, ho⟩
  have e1 : (fun i => if i = id then true else outI id (idsOf rs) i) = idsOf (putZ rs id fs) := by
    rw [ids_drop]; exact idsOf_snoc (dropZ rs id) id fs
  have e2 : addFs id (outF id (fOf rs)) fs = fOf (putZ rs id fs) := by
    rw [f_drop]; exact fOf_snoc (dropZ rs id) id fs
  rw [e1, e2] at hi
  have hT : ∀ c, c < w.heap.size → T' c = T c := fun c hc => (ht c hc).trans (bareT_lt hc)
  exact ⟨rfl, T', hT, ⟨hi, fun c hc => (hT c (Nat.lt_of_lt_of_le hc h.size)).trans (h.low c hc), Nat.le_trans h.size ho.size, hn⟩, only_bare ho⟩
theorem drop_L {S : Nat} {w : World} {T : Nat → Tag} {x kb yb n : Nat} {rs : List Sz} (h : IdxL S w T x kb yb n rs) (id : Int) (hw : (Lit.int .i64 id).wf = true) :
    Calls Tryz.prog 39 #[.pointer (some ⟨x, 0, none⟩), .int .i64 id] w fun e w' => e = .returned (.bool (idsOf rs id)) ∧
      ∃ T', (∀ c, c < w.heap.size → T' c = T c) ∧ IdxL S w' T' x kb yb n (dropZ rs id) ∧ Only (OfIdx T) w w' := by
  refine (drop_any h.at_ id hw (fun hi k v => fOf_out rs k v id hi)).mono ?_
  rintro e w' ⟨rfl, T', ht, hi, ho⟩
  rw [ids_drop, f_drop] at hi
  exact ⟨rfl, T', ht, ⟨hi, fun c hc => (ht c (Nat.lt_of_lt_of_le hc h.size)).trans (h.low c hc), Nat.le_trans h.size ho.size, h.n⟩, ho⟩
end Go.Proofs.YtiebbgbcojgeoaaGreatDoor

namespace Go.Proofs.YtiebbgbcojgeoaaGreatDoor
open Go.RowKit Go.Shelf

theorem mo_subIX {o : Oper} {a : Act} {w : World} {K : Act → World → Prop} {Q : Exit → Act → World → Prop} {x y : Operand} {m : Nat} (hm : m ≤ 1000000) (ho : o.op = Op.binOp BinOp.sub 3 x y 3) (hx : a.eval x = .int .i64 ((m + 1 : Nat) : Int)) (hy : a.eval y = .int .i64 1) (hK : K (a.put o.dst (.int .i64 ((m : Nat) : Int))) w) : Oper.wp Tryz.prog o a w K Q := by
  have e : (((m + 1 : Nat) : Int) - 1) = (m : Int) := by omega
  have hw : IntKind.i64.wrap (((m + 1 : Nat) : Int) - 1) = ((m + 1 : Nat) : Int) - 1 := by rw [e]; simp [IntKind.wrap, IntKind.signed, IntKind.bits]; omega
  refine mo_subI hw ho hx hy ?_
  rw [e]; exact hK
def ops_iwR : Array Oper := #[
  { dst := some 82, op := Op.move (Operand.tmp 11), type := 3, pos := "law.go:152", after := #[], guard := none },
  { dst := some 83, op := Op.load 88 (Operand.tmp 9), type := 88, pos := "law.go:152", after := #[], guard := none },
  { dst := some 84, op := Op.call { callee := Callee.builtin Builtin.len, args := #[Operand.tmp 83], argTypes := #[88] }, type := 3, pos := "law.go:152", after := #[{ on := 1, ground := Ground.data }], guard := none },
  { dst := some 85, op := Op.binOp BinOp.geq 3 (Operand.tmp 82) (Operand.tmp 84) 3, type := 4, pos := "law.go:152", after := #[{ on := 0, ground := Ground.data }, { on := 2, ground := Ground.data }], guard := none },
  { dst := some 86, op := Op.move (Operand.tmp 85), type := 4, pos := "law.go:152", after := #[{ on := 3, ground := Ground.data }], guard := none },
  { dst := some 87, op := Op.move (Operand.tmp 7), type := 81, pos := "law.go:152", after := #[{ on := 4, ground := Ground.guard }], guard := some (4, true) },
  { dst := some 88, op := Op.move (Operand.tmp 1), type := 9, pos := "law.go:152", after := #[{ on := 4, ground := Ground.guard }], guard := some (4, true) },
  { dst := some 89, op := Op.move (Operand.tmp 8), type := 69, pos := "law.go:152", after := #[{ on := 4, ground := Ground.guard }], guard := some (4, true) },
  { dst := some 90, op := Op.indexAddr 69 (Operand.tmp 89) (Operand.const (Value.int IntKind.i64 0)), type := 0, pos := "law.go:152", after := #[{ on := 7, ground := Ground.data }, { on := 4, ground := Ground.guard }], guard := some (4, true) },
  { dst := some 91, op := Op.load 9 (Operand.tmp 90), type := 9, pos := "law.go:152", after := #[{ on := 8, ground := Ground.data }, { on := 4, ground := Ground.guard }], guard := some (4, true) },
  { dst := some 92, op := Op.move (Operand.tmp 8), type := 69, pos := "law.go:152", after := #[{ on := 4, ground := Ground.guard }], guard := some (4, true) },
  { dst := some 93, op := Op.move (Operand.tmp 8), type := 69, pos := "law.go:152", after := #[{ on := 4, ground := Ground.guard }], guard := some (4, true) },
  { dst := some 94, op := Op.call { callee := Callee.builtin Builtin.len, args := #[Operand.tmp 93], argTypes := #[69] }, type := 3, pos := "law.go:152", after := #[{ on := 11, ground := Ground.data }, { on := 4, ground := Ground.guard }], guard := some (4, true) },
  { dst := some 95, op := Op.binOp BinOp.sub 3 (Operand.tmp 94) (Operand.const (Value.int IntKind.i64 1)) 3, type := 3, pos := "law.go:152", after := #[{ on := 12, ground := Ground.data }, { on := 4, ground := Ground.guard }], guard := some (4, true) },
  { dst := some 96, op := Op.indexAddr 69 (Operand.tmp 92) (Operand.tmp 95), type := 0, pos := "law.go:152", after := #[{ on := 10, ground := Ground.data }, { on := 13, ground := Ground.data }, { on := 4, ground := Ground.guard }], guard := some (4, true) },
  { dst := some 97, op := Op.load 9 (Operand.tmp 96), type := 9, pos := "law.go:152", after := #[{ on := 14, ground := Ground.data }, { on := 4, ground := Ground.guard }], guard := some (4, true) },
  { dst := some 98, op := Op.call { callee := Callee.value (Operand.func 48), args := #[Operand.tmp 87, Operand.tmp 88, Operand.tmp 91, Operand.tmp 97], argTypes := #[81, 9, 9, 9] }, type := 88, pos := "law.go:152", after := #[{ on := 5, ground := Ground.data }, { on := 6, ground := Ground.data }, { on := 9, ground := Ground.data }, { on := 15, ground := Ground.data }, { on := 4, ground := Ground.chain }, { on := 4, ground := Ground.guard }], guard := some (4, true) },
  { dst := some 99, op := Op.load 88 (Operand.tmp 9), type := 88, pos := "law.go:152", after := #[{ on := 4, ground := Ground.guard }], guard := some (4, true) },
  { dst := some 100, op := Op.call { callee := Callee.value (Operand.func 44), args := #[Operand.tmp 98, Operand.tmp 99], argTypes := #[88, 88] }, type := 4, pos := "law.go:152", after := #[{ on := 16, ground := Ground.data }, { on := 17, ground := Ground.data }, { on := 16, ground := Ground.chain }, { on := 4, ground := Ground.guard }], guard := some (4, true) },
  { dst := some 101, op := Op.pick (Operand.tmp 86) (Operand.tmp 100) (Operand.const (Value.bool false)), type := 4, pos := "law.go:152", after := #[{ on := 4, ground := Ground.data }, { on := 18, ground := Ground.data }], guard := none },
  { dst := some 4, op := Op.assign (Operand.tmp 101), type := 4, pos := "law.go:152", after := #[{ on := 19, ground := Ground.data }, { on := 18, ground := Ground.chain }, { on := 0, ground := Ground.phase }, { on := 1, ground := Ground.phase }, { on := 2, ground := Ground.phase }, { on := 3, ground := Ground.phase }, { on := 4, ground := Ground.phase }, { on := 5, ground := Ground.phase }, { on := 6, ground := Ground.phase }, { on := 7, ground := Ground.phase }, { on := 8, ground := Ground.phase }, { on := 9, ground := Ground.phase }, { on := 10, ground := Ground.phase }, { on := 11, ground := Ground.phase }, { on := 12, ground := Ground.phase }, { on := 13, ground := Ground.phase }, { on := 14, ground := Ground.phase }, { on := 15, ground := Ground.phase }, { on := 16, ground := Ground.phase }, { on := 17, ground := Ground.phase }, { on := 18, ground := Ground.phase }, { on := 19, ground := Ground.phase }], guard := none }]
def dst_iwR (i : Nat) : Option Nat := (ops_iwR[i]?).bind (·.dst)
theorem inj_iwR : ∀ i, i < 21 → ∀ k, k < 21 → dst_iwR i ≠ none → dst_iwR i = dst_iwR k → i = k := by decide +kernel
theorem lt_iwR : ∀ i, i < 21 → (dst_iwR i).getD 0 < 102 := by decide +kernel
theorem low_iwR : ∀ i : Fin 21, ∀ e ∈ (ops_iwR[i.1]'(by exact i.2)).after, Region.binds .any e = true → e.on < i.1 := by decide +kernel
def pv_iwR (x b9 vb vl vc wl wc n : Nat) (wa : Option Addr) (key s0 s1 : ByteArray) (zs : List Int) : List (Value → World → Prop) := [
  fun v w => v = .int .i64 (n : Nat),
  fun v w => v = .slice wa wl wc,
  fun v w => v = .int .i64 (wl : Nat),
  fun v w => v = .bool true,
  fun v w => v = .bool true,
  fun v w => v = .pointer (some ⟨x, 0, none⟩),
  fun v w => v = .string key,
  fun v w => v = .slice (some ⟨vb, 0, none⟩) (vl + 1) vc,
  fun v w => v = .pointer (some ⟨vb, 0, none⟩),
  fun v w => v = .string s0,
  fun v w => v = .slice (some ⟨vb, 0, none⟩) (vl + 1) vc,
  fun v w => v = .slice (some ⟨vb, 0, none⟩) (vl + 1) vc,
  fun v w => v = .int .i64 ((vl + 1 : Nat) : Int),
  fun v w => v = .int .i64 ((vl : Nat) : Int),
  fun v w => v = .pointer (some ⟨vb, vl, none⟩),
  fun v w => v = .string s1,
  fun v w => Nums w v zs,
  fun v w => v = .slice wa wl wc,
  fun v w => v = .bool true,
  fun v w => v = .bool true,
  fun v w => v = .bool true]
set_option maxRecDepth 100000 in
set_option maxHeartbeats 4000000 in
theorem region_iwR (a0 : Act) (w0 : World) (x b9 vb vl vc wl wc n : Nat) (wa : Option Addr) (key s0 s1 : ByteArray) (zs : List Int) (Q : Exit → Act → World → Prop)
    (hsz : a0.tmps.size = 102) (h1 : a0.tmps[1]? = some (.string key)) (h7 : a0.tmps[7]? = some (.pointer (some ⟨x, 0, none⟩))) (h8 : a0.tmps[8]? = some (.slice (some ⟨vb, 0, none⟩) (vl + 1) vc)) (h9 : a0.tmps[9]? = some (.pointer (some ⟨b9, 0, none⟩))) (h11 : a0.tmps[11]? = some (.int .i64 (n : Nat)))
    (hB : ∀ W, Below w0.heap.size w0 W → W.cell? ⟨b9, 0, none⟩ = some (.slice wa wl wc))
    (hV : ∀ W, Below w0.heap.size w0 W → W.cell? ⟨vb, 0, none⟩ = some (.string s0) ∧ W.cell? ⟨vb, vl, none⟩ = some (.string s1))
    (hvl : vl ≤ 1000000) (hn : wl ≤ n)
    (hC16 : ∀ (W : World) (_ : Below w0.heap.size w0 W), Calls Tryz.prog 48 #[.pointer (some ⟨x, 0, none⟩), .string key, .string s0, .string s1] W fun e w => ∃ v, e = .returned v ∧ (Nums w v zs) ∧ Below W.heap.size W w)
    (hC18 : ∀ (W : World) (_ : Below w0.heap.size w0 W) (z16 : Value) (_ : (fun (v : Value) (w : World) => Nums w v zs) z16 W), Calls Tryz.prog 44 #[z16, .slice wa wl wc] W fun e w => ∃ v, e = .returned v ∧ (v = .bool true) ∧ Below W.heap.size W w)
    (hQ : ∀ (y0 y1 y2 y3 y4 y5 y6 y7 y8 y9 y10 y11 y12 y13 y14 y15 y16 y17 y18 y19 y20 : Value) (w : World), Below w0.heap.size w0 w → ((fun (v : Value) (w : World) => v = .bool true) y20 w) → Q .normal { a0 with tmps := [(82, y0), (83, y1), (84, y2), (85, y3), (86, y4), (87, y5), (88, y6), (89, y7), (90, y8), (91, y9), (92, y10), (93, y11), (94, y12), (95, y13), (96, y14), (97, y15), (98, y16), (99, y17), (100, y18), (101, y19), (4, y20)].foldl (fun u p => u.setIfInBounds p.1 p.2) a0.tmps } w) :
    wpAny Tryz.prog .any ops_iwR Q ops_iwR.size (Array.replicate ops_iwR.size false) a0 w0 := by
  have M : AllM (pv_iwR x b9 vb vl vc wl wc n wa key s0 s1 zs) := ⟨fun v x y hb h => h, fun v x y hb h => h, fun v x y hb h => h, fun v x y hb h => h, fun v x y hb h => h, fun v x y hb h => h, fun v x y hb h => h, fun v x y hb h => h, fun v x y hb h => h, fun v x y hb h => h, fun v x y hb h => h, fun v x y hb h => h, fun v x y hb h => h, fun v x y hb h => h, fun v x y hb h => h, fun v x y hb h => h, fun v x y hb h => h.below hb (Nat.le_refl _), fun v x y hb h => h, fun v x y hb h => h, fun v x y hb h => h, fun v x y hb h => h, trivial⟩
  refine wpAny_mono a0 w0 dst_iwR (pvL (pv_iwR x b9 vb vl vc wl wc n wa key s0 s1 zs)) (fun x y => Below x.heap.size x y) (Below.refl _ _) (fun x y h g => h.trans (g.mono h.size)) (fun i v x y _ g h => pvL_mono M g h)
    (fun i o ho => by unfold dst_iwR; rw [ho]; rfl)
    (fun i k d hi hk h1 h2 => inj_iwR i hi k hk (by rw [h1]; intro q; cases q) (by rw [h1, h2]))
    (fun i d hi h => by have := lt_iwR i hi; rw [h] at this; rw [hsz]; exact this)
    (fun i o e ho he hb => by
      obtain ⟨hi, rfl⟩ := Array.getElem?_eq_some_iff.1 ho
      exact low_iwR ⟨i, hi⟩ e he hb)
    ?step (fun w _ => Below.refl _ _) ?fin
  case fin =>
    intro a w hd hs hf hv hR
    obtain ⟨y0, hy0, pv0⟩ := hv 0 82 (by decide) rfl
    obtain ⟨y1, hy1, pv1⟩ := hv 1 83 (by decide) rfl
    obtain ⟨y2, hy2, pv2⟩ := hv 2 84 (by decide) rfl
    obtain ⟨y3, hy3, pv3⟩ := hv 3 85 (by decide) rfl
    obtain ⟨y4, hy4, pv4⟩ := hv 4 86 (by decide) rfl
    obtain ⟨y5, hy5, pv5⟩ := hv 5 87 (by decide) rfl
    obtain ⟨y6, hy6, pv6⟩ := hv 6 88 (by decide) rfl
    obtain ⟨y7, hy7, pv7⟩ := hv 7 89 (by decide) rfl
    obtain ⟨y8, hy8, pv8⟩ := hv 8 90 (by decide) rfl
    obtain ⟨y9, hy9, pv9⟩ := hv 9 91 (by decide) rfl
    obtain ⟨y10, hy10, pv10⟩ := hv 10 92 (by decide) rfl
    obtain ⟨y11, hy11, pv11⟩ := hv 11 93 (by decide) rfl
    obtain ⟨y12, hy12, pv12⟩ := hv 12 94 (by decide) rfl
    obtain ⟨y13, hy13, pv13⟩ := hv 13 95 (by decide) rfl
    obtain ⟨y14, hy14, pv14⟩ := hv 14 96 (by decide) rfl
    obtain ⟨y15, hy15, pv15⟩ := hv 15 97 (by decide) rfl
    obtain ⟨y16, hy16, pv16⟩ := hv 16 98 (by decide) rfl
    obtain ⟨y17, hy17, pv17⟩ := hv 17 99 (by decide) rfl
    obtain ⟨y18, hy18, pv18⟩ := hv 18 100 (by decide) rfl
    obtain ⟨y19, hy19, pv19⟩ := hv 19 101 (by decide) rfl
    obtain ⟨y20, hy20, pv20⟩ := hv 20 4 (by decide) rfl
    rw [act_set' (a := a) (a0 := a0) [(82, y0), (83, y1), (84, y2), (85, y3), (86, y4), (87, y5), (88, y6), (89, y7), (90, y8), (91, y9), (92, y10), (93, y11), (94, y12), (95, y13), (96, y14), (97, y15), (98, y16), (99, y17), (100, y18), (101, y19), (4, y20)] hd hs (by
      intro p hp
      simp only [List.mem_cons, List.not_mem_nil, or_false] at hp
      rcases hp with rfl | rfl | rfl | rfl | rfl | rfl | rfl | rfl | rfl | rfl | rfl | rfl | rfl | rfl | rfl | rfl | rfl | rfl | rfl | rfl | rfl
      · exact hy0
      · exact hy1
      · exact hy2
      · exact hy3
      · exact hy4
      · exact hy5
      · exact hy6
      · exact hy7
      · exact hy8
      · exact hy9
      · exact hy10
      · exact hy11
      · exact hy12
      · exact hy13
      · exact hy14
      · exact hy15
      · exact hy16
      · exact hy17
      · exact hy18
      · exact hy19
      · exact hy20
      ) (fun j hj => hf j (fun k hk q => hj (by
        have : ∀ k, k < 21 → (dst_iwR k).all (fun d => [82, 83, 84, 85, 86, 87, 88, 89, 90, 91, 92, 93, 94, 95, 96, 97, 98, 99, 100, 101, 4].contains d) = true := by decide +kernel
        have h1 := this k hk
        rw [q] at h1
        simpa using h1)))]
    exact hQ y0 y1 y2 y3 y4 y5 y6 y7 y8 y9 y10 y11 y12 y13 y14 y15 y16 y17 y18 y19 y20 w hR pv20
  case step =>
    intro i o a w ho hs hf dep hR
    have hi : i < 21 := (Array.getElem?_eq_some_iff.1 ho).1
    have e1 := evT ((hf 1 (by decide +kernel)).trans h1)
    have e7 := evT ((hf 7 (by decide +kernel)).trans h7)
    have e8 := evT ((hf 8 (by decide +kernel)).trans h8)
    have e9 := evT ((hf 9 (by decide +kernel)).trans h9)
    have e11 := evT ((hf 11 (by decide +kernel)).trans h11)
    rcases (by omega : i = 0 ∨ i = 1 ∨ i = 2 ∨ i = 3 ∨ i = 4 ∨ i = 5 ∨ i = 6 ∨ i = 7 ∨ i = 8 ∨ i = 9 ∨ i = 10 ∨ i = 11 ∨ i = 12 ∨ i = 13 ∨ i = 14 ∨ i = 15 ∨ i = 16 ∨ i = 17 ∨ i = 18 ∨ i = 19 ∨ i = 20) with rfl | rfl | rfl | rfl | rfl | rfl | rfl | rfl | rfl | rfl | rfl | rfl | rfl | rfl | rfl | rfl | rfl | rfl | rfl | rfl | rfl
    · have ho2 : some _ = some o := ho
      obtain rfl := Option.some.inj ho2
      exact .inl ⟨wantN rfl, fun K hK => mo_move rfl e11 (hK _ _ (Below.refl _ _) rfl)⟩
    · have ho2 : some _ = some o := ho
      obtain rfl := Option.some.inj ho2
      exact .inl ⟨wantN rfl, fun K hK => mo_load (load_ints1 (hB w hR)) rfl e9 (hK _ _ (Below.refl _ _) rfl)⟩
    · have ho2 : some _ = some o := ho
      obtain rfl := Option.some.inj ho2
      obtain ⟨_, hv1, rfl⟩ : ∃ v, a.tmps[83]? = some v ∧ (fun (v : Value) (w : World) => v = .slice wa wl wc) v w := dep ⟨1, Ground.data⟩ (by simp [ops_iwR]) rfl 83 rfl
      exact .inl ⟨wantN rfl, fun K hK => mo_lenII rfl (evT hv1) (hK _ _ (Below.refl _ _) rfl)⟩
    · have ho2 : some _ = some o := ho
      obtain rfl := Option.some.inj ho2
      obtain ⟨_, hv0, rfl⟩ : ∃ v, a.tmps[82]? = some v ∧ (fun (v : Value) (w : World) => v = .int .i64 (n : Nat)) v w := dep ⟨0, Ground.data⟩ (by simp [ops_iwR]) rfl 82 rfl
      obtain ⟨_, hv2, rfl⟩ : ∃ v, a.tmps[84]? = some v ∧ (fun (v : Value) (w : World) => v = .int .i64 (wl : Nat)) v w := dep ⟨2, Ground.data⟩ (by simp [ops_iwR]) rfl 84 rfl
      exact .inl ⟨wantN rfl, fun K hK => mo_geqI rfl (evT hv0) (evT hv2) (hK _ _ (Below.refl _ _) (congrArg Value.bool (by simp; omega)))⟩
    · have ho2 : some _ = some o := ho
      obtain rfl := Option.some.inj ho2
      obtain ⟨_, hv3, rfl⟩ : ∃ v, a.tmps[85]? = some v ∧ (fun (v : Value) (w : World) => v = .bool true) v w := dep ⟨3, Ground.data⟩ (by simp [ops_iwR]) rfl 85 rfl
      exact .inl ⟨wantN rfl, fun K hK => mo_move rfl (evT hv3) (hK _ _ (Below.refl _ _) rfl)⟩
    · have ho2 : some _ = some o := ho
      obtain rfl := Option.some.inj ho2
      obtain ⟨_, hv4, rfl⟩ : ∃ v, a.tmps[86]? = some v ∧ (fun (v : Value) (w : World) => v = .bool true) v w := dep ⟨4, Ground.guard⟩ (by simp [ops_iwR]) rfl 86 rfl
      exact .inl ⟨wantG (b := true) rfl (show ((ops_iwR[4]?).bind (·.dst)) = some 86 from rfl) hv4, fun K hK => mo_move rfl e7 (hK _ _ (Below.refl _ _) rfl)⟩
    · have ho2 : some _ = some o := ho
      obtain rfl := Option.some.inj ho2
      obtain ⟨_, hv4, rfl⟩ : ∃ v, a.tmps[86]? = some v ∧ (fun (v : Value) (w : World) => v = .bool true) v w := dep ⟨4, Ground.guard⟩ (by simp [ops_iwR]) rfl 86 rfl
      exact .inl ⟨wantG (b := true) rfl (show ((ops_iwR[4]?).bind (·.dst)) = some 86 from rfl) hv4, fun K hK => mo_move rfl e1 (hK _ _ (Below.refl _ _) rfl)⟩
    · have ho2 : some _ = some o := ho
      obtain rfl := Option.some.inj ho2
      obtain ⟨_, hv4, rfl⟩ : ∃ v, a.tmps[86]? = some v ∧ (fun (v : Value) (w : World) => v = .bool true) v w := dep ⟨4, Ground.guard⟩ (by simp [ops_iwR]) rfl 86 rfl
      exact .inl ⟨wantG (b := true) rfl (show ((ops_iwR[4]?).bind (·.dst)) = some 86 from rfl) hv4, fun K hK => mo_move rfl e8 (hK _ _ (Below.refl _ _) rfl)⟩
    · have ho2 : some _ = some o := ho
      obtain rfl := Option.some.inj ho2
      obtain ⟨_, hv7, rfl⟩ : ∃ v, a.tmps[89]? = some v ∧ (fun (v : Value) (w : World) => v = .slice (some ⟨vb, 0, none⟩) (vl + 1) vc) v w := dep ⟨7, Ground.data⟩ (by simp [ops_iwR]) rfl 89 rfl
      obtain ⟨_, hv4, rfl⟩ : ∃ v, a.tmps[86]? = some v ∧ (fun (v : Value) (w : World) => v = .bool true) v w := dep ⟨4, Ground.guard⟩ (by simp [ops_iwR]) rfl 86 rfl
      exact .inl ⟨wantG (b := true) rfl (show ((ops_iwR[4]?).bind (·.dst)) = some 86 from rfl) hv4, fun K hK => mo_index (idx_strs (i := 0) (by omega)) rfl (evT hv7) rfl (hK _ _ (Below.refl _ _) rfl)⟩
    · have ho2 : some _ = some o := ho
      obtain rfl := Option.some.inj ho2
      obtain ⟨_, hv8, rfl⟩ : ∃ v, a.tmps[90]? = some v ∧ (fun (v : Value) (w : World) => v = .pointer (some ⟨vb, 0, none⟩)) v w := dep ⟨8, Ground.data⟩ (by simp [ops_iwR]) rfl 90 rfl
      obtain ⟨_, hv4, rfl⟩ : ∃ v, a.tmps[86]? = some v ∧ (fun (v : Value) (w : World) => v = .bool true) v w := dep ⟨4, Ground.guard⟩ (by simp [ops_iwR]) rfl 86 rfl
      exact .inl ⟨wantG (b := true) rfl (show ((ops_iwR[4]?).bind (·.dst)) = some 86 from rfl) hv4, fun K hK => mo_load (load_str1 (hV w hR).1) rfl (evT hv8) (hK _ _ (Below.refl _ _) rfl)⟩
    · have ho2 : some _ = some o := ho
      obtain rfl := Option.some.inj ho2
      obtain ⟨_, hv4, rfl⟩ : ∃ v, a.tmps[86]? = some v ∧ (fun (v : Value) (w : World) => v = .bool true) v w := dep ⟨4, Ground.guard⟩ (by simp [ops_iwR]) rfl 86 rfl
      exact .inl ⟨wantG (b := true) rfl (show ((ops_iwR[4]?).bind (·.dst)) = some 86 from rfl) hv4, fun K hK => mo_move rfl e8 (hK _ _ (Below.refl _ _) rfl)⟩
    · have ho2 : some _ = some o := ho
      obtain rfl := Option.some.inj ho2
      obtain ⟨_, hv4, rfl⟩ : ∃ v, a.tmps[86]? = some v ∧ (fun (v : Value) (w : World) => v = .bool true) v w := dep ⟨4, Ground.guard⟩ (by simp [ops_iwR]) rfl 86 rfl
      exact .inl ⟨wantG (b := true) rfl (show ((ops_iwR[4]?).bind (·.dst)) = some 86 from rfl) hv4, fun K hK => mo_move rfl e8 (hK _ _ (Below.refl _ _) rfl)⟩
    · have ho2 : some _ = some o := ho
      obtain rfl := Option.some.inj ho2
      obtain ⟨_, hv11, rfl⟩ : ∃ v, a.tmps[93]? = some v ∧ (fun (v : Value) (w : World) => v = .slice (some ⟨vb, 0, none⟩) (vl + 1) vc) v w := dep ⟨11, Ground.data⟩ (by simp [ops_iwR]) rfl 93 rfl
      obtain ⟨_, hv4, rfl⟩ : ∃ v, a.tmps[86]? = some v ∧ (fun (v : Value) (w : World) => v = .bool true) v w := dep ⟨4, Ground.guard⟩ (by simp [ops_iwR]) rfl 86 rfl
      exact .inl ⟨wantG (b := true) rfl (show ((ops_iwR[4]?).bind (·.dst)) = some 86 from rfl) hv4, fun K hK => mo_lenSS rfl (evT hv11) (hK _ _ (Below.refl _ _) rfl)⟩
    · have ho2 : some _ = some o := ho
      obtain rfl := Option.some.inj ho2
      obtain ⟨_, hv12, rfl⟩ : ∃ v, a.tmps[94]? = some v ∧ (fun (v : Value) (w : World) => v = .int .i64 ((vl + 1 : Nat) : Int)) v w := dep ⟨12, Ground.data⟩ (by simp [ops_iwR]) rfl 94 rfl
      obtain ⟨_, hv4, rfl⟩ : ∃ v, a.tmps[86]? = some v ∧ (fun (v : Value) (w : World) => v = .bool true) v w := dep ⟨4, Ground.guard⟩ (by simp [ops_iwR]) rfl 86 rfl
      exact .inl ⟨wantG (b := true) rfl (show ((ops_iwR[4]?).bind (·.dst)) = some 86 from rfl) hv4, fun K hK => mo_subIX (by omega) rfl (evT hv12) rfl (hK _ _ (Below.refl _ _) rfl)⟩
    · have ho2 : some _ = some o := ho
      obtain rfl := Option.some.inj ho2
      obtain ⟨_, hv10, rfl⟩ : ∃ v, a.tmps[92]? = some v ∧ (fun (v : Value) (w : World) => v = .slice (some ⟨vb, 0, none⟩) (vl + 1) vc) v w := dep ⟨10, Ground.data⟩ (by simp [ops_iwR]) rfl 92 rfl
      obtain ⟨_, hv13, rfl⟩ : ∃ v, a.tmps[95]? = some v ∧ (fun (v : Value) (w : World) => v = .int .i64 ((vl : Nat) : Int)) v w := dep ⟨13, Ground.data⟩ (by simp [ops_iwR]) rfl 95 rfl
      obtain ⟨_, hv4, rfl⟩ : ∃ v, a.tmps[86]? = some v ∧ (fun (v : Value) (w : World) => v = .bool true) v w := dep ⟨4, Ground.guard⟩ (by simp [ops_iwR]) rfl 86 rfl
      exact .inl ⟨wantG (b := true) rfl (show ((ops_iwR[4]?).bind (·.dst)) = some 86 from rfl) hv4, fun K hK => mo_index (idx_strs (i := vl) (by omega)) rfl (evT hv10) (evT hv13) (hK _ _ (Below.refl _ _) rfl)⟩
    · have ho2 : some _ = some o := ho
      obtain rfl := Option.some.inj ho2
      obtain ⟨_, hv14, rfl⟩ : ∃ v, a.tmps[96]? = some v ∧ (fun (v : Value) (w : World) => v = .pointer (some ⟨vb, vl, none⟩)) v w := dep ⟨14, Ground.data⟩ (by simp [ops_iwR]) rfl 96 rfl
      obtain ⟨_, hv4, rfl⟩ : ∃ v, a.tmps[86]? = some v ∧ (fun (v : Value) (w : World) => v = .bool true) v w := dep ⟨4, Ground.guard⟩ (by simp [ops_iwR]) rfl 86 rfl
      exact .inl ⟨wantG (b := true) rfl (show ((ops_iwR[4]?).bind (·.dst)) = some 86 from rfl) hv4, fun K hK => mo_load (load_str1 (hV w hR).2) rfl (evT hv14) (hK _ _ (Below.refl _ _) rfl)⟩
    · have ho2 : some _ = some o := ho
      obtain rfl := Option.some.inj ho2
      obtain ⟨_, hv5, rfl⟩ : ∃ v, a.tmps[87]? = some v ∧ (fun (v : Value) (w : World) => v = .pointer (some ⟨x, 0, none⟩)) v w := dep ⟨5, Ground.data⟩ (by simp [ops_iwR]) rfl 87 rfl
      obtain ⟨_, hv6, rfl⟩ : ∃ v, a.tmps[88]? = some v ∧ (fun (v : Value) (w : World) => v = .string key) v w := dep ⟨6, Ground.data⟩ (by simp [ops_iwR]) rfl 88 rfl
      obtain ⟨_, hv9, rfl⟩ : ∃ v, a.tmps[91]? = some v ∧ (fun (v : Value) (w : World) => v = .string s0) v w := dep ⟨9, Ground.data⟩ (by simp [ops_iwR]) rfl 91 rfl
      obtain ⟨_, hv15, rfl⟩ : ∃ v, a.tmps[97]? = some v ∧ (fun (v : Value) (w : World) => v = .string s1) v w := dep ⟨15, Ground.data⟩ (by simp [ops_iwR]) rfl 97 rfl
      obtain ⟨_, hv4, rfl⟩ : ∃ v, a.tmps[86]? = some v ∧ (fun (v : Value) (w : World) => v = .bool true) v w := dep ⟨4, Ground.guard⟩ (by simp [ops_iwR]) rfl 86 rfl
      exact .inl ⟨wantG (b := true) rfl (show ((ops_iwR[4]?).bind (·.dst)) = some 86 from rfl) hv4, fun K hK => mo_call4 48 rfl (evT hv5) (evT hv6) (evT hv9) (evT hv15) (enters_of (P := Tryz.prog) Tryz.func48 (by kernel_rfl) rfl) (hC16 w hR) (fun v w' h => hK v w' h.2 h.1)⟩
    · have ho2 : some _ = some o := ho
      obtain rfl := Option.some.inj ho2
      obtain ⟨_, hv4, rfl⟩ : ∃ v, a.tmps[86]? = some v ∧ (fun (v : Value) (w : World) => v = .bool true) v w := dep ⟨4, Ground.guard⟩ (by simp [ops_iwR]) rfl 86 rfl
      exact .inl ⟨wantG (b := true) rfl (show ((ops_iwR[4]?).bind (·.dst)) = some 86 from rfl) hv4, fun K hK => mo_load (load_ints1 (hB w hR)) rfl e9 (hK _ _ (Below.refl _ _) rfl)⟩
    · have ho2 : some _ = some o := ho
      obtain rfl := Option.some.inj ho2
      obtain ⟨z16, hv16, pv16⟩ : ∃ v, a.tmps[98]? = some v ∧ (fun (v : Value) (w : World) => Nums w v zs) v w := dep ⟨16, Ground.data⟩ (by simp [ops_iwR]) rfl 98 rfl
      obtain ⟨_, hv17, rfl⟩ : ∃ v, a.tmps[99]? = some v ∧ (fun (v : Value) (w : World) => v = .slice wa wl wc) v w := dep ⟨17, Ground.data⟩ (by simp [ops_iwR]) rfl 99 rfl
      obtain ⟨_, hv4, rfl⟩ : ∃ v, a.tmps[86]? = some v ∧ (fun (v : Value) (w : World) => v = .bool true) v w := dep ⟨4, Ground.guard⟩ (by simp [ops_iwR]) rfl 86 rfl
      exact .inl ⟨wantG (b := true) rfl (show ((ops_iwR[4]?).bind (·.dst)) = some 86 from rfl) hv4, fun K hK => mo_call2 44 rfl (evT hv16) (evT hv17) (enters_of (P := Tryz.prog) Tryz.func44 (by kernel_rfl) rfl) (hC18 w hR _ pv16) (fun v w' h => hK v w' h.2 h.1)⟩
    · have ho2 : some _ = some o := ho
      obtain rfl := Option.some.inj ho2
      obtain ⟨_, hv4, rfl⟩ : ∃ v, a.tmps[86]? = some v ∧ (fun (v : Value) (w : World) => v = .bool true) v w := dep ⟨4, Ground.data⟩ (by simp [ops_iwR]) rfl 86 rfl
      obtain ⟨_, hv18, rfl⟩ : ∃ v, a.tmps[100]? = some v ∧ (fun (v : Value) (w : World) => v = .bool true) v w := dep ⟨18, Ground.data⟩ (by simp [ops_iwR]) rfl 100 rfl
      exact .inl ⟨wantN rfl, fun K hK => mo_pick rfl (evT hv4) (evT hv18) rfl rfl (hK _ _ (Below.refl _ _) rfl)⟩
    · have ho2 : some _ = some o := ho
      obtain rfl := Option.some.inj ho2
      obtain ⟨_, hv19, rfl⟩ : ∃ v, a.tmps[101]? = some v ∧ (fun (v : Value) (w : World) => v = .bool true) v w := dep ⟨19, Ground.data⟩ (by simp [ops_iwR]) rfl 101 rfl
      exact .inl ⟨wantN rfl, fun K hK => mo_assign rfl (evT hv19) (hK _ _ (Below.refl _ _) rfl)⟩
end Go.Proofs.YtiebbgbcojgeoaaGreatDoor

namespace Go.Proofs.YtiebbgbcojgeoaaGreatDoor

abbrev Fld := List UInt8 × List UInt8
/-- An item. -/
structure It where
  kind : Int
  raw : List UInt8
  fields : List Fld
deriving DecidableEq
/-- What the lines have made so far. -/
structure PS where
  begin_ : Nat
  said : List (List UInt8)
  items : List It
  stanzas : Nat
  at_ : Nat
  fields : List Fld
deriving DecidableEq
def PS.new : PS := ⟨0, [], [], 0, 0, []⟩
/-- What comes of a step: a place and a number, or what is made. -/
abbrev Res (α : Type) := Except (Nat × Nat) α

def fullP (p : PS) : Bool := if p.fields.length = 0 then p.stanzas == 400 else p.fields.length == 40
def endFieldN (p : PS) : Nat := if p.said = [] then 0 else if unfoldN p.said ≠ 0 then unfoldN p.said else if fullP p then 11 else 0
def endFieldP (p : PS) : PS := if p.said = [] then p else { p with fields := p.fields ++ [(unfoldK p.said, unfoldV p.said)], said := [] }
def endItemP (text : List UInt8) (p : PS) (kind end_ : Nat) : PS := { p with items := p.items ++ [⟨kind, (text.take end_).drop p.at_, p.fields⟩], at_ := end_, fields := [] }
def endBlockP (text : List UInt8) (p : PS) (end_ : Nat) : PS :=
  if p.at_ = end_ then p else if p.fields.length = 0 then endItemP text p 2 end_ else { endItemP text p 3 end_ with stanzas := p.stanzas + 1 }
def goesP (p : PS) (x : Ln) : Bool := kindL x.text == 3 && !(p.said.isEmpty)
def wentP (p : PS) (x : Ln) : PS := if goesP p x then { p with said := p.said ++ [x.text] } else p
def wrongP (p : PS) (x : Ln) : Bool := kindL x.text == 5 || (kindL x.text == 3 && !goesP p x) || !x.ended
/-- Is the field that is under way ended by the line? -/
def endsP (p : PS) (x : Ln) : Bool := wrongP p x || !goesP p x
def putP (text : List UInt8) (p : PS) (x : Ln) : PS :=
  if kindL x.text = 4 then { p with begin_ := x.no, said := [x.text] }
  else if kindL x.text = 1 then endItemP text (endBlockP text p x.at_) 1 (x.at_ + x.text.length + 1)
  else p
/-- What stands behind the end of the field, if the line ends it. -/
def thenP (p : PS) (x : Ln) : PS := if endsP p x then endFieldP (wentP p x) else wentP p x
def takeP (text : List UInt8) (p : PS) (x : Ln) : Res PS :=
  if endsP p x = true ∧ endFieldN (wentP p x) ≠ 0 then .error ((wentP p x).begin_, endFieldN (wentP p x))
  else if wrongP p x then .error (x.no, 2)
  else .ok (putP text (thenP p x) x)
def runP (text : List UInt8) : PS → List Ln → Res PS
  | p, [] => .ok p
  | p, x :: xs => match takeP text p x with
    | .error e => .error e
    | .ok q => runP text q xs
def lastP (text : List UInt8) (p : PS) : Res (List It) :=
  if endFieldN p ≠ 0 then .error (p.begin_, endFieldN p) else .ok (endBlockP text (endFieldP p) text.length).items
def parseL (text : List UInt8) : Res (List It) :=
  match runP text PS.new (linesOf text) with
  | .error e => .error e
  | .ok p => lastP text p

theorem runP_append (text : List UInt8) : ∀ (p : PS) (a b : List Ln), runP text p (a ++ b) = match runP text p a with | .error e => .error e | .ok q => runP text q b
  | p, [], b => rfl
  | p, x :: a, b => by
    show (match takeP text p x with | .error e => _ | .ok q => runP text q (a ++ b)) = match (match takeP text p x with | .error e => _ | .ok q => runP text q a) with | .error e => _ | .ok q => _
    cases takeP text p x with
    | error e => rfl
    | ok q => exact runP_append text q a b

theorem unfoldN_le (ls : List (List UInt8)) : unfoldN ls ≤ 6 := by
  unfold unfoldN
  split
  · split <;> decide
  · decide
/-- What keeps the parser small: c bytes are behind it. -/
structure Inv (p : PS) (c : Nat) : Prop where
  at_ : p.at_ ≤ c
  items : p.items.length ≤ p.at_
  stanzas : p.stanzas ≤ p.at_
  begin_ : p.begin_ ≤ c
  fields : p.fields.length ≤ c
  said : (p.said.map List.length).sum + p.said.length ≤ c
  both : p.fields.length + p.said.length ≤ c
theorem Inv.new : Inv PS.new 0 := ⟨Nat.le_refl _, Nat.le_refl _, Nat.le_refl _, Nat.le_refl _, Nat.le_refl _, Nat.le_refl _, Nat.le_refl _⟩
theorem Inv.mono {p : PS} {c d : Nat} (h : Inv p c) (hd : c ≤ d) : Inv p d :=
  ⟨Nat.le_trans h.at_ hd, h.items, h.stanzas, Nat.le_trans h.begin_ hd, Nat.le_trans h.fields hd, Nat.le_trans h.said hd, Nat.le_trans h.both hd⟩
theorem Inv.endField {p : PS} {c : Nat} (h : Inv p c) : Inv (endFieldP p) c := by
  unfold endFieldP
  split
  · exact h
  · rename_i hs
    have hb := h.both
    have : 1 ≤ p.said.length := by cases hp : p.said with | nil => exact absurd hp hs | cons a l => simp
    exact ⟨h.at_, h.items, h.stanzas, h.begin_, by simp; omega, by simp, by simp; omega⟩
theorem Inv.endItem {p : PS} {c : Nat} (text : List UInt8) (kind e : Nat) (h : Inv p c) (h1 : p.at_ < e) (h2 : e ≤ c) : Inv (endItemP text p kind e) c := by
  have a := h.items; have b := h.stanzas
  refine ⟨h2, ?_, ?_, h.begin_, by simp [endItemP], h.said, ?_⟩
  · simp [endItemP]; omega
  · simp [endItemP]; omega
  · have := h.both; simp [endItemP]; omega
theorem Inv.endBlock {p : PS} {c : Nat} (text : List UInt8) (e : Nat) (h : Inv p c) (h1 : p.at_ ≤ e) (h2 : e ≤ c) : Inv (endBlockP text p e) c := by
  unfold endBlockP
  split
  · exact h
  · split
    · exact h.endItem text 2 e (by omega) h2
    · have g := h.endItem text 3 e (by omega) h2
      exact ⟨g.at_, g.items, by have := h.stanzas; show p.stanzas + 1 ≤ e; omega, g.begin_, g.fields, g.said, g.both⟩
theorem endField_at (p : PS) : (endFieldP p).at_ = p.at_ := by unfold endFieldP; split <;> rfl
theorem endField_said (p : PS) : (endFieldP p).said = [] := by unfold endFieldP; split <;> simp_all
theorem endBlock_at (text : List UInt8) (p : PS) (e : Nat) (h : p.at_ ≤ e) : (endBlockP text p e).at_ = e := by
  unfold endBlockP
  split
  · assumption
  · split <;> rfl
theorem endBlock_said (text : List UInt8) (p : PS) (e : Nat) : (endBlockP text p e).said = p.said := by
  unfold endBlockP
  split
  · rfl
  · split <;> rfl
theorem wentP_at (p : PS) (x : Ln) : (wentP p x).at_ = p.at_ := by unfold wentP; split <;> rfl
theorem Inv.went {p : PS} {x : Ln} {c : Nat} (h : Inv p c) : Inv (wentP p x) (c + x.text.length + 1) := by
  unfold wentP
  split
  · have a := h.said; have b := h.both
    refine ⟨by have := h.at_; show p.at_ ≤ _; omega, h.items, h.stanzas, by have := h.begin_; show p.begin_ ≤ _; omega, by have := h.fields; show p.fields.length ≤ _; omega, ?_, ?_⟩
    · simp; omega
    · simp; omega
  · exact h.mono (by omega)
theorem Inv.then_ {p : PS} {x : Ln} {c : Nat} (h : Inv p c) : Inv (thenP p x) (c + x.text.length + 1) := by
  unfold thenP
  split
  · exact h.went.endField
  · exact h.went
theorem thenP_at (p : PS) (x : Ln) : (thenP p x).at_ = p.at_ := by
  unfold thenP
  split
  · rw [endField_at, wentP_at]
  · exact wentP_at p x
theorem thenP_said {p : PS} {x : Ln} (h : goesP p x = false) : (thenP p x).said = [] := by
  unfold thenP endsP
  rw [h]
  simp only [Bool.not_false, Bool.or_true, if_true]
  exact endField_said _
theorem goes_kind {p : PS} {x : Ln} (h : kindL x.text ≠ 3) : goesP p x = false := by unfold goesP; simp [h]
theorem Inv.take {text : List UInt8} {p q : PS} {x : Ln} (h : Inv p x.at_) (hno : x.no ≤ x.at_) (he : takeP text p x = .ok q) : Inv q (x.at_ + x.bytes.length) ∧ x.ended = true := by
  unfold takeP at he
  split at he
  · cases he
  · split at he
    · cases he
    · rename_i hw
      have hen : x.ended = true := by
        cases hx : x.ended with
        | true => rfl
        | false => exact absurd (by unfold wrongP; rw [hx]; simp) hw
      have hb : x.at_ + x.bytes.length = x.at_ + x.text.length + 1 := by unfold Ln.bytes; rw [hen]; simp; omega
      refine ⟨?_, hen⟩
      rw [hb]
      cases he
      have t := h.then_ (x := x)
      unfold putP
      split
      · rename_i hk
        have e := thenP_said (goes_kind (p := p) (x := x) (by omega))
        refine ⟨t.at_, t.items, t.stanzas, by show x.no ≤ _; omega, t.fields, by simp, ?_⟩
        have hf : (thenP p x).fields.length ≤ x.at_ := by
          have g := goes_kind (p := p) (x := x) (by omega)
          unfold thenP endsP wentP
          rw [g]
          simp only [Bool.not_false, Bool.or_true, if_true]
          exact (Inv.endField h).fields
        simp; omega
      · split
        · have ta := thenP_at p x
          have ha := h.at_
          refine Inv.endItem text 1 _ (t.endBlock text x.at_ (by omega) (by omega)) ?_ (by omega)
          rw [endBlock_at text _ _ (by omega)]; omega
        · exact t
end Go.Proofs.YtiebbgbcojgeoaaGreatDoor

namespace Go.Proofs.YtiebbgbcojgeoaaGreatDoor

structure Good (t : List UInt8) (p : PS) : Prop where
  st : p.stanzas ≤ 400
  st' : p.fields ≠ [] → p.stanzas ≤ 399
  fl : p.fields.length ≤ 40
  each : ∀ it ∈ p.items, it.fields.length ≤ 40
  join : p.items.flatMap It.raw = t.take p.at_
theorem Good.new (t : List UInt8) : Good t PS.new := ⟨by decide, fun h => absurd rfl h, by decide, (fun it h => by cases h), rfl⟩
theorem Good.endField {t : List UInt8} {p : PS} (h : Good t p) (h0 : endFieldN p = 0) : Good t (endFieldP p) := by
  unfold endFieldP
  split
  · exact h
  · rename_i hs
    unfold endFieldN at h0
    rw [if_neg hs] at h0
    split at h0
    · rename_i hu; exact absurd h0 hu
    · have hfull : fullP p = false := by
        cases hf : fullP p with
        | false => rfl
        | true => rw [hf] at h0; simp at h0
      unfold fullP at hfull
      have fl := h.fl
      have st := h.st
      refine ⟨h.st, fun _ => ?_, ?_, h.each, h.join⟩
      · show p.stanzas ≤ 399
        split at hfull
        · have : p.stanzas ≠ 400 := by simpa using hfull
          omega
        · rename_i hz
          exact h.st' (fun e => hz (by rw [e]; rfl))
      · show (p.fields ++ [_]).length ≤ 40
        rw [List.length_append]
        split at hfull
        · simp; omega
        · have : p.fields.length ≠ 40 := by simpa using hfull
          simp; omega
theorem drop_take_join (t : List UInt8) (a e : Nat) (h : a ≤ e) : t.take a ++ (t.take e).drop a = t.take e := by
  conv => rhs; rw [← List.take_append_drop a (t.take e), List.take_take, Nat.min_eq_left h]
theorem Good.endItem {t : List UInt8} {p : PS} (h : Good t p) (kind e : Nat) (hle : p.at_ ≤ e) : Good t (endItemP t p kind e) := by
  refine ⟨h.st, fun hn => absurd rfl hn, by simp [endItemP], ?_, ?_⟩
  · intro it hi
    rcases List.mem_append.1 hi with hi | hi
    · exact h.each it hi
    · rw [List.mem_singleton.1 hi]; exact h.fl
  · show (p.items ++ [_]).flatMap It.raw = t.take e
    rw [List.flatMap_append, h.join]
    simp only [List.flatMap_cons, List.flatMap_nil, List.append_nil]
    exact drop_take_join t p.at_ e hle
theorem Good.endBlock {t : List UInt8} {p : PS} (h : Good t p) (e : Nat) (hle : p.at_ ≤ e) : Good t (endBlockP t p e) := by
  unfold endBlockP
  split
  · exact h
  · split
    · exact h.endItem 2 e hle
    · rename_i hz
      have g := h.endItem 3 e hle
      have := h.st' (fun e => hz (by rw [e]; rfl))
      exact ⟨by show p.stanzas + 1 ≤ 400; omega, fun hn => absurd rfl hn, g.fl, g.each, g.join⟩
theorem Good.went {t : List UInt8} {p : PS} (h : Good t p) (x : Ln) : Good t (wentP p x) := by
  unfold wentP
  split
  · exact ⟨h.st, h.st', h.fl, h.each, h.join⟩
  · exact h
theorem take_parts {t : List UInt8} {p q : PS} {x : Ln} (he : takeP t p x = .ok q) : (endsP p x = true → endFieldN (wentP p x) = 0) ∧ wrongP p x = false ∧ q = putP t (thenP p x) x := by
  unfold takeP at he
  split at he
  · cases he
  · rename_i h1
    split at he
    · cases he
    · rename_i h2
      cases he
      refine ⟨fun hn => ?_, by simpa using h2, rfl⟩
      rcases Nat.decEq (endFieldN (wentP p x)) 0 with e | e
      · exact absurd ⟨hn, e⟩ h1
      · exact e
theorem take_of {t : List UInt8} {p : PS} {x : Ln} (h1 : endsP p x = true → endFieldN (wentP p x) = 0) (h2 : wrongP p x = false) : takeP t p x = .ok (putP t (thenP p x) x) := by
  unfold takeP
  rw [if_neg (fun h => h.2 (h1 h.1)), h2]; rfl
theorem Good.then_ {t : List UInt8} {p : PS} {x : Ln} (h : Good t p) (h1 : endsP p x = true → endFieldN (wentP p x) = 0) : Good t (thenP p x) := by
  unfold thenP
  split
  · rename_i he; exact (h.went x).endField (h1 he)
  · exact h.went x
theorem Good.put {t : List UInt8} {p : PS} {x : Ln} (h : Good t p) (ha : p.at_ ≤ x.at_) : Good t (putP t p x) := by
  unfold putP
  split
  · exact ⟨h.st, h.st', h.fl, h.each, h.join⟩
  · split
    · refine (h.endBlock x.at_ ha).endItem 1 _ ?_
      rw [endBlock_at t p _ ha]; omega
    · exact h
theorem Good.take {t : List UInt8} {p q : PS} {x : Ln} (h : Good t p) (ha : p.at_ ≤ x.at_) (he : takeP t p x = .ok q) : Good t q := by
  obtain ⟨h1, _, rfl⟩ := take_parts he
  exact (h.then_ h1).put (by rw [thenP_at]; exact ha)

/-- Lines that stand one behind the other, from a place on. -/
def Runs : Nat → Nat → List Ln → Prop
  | _, _, [] => True
  | no, c, x :: xs => x.no = no ∧ x.at_ = c ∧ 1 ≤ x.bytes.length ∧ Runs (no + 1) (c + x.bytes.length) xs
theorem runs_linesOn : ∀ (n no at_ : Nat) (l : List UInt8), l.length ≤ n → Runs no at_ (linesOn no at_ l)
  | 0, no, at_, l, h => by
    have : l = [] := List.length_eq_zero_iff.1 (by omega)
    subst this; rw [linesOn_nil]; trivial
  | n + 1, no, at_, l, h => by
    by_cases hl : l = []
    · subst hl; rw [linesOn_nil]; trivial
    · have hp := used_pos l hl
      rw [linesOn_cons _ _ _ hl]
      have hb : (Ln.bytes ⟨no, at_, head l, nl l⟩).length = used l := by
        unfold Ln.bytes used; simp only [List.length_append]; split <;> rfl
      refine ⟨rfl, rfl, by rw [hb]; exact hp, ?_⟩
      rw [hb]
      exact runs_linesOn n _ _ _ (by simp only [List.length_drop]; omega)
/-- A run that goes well. -/
theorem run_good (t : List UInt8) : ∀ (xs : List Ln) (no c : Nat) (p q : PS), Runs no c xs → no ≤ c → Inv p c → Good t p → runP t p xs = .ok q → Inv q (c + (xs.flatMap Ln.bytes).length) ∧ Good t q ∧ ∀ x ∈ xs, x.ended = true
  | [], no, c, p, q, _, _, hi, hg, he => by
    cases he
    exact ⟨by simpa using hi, hg, fun x h => by cases h⟩
  | x :: xs, no, c, p, q, hr, hn, hi, hg, he => by
    obtain ⟨r1, r2, r3, r4⟩ := hr
    unfold runP at he
    cases ht : takeP t p x with
    | error e => rw [ht] at he; cases he
    | ok p1 =>
      rw [ht] at he
      dsimp only at he
      rw [← r2] at hi
      obtain ⟨i1, e1⟩ := Inv.take hi (by omega) ht
      have g1 := hg.take hi.at_ ht
      rw [r2] at i1
      obtain ⟨a, b, d⟩ := run_good t xs (no + 1) (c + x.bytes.length) p1 q r4 (by omega) i1 g1 he
      refine ⟨?_, b, fun y hy => ?_⟩
      · rw [List.flatMap_cons, List.length_append, ← Nat.add_assoc]; exact a
      · rcases List.mem_cons.1 hy with rfl | hy
        · exact e1
        · exact d y hy
/-- The items of a good text. -/
theorem parse_good {t : List UInt8} {its : List It} (h : parseL t = .ok its) : ∃ p, runP t PS.new (linesOf t) = .ok p ∧ endFieldN p = 0 ∧ its = (endBlockP t (endFieldP p) t.length).items ∧ Good t (endBlockP t (endFieldP p) t.length) ∧ Inv (endBlockP t (endFieldP p) t.length) t.length ∧ (endFieldP p).at_ ≤ t.length := by
  unfold parseL at h
  cases hr : runP t PS.new (linesOf t) with
  | error e => rw [hr] at h; cases h
  | ok p =>
    rw [hr] at h
    dsimp only at h
    unfold lastP at h
    split at h
    · cases h
    · rename_i h0
      have h0 : endFieldN p = 0 := by simpa using h0
      cases h
      obtain ⟨a, b, _⟩ := run_good t _ 0 0 _ _ (runs_linesOn _ 0 0 t (Nat.le_refl _)) (Nat.le_refl _) Inv.new (Good.new t) hr
      rw [show linesOn 0 0 t = linesOf t from rfl, linesOf_join, Nat.zero_add] at a
      exact ⟨p, rfl, h0, rfl, (b.endField h0).endBlock _ a.endField.at_, a.endField.endBlock t _ a.endField.at_ (Nat.le_refl _), a.endField.at_⟩
theorem parse_join {t : List UInt8} {its : List It} (h : parseL t = .ok its) : its.flatMap It.raw = t ∧ its.length ≤ t.length ∧ ∀ it ∈ its, it.fields.length ≤ 40 ∧ it.raw.length ≤ t.length := by
  obtain ⟨p, _, _, rfl, g, i, hle⟩ := parse_good h
  have ha := endBlock_at t (endFieldP p) t.length hle
  have hj := g.join
  rw [ha, List.take_length] at hj
  refine ⟨hj, by have := i.items; rw [ha] at this; exact this, fun it hi => ⟨g.each it hi, ?_⟩⟩
  obtain ⟨a, b, e⟩ := List.append_of_mem hi
  rw [e, List.flatMap_append, List.flatMap_cons] at hj
  have := congrArg List.length hj
  simp only [List.length_append] at this
  omega
end Go.Proofs.YtiebbgbcojgeoaaGreatDoor

namespace Go.Proofs.YtiebbgbcojgeoaaGreatDoor

/-- A line, d lines and e bytes further on. -/
def sh (d e : Nat) (x : Ln) : Ln := ⟨d + x.no, e + x.at_, x.text, x.ended⟩
/-- A parser, put behind another one whose block is ended, d lines and e bytes on. -/
def up (q : PS) (d e : Nat) (s : PS) : PS := ⟨d + s.begin_, s.said, q.items ++ s.items, q.stanzas + s.stanzas, e + s.at_, s.fields⟩
end Go.Proofs.YtiebbgbcojgeoaaGreatDoor

namespace Go.Proofs.YtiebbgbcojgeoaaGreatDoor

theorem endField_items (p : PS) : (endFieldP p).items = p.items := by unfold endFieldP; split <;> rfl
theorem Runs.append : ∀ {a b : List Ln} {no c : Nat}, Runs no c (a ++ b) → Runs no c a ∧ Runs (no + a.length) (c + (a.flatMap Ln.bytes).length) b
  | [], b, no, c, h => ⟨trivial, h⟩
  | x :: a, b, no, c, ⟨h1, h2, h3, h4⟩ => by
    obtain ⟨i1, i2⟩ := Runs.append h4
    refine ⟨⟨h1, h2, h3, i1⟩, ?_⟩
    rw [List.flatMap_cons, List.length_append, List.length_cons, ← Nat.add_assoc c, Nat.add_comm a.length, ← Nat.add_assoc no]
    exact i2
end Go.Proofs.YtiebbgbcojgeoaaGreatDoor

