/- Texts put together: OC, PB, PC, PD, PE, WE. -/
import Derived.Deep.RegionLaw
import Derived.RegionTactic
import Derived.BigRegion
import Derived.Deep.DeepCutAuto
import Derived.Shelf.Strings.SlTrimAscii
import Derived.Test.YtgaooalckjjplaaGreatDoorBfa1
import Derived.Test.YtgaooalckjjplaaGreatDoorBfa5
import Derived.Test.YtgaooalckjjplaaGreatDoorBfa7
set_option linter.unusedVariables false
namespace Go.Proofs.YtgaooalckjjplaaGreatDoor
open Go.RowKit

/-- append onto a slice that is owned, as one step of a region that draws. -/
theorem step_append_own {P : Program} {ops : Array Oper} {o : Oper} {a : Act} {w : World} {K : Act → World → Prop} {Q : Exit → Act → World → Prop} {E : Prop}
    (hg : o.guard = none) (s x : Operand) (t : TypeId) (hop : o.op = Op.call { callee := Callee.builtin Builtin.append, args := #[s, x], argTypes := #[t, t] })
    (e : TypeId) (i : TypeInfo) (z : Value) (size bytes : Nat) (ht : P.underlying t = some (.slice e)) (hi : P.info? e = some i) (hz : i.zero = some z)
    (hsize : i.size = size) (hby : i.bytes = bytes) (hzs : z.cells.size = size) (hsz : 0 < size)
    (v : Value) (n : Nat) (xs : List Value) (hs : a.eval s = v) (hown : w.ownsRow 0 e size v n xs)
    (ad : Addr) (m c : Nat) (news : List Value) (hx : a.eval x = .slice (some ad) m c) (hl : news.length = m * size) (hnews : ∀ j u, news[j]? = some u → w.cell? (ad.add j) = some u) (h1 : ∀ u ∈ news, u.oneCell' = true)
    (h63 : n + m ≤ maxLen) (hbytes : (n + m) * bytes ≤ 140737488355328)
    (hK : ∀ v' w', w'.ownsRow 0 e size v' (n + m) (xs ++ news) → w.grownBy w' v.ownBlock → (v'.ownBlock = v.ownBlock ∨ v'.ownBlock = some w.heap.size) → K (a.put o.dst v') w') :
    if Region.wanted o (yielded ops a.tmps) = true then Oper.wp P o a w K Q else E := by
  have hw : Region.wanted o (yielded ops a.tmps) = true := by simp [Region.wanted, hg]
  rw [if_pos hw]
  obtain ⟨v', w', hr, h2, h3, h4, h5⟩ := run_append_own_at (P := P) w 0 t o.type e i z size bytes ht hi hz hsize hby hzs hsz v n xs hown ad m c news hl hnews h1 h63 hbytes (Nat.zero_le _)
  unfold Oper.wp
  simp [execOp, hop, resolve, invoke, builtin, hs, hx, hr, Result.andThen]
  exact hK v' w' h2 h3 h5

theorem cells_new_add (w : World) (t : TypeId) (cs : List Value) : ∀ j u, cs[j]? = some u → (w.alloc (.cells cs.toArray t)).cell? ((⟨w.heap.size, 0, none⟩ : Addr).add j) = some u := by
  intro j u hj
  have := (Cells.new w t cs.toArray).cell j
  have e : (⟨w.heap.size, 0, none⟩ : Addr).add j = ⟨w.heap.size, j, none⟩ := by unfold Addr.add; split <;> simp_all
  rw [e, this, List.getElem?_toArray, hj]
theorem slice_of_own {w : World} {base : Nat} {e : TypeId} {size : Nat} {v : Value} {n : Nat} {xs : List Value} (h : w.ownsRow base e size v (n + 1) xs) : ∃ g cap, v = .slice (some ⟨g, 0, none⟩) (n + 1) cap := by
  rcases h.2 with ⟨_, h⟩ | ⟨g, cap, _, h, _⟩
  · omega
  · exact ⟨g, cap, h⟩

/-- What is known behind an append of one element onto a slice that is owned; W: the world ahead of it. -/
theorem appended {w W w' : World} {g : Nat} {t : TypeId} {cur : Array Value} (hg : Cells w g t cur) {vw v' : Value} {n : Nat} {xs A : List Value} {e : TypeId} {size : Nat} (hown : w.ownsRow 0 e size vw n xs) (hne : vw.ownBlock ≠ some g)
    (hb : Below w.heap.size w W) (ho : w'.ownsRow 0 e size v' (n + 1) (xs ++ A)) (hgr : W.grownBy w' vw.ownBlock) (hbk : v'.ownBlock = vw.ownBlock ∨ v'.ownBlock = some W.heap.size) :
    (∃ g' cap, v' = .slice (some ⟨g', 0, none⟩) (n + 1) cap) ∧ Cells w' g t cur ∧ (∀ r, w.heap.size ≤ r → r < W.heap.size → w'.heap[r]? = W.heap[r]?) ∧
      (v'.ownBlock = vw.ownBlock ∨ ∃ k, v'.ownBlock = some k ∧ w.heap.size ≤ k ∧ k < w'.heap.size) ∧ Only (fun r => some r = vw.ownBlock) w w' := by
  have hs := hb.size
  refine ⟨slice_of_own ho, (hgr.block g (Nat.lt_of_lt_of_le hg.lt hs) (fun e => hne e.symm)).trans ((hb.block g hg.lt).trans hg), fun r h1 h2 => hgr.block r h2 (fun e => ?_), ?_, ?_⟩
  · have := (hown.lt r e.symm).2; omega
  · rcases hbk with h | h
    · exact .inl h
    · exact .inr ⟨_, h, hs, (ho.lt _ h).2⟩
  · exact (Only.of_below hb (Nat.le_refl _)).grown hgr (fun k hk => .inl hk.symm)

def tagged (T : Nat → Nat) (o : Option Nat) (t : Nat) : Prop := ∀ b, o = some b → T b = t
def retag (T : Nat → Nat) (lo : Nat) (o : Option Nat) (t : Nat) : Nat → Nat := fun b => if lo ≤ b ∧ o = some b then t else T b
/-- The same block, or a new one from lo on, below hi. -/
def sameOr (lo hi : Nat) (a b : Option Nat) : Prop := b = a ∨ ∃ k, b = some k ∧ lo ≤ k ∧ k < hi
theorem retag_old {T : Nat → Nat} {lo : Nat} {o : Option Nat} {t b : Nat} (h : b < lo) : retag T lo o t b = T b := by
  unfold retag; rw [if_neg (by omega)]
theorem retag_same {T : Nat → Nat} {lo hi : Nat} {a b : Option Nat} {t : Nat} (h : sameOr lo hi a b) (ha : tagged T a t) : tagged (retag T lo b t) b t := by
  intro k hk
  unfold retag
  split
  · rfl
  · rename_i hn
    rcases h with h | ⟨j, h, h1, _⟩
    · exact ha k (by rw [← h]; exact hk)
    · rw [h] at hk; cases hk; exact absurd ⟨h1, h⟩ hn
theorem retag_other {T : Nat → Nat} {lo : Nat} {o c : Option Nat} {t u : Nat} (hc : tagged T c u) (hl : ∀ k, c = some k → k < lo) : tagged (retag T lo o t) c u := by
  intro k hk; rw [retag_old (hl k hk)]; exact hc k hk
/-- A step of a tagged thing: other blocks lie as they lay; what was tagged is so still. -/
structure Step (w : World) (T : Nat → Nat) (w' : World) (T' : Nat → Nat) : Prop where
  only : Only (fun r => T r ≠ 0) w w'
  old : ∀ r, r < w.heap.size → T' r = T r
theorem Step.refl (w : World) (T : Nat → Nat) : Step w T w T := ⟨Only.refl _ _, fun _ _ => rfl⟩
theorem Step.trans {w w1 w2 : World} {T T1 T2 : Nat → Nat} (h : Step w T w1 T1) (g : Step w1 T1 w2 T2) : Step w T w2 T2 :=
  ⟨h.only.trans g.only (fun r hr hn => by rw [← h.old r hr]; exact hn), fun r hr => (g.old r (Nat.lt_of_lt_of_le hr h.only.size)).trans (h.old r hr)⟩
theorem Step.below {w w' : World} {T : Nat → Nat} (h : Below w.heap.size w w') : Step w T w' T := ⟨Only.of_below h (Nat.le_refl _), fun _ _ => rfl⟩

end Go.Proofs.YtgaooalckjjplaaGreatDoor

namespace Go.Proofs.YtgaooalckjjplaaGreatDoor
open Go.RowKit

/-- The values of the parser's slices, and of its items' fields. -/
structure PV where
  v1 : Value
  v3 : Value
  v6 : Value
  fvs : List Value
def pCells (p : PS) (text : ByteArray) (v1 v3 v6 : Value) : Array Value := #[.int .i64 p.begin_, v1, .string text, v3, .int .i64 p.stanzas, .int .i64 p.at_, v6]
def itemCells (it : It) (v : Value) : List Value := [.int .i64 it.kind, .string (B it.raw), v]
def itemsCells : List It → List Value → List Value
  | it :: l, v :: vs => itemCells it v ++ itemsCells l vs
  | _, _ => []
theorem itemsCells_snoc : ∀ (l : List It) (vs : List Value) (it : It) (v : Value), vs.length = l.length → itemsCells (l ++ [it]) (vs ++ [v]) = itemsCells l vs ++ itemCells it v
  | [], [], it, v, _ => by simp [itemsCells]
  | [], _ :: _, _, _, h => by simp at h
  | a :: l, [], it, v, h => by simp at h
  | a :: l, u :: vs, it, v, h => by
    have := itemsCells_snoc l vs it v (by simpa using h)
    simp only [List.cons_append, itemsCells, this, List.append_assoc]
theorem itemsCells_at : ∀ (l : List It) (vs : List Value) (i : Nat) (it : It) (v : Value), l[i]? = some it → vs[i]? = some v → (itemsCells l vs)[i * 3]? = some (.int .i64 it.kind) ∧ (itemsCells l vs)[i * 3 + 1]? = some (.string (B it.raw)) ∧ (itemsCells l vs)[i * 3 + 1 + 1]? = some v
  | [], _, i, it, v, h, _ => by simp at h
  | a :: l, [], i, it, v, _, h => by simp at h
  | a :: l, u :: vs, 0, it, v, h, h' => by simp at h h'; subst h h'; exact ⟨rfl, rfl, rfl⟩
  | a :: l, u :: vs, i + 1, it, v, h, h' => by
    obtain ⟨x, y, z⟩ := itemsCells_at l vs i it v (by simpa using h) (by simpa using h')
    have e : itemsCells (a :: l) (u :: vs) = .int .i64 a.kind :: .string (B a.raw) :: u :: itemsCells l vs := rfl
    have k : (i + 1) * 3 = i * 3 + 1 + 1 + 1 := by omega
    have k1 : i * 3 + 1 + 1 + 1 + 1 = (i * 3 + 1) + 1 + 1 + 1 := by omega
    have k2 : i * 3 + 1 + 1 + 1 + 1 + 1 = (i * 3 + 1 + 1) + 1 + 1 + 1 := by omega
    rw [e, k]
    refine ⟨?_, ?_, ?_⟩
    · rw [List.getElem?_cons_succ, List.getElem?_cons_succ, List.getElem?_cons_succ]; exact x
    · rw [k1, List.getElem?_cons_succ, List.getElem?_cons_succ, List.getElem?_cons_succ]; exact y
    · rw [k2, List.getElem?_cons_succ, List.getElem?_cons_succ, List.getElem?_cons_succ]; exact z
theorem cellsF_snoc (l : List Fld) (f : Fld) : cellsF (l ++ [f]) = cellsF l ++ [.string (B f.1), .string (B f.2)] := by unfold cellsF; simp
def saidCells (l : List (List UInt8)) : List Value := l.map fun x => .string (B x)

/-- A parser stands at b; what is its own begins at R. -/
structure ParserV (w : World) (T : Nat → Nat) (R b : Nat) (text : ByteArray) (p : PS) (V : PV) : Prop where
  cells : Cells w b 197 (pCells p text V.v1 V.v3 V.v6)
  tp : T b = 1
  r1 : w.ownsRow 0 9 1 V.v1 p.said.length (saidCells p.said)
  t1 : tagged T V.v1.ownBlock 2
  r3 : w.ownsRow 0 89 3 V.v3 p.items.length (itemsCells p.items V.fvs)
  t3 : tagged T V.v3.ownBlock 3
  r6 : w.ownsRow 0 66 2 V.v6 p.fields.length (cellsF p.fields)
  t6 : tagged T V.v6.ownBlock 4
  nf : V.fvs.length = p.items.length
  rf : ∀ (i : Nat) (it : It) (v : Value), p.items[i]? = some it → V.fvs[i]? = some v → w.ownsRow 0 66 2 v it.fields.length (cellsF it.fields) ∧ tagged T v.ownBlock 5
  low : ∀ k, T k ≠ 0 → R ≤ k ∧ k < w.heap.size
def ParserAt (w : World) (T : Nat → Nat) (R b : Nat) (text : ByteArray) (p : PS) : Prop := ∃ V, ParserV w T R b text p V

/-- A step of the parser: what isn't its own lies as it lay. -/
structure PStep (w : World) (T : Nat → Nat) (w' : World) (T' : Nat → Nat) : Prop where
  only : Only (fun r => T r ≠ 0) w w'
  old : ∀ r, r < w.heap.size → (T' r = 0 ↔ T r = 0)
theorem PStep.refl (w : World) (T : Nat → Nat) : PStep w T w T := ⟨Only.refl _ _, fun _ _ => Iff.rfl⟩
theorem PStep.trans {w w1 w2 : World} {T T1 T2 : Nat → Nat} (h : PStep w T w1 T1) (g : PStep w1 T1 w2 T2) : PStep w T w2 T2 :=
  ⟨h.only.trans g.only (fun r hr hn => fun e => hn ((h.old r hr).2 e)), fun r hr => (g.old r (Nat.lt_of_lt_of_le hr h.only.size)).trans (h.old r hr)⟩
theorem PStep.below {w w' : World} {T : Nat → Nat} (h : Below w.heap.size w w') : PStep w T w' T := ⟨Only.of_below h (Nat.le_refl _), fun _ _ => Iff.rfl⟩
theorem PStep.drewN {w w' : World} {T T' : Nat → Nat} (h : PStep w T w' T') (n : Nat) : PStep w T (w'.drewN n) T' := ⟨h.only.drewN n, h.old⟩

theorem ParserV.same {w w' : World} {T : Nat → Nat} {R b : Nat} {text : ByteArray} {p : PS} {V : PV} (h : ParserV w T R b text p V) (hs : ∀ k, T k ≠ 0 → w'.heap[k]? = w.heap[k]?) (hz : w.heap.size ≤ w'.heap.size) : ParserV w' T R b text p V := by
  have s : ∀ {o : Option Nat} {t : Nat}, tagged T o t → t ≠ 0 → ∀ k, o = some k → w'.heap[k]? = w.heap[k]? := fun ht hne k hk => hs k (by rw [ht k hk]; exact hne)
  exact ⟨(hs b (by rw [h.tp]; decide)).trans h.cells, h.tp, row_same h.r1 (s h.t1 (by decide)), h.t1, row_same h.r3 (s h.t3 (by decide)), h.t3, row_same h.r6 (s h.t6 (by decide)), h.t6, h.nf,
    fun i it v h1 h2 => ⟨row_same (h.rf i it v h1 h2).1 (s (h.rf i it v h1 h2).2 (by decide)), (h.rf i it v h1 h2).2⟩, fun k hk => ⟨(h.low k hk).1, Nat.lt_of_lt_of_le (h.low k hk).2 hz⟩⟩
theorem ParserV.below {w w' : World} {T : Nat → Nat} {R b : Nat} {text : ByteArray} {p : PS} {V : PV} (h : ParserV w T R b text p V) (hb : Below w.heap.size w w') : ParserV w' T R b text p V :=
  h.same (fun k hk => hb.block k (h.low k hk).2) hb.size
theorem ParserAt.below {w w' : World} {T : Nat → Nat} {R b : Nat} {text : ByteArray} {p : PS} (h : ParserAt w T R b text p) (hb : Below w.heap.size w w') : ParserAt w' T R b text p := by
  obtain ⟨V, h⟩ := h; exact ⟨V, h.below hb⟩
theorem ParserV.lt {w : World} {T : Nat → Nat} {R b : Nat} {text : ByteArray} {p : PS} {V : PV} (h : ParserV w T R b text p V) : b < w.heap.size := h.cells.lt

/-- A new parser. -/
theorem ParserV.new (w : World) (text : ByteArray) (R : Nat) (hR : R ≤ w.heap.size) : ParserV (w.alloc (.cells #[.int .i64 0, .slice none 0 0, .string text, .slice none 0 0, .int .i64 0, .int .i64 0, .slice none 0 0] 197)) (fun k => if k = w.heap.size then 1 else 0) R w.heap.size text PS.new ⟨.slice none 0 0, .slice none 0 0, .slice none 0 0, []⟩ := by
  have tn : ∀ t, tagged (fun k => if k = w.heap.size then 1 else 0) (Value.slice none 0 0).ownBlock t := fun t k h => by cases h
  have rn : ∀ e size, (w.alloc (.cells #[.int .i64 0, .slice none 0 0, .string text, .slice none 0 0, .int .i64 0, .int .i64 0, .slice none 0 0] 197)).ownsRow 0 e size (.slice none 0 0) 0 [] := fun e size => ⟨by simp, .inl ⟨rfl, rfl⟩⟩
  refine ⟨Cells.new _ _ _, if_pos rfl, rn _ _, tn 2, rn _ _, tn 3, rn _ _, tn 4, rfl, (fun i it v h _ => by cases h), fun k hk => ?_⟩
  have : k = w.heap.size := by
    rcases Nat.decEq k w.heap.size with h | h
    · rw [if_neg h] at hk; exact absurd rfl hk
    · exact h
  subst this
  exact ⟨hR, by simp⟩

/-- The slots of a slice that is owned. -/
theorem own_slice {w : World} {base : Nat} {e : TypeId} {size : Nat} {v : Value} {n : Nat} {xs : List Value} (h : w.ownsRow base e size v n xs) : ∃ a cap, v = .slice a n cap ∧ n ≤ cap := by
  rcases h.2 with ⟨rfl, rfl⟩ | ⟨g, cap, cur, rfl, _, _, hle, _⟩
  · exact ⟨none, 0, rfl, Nat.le_refl _⟩
  · exact ⟨_, cap, rfl, hle⟩

set_option maxHeartbeats 400000 in
theorem under_any {w : World} {T : Nat → Nat} {R b : Nat} {text : ByteArray} {p : PS} {V : PV} (h : ParserV w T R b text p V) :
    Calls Tryz.prog 156 #[.pointer (some ⟨b, 0, none⟩)] w fun e w' => e = .returned (.bool (!p.said.isEmpty)) ∧ w = w' := by
  obtain ⟨a, cap, e1, hc⟩ := own_slice h.r1
  have c1 : w.cell? ⟨b, 1, none⟩ = some (.slice a p.said.length cap) := by rw [← e1]; exact h.cells.cell 1
  have hl := h.lt
  have hb : (!p.said.isEmpty) = decide (0 < p.said.length) := by cases p.said <;> simp
  rw [hb]
  clear h
  go_enter Tryz.func156, Tryz.ntmps156
  go_wp2
  go_ret
  exact ⟨rfl, rfl⟩
set_option maxHeartbeats 400000 in
theorem full_any {w : World} {T : Nat → Nat} {R b : Nat} {text : ByteArray} {p : PS} {V : PV} (h : ParserV w T R b text p V) :
    Calls Tryz.prog 161 #[.pointer (some ⟨b, 0, none⟩)] w fun e w' => e = .returned (.bool (fullP p)) ∧ w = w' := by
  obtain ⟨a, cap, e1, hc⟩ := own_slice h.r6
  have c1 : w.cell? ⟨b, 6, none⟩ = some (.slice a p.fields.length cap) := by rw [← e1]; exact h.cells.cell 6
  have c2 : w.cell? ⟨b, 4, none⟩ = some (.int .i64 p.stanzas) := h.cells.cell 4
  have hl := h.lt
  unfold fullP
  clear h
  by_cases h0 : p.fields.length = 0
  · rw [if_pos h0]
    rw [h0] at c1
    have e2 : (p.stanzas == 400) = ((p.stanzas : Int) == 400) := by rw [Bool.eq_iff_iff]; simp; omega
    rw [e2]
    go_enter Tryz.func161, Tryz.ntmps161
    go_wp2
    go_ret
    exact ⟨rfl, rfl⟩
  · rw [if_neg h0]
    have e2 : (p.fields.length == 40) = ((p.fields.length : Int) == 40) := by rw [Bool.eq_iff_iff]; simp; omega
    have e3 : ((p.fields.length : Int) == 0) = false := beq_eq_false_iff_ne.2 (by omega)
    rw [e2]
    go_enter Tryz.func161, Tryz.ntmps161
    go_wp2
    go_ret
    exact ⟨rfl, rfl⟩
end Go.Proofs.YtgaooalckjjplaaGreatDoor

namespace Go.Proofs.YtgaooalckjjplaaGreatDoor
open Go.RowKit

theorem saidCells_snoc (l : List (List UInt8)) (x : List UInt8) : saidCells (l ++ [x]) = saidCells l ++ [.string (B x)] := by unfold saidCells; simp
theorem infoStr0 : (Tryz.prog.info? 9).map (fun i => (i.zero, i.size, i.bytes)) = some (some (.string ⟨#[]⟩), 1, 16) := by kernel_rfl
theorem retag_both {w w' : World} {T : Nat → Nat} {R : Nat} {a o : Option Nat} {t : Nat} (low : ∀ k, T k ≠ 0 → R ≤ k ∧ k < w.heap.size) (hs : w.heap.size ≤ w'.heap.size) (hR : R ≤ w.heap.size) (h : sameOr w.heap.size w'.heap.size a o) (ha : tagged T a t) (ht : t ≠ 0) :
    ∀ k, retag T w.heap.size o t k ≠ 0 → R ≤ k ∧ k < w'.heap.size := by
  intro k hk
  unfold retag at hk
  split at hk
  · rename_i hn
    rcases h with h | ⟨j, h, _, h2⟩
    · have := low k (by rw [ha k (by rw [← h]; exact hn.2)]; exact ht); omega
    · have := hn.2; rw [h] at this; cases this; omega
  · have := low k hk; omega
/-- What is behind a step that turns the cells, and one row of the parser (the lines of the field). -/
theorem ParserV.said {w w' : World} {T : Nat → Nat} {R b : Nat} {text : ByteArray} {p p' : PS} {V : PV} (h : ParserV w T R b text p V) (hR : R ≤ w.heap.size) (v1' : Value)
    (hc : Cells w' b 197 (pCells p' text v1' V.v3 V.v6)) (hr : w'.ownsRow 0 9 1 v1' p'.said.length (saidCells p'.said)) (hk : sameOr w.heap.size w'.heap.size V.v1.ownBlock v1'.ownBlock)
    (ho : Only (fun r => r = b ∨ some r = V.v1.ownBlock) w w') (e1 : p'.items = p.items) (e2 : p'.fields = p.fields) :
    ∃ T', ParserV w' T' R b text p' { V with v1 := v1' } ∧ PStep w T w' T' := by
  have hs : ∀ k, T k ≠ 0 → T k ≠ 1 → T k ≠ 2 → w'.heap[k]? = w.heap[k]? := fun k h0 h1 h2 => ho.same k (h.low k h0).2 (by
    rintro (e | e)
    · exact h1 (by rw [e]; exact h.tp)
    · exact h2 (h.t1 k e.symm))
  have s : ∀ {o : Option Nat} {t : Nat}, tagged T o t → 3 ≤ t → ∀ k, o = some k → w'.heap[k]? = w.heap[k]? := fun ht hne k hk => hs k (by rw [ht k hk]; omega) (by rw [ht k hk]; omega) (by rw [ht k hk]; omega)
  have lo : ∀ {o : Option Nat} {t : Nat}, tagged T o t → t ≠ 0 → ∀ k, o = some k → k < w.heap.size := fun ht hne k hk => (h.low k (by rw [ht k hk]; exact hne)).2
  refine ⟨retag T w.heap.size v1'.ownBlock 2, ⟨hc, by rw [retag_old h.lt]; exact h.tp, hr, retag_same hk h.t1, ?_, retag_other h.t3 (lo h.t3 (by decide)), ?_, retag_other h.t6 (lo h.t6 (by decide)), by rw [e1]; exact h.nf, fun i it v h1 h2 => ?_, retag_both h.low ho.size hR hk h.t1 (by decide)⟩,
    ⟨ho.mono fun r hr' e => ?_, fun r hr' => by rw [retag_old hr']⟩⟩
  · rw [e1]; exact row_same h.r3 (s h.t3 (by decide))
  · rw [e2]; exact row_same h.r6 (s h.t6 (by decide))
  · obtain ⟨a, c⟩ := h.rf i it v (by rw [← e1]; exact h1) h2
    exact ⟨row_same a (s c (by decide)), retag_other c (lo c (by decide))⟩
  · rcases e with e | e
    · rw [e, h.tp]; decide
    · rw [h.t1 r e.symm]; decide

def startP (p : PS) (x : Ln) : PS := { p with begin_ := x.no, said := [x.text] }
set_option maxRecDepth 100000 in
set_option maxHeartbeats 2000000 in
theorem start_any {w : World} {T : Nat → Nat} {R b : Nat} {text : ByteArray} {p : PS} {V : PV} (h : ParserV w T R b text p V) (hR : R ≤ w.heap.size) (x : Ln) :
    Calls Tryz.prog 158 #[.pointer (some ⟨b, 0, none⟩), .agg #[.int .i64 x.no, .int .i64 x.at_, .string (B x.text), .bool x.ended]] w fun e w' => e = .returned (.tuple #[]) ∧ ∃ T', ParserAt w' T' R b text (startP p x) ∧ PStep w T w' T' := by
  have hl := h.lt
  have hcell := h.cells
  have k0 : w.cell? ⟨b, 0, none⟩ = some (.int .i64 p.begin_) := hcell.cell 0
  have k1 : w.cell? ⟨b, 1, none⟩ = some V.v1 := hcell.cell 1
  have kf0 := hcell.frozen 0
  have kf1 := hcell.frozen 1
  have HF := Lib.hid (fun w' v1' hc hr hk ho => ParserV.said (p' := startP p x) h hR (w' := w') v1' hc hr hk ho rfl rfl)
  have HC := Lib.hid hcell
  clear h hcell
  go_enter Tryz.func158, Tryz.ntmps158
  go_wp2
  go_region
  all_goals
    go_wp2
    go_end0
    refine ⟨rfl, ?_⟩
    refine Exists.elim (HF.out _ (.slice (some ⟨w.heap.size + 1, 0, none⟩) 1 1) ?c ?r ?k ?o) fun T' g => ⟨T', ⟨_, g.1⟩, g.2⟩
    case c =>
      have hc := ((((HC.out.set 0 (.int .i64 x.no)).set 1 (.slice (some ⟨w.heap.size + 1, 0, none⟩) 1 1)).alloc (.cells #[.int .i64 x.no, .int .i64 x.at_, .string (B x.text), .bool x.ended] 172)).alloc (.cells #[.string (B x.text)] 9)).drew
      simpa [pCells, startP] using hc
    case r =>
      have hz : (((w.setCell ⟨b, 0, none⟩ (.int .i64 x.no)).setCell ⟨b, 1, none⟩ (.slice (some ⟨w.heap.size + 1, 0, none⟩) 1 1)).alloc (.cells #[.int .i64 x.no, .int .i64 x.at_, .string (B x.text), .bool x.ended] 172)).heap.size = w.heap.size + 1 := by simp [World.setCell]
      have := World.ownsRow_lit (base := 0) (((w.setCell ⟨b, 0, none⟩ (.int .i64 x.no)).setCell ⟨b, 1, none⟩ (.slice (some ⟨w.heap.size + 1, 0, none⟩) 1 1)).alloc (.cells #[.int .i64 x.no, .int .i64 x.at_, .string (B x.text), .bool x.ended] 172)) (e := 9) (size := 1) #[.string (B x.text)] 1 (Nat.zero_le _) (by decide) rfl
      rw [hz] at this
      exact row_same this fun _ _ => rfl
    case k => exact .inr ⟨w.heap.size + 1, rfl, by omega, by simp [World.setCell, World.drew]⟩
    case o => exact ((((Only.refl _ w).setCell (p := ⟨b, 0, none⟩) (.inl (.inl rfl)) _).setCell (p := ⟨b, 1, none⟩) (.inl (.inl rfl)) _).alloc _).alloc _ |>.drew
theorem rowBlock_ne {w : World} {T : Nat → Nat} {b : Nat} {v : Value} {t : Nat} (hb : T b = 1) (ht : tagged T v.ownBlock t) (h : t ≠ 1) : v.ownBlock ≠ some b := fun e => h (by rw [← ht b e, hb])

def goOnP (p : PS) (x : Ln) : PS := { p with said := p.said ++ [x.text] }
set_option maxRecDepth 100000 in
set_option maxHeartbeats 2000000 in
theorem goOn_any {w : World} {T : Nat → Nat} {R b : Nat} {text : ByteArray} {p : PS} {V : PV} (h : ParserV w T R b text p V) (hR : R ≤ w.heap.size) (x : Ln) (hn : p.said.length ≤ 1000000) :
    Calls Tryz.prog 157 #[.pointer (some ⟨b, 0, none⟩), .agg #[.int .i64 x.no, .int .i64 x.at_, .string (B x.text), .bool x.ended]] w fun e w' => e = .returned (.tuple #[]) ∧ ∃ T', ParserAt w' T' R b text (goOnP p x) ∧ PStep w T w' T' := by
  obtain ⟨i0, hi, hz0, hz1, hz2⟩ := info_parts infoStr0
  have hl := h.lt
  have k1 : w.cell? ⟨b, 1, none⟩ = some V.v1 := h.cells.cell 1
  have HF := Lib.hid (fun w' v1' hc hr hk ho => ParserV.said (p' := goOnP p x) h hR (w' := w') v1' hc hr hk ho rfl rfl)
  have HC := Lib.hid h.cells
  have HO := Lib.hid h.r1
  have HE := Lib.hid (rowBlock_ne (w := w) h.tp h.t1 (by decide))
  clear h
  go_enter Tryz.func157, Tryz.ntmps157
  go_wp2
  go_region_law ((refine step_append_own rfl (.tmp 8) (.tmp 11) 105 rfl 9 i0 _ 1 16 Tryz.underlying105 hi hz0 hz1 hz2 rfl (by decide) V.v1 p.said.length (saidCells p.said) (by simp [Act.eval]) (by exact ((HO.out.alloc _).alloc _).drew) ⟨w.heap.size + 1, 0, none⟩ 1 1 [.string (B x.text)] (by simp [Act.eval]) rfl (by have := cells_new_add (w.alloc (.cells #[.int .i64 x.no, .int .i64 x.at_, .string (B x.text), .bool x.ended] 172)) 9 [.string (B x.text)]; rw [World.size_alloc] at this; exact this) (by intro u hu; simp at hu; subst hu; rfl) (by unfold maxLen; omega) (by omega) ?_); intro v' w' ho hgr hbk; obtain ⟨⟨g', cap', rfl⟩, hg', hbx, hk, hon⟩ := appended HC.out HO.out HE.out ((((Below.refl _ w).alloc (Nat.le_refl _) _).alloc (by simp) _).drew) ho hgr hbk; have k1' : w'.cell? ⟨b, 1, none⟩ = some V.v1 := hg'.cell 1; have kf1' := hg'.frozen 1)
  all_goals
    go_wp2
    go_end0
    have hvg : (Value.slice (some ⟨g', 0, none⟩) (p.said.length + 1) cap').ownBlock ≠ some b := by
      intro e
      rcases hk with h | ⟨k, h, h2, _⟩
      · exact HE.out (h.symm.trans e)
      · rw [h] at e; cases e; omega
    refine ⟨rfl, Exists.elim (HF.out _ (.slice (some ⟨g', 0, none⟩) (p.said.length + 1) cap') ?k1 ?k2 ?k3 ?k4) fun T' g => ⟨T', ⟨_, g.1⟩, g.2⟩⟩
    case k1 =>
      have hc := hg'.set 1 (.slice (some ⟨g', 0, none⟩) (p.said.length + 1) cap')
      simpa [pCells, goOnP] using hc
    case k2 =>
      have hr := row_cell (p := ⟨b, 1, none⟩) ho hvg (.slice (some ⟨g', 0, none⟩) (p.said.length + 1) cap')
      have e1 : (goOnP p x).said.length = p.said.length + 1 := by simp [goOnP]
      have e2 : saidCells (goOnP p x).said = saidCells p.said ++ [.string (B x.text)] := saidCells_snoc _ _
      rw [e1, e2]
      exact hr
    case k3 => unfold sameOr; simpa [World.setCell] using hk
    case k4 => exact (hon.mono (fun r _ h => .inr h)).setCell (p := ⟨b, 1, none⟩) (.inl (.inl rfl)) _
end Go.Proofs.YtgaooalckjjplaaGreatDoor

namespace Go.Proofs.YtgaooalckjjplaaGreatDoor
open Go.RowKit

theorem infoItem : (Tryz.prog.info? 89).map (fun i => (i.zero, i.size, i.bytes)) = some (some (.agg #[.int .i64 0, .string ⟨#[]⟩, .slice none 0 0]), 3, 48) := by kernel_rfl
theorem cut_text (text : ByteArray) (a e : Nat) : text.extract a e = B ((text.data.toList.take e).drop a) := by
  have h := Lib.extract_data text a e
  have h2 : (text.data.toList.take e).drop a = (text.data.toList.drop a).take (e - a) := by rw [List.drop_take]
  rw [h2, ← h, B_of]
/-- Blocks of one tag become blocks of another one. -/
def moved (T : Nat → Nat) (a c : Nat) : Nat → Nat := fun k => if T k = a then c else T k
theorem moved_other {T : Nat → Nat} {a c : Nat} {o : Option Nat} {t : Nat} (h : tagged T o t) (ht : t ≠ a) : tagged (moved T a c) o t := by
  intro k hk; unfold moved; rw [if_neg (by rw [h k hk]; exact ht)]; exact h k hk
theorem moved_it {T : Nat → Nat} {a c : Nat} {o : Option Nat} (h : tagged T o a) : tagged (moved T a c) o c := by
  intro k hk; unfold moved; rw [if_pos (h k hk)]
theorem moved_zero {T : Nat → Nat} {a c : Nat} (ha : a ≠ 0) (hc : c ≠ 0) (k : Nat) : moved T a c k = 0 ↔ T k = 0 := by
  unfold moved
  split
  · rename_i h; rw [h]; exact ⟨fun e => absurd e hc, fun e => absurd e ha⟩
  · exact Iff.rfl
theorem ParserV.item {w w' : World} {T : Nat → Nat} {R b : Nat} {text : ByteArray} {p p' : PS} {V : PV} (h : ParserV w T R b text p V) (hR : R ≤ w.heap.size) (v3' : Value) (it : It)
    (hc : Cells w' b 197 (pCells p' text V.v1 v3' (.slice none 0 0))) (hr : w'.ownsRow 0 89 3 v3' (p.items.length + 1) (itemsCells p.items V.fvs ++ itemCells it V.v6)) (hk : sameOr w.heap.size w'.heap.size V.v3.ownBlock v3'.ownBlock)
    (ho : Only (fun r => r = b ∨ some r = V.v3.ownBlock) w w') (e1 : p'.items = p.items ++ [it]) (e2 : p'.fields = []) (e3 : p'.said = p.said) (e4 : it.fields = p.fields) :
    ∃ T', ParserV w' T' R b text p' { V with v3 := v3', v6 := .slice none 0 0, fvs := V.fvs ++ [V.v6] } ∧ PStep w T w' T' := by
  have hs : ∀ k, T k ≠ 0 → T k ≠ 1 → T k ≠ 3 → w'.heap[k]? = w.heap[k]? := fun k h0 h1 h2 => ho.same k (h.low k h0).2 (by
    rintro (e | e)
    · exact h1 (by rw [e]; exact h.tp)
    · exact h2 (h.t3 k e.symm))
  have s : ∀ {o : Option Nat} {t : Nat}, tagged T o t → t ≠ 0 → t ≠ 1 → t ≠ 3 → ∀ k, o = some k → w'.heap[k]? = w.heap[k]? := fun ht h0 h1 h3 k hk => hs k (by rw [ht k hk]; exact h0) (by rw [ht k hk]; exact h1) (by rw [ht k hk]; exact h3)
  have lo : ∀ {o : Option Nat} {t : Nat}, tagged T o t → t ≠ 0 → ∀ k, o = some k → k < w.heap.size := fun ht hne k hk => (h.low k (by rw [ht k hk]; exact hne)).2
  have lowM : ∀ k, moved T 4 5 k ≠ 0 → R ≤ k ∧ k < w.heap.size := fun k hk => h.low k (fun e => hk ((moved_zero (by decide) (by decide) k).2 e))
  refine ⟨retag (moved T 4 5) w.heap.size v3'.ownBlock 3, ⟨hc, ?_, ?_, ?_, ?_, ?_, ?_, ?_, ?_, ?_, ?_⟩, ⟨ho.mono fun r hr' e => ?_, fun r hr' => by rw [retag_old hr']; exact moved_zero (by decide) (by decide) r⟩⟩
  · rw [retag_old h.lt]; unfold moved; rw [h.tp]; rfl
  · rw [e3]; exact row_same h.r1 (s h.t1 (by decide) (by decide) (by decide))
  · exact retag_other (moved_other h.t1 (by decide)) (lo h.t1 (by decide))
  · rw [e1, List.length_append, itemsCells_snoc _ _ _ _ h.nf]; exact hr
  · exact retag_same hk (moved_other h.t3 (by decide))
  · rw [e2]; exact ⟨by simp [cellsF], .inl ⟨rfl, rfl⟩⟩
  · exact fun k hk => by cases hk
  · rw [e1, List.length_append, List.length_append, h.nf]; rfl
  · intro i it' v h1 h2
    rw [e1] at h1
    dsimp only at h2
    rcases Nat.lt_or_ge i p.items.length with q | q
    · rw [List.getElem?_append_left q] at h1
      rw [List.getElem?_append_left (by rw [h.nf]; exact q)] at h2
      obtain ⟨a, c⟩ := h.rf i it' v h1 h2
      exact ⟨row_same a (s c (by decide) (by decide) (by decide)), retag_other (moved_other c (by decide)) (lo c (by decide))⟩
    · rw [List.getElem?_append_right q] at h1
      rw [List.getElem?_append_right (by rw [h.nf]; exact q), h.nf] at h2
      have hz : i - p.items.length = 0 := by
        rcases Nat.eq_zero_or_pos (i - p.items.length) with z | z
        · exact z
        · rw [List.getElem?_eq_none (by simp; omega)] at h1; cases h1
      rw [hz] at h1 h2
      cases h1; cases h2
      rw [e4]
      exact ⟨row_same h.r6 (s h.t6 (by decide) (by decide) (by decide)), retag_other (moved_it h.t6) (lo h.t6 (by decide))⟩
  · exact retag_both lowM ho.size hR hk (moved_other h.t3 (by decide)) (by decide)
  · rcases e with e | e
    · rw [e, h.tp]; decide
    · rw [h.t3 r e.symm]; decide

set_option maxRecDepth 100000 in
set_option maxHeartbeats 4000000 in
theorem endItem_any {w : World} {T : Nat → Nat} {R b : Nat} {text : ByteArray} {p : PS} {V : PV} (h : ParserV w T R b text p V) (hR : R ≤ w.heap.size) (kind e : Nat) (h1 : p.at_ ≤ e) (h2 : e ≤ text.size) (h3 : text.size ≤ 1000000) (hn : p.items.length ≤ 1000000) :
    Calls Tryz.prog 159 #[.pointer (some ⟨b, 0, none⟩), .int .i64 kind, .int .i64 e] w fun e' w' => e' = .returned (.tuple #[]) ∧ ∃ T', ParserAt w' T' R b text (endItemP text.data.toList p kind e) ∧ PStep w T w' T' := by
  obtain ⟨i0, hi, hz0, hz1, hz2⟩ := info_parts infoItem
  obtain ⟨a6, c6, e6, _⟩ := own_slice h.r6
  have hl := h.lt
  have HF := Lib.hid (fun w' v3' hc hr hk ho => ParserV.item (p' := endItemP text.data.toList p kind e) h hR (w' := w') v3' ⟨kind, (text.data.toList.take e).drop p.at_, p.fields⟩ hc hr hk ho rfl rfl rfl rfl)
  have HC := Lib.hid h.cells
  have HO := Lib.hid h.r3
  have HE := Lib.hid (rowBlock_ne (w := w) h.tp h.t3 (by decide))
  have HT := Lib.hid (cut_text text p.at_ e)
  have q3 : w.cell? ⟨b, 3, none⟩ = some V.v3 := h.cells.cell 3
  have q2 : w.cell? ⟨b, 2, none⟩ = some (.string text) := h.cells.cell 2
  have q5 : w.cell? ⟨b, 5, none⟩ = some (.int .i64 p.at_) := h.cells.cell 5
  have q6 : w.cell? ⟨b, 6, none⟩ = some (.slice a6 p.fields.length c6) := by rw [← e6]; exact h.cells.cell 6
  clear h
  go_enter Tryz.func159, Tryz.ntmps159
  go_wp2
  go_cut [] (fun wx => ∃ g' cap', Cells wx b 197 (pCells p text V.v1 (.slice (some ⟨g', 0, none⟩) (p.items.length + 1) cap') V.v6) ∧
    wx.ownsRow 0 89 3 (.slice (some ⟨g', 0, none⟩) (p.items.length + 1) cap') (p.items.length + 1) (itemsCells p.items V.fvs ++ [.int .i64 kind, .string (text.extract p.at_ e), .slice a6 p.fields.length c6]) ∧
    sameOr w.heap.size wx.heap.size V.v3.ownBlock (Value.slice (some ⟨g', 0, none⟩) (p.items.length + 1) cap').ownBlock ∧ g' ≠ b ∧ Only (fun r => r = b ∨ some r = V.v3.ownBlock) w wx)
  case first =>
    go_region_law ((refine step_append_own rfl (.tmp 10) (.tmp 27) 137 rfl 89 i0 _ 3 48 Tryz.underlying137 hi hz0 hz1 hz2 rfl (by decide) V.v3 p.items.length (itemsCells p.items V.fvs) (by simp [Act.eval]) (by exact (HO.out.alloc _).drew) ⟨w.heap.size, 0, none⟩ 1 1 [.int .i64 kind, .string (text.extract p.at_ e), .slice a6 p.fields.length c6] (by simp [Act.eval]) rfl (cells_new_add w 89 [.int .i64 kind, .string (text.extract p.at_ e), .slice a6 p.fields.length c6]) (by intro u hu; simp at hu; rcases hu with rfl | rfl | rfl <;> rfl) (by unfold maxLen; omega) (by omega) ?_); intro v' w' ho hgr hbk; obtain ⟨⟨g', cap', rfl⟩, hg', hbx, hk, hon⟩ := appended HC.out HO.out HE.out (((Below.refl _ w).alloc (Nat.le_refl _) _).drew) ho hgr hbk; have k3' : w'.cell? ⟨b, 3, none⟩ = some V.v3 := hg'.cell 3; have kf3' := hg'.frozen 3)
    all_goals
      go_wp2
      go_meet
      have hvg : g' ≠ b := by
        intro e
        rcases hk with h | ⟨k, h, h2, _⟩
        · exact HE.out (h.symm.trans (by rw [e]; rfl))
        · have hh : g' = k := Option.some.inj (show some g' = some k from h)
          omega
      refine ⟨g', cap', ?_, row_cell (p := ⟨b, 3, none⟩) ho (fun e => hvg (by cases e; rfl)) _, ?_, hvg, (hon.mono (fun r _ h => .inr h)).setCell (p := ⟨b, 3, none⟩) (.inl (.inl rfl)) _⟩
      · simpa [pCells] using hg'.set 3 (.slice (some ⟨g', 0, none⟩) (p.items.length + 1) cap')
      · unfold sameOr; simpa [World.setCell] using hk
  case rest =>
    obtain ⟨g', cap', hc, hr, hk, hvg, ho⟩ := hcut
    have k5 : wc.cell? ⟨b, 5, none⟩ = some (.int .i64 p.at_) := hc.cell 5
    have kf5 := hc.frozen 5
    have k6 : wc.cell? ⟨b, 6, none⟩ = some (.slice a6 p.fields.length c6) := by rw [← e6]; exact hc.cell 6
    have kf6 := hc.frozen 6
    go_wp2
    go_end0
    refine ⟨rfl, Exists.elim (HF.out _ (.slice (some ⟨g', 0, none⟩) (p.items.length + 1) cap') ?k1 ?k2 ?k3 ?k4) fun T' g => ⟨T', ⟨_, g.1⟩, g.2⟩⟩
    case k1 =>
      have := (hc.set 5 (.int .i64 e)).set 6 (.slice none 0 0)
      simpa [pCells, endItemP] using this
    case k2 =>
      have e9 : itemCells ⟨kind, (text.data.toList.take e).drop p.at_, p.fields⟩ V.v6 = [.int .i64 kind, .string (text.extract p.at_ e), .slice a6 p.fields.length c6] := by
        unfold itemCells; rw [HT.out, e6]
      rw [e9]
      exact row_cell (p := ⟨b, 6, none⟩) (row_cell (p := ⟨b, 5, none⟩) hr (fun e => hvg (by cases e; rfl)) _) (fun e => hvg (by cases e; rfl)) _
    case k3 => unfold sameOr at hk ⊢; simpa [World.setCell] using hk
    case k4 => exact (ho.setCell (p := ⟨b, 5, none⟩) (.inl (.inl rfl)) _).setCell (p := ⟨b, 6, none⟩) (.inl (.inl rfl)) _
end Go.Proofs.YtgaooalckjjplaaGreatDoor

namespace Go.Proofs.YtgaooalckjjplaaGreatDoor
open Go.RowKit

set_option maxRecDepth 100000 in
set_option maxHeartbeats 4000000 in
theorem endBlock_any {w : World} {T : Nat → Nat} {R b : Nat} {text : ByteArray} {p : PS} (h : ParserAt w T R b text p) (hR : R ≤ w.heap.size) (e : Nat) (h1 : p.at_ ≤ e) (h2 : e ≤ text.size) (h3 : text.size ≤ 1000000) (hn : p.items.length ≤ 1000000) (hs : p.stanzas ≤ 1000000) :
    Calls Tryz.prog 117 #[.pointer (some ⟨b, 0, none⟩), .int .i64 e] w fun e' w' => e' = .returned (.tuple #[]) ∧ ∃ T', ParserAt w' T' R b text (endBlockP text.data.toList p e) ∧ PStep w T w' T' := by
  obtain ⟨V, h⟩ := h
  obtain ⟨a6, c6, e6, _⟩ := own_slice h.r6
  have hl := h.lt
  have q5 : w.cell? ⟨b, 5, none⟩ = some (.int .i64 p.at_) := h.cells.cell 5
  have q6 : w.cell? ⟨b, 6, none⟩ = some (.slice a6 p.fields.length c6) := by rw [← e6]; exact h.cells.cell 6
  unfold endBlockP
  by_cases he : p.at_ = e
  · rw [if_pos he]
    have g : ParserAt w T R b text p := ⟨V, h⟩
    have x1 : ((p.at_ : Int) == (e : Int)) = true := by rw [he]; simp
    clear h
    go_enter Tryz.func117, Tryz.ntmps117
    go_wp2
    refine bodyPost_ret (results_none rfl _ _ _) rfl ?_
    exact ⟨rfl, T, g, PStep.refl _ _⟩
  · rw [if_neg he]
    have x1 : ((p.at_ : Int) == (e : Int)) = false := beq_eq_false_iff_ne.2 (by omega)
    by_cases hf : p.fields.length = 0
    · rw [if_pos hf]
      have x2 : ((p.fields.length : Int) == 0) = true := by rw [hf]; rfl
      have EI := Lib.hid (endItem_any h hR 2 e h1 h2 h3 hn)
      clear h
      go_enter Tryz.func117, Tryz.ntmps117
      go_wp2_with fail
      refine EI.out.mono ?_
      rintro e' w1 ⟨rfl, T1, g1, s1⟩
      go_wp2
      go_end0
      exact ⟨rfl, T1, g1, s1⟩
    · rw [if_neg hf]
      have x2 : ((p.fields.length : Int) == 0) = false := beq_eq_false_iff_ne.2 (by omega)
      have EI := Lib.hid (endItem_any h hR 3 e h1 h2 h3 hn)
      clear h
      go_enter Tryz.func117, Tryz.ntmps117
      go_wp2_with fail
      refine EI.out.mono ?_
      rintro e' w1 ⟨rfl, T1, ⟨V1, g1⟩, s1⟩
      have hl1 := g1.lt
      have k4 : w1.cell? ⟨b, 4, none⟩ = some (.int .i64 p.stanzas) := g1.cells.cell 4
      have kf4 := g1.cells.frozen 4
      have n1 : IntKind.i64.wrap ((p.stanzas : Int) + 1) = (p.stanzas : Int) + 1 := IntWalk.i64_in _ (by omega)
      go_wp2
      go_end0
      refine ⟨rfl, T1, ⟨V1, ?_⟩, s1.trans ⟨((Only.refl _ _).setCell (p := ⟨b, 4, none⟩) (.inl (by rw [g1.tp]; decide)) _), fun _ _ => Iff.rfl⟩⟩
      have hc : Cells (w1.setCell ⟨b, 4, none⟩ (.int .i64 ((p.stanzas : Int) + 1))) b 197 (pCells { endItemP text.data.toList p 3 e with stanzas := p.stanzas + 1 } text V1.v1 V1.v3 V1.v6) := by
        have := g1.cells.set 4 (.int .i64 ((p.stanzas : Int) + 1))
        simpa [pCells] using this
      have ne : ∀ {o : Option Nat} {t : Nat}, tagged T1 o t → t ≠ 1 → o ≠ some b := fun ht h1 e => h1 (by rw [← ht b e, g1.tp])
      exact ⟨hc, g1.tp, row_cell g1.r1 (ne g1.t1 (by decide)) _, g1.t1, row_cell g1.r3 (ne g1.t3 (by decide)) _, g1.t3, row_cell g1.r6 (ne g1.t6 (by decide)) _, g1.t6, g1.nf,
        fun i it v a c => ⟨row_cell (g1.rf i it v a c).1 (ne (g1.rf i it v a c).2 (by decide)) _, (g1.rf i it v a c).2⟩, fun k hk => by simpa [World.setCell] using g1.low k hk⟩
end Go.Proofs.YtgaooalckjjplaaGreatDoor

namespace Go.Proofs.YtgaooalckjjplaaGreatDoor
open Go.RowKit Go.Shelf

theorem ne_of_cons {s : ByteArray} {c : UInt8} {t : List UInt8} (h : s.data.toList = c :: t) : s.toList.isEmpty = false ∧ ¬ s.toList = [] ∧ 1 ≤ s.size := by
  rw [Lib.toList_data, h]
  exact ⟨rfl, by simp, by rw [Lib.size_eq, h]; simp⟩
theorem empty_of {s : ByteArray} (h : s.data.toList = []) : s = ⟨#[]⟩ := by
  rw [← Lib.mk_data s, h]
theorem ind_blank (c : UInt8) : decide (0 ≤ Lib.indexByte [32, 9] c) = blankB c := by
  unfold blankB
  by_cases h1 : c = 32
  · subst h1; decide
  · by_cases h2 : c = 9
    · subst h2; decide
    · have a : ((32 : UInt8) == c) = false := by simp [Ne.symm h1]
      have b : ((9 : UInt8) == c) = false := by simp [Ne.symm h2]
      simp [Lib.indexByte, a, b, h1, h2]
theorem ind_has (l : List UInt8) (c : UInt8) : decide (0 ≤ Lib.indexByte l c) = l.contains c := by
  rcases indexByte_cases l c with ⟨h1, h2⟩ | ⟨h1, h2⟩
  · rw [h1]; simp [h2]
  · rw [h1]; simp [h2]
theorem pre_hash (l : List UInt8) : Lib.hasPrefix l [35] = hashB l := by
  unfold Lib.hasPrefix hashB
  cases l with
  | nil => rfl
  | cons a t => simp [List.isPrefixOf, Bool.beq_comm]
set_option maxHeartbeats 400000 in
theorem begins_no (w : World) :
    Calls Tryz.prog 194 #[.string ⟨#[]⟩] w fun e w' => e = .returned (.bool false) ∧ w = w' := by
  go_enter Tryz.func194, Tryz.ntmps194
  go_wp2
  go_ret
  exact ⟨rfl, rfl⟩
set_option maxHeartbeats 400000 in
theorem begins_yes (s : ByteArray) (c : UInt8) (t : List UInt8) (h : s.data.toList = c :: t) (hs : s.size ≤ maxLen) (w : World) :
    Calls Tryz.prog 194 #[.string s] w fun e w' => e = .returned (.bool (blankB c)) ∧ w = w' := by
  have hz : 1 ≤ s.size := by rw [Lib.size_eq, h]; simp
  have e1 : s.extract 0 1 = ⟨#[c]⟩ := by
    have := Lib.extract_data s 0 1
    rw [h] at this
    rw [← Lib.mk_data (s.extract 0 1), this]; rfl
  obtain ⟨n1, n2, n3⟩ := ne_of_cons h
  clear h
  unfold maxLen at hs
  go_enter Tryz.func194, Tryz.ntmps194
  go_wp2_with fail
  refine (Tryz.strings_Contains_one ⟨#[32, 9]⟩ c _).mono ?_
  rw [show (⟨#[32, 9]⟩ : ByteArray).data.toList = [32, 9] from rfl, ind_blank]
  rintro e w' ⟨rfl, rfl⟩
  go_wp2
  go_ret
  exact ⟨rfl, rfl⟩
theorem begins_any (s : ByteArray) (hs : s.size ≤ maxLen) (w : World) :
    Calls Tryz.prog 194 #[.string s] w fun e w' => e = .returned (.bool (beginsB s.data.toList)) ∧ w = w' := by
  cases h : s.data.toList with
  | nil => rw [empty_of h]; exact begins_no w
  | cons c t => exact begins_yes s c t h hs w
theorem has_any (s : ByteArray) (c : UInt8) (w : World) :
    Calls Tryz.prog 193 #[.string s, .string ⟨#[c]⟩] w fun e w' => e = .returned (.bool (hasB s.data.toList c)) ∧ w = w' := by
  refine (Tryz.strings_Contains_one s c _).mono ?_
  rw [ind_has]
  rintro e w' ⟨rfl, rfl⟩
  exact ⟨rfl, rfl⟩
theorem hash_any (s : ByteArray) (w : World) :
    Calls Tryz.prog 70 #[.string s, .string ⟨#[35]⟩] w fun e w' => e = .returned (.bool (hashB s.data.toList)) ∧ w = w' := by
  refine (Tryz.strings_HasPrefix s ⟨#[35]⟩ _).mono ?_
  rw [show (⟨#[35]⟩ : ByteArray).data.toList = [35] from rfl, pre_hash]
  rintro e w' ⟨rfl, rfl⟩
  exact ⟨rfl, rfl⟩
theorem trim_any (s : ByteArray) (hs : s.size ≤ 9223372036854775807) (w : World) :
    Calls Tryz.prog 180 #[.string s, .string ⟨#[32, 9]⟩] w fun e w' => e = .returned (.string ⟨(Lib.trimS s.data.toList [32, 9]).toArray⟩) ∧ Below w.heap.size w w' :=
  Any.strings_Trim_laid Tryz.lays160 (by kernel_rfl) s ⟨#[32, 9]⟩ w hs (by decide) (ascii_of_all (by decide))

set_option maxHeartbeats 1000000 in
theorem key_any (s : ByteArray) (hs : s.size ≤ maxLen) (w : World) :
    Calls Tryz.prog 178 #[.string s] w fun e w' => e = .returned (.bool (goodKey s.data.toList)) ∧ w = w' := by
  cases h : s.data.toList with
  | nil =>
    rw [empty_of h]
    go_enter Tryz.func178, Tryz.ntmps178
    go_wp2
    go_ret
    exact ⟨rfl, rfl⟩
  | cons c t =>
    rw [← h]
    obtain ⟨n1, n2, n3⟩ := ne_of_cons h
    clear h
    have n4 : 1 ≤ s.data.toList.length := by rw [← Lib.size_eq]; exact n3
    have n5 := Lib.size_eq s
    have g1 := begins_any s hs
    unfold maxLen at hs
    by_cases h1 : s.size ≤ 32
    · rw [n5] at h1
      have e1 : goodKey s.data.toList = (!beginsB s.data.toList && !hashB s.data.toList && !hasB s.data.toList 58 && !hasB s.data.toList 10) := by
        unfold goodKey; rw [decide_eq_true n4, decide_eq_true h1]; simp
      rw [e1]
      rw [← n5] at h1
      clear n5 n4 e1
      cases h2 : beginsB s.data.toList with
      | true =>
        go_enter Tryz.func178, Tryz.ntmps178
        go_wp2_with (go_at_call 194; refine (g1 _).mono ?_; rw [h2]; rintro e w1 ⟨rfl, rfl⟩)
        go_ret
        exact ⟨rfl, rfl⟩
      | false =>
        cases h3 : hashB s.data.toList with
        | true =>
          go_enter Tryz.func178, Tryz.ntmps178
          go_wp2_with (first | (go_at_call 194; refine (g1 _).mono ?_; rw [h2]; rintro e w1 ⟨rfl, rfl⟩) | (go_at_call 70; refine (hash_any _ _).mono ?_; rw [h3]; rintro e w1 ⟨rfl, rfl⟩))
          go_ret
          exact ⟨rfl, rfl⟩
        | false =>
          cases h4 : hasB s.data.toList 58 with
          | true =>
            go_enter Tryz.func178, Tryz.ntmps178
            go_wp2_with (first | (go_at_call 194; refine (g1 _).mono ?_; rw [h2]; rintro e w1 ⟨rfl, rfl⟩) | (go_at_call 70; refine (hash_any _ _).mono ?_; rw [h3]; rintro e w1 ⟨rfl, rfl⟩) | (go_at_call 193; refine (has_any _ _ _).mono ?_; rw [h4]; rintro e w1 ⟨rfl, rfl⟩))
            go_ret
            exact ⟨rfl, rfl⟩
          | false =>
            cases h5 : hasB s.data.toList 10
            all_goals
              go_enter Tryz.func178, Tryz.ntmps178
              go_wp2_with (first | (go_at_call 194; refine (g1 _).mono ?_; rw [h2]; rintro e w1 ⟨rfl, rfl⟩) | (go_at_call 70; refine (hash_any _ _).mono ?_; rw [h3]; rintro e w1 ⟨rfl, rfl⟩) | (go_at_call 193; refine (has_any _ _ _).mono ?_; (first | rw [h4] | rw [h5]); rintro e w1 ⟨rfl, rfl⟩))
              go_ret
              exact ⟨rfl, rfl⟩
    · have e1 : goodKey s.data.toList = false := by
        unfold goodKey; rw [← n5, decide_eq_false h1]; simp
      rw [e1]
      have h1' : 32 < s.size := by omega
      clear n5 n4 e1
      go_enter Tryz.func178, Tryz.ntmps178
      go_wp2
      go_ret
      exact ⟨rfl, rfl⟩
end Go.Proofs.YtgaooalckjjplaaGreatDoor

