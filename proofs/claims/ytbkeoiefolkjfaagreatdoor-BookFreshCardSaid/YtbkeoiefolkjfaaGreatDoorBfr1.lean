/- Texts put together: MA, PZ, QI, QJ. -/
import Derived.Lib.CutLaws
import Derived.Lib.Strings
import Derived.Test.YtbkeoiefolkjfaaGreatDoorBbk1
import Derived.Test.YtbkeoiefolkjfaaGreatDoorBbk2
import Derived.Test.YtbkeoiefolkjfaaGreatDoorBbk3
import Derived.Test.YtbkeoiefolkjfaaGreatDoorBbk5
import Derived.Test.YtbkeoiefolkjfaaGreatDoorBbk7
import Derived.Test.YtbkeoiefolkjfaaGreatDoorBbk9
import Derived.Test.YtbkeoiefolkjfaaGreatDoorBbk10
import Derived.Test.YtbkeoiefolkjfaaGreatDoorBbk11
import Derived.Test.YtbkeoiefolkjfaaGreatDoorBbk12
import Derived.Test.YtbkeoiefolkjfaaGreatDoorBbk13
import Derived.Test.YtbkeoiefolkjfaaGreatDoorBbk14
import Derived.Test.YtbkeoiefolkjfaaGreatDoorBbk15
set_option linter.unusedVariables false
set_option maxRecDepth 100000
set_option maxHeartbeats 16000000
namespace Go.Proofs.YtbkeoiefolkjfaaGreatDoor.Hd
open Go.Lib
theorem gen_put (g : Nat) (h1 : 1 <= g) (h2 : g <= 2147483648) (t : List UInt8) : GenIs (headL g ++ t) g := .inl ⟨h1, h2, t, rfl⟩
end Go.Proofs.YtbkeoiefolkjfaaGreatDoor.Hd
namespace Go.Proofs.YtbkeoiefolkjfaaGreatDoor
open Go.RowKit Go.Shelf Go.Maps Go.ChangeShapes Go.Joins Go.WideShapes
theorem its_of_own {w : World} {base : Nat} {v : Value} {its : List It} {fvs : List Value} (h : w.ownsRow base 117 3 v its.length (itemsCells its fvs)) (hl : fvs.length = its.length) (he : ∀ (j : Nat) it x, its[j]? = some it -> fvs[j]? = some x -> Flds w x it.fields) : Its w v its := by
  rcases Joins.ownsRow_forms h with ⟨e, hn⟩ | ⟨g, cap, e⟩
  . have : its = [] := List.length_eq_zero_iff.1 hn
    rw [e, this]
    exact ⟨none, 0, rfl, Nat.le_refl _, fun i it hi => by simp at hi⟩
  refine ⟨some ⟨g, 0, none⟩, cap, e, (by rcases h.2 with ⟨q, _⟩ | ⟨g', cap', cur, q, _, _, q2, _⟩; · rw [e] at q; cases q
                                         rw [e] at q; cases q; exact q2), fun i it hi => ?_⟩
  have hlt : i < its.length := by
    rcases Nat.lt_or_ge i its.length with q | q
    . exact q
    rw [List.getElem?_eq_none q] at hi; cases hi
  obtain ⟨fv, hfv⟩ : ∃ fv, fvs[i]? = some fv := ⟨_, List.getElem?_eq_getElem (by rw [hl]; exact hlt)⟩
  obtain ⟨a0, a1, a2⟩ := itemsCells_at _ _ i it fv hi hfv
  rw [e] at h
  refine ⟨g, 0, fv, rfl, (World.ownsRow.lt h g rfl).2, ?_, ?_, ?_, he i it fv hi hfv⟩
  . rw [Nat.zero_add, World.ownsRow.cellAt h (i * 3) (by omega)]; exact a0
  . rw [Nat.zero_add, World.ownsRow.cellAt h (i * 3 + 1) (by omega)]; exact a1
  rw [Nat.zero_add, World.ownsRow.cellAt h (i * 3 + 1 + 1) (by omega)]; exact a2
structure AccM (w wr : World) (v : Value) (fvs : List Value) (its : List It) : Prop where
  row : wr.ownsRow w.heap.size 117 3 v its.length (itemsCells its fvs)
  len : fvs.length = its.length
  each : ∀ (j : Nat) it x, its[j]? = some it -> fvs[j]? = some x -> wr.ownsRow w.heap.size 83 2 x it.fields.length (cellsF it.fields)
  below : Below w.heap.size w wr
theorem AccM.its {w wr : World} {v : Value} {fvs : List Value} {its : List It} (h : AccM w wr v fvs its) : Its wr v its :=
  its_of_own h.row h.len fun j it x h1 h2 => flds_of_own (h.each j it x h1 h2)
theorem AccM.kept {w wr w2 : World} {v : Value} {fvs : List Value} {its : List It} (h : AccM w wr v fvs its) (hb : Below wr.heap.size wr w2) : AccM w w2 v fvs its :=
  ⟨own_kept h.row hb (Nat.le_refl _), h.len, fun j it x h1 h2 => own_kept (h.each j it x h1 h2) hb (Nat.le_refl _), h.below.trans (hb.mono h.below.size)⟩
theorem row42 {W w3 : World} {lo : Nat} {v x : Value} {n m : Nat} {xs ys : List Value} (hv : W.ownsRow lo 117 3 v n xs) (hx : W.ownsRow lo 83 2 x m ys) (hg : W.grownBy w3 v.ownBlock) : w3.ownsRow lo 83 2 x m ys := by
  refine row_same hx fun b hb => hg.block b (hx.lt b hb).2 (fun e => ?_)
  rcases hx.2 with ⟨rfl, _⟩ | ⟨g, cap, cur, rfl, _, hc, _⟩
  . cases hb
  cases hb
  rcases hv.2 with ⟨rfl, _⟩ | ⟨g', cap', cur', rfl, _, hc', _⟩
  . cases e
  have : g = g' := Option.some.inj e
  subst this
  rw [hc] at hc'
  injection hc' with hc'
  injection hc' with _ h2 _
  exact absurd h2 (by decide)
theorem AccM.snoc {w W w3 : World} {v v' x : Value} {fvs : List Value} {its : List It} {it : It} (h : AccM w W v fvs its) (hx : W.ownsRow w.heap.size 83 2 x it.fields.length (cellsF it.fields)) (ho : w3.ownsRow w.heap.size 117 3 v' (its.length + 1) (itemsCells its fvs ++ [.int .i64 it.kind, .string (B it.raw), x])) (o : Obj) (hg : (W.alloc o).grownBy w3 v.ownBlock) : AccM w w3 v' (fvs ++ [x]) (its ++ [it]) := by
  have h' := h.kept ((Below.refl W.heap.size W).alloc (Nat.le_refl _) o)
  have hx' := own_kept hx ((Below.refl W.heap.size W).alloc (Nat.le_refl _) o) (Nat.le_refl _)
  refine ⟨by rw [List.length_append, itemsCells_snoc _ _ _ _ h.len]; exact ho, by simp [h.len], fun j y s hy hs => ?_, h'.below.grown hg h'.below.size (fun k e => (h.row.lt k e).1)⟩
  rcases snoc_at hy with ⟨q, hy⟩ | ⟨q, rfl⟩
  . rw [List.getElem?_append_left (by rw [h.len]; exact q)] at hs
    exact row42 h'.row (h'.each j y s hy hs) hg
  rw [q, <- h.len, List.getElem?_append_right (Nat.le_refl _)] at hs
  simp at hs
  subst hs; exact row42 h'.row hx' hg
end Go.Proofs.YtbkeoiefolkjfaaGreatDoor
namespace Go.Proofs.YtbkeoiefolkjfaaGreatDoor
open Go.RowKit Go.Shelf
def ops29 : Array Oper := #[{ dst := some 106, op := Op.buildSlice 38 0 #[], type := 38, pos := "ref.go:71", after := #[], guard := none }, { dst := some 107, op := Op.fieldAddr 117 (Operand.tmp 9) 2, type := 0, pos := "ref.go:71", after := #[], guard := none }, { dst := some 108, op := Op.load 38 (Operand.tmp 107), type := 38, pos := "ref.go:71", after := #[{ on := 1, ground := Ground.data }], guard := none }, { dst := some 109, op := Op.call { callee := Callee.builtin Builtin.append, args := #[Operand.tmp 106, Operand.tmp 108], argTypes := #[38, 38] }, type := 38, pos := "ref.go:71", after := #[{ on := 0, ground := Ground.data }, { on := 2, ground := Ground.data }], guard := none }, { dst := some 110, op := Op.load 83 (Operand.tmp 13), type := 83, pos := "ref.go:71", after := #[], guard := none }, { dst := some 111, op := Op.buildSlice 38 1 #[(0, Operand.tmp 110)], type := 38, pos := "ref.go:71", after := #[{ on := 4, ground := Ground.data }], guard := none }, { dst := some 112, op := Op.call { callee := Callee.builtin Builtin.append, args := #[Operand.tmp 109, Operand.tmp 111], argTypes := #[38, 38] }, type := 38, pos := "ref.go:71", after := #[{ on := 3, ground := Ground.data }, { on := 5, ground := Ground.data }, { on := 3, ground := Ground.chain }], guard := none }, { dst := some 113, op := Op.fieldAddr 117 (Operand.tmp 9) 2, type := 0, pos := "ref.go:71", after := #[{ on := 0, ground := Ground.phase }, { on := 1, ground := Ground.phase }, { on := 2, ground := Ground.phase }, { on := 3, ground := Ground.phase }, { on := 4, ground := Ground.phase }, { on := 5, ground := Ground.phase }, { on := 6, ground := Ground.phase }], guard := none }, { dst := none, op := Op.store 38 (Operand.tmp 113) (Operand.tmp 112), type := 0, pos := "ref.go:71", after := #[{ on := 7, ground := Ground.data }, { on := 6, ground := Ground.data }, { on := 6, ground := Ground.chain }, { on := 0, ground := Ground.phase }, { on := 1, ground := Ground.phase }, { on := 2, ground := Ground.phase }, { on := 3, ground := Ground.phase }, { on := 4, ground := Ground.phase }, { on := 5, ground := Ground.phase }, { on := 6, ground := Ground.phase }], guard := none }]
theorem done29 : ∀ b0 b1 b2 b3 b4 b5 b6 b7 b8 : Bool, Region.ready .any ops29 #[b0, b1, b2, b3, b4, b5, b6, b7, b8] = [] -> b8 = true := by decide +kernel
theorem ev29 {a : Act} {i : Nat} {v : Value} (h : a.tmps[i]? = some v) : a.eval (.tmp i) = v := by
  show a.tmps.getD i undef = v
  rw [Array.getD_eq_getD_getElem?, h]; rfl
theorem put29 {a : Act} {d : Nat} {v : Value} (hd : d < a.tmps.size) (j : Nat) : (a.put (some d) v).tmps[j]? = if j = d then some v else a.tmps[j]? := by
  show (a.tmps.setIfInBounds d v)[j]? = _
  rw [Array.getElem?_setIfInBounds]
  by_cases h : d = j
  . subst h; simp [hd]
  rw [if_neg h, if_neg (Ne.symm h)]
theorem size29 (a : Act) (d : Nat) (v : Value) : (a.put (some d) v).tmps.size = a.tmps.size := by show (a.tmps.setIfInBounds d v).size = _; simp
theorem go_lit0 {o : Oper} {a : Act} {w : World} {K : Act -> World -> Prop} {Q : Exit -> Act -> World -> Prop} (ho : o.op = Op.buildSlice 38 0 #[]) (hK : K (a.put o.dst (.slice (some ⟨w.heap.size, 0, none⟩) 0 0)) (w.alloc (.cells #[] 83))) : Oper.wp Tryz.prog o a w K Q := by
  unfold Oper.wp
  have e : (execOp a.eval o).run Tryz.prog w = .ok (.value (.slice (some ⟨w.heap.size, 0, none⟩) 0 0)) (w.alloc (.cells #[] 83)) := by
    simp only [execOp, ho]
    kernel_rfl
  rw [e]; exact hK
theorem go_lit1 {o : Oper} {a : Act} {w : World} {K : Act -> World -> Prop} {Q : Exit -> Act -> World -> Prop} {x : Operand} {s t : ByteArray} (ho : o.op = Op.buildSlice 38 1 #[(0, x)]) (hx : a.eval x = .agg #[.string s, .string t]) (hK : K (a.put o.dst (.slice (some ⟨w.heap.size, 0, none⟩) 1 1)) (w.alloc (.cells #[.string s, .string t] 83))) : Oper.wp Tryz.prog o a w K Q := by
  unfold Oper.wp
  have e : (execOp a.eval o).run Tryz.prog w = .ok (.value (.slice (some ⟨w.heap.size, 0, none⟩) 1 1)) (w.alloc (.cells #[.string s, .string t] 83)) := by
    simp only [execOp, ho]
    rw [show (Array.map (fun (p : Nat × Operand) => match p with | (i, x) => (i, a.eval x)) #[((0 : Nat), x)]) = #[((0 : Nat), Value.agg #[.string s, .string t])] from by rw [<- hx]; simp]
    kernel_rfl
  rw [e]; exact hK
theorem go_faddr {o : Oper} {a : Act} {w : World} {K : Act -> World -> Prop} {Q : Exit -> Act -> World -> Prop} {x : Operand} {b : Nat} (ho : o.op = Op.fieldAddr 117 x 2) (hx : a.eval x = .pointer (some ⟨b, 0, none⟩)) (hK : K (a.put o.dst (.pointer (some ⟨b, 2, none⟩))) w) : Oper.wp Tryz.prog o a w K Q := by
  unfold Oper.wp
  have e : (execOp a.eval o).run Tryz.prog w = .ok (.value (.pointer (some ⟨b, 2, none⟩))) w := by
    simp only [execOp, ho, hx]
    simp [go_sem, Result.andThen]
  rw [e]; exact hK
theorem go_load1 {o : Oper} {a : Act} {w : World} {K : Act -> World -> Prop} {Q : Exit -> Act -> World -> Prop} {x : Operand} {p : Addr} {v : Value} (ho : o.op = Op.load 38 x) (hx : a.eval x = .pointer (some p)) (hc : w.cell? p = some v) (hK : K (a.put o.dst v) w) : Oper.wp Tryz.prog o a w K Q := by
  unfold Oper.wp
  have e : (execOp a.eval o).run Tryz.prog w = .ok (.value v) w := by
    simp only [execOp, ho, hx]
    simp [go_sem, Result.andThen, hc]
  rw [e]; exact hK
theorem go_load2 {o : Oper} {a : Act} {w : World} {K : Act -> World -> Prop} {Q : Exit -> Act -> World -> Prop} {x : Operand} {b : Nat} {u v : Value} (ho : o.op = Op.load 83 x) (hx : a.eval x = .pointer (some ⟨b, 0, none⟩)) (hc : w.cell? ⟨b, 0, none⟩ = some u) (hd : w.cell? ⟨b, 1, none⟩ = some v) (hK : K (a.put o.dst (.agg #[u, v])) w) : Oper.wp Tryz.prog o a w K Q := by
  unfold Oper.wp
  have e : (execOp a.eval o).run Tryz.prog w = .ok (.value (.agg #[u, v])) w := by
    simp only [execOp, ho, hx]
    simp [go_sem, Result.andThen, hc, hd]
  rw [e]; exact hK
theorem go_store1 {o : Oper} {a : Act} {w : World} {K : Act -> World -> Prop} {Q : Exit -> Act -> World -> Prop} {x y : Operand} {p : Addr} {u : Value} {g : Option Addr} {n c : Nat} (ho : o.op = Op.store 38 x y) (hx : a.eval x = .pointer (some p)) (hy : a.eval y = .slice g n c) (hc : w.cell? p = some u) (hf : w.frozen? p = false) (hK : K (a.put o.dst undef) (w.setCell p (.slice g n c))) : Oper.wp Tryz.prog o a w K Q := by
  unfold Oper.wp
  have e : (execOp a.eval o).run Tryz.prog w = .ok .skip (w.setCell p (.slice g n c)) := by
    simp only [execOp, ho, hx, hy]
    simp [go_sem, Result.andThen, hc, hf]
  rw [e]; exact hK
end Go.Proofs.YtbkeoiefolkjfaaGreatDoor
namespace Go.Proofs.YtbkeoiefolkjfaaGreatDoor
open Go.RowKit Go.Shelf
theorem fl_set {l : Array Bool} {i : Nat} (hi : i < l.size) (j : Nat) : fl (l.setIfInBounds i true) j = if j = i then true else fl l j := by
  unfold fl
  rw [Array.getD_eq_getD_getElem?, Array.getD_eq_getD_getElem?, Array.getElem?_setIfInBounds]
  by_cases h : i = j
  . subst h; simp [hi]
  rw [if_neg h, if_neg (Ne.symm h)]
theorem wpOp29 {Q : Exit -> Act -> World -> Prop} {K : Act -> World -> Prop} {a : Act} {w : World} {i : Nat} {o : Oper} (ho : ops29[i]? = some o) (hg : o.guard = none) (h : Oper.wp Tryz.prog o a w K Q) : wpOp Tryz.prog ops29 Q i K a w := by
  unfold wpOp
  rw [ho]
  show (if Region.wanted o (yielded ops29 a.tmps) = true then _ else _)
  rw [if_pos (by simp [Region.wanted, hg])]
  exact .inl h
theorem go_append0 {o : Oper} {a : Act} {w : World} {K : Act -> World -> Prop} {Q : Exit -> Act -> World -> Prop} {s x : Operand} {p : Addr} (ho : o.op = Op.call { callee := Callee.builtin Builtin.append, args := #[s, x], argTypes := #[38, 38] }) (hs : a.eval s = .slice (some p) 0 0) (hx : a.eval x = .slice none 0 0) (hK : K (a.put o.dst (.slice (some p) 0 0)) w) : Oper.wp Tryz.prog o a w K Q := by
  have hb : ∀ ty, (Builtin.append_ #[38, 38] ty #[.slice (some p) 0 0, .slice none 0 0]).run Tryz.prog w = .ok (.slice (some p) 0 0) w := fun ty => by kernel_rfl
  unfold Oper.wp
  simp [execOp, ho, resolve, invoke, builtin, hs, hx, hb, Result.andThen]
  exact hK
theorem go_append {o : Oper} {a : Act} {w : World} {K : Act -> World -> Prop} {Q : Exit -> Act -> World -> Prop} {s x : Operand} (hg : o.guard = none) (ho : o.op = Op.call { callee := Callee.builtin Builtin.append, args := #[s, x], argTypes := #[38, 38] })
    (v : Value) (n : Nat) (xs : List Value) (hs : a.eval s = v) (hown : w.ownsRow 0 83 2 v n xs)
    (ad : Addr) (m c : Nat) (news : List Value) (hx : a.eval x = .slice (some ad) m c) (hl : news.length = m * 2) (hnews : ∀ j u, news[j]? = some u -> w.cell? (ad.add j) = some u) (h1 : ∀ u ∈ news, u.oneCell' = true)
    (hn : n + m <= 1000000)
    (hK : ∀ v' w', w'.ownsRow 0 83 2 v' (n + m) (xs ++ news) -> w.grownBy w' v.ownBlock -> (v'.ownBlock = v.ownBlock \/ v'.ownBlock = some w.heap.size) -> K (a.put o.dst v') w') : Oper.wp Tryz.prog o a w K Q := by
  obtain ⟨i0, hi, hz0, hz1, hz2⟩ := info_parts infoFld
  have h := step_append_own (P := Tryz.prog) (ops := ops29) (o := o) (a := a) (w := w) (K := K) (Q := Q) (E := True) hg s x 38 ho 83 i0 _ 2 32 Tryz.underlying38 hi hz0 hz1 hz2 rfl (by decide) v n xs hs hown ad m c news hx hl hnews h1 (by unfold maxLen; omega) (by omega) hK
  rwa [if_pos (by simp [Region.wanted, hg])] at h
theorem after29 {w : World} {lo n a b : Nat} {e : TypeId} {size : Nat} {v : Value} {xs : List Value} (ho : w.ownsRow 0 e size v n xs) (hbk : v.ownBlock = some a \/ v.ownBlock = some b) (ha : lo <= a) (hb : lo <= b) : ∃ g c, v = .slice (some ⟨g, 0, none⟩) n c /\ lo <= g /\ w.ownsRow lo e size (.slice (some ⟨g, 0, none⟩) n c) n xs := by
  rcases ho.2 with ⟨rfl, _⟩ | ⟨g, cap, cur, rfl, h0, rest⟩
  . rcases hbk with h | h <;> cases h
  have hg : lo <= g := by
    rcases hbk with h | h
    . have h2 : g = a := Option.some.inj h
      omega
    have h2 : g = b := Option.some.inj h
    omega
  exact ⟨g, cap, rfl, hg, ho.1, .inr ⟨g, cap, cur, rfl, hg, rest⟩⟩
theorem own_new29 (w : World) (e : TypeId) (size : Nat) : (w.alloc (.cells #[] e)).ownsRow 0 e size (.slice (some ⟨w.heap.size, 0, none⟩) 0 0) 0 [] :=
  ⟨by simp, .inr ⟨_, 0, #[], rfl, Nat.zero_le _, Cells.new w e #[], Nat.le_refl _, Nat.zero_le _, by simp, by simp⟩⟩
theorem alloc29 (w : World) (o : Obj) : Below w.heap.size w (w.alloc o) := (Below.refl _ _).alloc (Nat.le_refl _) o
theorem cells29 {w : World} {b : Nat} {t : TypeId} {x y : Value} (h : Cells w b t #[x, y]) : ∀ j u, [x, y][j]? = some u -> w.cell? ((⟨b, 0, none⟩ : Addr).add j) = some u := by
  intro j u hj
  have ea : (⟨b, 0, none⟩ : Addr).add j = ⟨b, j, none⟩ := by unfold Addr.add; split <;> simp_all
  rw [ea, h.cell j]; simpa using hj
structure Reg (a0 : Act) (W3 : World) (nb n : Nat) (fv : Value) (cf : List Value) (x y : ByteArray) (l : Array Bool) (a : Act) (w : World) : Prop where
  dfr : a.defers = a0.defers
  sz : a.tmps.size = a0.tmps.size
  frm : ∀ j, (j < 106 \/ 113 < j) -> a.tmps[j]? = a0.tmps[j]?
  bel : fl l 8 = false -> Below W3.heap.size W3 w
  s0 : fl l 0 = true -> ∃ B, a.tmps[106]? = some (sl B 0 0) /\ (fl l 3 = false -> W3.heap.size <= B /\ w.ownsRow 0 83 2 (sl B 0 0) 0 [] /\ (fl l 5 = true -> ∀ B5, a.tmps[111]? = some (sl B5 1 1) -> B5 ≠ B))
  s1 : fl l 1 = true -> a.tmps[107]? = some (.pointer (some ⟨nb, 2, none⟩))
  s2 : fl l 2 = true -> a.tmps[108]? = some fv
  s3 : fl l 3 = true -> fl l 0 = true /\ fl l 2 = true /\ ∃ g c, a.tmps[109]? = some (sl g n c) /\ (fl l 6 = false -> w.ownsRow W3.heap.size 83 2 (sl g n c) n cf)
  s4 : fl l 4 = true -> a.tmps[110]? = some (.agg #[.string x, .string y])
  s5 : fl l 5 = true -> fl l 4 = true /\ ∃ B5, a.tmps[111]? = some (sl B5 1 1) /\ (fl l 6 = false -> W3.heap.size <= B5 /\ Cells w B5 83 #[.string x, .string y])
  s6 : fl l 6 = true -> fl l 3 = true /\ fl l 5 = true /\ ∃ g c, a.tmps[112]? = some (sl g (n + 1) c) /\ (fl l 8 = false -> w.ownsRow W3.heap.size 83 2 (sl g (n + 1) c) (n + 1) (cf ++ [.string x, .string y]))
  s7 : fl l 7 = true -> a.tmps[113]? = some (.pointer (some ⟨nb, 2, none⟩))
  s8 : fl l 8 = true -> fl l 6 = true /\ ∃ w2 g c, Below W3.heap.size W3 w2 /\ w2.ownsRow W3.heap.size 83 2 (sl g (n + 1) c) (n + 1) (cf ++ [.string x, .string y]) /\ w = w2.setCell ⟨nb, 2, none⟩ (sl g (n + 1) c)
theorem rebase29 {w : World} {lo B : Nat} (h : w.ownsRow 0 83 2 (sl B 0 0) 0 []) (hB : lo <= B) : w.ownsRow lo 83 2 (sl B 0 0) 0 [] := by
  refine ⟨h.1, ?_⟩
  rcases h.2 with ⟨e, _⟩ | ⟨g, cap, cur, e, _, rest⟩
  . cases e
  cases e
  exact .inr ⟨B, 0, cur, rfl, hB, rest⟩
theorem tm29 {a : Act} {d : Nat} {v : Value} (hd : d < a.tmps.size) : ∀ j, (a.put (some d) v).tmps[j]? = if j = d then some v else a.tmps[j]? := put29 hd
theorem region29 (a0 : Act) (W3 : World) (nb fb n : Nat) (fv : Value) (cf : List Value) (x y : ByteArray) (Q : Exit -> Act -> World -> Prop) (k0 k1 : Value)
    (h9 : a0.tmps[9]? = some (.pointer (some ⟨nb, 0, none⟩))) (h13 : a0.tmps[13]? = some (.pointer (some ⟨fb, 0, none⟩))) (hsz : 114 <= a0.tmps.size)
    (hVB : Cells W3 nb 117 #[k0, k1, fv]) (hFB : Cells W3 fb 83 #[.string x, .string y])
    (hrow : W3.ownsRow 0 83 2 fv n cf) (h1 : ∀ u ∈ cf, u.oneCell' = true) (hn : n <= 100000)
    (hQ : ∀ a w2 g c, a.defers = a0.defers -> a.tmps.size = a0.tmps.size -> (∀ j, (j < 106 \/ 113 < j) -> a.tmps[j]? = a0.tmps[j]?) -> Below W3.heap.size W3 w2 -> w2.ownsRow W3.heap.size 83 2 (sl g (n + 1) c) (n + 1) (cf ++ [.string x, .string y]) -> Q .normal a (w2.setCell ⟨nb, 2, none⟩ (sl g (n + 1) c))) :
    (Code.region 29 ops29 true).wp Tryz.prog Q a0 W3 := by
  refine wp_region_inv (by kernel_rfl) (Reg a0 W3 nb n fv cf x y) ?start ?step ?done
  case start =>
    have z : ∀ j, fl (Array.replicate ops29.size false) j = false := by
      intro j
      unfold fl
      rw [Array.getD_eq_getD_getElem?, Array.getElem?_replicate]
      split <;> rfl
    exact ⟨rfl, rfl, fun _ _ => rfl, fun _ => (Below.refl _ _).drew, (fun h => by rw [z] at h; cases h), (fun h => by rw [z] at h; cases h), (fun h => by rw [z] at h; cases h), (fun h => by rw [z] at h; cases h), (fun h => by rw [z] at h; cases h), (fun h => by rw [z] at h; cases h), (fun h => by rw [z] at h; cases h), (fun h => by rw [z] at h; cases h), (fun h => by rw [z] at h; cases h)⟩
  case done =>
    intro l a w I hl hr
    have h8 : fl l 8 = true := by
      have hl9 : l.size = 9 := hl
      have e : l = #[l[0], l[1], l[2], l[3], l[4], l[5], l[6], l[7], l[8]] := by
        apply Array.ext
        . simp [hl9]
        intro i h1 h2
        rw [hl9] at h1
        rcases (by omega : i = 0 \/ i = 1 \/ i = 2 \/ i = 3 \/ i = 4 \/ i = 5 \/ i = 6 \/ i = 7 \/ i = 8) with rfl | rfl | rfl | rfl | rfl | rfl | rfl | rfl | rfl <;> rfl
      rw [e] at hr
      have := done29 _ _ _ _ _ _ _ _ _ hr
      unfold fl
      rw [Array.getD_eq_getD_getElem?, Array.getElem?_eq_getElem (by omega)]
      exact this
    obtain ⟨_, w2, g, c, b, o, rfl⟩ := I.s8 h8
    exact hQ a w2 g c I.dfr I.sz I.frm b o
  case step =>
  intro l i o a w I hl ho hli he
  have hl9 : l.size = 9 := hl
  have hi : i < 9 := by
    rcases Nat.lt_or_ge i 9 with h | h
    . exact h
    rw [Array.getElem?_eq_none (by exact h)] at ho; cases ho
  have hil : i < l.size := by omega
  have FL := fun j => fl_set hil j
  have TM := fun d v (hd : d < 114) => tm29 (a := a) (d := d) (v := v) (by rw [I.sz]; omega)
  have hfi : fl l i = false := by
    unfold fl
    rw [Array.getD_eq_getD_getElem?, Array.getElem?_eq_getElem hil] at hli ⊢
    exact hli
  have dep : ∀ e ∈ o.after, Region.binds .any e = true -> fl l e.on = true := he
  have ev : ∀ j v, a.tmps[j]? = some v -> a.eval (.tmp j) = v := fun j v h => ev29 h
  have e9 := ev 9 _ ((I.frm 9 (by omega)).trans h9)
  have e13 := ev 13 _ ((I.frm 13 (by omega)).trans h13)
  rcases (by omega : i = 0 \/ i = 1 \/ i = 2 \/ i = 3 \/ i = 4 \/ i = 5 \/ i = 6 \/ i = 7 \/ i = 8) with rfl | rfl | rfl | rfl | rfl | rfl | rfl | rfl | rfl
  . have ho2 : some _ = some o := ho
    obtain rfl := Option.some.inj ho2
    have n3 : fl l 3 = false := by
      cases h : fl l 3 with
      | false => rfl
      | true => exact absurd ((I.s3 h).1) (by rw [hfi]; decide)
    have n6 : fl l 6 = false := by
      cases h : fl l 6 with
      | false => rfl
      | true => exact absurd ((I.s3 (I.s6 h).1).1) (by rw [hfi]; decide)
    have n8 : fl l 8 = false := by
      cases h : fl l 8 with
      | false => rfl
      | true => exact absurd ((I.s3 (I.s6 (I.s8 h).1).1).1) (by rw [hfi]; decide)
    have bl := I.bel n8
    have al := alloc29 w (.cells #[] 83)
    refine wpOp29 ho rfl (go_lit0 rfl ?_)
    show Reg a0 W3 nb n fv cf x y (l.setIfInBounds 0 true) (a.put (some 106) (sl w.heap.size 0 0)) (w.alloc (.cells #[] 83))
    have f0 : fl (l.setIfInBounds 0 true) 0 = true := by rw [FL, if_pos rfl]
    have f1 : fl (l.setIfInBounds 0 true) 1 = fl l 1 := by rw [FL, if_neg (by decide)]
    have f2 : fl (l.setIfInBounds 0 true) 2 = fl l 2 := by rw [FL, if_neg (by decide)]
    have f3 : fl (l.setIfInBounds 0 true) 3 = fl l 3 := by rw [FL, if_neg (by decide)]
    have f4 : fl (l.setIfInBounds 0 true) 4 = fl l 4 := by rw [FL, if_neg (by decide)]
    have f5 : fl (l.setIfInBounds 0 true) 5 = fl l 5 := by rw [FL, if_neg (by decide)]
    have f6 : fl (l.setIfInBounds 0 true) 6 = fl l 6 := by rw [FL, if_neg (by decide)]
    have f7 : fl (l.setIfInBounds 0 true) 7 = fl l 7 := by rw [FL, if_neg (by decide)]
    have f8 : fl (l.setIfInBounds 0 true) 8 = fl l 8 := by rw [FL, if_neg (by decide)]
    have t106 : (a.put (some 106) (sl w.heap.size 0 0)).tmps[106]? = some (sl w.heap.size 0 0) := by rw [TM _ _ (by decide), if_pos rfl]
    have t107 : (a.put (some 106) (sl w.heap.size 0 0)).tmps[107]? = a.tmps[107]? := by rw [TM _ _ (by decide), if_neg (by decide)]
    have t108 : (a.put (some 106) (sl w.heap.size 0 0)).tmps[108]? = a.tmps[108]? := by rw [TM _ _ (by decide), if_neg (by decide)]
    have t109 : (a.put (some 106) (sl w.heap.size 0 0)).tmps[109]? = a.tmps[109]? := by rw [TM _ _ (by decide), if_neg (by decide)]
    have t110 : (a.put (some 106) (sl w.heap.size 0 0)).tmps[110]? = a.tmps[110]? := by rw [TM _ _ (by decide), if_neg (by decide)]
    have t111 : (a.put (some 106) (sl w.heap.size 0 0)).tmps[111]? = a.tmps[111]? := by rw [TM _ _ (by decide), if_neg (by decide)]
    have t112 : (a.put (some 106) (sl w.heap.size 0 0)).tmps[112]? = a.tmps[112]? := by rw [TM _ _ (by decide), if_neg (by decide)]
    have t113 : (a.put (some 106) (sl w.heap.size 0 0)).tmps[113]? = a.tmps[113]? := by rw [TM _ _ (by decide), if_neg (by decide)]
    exact ⟨I.dfr, (size29 _ _ _).trans I.sz, fun j hj => by rw [TM _ _ (by decide), if_neg (by omega)]; exact I.frm j hj, (fun _ => bl.trans (al.mono bl.size)), (fun _ => ⟨w.heap.size, t106, by rw [f3, f5, t111]; exact fun _ => ⟨bl.size, own_new29 w _ 2, fun h5 B5 hB5 => by obtain ⟨_, B6, e6, h6⟩ := I.s5 h5; rw [e6] at hB5; cases hB5; have := (h6 n6).2.lt; omega⟩⟩), (by rw [f1, t107]; exact I.s1), (by rw [f2, t108]; exact I.s2), (by rw [f3, n3]; exact fun h => by cases h), (by rw [f4, t110]; exact I.s4), (by rw [f5, f4, t111, f6]; exact fun h => (by obtain ⟨q4, B6, e6, h6⟩ := I.s5 h; exact ⟨q4, B6, e6, fun q => ⟨(h6 q).1, cells_kept (h6 q).2 al (h6 q).2.lt⟩⟩)), (by rw [f6, n6]; exact fun h => by cases h), (by rw [f7, t113]; exact I.s7), (by rw [f8, n8]; exact fun h => by cases h)⟩
  . have ho2 : some _ = some o := ho
    obtain rfl := Option.some.inj ho2
    refine wpOp29 ho rfl (go_faddr rfl e9 ?_)
    show Reg a0 W3 nb n fv cf x y (l.setIfInBounds 1 true) (a.put (some 107) (.pointer (some ⟨nb, 2, none⟩))) w
    have f0 : fl (l.setIfInBounds 1 true) 0 = fl l 0 := by rw [FL, if_neg (by decide)]
    have f1 : fl (l.setIfInBounds 1 true) 1 = true := by rw [FL, if_pos rfl]
    have f2 : fl (l.setIfInBounds 1 true) 2 = fl l 2 := by rw [FL, if_neg (by decide)]
    have f3 : fl (l.setIfInBounds 1 true) 3 = fl l 3 := by rw [FL, if_neg (by decide)]
    have f4 : fl (l.setIfInBounds 1 true) 4 = fl l 4 := by rw [FL, if_neg (by decide)]
    have f5 : fl (l.setIfInBounds 1 true) 5 = fl l 5 := by rw [FL, if_neg (by decide)]
    have f6 : fl (l.setIfInBounds 1 true) 6 = fl l 6 := by rw [FL, if_neg (by decide)]
    have f7 : fl (l.setIfInBounds 1 true) 7 = fl l 7 := by rw [FL, if_neg (by decide)]
    have f8 : fl (l.setIfInBounds 1 true) 8 = fl l 8 := by rw [FL, if_neg (by decide)]
    have t106 : (a.put (some 107) (.pointer (some ⟨nb, 2, none⟩))).tmps[106]? = a.tmps[106]? := by rw [TM _ _ (by decide), if_neg (by decide)]
    have t107 : (a.put (some 107) (.pointer (some ⟨nb, 2, none⟩))).tmps[107]? = some (.pointer (some ⟨nb, 2, none⟩)) := by rw [TM _ _ (by decide), if_pos rfl]
    have t108 : (a.put (some 107) (.pointer (some ⟨nb, 2, none⟩))).tmps[108]? = a.tmps[108]? := by rw [TM _ _ (by decide), if_neg (by decide)]
    have t109 : (a.put (some 107) (.pointer (some ⟨nb, 2, none⟩))).tmps[109]? = a.tmps[109]? := by rw [TM _ _ (by decide), if_neg (by decide)]
    have t110 : (a.put (some 107) (.pointer (some ⟨nb, 2, none⟩))).tmps[110]? = a.tmps[110]? := by rw [TM _ _ (by decide), if_neg (by decide)]
    have t111 : (a.put (some 107) (.pointer (some ⟨nb, 2, none⟩))).tmps[111]? = a.tmps[111]? := by rw [TM _ _ (by decide), if_neg (by decide)]
    have t112 : (a.put (some 107) (.pointer (some ⟨nb, 2, none⟩))).tmps[112]? = a.tmps[112]? := by rw [TM _ _ (by decide), if_neg (by decide)]
    have t113 : (a.put (some 107) (.pointer (some ⟨nb, 2, none⟩))).tmps[113]? = a.tmps[113]? := by rw [TM _ _ (by decide), if_neg (by decide)]
    exact ⟨I.dfr, (size29 _ _ _).trans I.sz, fun j hj => by rw [TM _ _ (by decide), if_neg (by omega)]; exact I.frm j hj, (by rw [f8]; exact I.bel), (by rw [f0, f3, f5, t106, t111]; exact I.s0), (fun _ => t107), (by rw [f2, t108]; exact I.s2), (by rw [f3, f0, f2, t109, f6]; exact I.s3), (by rw [f4, t110]; exact I.s4), (by rw [f5, f4, t111, f6]; exact I.s5), (by rw [f6, f3, f5, t112, f8]; exact I.s6), (by rw [f7, t113]; exact I.s7), (by rw [f8, f6]; exact I.s8)⟩
  . have ho2 : some _ = some o := ho
    obtain rfl := Option.some.inj ho2
    have d1 : fl l 1 = true := dep ⟨1, Ground.data⟩ (by simp [ops29]) rfl
    have n8 : fl l 8 = false := by
      cases h : fl l 8 with
      | false => rfl
      | true => exact absurd ((I.s3 (I.s6 (I.s8 h).1).1).2.1) (by rw [hfi]; decide)
    have bl := I.bel n8
    refine wpOp29 ho rfl (go_load1 rfl (ev 107 _ (I.s1 d1)) ((bl.cell (p := ⟨nb, 2, none⟩) hVB.lt).trans (hVB.cell 2)) ?_)
    show Reg a0 W3 nb n fv cf x y (l.setIfInBounds 2 true) (a.put (some 108) fv) w
    have f0 : fl (l.setIfInBounds 2 true) 0 = fl l 0 := by rw [FL, if_neg (by decide)]
    have f1 : fl (l.setIfInBounds 2 true) 1 = fl l 1 := by rw [FL, if_neg (by decide)]
    have f2 : fl (l.setIfInBounds 2 true) 2 = true := by rw [FL, if_pos rfl]
    have f3 : fl (l.setIfInBounds 2 true) 3 = fl l 3 := by rw [FL, if_neg (by decide)]
    have f4 : fl (l.setIfInBounds 2 true) 4 = fl l 4 := by rw [FL, if_neg (by decide)]
    have f5 : fl (l.setIfInBounds 2 true) 5 = fl l 5 := by rw [FL, if_neg (by decide)]
    have f6 : fl (l.setIfInBounds 2 true) 6 = fl l 6 := by rw [FL, if_neg (by decide)]
    have f7 : fl (l.setIfInBounds 2 true) 7 = fl l 7 := by rw [FL, if_neg (by decide)]
    have f8 : fl (l.setIfInBounds 2 true) 8 = fl l 8 := by rw [FL, if_neg (by decide)]
    have t106 : (a.put (some 108) fv).tmps[106]? = a.tmps[106]? := by rw [TM _ _ (by decide), if_neg (by decide)]
    have t107 : (a.put (some 108) fv).tmps[107]? = a.tmps[107]? := by rw [TM _ _ (by decide), if_neg (by decide)]
    have t108 : (a.put (some 108) fv).tmps[108]? = some fv := by rw [TM _ _ (by decide), if_pos rfl]
    have t109 : (a.put (some 108) fv).tmps[109]? = a.tmps[109]? := by rw [TM _ _ (by decide), if_neg (by decide)]
    have t110 : (a.put (some 108) fv).tmps[110]? = a.tmps[110]? := by rw [TM _ _ (by decide), if_neg (by decide)]
    have t111 : (a.put (some 108) fv).tmps[111]? = a.tmps[111]? := by rw [TM _ _ (by decide), if_neg (by decide)]
    have t112 : (a.put (some 108) fv).tmps[112]? = a.tmps[112]? := by rw [TM _ _ (by decide), if_neg (by decide)]
    have t113 : (a.put (some 108) fv).tmps[113]? = a.tmps[113]? := by rw [TM _ _ (by decide), if_neg (by decide)]
    exact ⟨I.dfr, (size29 _ _ _).trans I.sz, fun j hj => by rw [TM _ _ (by decide), if_neg (by omega)]; exact I.frm j hj, (by rw [f8]; exact I.bel), (by rw [f0, f3, f5, t106, t111]; exact I.s0), (by rw [f1, t107]; exact I.s1), (fun _ => t108), (by rw [f3, f0, t109, f6]; exact fun h => (by obtain ⟨q0, _, q⟩ := I.s3 h; exact ⟨q0, f2, q⟩)), (by rw [f4, t110]; exact I.s4), (by rw [f5, f4, t111, f6]; exact I.s5), (by rw [f6, f3, f5, t112, f8]; exact I.s6), (by rw [f7, t113]; exact I.s7), (by rw [f8, f6]; exact I.s8)⟩
  . have ho2 : some _ = some o := ho
    obtain rfl := Option.some.inj ho2
    have d0 : fl l 0 = true := dep ⟨0, Ground.data⟩ (by simp [ops29]) rfl
    have d2 : fl l 2 = true := dep ⟨2, Ground.data⟩ (by simp [ops29]) rfl
    have n6 : fl l 6 = false := by
      cases h : fl l 6 with
      | false => rfl
      | true => exact absurd ((I.s6 h).1) (by rw [hfi]; decide)
    have n8 : fl l 8 = false := by
      cases h : fl l 8 with
      | false => rfl
      | true => exact absurd ((I.s6 (I.s8 h).1).1) (by rw [hfi]; decide)
    have bl := I.bel n8
    obtain ⟨B, eB, hr⟩ := I.s0 d0
    obtain ⟨q1, q2, q3⟩ := hr hfi
    have e6 := ev 106 _ eB
    have e8 := ev 108 _ (I.s2 d2)
    rcases Joins.ownsRow_forms hrow with ⟨hfv, hn0⟩ | ⟨g, cap, hfv⟩
    . obtain rfl : n = 0 := hn0
      have hcf : cf = [] := List.length_eq_zero_iff.1 (by have := hrow.1; omega)
      refine wpOp29 ho rfl (go_append0 rfl e6 (by rw [e8, hfv]) ?_)
      show Reg a0 W3 nb 0 fv cf x y (l.setIfInBounds 3 true) (a.put (some 109) (sl B 0 0)) w
      have f0 : fl (l.setIfInBounds 3 true) 0 = fl l 0 := by rw [FL, if_neg (by decide)]
      have f1 : fl (l.setIfInBounds 3 true) 1 = fl l 1 := by rw [FL, if_neg (by decide)]
      have f2 : fl (l.setIfInBounds 3 true) 2 = fl l 2 := by rw [FL, if_neg (by decide)]
      have f3 : fl (l.setIfInBounds 3 true) 3 = true := by rw [FL, if_pos rfl]
      have f4 : fl (l.setIfInBounds 3 true) 4 = fl l 4 := by rw [FL, if_neg (by decide)]
      have f5 : fl (l.setIfInBounds 3 true) 5 = fl l 5 := by rw [FL, if_neg (by decide)]
      have f6 : fl (l.setIfInBounds 3 true) 6 = fl l 6 := by rw [FL, if_neg (by decide)]
      have f7 : fl (l.setIfInBounds 3 true) 7 = fl l 7 := by rw [FL, if_neg (by decide)]
      have f8 : fl (l.setIfInBounds 3 true) 8 = fl l 8 := by rw [FL, if_neg (by decide)]
      have t106 : (a.put (some 109) (sl B 0 0)).tmps[106]? = a.tmps[106]? := by rw [TM _ _ (by decide), if_neg (by decide)]
      have t107 : (a.put (some 109) (sl B 0 0)).tmps[107]? = a.tmps[107]? := by rw [TM _ _ (by decide), if_neg (by decide)]
      have t108 : (a.put (some 109) (sl B 0 0)).tmps[108]? = a.tmps[108]? := by rw [TM _ _ (by decide), if_neg (by decide)]
      have t109 : (a.put (some 109) (sl B 0 0)).tmps[109]? = some (sl B 0 0) := by rw [TM _ _ (by decide), if_pos rfl]
      have t110 : (a.put (some 109) (sl B 0 0)).tmps[110]? = a.tmps[110]? := by rw [TM _ _ (by decide), if_neg (by decide)]
      have t111 : (a.put (some 109) (sl B 0 0)).tmps[111]? = a.tmps[111]? := by rw [TM _ _ (by decide), if_neg (by decide)]
      have t112 : (a.put (some 109) (sl B 0 0)).tmps[112]? = a.tmps[112]? := by rw [TM _ _ (by decide), if_neg (by decide)]
      have t113 : (a.put (some 109) (sl B 0 0)).tmps[113]? = a.tmps[113]? := by rw [TM _ _ (by decide), if_neg (by decide)]
      exact ⟨I.dfr, (size29 _ _ _).trans I.sz, fun j hj => by rw [TM _ _ (by decide), if_neg (by omega)]; exact I.frm j hj, (by rw [f8]; exact I.bel), (by rw [f0, t106]; exact fun _ => ⟨B, eB, fun h => by rw [f3] at h; cases h⟩), (by rw [f1, t107]; exact I.s1), (by rw [f2, t108]; exact I.s2), (fun _ => ⟨by rw [f0]; exact d0, by rw [f2]; exact d2, B, 0, t109, fun _ => by rw [hcf]; exact rebase29 q2 q1⟩), (by rw [f4, t110]; exact I.s4), (by rw [f5, f4, t111, f6]; exact I.s5), (by rw [f6, n6]; exact fun h => by cases h), (by rw [f7, t113]; exact I.s7), (by rw [f8, n8]; exact fun h => by cases h)⟩
    refine wpOp29 ho rfl (go_append rfl rfl (sl B 0 0) 0 [] e6 q2 ⟨g, 0, none⟩ n cap cf (by rw [e8, hfv]) hrow.1 ?hc h1 (by omega) ?_)
    case hc =>
      intro j u hj
      have hjl : j < n * 2 := by
        rw [<- hrow.1]
        rcases Nat.lt_or_ge j cf.length with q | q
        . exact q
        rw [List.getElem?_eq_none q] at hj; cases hj
      have ea : (⟨g, 0, none⟩ : Addr).add j = ⟨g, j, none⟩ := by unfold Addr.add; split <;> simp_all
      have hr2 := hrow
      rw [hfv] at hr2
      rw [ea, bl.cell (p := ⟨g, j, none⟩) (hr2.lt g rfl).2, World.ownsRow.cellAt hr2 j hjl]; exact hj
    intro v' w' o1 gr bk
    obtain ⟨g1, c1, rfl, lo1, own1⟩ := after29 (lo := W3.heap.size) o1 bk q1 bl.size
    rw [Nat.zero_add, List.nil_append] at own1
    rw [Nat.zero_add]
    show Reg a0 W3 nb n fv cf x y (l.setIfInBounds 3 true) (a.put (some 109) (sl g1 n c1)) w'
    have f0 : fl (l.setIfInBounds 3 true) 0 = fl l 0 := by rw [FL, if_neg (by decide)]
    have f1 : fl (l.setIfInBounds 3 true) 1 = fl l 1 := by rw [FL, if_neg (by decide)]
    have f2 : fl (l.setIfInBounds 3 true) 2 = fl l 2 := by rw [FL, if_neg (by decide)]
    have f3 : fl (l.setIfInBounds 3 true) 3 = true := by rw [FL, if_pos rfl]
    have f4 : fl (l.setIfInBounds 3 true) 4 = fl l 4 := by rw [FL, if_neg (by decide)]
    have f5 : fl (l.setIfInBounds 3 true) 5 = fl l 5 := by rw [FL, if_neg (by decide)]
    have f6 : fl (l.setIfInBounds 3 true) 6 = fl l 6 := by rw [FL, if_neg (by decide)]
    have f7 : fl (l.setIfInBounds 3 true) 7 = fl l 7 := by rw [FL, if_neg (by decide)]
    have f8 : fl (l.setIfInBounds 3 true) 8 = fl l 8 := by rw [FL, if_neg (by decide)]
    have t106 : (a.put (some 109) (sl g1 n c1)).tmps[106]? = a.tmps[106]? := by rw [TM _ _ (by decide), if_neg (by decide)]
    have t107 : (a.put (some 109) (sl g1 n c1)).tmps[107]? = a.tmps[107]? := by rw [TM _ _ (by decide), if_neg (by decide)]
    have t108 : (a.put (some 109) (sl g1 n c1)).tmps[108]? = a.tmps[108]? := by rw [TM _ _ (by decide), if_neg (by decide)]
    have t109 : (a.put (some 109) (sl g1 n c1)).tmps[109]? = some (sl g1 n c1) := by rw [TM _ _ (by decide), if_pos rfl]
    have t110 : (a.put (some 109) (sl g1 n c1)).tmps[110]? = a.tmps[110]? := by rw [TM _ _ (by decide), if_neg (by decide)]
    have t111 : (a.put (some 109) (sl g1 n c1)).tmps[111]? = a.tmps[111]? := by rw [TM _ _ (by decide), if_neg (by decide)]
    have t112 : (a.put (some 109) (sl g1 n c1)).tmps[112]? = a.tmps[112]? := by rw [TM _ _ (by decide), if_neg (by decide)]
    have t113 : (a.put (some 109) (sl g1 n c1)).tmps[113]? = a.tmps[113]? := by rw [TM _ _ (by decide), if_neg (by decide)]
    exact ⟨I.dfr, (size29 _ _ _).trans I.sz, fun j hj => by rw [TM _ _ (by decide), if_neg (by omega)]; exact I.frm j hj, (fun _ => bl.grown gr bl.size (fun k hk => by cases hk; exact q1)), (by rw [f0, t106]; exact fun _ => ⟨B, eB, fun h => by rw [f3] at h; cases h⟩), (by rw [f1, t107]; exact I.s1), (by rw [f2, t108]; exact I.s2), (fun _ => ⟨by rw [f0]; exact d0, by rw [f2]; exact d2, g1, c1, t109, fun _ => own1⟩), (by rw [f4, t110]; exact I.s4), (by rw [f5, f4, t111, f6]; exact fun h => (by obtain ⟨q4, B6, e7, h6⟩ := I.s5 h; exact ⟨q4, B6, e7, fun q => ⟨(h6 q).1, Cells.grown (h6 q).2 gr (fun e => q3 h B6 e7 (Option.some.inj e))⟩⟩)), (by rw [f6, n6]; exact fun h => by cases h), (by rw [f7, t113]; exact I.s7), (by rw [f8, n8]; exact fun h => by cases h)⟩
  . have ho2 : some _ = some o := ho
    obtain rfl := Option.some.inj ho2
    have n8 : fl l 8 = false := by
      cases h : fl l 8 with
      | false => rfl
      | true => exact absurd ((I.s5 (I.s6 (I.s8 h).1).2.1).1) (by rw [hfi]; decide)
    have bl := I.bel n8
    refine wpOp29 ho rfl (go_load2 rfl e13 ((bl.cell (p := ⟨fb, 0, none⟩) hFB.lt).trans (hFB.cell 0)) ((bl.cell (p := ⟨fb, 1, none⟩) hFB.lt).trans (hFB.cell 1)) ?_)
    show Reg a0 W3 nb n fv cf x y (l.setIfInBounds 4 true) (a.put (some 110) (.agg #[.string x, .string y])) w
    have f0 : fl (l.setIfInBounds 4 true) 0 = fl l 0 := by rw [FL, if_neg (by decide)]
    have f1 : fl (l.setIfInBounds 4 true) 1 = fl l 1 := by rw [FL, if_neg (by decide)]
    have f2 : fl (l.setIfInBounds 4 true) 2 = fl l 2 := by rw [FL, if_neg (by decide)]
    have f3 : fl (l.setIfInBounds 4 true) 3 = fl l 3 := by rw [FL, if_neg (by decide)]
    have f4 : fl (l.setIfInBounds 4 true) 4 = true := by rw [FL, if_pos rfl]
    have f5 : fl (l.setIfInBounds 4 true) 5 = fl l 5 := by rw [FL, if_neg (by decide)]
    have f6 : fl (l.setIfInBounds 4 true) 6 = fl l 6 := by rw [FL, if_neg (by decide)]
    have f7 : fl (l.setIfInBounds 4 true) 7 = fl l 7 := by rw [FL, if_neg (by decide)]
    have f8 : fl (l.setIfInBounds 4 true) 8 = fl l 8 := by rw [FL, if_neg (by decide)]
    have t106 : (a.put (some 110) (.agg #[.string x, .string y])).tmps[106]? = a.tmps[106]? := by rw [TM _ _ (by decide), if_neg (by decide)]
    have t107 : (a.put (some 110) (.agg #[.string x, .string y])).tmps[107]? = a.tmps[107]? := by rw [TM _ _ (by decide), if_neg (by decide)]
    have t108 : (a.put (some 110) (.agg #[.string x, .string y])).tmps[108]? = a.tmps[108]? := by rw [TM _ _ (by decide), if_neg (by decide)]
    have t109 : (a.put (some 110) (.agg #[.string x, .string y])).tmps[109]? = a.tmps[109]? := by rw [TM _ _ (by decide), if_neg (by decide)]
    have t110 : (a.put (some 110) (.agg #[.string x, .string y])).tmps[110]? = some (.agg #[.string x, .string y]) := by rw [TM _ _ (by decide), if_pos rfl]
    have t111 : (a.put (some 110) (.agg #[.string x, .string y])).tmps[111]? = a.tmps[111]? := by rw [TM _ _ (by decide), if_neg (by decide)]
    have t112 : (a.put (some 110) (.agg #[.string x, .string y])).tmps[112]? = a.tmps[112]? := by rw [TM _ _ (by decide), if_neg (by decide)]
    have t113 : (a.put (some 110) (.agg #[.string x, .string y])).tmps[113]? = a.tmps[113]? := by rw [TM _ _ (by decide), if_neg (by decide)]
    exact ⟨I.dfr, (size29 _ _ _).trans I.sz, fun j hj => by rw [TM _ _ (by decide), if_neg (by omega)]; exact I.frm j hj, (by rw [f8]; exact I.bel), (by rw [f0, f3, f5, t106, t111]; exact I.s0), (by rw [f1, t107]; exact I.s1), (by rw [f2, t108]; exact I.s2), (by rw [f3, f0, f2, t109, f6]; exact I.s3), (fun _ => t110), (by rw [f5, t111, f6]; exact fun h => (by obtain ⟨_, q⟩ := I.s5 h; exact ⟨f4, q⟩)), (by rw [f6, f3, f5, t112, f8]; exact I.s6), (by rw [f7, t113]; exact I.s7), (by rw [f8, f6]; exact I.s8)⟩
  . have ho2 : some _ = some o := ho
    obtain rfl := Option.some.inj ho2
    have d4 : fl l 4 = true := dep ⟨4, Ground.data⟩ (by simp [ops29]) rfl
    have n6 : fl l 6 = false := by
      cases h : fl l 6 with
      | false => rfl
      | true => exact absurd ((I.s6 h).2.1) (by rw [hfi]; decide)
    have n8 : fl l 8 = false := by
      cases h : fl l 8 with
      | false => rfl
      | true => exact absurd ((I.s6 (I.s8 h).1).2.1) (by rw [hfi]; decide)
    have bl := I.bel n8
    have al := alloc29 w (.cells #[.string x, .string y] 83)
    refine wpOp29 ho rfl (go_lit1 rfl (ev 110 _ (I.s4 d4)) ?_)
    show Reg a0 W3 nb n fv cf x y (l.setIfInBounds 5 true) (a.put (some 111) (sl w.heap.size 1 1)) (w.alloc (.cells #[.string x, .string y] 83))
    have f0 : fl (l.setIfInBounds 5 true) 0 = fl l 0 := by rw [FL, if_neg (by decide)]
    have f1 : fl (l.setIfInBounds 5 true) 1 = fl l 1 := by rw [FL, if_neg (by decide)]
    have f2 : fl (l.setIfInBounds 5 true) 2 = fl l 2 := by rw [FL, if_neg (by decide)]
    have f3 : fl (l.setIfInBounds 5 true) 3 = fl l 3 := by rw [FL, if_neg (by decide)]
    have f4 : fl (l.setIfInBounds 5 true) 4 = fl l 4 := by rw [FL, if_neg (by decide)]
    have f5 : fl (l.setIfInBounds 5 true) 5 = true := by rw [FL, if_pos rfl]
    have f6 : fl (l.setIfInBounds 5 true) 6 = fl l 6 := by rw [FL, if_neg (by decide)]
    have f7 : fl (l.setIfInBounds 5 true) 7 = fl l 7 := by rw [FL, if_neg (by decide)]
    have f8 : fl (l.setIfInBounds 5 true) 8 = fl l 8 := by rw [FL, if_neg (by decide)]
    have t106 : (a.put (some 111) (sl w.heap.size 1 1)).tmps[106]? = a.tmps[106]? := by rw [TM _ _ (by decide), if_neg (by decide)]
    have t107 : (a.put (some 111) (sl w.heap.size 1 1)).tmps[107]? = a.tmps[107]? := by rw [TM _ _ (by decide), if_neg (by decide)]
    have t108 : (a.put (some 111) (sl w.heap.size 1 1)).tmps[108]? = a.tmps[108]? := by rw [TM _ _ (by decide), if_neg (by decide)]
    have t109 : (a.put (some 111) (sl w.heap.size 1 1)).tmps[109]? = a.tmps[109]? := by rw [TM _ _ (by decide), if_neg (by decide)]
    have t110 : (a.put (some 111) (sl w.heap.size 1 1)).tmps[110]? = a.tmps[110]? := by rw [TM _ _ (by decide), if_neg (by decide)]
    have t111 : (a.put (some 111) (sl w.heap.size 1 1)).tmps[111]? = some (sl w.heap.size 1 1) := by rw [TM _ _ (by decide), if_pos rfl]
    have t112 : (a.put (some 111) (sl w.heap.size 1 1)).tmps[112]? = a.tmps[112]? := by rw [TM _ _ (by decide), if_neg (by decide)]
    have t113 : (a.put (some 111) (sl w.heap.size 1 1)).tmps[113]? = a.tmps[113]? := by rw [TM _ _ (by decide), if_neg (by decide)]
    exact ⟨I.dfr, (size29 _ _ _).trans I.sz, fun j hj => by rw [TM _ _ (by decide), if_neg (by omega)]; exact I.frm j hj, (fun _ => bl.trans (al.mono bl.size)), (by rw [f0, f3, t106, t111]; exact fun h => (by obtain ⟨B, e, hr⟩ := I.s0 h; exact ⟨B, e, fun h3 => (by obtain ⟨q1, q2, q3⟩ := hr h3; exact ⟨q1, own_kept q2 al (Nat.le_refl _), fun _ B5 hB5 => by cases hB5; have := (q2.lt B rfl).2; omega⟩)⟩)), (by rw [f1, t107]; exact I.s1), (by rw [f2, t108]; exact I.s2), (by rw [f3, f0, f2, t109, f6]; exact fun h => (by obtain ⟨q0, q2, g, c, e, hr⟩ := I.s3 h; exact ⟨q0, q2, g, c, e, fun h6 => own_kept (hr h6) al (Nat.le_refl _)⟩)), (by rw [f4, t110]; exact I.s4), (fun _ => ⟨by rw [f4]; exact d4, w.heap.size, t111, fun _ => ⟨bl.size, Cells.new _ _ _⟩⟩), (by rw [f6, n6]; exact fun h => by cases h), (by rw [f7, t113]; exact I.s7), (by rw [f8, n8]; exact fun h => by cases h)⟩
  . have ho2 : some _ = some o := ho
    obtain rfl := Option.some.inj ho2
    have d3 : fl l 3 = true := dep ⟨3, Ground.data⟩ (by simp [ops29]) rfl
    have d5 : fl l 5 = true := dep ⟨5, Ground.data⟩ (by simp [ops29]) rfl
    have n8 : fl l 8 = false := by
      cases h : fl l 8 with
      | false => rfl
      | true => exact absurd ((I.s8 h).1) (by rw [hfi]; decide)
    have bl := I.bel n8
    obtain ⟨d0, d2, g1, c1, e1, ho1⟩ := I.s3 d3
    have own1 := ho1 hfi
    obtain ⟨d4, B5, e5, h5⟩ := I.s5 d5
    obtain ⟨l5, cB5⟩ := h5 hfi
    refine wpOp29 ho rfl (go_append rfl rfl (sl g1 n c1) n cf (ev 109 _ e1) (rowBase own1 (Nat.zero_le _)) ⟨B5, 0, none⟩ 1 1 [.string x, .string y] (ev 111 _ e5) rfl (cells29 cB5) (by intro u hu; simp at hu; rcases hu with rfl | rfl <;> rfl) (by omega) ?_)
    intro v' w' o2 gr bk
    obtain ⟨g2, c2, rfl, lo2, own2⟩ := after29 (lo := W3.heap.size) o2 bk (own1.lt g1 rfl).1 bl.size
    show Reg a0 W3 nb n fv cf x y (l.setIfInBounds 6 true) (a.put (some 112) (sl g2 (n + 1) c2)) w'
    have f0 : fl (l.setIfInBounds 6 true) 0 = fl l 0 := by rw [FL, if_neg (by decide)]
    have f1 : fl (l.setIfInBounds 6 true) 1 = fl l 1 := by rw [FL, if_neg (by decide)]
    have f2 : fl (l.setIfInBounds 6 true) 2 = fl l 2 := by rw [FL, if_neg (by decide)]
    have f3 : fl (l.setIfInBounds 6 true) 3 = fl l 3 := by rw [FL, if_neg (by decide)]
    have f4 : fl (l.setIfInBounds 6 true) 4 = fl l 4 := by rw [FL, if_neg (by decide)]
    have f5 : fl (l.setIfInBounds 6 true) 5 = fl l 5 := by rw [FL, if_neg (by decide)]
    have f6 : fl (l.setIfInBounds 6 true) 6 = true := by rw [FL, if_pos rfl]
    have f7 : fl (l.setIfInBounds 6 true) 7 = fl l 7 := by rw [FL, if_neg (by decide)]
    have f8 : fl (l.setIfInBounds 6 true) 8 = fl l 8 := by rw [FL, if_neg (by decide)]
    have t106 : (a.put (some 112) (sl g2 (n + 1) c2)).tmps[106]? = a.tmps[106]? := by rw [TM _ _ (by decide), if_neg (by decide)]
    have t107 : (a.put (some 112) (sl g2 (n + 1) c2)).tmps[107]? = a.tmps[107]? := by rw [TM _ _ (by decide), if_neg (by decide)]
    have t108 : (a.put (some 112) (sl g2 (n + 1) c2)).tmps[108]? = a.tmps[108]? := by rw [TM _ _ (by decide), if_neg (by decide)]
    have t109 : (a.put (some 112) (sl g2 (n + 1) c2)).tmps[109]? = a.tmps[109]? := by rw [TM _ _ (by decide), if_neg (by decide)]
    have t110 : (a.put (some 112) (sl g2 (n + 1) c2)).tmps[110]? = a.tmps[110]? := by rw [TM _ _ (by decide), if_neg (by decide)]
    have t111 : (a.put (some 112) (sl g2 (n + 1) c2)).tmps[111]? = a.tmps[111]? := by rw [TM _ _ (by decide), if_neg (by decide)]
    have t112 : (a.put (some 112) (sl g2 (n + 1) c2)).tmps[112]? = some (sl g2 (n + 1) c2) := by rw [TM _ _ (by decide), if_pos rfl]
    have t113 : (a.put (some 112) (sl g2 (n + 1) c2)).tmps[113]? = a.tmps[113]? := by rw [TM _ _ (by decide), if_neg (by decide)]
    exact ⟨I.dfr, (size29 _ _ _).trans I.sz, fun j hj => by rw [TM _ _ (by decide), if_neg (by omega)]; exact I.frm j hj, (fun _ => bl.grown gr bl.size (fun k hk => by cases hk; exact (own1.lt g1 rfl).1)), (by rw [f0, t106, f3, d3]; exact fun h => (by obtain ⟨B, e, _⟩ := I.s0 h; exact ⟨B, e, fun q => by cases q⟩)), (by rw [f1, t107]; exact I.s1), (by rw [f2, t108]; exact I.s2), (by rw [f3, f0, f2, t109]; exact fun _ => ⟨d0, d2, g1, c1, e1, fun q => by rw [f6] at q; cases q⟩), (by rw [f4, t110]; exact I.s4), (by rw [f5, f4, t111]; exact fun _ => ⟨d4, B5, e5, fun q => by rw [f6] at q; cases q⟩), (fun _ => ⟨by rw [f3]; exact d3, by rw [f5]; exact d5, g2, c2, t112, fun _ => own2⟩), (by rw [f7, t113]; exact I.s7), (by rw [f8, n8]; exact fun h => by cases h)⟩
  . have ho2 : some _ = some o := ho
    obtain rfl := Option.some.inj ho2
    refine wpOp29 ho rfl (go_faddr rfl e9 ?_)
    show Reg a0 W3 nb n fv cf x y (l.setIfInBounds 7 true) (a.put (some 113) (.pointer (some ⟨nb, 2, none⟩))) w
    have f0 : fl (l.setIfInBounds 7 true) 0 = fl l 0 := by rw [FL, if_neg (by decide)]
    have f1 : fl (l.setIfInBounds 7 true) 1 = fl l 1 := by rw [FL, if_neg (by decide)]
    have f2 : fl (l.setIfInBounds 7 true) 2 = fl l 2 := by rw [FL, if_neg (by decide)]
    have f3 : fl (l.setIfInBounds 7 true) 3 = fl l 3 := by rw [FL, if_neg (by decide)]
    have f4 : fl (l.setIfInBounds 7 true) 4 = fl l 4 := by rw [FL, if_neg (by decide)]
    have f5 : fl (l.setIfInBounds 7 true) 5 = fl l 5 := by rw [FL, if_neg (by decide)]
    have f6 : fl (l.setIfInBounds 7 true) 6 = fl l 6 := by rw [FL, if_neg (by decide)]
    have f7 : fl (l.setIfInBounds 7 true) 7 = true := by rw [FL, if_pos rfl]
    have f8 : fl (l.setIfInBounds 7 true) 8 = fl l 8 := by rw [FL, if_neg (by decide)]
    have t106 : (a.put (some 113) (.pointer (some ⟨nb, 2, none⟩))).tmps[106]? = a.tmps[106]? := by rw [TM _ _ (by decide), if_neg (by decide)]
    have t107 : (a.put (some 113) (.pointer (some ⟨nb, 2, none⟩))).tmps[107]? = a.tmps[107]? := by rw [TM _ _ (by decide), if_neg (by decide)]
    have t108 : (a.put (some 113) (.pointer (some ⟨nb, 2, none⟩))).tmps[108]? = a.tmps[108]? := by rw [TM _ _ (by decide), if_neg (by decide)]
    have t109 : (a.put (some 113) (.pointer (some ⟨nb, 2, none⟩))).tmps[109]? = a.tmps[109]? := by rw [TM _ _ (by decide), if_neg (by decide)]
    have t110 : (a.put (some 113) (.pointer (some ⟨nb, 2, none⟩))).tmps[110]? = a.tmps[110]? := by rw [TM _ _ (by decide), if_neg (by decide)]
    have t111 : (a.put (some 113) (.pointer (some ⟨nb, 2, none⟩))).tmps[111]? = a.tmps[111]? := by rw [TM _ _ (by decide), if_neg (by decide)]
    have t112 : (a.put (some 113) (.pointer (some ⟨nb, 2, none⟩))).tmps[112]? = a.tmps[112]? := by rw [TM _ _ (by decide), if_neg (by decide)]
    have t113 : (a.put (some 113) (.pointer (some ⟨nb, 2, none⟩))).tmps[113]? = some (.pointer (some ⟨nb, 2, none⟩)) := by rw [TM _ _ (by decide), if_pos rfl]
    exact ⟨I.dfr, (size29 _ _ _).trans I.sz, fun j hj => by rw [TM _ _ (by decide), if_neg (by omega)]; exact I.frm j hj, (by rw [f8]; exact I.bel), (by rw [f0, f3, f5, t106, t111]; exact I.s0), (by rw [f1, t107]; exact I.s1), (by rw [f2, t108]; exact I.s2), (by rw [f3, f0, f2, t109, f6]; exact I.s3), (by rw [f4, t110]; exact I.s4), (by rw [f5, f4, t111, f6]; exact I.s5), (by rw [f6, f3, f5, t112, f8]; exact I.s6), (fun _ => t113), (by rw [f8, f6]; exact I.s8)⟩
  have ho2 : some _ = some o := ho
  obtain rfl := Option.some.inj ho2
  have d7 : fl l 7 = true := dep ⟨7, Ground.data⟩ (by simp [ops29]) rfl
  have d6 : fl l 6 = true := dep ⟨6, Ground.data⟩ (by simp [ops29]) rfl
  have bl := I.bel hfi
  obtain ⟨d3, d5, g2, c2, e2, ho2'⟩ := I.s6 d6
  have own2 := ho2' hfi
  have hv := cells_kept hVB bl hVB.lt
  refine wpOp29 ho rfl (go_store1 rfl (ev 113 _ (I.s7 d7)) (ev 112 _ e2) (hv.cell 2) (hv.frozen 2) ?_)
  show Reg a0 W3 nb n fv cf x y (l.setIfInBounds 8 true) a (w.setCell ⟨nb, 2, none⟩ (sl g2 (n + 1) c2))
  have f0 : fl (l.setIfInBounds 8 true) 0 = fl l 0 := by rw [FL, if_neg (by decide)]
  have f1 : fl (l.setIfInBounds 8 true) 1 = fl l 1 := by rw [FL, if_neg (by decide)]
  have f2 : fl (l.setIfInBounds 8 true) 2 = fl l 2 := by rw [FL, if_neg (by decide)]
  have f3 : fl (l.setIfInBounds 8 true) 3 = fl l 3 := by rw [FL, if_neg (by decide)]
  have f4 : fl (l.setIfInBounds 8 true) 4 = fl l 4 := by rw [FL, if_neg (by decide)]
  have f5 : fl (l.setIfInBounds 8 true) 5 = fl l 5 := by rw [FL, if_neg (by decide)]
  have f6 : fl (l.setIfInBounds 8 true) 6 = fl l 6 := by rw [FL, if_neg (by decide)]
  have f7 : fl (l.setIfInBounds 8 true) 7 = fl l 7 := by rw [FL, if_neg (by decide)]
  have f8 : fl (l.setIfInBounds 8 true) 8 = true := by rw [FL, if_pos rfl]
  exact ⟨I.dfr, I.sz, I.frm, (by rw [f8]; exact fun h => by cases h), (by rw [f0, f3, d3]; exact fun h => (by obtain ⟨B, e, _⟩ := I.s0 h; exact ⟨B, e, fun q => by cases q⟩)), (by rw [f1]; exact I.s1), (by rw [f2]; exact I.s2), (by rw [f3, f0, f2, f6, d6]; exact fun h => (by obtain ⟨q0, q2, g, c, e, _⟩ := I.s3 h; exact ⟨q0, q2, g, c, e, fun q => by cases q⟩)), (by rw [f4]; exact I.s4), (by rw [f5, f4, f6, d6]; exact fun h => (by obtain ⟨q4, B6, e7, _⟩ := I.s5 h; exact ⟨q4, B6, e7, fun q => by cases q⟩)), (by rw [f6, f3, f5, f8]; exact fun _ => ⟨d3, d5, g2, c2, e2, fun q => by cases q⟩), (by rw [f7]; exact I.s7), (fun _ => ⟨by rw [f6]; exact d6, w, g2, c2, bl, own2, rfl⟩)⟩
theorem frame29 (t0 t : Array Value) (hs : t.size = t0.size) (h : ∀ j, (j < 106 \/ 113 < j) -> t[j]? = t0[j]?) :
    ∃ x0 x1 x2 x3 x4 x5 x6 x7, t = (((((((t0.setIfInBounds 106 x0).setIfInBounds 107 x1).setIfInBounds 108 x2).setIfInBounds 109 x3).setIfInBounds 110 x4).setIfInBounds 111 x5).setIfInBounds 112 x6).setIfInBounds 113 x7 := by
  refine ⟨t.getD 106 undef, t.getD 107 undef, t.getD 108 undef, t.getD 109 undef, t.getD 110 undef, t.getD 111 undef, t.getD 112 undef, t.getD 113 undef, ?_⟩
  apply Array.ext_getElem?
  intro j
  simp only [Array.getElem?_setIfInBounds, Array.size_setIfInBounds]
  by_cases hj : j < 106 \/ 113 < j
  . rw [h j hj]
    rw [if_neg (by omega), if_neg (by omega), if_neg (by omega), if_neg (by omega), if_neg (by omega), if_neg (by omega), if_neg (by omega), if_neg (by omega)]
  have key : ∀ k : Nat, t[k]? = if k < t0.size then some (t[k]?.getD undef) else none := by
    intro k
    rw [<- hs]
    by_cases hk : k < t.size
    . rw [if_pos hk, Array.getElem?_eq_getElem hk]; rfl
    rw [if_neg hk, Array.getElem?_eq_none (by omega)]
  rcases (by omega : j = 106 \/ j = 107 \/ j = 108 \/ j = 109 \/ j = 110 \/ j = 111 \/ j = 112 \/ j = 113) with rfl | rfl | rfl | rfl | rfl | rfl | rfl | rfl <;> (simp; exact key _)
theorem region29x (a0 : Act) (W3 : World) (nb fb n : Nat) (fv : Value) (cf : List Value) (x y : ByteArray) (Q : Exit -> Act -> World -> Prop) (k0 k1 : Value)
    (h9 : a0.tmps[9]? = some (.pointer (some ⟨nb, 0, none⟩))) (h13 : a0.tmps[13]? = some (.pointer (some ⟨fb, 0, none⟩))) (hsz : 114 <= a0.tmps.size)
    (hVB : Cells W3 nb 117 #[k0, k1, fv]) (hFB : Cells W3 fb 83 #[.string x, .string y])
    (hrow : W3.ownsRow 0 83 2 fv n cf) (h1 : ∀ u ∈ cf, u.oneCell' = true) (hn : n <= 100000)
    (hQ : ∀ x0 x1 x2 x3 x4 x5 x6 x7 w2 g c, Below W3.heap.size W3 w2 -> w2.ownsRow W3.heap.size 83 2 (sl g (n + 1) c) (n + 1) (cf ++ [.string x, .string y]) -> Q .normal { tmps := (((((((a0.tmps.setIfInBounds 106 x0).setIfInBounds 107 x1).setIfInBounds 108 x2).setIfInBounds 109 x3).setIfInBounds 110 x4).setIfInBounds 111 x5).setIfInBounds 112 x6).setIfInBounds 113 x7, defers := a0.defers } (w2.setCell ⟨nb, 2, none⟩ (sl g (n + 1) c))) :
    (Code.region 29 ops29 true).wp Tryz.prog Q a0 W3 := by
  refine region29 a0 W3 nb fb n fv cf x y Q k0 k1 h9 h13 hsz hVB hFB hrow h1 hn ?_
  intro a w2 g c d1 d2 d3 b o
  have hx := frame29 a0.tmps a.tmps d2 d3
  have ha : a = { tmps := a.tmps, defers := a0.defers } := by rw [<- d1]
  rw [ha]
  generalize a.tmps = tm at *
  refine hx.elim fun x0 hx => hx.elim fun x1 hx => hx.elim fun x2 hx => hx.elim fun x3 hx => hx.elim fun x4 hx => hx.elim fun x5 hx => hx.elim fun x6 hx => hx.elim fun x7 e => ?_
  rw [e]
  exact hQ x0 x1 x2 x3 x4 x5 x6 x7 w2 g c b o
end Go.Proofs.YtbkeoiefolkjfaaGreatDoor
