/- Texts put together: NR, ND, NE, NF, NI. -/
import Derived.Test.YtiebbgbcojgeoaaGreatDoorBas1
import Derived.Test.YtiebbgbcojgeoaaGreatDoorBas13
import Derived.Test.YtiebbgbcojgeoaaGreatDoorBas14
import Derived.Test.YtiebbgbcojgeoaaGreatDoorBas20
set_option linter.unusedVariables false
namespace Go.Proofs.YtiebbgbcojgeoaaGreatDoor
open Go.RowKit Go.Shelf
attribute [local go_sem] Oper.semAt_some

def ops15 : Array Oper := #[{ dst := some 75, op := Op.load 32 (Operand.tmp 4), type := 32, pos := "law.go:40", after := #[], guard := none },
  { dst := some 76, op := Op.move (Operand.tmp 14), type := 4, pos := "law.go:40", after := #[], guard := none },
  { dst := some 77, op := Op.move (Operand.tmp 76), type := 4, pos := "law.go:40", after := #[{ on := 1, ground := Ground.data }], guard := none },
  { dst := some 78, op := Op.move (Operand.tmp 9), type := 27, pos := "law.go:40", after := #[{ on := 2, ground := Ground.guard }], guard := some (2, true) },
  { dst := some 79, op := Op.call { callee := Callee.value (Operand.func 14), args := #[Operand.tmp 78], argTypes := #[27] }, type := 3, pos := "law.go:40", after := #[{ on := 3, ground := Ground.data }, { on := 2, ground := Ground.chain }, { on := 2, ground := Ground.guard }], guard := some (2, true) },
  { dst := some 80, op := Op.move (Operand.tmp 11), type := 3, pos := "law.go:40", after := #[{ on := 2, ground := Ground.guard }], guard := some (2, true) },
  { dst := some 81, op := Op.binOp BinOp.eql 3 (Operand.tmp 79) (Operand.tmp 80) 3, type := 4, pos := "law.go:40", after := #[{ on := 4, ground := Ground.data }, { on := 5, ground := Ground.data }, { on := 2, ground := Ground.guard }], guard := some (2, true) },
  { dst := some 82, op := Op.pick (Operand.tmp 77) (Operand.tmp 81) (Operand.const (Value.bool false)), type := 4, pos := "law.go:40", after := #[{ on := 2, ground := Ground.data }, { on := 6, ground := Ground.data }], guard := none },
  { dst := some 83, op := Op.move (Operand.tmp 82), type := 4, pos := "law.go:40", after := #[{ on := 7, ground := Ground.data }, { on := 4, ground := Ground.chain }], guard := none },
  { dst := some 84, op := Op.move (Operand.tmp 9), type := 27, pos := "law.go:40", after := #[{ on := 8, ground := Ground.guard }], guard := some (8, true) },
  { dst := some 85, op := Op.call { callee := Callee.value (Operand.func 15), args := #[Operand.tmp 84], argTypes := #[27] }, type := 3, pos := "law.go:40", after := #[{ on := 9, ground := Ground.data }, { on := 8, ground := Ground.chain }, { on := 8, ground := Ground.guard }], guard := some (8, true) },
  { dst := some 86, op := Op.move (Operand.tmp 10), type := 3, pos := "law.go:40", after := #[{ on := 8, ground := Ground.guard }], guard := some (8, true) },
  { dst := some 87, op := Op.binOp BinOp.eql 3 (Operand.tmp 85) (Operand.tmp 86) 3, type := 4, pos := "law.go:40", after := #[{ on := 10, ground := Ground.data }, { on := 11, ground := Ground.data }, { on := 8, ground := Ground.guard }], guard := some (8, true) },
  { dst := some 88, op := Op.pick (Operand.tmp 83) (Operand.tmp 87) (Operand.const (Value.bool false)), type := 4, pos := "law.go:40", after := #[{ on := 8, ground := Ground.data }, { on := 12, ground := Ground.data }], guard := none },
  { dst := some 89, op := Op.move (Operand.tmp 88), type := 4, pos := "law.go:40", after := #[{ on := 13, ground := Ground.data }, { on := 10, ground := Ground.chain }], guard := none },
  { dst := some 90, op := Op.move (Operand.tmp 12), type := 3, pos := "law.go:40", after := #[{ on := 14, ground := Ground.guard }, { on := 19, ground := Ground.gcOnly Departure.lateStores }], guard := some (14, true) },
  { dst := some 91, op := Op.move (Operand.tmp 13), type := 3, pos := "law.go:40", after := #[{ on := 14, ground := Ground.guard }, { on := 19, ground := Ground.gcOnly Departure.lateStores }], guard := some (14, true) },
  { dst := some 92, op := Op.binOp BinOp.eql 3 (Operand.tmp 90) (Operand.tmp 91) 3, type := 4, pos := "law.go:40", after := #[{ on := 15, ground := Ground.data }, { on := 16, ground := Ground.data }, { on := 14, ground := Ground.guard }, { on := 19, ground := Ground.gcOnly Departure.lateStores }], guard := some (14, true) },
  { dst := some 93, op := Op.pick (Operand.tmp 89) (Operand.tmp 92) (Operand.const (Value.bool false)), type := 4, pos := "law.go:40", after := #[{ on := 14, ground := Ground.data }, { on := 17, ground := Ground.data }, { on := 19, ground := Ground.gcOnly Departure.lateStores }], guard := none },
  { dst := none, op := Op.store 32 (Operand.tmp 6) (Operand.tmp 75), type := 0, pos := "law.go:40", after := #[{ on := 0, ground := Ground.data }, { on := 14, ground := Ground.chain }, { on := 0, ground := Ground.phase }, { on := 1, ground := Ground.textOnly Departure.lateStores }, { on := 2, ground := Ground.textOnly Departure.lateStores }, { on := 3, ground := Ground.textOnly Departure.lateStores }, { on := 4, ground := Ground.textOnly Departure.lateStoresUnsure }, { on := 5, ground := Ground.textOnly Departure.lateStores }, { on := 6, ground := Ground.textOnly Departure.lateStores }, { on := 7, ground := Ground.textOnly Departure.lateStores }, { on := 8, ground := Ground.textOnly Departure.lateStores }, { on := 9, ground := Ground.textOnly Departure.lateStores }, { on := 10, ground := Ground.textOnly Departure.lateStoresUnsure }, { on := 11, ground := Ground.textOnly Departure.lateStores }, { on := 12, ground := Ground.textOnly Departure.lateStores }, { on := 13, ground := Ground.textOnly Departure.lateStores }, { on := 14, ground := Ground.textOnly Departure.lateStores }, { on := 15, ground := Ground.textOnly Departure.lateStores }, { on := 16, ground := Ground.textOnly Departure.lateStores }, { on := 17, ground := Ground.textOnly Departure.lateStores }, { on := 18, ground := Ground.textOnly Departure.lateStores }], guard := none },
  { dst := some 7, op := Op.assign (Operand.tmp 93), type := 4, pos := "law.go:40", after := #[{ on := 18, ground := Ground.data }, { on := 19, ground := Ground.chain }, { on := 0, ground := Ground.phase }, { on := 1, ground := Ground.phase }, { on := 2, ground := Ground.phase }, { on := 3, ground := Ground.phase }, { on := 4, ground := Ground.phase }, { on := 5, ground := Ground.phase }, { on := 6, ground := Ground.phase }, { on := 7, ground := Ground.phase }, { on := 8, ground := Ground.phase }, { on := 9, ground := Ground.phase }, { on := 10, ground := Ground.phase }, { on := 11, ground := Ground.phase }, { on := 12, ground := Ground.phase }, { on := 13, ground := Ground.phase }, { on := 14, ground := Ground.phase }, { on := 15, ground := Ground.phase }, { on := 16, ground := Ground.phase }, { on := 17, ground := Ground.phase }, { on := 18, ground := Ground.phase }, { on := 19, ground := Ground.phase }], guard := none }]
def dst15 (i : Nat) : Option Nat := if i < 19 then some (75 + i) else if i = 20 then some 7 else none
def val15 (vm e : Value) (n1 n2 a1 a2 i1 i2 : Int) (b1 b2 b3 : Bool) (i : Nat) : Value :=
  match i with
  | 0 => vm
  | 1 => .bool true
  | 2 => .bool true
  | 3 => e
  | 4 => .int .i64 n1
  | 5 => .int .i64 n2
  | 6 => .bool b1
  | 7 => .bool b1
  | 8 => .bool b1
  | 9 => if b1 = true then e else undef
  | 10 => if b1 = true then .int .i64 a1 else undef
  | 11 => if b1 = true then .int .i64 a2 else undef
  | 12 => if b1 = true then .bool b2 else undef
  | 13 => .bool (b1 && b2)
  | 14 => .bool (b1 && b2)
  | 15 => if (b1 && b2) = true then .int .i64 i1 else undef
  | 16 => if (b1 && b2) = true then .int .i64 i2 else undef
  | 17 => if (b1 && b2) = true then .bool b3 else undef
  | 18 => .bool ((b1 && b2) && b3)
  | 20 => .bool ((b1 && b2) && b3)
  | _ => undef
theorem ev15 {a : Act} {i : Nat} {v : Value} (h : a.tmps[i]? = some v) : a.eval (.tmp i) = v := by
  show a.tmps.getD i undef = v
  rw [Array.getD_eq_getD_getElem?, h]; rfl
section
variable {o : Oper} {a : Act} {w : World} {K : Act → World → Prop} {Q : Exit → Act → World → Prop}
theorem op_move {x : Operand} {v : Value} (ho : o.op = Op.move x) (hx : a.eval x = v) (hK : K (a.put o.dst v) w) : Oper.wp Tryz.prog o a w K Q := by
  unfold Oper.wp
  have e : (execOp a.eval o).run Tryz.prog w = .ok (.value v) w := by
    simp only [execOp, ho, hx]
    simp [go_sem]
  rw [e]; exact hK
theorem op_assign {x : Operand} {v : Value} (ho : o.op = Op.assign x) (hx : a.eval x = v) (hK : K (a.put o.dst v) w) : Oper.wp Tryz.prog o a w K Q := by
  unfold Oper.wp
  have e : (execOp a.eval o).run Tryz.prog w = .ok (.value v) w := by
    simp only [execOp, ho, hx]
    simp [go_sem]
  rw [e]; exact hK
theorem op_eql {x y : Operand} {m n : Int} {b : Bool} (ho : o.op = Op.binOp BinOp.eql 3 x y 3) (hx : a.eval x = .int .i64 m) (hy : a.eval y = .int .i64 n) (hb : (m == n) = b) (hK : K (a.put o.dst (.bool b)) w) : Oper.wp Tryz.prog o a w K Q := by
  subst hb
  unfold Oper.wp
  have e : (execOp a.eval o).run Tryz.prog w = .ok (.value (.bool (m == n))) w := by
    simp only [execOp, ho, hx, hy]
    simp [go_sem]
  rw [e]; exact hK
theorem op_pick {c x y : Operand} {b : Bool} {v u z : Value} (ho : o.op = Op.pick c x y) (hc : a.eval c = .bool b) (hx : a.eval x = v) (hy : a.eval y = u) (hz : z = if b = true then v else u) (hK : K (a.put o.dst z) w) : Oper.wp Tryz.prog o a w K Q := by
  subst hz
  unfold Oper.wp
  have e : (execOp a.eval o).run Tryz.prog w = .ok (.value (if b = true then v else u)) w := by
    simp only [execOp, ho, hc, hx, hy]
    cases b <;> simp [go_sem]
  rw [e]; exact hK
theorem op_load2 {x : Operand} {b : Nat} {u0 u1 : Value} (ho : o.op = Op.load 32 x) (hx : a.eval x = .pointer (some ⟨b, 0, none⟩)) (c0 : w.cell? ⟨b, 0, none⟩ = some u0) (c1 : w.cell? ⟨b, 1, none⟩ = some u1) (hK : K (a.put o.dst (.agg #[u0, u1])) w) : Oper.wp Tryz.prog o a w K Q := by
  unfold Oper.wp
  have e : (execOp a.eval o).run Tryz.prog w = .ok (.value (.agg #[u0, u1])) w := by
    simp only [execOp, ho, hx]
    simp [go_sem, Result.andThen, c0, c1]
  rw [e]; exact hK
theorem op_store2 {x y : Operand} {b : Nat} {u0 u1 : Value} {fa : Option Addr} {n c : Nat} {m : Int} (ho : o.op = Op.store 32 x y) (hx : a.eval x = .pointer (some ⟨b, 0, none⟩)) (hy : a.eval y = .agg #[.slice fa n c, .int .i64 m]) (c0 : w.cell? ⟨b, 0, none⟩ = some u0) (c1 : w.cell? ⟨b, 1, none⟩ = some u1) (f0 : w.frozen? ⟨b, 0, none⟩ = false) (f1 : w.frozen? ⟨b, 1, none⟩ = false)
    (hK : K (a.put o.dst undef) ((w.setCell ⟨b, 0, none⟩ (.slice fa n c)).setCell ⟨b, 1, none⟩ (.int .i64 m))) : Oper.wp Tryz.prog o a w K Q := by
  unfold Oper.wp
  have e : (execOp a.eval o).run Tryz.prog w = .ok .skip ((w.setCell ⟨b, 0, none⟩ (.slice fa n c)).setCell ⟨b, 1, none⟩ (.int .i64 m)) := by
    simp only [execOp, ho, hx, hy]
    simp [go_sem, Result.andThen, c0, c1, f0, f1]
  rw [e]; exact hK
end
theorem op_call1 {o : Oper} {a : Act} {w : World} {K : Act → World → Prop} {Q : Exit → Act → World → Prop} {x : Operand} {u v : Value} (F : Nat) {T : TypeId} (ho : o.op = Op.call { callee := Callee.value (Operand.func F), args := #[x], argTypes := #[T] }) (hx : a.eval x = u)
    (en : ∀ args w, (callFunc F args).run Tryz.prog w = .ok (.enter F args) w) (hC : Calls Tryz.prog F #[u] w fun e w' => e = .returned v ∧ w = w') (hK : K (a.put o.dst v) w) : Oper.wp Tryz.prog o a w K Q := by
  unfold Oper.wp
  have e : (execOp a.eval o).run Tryz.prog w = .ok (.enter F #[u]) w := by
    have hf : a.eval (.func F) = .func (.func F) #[] #[] := rfl
    generalize a.eval = ρ at hx hf ⊢
    simp only [execOp, ho]
    simp [go_sem, resolve, invoke, hx, hf, en]
  rw [e]
  refine hC.mono ?_
  rintro e w' ⟨rfl, rfl⟩
  exact hK
theorem want0 {o : Oper} {a : Act} (h : o.guard = none) : Region.wanted o (yielded ops15 a.tmps) = true := by
  unfold Region.wanted; rw [h]
theorem yield15 {a : Act} {i d : Nat} {b : Bool} (hd : ((ops15[i]?).bind (·.dst)) = some d) (h : a.tmps[d]? = some (.bool b)) : yielded ops15 a.tmps i = some b := by
  unfold yielded
  rw [hd]
  show (match a.tmps[d]? with | some (.bool b) => some b | _ => none) = _
  rw [h]
theorem want1 {o : Oper} {a : Act} {i d : Nat} {b : Bool} (hg : o.guard = some (i, true)) (hd : ((ops15[i]?).bind (·.dst)) = some d) (h : a.tmps[d]? = some (.bool b)) : Region.wanted o (yielded ops15 a.tmps) = b := by
  unfold Region.wanted
  rw [hg]
  show (yielded ops15 a.tmps i == some true) = b
  rw [yield15 hd h]
  cases b <;> rfl
theorem dst15_inj : ∀ i, i < 21 → ∀ k, k < 21 → dst15 i ≠ none → dst15 i = dst15 k → i = k := by decide +kernel
theorem dst15_lt : ∀ i, i < 21 → (dst15 i).getD 0 < 94 := by decide +kernel
theorem low15 : ∀ i : Fin 21, ∀ e ∈ (ops15[i.1]'(by exact i.2)).after, Region.binds .any e = true → e.on < i.1 := by decide +kernel
theorem dsts15 : ∀ i : Fin 21, (ops15[i.1]'(by exact i.2)).dst = dst15 i.1 := by decide +kernel
set_option maxRecDepth 100000 in
set_option maxHeartbeats 4000000 in
theorem region_do (a0 : Act) (w0 : World) (mb rb : Nat) (e : Value) (fa : Option Addr) (fn fc : Nat) (m n1 n2 a1 a2 i1 i2 : Int) (b1 b2 b3 : Bool) (Q : Exit → Act → World → Prop)
    (hsz : a0.tmps.size = 94) (h4 : a0.tmps[4]? = some (.pointer (some ⟨mb, 0, none⟩))) (h6 : a0.tmps[6]? = some (.pointer (some ⟨rb, 0, none⟩))) (h9 : a0.tmps[9]? = some e) (h10 : a0.tmps[10]? = some (.int .i64 a2)) (h11 : a0.tmps[11]? = some (.int .i64 n2)) (h12 : a0.tmps[12]? = some (.int .i64 i1)) (h13 : a0.tmps[13]? = some (.int .i64 i2)) (h14 : a0.tmps[14]? = some (.bool true))
    (hb1 : (n1 == n2) = b1) (hb2 : (a1 == a2) = b2) (hb3 : (i1 == i2) = b3) (hne : mb ≠ rb)
    (hM : Cells w0 mb 32 #[.slice fa fn fc, .int .i64 m]) (hR : ∃ cur, Cells w0 rb 32 cur ∧ cur.size = 2)
    (hN : ∀ W, W = w0 ∨ W = (w0.setCell ⟨rb, 0, none⟩ (.slice fa fn fc)).setCell ⟨rb, 1, none⟩ (.int .i64 m) → Calls Tryz.prog 14 #[e] W fun x w' => x = .returned (.int .i64 n1) ∧ W = w')
    (hA : ∀ W, W = w0 ∨ W = (w0.setCell ⟨rb, 0, none⟩ (.slice fa fn fc)).setCell ⟨rb, 1, none⟩ (.int .i64 m) → Calls Tryz.prog 15 #[e] W fun x w' => x = .returned (.int .i64 a1) ∧ W = w')
    (hQ : ∀ a, a.defers = a0.defers → a.tmps.getD 6 undef = .pointer (some ⟨rb, 0, none⟩) → a.tmps.getD 7 undef = .bool ((b1 && b2) && b3) → Q .normal a ((w0.setCell ⟨rb, 0, none⟩ (.slice fa fn fc)).setCell ⟨rb, 1, none⟩ (.int .i64 m))) :
    wpAny Tryz.prog .any ops15 Q ops15.size (Array.replicate ops15.size false) a0 w0 := by
  obtain ⟨W, hW⟩ : ∃ W : Bool → World, W = fun b => if b = true then (w0.setCell ⟨rb, 0, none⟩ (.slice fa fn fc)).setCell ⟨rb, 1, none⟩ (.int .i64 m) else w0 := ⟨_, rfl⟩
  have W0 : W false = w0 := by rw [hW]; rfl
  have W1 : W true = (w0.setCell ⟨rb, 0, none⟩ (.slice fa fn fc)).setCell ⟨rb, 1, none⟩ (.int .i64 m) := by rw [hW]; rfl
  have WW : ∀ b, W b = w0 ∨ W b = (w0.setCell ⟨rb, 0, none⟩ (.slice fa fn fc)).setCell ⟨rb, 1, none⟩ (.int .i64 m) := fun b => by cases b; exact .inl W0; exact .inr W1
  have MC : ∀ b, Cells (W b) mb 32 #[.slice fa fn fc, .int .i64 m] := fun b => by
    rcases WW b with h | h
    · rw [h]; exact hM
    · rw [h]; exact (hM.other (p := ⟨rb, 0, none⟩) hne _).other (p := ⟨rb, 1, none⟩) hne _
  have outside : ∀ j, j < 75 → j ≠ 7 → ∀ k, k < 21 → dst15 k ≠ some j := fun j h1 h2 k hk => by
    unfold dst15
    split
    · intro q; have := Option.some.inj q; omega
    · split
      · intro q; have := Option.some.inj q; omega
      · intro q; cases q
  have R := wpAny_table (P := Tryz.prog) (ops := ops15) (Q := Q) a0 dst15 (val15 (.agg #[.slice fa fn fc, .int .i64 m]) e n1 n2 a1 a2 i1 i2 b1 b2 b3) 19 W
    (fun i o ho => by
      obtain ⟨hi, rfl⟩ := Array.getElem?_eq_some_iff.1 ho
      exact dsts15 ⟨i, hi⟩)
    (fun i k d hi hk h1 h2 => dst15_inj i hi k hk (by rw [h1]; intro q; cases q) (by rw [h1, h2]))
    (fun i d hi h => by have := dst15_lt i hi; rw [h] at this; rw [hsz]; exact this)
    (fun i o e ho he hb => by
      obtain ⟨hi, rfl⟩ := Array.getElem?_eq_some_iff.1 ho
      exact low15 ⟨i, hi⟩ e he hb)
    ?step ?fin (by decide)
  case fin =>
    intro a hd hs hf hv
    rw [W1]
    refine hQ a hd ?_ ?_
    · exact ev15 ((hf 6 (outside 6 (by decide) (by decide))).trans h6)
    · exact ev15 (hv 20 7 (by decide) rfl)
  case step =>
    intro i o a b ho hs hf dep hib
    have hi : i < 21 := (Array.getElem?_eq_some_iff.1 ho).1
    have e4 := ev15 ((hf 4 (outside 4 (by decide) (by decide))).trans h4)
    have e6 := ev15 ((hf 6 (outside 6 (by decide) (by decide))).trans h6)
    have e9 := ev15 ((hf 9 (outside 9 (by decide) (by decide))).trans h9)
    have e10 := ev15 ((hf 10 (outside 10 (by decide) (by decide))).trans h10)
    have e11 := ev15 ((hf 11 (outside 11 (by decide) (by decide))).trans h11)
    have e12 := ev15 ((hf 12 (outside 12 (by decide) (by decide))).trans h12)
    have e13 := ev15 ((hf 13 (outside 13 (by decide) (by decide))).trans h13)
    have e14 := ev15 ((hf 14 (outside 14 (by decide) (by decide))).trans h14)
    rcases (by omega : i = 0 ∨ i = 1 ∨ i = 2 ∨ i = 3 ∨ i = 4 ∨ i = 5 ∨ i = 6 ∨ i = 7 ∨ i = 8 ∨ i = 9 ∨ i = 10 ∨ i = 11 ∨ i = 12 ∨ i = 13 ∨ i = 14 ∨ i = 15 ∨ i = 16 ∨ i = 17 ∨ i = 18 ∨ i = 19 ∨ i = 20) with rfl | rfl | rfl | rfl | rfl | rfl | rfl | rfl | rfl | rfl | rfl | rfl | rfl | rfl | rfl | rfl | rfl | rfl | rfl | rfl | rfl
    · have ho2 : some _ = some o := ho
      obtain rfl := Option.some.inj ho2
      exact .inl ⟨want0 rfl, fun K hK => op_load2 rfl e4 ((MC b).cell 0) ((MC b).cell 1) hK⟩
    · have ho2 : some _ = some o := ho
      obtain rfl := Option.some.inj ho2
      exact .inl ⟨want0 rfl, fun K hK => op_move rfl e14 hK⟩
    · have ho2 : some _ = some o := ho
      obtain rfl := Option.some.inj ho2
      exact .inl ⟨want0 rfl, fun K hK => op_move rfl (ev15 (dep ⟨1, Ground.data⟩ (by simp [ops15]) rfl 76 rfl)) hK⟩
    · have ho2 : some _ = some o := ho
      obtain rfl := Option.some.inj ho2
      exact .inl ⟨want1 (b := true) rfl (show ((ops15[2]?).bind (·.dst)) = some 77 from rfl) (dep ⟨2, Ground.guard⟩ (by simp [ops15]) rfl 77 rfl), fun K hK => op_move rfl e9 hK⟩
    · have ho2 : some _ = some o := ho
      obtain rfl := Option.some.inj ho2
      exact .inl ⟨want1 (b := true) rfl (show ((ops15[2]?).bind (·.dst)) = some 77 from rfl) (dep ⟨2, Ground.guard⟩ (by simp [ops15]) rfl 77 rfl), fun K hK => op_call1 14 rfl (ev15 (dep ⟨3, Ground.data⟩ (by simp [ops15]) rfl 78 rfl)) (enters_of (P := Tryz.prog) Tryz.func14 (by kernel_rfl) rfl) (hN _ (WW b)) hK⟩
    · have ho2 : some _ = some o := ho
      obtain rfl := Option.some.inj ho2
      exact .inl ⟨want1 (b := true) rfl (show ((ops15[2]?).bind (·.dst)) = some 77 from rfl) (dep ⟨2, Ground.guard⟩ (by simp [ops15]) rfl 77 rfl), fun K hK => op_move rfl e11 hK⟩
    · have ho2 : some _ = some o := ho
      obtain rfl := Option.some.inj ho2
      exact .inl ⟨want1 (b := true) rfl (show ((ops15[2]?).bind (·.dst)) = some 77 from rfl) (dep ⟨2, Ground.guard⟩ (by simp [ops15]) rfl 77 rfl), fun K hK => op_eql rfl (ev15 (dep ⟨4, Ground.data⟩ (by simp [ops15]) rfl 79 rfl)) (ev15 (dep ⟨5, Ground.data⟩ (by simp [ops15]) rfl 80 rfl)) hb1 hK⟩
    · have ho2 : some _ = some o := ho
      obtain rfl := Option.some.inj ho2
      exact .inl ⟨want0 rfl, fun K hK => op_pick rfl (ev15 (dep ⟨2, Ground.data⟩ (by simp [ops15]) rfl 77 rfl)) (ev15 (dep ⟨6, Ground.data⟩ (by simp [ops15]) rfl 81 rfl)) rfl rfl hK⟩
    · have ho2 : some _ = some o := ho
      obtain rfl := Option.some.inj ho2
      exact .inl ⟨want0 rfl, fun K hK => op_move rfl (ev15 (dep ⟨7, Ground.data⟩ (by simp [ops15]) rfl 82 rfl)) hK⟩
    · have ho2 : some _ = some o := ho
      obtain rfl := Option.some.inj ho2
      have wt := want1 (o := ops15[9]'(by decide)) (b := b1) rfl (show ((ops15[8]?).bind (·.dst)) = some 83 from rfl) (dep ⟨8, Ground.guard⟩ (by simp [ops15]) rfl 83 rfl)
      cases hc : b1 with
      | false => exact .inr ⟨wt.trans hc, by first | rfl | (simp only [val15, hc]; rfl), by decide⟩
      | true =>
        refine .inl ⟨wt.trans hc, fun K hK => ?_⟩
        have vals : ∀ j v, val15 (.agg #[.slice fa fn fc, .int .i64 m]) e n1 n2 a1 a2 i1 i2 b1 b2 b3 j = v → True := fun _ _ _ => trivial
        simp only [val15, hc, if_true] at hK dep
        exact op_move rfl e9 hK
    · have ho2 : some _ = some o := ho
      obtain rfl := Option.some.inj ho2
      have wt := want1 (o := ops15[10]'(by decide)) (b := b1) rfl (show ((ops15[8]?).bind (·.dst)) = some 83 from rfl) (dep ⟨8, Ground.guard⟩ (by simp [ops15]) rfl 83 rfl)
      cases hc : b1 with
      | false => exact .inr ⟨wt.trans hc, by first | rfl | (simp only [val15, hc]; rfl), by decide⟩
      | true =>
        refine .inl ⟨wt.trans hc, fun K hK => ?_⟩
        have vals : ∀ j v, val15 (.agg #[.slice fa fn fc, .int .i64 m]) e n1 n2 a1 a2 i1 i2 b1 b2 b3 j = v → True := fun _ _ _ => trivial
        simp only [val15, hc, if_true] at hK dep
        exact op_call1 15 rfl (ev15 (dep ⟨9, Ground.data⟩ (by simp [ops15]) rfl 84 rfl)) (enters_of (P := Tryz.prog) Tryz.func15 (by kernel_rfl) rfl) (hA _ (WW b)) hK
    · have ho2 : some _ = some o := ho
      obtain rfl := Option.some.inj ho2
      have wt := want1 (o := ops15[11]'(by decide)) (b := b1) rfl (show ((ops15[8]?).bind (·.dst)) = some 83 from rfl) (dep ⟨8, Ground.guard⟩ (by simp [ops15]) rfl 83 rfl)
      cases hc : b1 with
      | false => exact .inr ⟨wt.trans hc, by first | rfl | (simp only [val15, hc]; rfl), by decide⟩
      | true =>
        refine .inl ⟨wt.trans hc, fun K hK => ?_⟩
        have vals : ∀ j v, val15 (.agg #[.slice fa fn fc, .int .i64 m]) e n1 n2 a1 a2 i1 i2 b1 b2 b3 j = v → True := fun _ _ _ => trivial
        simp only [val15, hc, if_true] at hK dep
        exact op_move rfl e10 hK
    · have ho2 : some _ = some o := ho
      obtain rfl := Option.some.inj ho2
      have wt := want1 (o := ops15[12]'(by decide)) (b := b1) rfl (show ((ops15[8]?).bind (·.dst)) = some 83 from rfl) (dep ⟨8, Ground.guard⟩ (by simp [ops15]) rfl 83 rfl)
      cases hc : b1 with
      | false => exact .inr ⟨wt.trans hc, by first | rfl | (simp only [val15, hc]; rfl), by decide⟩
      | true =>
        refine .inl ⟨wt.trans hc, fun K hK => ?_⟩
        have vals : ∀ j v, val15 (.agg #[.slice fa fn fc, .int .i64 m]) e n1 n2 a1 a2 i1 i2 b1 b2 b3 j = v → True := fun _ _ _ => trivial
        simp only [val15, hc, if_true] at hK dep
        exact op_eql rfl (ev15 (dep ⟨10, Ground.data⟩ (by simp [ops15]) rfl 85 rfl)) (ev15 (dep ⟨11, Ground.data⟩ (by simp [ops15]) rfl 86 rfl)) hb2 hK
    · have ho2 : some _ = some o := ho
      obtain rfl := Option.some.inj ho2
      exact .inl ⟨want0 rfl, fun K hK => op_pick rfl (ev15 (dep ⟨8, Ground.data⟩ (by simp [ops15]) rfl 83 rfl)) (ev15 (dep ⟨12, Ground.data⟩ (by simp [ops15]) rfl 87 rfl)) rfl (by cases b1 <;> rfl) hK⟩
    · have ho2 : some _ = some o := ho
      obtain rfl := Option.some.inj ho2
      exact .inl ⟨want0 rfl, fun K hK => op_move rfl (ev15 (dep ⟨13, Ground.data⟩ (by simp [ops15]) rfl 88 rfl)) hK⟩
    · have ho2 : some _ = some o := ho
      obtain rfl := Option.some.inj ho2
      have wt := want1 (o := ops15[15]'(by decide)) (b := (b1 && b2)) rfl (show ((ops15[14]?).bind (·.dst)) = some 89 from rfl) (dep ⟨14, Ground.guard⟩ (by simp [ops15]) rfl 89 rfl)
      cases hc : (b1 && b2) with
      | false => exact .inr ⟨wt.trans hc, by first | rfl | (simp only [val15, hc]; rfl), by decide⟩
      | true =>
        refine .inl ⟨wt.trans hc, fun K hK => ?_⟩
        have vals : ∀ j v, val15 (.agg #[.slice fa fn fc, .int .i64 m]) e n1 n2 a1 a2 i1 i2 b1 b2 b3 j = v → True := fun _ _ _ => trivial
        simp only [val15, hc, if_true] at hK dep
        exact op_move rfl e12 hK
    · have ho2 : some _ = some o := ho
      obtain rfl := Option.some.inj ho2
      have wt := want1 (o := ops15[16]'(by decide)) (b := (b1 && b2)) rfl (show ((ops15[14]?).bind (·.dst)) = some 89 from rfl) (dep ⟨14, Ground.guard⟩ (by simp [ops15]) rfl 89 rfl)
      cases hc : (b1 && b2) with
      | false => exact .inr ⟨wt.trans hc, by first | rfl | (simp only [val15, hc]; rfl), by decide⟩
      | true =>
        refine .inl ⟨wt.trans hc, fun K hK => ?_⟩
        have vals : ∀ j v, val15 (.agg #[.slice fa fn fc, .int .i64 m]) e n1 n2 a1 a2 i1 i2 b1 b2 b3 j = v → True := fun _ _ _ => trivial
        simp only [val15, hc, if_true] at hK dep
        exact op_move rfl e13 hK
    · have ho2 : some _ = some o := ho
      obtain rfl := Option.some.inj ho2
      have wt := want1 (o := ops15[17]'(by decide)) (b := (b1 && b2)) rfl (show ((ops15[14]?).bind (·.dst)) = some 89 from rfl) (dep ⟨14, Ground.guard⟩ (by simp [ops15]) rfl 89 rfl)
      cases hc : (b1 && b2) with
      | false => exact .inr ⟨wt.trans hc, by first | rfl | (simp only [val15, hc]; rfl), by decide⟩
      | true =>
        refine .inl ⟨wt.trans hc, fun K hK => ?_⟩
        have vals : ∀ j v, val15 (.agg #[.slice fa fn fc, .int .i64 m]) e n1 n2 a1 a2 i1 i2 b1 b2 b3 j = v → True := fun _ _ _ => trivial
        simp only [val15, hc, if_true] at hK dep
        exact op_eql rfl (ev15 (dep ⟨15, Ground.data⟩ (by simp [ops15]) rfl 90 rfl)) (ev15 (dep ⟨16, Ground.data⟩ (by simp [ops15]) rfl 91 rfl)) hb3 hK
    · have ho2 : some _ = some o := ho
      obtain rfl := Option.some.inj ho2
      exact .inl ⟨want0 rfl, fun K hK => op_pick rfl (ev15 (dep ⟨14, Ground.data⟩ (by simp [ops15]) rfl 89 rfl)) (ev15 (dep ⟨17, Ground.data⟩ (by simp [ops15]) rfl 92 rfl)) rfl (by cases b1 <;> cases b2 <;> rfl) hK⟩
    · have ho2 : some _ = some o := ho
      obtain rfl := Option.some.inj ho2
      obtain rfl := hib rfl
      obtain ⟨cur, hcur, hcz⟩ := hR
      have r0 : w0.cell? ⟨rb, 0, none⟩ = some (cur[0]'(by omega)) := by rw [hcur.cell, Array.getElem?_eq_getElem (by omega)]
      have r1 : w0.cell? ⟨rb, 1, none⟩ = some (cur[1]'(by omega)) := by rw [hcur.cell, Array.getElem?_eq_getElem (by omega)]
      refine .inl ⟨want0 rfl, fun K hK => ?_⟩
      have hK' : K (a.put none undef) (W true) := hK
      rw [W1] at hK'
      rw [W0]
      exact op_store2 rfl e6 (ev15 (dep ⟨0, Ground.data⟩ (by simp [ops15]) rfl 75 rfl)) r0 r1 (hcur.frozen 0) (hcur.frozen 1) hK'
    · have ho2 : some _ = some o := ho
      obtain rfl := Option.some.inj ho2
      exact .inl ⟨want0 rfl, fun K hK => op_assign rfl (ev15 (dep ⟨18, Ground.data⟩ (by simp [ops15]) rfl 93 rfl)) hK⟩
  rw [W0] at R
  exact R
end Go.Proofs.YtiebbgbcojgeoaaGreatDoor

namespace Go.Proofs.YtiebbgbcojgeoaaGreatDoor
open Go.RowKit Go.Shelf
attribute [local go_sem] Oper.semAt_some

set_option maxRecDepth 100000 in
set_option maxHeartbeats 4000000 in
theorem do_any (lb : Nat) (ev v x : Value) (ps qs : List Pr) (nx mx kind id : Int) (fs : List Fld) (w : World) (h : StR w lb ev ps nx v qs) (hwf : WF (ps.map Prod.fst)) (h4 : lenR (ps.map Prod.fst) ≤ 400)
    (hps : ps.length ≤ 10000) (hqs : qs.length ≤ 10000) (hnx : -1000000 ≤ nx ∧ nx ≤ 1000000) (hmx : -1000000 ≤ mx ∧ mx ≤ 1000000) (hx : FldR w x fs) (hfs : Fine7 fs) (hxb : fs ≠ [] → ∀ b, x.ownBlock = some b → b ≠ lb ∧ ev.ownBlock ≠ some b) :
    Calls Tryz.prog 16 #[ptr lb, .agg #[v, .int .i64 mx], .agg #[.int .i64 kind, .int .i64 id, x]] w fun e w' => ∃ ev' ps' v' qs',
      e = .returned (.tuple #[.agg #[v', .int .i64 (editR ⟨qs.map Prod.fst, mx⟩ kind id fs).ls.next], .bool (sameD (editR ⟨ps.map Prod.fst, nx⟩ kind id fs) (editR ⟨qs.map Prod.fst, mx⟩ kind id fs))]) ∧
      StR w' lb ev' ps' (editR ⟨ps.map Prod.fst, nx⟩ kind id fs).ls.next v' qs' ∧ ps'.map Prod.fst = (editR ⟨ps.map Prod.fst, nx⟩ kind id fs).ls.es ∧ qs'.map Prod.fst = (editR ⟨qs.map Prod.fst, mx⟩ kind id fs).ls.es ∧
      Only (fun r => r = lb ∨ ev.ownBlock = some r) w w' ∧ (∀ r, BlkR lb ev' ps' v' qs' r → BlkR lb ev ps v qs r ∨ (fs ≠ [] ∧ x.ownBlock = some r) ∨ w.heap.size ≤ r) ∧ (∀ b, ev'.ownBlock = some b → ev.ownBlock = some b ∨ w.heap.size ≤ b) := by
  obtain ⟨xa, xc, rfl, _, _⟩ := _root_.id hx.1
  obtain ⟨A, cap, rfl, hle⟩ := h.q.empty
  have hnil := hx.2
  obtain ⟨W0, hW0⟩ : ∃ W0, W0 = ((w.alloc (.cells #[.slice A qs.length cap, .int .i64 mx] 32)).alloc (.cells #[.int .i64 kind, .int .i64 id, .slice xa fs.length xc] 38)).alloc (.cells #[.slice none 0 0, .int .i64 0] 32) := ⟨_, rfl⟩
  have hbW : Below w.heap.size w W0 := by rw [hW0]; exact (((Below.refl _ w).alloc (Nat.le_refl _) _).alloc (by simp) _).alloc (by simp; omega) _
  have hzW : W0.heap.size = w.heap.size + 3 := by rw [hW0]; simp
  have C0 : Cells W0 w.heap.size 32 #[.slice A qs.length cap, .int .i64 mx] := by rw [hW0]; exact ((Cells.new _ _ _).alloc _).alloc _
  have C1 : Cells W0 (w.heap.size + 1) 38 #[.int .i64 kind, .int .i64 id, .slice xa fs.length xc] := by
    rw [hW0]
    have := (Cells.new (w.alloc (.cells #[.slice A qs.length cap, .int .i64 mx] 32)) 38 #[.int .i64 kind, .int .i64 id, .slice xa fs.length xc]).alloc (.cells #[.slice none 0 0, .int .i64 0] 32)
    rw [World.size_alloc] at this; exact this
  have C2 : Cells W0 (w.heap.size + 2) 32 #[.slice none 0 0, .int .i64 0] := by
    rw [hW0]
    have := Cells.new ((w.alloc (.cells #[.slice A qs.length cap, .int .i64 mx] 32)).alloc (.cells #[.int .i64 kind, .int .i64 id, .slice xa fs.length xc] 38)) 32 #[.slice none 0 0, .int .i64 0]
    rw [World.size_alloc, World.size_alloc] at this; exact this
  have CP := copies_own fs (.slice xa fs.length xc) W0 (hx.1.below hbW (Nat.le_refl _)) hnil (by have := hfs.len; omega)
  rw [hzW] at CP
  have HH := Lib.hid h
  have HX := Lib.hid hx
  have HXB := Lib.hid hxb
  have HFS := Lib.hid hfs
  have HWF := Lib.hid hwf
  have HBW := Lib.hid hbW
  have HC0 := Lib.hid C0
  have HC1 := Lib.hid C1
  have HC2 := Lib.hid C2
  have HCP := Lib.hid CP
  have HZ := Lib.hid hzW
  obtain ⟨d1, hd1⟩ : ∃ d, d = editR ⟨ps.map Prod.fst, nx⟩ kind id fs := ⟨_, rfl⟩
  obtain ⟨d2, hd2⟩ : ∃ d, d = editR ⟨qs.map Prod.fst, mx⟩ kind id fs := ⟨_, rfl⟩
  rw [← hd1, ← hd2]
  have HD1 := Lib.hid hd1
  have HD2 := Lib.hid hd2
  have HXLT : Hid (fs ≠ [] → ∀ b, (Value.slice xa fs.length xc).ownBlock = some b → b < w.heap.size ∧ b ≠ lb ∧ ev.ownBlock ≠ some b) := fun hne b e => ⟨HX.out.1.lt hne b e, HXB.out hne b e⟩
  -- what holds in front of the document's call
  have PRE : Hid (∀ w1 w2 N u ev' ps' (d : Did), Below w.heap.size w w1 → WrR w1 lb ev ps d u w2 ev' ps' → N = 0 → EntsQ w2 (.slice A qs.length cap) qs ∧ Flds w2 (.slice xa fs.length xc) fs) := fun w1 w2 N u ev' ps' d hb R _ => by
    refine ⟨(HH.out.q.below hb (Nat.le_refl _)).only R.only (fun b hb2 e => ?_) (fun p hp hne b hb2 e => ?_), (HX.out.1.below hb (Nat.le_refl _)).only R.only (fun hne b hb2 e => ?_)⟩
    · obtain ⟨a1, a2⟩ := HH.out.va b hb2
      rcases e with e | e
      · exact a1 e
      · exact a2 e
    · obtain ⟨a1, a2⟩ := HH.out.qa p hp hne b hb2
      rcases e with e | e
      · exact a1 e
      · exact a2 e
    · obtain ⟨a1, a2⟩ := HXB.out hne b hb2
      rcases e with e | e
      · exact a1 e
      · exact a2 e
  clear h hx hxb hfs hwf hbW C0 C1 C2 CP hzW hd1 hd2 hnil
  unfold ptr
  subst hW0
  go_enter Tryz.func16, Tryz.ntmps16
  have c1 := HC1.out.cell 2
  go_wp2_with fail
  refine HCP.out.mono ?_
  rintro e w1 ⟨f, rfl, hf, hb01⟩
  have hb01' := hb01
  have hb : Below w.heap.size w w1 := HBW.out.trans (hb01.mono (by omega))
  have h3 : w.heap.size + 3 ≤ w1.heap.size := by have := hb01.size; rw [HZ.out] at this; exact this
  have D0 := Lib.hid (cells_kept HC0.out hb01' (by omega))
  have D1 := Lib.hid (cells_kept HC1.out hb01' (by omega))
  have D2 := Lib.hid (cells_kept HC2.out hb01' (by omega))
  obtain ⟨fa, fc, rfl, _⟩ := own_slice hf
  have HF := Lib.hid hf
  have HB1 := Lib.hid hb
  have LA1 := Lib.hid (HH.out.la.below hb (Nat.le_refl _))
  have FR1 := Lib.hid (FldR.own hf)
  clear hb01 hb01' hf hb c1 HCP HC0 HC1 HC2 HBW HZ
  have c1 : w1.cell? ⟨w.heap.size + 1, 0, none⟩ = some (.int .i64 kind) := D1.out.cell 0
  have c2 : w1.cell? ⟨w.heap.size + 1, 1, none⟩ = some (.int .i64 id) := D1.out.cell 1
  go_upto_block 0 with fail
  go_cut [9, 10, 11, 12, 13] (fun ce c10 c11 c12 c13 wx => ∃ ev' ps' v' qs', c10 = .int .i64 d2.at_ ∧ c11 = .int .i64 d2.bad ∧ c12 = .int .i64 d1.id ∧ c13 = .int .i64 d2.id ∧ MidR w w1 wx lb ev ps (.slice A qs.length cap) qs (.slice xa fs.length xc) fs (.slice fa fs.length fc) kind id d1 d2 ce ev' ps' v' qs')
  case first =>
    have hlbw : lb < w.heap.size := HH.out.lt (.inl rfl)
    have HEVW := Lib.hid (show ∀ b, ev.ownBlock = some b → b < w.heap.size from fun b e => HH.out.lt (.inr (.inl e)))
    -- the boxes behind the list's call, and behind the document's
    have BX : Hid (∀ w2 w3 N, Only (fun r => r = lb ∨ ev.ownBlock = some r) w1 w2 → Below N w2 w3 → w2.heap.size ≤ N → Cells w3 w.heap.size 32 #[.slice A qs.length cap, .int .i64 mx] ∧ Cells w3 (w.heap.size + 1) 38 #[.int .i64 kind, .int .i64 id, .slice xa fs.length xc]) := fun w2 w3 N o b hN => by
      have o3 := o.below b (Nat.le_trans o.size hN)
      have nb : ∀ r, w.heap.size ≤ r → ¬ (r = lb ∨ ev.ownBlock = some r) := fun r hr e => by
        rcases e with e | e
        · omega
        · have := HEVW.out r e; omega
      exact ⟨D0.out.only o3 (nb _ (Nat.le_refl _)), D1.out.only o3 (nb _ (Nat.le_succ _))⟩
    by_cases k1 : kind = 1
    · subst k1
      have RL := replace_list lb ev ps nx id fs (.slice fa fs.length fc) w1 LA1.out (by omega) FR1.out HFS.out
      rw [findP_R HWF.out, show replaceW (findR (ps.map Prod.fst) id) ⟨ps.map Prod.fst, nx⟩ fs = d1 by rw [HD1.out, editR_1, replaceR_W]] at RL
      have HRL := Lib.hid RL
      have E1 : Hid (d1.id = 0) := by show _ = _; rw [HD1.out, editR_1, replaceR_id]
      have E2 : Hid (d2.id = 0) := by show _ = _; rw [HD2.out, editR_1, replaceR_id]
      clear RL
      unfold ptr at HRL
      go_wp2_with fail
      refine HRL.out.mono ?_
      rintro e w2 ⟨u, ev', ps', rfl, hR⟩
      obtain ⟨hq2, hx2⟩ := PRE.out w1 w2 0 u ev' ps' d1 HB1.out hR rfl
      obtain ⟨B0, B1⟩ := BX.out w2 w2 _ hR.only (Below.refl w2.heap.size w2) (Nat.le_refl _)
      have RR := refReplace_any qs (.slice A qs.length cap) (.slice xa fs.length xc) mx id fs w2 hq2 (by omega) hx2 HFS.out
      rw [show replaceR ⟨qs.map Prod.fst, mx⟩ id fs = d2 by rw [HD2.out, editR_1]] at RR
      have HRR := Lib.hid RR
      have HR := Lib.hid hR
      have e0 : w2.cell? ⟨w.heap.size, 0, none⟩ = some (.slice A qs.length cap) := B0.cell 0
      have e1 : w2.cell? ⟨w.heap.size, 1, none⟩ = some (.int .i64 mx) := B0.cell 1
      have e2 : w2.cell? ⟨w.heap.size + 1, 1, none⟩ = some (.int .i64 id) := B1.cell 1
      have e3 : w2.cell? ⟨w.heap.size + 1, 2, none⟩ = some (.slice xa fs.length xc) := B1.cell 2
      clear RR hR HRL B0 B1 hq2 hx2 c1 c2
      go_wp2_with fail
      refine HRR.out.mono ?_
      rintro e w3 ⟨v', qs', rfl, hQ⟩
      obtain ⟨B0, _⟩ := BX.out w2 w3 _ HR.out.only hQ.below (Nat.le_refl _)
      have f0 := B0.frozen 0
      have f1 := B0.frozen 1
      have g0 := B0.cell 0
      have g1 := B0.cell 1
      simp only [List.getElem?_toArray, List.getElem?_cons_zero, List.getElem?_cons_succ] at g0 g1
      have MID := Lib.hid (mid_of HH.out HB1.out h3 D0.out D1.out D2.out HF.out HR.out hQ ⟨xa, xc, rfl⟩ (.inl ⟨rfl, rfl⟩) HXLT.out)
      obtain ⟨va, vn, vc, rfl⟩ : ∃ a n c, v' = .slice a n c := by obtain ⟨A', c', e, _⟩ := hQ.ents.empty; exact ⟨A', _, c', e⟩
      clear hQ HRR B0 e0 e1 e2 e3
      go_wp2_with fail
      go_meet
      exact ⟨ev', ps', _, qs', rfl, rfl, by rw [E1.out], by rw [E2.out], MID.out⟩
    by_cases k2 : kind = 2
    · subst k2
      have RL := delete_list lb ev ps nx id w1 LA1.out (by omega)
      rw [findP_R HWF.out, show deleteW (findR (ps.map Prod.fst) id) ⟨ps.map Prod.fst, nx⟩ = d1 by rw [HD1.out, editR_2, deleteR_W]] at RL
      have HRL := Lib.hid RL
      have E1 : Hid (d1.id = 0) := by show _ = _; rw [HD1.out, editR_2, (deleteR_id _ _).1]
      have E2 : Hid (d2.id = 0) := by show _ = _; rw [HD2.out, editR_2, (deleteR_id _ _).1]
      have E3 : Hid (d2.at_ = -9) := by show _ = _; rw [HD2.out, editR_2, (deleteR_id _ _).2]
      clear RL
      unfold ptr at HRL
      go_wp2_with fail
      refine HRL.out.mono ?_
      rintro e w2 ⟨u, ev', ps', rfl, hR⟩
      obtain ⟨hq2, hx2⟩ := PRE.out w1 w2 0 u ev' ps' d1 HB1.out hR rfl
      obtain ⟨B0, B1⟩ := BX.out w2 w2 _ hR.only (Below.refl w2.heap.size w2) (Nat.le_refl _)
      have RR := refDelete_any qs (.slice A qs.length cap) mx id w2 hq2 (by omega)
      rw [show deleteR ⟨qs.map Prod.fst, mx⟩ id = d2 by rw [HD2.out, editR_2]] at RR
      have HRR := Lib.hid RR
      have HR := Lib.hid hR
      have e0 : w2.cell? ⟨w.heap.size, 0, none⟩ = some (.slice A qs.length cap) := B0.cell 0
      have e1 : w2.cell? ⟨w.heap.size, 1, none⟩ = some (.int .i64 mx) := B0.cell 1
      have e2 : w2.cell? ⟨w.heap.size + 1, 1, none⟩ = some (.int .i64 id) := B1.cell 1
      have e3 : w2.cell? ⟨w.heap.size + 1, 2, none⟩ = some (.slice xa fs.length xc) := B1.cell 2
      clear RR hR HRL B0 B1 hq2 hx2 c1 c2
      go_wp2_with fail
      refine HRR.out.mono ?_
      rintro e w3 ⟨v', qs', rfl, hQ⟩
      obtain ⟨B0, _⟩ := BX.out w2 w3 _ HR.out.only hQ.below (Nat.le_refl _)
      have f0 := B0.frozen 0
      have f1 := B0.frozen 1
      have g0 := B0.cell 0
      have g1 := B0.cell 1
      simp only [List.getElem?_toArray, List.getElem?_cons_zero, List.getElem?_cons_succ] at g0 g1
      have MID := Lib.hid (mid_of HH.out HB1.out h3 D0.out D1.out D2.out HF.out HR.out hQ (fs2 := []) ⟨none, 0, rfl⟩ (.inr rfl) HXLT.out)
      obtain ⟨va, vn, vc, rfl⟩ : ∃ a n c, v' = .slice a n c := by obtain ⟨A', c', e, _⟩ := hQ.ents.empty; exact ⟨A', _, c', e⟩
      clear hQ HRR B0 e0 e1 e2 e3
      go_wp2_with fail
      go_meet
      exact ⟨ev', ps', _, qs', by rw [E3.out], rfl, by rw [E1.out], by rw [E2.out], MID.out⟩
    · have k1' : (kind == 1) = false := beq_eq_false_iff_ne.2 k1
      have k2' : (kind == 2) = false := beq_eq_false_iff_ne.2 k2
      have K1 := Lib.hid k1
      have K2 := Lib.hid k2
      clear k1 k2
      have RL := insert_list lb ev ps nx id fs (.slice fa fs.length fc) w1 LA1.out hps hnx FR1.out HFS.out
      rw [gapP_R HWF.out, full_R HWF.out h4, show insertW (gapR (ps.map Prod.fst) id) (decide (400 ≤ lenR (ps.map Prod.fst))) ⟨ps.map Prod.fst, nx⟩ fs = d1 by rw [HD1.out, editR_3 _ K1.out K2.out, insertR_W]] at RL
      have HRL := Lib.hid RL
      clear RL
      unfold ptr at HRL
      go_wp2_with fail
      refine HRL.out.mono ?_
      rintro e w2 ⟨u, ev', ps', rfl, hR⟩
      obtain ⟨hq2, hx2⟩ := PRE.out w1 w2 0 u ev' ps' d1 HB1.out hR rfl
      obtain ⟨B0, B1⟩ := BX.out w2 w2 _ hR.only (Below.refl w2.heap.size w2) (Nat.le_refl _)
      have RR := refInsert_any qs (.slice A qs.length cap) (.slice xa fs.length xc) mx id fs w2 hq2 (by omega) hmx hx2 HFS.out
      rw [show insertR ⟨qs.map Prod.fst, mx⟩ id fs = d2 by rw [HD2.out, editR_3 _ K1.out K2.out]] at RR
      have HRR := Lib.hid RR
      have HR := Lib.hid hR
      have e0 : w2.cell? ⟨w.heap.size, 0, none⟩ = some (.slice A qs.length cap) := B0.cell 0
      have e1 : w2.cell? ⟨w.heap.size, 1, none⟩ = some (.int .i64 mx) := B0.cell 1
      have e2 : w2.cell? ⟨w.heap.size + 1, 1, none⟩ = some (.int .i64 id) := B1.cell 1
      have e3 : w2.cell? ⟨w.heap.size + 1, 2, none⟩ = some (.slice xa fs.length xc) := B1.cell 2
      clear RR hR HRL B0 B1 hq2 hx2 c1 c2
      go_wp2_with fail
      refine HRR.out.mono ?_
      rintro e w3 ⟨v', qs', rfl, hQ⟩
      obtain ⟨B0, _⟩ := BX.out w2 w3 _ HR.out.only hQ.below (Nat.le_refl _)
      have f0 := B0.frozen 0
      have f1 := B0.frozen 1
      have g0 := B0.cell 0
      have g1 := B0.cell 1
      simp only [List.getElem?_toArray, List.getElem?_cons_zero, List.getElem?_cons_succ] at g0 g1
      have MID := Lib.hid (mid_of HH.out HB1.out h3 D0.out D1.out D2.out HF.out HR.out hQ ⟨xa, xc, rfl⟩ (.inl ⟨rfl, rfl⟩) HXLT.out)
      obtain ⟨va, vn, vc, rfl⟩ : ∃ a n c, v' = .slice a n c := by obtain ⟨A', c', e, _⟩ := hQ.ents.empty; exact ⟨A', _, c', e⟩
      clear hQ HRR B0 e0 e1 e2 e3
      go_wp2_with fail
      go_meet
      exact ⟨ev', ps', _, qs', rfl, rfl, rfl, rfl, MID.out⟩
  case rest =>
    obtain ⟨ev', ps', v', qs', rfl, rfl, rfl, rfl, hM⟩ := hcut
    have hxx : Flds wc (.slice xa fs.length xc) fs := HX.out.1.only hM.only (fun hne b hb2 e => by
      obtain ⟨a1, a2⟩ := HXB.out hne b hb2
      rcases e with e | e
      · exact a1 e
      · exact a2 e)
    have FE := Lib.hid (fields_same fs (.slice fa fs.length fc) (.slice xa fs.length xc) wc (flds_of_own hM.frow) hxx (by have := HFS.out.len; omega))
    have c12 : wc.cell? ⟨w.heap.size + 1, 2, none⟩ = some (.slice xa fs.length xc) := hM.c1.cell 2
    have HM := Lib.hid hM
    clear hM hxx c1 c2
    go_wp2_with fail
    refine FE.out.mono ?_
    rintro e w4 ⟨rfl, b4⟩
    have SP := Lib.hid (spoilP_any fs.length (fun r => (Value.slice fa fs.length fc).ownBlock = some r) (.slice fa fs.length fc) w4 (mine_block (row_below HM.out.frow b4 (Nat.le_refl _))) (by have := HFS.out.len; omega))
    have B4 := Lib.hid b4
    have FLO : Hid (∀ r, (Value.slice fa fs.length fc).ownBlock = some r → w.heap.size + 3 ≤ r ∧ r < w1.heap.size) := fun r e => ⟨(HM.out.frow.lt r e).1, HM.out.flt r e⟩
    clear FE b4 c12
    go_wp2_with fail
    refine SP.out.mono ?_
    rintro e w5 ⟨rfl, hsp⟩
    have o45 := spoils_only hsp
    have hlbw : lb < w.heap.size := HH.out.lt (.inl rfl)
    have hbk : ∀ r, BlkR lb ev' ps' v' qs' r → r < w.heap.size ∨ w1.heap.size ≤ r := fun r hr => by
      rcases HM.out.bk r hr with q | ⟨q1, q2⟩ | q
      · exact .inl (HH.out.lt q)
      · exact .inl (HXLT.out q1 r q2).1
      · exact .inr q
    have ST5 := Lib.hid ((HM.out.st.below B4.out (Nat.le_refl _)).only o45 (fun r hr e => by have := FLO.out r e; have := hbk r hr; omega))
    have b0 : Cells w5 w.heap.size 32 #[v', .int .i64 d2.ls.next] := (cells_kept HM.out.c0 B4.out HM.out.c0.lt).only o45 (fun e => by have := FLO.out _ e; omega)
    have b2 : Cells w5 (w.heap.size + 2) 32 #[.slice none 0 0, .int .i64 0] := (cells_kept HM.out.c2 B4.out HM.out.c2.lt).only o45 (fun e => by have := FLO.out _ e; omega)
    have er : ErrZ w1.heap.size w5 u9 d1.at_ d1.bad := (HM.out.err.below B4.out (Nat.le_refl _)).only o45 (fun r hr e => by have := FLO.out r e; omega)
    have er' : ErrZ w1.heap.size w5.drew u9 d1.at_ d1.bad := er.below ((Below.refl _ _).drew) (Nat.le_refl _)
    have oW5 : Only (fun r => r = lb ∨ ev.ownBlock = some r) w w5 := (HM.out.only.below B4.out (HM.out.only.size)).trans (o45.mono (S' := fun r => w.heap.size ≤ r) (fun r _ e => by have := FLO.out r e; omega)) (fun r hr e => absurd e (by omega))
    have OW5 := Lib.hid oW5
    have BK := Lib.hid hbk
    obtain ⟨va, vc, rfl, _⟩ := HM.out.st.q.empty
    have hER : Hid (∀ W, W = w5.drew ∨ W = (w5.drew.setCell ⟨w.heap.size + 2, 0, none⟩ (.slice va qs'.length vc)).setCell ⟨w.heap.size + 2, 1, none⟩ (.int .i64 d2.ls.next) → ErrZ w1.heap.size W u9 d1.at_ d1.bad) := fun W hW => by
      rcases hW with rfl | rfl
      · exact er'
      · exact er'.only ((only_one (b := w.heap.size + 2) _ 0 _).trans (only_one (b := w.heap.size + 2) _ 1 _) (fun r _ e => e)) (fun r hr e => by omega)
    have RE := (b2.drew.set 0 (.slice va qs'.length vc)).set 1 (.int .i64 d2.ls.next)
    rw [set2] at RE
    have HRE := Lib.hid RE
    have HB0 := Lib.hid b0.drew
    have HB2 := Lib.hid b2.drew
    have SD : Hid (sameD d1 d2 = ((((d1.bad : Int) == (d2.bad : Int)) && (d1.at_ == d2.at_)) && (d1.id == d2.id))) := rfl
    clear SP hsp o45 b0 b2 er er' oW5 hbk RE
    go_wp2_with fail
    refine wp_region_any (by kernel_rfl) ?_
    refine region_do _ w5.drew w.heap.size (w.heap.size + 2) u9 va qs'.length vc d2.ls.next d1.bad d2.bad d1.at_ d2.at_ d1.id d2.id _ _ _ _ rfl rfl rfl rfl rfl rfl rfl rfl rfl rfl rfl rfl (by omega) HB0.out ⟨_, HB2.out, rfl⟩ (fun W hW => num_z (hER.out W hW)) (fun W hW => at_z (hER.out W hW)) ?_
    intro a hd h6 h7
    go_wp2_with fail
    refine bodyPost_ret (ret_q2 rfl _ _ (w.heap.size + 2) _ h6 HRE.out rfl) hd ?_
    have hnb : ¬ BlkR lb ev' ps' (.slice va qs'.length vc) qs' (w.heap.size + 2) := fun hr => by
      rcases BK.out _ hr with q | q
      · omega
      · omega
    refine ⟨ev', ps', _, by rw [h7, SD.out], qs', (ST5.out.drew.set 0 _ hnb).set 1 _ hnb, HM.out.es1, HM.out.es2, (OW5.out.drew.setCell (p := ⟨w.heap.size + 2, 0, none⟩) (.inr (by show w.heap.size ≤ w.heap.size + 2; omega)) _).setCell (p := ⟨w.heap.size + 2, 1, none⟩) (.inr (by show w.heap.size ≤ w.heap.size + 2; omega)) _, fun r hr => ?_, fun b e => (HM.out.blk b e).imp _root_.id fun q => by have := HB1.out.size; omega⟩
    rcases HM.out.bk r hr with q | q | q
    · exact .inl q
    · exact .inr (.inl q)
    · exact .inr (.inr (by have := HB1.out.size; omega))
end Go.Proofs.YtiebbgbcojgeoaaGreatDoor

namespace Go.Proofs.YtiebbgbcojgeoaaGreatDoor
open Go.RowKit Go.Shelf Go.Maps Go.ChangeShapes Go.Joins Go.WideShapes
attribute [local go_sem] Oper.semAt_some

structure Ed where
  kind : Int
  id : Int
  fields : List Fld
structure EdIn (W : World) (cs : List Value) (ed : Ed) (fv : Value) : Prop where
  cs : cs = [.int .i64 ed.kind, .int .i64 ed.id, fv]
  flds : FldsIn W fv ed.fields
set_option maxRecDepth 100000 in
theorem edit_in {H : Type} {enc : TypeId × Value → H} {W : World} {base : Nat} {sp : Nat → Bool} {held : Bool} {fuel : Nat} {cs : List Value} {x : DataW H × List MemPlace} (h : DataW.trod enc Tryz.prog W base sp held fuel 38 cs = some x) :
    ∃ ed fv, EdIn W cs ed fv := by
  obtain ⟨xs, m, _, _, hl, hxl, hf⟩ := DataW.trod_struct Tryz.underlying38 h
  have hl2 : cs.length = 3 := hl.trans (by kernel_rfl)
  obtain ⟨c0, c1, c2, rfl⟩ := cells3 hl2
  have k3 : Tryz.prog.cellsOf 3 = 1 := by kernel_rfl
  have k40 : Tryz.prog.cellsOf 36 = 1 := by kernel_rfl
  have hx : ∀ i, i < 3 → ∃ y, xs[i]? = some y := fun i hi => ⟨_, List.getElem?_eq_getElem (by rw [hxl]; exact hi)⟩
  obtain ⟨y0, e0⟩ := hx 0 (by decide)
  obtain ⟨y1, e1⟩ := hx 1 (by decide)
  obtain ⟨y2, e2⟩ := hx 2 (by decide)
  have q0 : DataW.trod enc Tryz.prog W base sp held m 3 (List.take (Tryz.prog.cellsOf 3) [c0, c1, c2]) = _ := hf 0 _ rfl
  have q1 : DataW.trod enc Tryz.prog W base sp held m 3 (List.take (Tryz.prog.cellsOf 3) [c1, c2]) = _ := hf 1 _ rfl
  have q2 : DataW.trod enc Tryz.prog W base sp held m 36 (List.take (Tryz.prog.cellsOf 36) [c2]) = _ := hf 2 _ rfl
  rw [k3, e0] at q0
  rw [k3, e1] at q1
  rw [k40, e2] at q2
  obtain ⟨kind, f0, _, _⟩ := DataW.trod_int Tryz.underlying3 q0
  obtain ⟨id, f1, _, _⟩ := DataW.trod_int Tryz.underlying3 q1
  obtain ⟨fs, hfs⟩ := flds_in (v := c2) q2
  simp at f0 f1
  subst f0 f1
  exact ⟨⟨kind, id, fs⟩, c2, rfl, hfs⟩
/-- A script that came in. -/
structure EdsIn (w : World) (v : Value) (eds : List Ed) : Prop where
  len : eds.length ≤ maxLen
  at_ : ∃ A cap, v = .slice A eds.length cap ∧ eds.length ≤ cap ∧ ∀ (i : Nat) (ed : Ed), eds[i]? = some ed → ∃ b off fv, A = some ⟨b, off, none⟩ ∧ b < w.heap.size ∧ w.cell? ⟨b, off + i * 3, none⟩ = some (.int .i64 ed.kind) ∧ w.cell? ⟨b, off + i * 3 + 1, none⟩ = some (.int .i64 ed.id) ∧ w.cell? ⟨b, off + i * 3 + 1 + 1, none⟩ = some fv ∧ FldsIn w fv ed.fields
set_option maxRecDepth 100000 in
theorem edits_in {H : Type} {enc : TypeId × Value → H} {W : World} {base : Nat} {sp : Nat → Bool} {held : Bool} {fuel : Nat} {v : Value} {x : DataW H × List MemPlace} (h : DataW.trod enc Tryz.prog W base sp held fuel 22 [v] = some x) :
    ∃ eds, EdsIn W v eds := by
  rcases DataW.trod_slice Tryz.underlying22 h with ⟨e, _⟩ | ⟨a, len, cap, elems, rest, n, _, e, _, _, hl, hm, hlen, hel, _, _⟩
  · obtain rfl : v = .slice none 0 0 := by simpa using e
    exact ⟨[], ⟨Nat.zero_le _, none, 0, rfl, Nat.le_refl _, fun i f h => by simp at h⟩⟩
  · obtain rfl : v = .slice (some a) len cap := by simpa using e
    have k3 : Tryz.prog.cellsOf 38 = 3 := by kernel_rfl
    have each : ∀ i, i < len → ∃ ed : Ed, ∃ b off fv, a = ⟨b, off, none⟩ ∧ b < W.heap.size ∧ W.cell? ⟨b, off + i * 3, none⟩ = some (.int .i64 ed.kind) ∧ W.cell? ⟨b, off + i * 3 + 1, none⟩ = some (.int .i64 ed.id) ∧ W.cell? ⟨b, off + i * 3 + 1 + 1, none⟩ = some fv ∧ FldsIn W fv ed.fields := by
      intro i hi
      have h1 := hel i hi
      rw [k3, List.getElem?_eq_getElem (by omega)] at h1
      obtain ⟨cs, hc, ht⟩ := Option.bind_eq_some_iff.1 h1
      obtain ⟨ed, fv, rfl, hf⟩ := edit_in ht
      obtain ⟨_, _, hat⟩ := World.cells?_some hc
      have c0 := hat 0 (by decide)
      have c1 := hat 1 (by decide)
      have c2 := hat 2 (by decide)
      obtain ⟨b, off, spot⟩ := a
      have hspot : spot = none := by
        have h2 := hel 0 (by omega)
        rw [k3, List.getElem?_eq_getElem (by omega)] at h2
        obtain ⟨cs', hc', ht'⟩ := Option.bind_eq_some_iff.1 h2
        obtain ⟨ed', fv', rfl, _⟩ := edit_in ht'
        obtain ⟨_, hlen', hat'⟩ := World.cells?_some hc'
        have := World.cell?_spot (hat' 0 (by decide))
        simpa [Addr.add] using this
      subst hspot
      rw [WideShapes.add_plain] at c0 c1 c2
      exact ⟨ed, b, off, fv, rfl, World.block_lt_of_cell? W _ c0, c0, c1, c2, hf⟩
    have : ∃ g : Nat → Ed, ∀ i, i < len → ∃ b off fv, a = ⟨b, off, none⟩ ∧ b < W.heap.size ∧ W.cell? ⟨b, off + i * 3, none⟩ = some (.int .i64 (g i).kind) ∧ W.cell? ⟨b, off + i * 3 + 1, none⟩ = some (.int .i64 (g i).id) ∧ W.cell? ⟨b, off + i * 3 + 1 + 1, none⟩ = some fv ∧ FldsIn W fv (g i).fields := by
      refine ⟨fun i => if h : i < len then (each i h).choose else ⟨0, 0, []⟩, fun i hi => ?_⟩
      simp only [dif_pos hi]
      exact (each i hi).choose_spec
    obtain ⟨g, hg⟩ := this
    have hll : ((List.range len).map g).length = len := by simp
    refine ⟨(List.range len).map g, ⟨by rw [hll]; omega, some a, cap, by rw [hll], by rw [hll]; exact hl, fun i ed hi => ?_⟩⟩
    have hlt : i < len := by
      rcases Nat.lt_or_ge i len with q | q
      · exact q
      · rw [List.getElem?_eq_none (by rw [hll]; exact q)] at hi; cases hi
    rw [List.getElem?_map, List.getElem?_range hlt] at hi
    obtain rfl := (Option.some.inj hi).symm
    obtain ⟨b, off, fv, ea, hb, c0, c1, c2, hf⟩ := hg i hlt
    exact ⟨b, off, fv, by rw [ea], hb, c0, c1, c2, hf⟩
theorem FldsIn.kept {w w' : World} {v : Value} {fs : List Fld} {N : Nat} (h : FldsIn w v fs) (hb : Below N w w') (hN : w.heap.size ≤ N) : FldsIn w' v fs := ⟨h.flds.below hb hN, h.nil, h.len, h.each⟩
theorem EdsIn.below {w w' : World} {v : Value} {eds : List Ed} {N : Nat} (h : EdsIn w v eds) (hb : Below N w w') (hN : w.heap.size ≤ N) : EdsIn w' v eds := by
  obtain ⟨hl, A, cap, e, hle, hc⟩ := h
  refine ⟨hl, A, cap, e, hle, fun i ed hi => ?_⟩
  obtain ⟨b, off, fv, e1, hbb, c0, c1, c2, hf⟩ := hc i ed hi
  have hbN : b < N := by omega
  exact ⟨b, off, fv, e1, Nat.lt_of_lt_of_le hbb hb.size, (hb.cell (p := ⟨b, off + i * 3, none⟩) hbN).trans c0, (hb.cell (p := ⟨b, off + i * 3 + 1, none⟩) hbN).trans c1, (hb.cell (p := ⟨b, off + i * 3 + 1 + 1, none⟩) hbN).trans c2, hf.kept hb hN⟩
/-- What isn't heavy. -/
def Light (eds : List Ed) : Prop := eds.length ≤ 51 ∧ ∀ ed ∈ eds, ed.fields.length ≤ 61 ∧ (∀ f ∈ ed.fields, f.1.length ≤ 6000 ∧ f.2.length ≤ 6000) ∧ minF ed.fields ≤ 6000
def HeavyR (eds : List Ed) (e : Ending) : Prop := ∃ b : Bool, e = .returned (.bool b) ∧ (b = false → Light eds)
theorem Light.fine {eds : List Ed} (h : Light eds) {ed : Ed} (he : ed ∈ eds) : Fine7 ed.fields :=
  ⟨by have := (h.2 ed he).1; omega, fun f hf => by have := (h.2 ed he).2.1 f hf; omega⟩
set_option maxRecDepth 100000 in
set_option maxHeartbeats 4000000 in
theorem heavy_any (eds : List Ed) (v : Value) (w : World) (h : EdsIn w v eds) :
    Calls Tryz.prog 11 #[v] w fun e w' => HeavyR eds e ∧ Below w.heap.size w w' := by
  have HH := Lib.hid h
  obtain ⟨hm, A, cap, rfl, hle, hc⟩ := h
  have PC := Lib.hid hc
  clear hc
  unfold maxLen at hm
  go_enter Tryz.func11, Tryz.ntmps11
  go_wp2_with fail
  go_loopw [7] (fun i wr => ∃ k : Nat, k ≤ eds.length ∧ k ≤ 51 ∧ i = .int .i64 k ∧ (∀ ed ∈ eds.take k, ed.fields.length ≤ 61 ∧ (∀ f ∈ ed.fields, f.1.length ≤ 6000 ∧ f.2.length ≤ 6000) ∧ minF ed.fields ≤ 6000) ∧ Below w.heap.size w wr) (fun i _ => eds.length - (intOf i).toNat)
  case atStart => exact ⟨0, Nat.zero_le _, by decide, rfl, (fun ed h => by simp at h), Below.refl _ _⟩
  case round =>
    obtain ⟨k, hk, hk51, rfl, hsm, hb⟩ := hrel
    by_cases hlt : k < eds.length
    · obtain ⟨ed, hed⟩ : ∃ ed, eds[k]? = some ed := ⟨_, List.getElem?_eq_getElem hlt⟩
      obtain ⟨b, off, fv, rfl, hbb, c0, c1, c2, hf⟩ := PC.out k ed hed
      obtain ⟨fa, fc, rfl, _, _⟩ := _root_.id hf.flds
      replace c0 := (hb.cell (p := ⟨b, off + k * 3, none⟩) hbb).trans c0
      replace c1 := (hb.cell (p := ⟨b, off + k * 3 + 1, none⟩) hbb).trans c1
      replace c2 := (hb.cell (p := ⟨b, off + k * 3 + 1 + 1, none⟩) hbb).trans c2
      have TK := Lib.hid (show eds.take (k + 1) = eds.take k ++ [ed] by rw [List.take_add_one, hed]; rfl)
      have HSM := Lib.hid hsm
      obtain ⟨wa, hwa⟩ : ∃ wa, wa = wr.alloc (.cells #[.int .i64 ed.kind, .int .i64 ed.id, .slice fa ed.fields.length fc] 38) := ⟨_, rfl⟩
      have hba : Below w.heap.size w wa := by rw [hwa]; exact hb.alloc hb.size _
      have MU := Lib.hid (much_any ed.fields (.slice fa ed.fields.length fc) wa (hf.kept hba (Nat.le_refl _)).flds hf.len hf.each)
      have HBA := Lib.hid hba
      clear hed hsm hf hba
      by_cases h50 : 50 < k
      · subst hwa
        go_wp2_with fail
        go_ret
        exact ⟨⟨true, rfl, fun h => by cases h⟩, HBA.out⟩
      · subst hwa
        go_wp2_with fail
        refine MU.out.mono ?_
        rintro e w2 ⟨⟨q, rfl, hq⟩, b2⟩
        have HB2 := Lib.hid (HBA.out.trans (b2.mono HBA.out.size))
        have HQ := Lib.hid hq
        clear b2 hq MU
        cases q with
        | true =>
          go_wp2_with fail
          go_ret
          exact ⟨⟨true, rfl, fun h => by cases h⟩, HB2.out⟩
        | false =>
          go_wp2_with fail
          go_roundw
          case rel =>
            refine ⟨k + 1, hlt, by omega, by go_num, fun x hx => ?_, HB2.out⟩
            rw [TK.out] at hx
            rcases List.mem_append.1 hx with hx | hx
            · exact HSM.out x hx
            · rw [List.mem_singleton.1 hx]
              obtain ⟨a1, a2, a3⟩ := HQ.out (by first | exact rfl | trivial)
              exact ⟨a1, a2, a3⟩
          case measure => simp [intOf]; omega
    · obtain rfl : k = eds.length := by omega
      rw [List.take_length] at hsm
      have HSM := Lib.hid hsm
      clear PC hsm
      go_wp2_with fail
      go_ret
      exact ⟨⟨false, rfl, fun _ => ⟨hk51, HSM.out⟩⟩, hb⟩
end Go.Proofs.YtiebbgbcojgeoaaGreatDoor

namespace Go.Proofs.YtiebbgbcojgeoaaGreatDoor
open Go.RowKit Go.Shelf
attribute [local go_sem] Oper.semAt_some

/-- Insert by a list whose stanzas are well numbered. -/
theorem insert_R (lb : Nat) (ev : Value) (ps : List Pr) (nx id : Int) (fs : List Fld) (v : Value) (w : World) (h : LA w lb ev ps nx) (hwf : WF (ps.map Prod.fst)) (h4 : lenR (ps.map Prod.fst) ≤ 400) (hps : ps.length ≤ 10000) (hnx : -1000000 ≤ nx ∧ nx ≤ 1000000) (hs : FldR w v fs) (hfs : Fine7 fs) :
    Calls Tryz.prog 32 #[ptr lb, .int .i64 id, v] w fun e w' => ∃ u ev' ps', e = .returned (.tuple #[.int .i64 (insertR ⟨ps.map Prod.fst, nx⟩ id fs).id, u]) ∧ WrR w lb ev ps (insertR ⟨ps.map Prod.fst, nx⟩ id fs) u w' ev' ps' := by
  have := insert_list lb ev ps nx id fs v w h hps hnx hs hfs
  rw [gapP_R hwf, full_R hwf h4, show insertW (gapR (ps.map Prod.fst) id) (decide (400 ≤ lenR (ps.map Prod.fst))) ⟨ps.map Prod.fst, nx⟩ fs = insertR ⟨ps.map Prod.fst, nx⟩ id fs by rw [insertR_W]] at this
  exact this
theorem len_R (lb : Nat) (ev : Value) (ps : List Pr) (nx : Int) (w : World) (h : LR w lb ev ps nx) (hwf : WF (ps.map Prod.fst)) (hps : ps.length ≤ 1000000) :
    Calls Tryz.prog 31 #[ptr lb] w fun e w' => e = .returned (.int .i64 (lenR (ps.map Prod.fst) : Nat)) ∧ Below w.heap.size w w' := by
  have := len_any lb ev ps nx w h hps
  rw [stzP_len hwf] at this
  exact this
end Go.Proofs.YtiebbgbcojgeoaaGreatDoor

namespace Go.Proofs.YtiebbgbcojgeoaaGreatDoor

end Go.Proofs.YtiebbgbcojgeoaaGreatDoor

