/- The document's Parse: a row of fields copied, and one more, in any order that is drawn: by an invariant. (Written by gen_qi.py.) -/
import Derived.Test.YtafgebodmhkghaaDoorXRI
import Derived.Test.YtafgebodmhkghaaDoorBase4
set_option linter.unusedVariables false
namespace Go.Proofs.YtafgebodmhkghaaDoor
open Go.RowKit Go.Shelf

def ops29 : Array Oper := #[{ dst := some 106, op := Op.buildSlice 37 0 #[], type := 37, pos := "ref.go:71", after := #[], guard := none }, { dst := some 107, op := Op.fieldAddr 43 (Operand.tmp 9) 2, type := 0, pos := "ref.go:71", after := #[], guard := none }, { dst := some 108, op := Op.load 37 (Operand.tmp 107), type := 37, pos := "ref.go:71", after := #[{ on := 1, ground := Ground.data }], guard := none }, { dst := some 109, op := Op.call { callee := Callee.builtin Builtin.append, args := #[Operand.tmp 106, Operand.tmp 108], argTypes := #[37, 37] }, type := 37, pos := "ref.go:71", after := #[{ on := 0, ground := Ground.data }, { on := 2, ground := Ground.data }], guard := none }, { dst := some 110, op := Op.load 83 (Operand.tmp 13), type := 83, pos := "ref.go:71", after := #[], guard := none }, { dst := some 111, op := Op.buildSlice 37 1 #[(0, Operand.tmp 110)], type := 37, pos := "ref.go:71", after := #[{ on := 4, ground := Ground.data }], guard := none }, { dst := some 112, op := Op.call { callee := Callee.builtin Builtin.append, args := #[Operand.tmp 109, Operand.tmp 111], argTypes := #[37, 37] }, type := 37, pos := "ref.go:71", after := #[{ on := 3, ground := Ground.data }, { on := 5, ground := Ground.data }, { on := 3, ground := Ground.chain }], guard := none }, { dst := some 113, op := Op.fieldAddr 43 (Operand.tmp 9) 2, type := 0, pos := "ref.go:71", after := #[{ on := 0, ground := Ground.phase }, { on := 1, ground := Ground.phase }, { on := 2, ground := Ground.phase }, { on := 3, ground := Ground.phase }, { on := 4, ground := Ground.phase }, { on := 5, ground := Ground.phase }, { on := 6, ground := Ground.phase }], guard := none }, { dst := none, op := Op.store 37 (Operand.tmp 113) (Operand.tmp 112), type := 0, pos := "ref.go:71", after := #[{ on := 7, ground := Ground.data }, { on := 6, ground := Ground.data }, { on := 6, ground := Ground.chain }, { on := 0, ground := Ground.phase }, { on := 1, ground := Ground.phase }, { on := 2, ground := Ground.phase }, { on := 3, ground := Ground.phase }, { on := 4, ground := Ground.phase }, { on := 5, ground := Ground.phase }, { on := 6, ground := Ground.phase }], guard := none }]
theorem done29 : ∀ b0 b1 b2 b3 b4 b5 b6 b7 b8 : Bool, Region.ready .any ops29 #[b0, b1, b2, b3, b4, b5, b6, b7, b8] = [] → b8 = true := by decide +kernel
theorem ev29 {a : Act} {i : Nat} {v : Value} (h : a.tmps[i]? = some v) : a.eval (.tmp i) = v := by
  show a.tmps.getD i undef = v
  rw [Array.getD_eq_getD_getElem?, h]; rfl
theorem put29 {a : Act} {d : Nat} {v : Value} (hd : d < a.tmps.size) (j : Nat) : (a.put (some d) v).tmps[j]? = if j = d then some v else a.tmps[j]? := by
  show (a.tmps.setIfInBounds d v)[j]? = _
  rw [Array.getElem?_setIfInBounds]
  by_cases h : d = j
  · subst h; simp [hd]
  · rw [if_neg h, if_neg (Ne.symm h)]
theorem size29 (a : Act) (d : Nat) (v : Value) : (a.put (some d) v).tmps.size = a.tmps.size := by show (a.tmps.setIfInBounds d v).size = _; simp
set_option maxHeartbeats 1000000 in
theorem go_lit0 {o : Oper} {a : Act} {w : World} {K : Act → World → Prop} {Q : Exit → Act → World → Prop} (ho : o.op = Op.buildSlice 37 0 #[]) (hK : K (a.put o.dst (.slice (some ⟨w.heap.size, 0, none⟩) 0 0)) (w.alloc (.cells #[] 83))) : Oper.wp Tryd.prog o a w K Q := by
  unfold Oper.wp
  have e : (execOp a.eval o).run Tryd.prog w = .ok (.value (.slice (some ⟨w.heap.size, 0, none⟩) 0 0)) (w.alloc (.cells #[] 83)) := by
    simp only [execOp, ho]
    kernel_rfl
  rw [e]; exact hK
set_option maxHeartbeats 1000000 in
theorem go_lit1 {o : Oper} {a : Act} {w : World} {K : Act → World → Prop} {Q : Exit → Act → World → Prop} {x : Operand} {s t : ByteArray} (ho : o.op = Op.buildSlice 37 1 #[(0, x)]) (hx : a.eval x = .agg #[.string s, .string t]) (hK : K (a.put o.dst (.slice (some ⟨w.heap.size, 0, none⟩) 1 1)) (w.alloc (.cells #[.string s, .string t] 83))) : Oper.wp Tryd.prog o a w K Q := by
  unfold Oper.wp
  have e : (execOp a.eval o).run Tryd.prog w = .ok (.value (.slice (some ⟨w.heap.size, 0, none⟩) 1 1)) (w.alloc (.cells #[.string s, .string t] 83)) := by
    simp only [execOp, ho]
    rw [show (Array.map (fun (p : Nat × Operand) => match p with | (i, x) => (i, a.eval x)) #[((0 : Nat), x)]) = #[((0 : Nat), Value.agg #[.string s, .string t])] from by rw [← hx]; simp]
    kernel_rfl
  rw [e]; exact hK
set_option maxHeartbeats 1000000 in
theorem go_faddr {o : Oper} {a : Act} {w : World} {K : Act → World → Prop} {Q : Exit → Act → World → Prop} {x : Operand} {b : Nat} (ho : o.op = Op.fieldAddr 43 x 2) (hx : a.eval x = .pointer (some ⟨b, 0, none⟩)) (hK : K (a.put o.dst (.pointer (some ⟨b, 2, none⟩))) w) : Oper.wp Tryd.prog o a w K Q := by
  unfold Oper.wp
  have e : (execOp a.eval o).run Tryd.prog w = .ok (.value (.pointer (some ⟨b, 2, none⟩))) w := by
    simp only [execOp, ho, hx]
    simp [go_sem, Result.andThen]
  rw [e]; exact hK
set_option maxHeartbeats 1000000 in
theorem go_load1 {o : Oper} {a : Act} {w : World} {K : Act → World → Prop} {Q : Exit → Act → World → Prop} {x : Operand} {p : Addr} {v : Value} (ho : o.op = Op.load 37 x) (hx : a.eval x = .pointer (some p)) (hc : w.cell? p = some v) (hK : K (a.put o.dst v) w) : Oper.wp Tryd.prog o a w K Q := by
  unfold Oper.wp
  have e : (execOp a.eval o).run Tryd.prog w = .ok (.value v) w := by
    simp only [execOp, ho, hx]
    simp [go_sem, Result.andThen, hc]
  rw [e]; exact hK
set_option maxHeartbeats 1000000 in
theorem go_load2 {o : Oper} {a : Act} {w : World} {K : Act → World → Prop} {Q : Exit → Act → World → Prop} {x : Operand} {b : Nat} {u v : Value} (ho : o.op = Op.load 83 x) (hx : a.eval x = .pointer (some ⟨b, 0, none⟩)) (hc : w.cell? ⟨b, 0, none⟩ = some u) (hd : w.cell? ⟨b, 1, none⟩ = some v) (hK : K (a.put o.dst (.agg #[u, v])) w) : Oper.wp Tryd.prog o a w K Q := by
  unfold Oper.wp
  have e : (execOp a.eval o).run Tryd.prog w = .ok (.value (.agg #[u, v])) w := by
    simp only [execOp, ho, hx]
    simp [go_sem, Result.andThen, hc, hd]
  rw [e]; exact hK
set_option maxHeartbeats 1000000 in
theorem go_store1 {o : Oper} {a : Act} {w : World} {K : Act → World → Prop} {Q : Exit → Act → World → Prop} {x y : Operand} {p : Addr} {u : Value} {g : Option Addr} {n c : Nat} (ho : o.op = Op.store 37 x y) (hx : a.eval x = .pointer (some p)) (hy : a.eval y = .slice g n c) (hc : w.cell? p = some u) (hf : w.frozen? p = false) (hK : K (a.put o.dst undef) (w.setCell p (.slice g n c))) : Oper.wp Tryd.prog o a w K Q := by
  unfold Oper.wp
  have e : (execOp a.eval o).run Tryd.prog w = .ok .skip (w.setCell p (.slice g n c)) := by
    simp only [execOp, ho, hx, hy]
    simp [go_sem, Result.andThen, hc, hf]
  rw [e]; exact hK
end Go.Proofs.YtafgebodmhkghaaDoor
