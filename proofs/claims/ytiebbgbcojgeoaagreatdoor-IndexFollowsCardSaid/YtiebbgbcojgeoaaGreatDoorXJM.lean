/- A few of RO's and TG's, said once more under names of their own (the shaken base leaves them out). -/
import Derived.Test.YtiebbgbcojgeoaaGreatDoorBas0
set_option linter.unusedVariables false
namespace Go.Proofs.YtiebbgbcojgeoaaGreatDoor
open Go.RowKit Go.Shelf
attribute [local go_sem] Oper.semAt_some
theorem held_alloc9 {w w' : World} {o : Obj} (h : Below w.heap.size w w') : Below w.heap.size w (w'.alloc o) := h.alloc h.size o
section
variable {o : Oper} {a : Act} {w : World} {K : Act → World → Prop} {Q : Exit → Act → World → Prop}
theorem mo_not9 {x : Operand} {b : Bool} (ho : o.op = Op.unOp UnOp.not 4 x) (hx : a.eval x = .bool b) (hK : K (a.put o.dst (.bool (!b))) w) : Oper.wp Tryz.prog o a w K Q :=
  mo_run (by simp only [execOp, ho, hx]; simp [go_sem]) hK
theorem mo_neqI9 {x y : Operand} {m n : Int} (ho : o.op = Op.binOp BinOp.neq 3 x y 3) (hx : a.eval x = .int .i64 m) (hy : a.eval y = .int .i64 n) (hK : K (a.put o.dst (.bool (m != n))) w) : Oper.wp Tryz.prog o a w K Q :=
  mo_run (by simp only [execOp, ho, hx, hy]; simp [go_sem]) hK
theorem mo_field9 {x : Operand} {T : TypeId} {k b i j : Nat} (hf : (Instr.fieldAt T (.pointer (some ⟨b, i, none⟩)) k).run Tryz.prog w = .ok (.pointer (some ⟨b, j, none⟩)) w) (ho : o.op = Op.fieldAddr T x k) (hx : a.eval x = .pointer (some ⟨b, i, none⟩)) (hK : K (a.put o.dst (.pointer (some ⟨b, j, none⟩))) w) : Oper.wp Tryz.prog o a w K Q :=
  mo_run (by simp only [execOp, ho, hx]; simp [hf]) hK
end
section
variable {o : Oper} {a : Act} {w : World} {K : Act → World → Prop} {Q : Exit → Act → World → Prop} {T : Value → World → Prop}
theorem mo_call39 {x y z : Operand} {u v2 v3 : Value} (F : Nat) {T1 T2 T3 : TypeId} (ho : o.op = Op.call { callee := Callee.value (Operand.func F), args := #[x, y, z], argTypes := #[T1, T2, T3] }) (hx : a.eval x = u) (hy : a.eval y = v2) (hz : a.eval z = v3)
    (en : ∀ args w, (callFunc F args).run Tryz.prog w = .ok (.enter F args) w) (hC : Calls Tryz.prog F #[u, v2, v3] w fun e w' => ∃ v, e = .returned v ∧ T v w') (hK : ∀ v w', T v w' → K (a.put o.dst v) w') : Oper.wp Tryz.prog o a w K Q := by
  unfold Oper.wp
  have e : (execOp a.eval o).run Tryz.prog w = .ok (.enter F #[u, v2, v3]) w := by
    have hf : a.eval (.func F) = .func (.func F) #[] #[] := rfl
    generalize a.eval = ρ at hx hy hz hf ⊢
    simp only [execOp, ho]
    simp [go_sem, resolve, invoke, hx, hy, hz, hf, en]
  rw [e]
  refine hC.mono ?_
  rintro e w' ⟨v, rfl, h⟩
  exact hK v w' h
end
end Go.Proofs.YtiebbgbcojgeoaaGreatDoor
