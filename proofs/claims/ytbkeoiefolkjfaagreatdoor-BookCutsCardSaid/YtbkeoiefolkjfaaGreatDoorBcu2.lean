/- Texts put together: SO. -/
import Derived.Test.YtbkeoiefolkjfaaGreatDoorBbk1
import Derived.Test.YtbkeoiefolkjfaaGreatDoorBbk2
import Derived.Test.YtbkeoiefolkjfaaGreatDoorBbk3
import Derived.Test.YtbkeoiefolkjfaaGreatDoorBbk4
import Derived.Test.YtbkeoiefolkjfaaGreatDoorBbk5
import Derived.Test.YtbkeoiefolkjfaaGreatDoorBbk6
import Derived.Test.YtbkeoiefolkjfaaGreatDoorBbk7
import Derived.Test.YtbkeoiefolkjfaaGreatDoorBbk8
import Derived.Test.YtbkeoiefolkjfaaGreatDoorBbk9
import Derived.Test.YtbkeoiefolkjfaaGreatDoorBbk10
import Derived.Test.YtbkeoiefolkjfaaGreatDoorBbk11
import Derived.Test.YtbkeoiefolkjfaaGreatDoorBbk12
import Derived.Test.YtbkeoiefolkjfaaGreatDoorBbk13
import Derived.Test.YtbkeoiefolkjfaaGreatDoorBbk14
import Derived.Test.YtbkeoiefolkjfaaGreatDoorBbk15
import Derived.Test.YtbkeoiefolkjfaaGreatDoorBbk16
import Derived.Test.YtbkeoiefolkjfaaGreatDoorBbk17
import Derived.Test.YtbkeoiefolkjfaaGreatDoorBbk18
import Derived.Test.YtbkeoiefolkjfaaGreatDoorBbk19
import Derived.Test.YtbkeoiefolkjfaaGreatDoorBbk20
import Derived.Test.YtbkeoiefolkjfaaGreatDoorBbk21
import Derived.Test.YtbkeoiefolkjfaaGreatDoorBbk22
import Derived.Test.YtbkeoiefolkjfaaGreatDoorBbk23
import Derived.Test.YtbkeoiefolkjfaaGreatDoorBbk25
import Derived.Test.YtbkeoiefolkjfaaGreatDoorBbk26
import Derived.Test.YtbkeoiefolkjfaaGreatDoorBcu1
set_option linter.unusedVariables false
set_option maxRecDepth 100000
set_option maxHeartbeats 16000000
namespace Go.Proofs.YtbkeoiefolkjfaaGreatDoor
open Go.RowKit Go.Shelf
section
variable {K : Act -> World -> Prop} {Q : Exit -> Act -> World -> Prop} {o : Oper} {a : Act} {w : World}
theorem mo_neqE {x : Operand} (ho : o.op = Op.binOp BinOp.neq 28 x (Operand.const Value.nilIface) 28) (hx : a.eval x = .nilIface) (hK : K (a.put o.dst (.bool false)) w) : Oper.wp Tryz.prog o a w K Q :=
  mo_run (by
    have hy : a.eval (Operand.const Value.nilIface) = .nilIface := rfl
    generalize a.eval = ρ at hx hy ⊢
    simp only [execOp, ho, hx, hy]
    simp [go_sem, eqGuard]) hK
theorem mo_addI {x y : Operand} {m n : Int} (hw : IntKind.i64.wrap (m + n) = m + n) (ho : o.op = Op.binOp BinOp.add 3 x y 3) (hx : a.eval x = .int .i64 m) (hy : a.eval y = .int .i64 n) (hK : K (a.put o.dst (.int .i64 (m + n))) w) : Oper.wp Tryz.prog o a w K Q :=
  mo_run (by simp only [execOp, ho, hx, hy]; simp [go_sem, hw]) hK
theorem mo_lenBB {x : Operand} {f : Option Addr} {n c : Nat} (ho : o.op = Op.call { callee := Callee.builtin Builtin.len, args := #[x], argTypes := #[23] }) (hx : a.eval x = .slice f n c) (hK : K (a.put o.dst (.int .i64 n)) w) : Oper.wp Tryz.prog o a w K Q := by
  refine mo_run ?_ hK
  generalize a.eval = ρ at hx ⊢
  simp only [execOp, ho]
  simp [go_sem, hx, resolve, invoke, builtin, Result.andThen]
theorem mo_lenStr {x : Operand} {s : ByteArray} (ho : o.op = Op.call { callee := Callee.builtin Builtin.len, args := #[x], argTypes := #[9] }) (hx : a.eval x = .string s) (hK : K (a.put o.dst (.int .i64 s.size)) w) : Oper.wp Tryz.prog o a w K Q := by
  refine mo_run ?_ hK
  generalize a.eval = ρ at hx ⊢
  simp only [execOp, ho]
  simp [go_sem, hx, resolve, invoke, builtin, Result.andThen]
end
def ops_ct15 : Array Oper := #[
  { dst := some 80, op := Op.move (Operand.tmp 8), type := 28, pos := "law.go:113", after := #[], guard := none },
  { dst := some 81, op := Op.binOp BinOp.neq 28 (Operand.tmp 80) (Operand.const Value.nilIface) 28, type := 4, pos := "law.go:113", after := #[{ on := 0, ground := Ground.data }], guard := none },
  { dst := some 82, op := Op.move (Operand.tmp 81), type := 4, pos := "law.go:113", after := #[{ on := 1, ground := Ground.data }], guard := none },
  { dst := some 83, op := Op.move (Operand.tmp 10), type := 28, pos := "law.go:113", after := #[{ on := 2, ground := Ground.guard }], guard := some (2, false) },
  { dst := some 84, op := Op.binOp BinOp.neq 28 (Operand.tmp 83) (Operand.const Value.nilIface) 28, type := 4, pos := "law.go:113", after := #[{ on := 3, ground := Ground.data }, { on := 2, ground := Ground.guard }], guard := some (2, false) },
  { dst := some 85, op := Op.pick (Operand.tmp 82) (Operand.const (Value.bool true)) (Operand.tmp 84), type := 4, pos := "law.go:113", after := #[{ on := 2, ground := Ground.data }, { on := 4, ground := Ground.data }], guard := none },
  { dst := some 86, op := Op.move (Operand.tmp 85), type := 4, pos := "law.go:113", after := #[{ on := 5, ground := Ground.data }, { on := 2, ground := Ground.chain }], guard := none },
  { dst := some 87, op := Op.fieldAddr 26 (Operand.tmp 12) 4, type := 0, pos := "law.go:113", after := #[{ on := 6, ground := Ground.guard }], guard := some (6, false) },
  { dst := some 88, op := Op.load 9 (Operand.tmp 87), type := 9, pos := "law.go:113", after := #[{ on := 7, ground := Ground.data }, { on := 6, ground := Ground.guard }], guard := some (6, false) },
  { dst := some 89, op := Op.move (Operand.tmp 9), type := 9, pos := "law.go:113", after := #[{ on := 6, ground := Ground.guard }], guard := some (6, false) },
  { dst := some 90, op := Op.load 26 (Operand.tmp 7), type := 26, pos := "law.go:113", after := #[{ on := 6, ground := Ground.guard }], guard := some (6, false) },
  { dst := some 91, op := Op.call { callee := Callee.value (Operand.func 15), args := #[Operand.tmp 90], argTypes := #[26] }, type := 3, pos := "law.go:113", after := #[{ on := 10, ground := Ground.data }, { on := 6, ground := Ground.chain }, { on := 6, ground := Ground.guard }], guard := some (6, false) },
  { dst := some 92, op := Op.move (Operand.tmp 11), type := 3, pos := "law.go:113", after := #[{ on := 6, ground := Ground.guard }], guard := some (6, false) },
  { dst := some 93, op := Op.slice 9 (Operand.tmp 89) (some (Operand.tmp 91)) (some (Operand.tmp 92)) none, type := 9, pos := "law.go:113", after := #[{ on := 9, ground := Ground.data }, { on := 11, ground := Ground.data }, { on := 12, ground := Ground.data }, { on := 6, ground := Ground.guard }], guard := some (6, false) },
  { dst := some 94, op := Op.binOp BinOp.neq 9 (Operand.tmp 88) (Operand.tmp 93) 9, type := 4, pos := "law.go:113", after := #[{ on := 8, ground := Ground.data }, { on := 13, ground := Ground.data }, { on := 6, ground := Ground.guard }], guard := some (6, false) },
  { dst := some 95, op := Op.pick (Operand.tmp 86) (Operand.const (Value.bool true)) (Operand.tmp 94), type := 4, pos := "law.go:113", after := #[{ on := 6, ground := Ground.data }, { on := 14, ground := Ground.data }], guard := none },
  { dst := some 96, op := Op.move (Operand.tmp 95), type := 4, pos := "law.go:113", after := #[{ on := 15, ground := Ground.data }, { on := 11, ground := Ground.chain }], guard := none },
  { dst := some 97, op := Op.fieldAddr 26 (Operand.tmp 12) 0, type := 0, pos := "law.go:113", after := #[{ on := 16, ground := Ground.guard }], guard := some (16, false) },
  { dst := some 98, op := Op.load 3 (Operand.tmp 97), type := 3, pos := "law.go:113", after := #[{ on := 17, ground := Ground.data }, { on := 16, ground := Ground.guard }], guard := some (16, false) },
  { dst := some 99, op := Op.fieldAddr 26 (Operand.tmp 7) 0, type := 0, pos := "law.go:113", after := #[{ on := 16, ground := Ground.guard }], guard := some (16, false) },
  { dst := some 100, op := Op.load 3 (Operand.tmp 99), type := 3, pos := "law.go:113", after := #[{ on := 19, ground := Ground.data }, { on := 16, ground := Ground.guard }], guard := some (16, false) },
  { dst := some 101, op := Op.binOp BinOp.neq 3 (Operand.tmp 98) (Operand.tmp 100) 3, type := 4, pos := "law.go:113", after := #[{ on := 18, ground := Ground.data }, { on := 20, ground := Ground.data }, { on := 16, ground := Ground.guard }], guard := some (16, false) },
  { dst := some 102, op := Op.pick (Operand.tmp 96) (Operand.const (Value.bool true)) (Operand.tmp 101), type := 4, pos := "law.go:113", after := #[{ on := 16, ground := Ground.data }, { on := 21, ground := Ground.data }], guard := none },
  { dst := some 103, op := Op.move (Operand.tmp 102), type := 4, pos := "law.go:113", after := #[{ on := 22, ground := Ground.data }, { on := 16, ground := Ground.chain }], guard := none },
  { dst := some 104, op := Op.fieldAddr 26 (Operand.tmp 12) 1, type := 0, pos := "law.go:113", after := #[{ on := 23, ground := Ground.guard }], guard := some (23, false) },
  { dst := some 105, op := Op.load 9 (Operand.tmp 104), type := 9, pos := "law.go:113", after := #[{ on := 24, ground := Ground.data }, { on := 23, ground := Ground.guard }], guard := some (23, false) },
  { dst := some 106, op := Op.fieldAddr 26 (Operand.tmp 7) 1, type := 0, pos := "law.go:113", after := #[{ on := 23, ground := Ground.guard }], guard := some (23, false) },
  { dst := some 107, op := Op.load 9 (Operand.tmp 106), type := 9, pos := "law.go:113", after := #[{ on := 26, ground := Ground.data }, { on := 23, ground := Ground.guard }], guard := some (23, false) },
  { dst := some 108, op := Op.binOp BinOp.neq 9 (Operand.tmp 105) (Operand.tmp 107) 9, type := 4, pos := "law.go:113", after := #[{ on := 25, ground := Ground.data }, { on := 27, ground := Ground.data }, { on := 23, ground := Ground.guard }], guard := some (23, false) },
  { dst := some 109, op := Op.pick (Operand.tmp 103) (Operand.const (Value.bool true)) (Operand.tmp 108), type := 4, pos := "law.go:113", after := #[{ on := 23, ground := Ground.data }, { on := 28, ground := Ground.data }], guard := none },
  { dst := some 110, op := Op.move (Operand.tmp 109), type := 4, pos := "law.go:113", after := #[{ on := 29, ground := Ground.data }, { on := 23, ground := Ground.chain }], guard := none },
  { dst := some 111, op := Op.fieldAddr 26 (Operand.tmp 12) 2, type := 0, pos := "law.go:113", after := #[{ on := 30, ground := Ground.guard }], guard := some (30, false) },
  { dst := some 112, op := Op.load 23 (Operand.tmp 111), type := 23, pos := "law.go:113", after := #[{ on := 31, ground := Ground.data }, { on := 30, ground := Ground.guard }], guard := some (30, false) },
  { dst := some 113, op := Op.call { callee := Callee.builtin Builtin.len, args := #[Operand.tmp 112], argTypes := #[23] }, type := 3, pos := "law.go:113", after := #[{ on := 32, ground := Ground.data }, { on := 30, ground := Ground.guard }], guard := some (30, false) },
  { dst := some 114, op := Op.fieldAddr 26 (Operand.tmp 7) 2, type := 0, pos := "law.go:113", after := #[{ on := 30, ground := Ground.guard }], guard := some (30, false) },
  { dst := some 115, op := Op.load 23 (Operand.tmp 114), type := 23, pos := "law.go:113", after := #[{ on := 34, ground := Ground.data }, { on := 30, ground := Ground.guard }], guard := some (30, false) },
  { dst := some 116, op := Op.call { callee := Callee.builtin Builtin.len, args := #[Operand.tmp 115], argTypes := #[23] }, type := 3, pos := "law.go:113", after := #[{ on := 35, ground := Ground.data }, { on := 30, ground := Ground.guard }], guard := some (30, false) },
  { dst := some 117, op := Op.binOp BinOp.neq 3 (Operand.tmp 113) (Operand.tmp 116) 3, type := 4, pos := "law.go:113", after := #[{ on := 33, ground := Ground.data }, { on := 36, ground := Ground.data }, { on := 30, ground := Ground.guard }], guard := some (30, false) },
  { dst := some 118, op := Op.pick (Operand.tmp 110) (Operand.const (Value.bool true)) (Operand.tmp 117), type := 4, pos := "law.go:113", after := #[{ on := 30, ground := Ground.data }, { on := 37, ground := Ground.data }], guard := none },
  { dst := some 119, op := Op.move (Operand.tmp 118), type := 4, pos := "law.go:113", after := #[{ on := 38, ground := Ground.data }, { on := 30, ground := Ground.chain }], guard := none },
  { dst := some 120, op := Op.fieldAddr 26 (Operand.tmp 13) 2, type := 0, pos := "law.go:113", after := #[{ on := 39, ground := Ground.guard }], guard := some (39, false) },
  { dst := some 121, op := Op.load 23 (Operand.tmp 120), type := 23, pos := "law.go:113", after := #[{ on := 40, ground := Ground.data }, { on := 39, ground := Ground.guard }], guard := some (39, false) },
  { dst := some 122, op := Op.call { callee := Callee.builtin Builtin.len, args := #[Operand.tmp 121], argTypes := #[23] }, type := 3, pos := "law.go:113", after := #[{ on := 41, ground := Ground.data }, { on := 39, ground := Ground.guard }], guard := some (39, false) },
  { dst := some 123, op := Op.fieldAddr 26 (Operand.tmp 7) 2, type := 0, pos := "law.go:113", after := #[{ on := 39, ground := Ground.guard }], guard := some (39, false) },
  { dst := some 124, op := Op.load 23 (Operand.tmp 123), type := 23, pos := "law.go:113", after := #[{ on := 43, ground := Ground.data }, { on := 39, ground := Ground.guard }], guard := some (39, false) },
  { dst := some 125, op := Op.call { callee := Callee.builtin Builtin.len, args := #[Operand.tmp 124], argTypes := #[23] }, type := 3, pos := "law.go:113", after := #[{ on := 44, ground := Ground.data }, { on := 39, ground := Ground.guard }], guard := some (39, false) },
  { dst := some 126, op := Op.binOp BinOp.add 3 (Operand.tmp 125) (Operand.const (Value.int IntKind.i64 1)) 3, type := 3, pos := "law.go:113", after := #[{ on := 45, ground := Ground.data }, { on := 39, ground := Ground.guard }], guard := some (39, false) },
  { dst := some 127, op := Op.binOp BinOp.neq 3 (Operand.tmp 122) (Operand.tmp 126) 3, type := 4, pos := "law.go:113", after := #[{ on := 42, ground := Ground.data }, { on := 46, ground := Ground.data }, { on := 39, ground := Ground.guard }], guard := some (39, false) },
  { dst := some 128, op := Op.pick (Operand.tmp 119) (Operand.const (Value.bool true)) (Operand.tmp 127), type := 4, pos := "law.go:113", after := #[{ on := 39, ground := Ground.data }, { on := 47, ground := Ground.data }], guard := none },
  { dst := some 129, op := Op.move (Operand.tmp 128), type := 4, pos := "law.go:113", after := #[{ on := 48, ground := Ground.data }, { on := 39, ground := Ground.chain }], guard := none },
  { dst := some 130, op := Op.fieldAddr 26 (Operand.tmp 13) 4, type := 0, pos := "law.go:113", after := #[{ on := 49, ground := Ground.guard }], guard := some (49, false) },
  { dst := some 131, op := Op.load 9 (Operand.tmp 130), type := 9, pos := "law.go:113", after := #[{ on := 50, ground := Ground.data }, { on := 49, ground := Ground.guard }], guard := some (49, false) },
  { dst := some 132, op := Op.binOp BinOp.neq 9 (Operand.tmp 131) (Operand.const (Value.string { data := #[] })) 9, type := 4, pos := "law.go:113", after := #[{ on := 51, ground := Ground.data }, { on := 49, ground := Ground.guard }], guard := some (49, false) },
  { dst := some 133, op := Op.pick (Operand.tmp 129) (Operand.const (Value.bool true)) (Operand.tmp 132), type := 4, pos := "law.go:113", after := #[{ on := 49, ground := Ground.data }, { on := 52, ground := Ground.data }], guard := none },
  { dst := some 134, op := Op.move (Operand.tmp 133), type := 4, pos := "law.go:113", after := #[{ on := 53, ground := Ground.data }, { on := 49, ground := Ground.chain }], guard := none },
  { dst := some 135, op := Op.load 26 (Operand.tmp 13), type := 26, pos := "law.go:113", after := #[{ on := 54, ground := Ground.guard }], guard := some (54, false) },
  { dst := some 136, op := Op.call { callee := Callee.value (Operand.func 15), args := #[Operand.tmp 135], argTypes := #[26] }, type := 3, pos := "law.go:113", after := #[{ on := 55, ground := Ground.data }, { on := 54, ground := Ground.chain }, { on := 54, ground := Ground.guard }], guard := some (54, false) },
  { dst := some 137, op := Op.move (Operand.tmp 9), type := 9, pos := "law.go:113", after := #[{ on := 54, ground := Ground.guard }], guard := some (54, false) },
  { dst := some 138, op := Op.call { callee := Callee.builtin Builtin.len, args := #[Operand.tmp 137], argTypes := #[9] }, type := 3, pos := "law.go:113", after := #[{ on := 57, ground := Ground.data }, { on := 54, ground := Ground.guard }], guard := some (54, false) },
  { dst := some 139, op := Op.binOp BinOp.neq 3 (Operand.tmp 136) (Operand.tmp 138) 3, type := 4, pos := "law.go:113", after := #[{ on := 56, ground := Ground.data }, { on := 58, ground := Ground.data }, { on := 54, ground := Ground.guard }], guard := some (54, false) },
  { dst := some 140, op := Op.pick (Operand.tmp 134) (Operand.const (Value.bool true)) (Operand.tmp 139), type := 4, pos := "law.go:113", after := #[{ on := 54, ground := Ground.data }, { on := 59, ground := Ground.data }], guard := none }]
def dst_ct15 (i : Nat) : Option Nat := (ops_ct15[i]?).bind (·.dst)
theorem inj_ct15 : ∀ i, i < 61 -> ∀ k, k < 61 -> dst_ct15 i ≠ none -> dst_ct15 i = dst_ct15 k -> i = k := by decide +kernel
theorem lt_ct15 : ∀ i, i < 61 -> (dst_ct15 i).getD 0 < 177 := by decide +kernel
theorem low_ct15 : ∀ i : Fin 61, ∀ e ∈ (ops_ct15[i.1]'(by exact i.2)).after, Region.binds .any e = true -> e.on < i.1 := by decide +kernel
def pv_ct15 (pb pc pd z k L m g bc bcc bcd ec ecd : Nat) (ba bac bad ea ead : Option Addr) (X base tl cx E : ByteArray) : List (Value -> World -> Prop) := [
  fun v w => v = .nilIface,
  fun v w => v = .bool false,
  fun v w => v = .bool false,
  fun v w => v = .nilIface,
  fun v w => v = .bool false,
  fun v w => v = .bool false,
  fun v w => v = .bool false,
  fun v w => v = .pointer (some ⟨pc, 4, none⟩),
  fun v w => v = .string cx,
  fun v w => v = .string X,
  fun v w => v = .agg #[.int .i64 (g : Nat), .string base, .slice ba m bc, .slice ea m ec, .string tl],
  fun v w => v = .int .i64 (z : Nat),
  fun v w => v = .int .i64 ((z + k : Nat) : Int),
  fun v w => v = .string (X.extract z (z + k)),
  fun v w => v = .bool false,
  fun v w => v = .bool false,
  fun v w => v = .bool false,
  fun v w => v = .pointer (some ⟨pc, 0, none⟩),
  fun v w => v = .int .i64 (g : Nat),
  fun v w => v = .pointer (some ⟨pb, 0, none⟩),
  fun v w => v = .int .i64 (g : Nat),
  fun v w => v = .bool false,
  fun v w => v = .bool false,
  fun v w => v = .bool false,
  fun v w => v = .pointer (some ⟨pc, 1, none⟩),
  fun v w => v = .string base,
  fun v w => v = .pointer (some ⟨pb, 1, none⟩),
  fun v w => v = .string base,
  fun v w => v = .bool false,
  fun v w => v = .bool false,
  fun v w => v = .bool false,
  fun v w => v = .pointer (some ⟨pc, 2, none⟩),
  fun v w => v = .slice bac m bcc,
  fun v w => v = .int .i64 (m : Nat),
  fun v w => v = .pointer (some ⟨pb, 2, none⟩),
  fun v w => v = .slice ba m bc,
  fun v w => v = .int .i64 (m : Nat),
  fun v w => v = .bool false,
  fun v w => v = .bool false,
  fun v w => v = .bool false,
  fun v w => v = .pointer (some ⟨pd, 2, none⟩),
  fun v w => v = .slice bad (m + 1) bcd,
  fun v w => v = .int .i64 ((m + 1 : Nat) : Int),
  fun v w => v = .pointer (some ⟨pb, 2, none⟩),
  fun v w => v = .slice ba m bc,
  fun v w => v = .int .i64 (m : Nat),
  fun v w => v = .int .i64 ((m : Int) + 1),
  fun v w => v = .bool false,
  fun v w => v = .bool false,
  fun v w => v = .bool false,
  fun v w => v = .pointer (some ⟨pd, 4, none⟩),
  fun v w => v = .string E,
  fun v w => v = .bool false,
  fun v w => v = .bool false,
  fun v w => v = .bool false,
  fun v w => v = .agg #[.int .i64 (g : Nat), .string base, .slice bad (m + 1) bcd, .slice ead (m + 1) ecd, .string E],
  fun v w => v = .int .i64 ((z + L : Nat) : Int),
  fun v w => v = .string X,
  fun v w => v = .int .i64 (X.size : Nat),
  fun v w => v = .bool false,
  fun v w => v = .bool false]
theorem region_ct15 (a0 : Act) (w0 : World) (pb pc pd z k L m g bc bcc bcd ec ecd : Nat) (ba bac bad ea ead : Option Addr) (X base tl cx E : ByteArray) (Q : Exit -> Act -> World -> Prop)
    (hsz : a0.tmps.size = 177) (h8 : a0.tmps[8]? = some (.nilIface)) (h10 : a0.tmps[10]? = some (.nilIface)) (h12 : a0.tmps[12]? = some (.pointer (some ⟨pc, 0, none⟩))) (h9 : a0.tmps[9]? = some (.string X)) (h7 : a0.tmps[7]? = some (.pointer (some ⟨pb, 0, none⟩))) (h11 : a0.tmps[11]? = some (.int .i64 ((z + k : Nat) : Int))) (h13 : a0.tmps[13]? = some (.pointer (some ⟨pd, 0, none⟩)))
    (hS : ∀ W, Below w0.heap.size w0 W -> W.cell? ⟨pc, 4, none⟩ = some (.string cx) /\ W.cell? ⟨pc, 0, none⟩ = some (.int .i64 (g : Nat)) /\ W.cell? ⟨pb, 0, none⟩ = some (.int .i64 (g : Nat)) /\ W.cell? ⟨pc, 1, none⟩ = some (.string base) /\ W.cell? ⟨pb, 1, none⟩ = some (.string base) /\ W.cell? ⟨pc, 2, none⟩ = some (.slice bac m bcc) /\ W.cell? ⟨pb, 2, none⟩ = some (.slice ba m bc) /\ W.cell? ⟨pd, 2, none⟩ = some (.slice bad (m + 1) bcd) /\ W.cell? ⟨pb, 2, none⟩ = some (.slice ba m bc) /\ W.cell? ⟨pd, 4, none⟩ = some (.string E) /\ True)
    (hLb : ∀ W, Below w0.heap.size w0 W -> (Instr.loadAt 26 (.pointer (some ⟨pb, 0, none⟩))).run Tryz.prog W = .ok (.agg #[.int .i64 (g : Nat), .string base, .slice ba m bc, .slice ea m ec, .string tl]) W)
    (hLd : ∀ W, Below w0.heap.size w0 W -> (Instr.loadAt 26 (.pointer (some ⟨pd, 0, none⟩))).run Tryz.prog W = .ok (.agg #[.int .i64 (g : Nat), .string base, .slice bad (m + 1) bcd, .slice ead (m + 1) ecd, .string E]) W)
    (hle : z <= z + k /\ z + k <= X.size) (h14 : (cx.toList != (X.extract z (z + k)).toList) = false) (hm1 : IntKind.i64.wrap ((m : Int) + 1) = (m : Int) + 1) (hE0 : (E.toList != (⟨#[]⟩ : ByteArray).toList) = false) (h59 : (((z + L : Nat) : Int) != ((X.size : Nat) : Int)) = false)
    (hC11 : ∀ (W : World) (_ : Below w0.heap.size w0 W), Calls Tryz.prog 15 #[.agg #[.int .i64 (g : Nat), .string base, .slice ba m bc, .slice ea m ec, .string tl]] W fun e w => ∃ v, e = .returned v /\ (v = .int .i64 (z : Nat)) /\ Below W.heap.size W w)
    (hC56 : ∀ (W : World) (_ : Below w0.heap.size w0 W), Calls Tryz.prog 15 #[.agg #[.int .i64 (g : Nat), .string base, .slice bad (m + 1) bcd, .slice ead (m + 1) ecd, .string E]] W fun e w => ∃ v, e = .returned v /\ (v = .int .i64 ((z + L : Nat) : Int)) /\ Below W.heap.size W w)
    (hQ : ∀ (y0 y1 y2 y3 y4 y5 y6 y7 y8 y9 y10 y11 y12 y13 y14 y15 y16 y17 y18 y19 y20 y21 y22 y23 y24 y25 y26 y27 y28 y29 y30 y31 y32 y33 y34 y35 y36 y37 y38 y39 y40 y41 y42 y43 y44 y45 y46 y47 y48 y49 y50 y51 y52 y53 y54 y55 y56 y57 y58 y59 y60 : Value) (w : World), Below w0.heap.size w0 w -> ((fun (v : Value) (w : World) => v = .bool false) y60 w) -> Q .normal { a0 with tmps := [(80, y0), (81, y1), (82, y2), (83, y3), (84, y4), (85, y5), (86, y6), (87, y7), (88, y8), (89, y9), (90, y10), (91, y11), (92, y12), (93, y13), (94, y14), (95, y15), (96, y16), (97, y17), (98, y18), (99, y19), (100, y20), (101, y21), (102, y22), (103, y23), (104, y24), (105, y25), (106, y26), (107, y27), (108, y28), (109, y29), (110, y30), (111, y31), (112, y32), (113, y33), (114, y34), (115, y35), (116, y36), (117, y37), (118, y38), (119, y39), (120, y40), (121, y41), (122, y42), (123, y43), (124, y44), (125, y45), (126, y46), (127, y47), (128, y48), (129, y49), (130, y50), (131, y51), (132, y52), (133, y53), (134, y54), (135, y55), (136, y56), (137, y57), (138, y58), (139, y59), (140, y60)].foldl (fun u p => u.setIfInBounds p.1 p.2) a0.tmps } w) :
    wpAny Tryz.prog .any ops_ct15 Q ops_ct15.size (Array.replicate ops_ct15.size false) a0 w0 := by
  have M : AllM (pv_ct15 pb pc pd z k L m g bc bcc bcd ec ecd ba bac bad ea ead X base tl cx E) := ⟨fun v x y hb h => h, fun v x y hb h => h, fun v x y hb h => h, fun v x y hb h => h, fun v x y hb h => h, fun v x y hb h => h, fun v x y hb h => h, fun v x y hb h => h, fun v x y hb h => h, fun v x y hb h => h, fun v x y hb h => h, fun v x y hb h => h, fun v x y hb h => h, fun v x y hb h => h, fun v x y hb h => h, fun v x y hb h => h, fun v x y hb h => h, fun v x y hb h => h, fun v x y hb h => h, fun v x y hb h => h, fun v x y hb h => h, fun v x y hb h => h, fun v x y hb h => h, fun v x y hb h => h, fun v x y hb h => h, fun v x y hb h => h, fun v x y hb h => h, fun v x y hb h => h, fun v x y hb h => h, fun v x y hb h => h, fun v x y hb h => h, fun v x y hb h => h, fun v x y hb h => h, fun v x y hb h => h, fun v x y hb h => h, fun v x y hb h => h, fun v x y hb h => h, fun v x y hb h => h, fun v x y hb h => h, fun v x y hb h => h, fun v x y hb h => h, fun v x y hb h => h, fun v x y hb h => h, fun v x y hb h => h, fun v x y hb h => h, fun v x y hb h => h, fun v x y hb h => h, fun v x y hb h => h, fun v x y hb h => h, fun v x y hb h => h, fun v x y hb h => h, fun v x y hb h => h, fun v x y hb h => h, fun v x y hb h => h, fun v x y hb h => h, fun v x y hb h => h, fun v x y hb h => h, fun v x y hb h => h, fun v x y hb h => h, fun v x y hb h => h, fun v x y hb h => h, trivial⟩
  refine wpAny_mono a0 w0 dst_ct15 (pvL (pv_ct15 pb pc pd z k L m g bc bcc bcd ec ecd ba bac bad ea ead X base tl cx E)) (fun x y => Below x.heap.size x y) (Below.refl _ _) (fun x y h g => h.trans (g.mono h.size)) (fun i v x y _ g h => pvL_mono M g h)
    (fun i o ho => by unfold dst_ct15; rw [ho]; rfl)
    (fun i k d hi hk h1 h2 => inj_ct15 i hi k hk (by rw [h1]; intro q; cases q) (by rw [h1, h2]))
    (fun i d hi h => by have := lt_ct15 i hi; rw [h] at this; rw [hsz]; exact this)
    (fun i o e ho he hb => by
      obtain ⟨hi, rfl⟩ := Array.getElem?_eq_some_iff.1 ho
      exact low_ct15 ⟨i, hi⟩ e he hb)
    ?step (fun w _ => Below.refl _ _) ?fin
  case fin =>
    intro a w hd hs hf hv hR
    obtain ⟨y0, hy0, pv0⟩ := hv 0 80 (by decide) rfl
    obtain ⟨y1, hy1, pv1⟩ := hv 1 81 (by decide) rfl
    obtain ⟨y2, hy2, pv2⟩ := hv 2 82 (by decide) rfl
    obtain ⟨y3, hy3, pv3⟩ := hv 3 83 (by decide) rfl
    obtain ⟨y4, hy4, pv4⟩ := hv 4 84 (by decide) rfl
    obtain ⟨y5, hy5, pv5⟩ := hv 5 85 (by decide) rfl
    obtain ⟨y6, hy6, pv6⟩ := hv 6 86 (by decide) rfl
    obtain ⟨y7, hy7, pv7⟩ := hv 7 87 (by decide) rfl
    obtain ⟨y8, hy8, pv8⟩ := hv 8 88 (by decide) rfl
    obtain ⟨y9, hy9, pv9⟩ := hv 9 89 (by decide) rfl
    obtain ⟨y10, hy10, pv10⟩ := hv 10 90 (by decide) rfl
    obtain ⟨y11, hy11, pv11⟩ := hv 11 91 (by decide) rfl
    obtain ⟨y12, hy12, pv12⟩ := hv 12 92 (by decide) rfl
    obtain ⟨y13, hy13, pv13⟩ := hv 13 93 (by decide) rfl
    obtain ⟨y14, hy14, pv14⟩ := hv 14 94 (by decide) rfl
    obtain ⟨y15, hy15, pv15⟩ := hv 15 95 (by decide) rfl
    obtain ⟨y16, hy16, pv16⟩ := hv 16 96 (by decide) rfl
    obtain ⟨y17, hy17, pv17⟩ := hv 17 97 (by decide) rfl
    obtain ⟨y18, hy18, pv18⟩ := hv 18 98 (by decide) rfl
    obtain ⟨y19, hy19, pv19⟩ := hv 19 99 (by decide) rfl
    obtain ⟨y20, hy20, pv20⟩ := hv 20 100 (by decide) rfl
    obtain ⟨y21, hy21, pv21⟩ := hv 21 101 (by decide) rfl
    obtain ⟨y22, hy22, pv22⟩ := hv 22 102 (by decide) rfl
    obtain ⟨y23, hy23, pv23⟩ := hv 23 103 (by decide) rfl
    obtain ⟨y24, hy24, pv24⟩ := hv 24 104 (by decide) rfl
    obtain ⟨y25, hy25, pv25⟩ := hv 25 105 (by decide) rfl
    obtain ⟨y26, hy26, pv26⟩ := hv 26 106 (by decide) rfl
    obtain ⟨y27, hy27, pv27⟩ := hv 27 107 (by decide) rfl
    obtain ⟨y28, hy28, pv28⟩ := hv 28 108 (by decide) rfl
    obtain ⟨y29, hy29, pv29⟩ := hv 29 109 (by decide) rfl
    obtain ⟨y30, hy30, pv30⟩ := hv 30 110 (by decide) rfl
    obtain ⟨y31, hy31, pv31⟩ := hv 31 111 (by decide) rfl
    obtain ⟨y32, hy32, pv32⟩ := hv 32 112 (by decide) rfl
    obtain ⟨y33, hy33, pv33⟩ := hv 33 113 (by decide) rfl
    obtain ⟨y34, hy34, pv34⟩ := hv 34 114 (by decide) rfl
    obtain ⟨y35, hy35, pv35⟩ := hv 35 115 (by decide) rfl
    obtain ⟨y36, hy36, pv36⟩ := hv 36 116 (by decide) rfl
    obtain ⟨y37, hy37, pv37⟩ := hv 37 117 (by decide) rfl
    obtain ⟨y38, hy38, pv38⟩ := hv 38 118 (by decide) rfl
    obtain ⟨y39, hy39, pv39⟩ := hv 39 119 (by decide) rfl
    obtain ⟨y40, hy40, pv40⟩ := hv 40 120 (by decide) rfl
    obtain ⟨y41, hy41, pv41⟩ := hv 41 121 (by decide) rfl
    obtain ⟨y42, hy42, pv42⟩ := hv 42 122 (by decide) rfl
    obtain ⟨y43, hy43, pv43⟩ := hv 43 123 (by decide) rfl
    obtain ⟨y44, hy44, pv44⟩ := hv 44 124 (by decide) rfl
    obtain ⟨y45, hy45, pv45⟩ := hv 45 125 (by decide) rfl
    obtain ⟨y46, hy46, pv46⟩ := hv 46 126 (by decide) rfl
    obtain ⟨y47, hy47, pv47⟩ := hv 47 127 (by decide) rfl
    obtain ⟨y48, hy48, pv48⟩ := hv 48 128 (by decide) rfl
    obtain ⟨y49, hy49, pv49⟩ := hv 49 129 (by decide) rfl
    obtain ⟨y50, hy50, pv50⟩ := hv 50 130 (by decide) rfl
    obtain ⟨y51, hy51, pv51⟩ := hv 51 131 (by decide) rfl
    obtain ⟨y52, hy52, pv52⟩ := hv 52 132 (by decide) rfl
    obtain ⟨y53, hy53, pv53⟩ := hv 53 133 (by decide) rfl
    obtain ⟨y54, hy54, pv54⟩ := hv 54 134 (by decide) rfl
    obtain ⟨y55, hy55, pv55⟩ := hv 55 135 (by decide) rfl
    obtain ⟨y56, hy56, pv56⟩ := hv 56 136 (by decide) rfl
    obtain ⟨y57, hy57, pv57⟩ := hv 57 137 (by decide) rfl
    obtain ⟨y58, hy58, pv58⟩ := hv 58 138 (by decide) rfl
    obtain ⟨y59, hy59, pv59⟩ := hv 59 139 (by decide) rfl
    obtain ⟨y60, hy60, pv60⟩ := hv 60 140 (by decide) rfl
    rw [act_set' (a := a) (a0 := a0) [(80, y0), (81, y1), (82, y2), (83, y3), (84, y4), (85, y5), (86, y6), (87, y7), (88, y8), (89, y9), (90, y10), (91, y11), (92, y12), (93, y13), (94, y14), (95, y15), (96, y16), (97, y17), (98, y18), (99, y19), (100, y20), (101, y21), (102, y22), (103, y23), (104, y24), (105, y25), (106, y26), (107, y27), (108, y28), (109, y29), (110, y30), (111, y31), (112, y32), (113, y33), (114, y34), (115, y35), (116, y36), (117, y37), (118, y38), (119, y39), (120, y40), (121, y41), (122, y42), (123, y43), (124, y44), (125, y45), (126, y46), (127, y47), (128, y48), (129, y49), (130, y50), (131, y51), (132, y52), (133, y53), (134, y54), (135, y55), (136, y56), (137, y57), (138, y58), (139, y59), (140, y60)] hd hs (by
      intro p hp
      simp only [List.mem_cons, List.not_mem_nil, or_false] at hp
      rcases hp with rfl | rfl | rfl | rfl | rfl | rfl | rfl | rfl | rfl | rfl | rfl | rfl | rfl | rfl | rfl | rfl | rfl | rfl | rfl | rfl | rfl | rfl | rfl | rfl | rfl | rfl | rfl | rfl | rfl | rfl | rfl | rfl | rfl | rfl | rfl | rfl | rfl | rfl | rfl | rfl | rfl | rfl | rfl | rfl | rfl | rfl | rfl | rfl | rfl | rfl | rfl | rfl | rfl | rfl | rfl | rfl | rfl | rfl | rfl | rfl | rfl
      . exact hy0
      . exact hy1
      . exact hy2
      . exact hy3
      . exact hy4
      . exact hy5
      . exact hy6
      . exact hy7
      . exact hy8
      . exact hy9
      . exact hy10
      . exact hy11
      . exact hy12
      . exact hy13
      . exact hy14
      . exact hy15
      . exact hy16
      . exact hy17
      . exact hy18
      . exact hy19
      . exact hy20
      . exact hy21
      . exact hy22
      . exact hy23
      . exact hy24
      . exact hy25
      . exact hy26
      . exact hy27
      . exact hy28
      . exact hy29
      . exact hy30
      . exact hy31
      . exact hy32
      . exact hy33
      . exact hy34
      . exact hy35
      . exact hy36
      . exact hy37
      . exact hy38
      . exact hy39
      . exact hy40
      . exact hy41
      . exact hy42
      . exact hy43
      . exact hy44
      . exact hy45
      . exact hy46
      . exact hy47
      . exact hy48
      . exact hy49
      . exact hy50
      . exact hy51
      . exact hy52
      . exact hy53
      . exact hy54
      . exact hy55
      . exact hy56
      . exact hy57
      . exact hy58
      . exact hy59
      . exact hy60
      ) (fun j hj => hf j (fun k hk q => hj (by
        have : ∀ k, k < 61 -> (dst_ct15 k).all (fun d => [80, 81, 82, 83, 84, 85, 86, 87, 88, 89, 90, 91, 92, 93, 94, 95, 96, 97, 98, 99, 100, 101, 102, 103, 104, 105, 106, 107, 108, 109, 110, 111, 112, 113, 114, 115, 116, 117, 118, 119, 120, 121, 122, 123, 124, 125, 126, 127, 128, 129, 130, 131, 132, 133, 134, 135, 136, 137, 138, 139, 140].contains d) = true := by decide +kernel
        have h1 := this k hk
        rw [q] at h1
        simpa using h1)))]
    exact hQ y0 y1 y2 y3 y4 y5 y6 y7 y8 y9 y10 y11 y12 y13 y14 y15 y16 y17 y18 y19 y20 y21 y22 y23 y24 y25 y26 y27 y28 y29 y30 y31 y32 y33 y34 y35 y36 y37 y38 y39 y40 y41 y42 y43 y44 y45 y46 y47 y48 y49 y50 y51 y52 y53 y54 y55 y56 y57 y58 y59 y60 w hR pv60
  case step =>
  intro i o a w ho hs hf dep hR
  have hi : i < 61 := (Array.getElem?_eq_some_iff.1 ho).1
  have e8 := evT ((hf 8 (by decide +kernel)).trans h8)
  have e10 := evT ((hf 10 (by decide +kernel)).trans h10)
  have e12 := evT ((hf 12 (by decide +kernel)).trans h12)
  have e9 := evT ((hf 9 (by decide +kernel)).trans h9)
  have e7 := evT ((hf 7 (by decide +kernel)).trans h7)
  have e11 := evT ((hf 11 (by decide +kernel)).trans h11)
  have e13 := evT ((hf 13 (by decide +kernel)).trans h13)
  rcases (by omega : i = 0 \/ i = 1 \/ i = 2 \/ i = 3 \/ i = 4 \/ i = 5 \/ i = 6 \/ i = 7 \/ i = 8 \/ i = 9 \/ i = 10 \/ i = 11 \/ i = 12 \/ i = 13 \/ i = 14 \/ i = 15 \/ i = 16 \/ i = 17 \/ i = 18 \/ i = 19 \/ i = 20 \/ i = 21 \/ i = 22 \/ i = 23 \/ i = 24 \/ i = 25 \/ i = 26 \/ i = 27 \/ i = 28 \/ i = 29 \/ i = 30 \/ i = 31 \/ i = 32 \/ i = 33 \/ i = 34 \/ i = 35 \/ i = 36 \/ i = 37 \/ i = 38 \/ i = 39 \/ i = 40 \/ i = 41 \/ i = 42 \/ i = 43 \/ i = 44 \/ i = 45 \/ i = 46 \/ i = 47 \/ i = 48 \/ i = 49 \/ i = 50 \/ i = 51 \/ i = 52 \/ i = 53 \/ i = 54 \/ i = 55 \/ i = 56 \/ i = 57 \/ i = 58 \/ i = 59 \/ i = 60) with rfl | rfl | rfl | rfl | rfl | rfl | rfl | rfl | rfl | rfl | rfl | rfl | rfl | rfl | rfl | rfl | rfl | rfl | rfl | rfl | rfl | rfl | rfl | rfl | rfl | rfl | rfl | rfl | rfl | rfl | rfl | rfl | rfl | rfl | rfl | rfl | rfl | rfl | rfl | rfl | rfl | rfl | rfl | rfl | rfl | rfl | rfl | rfl | rfl | rfl | rfl | rfl | rfl | rfl | rfl | rfl | rfl | rfl | rfl | rfl | rfl
  . have ho2 : some _ = some o := ho
    obtain rfl := Option.some.inj ho2
    exact .inl ⟨wantN rfl, fun K hK => mo_move rfl e8 (hK _ _ (Below.refl _ _) rfl)⟩
  . have ho2 : some _ = some o := ho
    obtain rfl := Option.some.inj ho2
    obtain ⟨_, hv0, rfl⟩ : ∃ v, a.tmps[80]? = some v /\ (fun (v : Value) (w : World) => v = .nilIface) v w := dep ⟨0, Ground.data⟩ (by first | simp | simp [ops_ct15]) rfl 80 rfl
    exact .inl ⟨wantN rfl, fun K hK => mo_neqE rfl (evT hv0) (hK _ _ (Below.refl _ _) rfl)⟩
  . have ho2 : some _ = some o := ho
    obtain rfl := Option.some.inj ho2
    obtain ⟨_, hv1, rfl⟩ : ∃ v, a.tmps[81]? = some v /\ (fun (v : Value) (w : World) => v = .bool false) v w := dep ⟨1, Ground.data⟩ (by first | simp | simp [ops_ct15]) rfl 81 rfl
    exact .inl ⟨wantN rfl, fun K hK => mo_move rfl (evT hv1) (hK _ _ (Below.refl _ _) rfl)⟩
  . have ho2 : some _ = some o := ho
    obtain rfl := Option.some.inj ho2
    obtain ⟨_, hv2, rfl⟩ : ∃ v, a.tmps[82]? = some v /\ (fun (v : Value) (w : World) => v = .bool false) v w := dep ⟨2, Ground.guard⟩ (by first | simp | simp [ops_ct15]) rfl 82 rfl
    exact .inl ⟨wantG (b := false) rfl (show ((ops_ct15[2]?).bind (·.dst)) = some 82 from rfl) hv2, fun K hK => mo_move rfl e10 (hK _ _ (Below.refl _ _) rfl)⟩
  . have ho2 : some _ = some o := ho
    obtain rfl := Option.some.inj ho2
    obtain ⟨_, hv3, rfl⟩ : ∃ v, a.tmps[83]? = some v /\ (fun (v : Value) (w : World) => v = .nilIface) v w := dep ⟨3, Ground.data⟩ (by first | simp | simp [ops_ct15]) rfl 83 rfl
    obtain ⟨_, hv2, rfl⟩ : ∃ v, a.tmps[82]? = some v /\ (fun (v : Value) (w : World) => v = .bool false) v w := dep ⟨2, Ground.guard⟩ (by first | simp | simp [ops_ct15]) rfl 82 rfl
    exact .inl ⟨wantG (b := false) rfl (show ((ops_ct15[2]?).bind (·.dst)) = some 82 from rfl) hv2, fun K hK => mo_neqE rfl (evT hv3) (hK _ _ (Below.refl _ _) rfl)⟩
  . have ho2 : some _ = some o := ho
    obtain rfl := Option.some.inj ho2
    obtain ⟨_, hv2, rfl⟩ : ∃ v, a.tmps[82]? = some v /\ (fun (v : Value) (w : World) => v = .bool false) v w := dep ⟨2, Ground.data⟩ (by first | simp | simp [ops_ct15]) rfl 82 rfl
    obtain ⟨_, hv4, rfl⟩ : ∃ v, a.tmps[84]? = some v /\ (fun (v : Value) (w : World) => v = .bool false) v w := dep ⟨4, Ground.data⟩ (by first | simp | simp [ops_ct15]) rfl 84 rfl
    exact .inl ⟨wantN rfl, fun K hK => mo_pick rfl (evT hv2) rfl (evT hv4) rfl (hK _ _ (Below.refl _ _) rfl)⟩
  . have ho2 : some _ = some o := ho
    obtain rfl := Option.some.inj ho2
    obtain ⟨_, hv5, rfl⟩ : ∃ v, a.tmps[85]? = some v /\ (fun (v : Value) (w : World) => v = .bool false) v w := dep ⟨5, Ground.data⟩ (by first | simp | simp [ops_ct15]) rfl 85 rfl
    exact .inl ⟨wantN rfl, fun K hK => mo_move rfl (evT hv5) (hK _ _ (Below.refl _ _) rfl)⟩
  . have ho2 : some _ = some o := ho
    obtain rfl := Option.some.inj ho2
    obtain ⟨_, hv6, rfl⟩ : ∃ v, a.tmps[86]? = some v /\ (fun (v : Value) (w : World) => v = .bool false) v w := dep ⟨6, Ground.guard⟩ (by first | simp | simp [ops_ct15]) rfl 86 rfl
    exact .inl ⟨wantG (b := false) rfl (show ((ops_ct15[6]?).bind (·.dst)) = some 86 from rfl) hv6, fun K hK => mo_field (by simp [go_sem]) rfl e12 (hK _ _ (Below.refl _ _) rfl)⟩
  . have ho2 : some _ = some o := ho
    obtain rfl := Option.some.inj ho2
    obtain ⟨_, hv7, rfl⟩ : ∃ v, a.tmps[87]? = some v /\ (fun (v : Value) (w : World) => v = .pointer (some ⟨pc, 4, none⟩)) v w := dep ⟨7, Ground.data⟩ (by first | simp | simp [ops_ct15]) rfl 87 rfl
    obtain ⟨_, hv6, rfl⟩ : ∃ v, a.tmps[86]? = some v /\ (fun (v : Value) (w : World) => v = .bool false) v w := dep ⟨6, Ground.guard⟩ (by first | simp | simp [ops_ct15]) rfl 86 rfl
    exact .inl ⟨wantG (b := false) rfl (show ((ops_ct15[6]?).bind (·.dst)) = some 86 from rfl) hv6, fun K hK => mo_load (by simp [go_sem, (hS w hR).1]) rfl (evT hv7) (hK _ _ (Below.refl _ _) rfl)⟩
  . have ho2 : some _ = some o := ho
    obtain rfl := Option.some.inj ho2
    obtain ⟨_, hv6, rfl⟩ : ∃ v, a.tmps[86]? = some v /\ (fun (v : Value) (w : World) => v = .bool false) v w := dep ⟨6, Ground.guard⟩ (by first | simp | simp [ops_ct15]) rfl 86 rfl
    exact .inl ⟨wantG (b := false) rfl (show ((ops_ct15[6]?).bind (·.dst)) = some 86 from rfl) hv6, fun K hK => mo_move rfl e9 (hK _ _ (Below.refl _ _) rfl)⟩
  . have ho2 : some _ = some o := ho
    obtain rfl := Option.some.inj ho2
    obtain ⟨_, hv6, rfl⟩ : ∃ v, a.tmps[86]? = some v /\ (fun (v : Value) (w : World) => v = .bool false) v w := dep ⟨6, Ground.guard⟩ (by first | simp | simp [ops_ct15]) rfl 86 rfl
    exact .inl ⟨wantG (b := false) rfl (show ((ops_ct15[6]?).bind (·.dst)) = some 86 from rfl) hv6, fun K hK => mo_load (hLb w hR) rfl e7 (hK _ _ (Below.refl _ _) rfl)⟩
  . have ho2 : some _ = some o := ho
    obtain rfl := Option.some.inj ho2
    obtain ⟨_, hv10, rfl⟩ : ∃ v, a.tmps[90]? = some v /\ (fun (v : Value) (w : World) => v = .agg #[.int .i64 (g : Nat), .string base, .slice ba m bc, .slice ea m ec, .string tl]) v w := dep ⟨10, Ground.data⟩ (by first | simp | simp [ops_ct15]) rfl 90 rfl
    obtain ⟨_, hv6, rfl⟩ : ∃ v, a.tmps[86]? = some v /\ (fun (v : Value) (w : World) => v = .bool false) v w := dep ⟨6, Ground.guard⟩ (by first | simp | simp [ops_ct15]) rfl 86 rfl
    exact .inl ⟨wantG (b := false) rfl (show ((ops_ct15[6]?).bind (·.dst)) = some 86 from rfl) hv6, fun K hK => mo_call1 15 rfl (evT hv10) (enters_of (P := Tryz.prog) Tryz.func15 (by kernel_rfl) rfl) (hC11 w hR) (fun v w' h => hK v w' h.2 h.1)⟩
  . have ho2 : some _ = some o := ho
    obtain rfl := Option.some.inj ho2
    obtain ⟨_, hv6, rfl⟩ : ∃ v, a.tmps[86]? = some v /\ (fun (v : Value) (w : World) => v = .bool false) v w := dep ⟨6, Ground.guard⟩ (by first | simp | simp [ops_ct15]) rfl 86 rfl
    exact .inl ⟨wantG (b := false) rfl (show ((ops_ct15[6]?).bind (·.dst)) = some 86 from rfl) hv6, fun K hK => mo_move rfl e11 (hK _ _ (Below.refl _ _) rfl)⟩
  . have ho2 : some _ = some o := ho
    obtain rfl := Option.some.inj ho2
    obtain ⟨_, hv9, rfl⟩ : ∃ v, a.tmps[89]? = some v /\ (fun (v : Value) (w : World) => v = .string X) v w := dep ⟨9, Ground.data⟩ (by first | simp | simp [ops_ct15]) rfl 89 rfl
    obtain ⟨_, hv11, rfl⟩ : ∃ v, a.tmps[91]? = some v /\ (fun (v : Value) (w : World) => v = .int .i64 (z : Nat)) v w := dep ⟨11, Ground.data⟩ (by first | simp | simp [ops_ct15]) rfl 91 rfl
    obtain ⟨_, hv12, rfl⟩ : ∃ v, a.tmps[92]? = some v /\ (fun (v : Value) (w : World) => v = .int .i64 ((z + k : Nat) : Int)) v w := dep ⟨12, Ground.data⟩ (by first | simp | simp [ops_ct15]) rfl 92 rfl
    obtain ⟨_, hv6, rfl⟩ : ∃ v, a.tmps[86]? = some v /\ (fun (v : Value) (w : World) => v = .bool false) v w := dep ⟨6, Ground.guard⟩ (by first | simp | simp [ops_ct15]) rfl 86 rfl
    exact .inl ⟨wantG (b := false) rfl (show ((ops_ct15[6]?).bind (·.dst)) = some 86 from rfl) hv6, fun K hK => mo_slice2 rfl (evT hv9) (evT hv11) (evT hv12) hle.1 hle.2 (hK _ _ (Below.refl _ _) rfl)⟩
  . have ho2 : some _ = some o := ho
    obtain rfl := Option.some.inj ho2
    obtain ⟨_, hv8, rfl⟩ : ∃ v, a.tmps[88]? = some v /\ (fun (v : Value) (w : World) => v = .string cx) v w := dep ⟨8, Ground.data⟩ (by first | simp | simp [ops_ct15]) rfl 88 rfl
    obtain ⟨_, hv13, rfl⟩ : ∃ v, a.tmps[93]? = some v /\ (fun (v : Value) (w : World) => v = .string (X.extract z (z + k))) v w := dep ⟨13, Ground.data⟩ (by first | simp | simp [ops_ct15]) rfl 93 rfl
    obtain ⟨_, hv6, rfl⟩ : ∃ v, a.tmps[86]? = some v /\ (fun (v : Value) (w : World) => v = .bool false) v w := dep ⟨6, Ground.guard⟩ (by first | simp | simp [ops_ct15]) rfl 86 rfl
    exact .inl ⟨wantG (b := false) rfl (show ((ops_ct15[6]?).bind (·.dst)) = some 86 from rfl) hv6, fun K hK => mo_neqS rfl (evT hv8) (evT hv13) (hK _ _ (Below.refl _ _) (congrArg Value.bool (h14)))⟩
  . have ho2 : some _ = some o := ho
    obtain rfl := Option.some.inj ho2
    obtain ⟨_, hv6, rfl⟩ : ∃ v, a.tmps[86]? = some v /\ (fun (v : Value) (w : World) => v = .bool false) v w := dep ⟨6, Ground.data⟩ (by first | simp | simp [ops_ct15]) rfl 86 rfl
    obtain ⟨_, hv14, rfl⟩ : ∃ v, a.tmps[94]? = some v /\ (fun (v : Value) (w : World) => v = .bool false) v w := dep ⟨14, Ground.data⟩ (by first | simp | simp [ops_ct15]) rfl 94 rfl
    exact .inl ⟨wantN rfl, fun K hK => mo_pick rfl (evT hv6) rfl (evT hv14) rfl (hK _ _ (Below.refl _ _) rfl)⟩
  . have ho2 : some _ = some o := ho
    obtain rfl := Option.some.inj ho2
    obtain ⟨_, hv15, rfl⟩ : ∃ v, a.tmps[95]? = some v /\ (fun (v : Value) (w : World) => v = .bool false) v w := dep ⟨15, Ground.data⟩ (by first | simp | simp [ops_ct15]) rfl 95 rfl
    exact .inl ⟨wantN rfl, fun K hK => mo_move rfl (evT hv15) (hK _ _ (Below.refl _ _) rfl)⟩
  . have ho2 : some _ = some o := ho
    obtain rfl := Option.some.inj ho2
    obtain ⟨_, hv16, rfl⟩ : ∃ v, a.tmps[96]? = some v /\ (fun (v : Value) (w : World) => v = .bool false) v w := dep ⟨16, Ground.guard⟩ (by first | simp | simp [ops_ct15]) rfl 96 rfl
    exact .inl ⟨wantG (b := false) rfl (show ((ops_ct15[16]?).bind (·.dst)) = some 96 from rfl) hv16, fun K hK => mo_field (by simp [go_sem]) rfl e12 (hK _ _ (Below.refl _ _) rfl)⟩
  . have ho2 : some _ = some o := ho
    obtain rfl := Option.some.inj ho2
    obtain ⟨_, hv17, rfl⟩ : ∃ v, a.tmps[97]? = some v /\ (fun (v : Value) (w : World) => v = .pointer (some ⟨pc, 0, none⟩)) v w := dep ⟨17, Ground.data⟩ (by first | simp | simp [ops_ct15]) rfl 97 rfl
    obtain ⟨_, hv16, rfl⟩ : ∃ v, a.tmps[96]? = some v /\ (fun (v : Value) (w : World) => v = .bool false) v w := dep ⟨16, Ground.guard⟩ (by first | simp | simp [ops_ct15]) rfl 96 rfl
    exact .inl ⟨wantG (b := false) rfl (show ((ops_ct15[16]?).bind (·.dst)) = some 96 from rfl) hv16, fun K hK => mo_load (by simp [go_sem, (hS w hR).2.1]) rfl (evT hv17) (hK _ _ (Below.refl _ _) rfl)⟩
  . have ho2 : some _ = some o := ho
    obtain rfl := Option.some.inj ho2
    obtain ⟨_, hv16, rfl⟩ : ∃ v, a.tmps[96]? = some v /\ (fun (v : Value) (w : World) => v = .bool false) v w := dep ⟨16, Ground.guard⟩ (by first | simp | simp [ops_ct15]) rfl 96 rfl
    exact .inl ⟨wantG (b := false) rfl (show ((ops_ct15[16]?).bind (·.dst)) = some 96 from rfl) hv16, fun K hK => mo_field (by simp [go_sem]) rfl e7 (hK _ _ (Below.refl _ _) rfl)⟩
  . have ho2 : some _ = some o := ho
    obtain rfl := Option.some.inj ho2
    obtain ⟨_, hv19, rfl⟩ : ∃ v, a.tmps[99]? = some v /\ (fun (v : Value) (w : World) => v = .pointer (some ⟨pb, 0, none⟩)) v w := dep ⟨19, Ground.data⟩ (by first | simp | simp [ops_ct15]) rfl 99 rfl
    obtain ⟨_, hv16, rfl⟩ : ∃ v, a.tmps[96]? = some v /\ (fun (v : Value) (w : World) => v = .bool false) v w := dep ⟨16, Ground.guard⟩ (by first | simp | simp [ops_ct15]) rfl 96 rfl
    exact .inl ⟨wantG (b := false) rfl (show ((ops_ct15[16]?).bind (·.dst)) = some 96 from rfl) hv16, fun K hK => mo_load (by simp [go_sem, (hS w hR).2.2.1]) rfl (evT hv19) (hK _ _ (Below.refl _ _) rfl)⟩
  . have ho2 : some _ = some o := ho
    obtain rfl := Option.some.inj ho2
    obtain ⟨_, hv18, rfl⟩ : ∃ v, a.tmps[98]? = some v /\ (fun (v : Value) (w : World) => v = .int .i64 (g : Nat)) v w := dep ⟨18, Ground.data⟩ (by first | simp | simp [ops_ct15]) rfl 98 rfl
    obtain ⟨_, hv20, rfl⟩ : ∃ v, a.tmps[100]? = some v /\ (fun (v : Value) (w : World) => v = .int .i64 (g : Nat)) v w := dep ⟨20, Ground.data⟩ (by first | simp | simp [ops_ct15]) rfl 100 rfl
    obtain ⟨_, hv16, rfl⟩ : ∃ v, a.tmps[96]? = some v /\ (fun (v : Value) (w : World) => v = .bool false) v w := dep ⟨16, Ground.guard⟩ (by first | simp | simp [ops_ct15]) rfl 96 rfl
    exact .inl ⟨wantG (b := false) rfl (show ((ops_ct15[16]?).bind (·.dst)) = some 96 from rfl) hv16, fun K hK => mo_neqI rfl (evT hv18) (evT hv20) (hK _ _ (Below.refl _ _) (congrArg Value.bool (by simp)))⟩
  . have ho2 : some _ = some o := ho
    obtain rfl := Option.some.inj ho2
    obtain ⟨_, hv16, rfl⟩ : ∃ v, a.tmps[96]? = some v /\ (fun (v : Value) (w : World) => v = .bool false) v w := dep ⟨16, Ground.data⟩ (by first | simp | simp [ops_ct15]) rfl 96 rfl
    obtain ⟨_, hv21, rfl⟩ : ∃ v, a.tmps[101]? = some v /\ (fun (v : Value) (w : World) => v = .bool false) v w := dep ⟨21, Ground.data⟩ (by first | simp | simp [ops_ct15]) rfl 101 rfl
    exact .inl ⟨wantN rfl, fun K hK => mo_pick rfl (evT hv16) rfl (evT hv21) rfl (hK _ _ (Below.refl _ _) rfl)⟩
  . have ho2 : some _ = some o := ho
    obtain rfl := Option.some.inj ho2
    obtain ⟨_, hv22, rfl⟩ : ∃ v, a.tmps[102]? = some v /\ (fun (v : Value) (w : World) => v = .bool false) v w := dep ⟨22, Ground.data⟩ (by first | simp | simp [ops_ct15]) rfl 102 rfl
    exact .inl ⟨wantN rfl, fun K hK => mo_move rfl (evT hv22) (hK _ _ (Below.refl _ _) rfl)⟩
  . have ho2 : some _ = some o := ho
    obtain rfl := Option.some.inj ho2
    obtain ⟨_, hv23, rfl⟩ : ∃ v, a.tmps[103]? = some v /\ (fun (v : Value) (w : World) => v = .bool false) v w := dep ⟨23, Ground.guard⟩ (by first | simp | simp [ops_ct15]) rfl 103 rfl
    exact .inl ⟨wantG (b := false) rfl (show ((ops_ct15[23]?).bind (·.dst)) = some 103 from rfl) hv23, fun K hK => mo_field (by simp [go_sem]) rfl e12 (hK _ _ (Below.refl _ _) rfl)⟩
  . have ho2 : some _ = some o := ho
    obtain rfl := Option.some.inj ho2
    obtain ⟨_, hv24, rfl⟩ : ∃ v, a.tmps[104]? = some v /\ (fun (v : Value) (w : World) => v = .pointer (some ⟨pc, 1, none⟩)) v w := dep ⟨24, Ground.data⟩ (by first | simp | simp [ops_ct15]) rfl 104 rfl
    obtain ⟨_, hv23, rfl⟩ : ∃ v, a.tmps[103]? = some v /\ (fun (v : Value) (w : World) => v = .bool false) v w := dep ⟨23, Ground.guard⟩ (by first | simp | simp [ops_ct15]) rfl 103 rfl
    exact .inl ⟨wantG (b := false) rfl (show ((ops_ct15[23]?).bind (·.dst)) = some 103 from rfl) hv23, fun K hK => mo_load (by simp [go_sem, (hS w hR).2.2.2.1]) rfl (evT hv24) (hK _ _ (Below.refl _ _) rfl)⟩
  . have ho2 : some _ = some o := ho
    obtain rfl := Option.some.inj ho2
    obtain ⟨_, hv23, rfl⟩ : ∃ v, a.tmps[103]? = some v /\ (fun (v : Value) (w : World) => v = .bool false) v w := dep ⟨23, Ground.guard⟩ (by first | simp | simp [ops_ct15]) rfl 103 rfl
    exact .inl ⟨wantG (b := false) rfl (show ((ops_ct15[23]?).bind (·.dst)) = some 103 from rfl) hv23, fun K hK => mo_field (by simp [go_sem]) rfl e7 (hK _ _ (Below.refl _ _) rfl)⟩
  . have ho2 : some _ = some o := ho
    obtain rfl := Option.some.inj ho2
    obtain ⟨_, hv26, rfl⟩ : ∃ v, a.tmps[106]? = some v /\ (fun (v : Value) (w : World) => v = .pointer (some ⟨pb, 1, none⟩)) v w := dep ⟨26, Ground.data⟩ (by first | simp | simp [ops_ct15]) rfl 106 rfl
    obtain ⟨_, hv23, rfl⟩ : ∃ v, a.tmps[103]? = some v /\ (fun (v : Value) (w : World) => v = .bool false) v w := dep ⟨23, Ground.guard⟩ (by first | simp | simp [ops_ct15]) rfl 103 rfl
    exact .inl ⟨wantG (b := false) rfl (show ((ops_ct15[23]?).bind (·.dst)) = some 103 from rfl) hv23, fun K hK => mo_load (by simp [go_sem, (hS w hR).2.2.2.2.1]) rfl (evT hv26) (hK _ _ (Below.refl _ _) rfl)⟩
  . have ho2 : some _ = some o := ho
    obtain rfl := Option.some.inj ho2
    obtain ⟨_, hv25, rfl⟩ : ∃ v, a.tmps[105]? = some v /\ (fun (v : Value) (w : World) => v = .string base) v w := dep ⟨25, Ground.data⟩ (by first | simp | simp [ops_ct15]) rfl 105 rfl
    obtain ⟨_, hv27, rfl⟩ : ∃ v, a.tmps[107]? = some v /\ (fun (v : Value) (w : World) => v = .string base) v w := dep ⟨27, Ground.data⟩ (by first | simp | simp [ops_ct15]) rfl 107 rfl
    obtain ⟨_, hv23, rfl⟩ : ∃ v, a.tmps[103]? = some v /\ (fun (v : Value) (w : World) => v = .bool false) v w := dep ⟨23, Ground.guard⟩ (by first | simp | simp [ops_ct15]) rfl 103 rfl
    exact .inl ⟨wantG (b := false) rfl (show ((ops_ct15[23]?).bind (·.dst)) = some 103 from rfl) hv23, fun K hK => mo_neqS rfl (evT hv25) (evT hv27) (hK _ _ (Below.refl _ _) (congrArg Value.bool (by simp)))⟩
  . have ho2 : some _ = some o := ho
    obtain rfl := Option.some.inj ho2
    obtain ⟨_, hv23, rfl⟩ : ∃ v, a.tmps[103]? = some v /\ (fun (v : Value) (w : World) => v = .bool false) v w := dep ⟨23, Ground.data⟩ (by first | simp | simp [ops_ct15]) rfl 103 rfl
    obtain ⟨_, hv28, rfl⟩ : ∃ v, a.tmps[108]? = some v /\ (fun (v : Value) (w : World) => v = .bool false) v w := dep ⟨28, Ground.data⟩ (by first | simp | simp [ops_ct15]) rfl 108 rfl
    exact .inl ⟨wantN rfl, fun K hK => mo_pick rfl (evT hv23) rfl (evT hv28) rfl (hK _ _ (Below.refl _ _) rfl)⟩
  . have ho2 : some _ = some o := ho
    obtain rfl := Option.some.inj ho2
    obtain ⟨_, hv29, rfl⟩ : ∃ v, a.tmps[109]? = some v /\ (fun (v : Value) (w : World) => v = .bool false) v w := dep ⟨29, Ground.data⟩ (by first | simp | simp [ops_ct15]) rfl 109 rfl
    exact .inl ⟨wantN rfl, fun K hK => mo_move rfl (evT hv29) (hK _ _ (Below.refl _ _) rfl)⟩
  . have ho2 : some _ = some o := ho
    obtain rfl := Option.some.inj ho2
    obtain ⟨_, hv30, rfl⟩ : ∃ v, a.tmps[110]? = some v /\ (fun (v : Value) (w : World) => v = .bool false) v w := dep ⟨30, Ground.guard⟩ (by first | simp | simp [ops_ct15]) rfl 110 rfl
    exact .inl ⟨wantG (b := false) rfl (show ((ops_ct15[30]?).bind (·.dst)) = some 110 from rfl) hv30, fun K hK => mo_field (by simp [go_sem]) rfl e12 (hK _ _ (Below.refl _ _) rfl)⟩
  . have ho2 : some _ = some o := ho
    obtain rfl := Option.some.inj ho2
    obtain ⟨_, hv31, rfl⟩ : ∃ v, a.tmps[111]? = some v /\ (fun (v : Value) (w : World) => v = .pointer (some ⟨pc, 2, none⟩)) v w := dep ⟨31, Ground.data⟩ (by first | simp | simp [ops_ct15]) rfl 111 rfl
    obtain ⟨_, hv30, rfl⟩ : ∃ v, a.tmps[110]? = some v /\ (fun (v : Value) (w : World) => v = .bool false) v w := dep ⟨30, Ground.guard⟩ (by first | simp | simp [ops_ct15]) rfl 110 rfl
    exact .inl ⟨wantG (b := false) rfl (show ((ops_ct15[30]?).bind (·.dst)) = some 110 from rfl) hv30, fun K hK => mo_load (by simp [go_sem, (hS w hR).2.2.2.2.2.1]) rfl (evT hv31) (hK _ _ (Below.refl _ _) rfl)⟩
  . have ho2 : some _ = some o := ho
    obtain rfl := Option.some.inj ho2
    obtain ⟨_, hv32, rfl⟩ : ∃ v, a.tmps[112]? = some v /\ (fun (v : Value) (w : World) => v = .slice bac m bcc) v w := dep ⟨32, Ground.data⟩ (by first | simp | simp [ops_ct15]) rfl 112 rfl
    obtain ⟨_, hv30, rfl⟩ : ∃ v, a.tmps[110]? = some v /\ (fun (v : Value) (w : World) => v = .bool false) v w := dep ⟨30, Ground.guard⟩ (by first | simp | simp [ops_ct15]) rfl 110 rfl
    exact .inl ⟨wantG (b := false) rfl (show ((ops_ct15[30]?).bind (·.dst)) = some 110 from rfl) hv30, fun K hK => mo_lenBB rfl (evT hv32) (hK _ _ (Below.refl _ _) rfl)⟩
  . have ho2 : some _ = some o := ho
    obtain rfl := Option.some.inj ho2
    obtain ⟨_, hv30, rfl⟩ : ∃ v, a.tmps[110]? = some v /\ (fun (v : Value) (w : World) => v = .bool false) v w := dep ⟨30, Ground.guard⟩ (by first | simp | simp [ops_ct15]) rfl 110 rfl
    exact .inl ⟨wantG (b := false) rfl (show ((ops_ct15[30]?).bind (·.dst)) = some 110 from rfl) hv30, fun K hK => mo_field (by simp [go_sem]) rfl e7 (hK _ _ (Below.refl _ _) rfl)⟩
  . have ho2 : some _ = some o := ho
    obtain rfl := Option.some.inj ho2
    obtain ⟨_, hv34, rfl⟩ : ∃ v, a.tmps[114]? = some v /\ (fun (v : Value) (w : World) => v = .pointer (some ⟨pb, 2, none⟩)) v w := dep ⟨34, Ground.data⟩ (by first | simp | simp [ops_ct15]) rfl 114 rfl
    obtain ⟨_, hv30, rfl⟩ : ∃ v, a.tmps[110]? = some v /\ (fun (v : Value) (w : World) => v = .bool false) v w := dep ⟨30, Ground.guard⟩ (by first | simp | simp [ops_ct15]) rfl 110 rfl
    exact .inl ⟨wantG (b := false) rfl (show ((ops_ct15[30]?).bind (·.dst)) = some 110 from rfl) hv30, fun K hK => mo_load (by simp [go_sem, (hS w hR).2.2.2.2.2.2.1]) rfl (evT hv34) (hK _ _ (Below.refl _ _) rfl)⟩
  . have ho2 : some _ = some o := ho
    obtain rfl := Option.some.inj ho2
    obtain ⟨_, hv35, rfl⟩ : ∃ v, a.tmps[115]? = some v /\ (fun (v : Value) (w : World) => v = .slice ba m bc) v w := dep ⟨35, Ground.data⟩ (by first | simp | simp [ops_ct15]) rfl 115 rfl
    obtain ⟨_, hv30, rfl⟩ : ∃ v, a.tmps[110]? = some v /\ (fun (v : Value) (w : World) => v = .bool false) v w := dep ⟨30, Ground.guard⟩ (by first | simp | simp [ops_ct15]) rfl 110 rfl
    exact .inl ⟨wantG (b := false) rfl (show ((ops_ct15[30]?).bind (·.dst)) = some 110 from rfl) hv30, fun K hK => mo_lenBB rfl (evT hv35) (hK _ _ (Below.refl _ _) rfl)⟩
  . have ho2 : some _ = some o := ho
    obtain rfl := Option.some.inj ho2
    obtain ⟨_, hv33, rfl⟩ : ∃ v, a.tmps[113]? = some v /\ (fun (v : Value) (w : World) => v = .int .i64 (m : Nat)) v w := dep ⟨33, Ground.data⟩ (by first | simp | simp [ops_ct15]) rfl 113 rfl
    obtain ⟨_, hv36, rfl⟩ : ∃ v, a.tmps[116]? = some v /\ (fun (v : Value) (w : World) => v = .int .i64 (m : Nat)) v w := dep ⟨36, Ground.data⟩ (by first | simp | simp [ops_ct15]) rfl 116 rfl
    obtain ⟨_, hv30, rfl⟩ : ∃ v, a.tmps[110]? = some v /\ (fun (v : Value) (w : World) => v = .bool false) v w := dep ⟨30, Ground.guard⟩ (by first | simp | simp [ops_ct15]) rfl 110 rfl
    exact .inl ⟨wantG (b := false) rfl (show ((ops_ct15[30]?).bind (·.dst)) = some 110 from rfl) hv30, fun K hK => mo_neqI rfl (evT hv33) (evT hv36) (hK _ _ (Below.refl _ _) (congrArg Value.bool (by simp)))⟩
  . have ho2 : some _ = some o := ho
    obtain rfl := Option.some.inj ho2
    obtain ⟨_, hv30, rfl⟩ : ∃ v, a.tmps[110]? = some v /\ (fun (v : Value) (w : World) => v = .bool false) v w := dep ⟨30, Ground.data⟩ (by first | simp | simp [ops_ct15]) rfl 110 rfl
    obtain ⟨_, hv37, rfl⟩ : ∃ v, a.tmps[117]? = some v /\ (fun (v : Value) (w : World) => v = .bool false) v w := dep ⟨37, Ground.data⟩ (by first | simp | simp [ops_ct15]) rfl 117 rfl
    exact .inl ⟨wantN rfl, fun K hK => mo_pick rfl (evT hv30) rfl (evT hv37) rfl (hK _ _ (Below.refl _ _) rfl)⟩
  . have ho2 : some _ = some o := ho
    obtain rfl := Option.some.inj ho2
    obtain ⟨_, hv38, rfl⟩ : ∃ v, a.tmps[118]? = some v /\ (fun (v : Value) (w : World) => v = .bool false) v w := dep ⟨38, Ground.data⟩ (by first | simp | simp [ops_ct15]) rfl 118 rfl
    exact .inl ⟨wantN rfl, fun K hK => mo_move rfl (evT hv38) (hK _ _ (Below.refl _ _) rfl)⟩
  . have ho2 : some _ = some o := ho
    obtain rfl := Option.some.inj ho2
    obtain ⟨_, hv39, rfl⟩ : ∃ v, a.tmps[119]? = some v /\ (fun (v : Value) (w : World) => v = .bool false) v w := dep ⟨39, Ground.guard⟩ (by first | simp | simp [ops_ct15]) rfl 119 rfl
    exact .inl ⟨wantG (b := false) rfl (show ((ops_ct15[39]?).bind (·.dst)) = some 119 from rfl) hv39, fun K hK => mo_field (by simp [go_sem]) rfl e13 (hK _ _ (Below.refl _ _) rfl)⟩
  . have ho2 : some _ = some o := ho
    obtain rfl := Option.some.inj ho2
    obtain ⟨_, hv40, rfl⟩ : ∃ v, a.tmps[120]? = some v /\ (fun (v : Value) (w : World) => v = .pointer (some ⟨pd, 2, none⟩)) v w := dep ⟨40, Ground.data⟩ (by first | simp | simp [ops_ct15]) rfl 120 rfl
    obtain ⟨_, hv39, rfl⟩ : ∃ v, a.tmps[119]? = some v /\ (fun (v : Value) (w : World) => v = .bool false) v w := dep ⟨39, Ground.guard⟩ (by first | simp | simp [ops_ct15]) rfl 119 rfl
    exact .inl ⟨wantG (b := false) rfl (show ((ops_ct15[39]?).bind (·.dst)) = some 119 from rfl) hv39, fun K hK => mo_load (by simp [go_sem, (hS w hR).2.2.2.2.2.2.2.1]) rfl (evT hv40) (hK _ _ (Below.refl _ _) rfl)⟩
  . have ho2 : some _ = some o := ho
    obtain rfl := Option.some.inj ho2
    obtain ⟨_, hv41, rfl⟩ : ∃ v, a.tmps[121]? = some v /\ (fun (v : Value) (w : World) => v = .slice bad (m + 1) bcd) v w := dep ⟨41, Ground.data⟩ (by first | simp | simp [ops_ct15]) rfl 121 rfl
    obtain ⟨_, hv39, rfl⟩ : ∃ v, a.tmps[119]? = some v /\ (fun (v : Value) (w : World) => v = .bool false) v w := dep ⟨39, Ground.guard⟩ (by first | simp | simp [ops_ct15]) rfl 119 rfl
    exact .inl ⟨wantG (b := false) rfl (show ((ops_ct15[39]?).bind (·.dst)) = some 119 from rfl) hv39, fun K hK => mo_lenBB rfl (evT hv41) (hK _ _ (Below.refl _ _) rfl)⟩
  . have ho2 : some _ = some o := ho
    obtain rfl := Option.some.inj ho2
    obtain ⟨_, hv39, rfl⟩ : ∃ v, a.tmps[119]? = some v /\ (fun (v : Value) (w : World) => v = .bool false) v w := dep ⟨39, Ground.guard⟩ (by first | simp | simp [ops_ct15]) rfl 119 rfl
    exact .inl ⟨wantG (b := false) rfl (show ((ops_ct15[39]?).bind (·.dst)) = some 119 from rfl) hv39, fun K hK => mo_field (by simp [go_sem]) rfl e7 (hK _ _ (Below.refl _ _) rfl)⟩
  . have ho2 : some _ = some o := ho
    obtain rfl := Option.some.inj ho2
    obtain ⟨_, hv43, rfl⟩ : ∃ v, a.tmps[123]? = some v /\ (fun (v : Value) (w : World) => v = .pointer (some ⟨pb, 2, none⟩)) v w := dep ⟨43, Ground.data⟩ (by first | simp | simp [ops_ct15]) rfl 123 rfl
    obtain ⟨_, hv39, rfl⟩ : ∃ v, a.tmps[119]? = some v /\ (fun (v : Value) (w : World) => v = .bool false) v w := dep ⟨39, Ground.guard⟩ (by first | simp | simp [ops_ct15]) rfl 119 rfl
    exact .inl ⟨wantG (b := false) rfl (show ((ops_ct15[39]?).bind (·.dst)) = some 119 from rfl) hv39, fun K hK => mo_load (by simp [go_sem, (hS w hR).2.2.2.2.2.2.2.2.1]) rfl (evT hv43) (hK _ _ (Below.refl _ _) rfl)⟩
  . have ho2 : some _ = some o := ho
    obtain rfl := Option.some.inj ho2
    obtain ⟨_, hv44, rfl⟩ : ∃ v, a.tmps[124]? = some v /\ (fun (v : Value) (w : World) => v = .slice ba m bc) v w := dep ⟨44, Ground.data⟩ (by first | simp | simp [ops_ct15]) rfl 124 rfl
    obtain ⟨_, hv39, rfl⟩ : ∃ v, a.tmps[119]? = some v /\ (fun (v : Value) (w : World) => v = .bool false) v w := dep ⟨39, Ground.guard⟩ (by first | simp | simp [ops_ct15]) rfl 119 rfl
    exact .inl ⟨wantG (b := false) rfl (show ((ops_ct15[39]?).bind (·.dst)) = some 119 from rfl) hv39, fun K hK => mo_lenBB rfl (evT hv44) (hK _ _ (Below.refl _ _) rfl)⟩
  . have ho2 : some _ = some o := ho
    obtain rfl := Option.some.inj ho2
    obtain ⟨_, hv45, rfl⟩ : ∃ v, a.tmps[125]? = some v /\ (fun (v : Value) (w : World) => v = .int .i64 (m : Nat)) v w := dep ⟨45, Ground.data⟩ (by first | simp | simp [ops_ct15]) rfl 125 rfl
    obtain ⟨_, hv39, rfl⟩ : ∃ v, a.tmps[119]? = some v /\ (fun (v : Value) (w : World) => v = .bool false) v w := dep ⟨39, Ground.guard⟩ (by first | simp | simp [ops_ct15]) rfl 119 rfl
    exact .inl ⟨wantG (b := false) rfl (show ((ops_ct15[39]?).bind (·.dst)) = some 119 from rfl) hv39, fun K hK => mo_addI hm1 rfl (evT hv45) rfl (hK _ _ (Below.refl _ _) rfl)⟩
  . have ho2 : some _ = some o := ho
    obtain rfl := Option.some.inj ho2
    obtain ⟨_, hv42, rfl⟩ : ∃ v, a.tmps[122]? = some v /\ (fun (v : Value) (w : World) => v = .int .i64 ((m + 1 : Nat) : Int)) v w := dep ⟨42, Ground.data⟩ (by first | simp | simp [ops_ct15]) rfl 122 rfl
    obtain ⟨_, hv46, rfl⟩ : ∃ v, a.tmps[126]? = some v /\ (fun (v : Value) (w : World) => v = .int .i64 ((m : Int) + 1)) v w := dep ⟨46, Ground.data⟩ (by first | simp | simp [ops_ct15]) rfl 126 rfl
    obtain ⟨_, hv39, rfl⟩ : ∃ v, a.tmps[119]? = some v /\ (fun (v : Value) (w : World) => v = .bool false) v w := dep ⟨39, Ground.guard⟩ (by first | simp | simp [ops_ct15]) rfl 119 rfl
    exact .inl ⟨wantG (b := false) rfl (show ((ops_ct15[39]?).bind (·.dst)) = some 119 from rfl) hv39, fun K hK => mo_neqI rfl (evT hv42) (evT hv46) (hK _ _ (Below.refl _ _) (congrArg Value.bool (by simp)))⟩
  . have ho2 : some _ = some o := ho
    obtain rfl := Option.some.inj ho2
    obtain ⟨_, hv39, rfl⟩ : ∃ v, a.tmps[119]? = some v /\ (fun (v : Value) (w : World) => v = .bool false) v w := dep ⟨39, Ground.data⟩ (by first | simp | simp [ops_ct15]) rfl 119 rfl
    obtain ⟨_, hv47, rfl⟩ : ∃ v, a.tmps[127]? = some v /\ (fun (v : Value) (w : World) => v = .bool false) v w := dep ⟨47, Ground.data⟩ (by first | simp | simp [ops_ct15]) rfl 127 rfl
    exact .inl ⟨wantN rfl, fun K hK => mo_pick rfl (evT hv39) rfl (evT hv47) rfl (hK _ _ (Below.refl _ _) rfl)⟩
  . have ho2 : some _ = some o := ho
    obtain rfl := Option.some.inj ho2
    obtain ⟨_, hv48, rfl⟩ : ∃ v, a.tmps[128]? = some v /\ (fun (v : Value) (w : World) => v = .bool false) v w := dep ⟨48, Ground.data⟩ (by first | simp | simp [ops_ct15]) rfl 128 rfl
    exact .inl ⟨wantN rfl, fun K hK => mo_move rfl (evT hv48) (hK _ _ (Below.refl _ _) rfl)⟩
  . have ho2 : some _ = some o := ho
    obtain rfl := Option.some.inj ho2
    obtain ⟨_, hv49, rfl⟩ : ∃ v, a.tmps[129]? = some v /\ (fun (v : Value) (w : World) => v = .bool false) v w := dep ⟨49, Ground.guard⟩ (by first | simp | simp [ops_ct15]) rfl 129 rfl
    exact .inl ⟨wantG (b := false) rfl (show ((ops_ct15[49]?).bind (·.dst)) = some 129 from rfl) hv49, fun K hK => mo_field (by simp [go_sem]) rfl e13 (hK _ _ (Below.refl _ _) rfl)⟩
  . have ho2 : some _ = some o := ho
    obtain rfl := Option.some.inj ho2
    obtain ⟨_, hv50, rfl⟩ : ∃ v, a.tmps[130]? = some v /\ (fun (v : Value) (w : World) => v = .pointer (some ⟨pd, 4, none⟩)) v w := dep ⟨50, Ground.data⟩ (by first | simp | simp [ops_ct15]) rfl 130 rfl
    obtain ⟨_, hv49, rfl⟩ : ∃ v, a.tmps[129]? = some v /\ (fun (v : Value) (w : World) => v = .bool false) v w := dep ⟨49, Ground.guard⟩ (by first | simp | simp [ops_ct15]) rfl 129 rfl
    exact .inl ⟨wantG (b := false) rfl (show ((ops_ct15[49]?).bind (·.dst)) = some 129 from rfl) hv49, fun K hK => mo_load (by simp [go_sem, (hS w hR).2.2.2.2.2.2.2.2.2.1]) rfl (evT hv50) (hK _ _ (Below.refl _ _) rfl)⟩
  . have ho2 : some _ = some o := ho
    obtain rfl := Option.some.inj ho2
    obtain ⟨_, hv51, rfl⟩ : ∃ v, a.tmps[131]? = some v /\ (fun (v : Value) (w : World) => v = .string E) v w := dep ⟨51, Ground.data⟩ (by first | simp | simp [ops_ct15]) rfl 131 rfl
    obtain ⟨_, hv49, rfl⟩ : ∃ v, a.tmps[129]? = some v /\ (fun (v : Value) (w : World) => v = .bool false) v w := dep ⟨49, Ground.guard⟩ (by first | simp | simp [ops_ct15]) rfl 129 rfl
    exact .inl ⟨wantG (b := false) rfl (show ((ops_ct15[49]?).bind (·.dst)) = some 129 from rfl) hv49, fun K hK => mo_neqS rfl (evT hv51) rfl (hK _ _ (Below.refl _ _) (congrArg Value.bool (hE0)))⟩
  . have ho2 : some _ = some o := ho
    obtain rfl := Option.some.inj ho2
    obtain ⟨_, hv49, rfl⟩ : ∃ v, a.tmps[129]? = some v /\ (fun (v : Value) (w : World) => v = .bool false) v w := dep ⟨49, Ground.data⟩ (by first | simp | simp [ops_ct15]) rfl 129 rfl
    obtain ⟨_, hv52, rfl⟩ : ∃ v, a.tmps[132]? = some v /\ (fun (v : Value) (w : World) => v = .bool false) v w := dep ⟨52, Ground.data⟩ (by first | simp | simp [ops_ct15]) rfl 132 rfl
    exact .inl ⟨wantN rfl, fun K hK => mo_pick rfl (evT hv49) rfl (evT hv52) rfl (hK _ _ (Below.refl _ _) rfl)⟩
  . have ho2 : some _ = some o := ho
    obtain rfl := Option.some.inj ho2
    obtain ⟨_, hv53, rfl⟩ : ∃ v, a.tmps[133]? = some v /\ (fun (v : Value) (w : World) => v = .bool false) v w := dep ⟨53, Ground.data⟩ (by first | simp | simp [ops_ct15]) rfl 133 rfl
    exact .inl ⟨wantN rfl, fun K hK => mo_move rfl (evT hv53) (hK _ _ (Below.refl _ _) rfl)⟩
  . have ho2 : some _ = some o := ho
    obtain rfl := Option.some.inj ho2
    obtain ⟨_, hv54, rfl⟩ : ∃ v, a.tmps[134]? = some v /\ (fun (v : Value) (w : World) => v = .bool false) v w := dep ⟨54, Ground.guard⟩ (by first | simp | simp [ops_ct15]) rfl 134 rfl
    exact .inl ⟨wantG (b := false) rfl (show ((ops_ct15[54]?).bind (·.dst)) = some 134 from rfl) hv54, fun K hK => mo_load (hLd w hR) rfl e13 (hK _ _ (Below.refl _ _) rfl)⟩
  . have ho2 : some _ = some o := ho
    obtain rfl := Option.some.inj ho2
    obtain ⟨_, hv55, rfl⟩ : ∃ v, a.tmps[135]? = some v /\ (fun (v : Value) (w : World) => v = .agg #[.int .i64 (g : Nat), .string base, .slice bad (m + 1) bcd, .slice ead (m + 1) ecd, .string E]) v w := dep ⟨55, Ground.data⟩ (by first | simp | simp [ops_ct15]) rfl 135 rfl
    obtain ⟨_, hv54, rfl⟩ : ∃ v, a.tmps[134]? = some v /\ (fun (v : Value) (w : World) => v = .bool false) v w := dep ⟨54, Ground.guard⟩ (by first | simp | simp [ops_ct15]) rfl 134 rfl
    exact .inl ⟨wantG (b := false) rfl (show ((ops_ct15[54]?).bind (·.dst)) = some 134 from rfl) hv54, fun K hK => mo_call1 15 rfl (evT hv55) (enters_of (P := Tryz.prog) Tryz.func15 (by kernel_rfl) rfl) (hC56 w hR) (fun v w' h => hK v w' h.2 h.1)⟩
  . have ho2 : some _ = some o := ho
    obtain rfl := Option.some.inj ho2
    obtain ⟨_, hv54, rfl⟩ : ∃ v, a.tmps[134]? = some v /\ (fun (v : Value) (w : World) => v = .bool false) v w := dep ⟨54, Ground.guard⟩ (by first | simp | simp [ops_ct15]) rfl 134 rfl
    exact .inl ⟨wantG (b := false) rfl (show ((ops_ct15[54]?).bind (·.dst)) = some 134 from rfl) hv54, fun K hK => mo_move rfl e9 (hK _ _ (Below.refl _ _) rfl)⟩
  . have ho2 : some _ = some o := ho
    obtain rfl := Option.some.inj ho2
    obtain ⟨_, hv57, rfl⟩ : ∃ v, a.tmps[137]? = some v /\ (fun (v : Value) (w : World) => v = .string X) v w := dep ⟨57, Ground.data⟩ (by first | simp | simp [ops_ct15]) rfl 137 rfl
    obtain ⟨_, hv54, rfl⟩ : ∃ v, a.tmps[134]? = some v /\ (fun (v : Value) (w : World) => v = .bool false) v w := dep ⟨54, Ground.guard⟩ (by first | simp | simp [ops_ct15]) rfl 134 rfl
    exact .inl ⟨wantG (b := false) rfl (show ((ops_ct15[54]?).bind (·.dst)) = some 134 from rfl) hv54, fun K hK => mo_lenStr rfl (evT hv57) (hK _ _ (Below.refl _ _) rfl)⟩
  . have ho2 : some _ = some o := ho
    obtain rfl := Option.some.inj ho2
    obtain ⟨_, hv56, rfl⟩ : ∃ v, a.tmps[136]? = some v /\ (fun (v : Value) (w : World) => v = .int .i64 ((z + L : Nat) : Int)) v w := dep ⟨56, Ground.data⟩ (by first | simp | simp [ops_ct15]) rfl 136 rfl
    obtain ⟨_, hv58, rfl⟩ : ∃ v, a.tmps[138]? = some v /\ (fun (v : Value) (w : World) => v = .int .i64 (X.size : Nat)) v w := dep ⟨58, Ground.data⟩ (by first | simp | simp [ops_ct15]) rfl 138 rfl
    obtain ⟨_, hv54, rfl⟩ : ∃ v, a.tmps[134]? = some v /\ (fun (v : Value) (w : World) => v = .bool false) v w := dep ⟨54, Ground.guard⟩ (by first | simp | simp [ops_ct15]) rfl 134 rfl
    exact .inl ⟨wantG (b := false) rfl (show ((ops_ct15[54]?).bind (·.dst)) = some 134 from rfl) hv54, fun K hK => mo_neqI rfl (evT hv56) (evT hv58) (hK _ _ (Below.refl _ _) (congrArg Value.bool (h59)))⟩
  have ho2 : some _ = some o := ho
  obtain rfl := Option.some.inj ho2
  obtain ⟨_, hv54, rfl⟩ : ∃ v, a.tmps[134]? = some v /\ (fun (v : Value) (w : World) => v = .bool false) v w := dep ⟨54, Ground.data⟩ (by first | simp | simp [ops_ct15]) rfl 134 rfl
  obtain ⟨_, hv59, rfl⟩ : ∃ v, a.tmps[139]? = some v /\ (fun (v : Value) (w : World) => v = .bool false) v w := dep ⟨59, Ground.data⟩ (by first | simp | simp [ops_ct15]) rfl 139 rfl
  exact .inl ⟨wantN rfl, fun K hK => mo_pick rfl (evT hv54) rfl (evT hv59) rfl (hK _ _ (Below.refl _ _) rfl)⟩
end Go.Proofs.YtbkeoiefolkjfaaGreatDoor
