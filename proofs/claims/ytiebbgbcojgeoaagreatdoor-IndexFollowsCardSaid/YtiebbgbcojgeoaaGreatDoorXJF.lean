/- The great region of IndexFollows. (Written by gen_jf.py.) -/
import Derived.Test.YtiebbgbcojgeoaaGreatDoorBas0
import Derived.Test.YtiebbgbcojgeoaaGreatDoorXJM
set_option linter.unusedVariables false
namespace Go.Proofs.YtiebbgbcojgeoaaGreatDoor
open Go.RowKit Go.Shelf

theorem field_ask2 {w : World} {b : Nat} : (Instr.fieldAt 80 (.pointer (some ⟨b, 0, none⟩)) 2).run Tryz.prog w = .ok (.pointer (some ⟨b, 2, none⟩)) w := by simp [go_sem]
def ops_ifR : Array Oper := #[
  { dst := some 158, op := Op.move (Operand.tmp 9), type := 81, pos := "law.go:105", after := #[], guard := none },
  { dst := some 159, op := Op.move (Operand.tmp 16), type := 9, pos := "law.go:105", after := #[], guard := none },
  { dst := some 160, op := Op.move (Operand.tmp 18), type := 9, pos := "law.go:105", after := #[], guard := none },
  { dst := some 161, op := Op.call { callee := Callee.value (Operand.func 46), args := #[Operand.tmp 158, Operand.tmp 159, Operand.tmp 160], argTypes := #[81, 9, 9] }, type := 88, pos := "law.go:105", after := #[{ on := 0, ground := Ground.data }, { on := 1, ground := Ground.data }, { on := 2, ground := Ground.data }], guard := none },
  { dst := some 162, op := Op.move (Operand.tmp 14), type := 81, pos := "law.go:105", after := #[], guard := none },
  { dst := some 163, op := Op.move (Operand.tmp 16), type := 9, pos := "law.go:105", after := #[], guard := none },
  { dst := some 164, op := Op.move (Operand.tmp 18), type := 9, pos := "law.go:105", after := #[], guard := none },
  { dst := some 165, op := Op.call { callee := Callee.value (Operand.func 46), args := #[Operand.tmp 162, Operand.tmp 163, Operand.tmp 164], argTypes := #[81, 9, 9] }, type := 88, pos := "law.go:105", after := #[{ on := 4, ground := Ground.data }, { on := 5, ground := Ground.data }, { on := 6, ground := Ground.data }, { on := 3, ground := Ground.chain }], guard := none },
  { dst := some 166, op := Op.call { callee := Callee.value (Operand.func 44), args := #[Operand.tmp 161, Operand.tmp 165], argTypes := #[88, 88] }, type := 4, pos := "law.go:105", after := #[{ on := 3, ground := Ground.data }, { on := 7, ground := Ground.data }, { on := 7, ground := Ground.chain }], guard := none },
  { dst := some 167, op := Op.unOp UnOp.not 4 (Operand.tmp 166), type := 4, pos := "law.go:105", after := #[{ on := 8, ground := Ground.data }], guard := none },
  { dst := some 168, op := Op.move (Operand.tmp 167), type := 4, pos := "law.go:105", after := #[{ on := 9, ground := Ground.data }, { on := 8, ground := Ground.chain }], guard := none },
  { dst := some 169, op := Op.move (Operand.tmp 9), type := 81, pos := "law.go:105", after := #[{ on := 10, ground := Ground.guard }], guard := some (10, false) },
  { dst := some 170, op := Op.move (Operand.tmp 16), type := 9, pos := "law.go:105", after := #[{ on := 10, ground := Ground.guard }], guard := some (10, false) },
  { dst := some 171, op := Op.move (Operand.tmp 18), type := 9, pos := "law.go:105", after := #[{ on := 10, ground := Ground.guard }], guard := some (10, false) },
  { dst := some 172, op := Op.call { callee := Callee.value (Operand.func 47), args := #[Operand.tmp 169, Operand.tmp 170, Operand.tmp 171], argTypes := #[81, 9, 9] }, type := 3, pos := "law.go:105", after := #[{ on := 11, ground := Ground.data }, { on := 12, ground := Ground.data }, { on := 13, ground := Ground.data }, { on := 10, ground := Ground.chain }, { on := 10, ground := Ground.guard }], guard := some (10, false) },
  { dst := some 173, op := Op.move (Operand.tmp 14), type := 81, pos := "law.go:105", after := #[{ on := 10, ground := Ground.guard }], guard := some (10, false) },
  { dst := some 174, op := Op.move (Operand.tmp 16), type := 9, pos := "law.go:105", after := #[{ on := 10, ground := Ground.guard }], guard := some (10, false) },
  { dst := some 175, op := Op.move (Operand.tmp 18), type := 9, pos := "law.go:105", after := #[{ on := 10, ground := Ground.guard }], guard := some (10, false) },
  { dst := some 176, op := Op.call { callee := Callee.value (Operand.func 47), args := #[Operand.tmp 173, Operand.tmp 174, Operand.tmp 175], argTypes := #[81, 9, 9] }, type := 3, pos := "law.go:105", after := #[{ on := 15, ground := Ground.data }, { on := 16, ground := Ground.data }, { on := 17, ground := Ground.data }, { on := 14, ground := Ground.chain }, { on := 10, ground := Ground.guard }], guard := some (10, false) },
  { dst := some 177, op := Op.binOp BinOp.neq 3 (Operand.tmp 172) (Operand.tmp 176) 3, type := 4, pos := "law.go:105", after := #[{ on := 14, ground := Ground.data }, { on := 18, ground := Ground.data }, { on := 10, ground := Ground.guard }], guard := some (10, false) },
  { dst := some 178, op := Op.pick (Operand.tmp 168) (Operand.const (Value.bool true)) (Operand.tmp 177), type := 4, pos := "law.go:105", after := #[{ on := 10, ground := Ground.data }, { on := 19, ground := Ground.data }], guard := none },
  { dst := some 179, op := Op.move (Operand.tmp 178), type := 4, pos := "law.go:105", after := #[{ on := 20, ground := Ground.data }, { on := 18, ground := Ground.chain }], guard := none },
  { dst := some 180, op := Op.move (Operand.tmp 9), type := 81, pos := "law.go:105", after := #[{ on := 21, ground := Ground.guard }], guard := some (21, false) },
  { dst := some 181, op := Op.move (Operand.tmp 16), type := 9, pos := "law.go:105", after := #[{ on := 21, ground := Ground.guard }], guard := some (21, false) },
  { dst := some 182, op := Op.move (Operand.tmp 18), type := 9, pos := "law.go:105", after := #[{ on := 21, ground := Ground.guard }], guard := some (21, false) },
  { dst := some 183, op := Op.fieldAddr 80 (Operand.tmp 5) 2, type := 0, pos := "law.go:105", after := #[{ on := 21, ground := Ground.guard }], guard := some (21, false) },
  { dst := some 184, op := Op.load 9 (Operand.tmp 183), type := 9, pos := "law.go:105", after := #[{ on := 25, ground := Ground.data }, { on := 21, ground := Ground.guard }], guard := some (21, false) },
  { dst := some 185, op := Op.call { callee := Callee.value (Operand.func 48), args := #[Operand.tmp 180, Operand.tmp 181, Operand.tmp 182, Operand.tmp 184], argTypes := #[81, 9, 9, 9] }, type := 88, pos := "law.go:105", after := #[{ on := 22, ground := Ground.data }, { on := 23, ground := Ground.data }, { on := 24, ground := Ground.data }, { on := 26, ground := Ground.data }, { on := 21, ground := Ground.chain }, { on := 21, ground := Ground.guard }], guard := some (21, false) },
  { dst := some 186, op := Op.move (Operand.tmp 14), type := 81, pos := "law.go:105", after := #[{ on := 21, ground := Ground.guard }], guard := some (21, false) },
  { dst := some 187, op := Op.move (Operand.tmp 16), type := 9, pos := "law.go:105", after := #[{ on := 21, ground := Ground.guard }], guard := some (21, false) },
  { dst := some 188, op := Op.move (Operand.tmp 18), type := 9, pos := "law.go:105", after := #[{ on := 21, ground := Ground.guard }], guard := some (21, false) },
  { dst := some 189, op := Op.fieldAddr 80 (Operand.tmp 5) 2, type := 0, pos := "law.go:105", after := #[{ on := 21, ground := Ground.guard }], guard := some (21, false) },
  { dst := some 190, op := Op.load 9 (Operand.tmp 189), type := 9, pos := "law.go:105", after := #[{ on := 31, ground := Ground.data }, { on := 21, ground := Ground.guard }], guard := some (21, false) },
  { dst := some 191, op := Op.call { callee := Callee.value (Operand.func 48), args := #[Operand.tmp 186, Operand.tmp 187, Operand.tmp 188, Operand.tmp 190], argTypes := #[81, 9, 9, 9] }, type := 88, pos := "law.go:105", after := #[{ on := 28, ground := Ground.data }, { on := 29, ground := Ground.data }, { on := 30, ground := Ground.data }, { on := 32, ground := Ground.data }, { on := 27, ground := Ground.chain }, { on := 21, ground := Ground.guard }], guard := some (21, false) },
  { dst := some 192, op := Op.call { callee := Callee.value (Operand.func 44), args := #[Operand.tmp 185, Operand.tmp 191], argTypes := #[88, 88] }, type := 4, pos := "law.go:105", after := #[{ on := 27, ground := Ground.data }, { on := 33, ground := Ground.data }, { on := 33, ground := Ground.chain }, { on := 21, ground := Ground.guard }], guard := some (21, false) },
  { dst := some 193, op := Op.unOp UnOp.not 4 (Operand.tmp 192), type := 4, pos := "law.go:105", after := #[{ on := 34, ground := Ground.data }, { on := 21, ground := Ground.guard }], guard := some (21, false) },
  { dst := some 194, op := Op.pick (Operand.tmp 179) (Operand.const (Value.bool true)) (Operand.tmp 193), type := 4, pos := "law.go:105", after := #[{ on := 21, ground := Ground.data }, { on := 35, ground := Ground.data }], guard := none }]
def dst_ifR (i : Nat) : Option Nat := (ops_ifR[i]?).bind (·.dst)
theorem inj_ifR : ∀ i, i < 37 → ∀ k, k < 37 → dst_ifR i ≠ none → dst_ifR i = dst_ifR k → i = k := by decide +kernel
theorem lt_ifR : ∀ i, i < 37 → (dst_ifR i).getD 0 < 197 := by decide +kernel
theorem low_ifR : ∀ i : Fin 37, ∀ e ∈ (ops_ifR[i.1]'(by exact i.2)).after, Region.binds .any e = true → e.on < i.1 := by decide +kernel
def pv_ifR (x y ab c : Nat) (key s top : ByteArray) (zs bs : List Int) : List (Value → World → Prop) := [
  fun v w => v = .pointer (some ⟨x, 0, none⟩),
  fun v w => v = .string key,
  fun v w => v = .string s,
  fun v w => Nums w v zs,
  fun v w => v = .pointer (some ⟨y, 0, none⟩),
  fun v w => v = .string key,
  fun v w => v = .string s,
  fun v w => Nums w v zs,
  fun v w => v = .bool true,
  fun v w => v = .bool false,
  fun v w => v = .bool false,
  fun v w => v = .pointer (some ⟨x, 0, none⟩),
  fun v w => v = .string key,
  fun v w => v = .string s,
  fun v w => v = .int .i64 (c : Nat),
  fun v w => v = .pointer (some ⟨y, 0, none⟩),
  fun v w => v = .string key,
  fun v w => v = .string s,
  fun v w => v = .int .i64 (c : Nat),
  fun v w => v = .bool false,
  fun v w => v = .bool false,
  fun v w => v = .bool false,
  fun v w => v = .pointer (some ⟨x, 0, none⟩),
  fun v w => v = .string key,
  fun v w => v = .string s,
  fun v w => v = .pointer (some ⟨ab, 2, none⟩),
  fun v w => v = .string top,
  fun v w => Nums w v bs,
  fun v w => v = .pointer (some ⟨y, 0, none⟩),
  fun v w => v = .string key,
  fun v w => v = .string s,
  fun v w => v = .pointer (some ⟨ab, 2, none⟩),
  fun v w => v = .string top,
  fun v w => Nums w v bs,
  fun v w => v = .bool true,
  fun v w => v = .bool false,
  fun v w => v = .bool false]
set_option maxRecDepth 100000 in
set_option maxHeartbeats 4000000 in
theorem region_ifR (a0 : Act) (w0 : World) (x y ab c : Nat) (key s top : ByteArray) (zs bs : List Int) (Q : Exit → Act → World → Prop)
    (hsz : a0.tmps.size = 197) (h5 : a0.tmps[5]? = some (.pointer (some ⟨ab, 0, none⟩))) (h9 : a0.tmps[9]? = some (.pointer (some ⟨x, 0, none⟩))) (h14 : a0.tmps[14]? = some (.pointer (some ⟨y, 0, none⟩))) (h16 : a0.tmps[16]? = some (.string key)) (h18 : a0.tmps[18]? = some (.string s))
    (hA : ∀ W, Below w0.heap.size w0 W → W.cell? ⟨ab, 2, none⟩ = some (.string top))
    (hC3 : ∀ (W : World) (_ : Below w0.heap.size w0 W), Calls Tryz.prog 46 #[.pointer (some ⟨x, 0, none⟩), .string key, .string s] W fun e w => ∃ v, e = .returned v ∧ (Nums w v zs) ∧ Below W.heap.size W w)
    (hC7 : ∀ (W : World) (_ : Below w0.heap.size w0 W), Calls Tryz.prog 46 #[.pointer (some ⟨y, 0, none⟩), .string key, .string s] W fun e w => ∃ v, e = .returned v ∧ (Nums w v zs) ∧ Below W.heap.size W w)
    (hC8 : ∀ (W : World) (_ : Below w0.heap.size w0 W) (z3 : Value) (_ : (fun (v : Value) (w : World) => Nums w v zs) z3 W) (z7 : Value) (_ : (fun (v : Value) (w : World) => Nums w v zs) z7 W), Calls Tryz.prog 44 #[z3, z7] W fun e w => ∃ v, e = .returned v ∧ (v = .bool true) ∧ Below W.heap.size W w)
    (hC14 : ∀ (W : World) (_ : Below w0.heap.size w0 W), Calls Tryz.prog 47 #[.pointer (some ⟨x, 0, none⟩), .string key, .string s] W fun e w => ∃ v, e = .returned v ∧ (v = .int .i64 (c : Nat)) ∧ Below W.heap.size W w)
    (hC18 : ∀ (W : World) (_ : Below w0.heap.size w0 W), Calls Tryz.prog 47 #[.pointer (some ⟨y, 0, none⟩), .string key, .string s] W fun e w => ∃ v, e = .returned v ∧ (v = .int .i64 (c : Nat)) ∧ Below W.heap.size W w)
    (hC27 : ∀ (W : World) (_ : Below w0.heap.size w0 W), Calls Tryz.prog 48 #[.pointer (some ⟨x, 0, none⟩), .string key, .string s, .string top] W fun e w => ∃ v, e = .returned v ∧ (Nums w v bs) ∧ Below W.heap.size W w)
    (hC33 : ∀ (W : World) (_ : Below w0.heap.size w0 W), Calls Tryz.prog 48 #[.pointer (some ⟨y, 0, none⟩), .string key, .string s, .string top] W fun e w => ∃ v, e = .returned v ∧ (Nums w v bs) ∧ Below W.heap.size W w)
    (hC34 : ∀ (W : World) (_ : Below w0.heap.size w0 W) (z27 : Value) (_ : (fun (v : Value) (w : World) => Nums w v bs) z27 W) (z33 : Value) (_ : (fun (v : Value) (w : World) => Nums w v bs) z33 W), Calls Tryz.prog 44 #[z27, z33] W fun e w => ∃ v, e = .returned v ∧ (v = .bool true) ∧ Below W.heap.size W w)
    (hQ : ∀ (y0 y1 y2 y3 y4 y5 y6 y7 y8 y9 y10 y11 y12 y13 y14 y15 y16 y17 y18 y19 y20 y21 y22 y23 y24 y25 y26 y27 y28 y29 y30 y31 y32 y33 y34 y35 y36 : Value) (w : World), Below w0.heap.size w0 w → ((fun (v : Value) (w : World) => v = .bool false) y36 w) → Q .normal { a0 with tmps := [(158, y0), (159, y1), (160, y2), (161, y3), (162, y4), (163, y5), (164, y6), (165, y7), (166, y8), (167, y9), (168, y10), (169, y11), (170, y12), (171, y13), (172, y14), (173, y15), (174, y16), (175, y17), (176, y18), (177, y19), (178, y20), (179, y21), (180, y22), (181, y23), (182, y24), (183, y25), (184, y26), (185, y27), (186, y28), (187, y29), (188, y30), (189, y31), (190, y32), (191, y33), (192, y34), (193, y35), (194, y36)].foldl (fun u p => u.setIfInBounds p.1 p.2) a0.tmps } w) :
    wpAny Tryz.prog .any ops_ifR Q ops_ifR.size (Array.replicate ops_ifR.size false) a0 w0 := by
  have M : AllM (pv_ifR x y ab c key s top zs bs) := ⟨fun v x y hb h => h, fun v x y hb h => h, fun v x y hb h => h, fun v x y hb h => h.below hb (Nat.le_refl _), fun v x y hb h => h, fun v x y hb h => h, fun v x y hb h => h, fun v x y hb h => h.below hb (Nat.le_refl _), fun v x y hb h => h, fun v x y hb h => h, fun v x y hb h => h, fun v x y hb h => h, fun v x y hb h => h, fun v x y hb h => h, fun v x y hb h => h, fun v x y hb h => h, fun v x y hb h => h, fun v x y hb h => h, fun v x y hb h => h, fun v x y hb h => h, fun v x y hb h => h, fun v x y hb h => h, fun v x y hb h => h, fun v x y hb h => h, fun v x y hb h => h, fun v x y hb h => h, fun v x y hb h => h, fun v x y hb h => h.below hb (Nat.le_refl _), fun v x y hb h => h, fun v x y hb h => h, fun v x y hb h => h, fun v x y hb h => h, fun v x y hb h => h, fun v x y hb h => h.below hb (Nat.le_refl _), fun v x y hb h => h, fun v x y hb h => h, fun v x y hb h => h, trivial⟩
  refine wpAny_mono a0 w0 dst_ifR (pvL (pv_ifR x y ab c key s top zs bs)) (fun x y => Below x.heap.size x y) (Below.refl _ _) (fun x y h g => h.trans (g.mono h.size)) (fun i v x y _ g h => pvL_mono M g h)
    (fun i o ho => by unfold dst_ifR; rw [ho]; rfl)
    (fun i k d hi hk h1 h2 => inj_ifR i hi k hk (by rw [h1]; intro q; cases q) (by rw [h1, h2]))
    (fun i d hi h => by have := lt_ifR i hi; rw [h] at this; rw [hsz]; exact this)
    (fun i o e ho he hb => by
      obtain ⟨hi, rfl⟩ := Array.getElem?_eq_some_iff.1 ho
      exact low_ifR ⟨i, hi⟩ e he hb)
    ?step (fun w _ => Below.refl _ _) ?fin
  case fin =>
    intro a w hd hs hf hv hR
    obtain ⟨y0, hy0, pv0⟩ := hv 0 158 (by decide) rfl
    obtain ⟨y1, hy1, pv1⟩ := hv 1 159 (by decide) rfl
    obtain ⟨y2, hy2, pv2⟩ := hv 2 160 (by decide) rfl
    obtain ⟨y3, hy3, pv3⟩ := hv 3 161 (by decide) rfl
    obtain ⟨y4, hy4, pv4⟩ := hv 4 162 (by decide) rfl
    obtain ⟨y5, hy5, pv5⟩ := hv 5 163 (by decide) rfl
    obtain ⟨y6, hy6, pv6⟩ := hv 6 164 (by decide) rfl
    obtain ⟨y7, hy7, pv7⟩ := hv 7 165 (by decide) rfl
    obtain ⟨y8, hy8, pv8⟩ := hv 8 166 (by decide) rfl
    obtain ⟨y9, hy9, pv9⟩ := hv 9 167 (by decide) rfl
    obtain ⟨y10, hy10, pv10⟩ := hv 10 168 (by decide) rfl
    obtain ⟨y11, hy11, pv11⟩ := hv 11 169 (by decide) rfl
    obtain ⟨y12, hy12, pv12⟩ := hv 12 170 (by decide) rfl
    obtain ⟨y13, hy13, pv13⟩ := hv 13 171 (by decide) rfl
    obtain ⟨y14, hy14, pv14⟩ := hv 14 172 (by decide) rfl
    obtain ⟨y15, hy15, pv15⟩ := hv 15 173 (by decide) rfl
    obtain ⟨y16, hy16, pv16⟩ := hv 16 174 (by decide) rfl
    obtain ⟨y17, hy17, pv17⟩ := hv 17 175 (by decide) rfl
    obtain ⟨y18, hy18, pv18⟩ := hv 18 176 (by decide) rfl
    obtain ⟨y19, hy19, pv19⟩ := hv 19 177 (by decide) rfl
    obtain ⟨y20, hy20, pv20⟩ := hv 20 178 (by decide) rfl
    obtain ⟨y21, hy21, pv21⟩ := hv 21 179 (by decide) rfl
    obtain ⟨y22, hy22, pv22⟩ := hv 22 180 (by decide) rfl
    obtain ⟨y23, hy23, pv23⟩ := hv 23 181 (by decide) rfl
    obtain ⟨y24, hy24, pv24⟩ := hv 24 182 (by decide) rfl
    obtain ⟨y25, hy25, pv25⟩ := hv 25 183 (by decide) rfl
    obtain ⟨y26, hy26, pv26⟩ := hv 26 184 (by decide) rfl
    obtain ⟨y27, hy27, pv27⟩ := hv 27 185 (by decide) rfl
    obtain ⟨y28, hy28, pv28⟩ := hv 28 186 (by decide) rfl
    obtain ⟨y29, hy29, pv29⟩ := hv 29 187 (by decide) rfl
    obtain ⟨y30, hy30, pv30⟩ := hv 30 188 (by decide) rfl
    obtain ⟨y31, hy31, pv31⟩ := hv 31 189 (by decide) rfl
    obtain ⟨y32, hy32, pv32⟩ := hv 32 190 (by decide) rfl
    obtain ⟨y33, hy33, pv33⟩ := hv 33 191 (by decide) rfl
    obtain ⟨y34, hy34, pv34⟩ := hv 34 192 (by decide) rfl
    obtain ⟨y35, hy35, pv35⟩ := hv 35 193 (by decide) rfl
    obtain ⟨y36, hy36, pv36⟩ := hv 36 194 (by decide) rfl
    rw [act_set' (a := a) (a0 := a0) [(158, y0), (159, y1), (160, y2), (161, y3), (162, y4), (163, y5), (164, y6), (165, y7), (166, y8), (167, y9), (168, y10), (169, y11), (170, y12), (171, y13), (172, y14), (173, y15), (174, y16), (175, y17), (176, y18), (177, y19), (178, y20), (179, y21), (180, y22), (181, y23), (182, y24), (183, y25), (184, y26), (185, y27), (186, y28), (187, y29), (188, y30), (189, y31), (190, y32), (191, y33), (192, y34), (193, y35), (194, y36)] hd hs (by
      intro p hp
      simp only [List.mem_cons, List.not_mem_nil, or_false] at hp
      rcases hp with rfl | rfl | rfl | rfl | rfl | rfl | rfl | rfl | rfl | rfl | rfl | rfl | rfl | rfl | rfl | rfl | rfl | rfl | rfl | rfl | rfl | rfl | rfl | rfl | rfl | rfl | rfl | rfl | rfl | rfl | rfl | rfl | rfl | rfl | rfl | rfl | rfl
      · exact hy0
      · exact hy1
      · exact hy2
      · exact hy3
      · exact hy4
      · exact hy5
      · exact hy6
      · exact hy7
      · exact hy8
      · exact hy9
      · exact hy10
      · exact hy11
      · exact hy12
      · exact hy13
      · exact hy14
      · exact hy15
      · exact hy16
      · exact hy17
      · exact hy18
      · exact hy19
      · exact hy20
      · exact hy21
      · exact hy22
      · exact hy23
      · exact hy24
      · exact hy25
      · exact hy26
      · exact hy27
      · exact hy28
      · exact hy29
      · exact hy30
      · exact hy31
      · exact hy32
      · exact hy33
      · exact hy34
      · exact hy35
      · exact hy36
      ) (fun j hj => hf j (fun k hk q => hj (by
        have : ∀ k, k < 37 → (dst_ifR k).all (fun d => [158, 159, 160, 161, 162, 163, 164, 165, 166, 167, 168, 169, 170, 171, 172, 173, 174, 175, 176, 177, 178, 179, 180, 181, 182, 183, 184, 185, 186, 187, 188, 189, 190, 191, 192, 193, 194].contains d) = true := by decide +kernel
        have h1 := this k hk
        rw [q] at h1
        simpa using h1)))]
    exact hQ y0 y1 y2 y3 y4 y5 y6 y7 y8 y9 y10 y11 y12 y13 y14 y15 y16 y17 y18 y19 y20 y21 y22 y23 y24 y25 y26 y27 y28 y29 y30 y31 y32 y33 y34 y35 y36 w hR pv36
  case step =>
    intro i o a w ho hs hf dep hR
    have hi : i < 37 := (Array.getElem?_eq_some_iff.1 ho).1
    have e5 := evT ((hf 5 (by decide +kernel)).trans h5)
    have e9 := evT ((hf 9 (by decide +kernel)).trans h9)
    have e14 := evT ((hf 14 (by decide +kernel)).trans h14)
    have e16 := evT ((hf 16 (by decide +kernel)).trans h16)
    have e18 := evT ((hf 18 (by decide +kernel)).trans h18)
    rcases (by omega : i = 0 ∨ i = 1 ∨ i = 2 ∨ i = 3 ∨ i = 4 ∨ i = 5 ∨ i = 6 ∨ i = 7 ∨ i = 8 ∨ i = 9 ∨ i = 10 ∨ i = 11 ∨ i = 12 ∨ i = 13 ∨ i = 14 ∨ i = 15 ∨ i = 16 ∨ i = 17 ∨ i = 18 ∨ i = 19 ∨ i = 20 ∨ i = 21 ∨ i = 22 ∨ i = 23 ∨ i = 24 ∨ i = 25 ∨ i = 26 ∨ i = 27 ∨ i = 28 ∨ i = 29 ∨ i = 30 ∨ i = 31 ∨ i = 32 ∨ i = 33 ∨ i = 34 ∨ i = 35 ∨ i = 36) with rfl | rfl | rfl | rfl | rfl | rfl | rfl | rfl | rfl | rfl | rfl | rfl | rfl | rfl | rfl | rfl | rfl | rfl | rfl | rfl | rfl | rfl | rfl | rfl | rfl | rfl | rfl | rfl | rfl | rfl | rfl | rfl | rfl | rfl | rfl | rfl | rfl
    · have ho2 : some _ = some o := ho
      obtain rfl := Option.some.inj ho2
      exact .inl ⟨wantN rfl, fun K hK => mo_move rfl e9 (hK _ _ (Below.refl _ _) rfl)⟩
    · have ho2 : some _ = some o := ho
      obtain rfl := Option.some.inj ho2
      exact .inl ⟨wantN rfl, fun K hK => mo_move rfl e16 (hK _ _ (Below.refl _ _) rfl)⟩
    · have ho2 : some _ = some o := ho
      obtain rfl := Option.some.inj ho2
      exact .inl ⟨wantN rfl, fun K hK => mo_move rfl e18 (hK _ _ (Below.refl _ _) rfl)⟩
    · have ho2 : some _ = some o := ho
      obtain rfl := Option.some.inj ho2
      obtain ⟨_, hv0, rfl⟩ : ∃ v, a.tmps[158]? = some v ∧ (fun (v : Value) (w : World) => v = .pointer (some ⟨x, 0, none⟩)) v w := dep ⟨0, Ground.data⟩ (by simp [ops_ifR]) rfl 158 rfl
      obtain ⟨_, hv1, rfl⟩ : ∃ v, a.tmps[159]? = some v ∧ (fun (v : Value) (w : World) => v = .string key) v w := dep ⟨1, Ground.data⟩ (by simp [ops_ifR]) rfl 159 rfl
      obtain ⟨_, hv2, rfl⟩ : ∃ v, a.tmps[160]? = some v ∧ (fun (v : Value) (w : World) => v = .string s) v w := dep ⟨2, Ground.data⟩ (by simp [ops_ifR]) rfl 160 rfl
      exact .inl ⟨wantN rfl, fun K hK => mo_call39 46 rfl (evT hv0) (evT hv1) (evT hv2) (enters_of (P := Tryz.prog) Tryz.func46 (by kernel_rfl) rfl) (hC3 w hR) (fun v w' h => hK v w' h.2 h.1)⟩
    · have ho2 : some _ = some o := ho
      obtain rfl := Option.some.inj ho2
      exact .inl ⟨wantN rfl, fun K hK => mo_move rfl e14 (hK _ _ (Below.refl _ _) rfl)⟩
    · have ho2 : some _ = some o := ho
      obtain rfl := Option.some.inj ho2
      exact .inl ⟨wantN rfl, fun K hK => mo_move rfl e16 (hK _ _ (Below.refl _ _) rfl)⟩
    · have ho2 : some _ = some o := ho
      obtain rfl := Option.some.inj ho2
      exact .inl ⟨wantN rfl, fun K hK => mo_move rfl e18 (hK _ _ (Below.refl _ _) rfl)⟩
    · have ho2 : some _ = some o := ho
      obtain rfl := Option.some.inj ho2
      obtain ⟨_, hv4, rfl⟩ : ∃ v, a.tmps[162]? = some v ∧ (fun (v : Value) (w : World) => v = .pointer (some ⟨y, 0, none⟩)) v w := dep ⟨4, Ground.data⟩ (by simp [ops_ifR]) rfl 162 rfl
      obtain ⟨_, hv5, rfl⟩ : ∃ v, a.tmps[163]? = some v ∧ (fun (v : Value) (w : World) => v = .string key) v w := dep ⟨5, Ground.data⟩ (by simp [ops_ifR]) rfl 163 rfl
      obtain ⟨_, hv6, rfl⟩ : ∃ v, a.tmps[164]? = some v ∧ (fun (v : Value) (w : World) => v = .string s) v w := dep ⟨6, Ground.data⟩ (by simp [ops_ifR]) rfl 164 rfl
      exact .inl ⟨wantN rfl, fun K hK => mo_call39 46 rfl (evT hv4) (evT hv5) (evT hv6) (enters_of (P := Tryz.prog) Tryz.func46 (by kernel_rfl) rfl) (hC7 w hR) (fun v w' h => hK v w' h.2 h.1)⟩
    · have ho2 : some _ = some o := ho
      obtain rfl := Option.some.inj ho2
      obtain ⟨z3, hv3, pv3⟩ : ∃ v, a.tmps[161]? = some v ∧ (fun (v : Value) (w : World) => Nums w v zs) v w := dep ⟨3, Ground.data⟩ (by simp [ops_ifR]) rfl 161 rfl
      obtain ⟨z7, hv7, pv7⟩ : ∃ v, a.tmps[165]? = some v ∧ (fun (v : Value) (w : World) => Nums w v zs) v w := dep ⟨7, Ground.data⟩ (by simp [ops_ifR]) rfl 165 rfl
      exact .inl ⟨wantN rfl, fun K hK => mo_call2 44 rfl (evT hv3) (evT hv7) (enters_of (P := Tryz.prog) Tryz.func44 (by kernel_rfl) rfl) (hC8 w hR _ pv3 _ pv7) (fun v w' h => hK v w' h.2 h.1)⟩
    · have ho2 : some _ = some o := ho
      obtain rfl := Option.some.inj ho2
      obtain ⟨_, hv8, rfl⟩ : ∃ v, a.tmps[166]? = some v ∧ (fun (v : Value) (w : World) => v = .bool true) v w := dep ⟨8, Ground.data⟩ (by simp [ops_ifR]) rfl 166 rfl
      exact .inl ⟨wantN rfl, fun K hK => mo_not9 rfl (evT hv8) (hK _ _ (Below.refl _ _) rfl)⟩
    · have ho2 : some _ = some o := ho
      obtain rfl := Option.some.inj ho2
      obtain ⟨_, hv9, rfl⟩ : ∃ v, a.tmps[167]? = some v ∧ (fun (v : Value) (w : World) => v = .bool false) v w := dep ⟨9, Ground.data⟩ (by simp [ops_ifR]) rfl 167 rfl
      exact .inl ⟨wantN rfl, fun K hK => mo_move rfl (evT hv9) (hK _ _ (Below.refl _ _) rfl)⟩
    · have ho2 : some _ = some o := ho
      obtain rfl := Option.some.inj ho2
      obtain ⟨_, hv10, rfl⟩ : ∃ v, a.tmps[168]? = some v ∧ (fun (v : Value) (w : World) => v = .bool false) v w := dep ⟨10, Ground.guard⟩ (by simp [ops_ifR]) rfl 168 rfl
      exact .inl ⟨wantG (b := false) rfl (show ((ops_ifR[10]?).bind (·.dst)) = some 168 from rfl) hv10, fun K hK => mo_move rfl e9 (hK _ _ (Below.refl _ _) rfl)⟩
    · have ho2 : some _ = some o := ho
      obtain rfl := Option.some.inj ho2
      obtain ⟨_, hv10, rfl⟩ : ∃ v, a.tmps[168]? = some v ∧ (fun (v : Value) (w : World) => v = .bool false) v w := dep ⟨10, Ground.guard⟩ (by simp [ops_ifR]) rfl 168 rfl
      exact .inl ⟨wantG (b := false) rfl (show ((ops_ifR[10]?).bind (·.dst)) = some 168 from rfl) hv10, fun K hK => mo_move rfl e16 (hK _ _ (Below.refl _ _) rfl)⟩
    · have ho2 : some _ = some o := ho
      obtain rfl := Option.some.inj ho2
      obtain ⟨_, hv10, rfl⟩ : ∃ v, a.tmps[168]? = some v ∧ (fun (v : Value) (w : World) => v = .bool false) v w := dep ⟨10, Ground.guard⟩ (by simp [ops_ifR]) rfl 168 rfl
      exact .inl ⟨wantG (b := false) rfl (show ((ops_ifR[10]?).bind (·.dst)) = some 168 from rfl) hv10, fun K hK => mo_move rfl e18 (hK _ _ (Below.refl _ _) rfl)⟩
    · have ho2 : some _ = some o := ho
      obtain rfl := Option.some.inj ho2
      obtain ⟨_, hv11, rfl⟩ : ∃ v, a.tmps[169]? = some v ∧ (fun (v : Value) (w : World) => v = .pointer (some ⟨x, 0, none⟩)) v w := dep ⟨11, Ground.data⟩ (by simp [ops_ifR]) rfl 169 rfl
      obtain ⟨_, hv12, rfl⟩ : ∃ v, a.tmps[170]? = some v ∧ (fun (v : Value) (w : World) => v = .string key) v w := dep ⟨12, Ground.data⟩ (by simp [ops_ifR]) rfl 170 rfl
      obtain ⟨_, hv13, rfl⟩ : ∃ v, a.tmps[171]? = some v ∧ (fun (v : Value) (w : World) => v = .string s) v w := dep ⟨13, Ground.data⟩ (by simp [ops_ifR]) rfl 171 rfl
      obtain ⟨_, hv10, rfl⟩ : ∃ v, a.tmps[168]? = some v ∧ (fun (v : Value) (w : World) => v = .bool false) v w := dep ⟨10, Ground.guard⟩ (by simp [ops_ifR]) rfl 168 rfl
      exact .inl ⟨wantG (b := false) rfl (show ((ops_ifR[10]?).bind (·.dst)) = some 168 from rfl) hv10, fun K hK => mo_call39 47 rfl (evT hv11) (evT hv12) (evT hv13) (enters_of (P := Tryz.prog) Tryz.func47 (by kernel_rfl) rfl) (hC14 w hR) (fun v w' h => hK v w' h.2 h.1)⟩
    · have ho2 : some _ = some o := ho
      obtain rfl := Option.some.inj ho2
      obtain ⟨_, hv10, rfl⟩ : ∃ v, a.tmps[168]? = some v ∧ (fun (v : Value) (w : World) => v = .bool false) v w := dep ⟨10, Ground.guard⟩ (by simp [ops_ifR]) rfl 168 rfl
      exact .inl ⟨wantG (b := false) rfl (show ((ops_ifR[10]?).bind (·.dst)) = some 168 from rfl) hv10, fun K hK => mo_move rfl e14 (hK _ _ (Below.refl _ _) rfl)⟩
    · have ho2 : some _ = some o := ho
      obtain rfl := Option.some.inj ho2
      obtain ⟨_, hv10, rfl⟩ : ∃ v, a.tmps[168]? = some v ∧ (fun (v : Value) (w : World) => v = .bool false) v w := dep ⟨10, Ground.guard⟩ (by simp [ops_ifR]) rfl 168 rfl
      exact .inl ⟨wantG (b := false) rfl (show ((ops_ifR[10]?).bind (·.dst)) = some 168 from rfl) hv10, fun K hK => mo_move rfl e16 (hK _ _ (Below.refl _ _) rfl)⟩
    · have ho2 : some _ = some o := ho
      obtain rfl := Option.some.inj ho2
      obtain ⟨_, hv10, rfl⟩ : ∃ v, a.tmps[168]? = some v ∧ (fun (v : Value) (w : World) => v = .bool false) v w := dep ⟨10, Ground.guard⟩ (by simp [ops_ifR]) rfl 168 rfl
      exact .inl ⟨wantG (b := false) rfl (show ((ops_ifR[10]?).bind (·.dst)) = some 168 from rfl) hv10, fun K hK => mo_move rfl e18 (hK _ _ (Below.refl _ _) rfl)⟩
    · have ho2 : some _ = some o := ho
      obtain rfl := Option.some.inj ho2
      obtain ⟨_, hv15, rfl⟩ : ∃ v, a.tmps[173]? = some v ∧ (fun (v : Value) (w : World) => v = .pointer (some ⟨y, 0, none⟩)) v w := dep ⟨15, Ground.data⟩ (by simp [ops_ifR]) rfl 173 rfl
      obtain ⟨_, hv16, rfl⟩ : ∃ v, a.tmps[174]? = some v ∧ (fun (v : Value) (w : World) => v = .string key) v w := dep ⟨16, Ground.data⟩ (by simp [ops_ifR]) rfl 174 rfl
      obtain ⟨_, hv17, rfl⟩ : ∃ v, a.tmps[175]? = some v ∧ (fun (v : Value) (w : World) => v = .string s) v w := dep ⟨17, Ground.data⟩ (by simp [ops_ifR]) rfl 175 rfl
      obtain ⟨_, hv10, rfl⟩ : ∃ v, a.tmps[168]? = some v ∧ (fun (v : Value) (w : World) => v = .bool false) v w := dep ⟨10, Ground.guard⟩ (by simp [ops_ifR]) rfl 168 rfl
      exact .inl ⟨wantG (b := false) rfl (show ((ops_ifR[10]?).bind (·.dst)) = some 168 from rfl) hv10, fun K hK => mo_call39 47 rfl (evT hv15) (evT hv16) (evT hv17) (enters_of (P := Tryz.prog) Tryz.func47 (by kernel_rfl) rfl) (hC18 w hR) (fun v w' h => hK v w' h.2 h.1)⟩
    · have ho2 : some _ = some o := ho
      obtain rfl := Option.some.inj ho2
      obtain ⟨_, hv14, rfl⟩ : ∃ v, a.tmps[172]? = some v ∧ (fun (v : Value) (w : World) => v = .int .i64 (c : Nat)) v w := dep ⟨14, Ground.data⟩ (by simp [ops_ifR]) rfl 172 rfl
      obtain ⟨_, hv18, rfl⟩ : ∃ v, a.tmps[176]? = some v ∧ (fun (v : Value) (w : World) => v = .int .i64 (c : Nat)) v w := dep ⟨18, Ground.data⟩ (by simp [ops_ifR]) rfl 176 rfl
      obtain ⟨_, hv10, rfl⟩ : ∃ v, a.tmps[168]? = some v ∧ (fun (v : Value) (w : World) => v = .bool false) v w := dep ⟨10, Ground.guard⟩ (by simp [ops_ifR]) rfl 168 rfl
      exact .inl ⟨wantG (b := false) rfl (show ((ops_ifR[10]?).bind (·.dst)) = some 168 from rfl) hv10, fun K hK => mo_neqI9 rfl (evT hv14) (evT hv18) (hK _ _ (Below.refl _ _) (congrArg Value.bool (by simp)))⟩
    · have ho2 : some _ = some o := ho
      obtain rfl := Option.some.inj ho2
      obtain ⟨_, hv10, rfl⟩ : ∃ v, a.tmps[168]? = some v ∧ (fun (v : Value) (w : World) => v = .bool false) v w := dep ⟨10, Ground.data⟩ (by simp [ops_ifR]) rfl 168 rfl
      obtain ⟨_, hv19, rfl⟩ : ∃ v, a.tmps[177]? = some v ∧ (fun (v : Value) (w : World) => v = .bool false) v w := dep ⟨19, Ground.data⟩ (by simp [ops_ifR]) rfl 177 rfl
      exact .inl ⟨wantN rfl, fun K hK => mo_pick rfl (evT hv10) rfl (evT hv19) rfl (hK _ _ (Below.refl _ _) rfl)⟩
    · have ho2 : some _ = some o := ho
      obtain rfl := Option.some.inj ho2
      obtain ⟨_, hv20, rfl⟩ : ∃ v, a.tmps[178]? = some v ∧ (fun (v : Value) (w : World) => v = .bool false) v w := dep ⟨20, Ground.data⟩ (by simp [ops_ifR]) rfl 178 rfl
      exact .inl ⟨wantN rfl, fun K hK => mo_move rfl (evT hv20) (hK _ _ (Below.refl _ _) rfl)⟩
    · have ho2 : some _ = some o := ho
      obtain rfl := Option.some.inj ho2
      obtain ⟨_, hv21, rfl⟩ : ∃ v, a.tmps[179]? = some v ∧ (fun (v : Value) (w : World) => v = .bool false) v w := dep ⟨21, Ground.guard⟩ (by simp [ops_ifR]) rfl 179 rfl
      exact .inl ⟨wantG (b := false) rfl (show ((ops_ifR[21]?).bind (·.dst)) = some 179 from rfl) hv21, fun K hK => mo_move rfl e9 (hK _ _ (Below.refl _ _) rfl)⟩
    · have ho2 : some _ = some o := ho
      obtain rfl := Option.some.inj ho2
      obtain ⟨_, hv21, rfl⟩ : ∃ v, a.tmps[179]? = some v ∧ (fun (v : Value) (w : World) => v = .bool false) v w := dep ⟨21, Ground.guard⟩ (by simp [ops_ifR]) rfl 179 rfl
      exact .inl ⟨wantG (b := false) rfl (show ((ops_ifR[21]?).bind (·.dst)) = some 179 from rfl) hv21, fun K hK => mo_move rfl e16 (hK _ _ (Below.refl _ _) rfl)⟩
    · have ho2 : some _ = some o := ho
      obtain rfl := Option.some.inj ho2
      obtain ⟨_, hv21, rfl⟩ : ∃ v, a.tmps[179]? = some v ∧ (fun (v : Value) (w : World) => v = .bool false) v w := dep ⟨21, Ground.guard⟩ (by simp [ops_ifR]) rfl 179 rfl
      exact .inl ⟨wantG (b := false) rfl (show ((ops_ifR[21]?).bind (·.dst)) = some 179 from rfl) hv21, fun K hK => mo_move rfl e18 (hK _ _ (Below.refl _ _) rfl)⟩
    · have ho2 : some _ = some o := ho
      obtain rfl := Option.some.inj ho2
      obtain ⟨_, hv21, rfl⟩ : ∃ v, a.tmps[179]? = some v ∧ (fun (v : Value) (w : World) => v = .bool false) v w := dep ⟨21, Ground.guard⟩ (by simp [ops_ifR]) rfl 179 rfl
      exact .inl ⟨wantG (b := false) rfl (show ((ops_ifR[21]?).bind (·.dst)) = some 179 from rfl) hv21, fun K hK => mo_field9 field_ask2 rfl e5 (hK _ _ (Below.refl _ _) rfl)⟩
    · have ho2 : some _ = some o := ho
      obtain rfl := Option.some.inj ho2
      obtain ⟨_, hv25, rfl⟩ : ∃ v, a.tmps[183]? = some v ∧ (fun (v : Value) (w : World) => v = .pointer (some ⟨ab, 2, none⟩)) v w := dep ⟨25, Ground.data⟩ (by simp [ops_ifR]) rfl 183 rfl
      obtain ⟨_, hv21, rfl⟩ : ∃ v, a.tmps[179]? = some v ∧ (fun (v : Value) (w : World) => v = .bool false) v w := dep ⟨21, Ground.guard⟩ (by simp [ops_ifR]) rfl 179 rfl
      exact .inl ⟨wantG (b := false) rfl (show ((ops_ifR[21]?).bind (·.dst)) = some 179 from rfl) hv21, fun K hK => mo_load (load_str1 (hA w hR)) rfl (evT hv25) (hK _ _ (Below.refl _ _) rfl)⟩
    · have ho2 : some _ = some o := ho
      obtain rfl := Option.some.inj ho2
      obtain ⟨_, hv22, rfl⟩ : ∃ v, a.tmps[180]? = some v ∧ (fun (v : Value) (w : World) => v = .pointer (some ⟨x, 0, none⟩)) v w := dep ⟨22, Ground.data⟩ (by simp [ops_ifR]) rfl 180 rfl
      obtain ⟨_, hv23, rfl⟩ : ∃ v, a.tmps[181]? = some v ∧ (fun (v : Value) (w : World) => v = .string key) v w := dep ⟨23, Ground.data⟩ (by simp [ops_ifR]) rfl 181 rfl
      obtain ⟨_, hv24, rfl⟩ : ∃ v, a.tmps[182]? = some v ∧ (fun (v : Value) (w : World) => v = .string s) v w := dep ⟨24, Ground.data⟩ (by simp [ops_ifR]) rfl 182 rfl
      obtain ⟨_, hv26, rfl⟩ : ∃ v, a.tmps[184]? = some v ∧ (fun (v : Value) (w : World) => v = .string top) v w := dep ⟨26, Ground.data⟩ (by simp [ops_ifR]) rfl 184 rfl
      obtain ⟨_, hv21, rfl⟩ : ∃ v, a.tmps[179]? = some v ∧ (fun (v : Value) (w : World) => v = .bool false) v w := dep ⟨21, Ground.guard⟩ (by simp [ops_ifR]) rfl 179 rfl
      exact .inl ⟨wantG (b := false) rfl (show ((ops_ifR[21]?).bind (·.dst)) = some 179 from rfl) hv21, fun K hK => mo_call4 48 rfl (evT hv22) (evT hv23) (evT hv24) (evT hv26) (enters_of (P := Tryz.prog) Tryz.func48 (by kernel_rfl) rfl) (hC27 w hR) (fun v w' h => hK v w' h.2 h.1)⟩
    · have ho2 : some _ = some o := ho
      obtain rfl := Option.some.inj ho2
      obtain ⟨_, hv21, rfl⟩ : ∃ v, a.tmps[179]? = some v ∧ (fun (v : Value) (w : World) => v = .bool false) v w := dep ⟨21, Ground.guard⟩ (by simp [ops_ifR]) rfl 179 rfl
      exact .inl ⟨wantG (b := false) rfl (show ((ops_ifR[21]?).bind (·.dst)) = some 179 from rfl) hv21, fun K hK => mo_move rfl e14 (hK _ _ (Below.refl _ _) rfl)⟩
    · have ho2 : some _ = some o := ho
      obtain rfl := Option.some.inj ho2
      obtain ⟨_, hv21, rfl⟩ : ∃ v, a.tmps[179]? = some v ∧ (fun (v : Value) (w : World) => v = .bool false) v w := dep ⟨21, Ground.guard⟩ (by simp [ops_ifR]) rfl 179 rfl
      exact .inl ⟨wantG (b := false) rfl (show ((ops_ifR[21]?).bind (·.dst)) = some 179 from rfl) hv21, fun K hK => mo_move rfl e16 (hK _ _ (Below.refl _ _) rfl)⟩
    · have ho2 : some _ = some o := ho
      obtain rfl := Option.some.inj ho2
      obtain ⟨_, hv21, rfl⟩ : ∃ v, a.tmps[179]? = some v ∧ (fun (v : Value) (w : World) => v = .bool false) v w := dep ⟨21, Ground.guard⟩ (by simp [ops_ifR]) rfl 179 rfl
      exact .inl ⟨wantG (b := false) rfl (show ((ops_ifR[21]?).bind (·.dst)) = some 179 from rfl) hv21, fun K hK => mo_move rfl e18 (hK _ _ (Below.refl _ _) rfl)⟩
    · have ho2 : some _ = some o := ho
      obtain rfl := Option.some.inj ho2
      obtain ⟨_, hv21, rfl⟩ : ∃ v, a.tmps[179]? = some v ∧ (fun (v : Value) (w : World) => v = .bool false) v w := dep ⟨21, Ground.guard⟩ (by simp [ops_ifR]) rfl 179 rfl
      exact .inl ⟨wantG (b := false) rfl (show ((ops_ifR[21]?).bind (·.dst)) = some 179 from rfl) hv21, fun K hK => mo_field9 field_ask2 rfl e5 (hK _ _ (Below.refl _ _) rfl)⟩
    · have ho2 : some _ = some o := ho
      obtain rfl := Option.some.inj ho2
      obtain ⟨_, hv31, rfl⟩ : ∃ v, a.tmps[189]? = some v ∧ (fun (v : Value) (w : World) => v = .pointer (some ⟨ab, 2, none⟩)) v w := dep ⟨31, Ground.data⟩ (by simp [ops_ifR]) rfl 189 rfl
      obtain ⟨_, hv21, rfl⟩ : ∃ v, a.tmps[179]? = some v ∧ (fun (v : Value) (w : World) => v = .bool false) v w := dep ⟨21, Ground.guard⟩ (by simp [ops_ifR]) rfl 179 rfl
      exact .inl ⟨wantG (b := false) rfl (show ((ops_ifR[21]?).bind (·.dst)) = some 179 from rfl) hv21, fun K hK => mo_load (load_str1 (hA w hR)) rfl (evT hv31) (hK _ _ (Below.refl _ _) rfl)⟩
    · have ho2 : some _ = some o := ho
      obtain rfl := Option.some.inj ho2
      obtain ⟨_, hv28, rfl⟩ : ∃ v, a.tmps[186]? = some v ∧ (fun (v : Value) (w : World) => v = .pointer (some ⟨y, 0, none⟩)) v w := dep ⟨28, Ground.data⟩ (by simp [ops_ifR]) rfl 186 rfl
      obtain ⟨_, hv29, rfl⟩ : ∃ v, a.tmps[187]? = some v ∧ (fun (v : Value) (w : World) => v = .string key) v w := dep ⟨29, Ground.data⟩ (by simp [ops_ifR]) rfl 187 rfl
      obtain ⟨_, hv30, rfl⟩ : ∃ v, a.tmps[188]? = some v ∧ (fun (v : Value) (w : World) => v = .string s) v w := dep ⟨30, Ground.data⟩ (by simp [ops_ifR]) rfl 188 rfl
      obtain ⟨_, hv32, rfl⟩ : ∃ v, a.tmps[190]? = some v ∧ (fun (v : Value) (w : World) => v = .string top) v w := dep ⟨32, Ground.data⟩ (by simp [ops_ifR]) rfl 190 rfl
      obtain ⟨_, hv21, rfl⟩ : ∃ v, a.tmps[179]? = some v ∧ (fun (v : Value) (w : World) => v = .bool false) v w := dep ⟨21, Ground.guard⟩ (by simp [ops_ifR]) rfl 179 rfl
      exact .inl ⟨wantG (b := false) rfl (show ((ops_ifR[21]?).bind (·.dst)) = some 179 from rfl) hv21, fun K hK => mo_call4 48 rfl (evT hv28) (evT hv29) (evT hv30) (evT hv32) (enters_of (P := Tryz.prog) Tryz.func48 (by kernel_rfl) rfl) (hC33 w hR) (fun v w' h => hK v w' h.2 h.1)⟩
    · have ho2 : some _ = some o := ho
      obtain rfl := Option.some.inj ho2
      obtain ⟨z27, hv27, pv27⟩ : ∃ v, a.tmps[185]? = some v ∧ (fun (v : Value) (w : World) => Nums w v bs) v w := dep ⟨27, Ground.data⟩ (by simp [ops_ifR]) rfl 185 rfl
      obtain ⟨z33, hv33, pv33⟩ : ∃ v, a.tmps[191]? = some v ∧ (fun (v : Value) (w : World) => Nums w v bs) v w := dep ⟨33, Ground.data⟩ (by simp [ops_ifR]) rfl 191 rfl
      obtain ⟨_, hv21, rfl⟩ : ∃ v, a.tmps[179]? = some v ∧ (fun (v : Value) (w : World) => v = .bool false) v w := dep ⟨21, Ground.guard⟩ (by simp [ops_ifR]) rfl 179 rfl
      exact .inl ⟨wantG (b := false) rfl (show ((ops_ifR[21]?).bind (·.dst)) = some 179 from rfl) hv21, fun K hK => mo_call2 44 rfl (evT hv27) (evT hv33) (enters_of (P := Tryz.prog) Tryz.func44 (by kernel_rfl) rfl) (hC34 w hR _ pv27 _ pv33) (fun v w' h => hK v w' h.2 h.1)⟩
    · have ho2 : some _ = some o := ho
      obtain rfl := Option.some.inj ho2
      obtain ⟨_, hv34, rfl⟩ : ∃ v, a.tmps[192]? = some v ∧ (fun (v : Value) (w : World) => v = .bool true) v w := dep ⟨34, Ground.data⟩ (by simp [ops_ifR]) rfl 192 rfl
      obtain ⟨_, hv21, rfl⟩ : ∃ v, a.tmps[179]? = some v ∧ (fun (v : Value) (w : World) => v = .bool false) v w := dep ⟨21, Ground.guard⟩ (by simp [ops_ifR]) rfl 179 rfl
      exact .inl ⟨wantG (b := false) rfl (show ((ops_ifR[21]?).bind (·.dst)) = some 179 from rfl) hv21, fun K hK => mo_not9 rfl (evT hv34) (hK _ _ (Below.refl _ _) rfl)⟩
    · have ho2 : some _ = some o := ho
      obtain rfl := Option.some.inj ho2
      obtain ⟨_, hv21, rfl⟩ : ∃ v, a.tmps[179]? = some v ∧ (fun (v : Value) (w : World) => v = .bool false) v w := dep ⟨21, Ground.data⟩ (by simp [ops_ifR]) rfl 179 rfl
      obtain ⟨_, hv35, rfl⟩ : ∃ v, a.tmps[193]? = some v ∧ (fun (v : Value) (w : World) => v = .bool false) v w := dep ⟨35, Ground.data⟩ (by simp [ops_ifR]) rfl 193 rfl
      exact .inl ⟨wantN rfl, fun K hK => mo_pick rfl (evT hv21) rfl (evT hv35) rfl (hK _ _ (Below.refl _ _) rfl)⟩
end Go.Proofs.YtiebbgbcojgeoaaGreatDoor
