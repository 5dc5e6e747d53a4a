/- Texts put together: NU. -/
import Derived.Test.YtiebbgbcojgeoaaGreatDoorBas1
import Derived.Test.YtiebbgbcojgeoaaGreatDoorBas11
set_option linter.unusedVariables false
namespace Go.Proofs.YtiebbgbcojgeoaaGreatDoor
open Go.RowKit Go.Shelf

def ops_stA : Array Oper := #[
  { dst := some 16, op := Op.move (Operand.tmp 5), type := 60, pos := "law.go:46", after := #[], guard := none },
  { dst := some 17, op := Op.load 32 (Operand.tmp 3), type := 32, pos := "law.go:46", after := #[], guard := none },
  { dst := some 18, op := Op.call { callee := Callee.value (Operand.func 59), args := #[Operand.tmp 17], argTypes := #[32] }, type := 60, pos := "law.go:46", after := #[{ on := 1, ground := Ground.data }], guard := none },
  { dst := some 19, op := Op.call { callee := Callee.value (Operand.func 58), args := #[Operand.tmp 16, Operand.tmp 18], argTypes := #[60, 60] }, type := 4, pos := "law.go:46", after := #[{ on := 0, ground := Ground.data }, { on := 2, ground := Ground.data }, { on := 2, ground := Ground.chain }], guard := none },
  { dst := some 20, op := Op.unOp UnOp.not 4 (Operand.tmp 19), type := 4, pos := "law.go:46", after := #[{ on := 3, ground := Ground.data }], guard := none },
  { dst := some 21, op := Op.move (Operand.tmp 20), type := 4, pos := "law.go:46", after := #[{ on := 4, ground := Ground.data }, { on := 3, ground := Ground.chain }], guard := none },
  { dst := some 22, op := Op.move (Operand.tmp 0), type := 25, pos := "law.go:46", after := #[{ on := 5, ground := Ground.guard }], guard := some (5, false) },
  { dst := some 23, op := Op.call { callee := Callee.value (Operand.func 30), args := #[Operand.tmp 22], argTypes := #[25] }, type := 55, pos := "law.go:46", after := #[{ on := 6, ground := Ground.data }, { on := 5, ground := Ground.chain }, { on := 5, ground := Ground.guard }], guard := some (5, false) },
  { dst := some 24, op := Op.load 32 (Operand.tmp 3), type := 32, pos := "law.go:46", after := #[{ on := 5, ground := Ground.guard }], guard := some (5, false) },
  { dst := some 25, op := Op.call { callee := Callee.value (Operand.func 61), args := #[Operand.tmp 24], argTypes := #[32] }, type := 55, pos := "law.go:46", after := #[{ on := 8, ground := Ground.data }, { on := 7, ground := Ground.chain }, { on := 5, ground := Ground.guard }], guard := some (5, false) },
  { dst := some 26, op := Op.call { callee := Callee.value (Operand.func 60), args := #[Operand.tmp 23, Operand.tmp 25], argTypes := #[55, 55] }, type := 4, pos := "law.go:46", after := #[{ on := 7, ground := Ground.data }, { on := 9, ground := Ground.data }, { on := 9, ground := Ground.chain }, { on := 5, ground := Ground.guard }], guard := some (5, false) },
  { dst := some 27, op := Op.unOp UnOp.not 4 (Operand.tmp 26), type := 4, pos := "law.go:46", after := #[{ on := 10, ground := Ground.data }, { on := 5, ground := Ground.guard }], guard := some (5, false) },
  { dst := some 28, op := Op.pick (Operand.tmp 21) (Operand.const (Value.bool true)) (Operand.tmp 27), type := 4, pos := "law.go:46", after := #[{ on := 5, ground := Ground.data }, { on := 11, ground := Ground.data }], guard := none },
  { dst := some 29, op := Op.move (Operand.tmp 28), type := 4, pos := "law.go:46", after := #[{ on := 12, ground := Ground.data }, { on := 10, ground := Ground.chain }], guard := none },
  { dst := some 30, op := Op.move (Operand.tmp 0), type := 25, pos := "law.go:46", after := #[{ on := 13, ground := Ground.guard }], guard := some (13, false) },
  { dst := some 31, op := Op.call { callee := Callee.value (Operand.func 24), args := #[Operand.tmp 30], argTypes := #[25] }, type := 9, pos := "law.go:46", after := #[{ on := 14, ground := Ground.data }, { on := 13, ground := Ground.chain }, { on := 13, ground := Ground.guard }], guard := some (13, false) },
  { dst := some 32, op := Op.load 32 (Operand.tmp 3), type := 32, pos := "law.go:46", after := #[{ on := 13, ground := Ground.guard }], guard := some (13, false) },
  { dst := some 33, op := Op.call { callee := Callee.value (Operand.func 62), args := #[Operand.tmp 32], argTypes := #[32] }, type := 9, pos := "law.go:46", after := #[{ on := 16, ground := Ground.data }, { on := 15, ground := Ground.chain }, { on := 13, ground := Ground.guard }], guard := some (13, false) },
  { dst := some 34, op := Op.binOp BinOp.neq 9 (Operand.tmp 31) (Operand.tmp 33) 9, type := 4, pos := "law.go:46", after := #[{ on := 15, ground := Ground.data }, { on := 17, ground := Ground.data }, { on := 13, ground := Ground.guard }], guard := some (13, false) },
  { dst := some 35, op := Op.pick (Operand.tmp 29) (Operand.const (Value.bool true)) (Operand.tmp 34), type := 4, pos := "law.go:46", after := #[{ on := 13, ground := Ground.data }, { on := 18, ground := Ground.data }], guard := none },
  { dst := some 36, op := Op.move (Operand.tmp 35), type := 4, pos := "law.go:46", after := #[{ on := 19, ground := Ground.data }, { on := 17, ground := Ground.chain }], guard := none },
  { dst := some 37, op := Op.move (Operand.tmp 0), type := 25, pos := "law.go:46", after := #[{ on := 20, ground := Ground.guard }], guard := some (20, false) },
  { dst := some 38, op := Op.call { callee := Callee.value (Operand.func 31), args := #[Operand.tmp 37], argTypes := #[25] }, type := 3, pos := "law.go:46", after := #[{ on := 21, ground := Ground.data }, { on := 20, ground := Ground.chain }, { on := 20, ground := Ground.guard }], guard := some (20, false) },
  { dst := some 39, op := Op.move (Operand.tmp 5), type := 60, pos := "law.go:46", after := #[{ on := 20, ground := Ground.guard }], guard := some (20, false) },
  { dst := some 40, op := Op.call { callee := Callee.builtin Builtin.len, args := #[Operand.tmp 39], argTypes := #[60] }, type := 3, pos := "law.go:46", after := #[{ on := 23, ground := Ground.data }, { on := 20, ground := Ground.guard }], guard := some (20, false) },
  { dst := some 41, op := Op.binOp BinOp.neq 3 (Operand.tmp 38) (Operand.tmp 40) 3, type := 4, pos := "law.go:46", after := #[{ on := 22, ground := Ground.data }, { on := 24, ground := Ground.data }, { on := 20, ground := Ground.guard }], guard := some (20, false) },
  { dst := some 42, op := Op.pick (Operand.tmp 36) (Operand.const (Value.bool true)) (Operand.tmp 41), type := 4, pos := "law.go:46", after := #[{ on := 20, ground := Ground.data }, { on := 25, ground := Ground.data }], guard := none },
  { dst := some 43, op := Op.move (Operand.tmp 42), type := 4, pos := "law.go:46", after := #[{ on := 26, ground := Ground.data }, { on := 22, ground := Ground.chain }], guard := none },
  { dst := some 44, op := Op.move (Operand.tmp 0), type := 25, pos := "law.go:46", after := #[{ on := 27, ground := Ground.guard }], guard := some (27, false) },
  { dst := some 45, op := Op.call { callee := Callee.value (Operand.func 29), args := #[Operand.tmp 44], argTypes := #[25] }, type := 3, pos := "law.go:46", after := #[{ on := 28, ground := Ground.data }, { on := 27, ground := Ground.chain }, { on := 27, ground := Ground.guard }], guard := some (27, false) },
  { dst := some 46, op := Op.fieldAddr 32 (Operand.tmp 3) 1, type := 0, pos := "law.go:46", after := #[{ on := 27, ground := Ground.guard }], guard := some (27, false) },
  { dst := some 47, op := Op.load 3 (Operand.tmp 46), type := 3, pos := "law.go:46", after := #[{ on := 30, ground := Ground.data }, { on := 27, ground := Ground.guard }], guard := some (27, false) },
  { dst := some 48, op := Op.binOp BinOp.neq 3 (Operand.tmp 45) (Operand.tmp 47) 3, type := 4, pos := "law.go:46", after := #[{ on := 29, ground := Ground.data }, { on := 31, ground := Ground.data }, { on := 27, ground := Ground.guard }], guard := some (27, false) },
  { dst := some 49, op := Op.pick (Operand.tmp 43) (Operand.const (Value.bool true)) (Operand.tmp 48), type := 4, pos := "law.go:46", after := #[{ on := 27, ground := Ground.data }, { on := 32, ground := Ground.data }], guard := none }]
def dst_stA (i : Nat) : Option Nat := (ops_stA[i]?).bind (·.dst)
theorem inj_stA : ∀ i, i < 34 → ∀ k, k < 34 → dst_stA i ≠ none → dst_stA i = dst_stA k → i = k := by decide +kernel
theorem lt_stA : ∀ i, i < 34 → (dst_stA i).getD 0 < 122 := by decide +kernel
theorem low_stA : ∀ i : Fin 34, ∀ e ∈ (ops_stA[i.1]'(by exact i.2)).after, Region.binds .any e = true → e.on < i.1 := by decide +kernel
def pv_stA (mv : Value) (lb mb sn sc : Nat) (sa : Option Addr) (nx : Int) (rs : List Stz) (its : List It) (T : ByteArray) : List (Value → World → Prop) := [
  fun v w => v = .slice sa sn sc,
  fun v w => v = .agg #[mv, .int .i64 nx],
  fun v w => Szs w v rs,
  fun v w => v = .bool true,
  fun v w => v = .bool false,
  fun v w => v = .bool false,
  fun v w => v = .pointer (some ⟨lb, 0, none⟩),
  fun v w => Its w v its,
  fun v w => v = .agg #[mv, .int .i64 nx],
  fun v w => Its w v its,
  fun v w => v = .bool true,
  fun v w => v = .bool false,
  fun v w => v = .bool false,
  fun v w => v = .bool false,
  fun v w => v = .pointer (some ⟨lb, 0, none⟩),
  fun v w => v = .string T,
  fun v w => v = .agg #[mv, .int .i64 nx],
  fun v w => v = .string T,
  fun v w => v = .bool false,
  fun v w => v = .bool false,
  fun v w => v = .bool false,
  fun v w => v = .pointer (some ⟨lb, 0, none⟩),
  fun v w => v = .int .i64 (sn : Nat),
  fun v w => v = .slice sa sn sc,
  fun v w => v = .int .i64 (sn : Nat),
  fun v w => v = .bool false,
  fun v w => v = .bool false,
  fun v w => v = .bool false,
  fun v w => v = .pointer (some ⟨lb, 0, none⟩),
  fun v w => v = .int .i64 nx,
  fun v w => v = .pointer (some ⟨mb, 1, none⟩),
  fun v w => v = .int .i64 nx,
  fun v w => v = .bool false,
  fun v w => v = .bool false]
set_option maxRecDepth 100000 in
set_option maxHeartbeats 4000000 in
theorem region_stA (a0 : Act) (w0 : World) (mv : Value) (lb mb sn sc : Nat) (sa : Option Addr) (nx : Int) (rs : List Stz) (its : List It) (T : ByteArray) (Q : Exit → Act → World → Prop)
    (hsz : a0.tmps.size = 122) (h0 : a0.tmps[0]? = some (.pointer (some ⟨lb, 0, none⟩))) (h3 : a0.tmps[3]? = some (.pointer (some ⟨mb, 0, none⟩))) (h5 : a0.tmps[5]? = some (.slice sa sn sc))
    (hM : ∀ W, Below w0.heap.size w0 W → W.cell? ⟨mb, 0, none⟩ = some mv ∧ W.cell? ⟨mb, 1, none⟩ = some (.int .i64 nx))
    (hC2 : ∀ (W : World) (_ : Below w0.heap.size w0 W), Calls Tryz.prog 59 #[.agg #[mv, .int .i64 nx]] W fun e w => ∃ v, e = .returned v ∧ (Szs w v rs) ∧ Below W.heap.size W w)
    (hC3 : ∀ (W : World) (_ : Below w0.heap.size w0 W) (z2 : Value) (_ : (fun (v : Value) (w : World) => Szs w v rs) z2 W), Calls Tryz.prog 58 #[.slice sa sn sc, z2] W fun e w => ∃ v, e = .returned v ∧ (v = .bool true) ∧ Below W.heap.size W w)
    (hC7 : ∀ (W : World) (_ : Below w0.heap.size w0 W), Calls Tryz.prog 30 #[.pointer (some ⟨lb, 0, none⟩)] W fun e w => ∃ v, e = .returned v ∧ (Its w v its) ∧ Below W.heap.size W w)
    (hC9 : ∀ (W : World) (_ : Below w0.heap.size w0 W), Calls Tryz.prog 61 #[.agg #[mv, .int .i64 nx]] W fun e w => ∃ v, e = .returned v ∧ (Its w v its) ∧ Below W.heap.size W w)
    (hC10 : ∀ (W : World) (_ : Below w0.heap.size w0 W) (z7 : Value) (_ : (fun (v : Value) (w : World) => Its w v its) z7 W) (z9 : Value) (_ : (fun (v : Value) (w : World) => Its w v its) z9 W), Calls Tryz.prog 60 #[z7, z9] W fun e w => ∃ v, e = .returned v ∧ (v = .bool true) ∧ Below W.heap.size W w)
    (hC15 : ∀ (W : World) (_ : Below w0.heap.size w0 W), Calls Tryz.prog 24 #[.pointer (some ⟨lb, 0, none⟩)] W fun e w => ∃ v, e = .returned v ∧ (v = .string T) ∧ Below W.heap.size W w)
    (hC17 : ∀ (W : World) (_ : Below w0.heap.size w0 W), Calls Tryz.prog 62 #[.agg #[mv, .int .i64 nx]] W fun e w => ∃ v, e = .returned v ∧ (v = .string T) ∧ Below W.heap.size W w)
    (hC22 : ∀ (W : World) (_ : Below w0.heap.size w0 W), Calls Tryz.prog 31 #[.pointer (some ⟨lb, 0, none⟩)] W fun e w => ∃ v, e = .returned v ∧ (v = .int .i64 (sn : Nat)) ∧ Below W.heap.size W w)
    (hC29 : ∀ (W : World) (_ : Below w0.heap.size w0 W), Calls Tryz.prog 29 #[.pointer (some ⟨lb, 0, none⟩)] W fun e w => ∃ v, e = .returned v ∧ (v = .int .i64 nx) ∧ Below W.heap.size W w)
    (hQ : ∀ (y0 y1 y2 y3 y4 y5 y6 y7 y8 y9 y10 y11 y12 y13 y14 y15 y16 y17 y18 y19 y20 y21 y22 y23 y24 y25 y26 y27 y28 y29 y30 y31 y32 y33 : Value) (w : World), Below w0.heap.size w0 w → ((fun (v : Value) (w : World) => v = .bool false) y33 w) → Q .normal { a0 with tmps := [(16, y0), (17, y1), (18, y2), (19, y3), (20, y4), (21, y5), (22, y6), (23, y7), (24, y8), (25, y9), (26, y10), (27, y11), (28, y12), (29, y13), (30, y14), (31, y15), (32, y16), (33, y17), (34, y18), (35, y19), (36, y20), (37, y21), (38, y22), (39, y23), (40, y24), (41, y25), (42, y26), (43, y27), (44, y28), (45, y29), (46, y30), (47, y31), (48, y32), (49, y33)].foldl (fun u p => u.setIfInBounds p.1 p.2) a0.tmps } w) :
    wpAny Tryz.prog .any ops_stA Q ops_stA.size (Array.replicate ops_stA.size false) a0 w0 := by
  have M : AllM (pv_stA mv lb mb sn sc sa nx rs its T) := ⟨fun v x y hb h => h, fun v x y hb h => h, fun v x y hb h => h.below hb (Nat.le_refl _), fun v x y hb h => h, fun v x y hb h => h, fun v x y hb h => h, fun v x y hb h => h, fun v x y hb h => h.below hb (Nat.le_refl _), fun v x y hb h => h, fun v x y hb h => h.below hb (Nat.le_refl _), fun v x y hb h => h, fun v x y hb h => h, fun v x y hb h => h, fun v x y hb h => h, fun v x y hb h => h, fun v x y hb h => h, fun v x y hb h => h, fun v x y hb h => h, fun v x y hb h => h, fun v x y hb h => h, fun v x y hb h => h, fun v x y hb h => h, fun v x y hb h => h, fun v x y hb h => h, fun v x y hb h => h, fun v x y hb h => h, fun v x y hb h => h, fun v x y hb h => h, fun v x y hb h => h, fun v x y hb h => h, fun v x y hb h => h, fun v x y hb h => h, fun v x y hb h => h, fun v x y hb h => h, trivial⟩
  refine wpAny_mono a0 w0 dst_stA (pvL (pv_stA mv lb mb sn sc sa nx rs its T)) (fun x y => Below x.heap.size x y) (Below.refl _ _) (fun x y h g => h.trans (g.mono h.size)) (fun i v x y _ g h => pvL_mono M g h)
    (fun i o ho => by unfold dst_stA; rw [ho]; rfl)
    (fun i k d hi hk h1 h2 => inj_stA i hi k hk (by rw [h1]; intro q; cases q) (by rw [h1, h2]))
    (fun i d hi h => by have := lt_stA i hi; rw [h] at this; rw [hsz]; exact this)
    (fun i o e ho he hb => by
      obtain ⟨hi, rfl⟩ := Array.getElem?_eq_some_iff.1 ho
      exact low_stA ⟨i, hi⟩ e he hb)
    ?step (fun w _ => Below.refl _ _) ?fin
  case fin =>
    intro a w hd hs hf hv hR
    obtain ⟨y0, hy0, pv0⟩ := hv 0 16 (by decide) rfl
    obtain ⟨y1, hy1, pv1⟩ := hv 1 17 (by decide) rfl
    obtain ⟨y2, hy2, pv2⟩ := hv 2 18 (by decide) rfl
    obtain ⟨y3, hy3, pv3⟩ := hv 3 19 (by decide) rfl
    obtain ⟨y4, hy4, pv4⟩ := hv 4 20 (by decide) rfl
    obtain ⟨y5, hy5, pv5⟩ := hv 5 21 (by decide) rfl
    obtain ⟨y6, hy6, pv6⟩ := hv 6 22 (by decide) rfl
    obtain ⟨y7, hy7, pv7⟩ := hv 7 23 (by decide) rfl
    obtain ⟨y8, hy8, pv8⟩ := hv 8 24 (by decide) rfl
    obtain ⟨y9, hy9, pv9⟩ := hv 9 25 (by decide) rfl
    obtain ⟨y10, hy10, pv10⟩ := hv 10 26 (by decide) rfl
    obtain ⟨y11, hy11, pv11⟩ := hv 11 27 (by decide) rfl
    obtain ⟨y12, hy12, pv12⟩ := hv 12 28 (by decide) rfl
    obtain ⟨y13, hy13, pv13⟩ := hv 13 29 (by decide) rfl
    obtain ⟨y14, hy14, pv14⟩ := hv 14 30 (by decide) rfl
    obtain ⟨y15, hy15, pv15⟩ := hv 15 31 (by decide) rfl
    obtain ⟨y16, hy16, pv16⟩ := hv 16 32 (by decide) rfl
    obtain ⟨y17, hy17, pv17⟩ := hv 17 33 (by decide) rfl
    obtain ⟨y18, hy18, pv18⟩ := hv 18 34 (by decide) rfl
    obtain ⟨y19, hy19, pv19⟩ := hv 19 35 (by decide) rfl
    obtain ⟨y20, hy20, pv20⟩ := hv 20 36 (by decide) rfl
    obtain ⟨y21, hy21, pv21⟩ := hv 21 37 (by decide) rfl
    obtain ⟨y22, hy22, pv22⟩ := hv 22 38 (by decide) rfl
    obtain ⟨y23, hy23, pv23⟩ := hv 23 39 (by decide) rfl
    obtain ⟨y24, hy24, pv24⟩ := hv 24 40 (by decide) rfl
    obtain ⟨y25, hy25, pv25⟩ := hv 25 41 (by decide) rfl
    obtain ⟨y26, hy26, pv26⟩ := hv 26 42 (by decide) rfl
    obtain ⟨y27, hy27, pv27⟩ := hv 27 43 (by decide) rfl
    obtain ⟨y28, hy28, pv28⟩ := hv 28 44 (by decide) rfl
    obtain ⟨y29, hy29, pv29⟩ := hv 29 45 (by decide) rfl
    obtain ⟨y30, hy30, pv30⟩ := hv 30 46 (by decide) rfl
    obtain ⟨y31, hy31, pv31⟩ := hv 31 47 (by decide) rfl
    obtain ⟨y32, hy32, pv32⟩ := hv 32 48 (by decide) rfl
    obtain ⟨y33, hy33, pv33⟩ := hv 33 49 (by decide) rfl
    rw [act_set' (a := a) (a0 := a0) [(16, y0), (17, y1), (18, y2), (19, y3), (20, y4), (21, y5), (22, y6), (23, y7), (24, y8), (25, y9), (26, y10), (27, y11), (28, y12), (29, y13), (30, y14), (31, y15), (32, y16), (33, y17), (34, y18), (35, y19), (36, y20), (37, y21), (38, y22), (39, y23), (40, y24), (41, y25), (42, y26), (43, y27), (44, y28), (45, y29), (46, y30), (47, y31), (48, y32), (49, y33)] hd hs (by
      intro p hp
      simp only [List.mem_cons, List.not_mem_nil, or_false] at hp
      rcases hp with rfl | rfl | rfl | rfl | rfl | rfl | rfl | rfl | rfl | rfl | rfl | rfl | rfl | rfl | rfl | rfl | rfl | rfl | rfl | rfl | rfl | rfl | rfl | rfl | rfl | rfl | rfl | rfl | rfl | rfl | rfl | rfl | rfl | rfl
      · exact hy0
      · exact hy1
      · exact hy2
      · exact hy3
      · exact hy4
      · exact hy5
      · exact hy6
      · exact hy7
      · exact hy8
      · exact hy9
      · exact hy10
      · exact hy11
      · exact hy12
      · exact hy13
      · exact hy14
      · exact hy15
      · exact hy16
      · exact hy17
      · exact hy18
      · exact hy19
      · exact hy20
      · exact hy21
      · exact hy22
      · exact hy23
      · exact hy24
      · exact hy25
      · exact hy26
      · exact hy27
      · exact hy28
      · exact hy29
      · exact hy30
      · exact hy31
      · exact hy32
      · exact hy33
      ) (fun j hj => hf j (fun k hk q => hj (by
        have : ∀ k, k < 34 → (dst_stA k).all (fun d => [16, 17, 18, 19, 20, 21, 22, 23, 24, 25, 26, 27, 28, 29, 30, 31, 32, 33, 34, 35, 36, 37, 38, 39, 40, 41, 42, 43, 44, 45, 46, 47, 48, 49].contains d) = true := by decide +kernel
        have h1 := this k hk
        rw [q] at h1
        simpa using h1)))]
    exact hQ y0 y1 y2 y3 y4 y5 y6 y7 y8 y9 y10 y11 y12 y13 y14 y15 y16 y17 y18 y19 y20 y21 y22 y23 y24 y25 y26 y27 y28 y29 y30 y31 y32 y33 w hR pv33
  case step =>
    intro i o a w ho hs hf dep hR
    have hi : i < 34 := (Array.getElem?_eq_some_iff.1 ho).1
    have e0 := evT ((hf 0 (by decide +kernel)).trans h0)
    have e3 := evT ((hf 3 (by decide +kernel)).trans h3)
    have e5 := evT ((hf 5 (by decide +kernel)).trans h5)
    rcases (by omega : i = 0 ∨ i = 1 ∨ i = 2 ∨ i = 3 ∨ i = 4 ∨ i = 5 ∨ i = 6 ∨ i = 7 ∨ i = 8 ∨ i = 9 ∨ i = 10 ∨ i = 11 ∨ i = 12 ∨ i = 13 ∨ i = 14 ∨ i = 15 ∨ i = 16 ∨ i = 17 ∨ i = 18 ∨ i = 19 ∨ i = 20 ∨ i = 21 ∨ i = 22 ∨ i = 23 ∨ i = 24 ∨ i = 25 ∨ i = 26 ∨ i = 27 ∨ i = 28 ∨ i = 29 ∨ i = 30 ∨ i = 31 ∨ i = 32 ∨ i = 33) with rfl | rfl | rfl | rfl | rfl | rfl | rfl | rfl | rfl | rfl | rfl | rfl | rfl | rfl | rfl | rfl | rfl | rfl | rfl | rfl | rfl | rfl | rfl | rfl | rfl | rfl | rfl | rfl | rfl | rfl | rfl | rfl | rfl | rfl
    · have ho2 : some _ = some o := ho
      obtain rfl := Option.some.inj ho2
      exact .inl ⟨wantN rfl, fun K hK => mo_move rfl e5 (hK _ _ (Below.refl _ _) rfl)⟩
    · have ho2 : some _ = some o := ho
      obtain rfl := Option.some.inj ho2
      exact .inl ⟨wantN rfl, fun K hK => mo_load (load_lst (hM w hR).1 (hM w hR).2) rfl e3 (hK _ _ (Below.refl _ _) rfl)⟩
    · have ho2 : some _ = some o := ho
      obtain rfl := Option.some.inj ho2
      obtain ⟨_, hv1, rfl⟩ : ∃ v, a.tmps[17]? = some v ∧ (fun (v : Value) (w : World) => v = .agg #[mv, .int .i64 nx]) v w := dep ⟨1, Ground.data⟩ (by simp [ops_stA]) rfl 17 rfl
      exact .inl ⟨wantN rfl, fun K hK => mo_call1 59 rfl (evT hv1) (enters_of (P := Tryz.prog) Tryz.func59 (by kernel_rfl) rfl) (hC2 w hR) (fun v w' h => hK v w' h.2 h.1)⟩
    · have ho2 : some _ = some o := ho
      obtain rfl := Option.some.inj ho2
      obtain ⟨_, hv0, rfl⟩ : ∃ v, a.tmps[16]? = some v ∧ (fun (v : Value) (w : World) => v = .slice sa sn sc) v w := dep ⟨0, Ground.data⟩ (by simp [ops_stA]) rfl 16 rfl
      obtain ⟨z2, hv2, pv2⟩ : ∃ v, a.tmps[18]? = some v ∧ (fun (v : Value) (w : World) => Szs w v rs) v w := dep ⟨2, Ground.data⟩ (by simp [ops_stA]) rfl 18 rfl
      exact .inl ⟨wantN rfl, fun K hK => mo_call2 58 rfl (evT hv0) (evT hv2) (enters_of (P := Tryz.prog) Tryz.func58 (by kernel_rfl) rfl) (hC3 w hR _ pv2) (fun v w' h => hK v w' h.2 h.1)⟩
    · have ho2 : some _ = some o := ho
      obtain rfl := Option.some.inj ho2
      obtain ⟨_, hv3, rfl⟩ : ∃ v, a.tmps[19]? = some v ∧ (fun (v : Value) (w : World) => v = .bool true) v w := dep ⟨3, Ground.data⟩ (by simp [ops_stA]) rfl 19 rfl
      exact .inl ⟨wantN rfl, fun K hK => mo_not rfl (evT hv3) (hK _ _ (Below.refl _ _) rfl)⟩
    · have ho2 : some _ = some o := ho
      obtain rfl := Option.some.inj ho2
      obtain ⟨_, hv4, rfl⟩ : ∃ v, a.tmps[20]? = some v ∧ (fun (v : Value) (w : World) => v = .bool false) v w := dep ⟨4, Ground.data⟩ (by simp [ops_stA]) rfl 20 rfl
      exact .inl ⟨wantN rfl, fun K hK => mo_move rfl (evT hv4) (hK _ _ (Below.refl _ _) rfl)⟩
    · have ho2 : some _ = some o := ho
      obtain rfl := Option.some.inj ho2
      obtain ⟨_, hv5, rfl⟩ : ∃ v, a.tmps[21]? = some v ∧ (fun (v : Value) (w : World) => v = .bool false) v w := dep ⟨5, Ground.guard⟩ (by simp [ops_stA]) rfl 21 rfl
      exact .inl ⟨wantG (b := false) rfl (show ((ops_stA[5]?).bind (·.dst)) = some 21 from rfl) hv5, fun K hK => mo_move rfl e0 (hK _ _ (Below.refl _ _) rfl)⟩
    · have ho2 : some _ = some o := ho
      obtain rfl := Option.some.inj ho2
      obtain ⟨_, hv6, rfl⟩ : ∃ v, a.tmps[22]? = some v ∧ (fun (v : Value) (w : World) => v = .pointer (some ⟨lb, 0, none⟩)) v w := dep ⟨6, Ground.data⟩ (by simp [ops_stA]) rfl 22 rfl
      obtain ⟨_, hv5, rfl⟩ : ∃ v, a.tmps[21]? = some v ∧ (fun (v : Value) (w : World) => v = .bool false) v w := dep ⟨5, Ground.guard⟩ (by simp [ops_stA]) rfl 21 rfl
      exact .inl ⟨wantG (b := false) rfl (show ((ops_stA[5]?).bind (·.dst)) = some 21 from rfl) hv5, fun K hK => mo_call1 30 rfl (evT hv6) (enters_of (P := Tryz.prog) Tryz.func30 (by kernel_rfl) rfl) (hC7 w hR) (fun v w' h => hK v w' h.2 h.1)⟩
    · have ho2 : some _ = some o := ho
      obtain rfl := Option.some.inj ho2
      obtain ⟨_, hv5, rfl⟩ : ∃ v, a.tmps[21]? = some v ∧ (fun (v : Value) (w : World) => v = .bool false) v w := dep ⟨5, Ground.guard⟩ (by simp [ops_stA]) rfl 21 rfl
      exact .inl ⟨wantG (b := false) rfl (show ((ops_stA[5]?).bind (·.dst)) = some 21 from rfl) hv5, fun K hK => mo_load (load_lst (hM w hR).1 (hM w hR).2) rfl e3 (hK _ _ (Below.refl _ _) rfl)⟩
    · have ho2 : some _ = some o := ho
      obtain rfl := Option.some.inj ho2
      obtain ⟨_, hv8, rfl⟩ : ∃ v, a.tmps[24]? = some v ∧ (fun (v : Value) (w : World) => v = .agg #[mv, .int .i64 nx]) v w := dep ⟨8, Ground.data⟩ (by simp [ops_stA]) rfl 24 rfl
      obtain ⟨_, hv5, rfl⟩ : ∃ v, a.tmps[21]? = some v ∧ (fun (v : Value) (w : World) => v = .bool false) v w := dep ⟨5, Ground.guard⟩ (by simp [ops_stA]) rfl 21 rfl
      exact .inl ⟨wantG (b := false) rfl (show ((ops_stA[5]?).bind (·.dst)) = some 21 from rfl) hv5, fun K hK => mo_call1 61 rfl (evT hv8) (enters_of (P := Tryz.prog) Tryz.func61 (by kernel_rfl) rfl) (hC9 w hR) (fun v w' h => hK v w' h.2 h.1)⟩
    · have ho2 : some _ = some o := ho
      obtain rfl := Option.some.inj ho2
      obtain ⟨z7, hv7, pv7⟩ : ∃ v, a.tmps[23]? = some v ∧ (fun (v : Value) (w : World) => Its w v its) v w := dep ⟨7, Ground.data⟩ (by simp [ops_stA]) rfl 23 rfl
      obtain ⟨z9, hv9, pv9⟩ : ∃ v, a.tmps[25]? = some v ∧ (fun (v : Value) (w : World) => Its w v its) v w := dep ⟨9, Ground.data⟩ (by simp [ops_stA]) rfl 25 rfl
      obtain ⟨_, hv5, rfl⟩ : ∃ v, a.tmps[21]? = some v ∧ (fun (v : Value) (w : World) => v = .bool false) v w := dep ⟨5, Ground.guard⟩ (by simp [ops_stA]) rfl 21 rfl
      exact .inl ⟨wantG (b := false) rfl (show ((ops_stA[5]?).bind (·.dst)) = some 21 from rfl) hv5, fun K hK => mo_call2 60 rfl (evT hv7) (evT hv9) (enters_of (P := Tryz.prog) Tryz.func60 (by kernel_rfl) rfl) (hC10 w hR _ pv7 _ pv9) (fun v w' h => hK v w' h.2 h.1)⟩
    · have ho2 : some _ = some o := ho
      obtain rfl := Option.some.inj ho2
      obtain ⟨_, hv10, rfl⟩ : ∃ v, a.tmps[26]? = some v ∧ (fun (v : Value) (w : World) => v = .bool true) v w := dep ⟨10, Ground.data⟩ (by simp [ops_stA]) rfl 26 rfl
      obtain ⟨_, hv5, rfl⟩ : ∃ v, a.tmps[21]? = some v ∧ (fun (v : Value) (w : World) => v = .bool false) v w := dep ⟨5, Ground.guard⟩ (by simp [ops_stA]) rfl 21 rfl
      exact .inl ⟨wantG (b := false) rfl (show ((ops_stA[5]?).bind (·.dst)) = some 21 from rfl) hv5, fun K hK => mo_not rfl (evT hv10) (hK _ _ (Below.refl _ _) rfl)⟩
    · have ho2 : some _ = some o := ho
      obtain rfl := Option.some.inj ho2
      obtain ⟨_, hv5, rfl⟩ : ∃ v, a.tmps[21]? = some v ∧ (fun (v : Value) (w : World) => v = .bool false) v w := dep ⟨5, Ground.data⟩ (by simp [ops_stA]) rfl 21 rfl
      obtain ⟨_, hv11, rfl⟩ : ∃ v, a.tmps[27]? = some v ∧ (fun (v : Value) (w : World) => v = .bool false) v w := dep ⟨11, Ground.data⟩ (by simp [ops_stA]) rfl 27 rfl
      exact .inl ⟨wantN rfl, fun K hK => mo_pick rfl (evT hv5) rfl (evT hv11) rfl (hK _ _ (Below.refl _ _) rfl)⟩
    · have ho2 : some _ = some o := ho
      obtain rfl := Option.some.inj ho2
      obtain ⟨_, hv12, rfl⟩ : ∃ v, a.tmps[28]? = some v ∧ (fun (v : Value) (w : World) => v = .bool false) v w := dep ⟨12, Ground.data⟩ (by simp [ops_stA]) rfl 28 rfl
      exact .inl ⟨wantN rfl, fun K hK => mo_move rfl (evT hv12) (hK _ _ (Below.refl _ _) rfl)⟩
    · have ho2 : some _ = some o := ho
      obtain rfl := Option.some.inj ho2
      obtain ⟨_, hv13, rfl⟩ : ∃ v, a.tmps[29]? = some v ∧ (fun (v : Value) (w : World) => v = .bool false) v w := dep ⟨13, Ground.guard⟩ (by simp [ops_stA]) rfl 29 rfl
      exact .inl ⟨wantG (b := false) rfl (show ((ops_stA[13]?).bind (·.dst)) = some 29 from rfl) hv13, fun K hK => mo_move rfl e0 (hK _ _ (Below.refl _ _) rfl)⟩
    · have ho2 : some _ = some o := ho
      obtain rfl := Option.some.inj ho2
      obtain ⟨_, hv14, rfl⟩ : ∃ v, a.tmps[30]? = some v ∧ (fun (v : Value) (w : World) => v = .pointer (some ⟨lb, 0, none⟩)) v w := dep ⟨14, Ground.data⟩ (by simp [ops_stA]) rfl 30 rfl
      obtain ⟨_, hv13, rfl⟩ : ∃ v, a.tmps[29]? = some v ∧ (fun (v : Value) (w : World) => v = .bool false) v w := dep ⟨13, Ground.guard⟩ (by simp [ops_stA]) rfl 29 rfl
      exact .inl ⟨wantG (b := false) rfl (show ((ops_stA[13]?).bind (·.dst)) = some 29 from rfl) hv13, fun K hK => mo_call1 24 rfl (evT hv14) (enters_of (P := Tryz.prog) Tryz.func24 (by kernel_rfl) rfl) (hC15 w hR) (fun v w' h => hK v w' h.2 h.1)⟩
    · have ho2 : some _ = some o := ho
      obtain rfl := Option.some.inj ho2
      obtain ⟨_, hv13, rfl⟩ : ∃ v, a.tmps[29]? = some v ∧ (fun (v : Value) (w : World) => v = .bool false) v w := dep ⟨13, Ground.guard⟩ (by simp [ops_stA]) rfl 29 rfl
      exact .inl ⟨wantG (b := false) rfl (show ((ops_stA[13]?).bind (·.dst)) = some 29 from rfl) hv13, fun K hK => mo_load (load_lst (hM w hR).1 (hM w hR).2) rfl e3 (hK _ _ (Below.refl _ _) rfl)⟩
    · have ho2 : some _ = some o := ho
      obtain rfl := Option.some.inj ho2
      obtain ⟨_, hv16, rfl⟩ : ∃ v, a.tmps[32]? = some v ∧ (fun (v : Value) (w : World) => v = .agg #[mv, .int .i64 nx]) v w := dep ⟨16, Ground.data⟩ (by simp [ops_stA]) rfl 32 rfl
      obtain ⟨_, hv13, rfl⟩ : ∃ v, a.tmps[29]? = some v ∧ (fun (v : Value) (w : World) => v = .bool false) v w := dep ⟨13, Ground.guard⟩ (by simp [ops_stA]) rfl 29 rfl
      exact .inl ⟨wantG (b := false) rfl (show ((ops_stA[13]?).bind (·.dst)) = some 29 from rfl) hv13, fun K hK => mo_call1 62 rfl (evT hv16) (enters_of (P := Tryz.prog) Tryz.func62 (by kernel_rfl) rfl) (hC17 w hR) (fun v w' h => hK v w' h.2 h.1)⟩
    · have ho2 : some _ = some o := ho
      obtain rfl := Option.some.inj ho2
      obtain ⟨_, hv15, rfl⟩ : ∃ v, a.tmps[31]? = some v ∧ (fun (v : Value) (w : World) => v = .string T) v w := dep ⟨15, Ground.data⟩ (by simp [ops_stA]) rfl 31 rfl
      obtain ⟨_, hv17, rfl⟩ : ∃ v, a.tmps[33]? = some v ∧ (fun (v : Value) (w : World) => v = .string T) v w := dep ⟨17, Ground.data⟩ (by simp [ops_stA]) rfl 33 rfl
      obtain ⟨_, hv13, rfl⟩ : ∃ v, a.tmps[29]? = some v ∧ (fun (v : Value) (w : World) => v = .bool false) v w := dep ⟨13, Ground.guard⟩ (by simp [ops_stA]) rfl 29 rfl
      exact .inl ⟨wantG (b := false) rfl (show ((ops_stA[13]?).bind (·.dst)) = some 29 from rfl) hv13, fun K hK => mo_neqS rfl (evT hv15) (evT hv17) (hK _ _ (Below.refl _ _) (congrArg Value.bool (by simp)))⟩
    · have ho2 : some _ = some o := ho
      obtain rfl := Option.some.inj ho2
      obtain ⟨_, hv13, rfl⟩ : ∃ v, a.tmps[29]? = some v ∧ (fun (v : Value) (w : World) => v = .bool false) v w := dep ⟨13, Ground.data⟩ (by simp [ops_stA]) rfl 29 rfl
      obtain ⟨_, hv18, rfl⟩ : ∃ v, a.tmps[34]? = some v ∧ (fun (v : Value) (w : World) => v = .bool false) v w := dep ⟨18, Ground.data⟩ (by simp [ops_stA]) rfl 34 rfl
      exact .inl ⟨wantN rfl, fun K hK => mo_pick rfl (evT hv13) rfl (evT hv18) rfl (hK _ _ (Below.refl _ _) rfl)⟩
    · have ho2 : some _ = some o := ho
      obtain rfl := Option.some.inj ho2
      obtain ⟨_, hv19, rfl⟩ : ∃ v, a.tmps[35]? = some v ∧ (fun (v : Value) (w : World) => v = .bool false) v w := dep ⟨19, Ground.data⟩ (by simp [ops_stA]) rfl 35 rfl
      exact .inl ⟨wantN rfl, fun K hK => mo_move rfl (evT hv19) (hK _ _ (Below.refl _ _) rfl)⟩
    · have ho2 : some _ = some o := ho
      obtain rfl := Option.some.inj ho2
      obtain ⟨_, hv20, rfl⟩ : ∃ v, a.tmps[36]? = some v ∧ (fun (v : Value) (w : World) => v = .bool false) v w := dep ⟨20, Ground.guard⟩ (by simp [ops_stA]) rfl 36 rfl
      exact .inl ⟨wantG (b := false) rfl (show ((ops_stA[20]?).bind (·.dst)) = some 36 from rfl) hv20, fun K hK => mo_move rfl e0 (hK _ _ (Below.refl _ _) rfl)⟩
    · have ho2 : some _ = some o := ho
      obtain rfl := Option.some.inj ho2
      obtain ⟨_, hv21, rfl⟩ : ∃ v, a.tmps[37]? = some v ∧ (fun (v : Value) (w : World) => v = .pointer (some ⟨lb, 0, none⟩)) v w := dep ⟨21, Ground.data⟩ (by simp [ops_stA]) rfl 37 rfl
      obtain ⟨_, hv20, rfl⟩ : ∃ v, a.tmps[36]? = some v ∧ (fun (v : Value) (w : World) => v = .bool false) v w := dep ⟨20, Ground.guard⟩ (by simp [ops_stA]) rfl 36 rfl
      exact .inl ⟨wantG (b := false) rfl (show ((ops_stA[20]?).bind (·.dst)) = some 36 from rfl) hv20, fun K hK => mo_call1 31 rfl (evT hv21) (enters_of (P := Tryz.prog) Tryz.func31 (by kernel_rfl) rfl) (hC22 w hR) (fun v w' h => hK v w' h.2 h.1)⟩
    · have ho2 : some _ = some o := ho
      obtain rfl := Option.some.inj ho2
      obtain ⟨_, hv20, rfl⟩ : ∃ v, a.tmps[36]? = some v ∧ (fun (v : Value) (w : World) => v = .bool false) v w := dep ⟨20, Ground.guard⟩ (by simp [ops_stA]) rfl 36 rfl
      exact .inl ⟨wantG (b := false) rfl (show ((ops_stA[20]?).bind (·.dst)) = some 36 from rfl) hv20, fun K hK => mo_move rfl e5 (hK _ _ (Below.refl _ _) rfl)⟩
    · have ho2 : some _ = some o := ho
      obtain rfl := Option.some.inj ho2
      obtain ⟨_, hv23, rfl⟩ : ∃ v, a.tmps[39]? = some v ∧ (fun (v : Value) (w : World) => v = .slice sa sn sc) v w := dep ⟨23, Ground.data⟩ (by simp [ops_stA]) rfl 39 rfl
      obtain ⟨_, hv20, rfl⟩ : ∃ v, a.tmps[36]? = some v ∧ (fun (v : Value) (w : World) => v = .bool false) v w := dep ⟨20, Ground.guard⟩ (by simp [ops_stA]) rfl 36 rfl
      exact .inl ⟨wantG (b := false) rfl (show ((ops_stA[20]?).bind (·.dst)) = some 36 from rfl) hv20, fun K hK => mo_lenZ rfl (evT hv23) (hK _ _ (Below.refl _ _) rfl)⟩
    · have ho2 : some _ = some o := ho
      obtain rfl := Option.some.inj ho2
      obtain ⟨_, hv22, rfl⟩ : ∃ v, a.tmps[38]? = some v ∧ (fun (v : Value) (w : World) => v = .int .i64 (sn : Nat)) v w := dep ⟨22, Ground.data⟩ (by simp [ops_stA]) rfl 38 rfl
      obtain ⟨_, hv24, rfl⟩ : ∃ v, a.tmps[40]? = some v ∧ (fun (v : Value) (w : World) => v = .int .i64 (sn : Nat)) v w := dep ⟨24, Ground.data⟩ (by simp [ops_stA]) rfl 40 rfl
      obtain ⟨_, hv20, rfl⟩ : ∃ v, a.tmps[36]? = some v ∧ (fun (v : Value) (w : World) => v = .bool false) v w := dep ⟨20, Ground.guard⟩ (by simp [ops_stA]) rfl 36 rfl
      exact .inl ⟨wantG (b := false) rfl (show ((ops_stA[20]?).bind (·.dst)) = some 36 from rfl) hv20, fun K hK => mo_neqI rfl (evT hv22) (evT hv24) (hK _ _ (Below.refl _ _) (congrArg Value.bool (by simp)))⟩
    · have ho2 : some _ = some o := ho
      obtain rfl := Option.some.inj ho2
      obtain ⟨_, hv20, rfl⟩ : ∃ v, a.tmps[36]? = some v ∧ (fun (v : Value) (w : World) => v = .bool false) v w := dep ⟨20, Ground.data⟩ (by simp [ops_stA]) rfl 36 rfl
      obtain ⟨_, hv25, rfl⟩ : ∃ v, a.tmps[41]? = some v ∧ (fun (v : Value) (w : World) => v = .bool false) v w := dep ⟨25, Ground.data⟩ (by simp [ops_stA]) rfl 41 rfl
      exact .inl ⟨wantN rfl, fun K hK => mo_pick rfl (evT hv20) rfl (evT hv25) rfl (hK _ _ (Below.refl _ _) rfl)⟩
    · have ho2 : some _ = some o := ho
      obtain rfl := Option.some.inj ho2
      obtain ⟨_, hv26, rfl⟩ : ∃ v, a.tmps[42]? = some v ∧ (fun (v : Value) (w : World) => v = .bool false) v w := dep ⟨26, Ground.data⟩ (by simp [ops_stA]) rfl 42 rfl
      exact .inl ⟨wantN rfl, fun K hK => mo_move rfl (evT hv26) (hK _ _ (Below.refl _ _) rfl)⟩
    · have ho2 : some _ = some o := ho
      obtain rfl := Option.some.inj ho2
      obtain ⟨_, hv27, rfl⟩ : ∃ v, a.tmps[43]? = some v ∧ (fun (v : Value) (w : World) => v = .bool false) v w := dep ⟨27, Ground.guard⟩ (by simp [ops_stA]) rfl 43 rfl
      exact .inl ⟨wantG (b := false) rfl (show ((ops_stA[27]?).bind (·.dst)) = some 43 from rfl) hv27, fun K hK => mo_move rfl e0 (hK _ _ (Below.refl _ _) rfl)⟩
    · have ho2 : some _ = some o := ho
      obtain rfl := Option.some.inj ho2
      obtain ⟨_, hv28, rfl⟩ : ∃ v, a.tmps[44]? = some v ∧ (fun (v : Value) (w : World) => v = .pointer (some ⟨lb, 0, none⟩)) v w := dep ⟨28, Ground.data⟩ (by simp [ops_stA]) rfl 44 rfl
      obtain ⟨_, hv27, rfl⟩ : ∃ v, a.tmps[43]? = some v ∧ (fun (v : Value) (w : World) => v = .bool false) v w := dep ⟨27, Ground.guard⟩ (by simp [ops_stA]) rfl 43 rfl
      exact .inl ⟨wantG (b := false) rfl (show ((ops_stA[27]?).bind (·.dst)) = some 43 from rfl) hv27, fun K hK => mo_call1 29 rfl (evT hv28) (enters_of (P := Tryz.prog) Tryz.func29 (by kernel_rfl) rfl) (hC29 w hR) (fun v w' h => hK v w' h.2 h.1)⟩
    · have ho2 : some _ = some o := ho
      obtain rfl := Option.some.inj ho2
      obtain ⟨_, hv27, rfl⟩ : ∃ v, a.tmps[43]? = some v ∧ (fun (v : Value) (w : World) => v = .bool false) v w := dep ⟨27, Ground.guard⟩ (by simp [ops_stA]) rfl 43 rfl
      exact .inl ⟨wantG (b := false) rfl (show ((ops_stA[27]?).bind (·.dst)) = some 43 from rfl) hv27, fun K hK => mo_field field_lst rfl e3 (hK _ _ (Below.refl _ _) rfl)⟩
    · have ho2 : some _ = some o := ho
      obtain rfl := Option.some.inj ho2
      obtain ⟨_, hv30, rfl⟩ : ∃ v, a.tmps[46]? = some v ∧ (fun (v : Value) (w : World) => v = .pointer (some ⟨mb, 1, none⟩)) v w := dep ⟨30, Ground.data⟩ (by simp [ops_stA]) rfl 46 rfl
      obtain ⟨_, hv27, rfl⟩ : ∃ v, a.tmps[43]? = some v ∧ (fun (v : Value) (w : World) => v = .bool false) v w := dep ⟨27, Ground.guard⟩ (by simp [ops_stA]) rfl 43 rfl
      exact .inl ⟨wantG (b := false) rfl (show ((ops_stA[27]?).bind (·.dst)) = some 43 from rfl) hv27, fun K hK => mo_load (load_int (hM w hR).2) rfl (evT hv30) (hK _ _ (Below.refl _ _) rfl)⟩
    · have ho2 : some _ = some o := ho
      obtain rfl := Option.some.inj ho2
      obtain ⟨_, hv29, rfl⟩ : ∃ v, a.tmps[45]? = some v ∧ (fun (v : Value) (w : World) => v = .int .i64 nx) v w := dep ⟨29, Ground.data⟩ (by simp [ops_stA]) rfl 45 rfl
      obtain ⟨_, hv31, rfl⟩ : ∃ v, a.tmps[47]? = some v ∧ (fun (v : Value) (w : World) => v = .int .i64 nx) v w := dep ⟨31, Ground.data⟩ (by simp [ops_stA]) rfl 47 rfl
      obtain ⟨_, hv27, rfl⟩ : ∃ v, a.tmps[43]? = some v ∧ (fun (v : Value) (w : World) => v = .bool false) v w := dep ⟨27, Ground.guard⟩ (by simp [ops_stA]) rfl 43 rfl
      exact .inl ⟨wantG (b := false) rfl (show ((ops_stA[27]?).bind (·.dst)) = some 43 from rfl) hv27, fun K hK => mo_neqI rfl (evT hv29) (evT hv31) (hK _ _ (Below.refl _ _) (congrArg Value.bool (by simp)))⟩
    · have ho2 : some _ = some o := ho
      obtain rfl := Option.some.inj ho2
      obtain ⟨_, hv27, rfl⟩ : ∃ v, a.tmps[43]? = some v ∧ (fun (v : Value) (w : World) => v = .bool false) v w := dep ⟨27, Ground.data⟩ (by simp [ops_stA]) rfl 43 rfl
      obtain ⟨_, hv32, rfl⟩ : ∃ v, a.tmps[48]? = some v ∧ (fun (v : Value) (w : World) => v = .bool false) v w := dep ⟨32, Ground.data⟩ (by simp [ops_stA]) rfl 48 rfl
      exact .inl ⟨wantN rfl, fun K hK => mo_pick rfl (evT hv27) rfl (evT hv32) rfl (hK _ _ (Below.refl _ _) rfl)⟩
def ops_stB : Array Oper := #[
  { dst := some 80, op := Op.move (Operand.tmp 9), type := 4, pos := "law.go:54", after := #[], guard := none },
  { dst := some 81, op := Op.unOp UnOp.not 4 (Operand.tmp 80), type := 4, pos := "law.go:54", after := #[{ on := 0, ground := Ground.data }], guard := none },
  { dst := some 82, op := Op.move (Operand.tmp 81), type := 4, pos := "law.go:54", after := #[{ on := 1, ground := Ground.data }], guard := none },
  { dst := some 83, op := Op.move (Operand.tmp 11), type := 4, pos := "law.go:54", after := #[{ on := 2, ground := Ground.guard }], guard := some (2, false) },
  { dst := some 84, op := Op.unOp UnOp.not 4 (Operand.tmp 83), type := 4, pos := "law.go:54", after := #[{ on := 3, ground := Ground.data }, { on := 2, ground := Ground.guard }], guard := some (2, false) },
  { dst := some 85, op := Op.pick (Operand.tmp 82) (Operand.const (Value.bool true)) (Operand.tmp 84), type := 4, pos := "law.go:54", after := #[{ on := 2, ground := Ground.data }, { on := 4, ground := Ground.data }], guard := none },
  { dst := some 86, op := Op.move (Operand.tmp 85), type := 4, pos := "law.go:54", after := #[{ on := 5, ground := Ground.data }, { on := 2, ground := Ground.chain }], guard := none },
  { dst := some 87, op := Op.move (Operand.tmp 13), type := 4, pos := "law.go:54", after := #[{ on := 6, ground := Ground.guard }], guard := some (6, false) },
  { dst := some 88, op := Op.unOp UnOp.not 4 (Operand.tmp 87), type := 4, pos := "law.go:54", after := #[{ on := 7, ground := Ground.data }, { on := 6, ground := Ground.guard }], guard := some (6, false) },
  { dst := some 89, op := Op.pick (Operand.tmp 86) (Operand.const (Value.bool true)) (Operand.tmp 88), type := 4, pos := "law.go:54", after := #[{ on := 6, ground := Ground.data }, { on := 8, ground := Ground.data }], guard := none },
  { dst := some 90, op := Op.move (Operand.tmp 89), type := 4, pos := "law.go:54", after := #[{ on := 9, ground := Ground.data }, { on := 6, ground := Ground.chain }], guard := none },
  { dst := some 91, op := Op.move (Operand.tmp 10), type := 9, pos := "law.go:54", after := #[{ on := 10, ground := Ground.guard }], guard := some (10, false) },
  { dst := some 92, op := Op.fieldAddr 47 (Operand.tmp 12) 1, type := 0, pos := "law.go:54", after := #[{ on := 10, ground := Ground.guard }], guard := some (10, false) },
  { dst := some 93, op := Op.load 9 (Operand.tmp 92), type := 9, pos := "law.go:54", after := #[{ on := 12, ground := Ground.data }, { on := 10, ground := Ground.guard }], guard := some (10, false) },
  { dst := some 94, op := Op.binOp BinOp.neq 9 (Operand.tmp 91) (Operand.tmp 93) 9, type := 4, pos := "law.go:54", after := #[{ on := 11, ground := Ground.data }, { on := 13, ground := Ground.data }, { on := 10, ground := Ground.guard }], guard := some (10, false) },
  { dst := some 95, op := Op.pick (Operand.tmp 90) (Operand.const (Value.bool true)) (Operand.tmp 94), type := 4, pos := "law.go:54", after := #[{ on := 10, ground := Ground.data }, { on := 14, ground := Ground.data }], guard := none },
  { dst := some 96, op := Op.move (Operand.tmp 95), type := 4, pos := "law.go:54", after := #[{ on := 15, ground := Ground.data }, { on := 10, ground := Ground.chain }], guard := none },
  { dst := some 97, op := Op.move (Operand.tmp 8), type := 36, pos := "law.go:54", after := #[{ on := 16, ground := Ground.guard }], guard := some (16, false) },
  { dst := some 98, op := Op.fieldAddr 47 (Operand.tmp 12) 2, type := 0, pos := "law.go:54", after := #[{ on := 16, ground := Ground.guard }], guard := some (16, false) },
  { dst := some 99, op := Op.load 36 (Operand.tmp 98), type := 36, pos := "law.go:54", after := #[{ on := 18, ground := Ground.data }, { on := 16, ground := Ground.guard }], guard := some (16, false) },
  { dst := some 100, op := Op.call { callee := Callee.value (Operand.func 21), args := #[Operand.tmp 97, Operand.tmp 99], argTypes := #[36, 36] }, type := 4, pos := "law.go:54", after := #[{ on := 17, ground := Ground.data }, { on := 19, ground := Ground.data }, { on := 16, ground := Ground.chain }, { on := 16, ground := Ground.guard }], guard := some (16, false) },
  { dst := some 101, op := Op.unOp UnOp.not 4 (Operand.tmp 100), type := 4, pos := "law.go:54", after := #[{ on := 20, ground := Ground.data }, { on := 16, ground := Ground.guard }], guard := some (16, false) },
  { dst := some 102, op := Op.pick (Operand.tmp 96) (Operand.const (Value.bool true)) (Operand.tmp 101), type := 4, pos := "law.go:54", after := #[{ on := 16, ground := Ground.data }, { on := 21, ground := Ground.data }], guard := none },
  { dst := some 103, op := Op.move (Operand.tmp 102), type := 4, pos := "law.go:54", after := #[{ on := 22, ground := Ground.data }, { on := 20, ground := Ground.chain }], guard := none },
  { dst := some 104, op := Op.move (Operand.tmp 0), type := 25, pos := "law.go:54", after := #[{ on := 23, ground := Ground.guard }], guard := some (23, false) },
  { dst := some 105, op := Op.fieldAddr 63 (Operand.tmp 7) 0, type := 0, pos := "law.go:54", after := #[{ on := 23, ground := Ground.guard }], guard := some (23, false) },
  { dst := some 106, op := Op.load 3 (Operand.tmp 105), type := 3, pos := "law.go:54", after := #[{ on := 25, ground := Ground.data }, { on := 23, ground := Ground.guard }], guard := some (23, false) },
  { dst := some 107, op := Op.call { callee := Callee.value (Operand.func 22), args := #[Operand.tmp 104, Operand.tmp 106], argTypes := #[25, 3] }, type := 3, pos := "law.go:54", after := #[{ on := 24, ground := Ground.data }, { on := 26, ground := Ground.data }, { on := 23, ground := Ground.chain }, { on := 23, ground := Ground.guard }], guard := some (23, false) },
  { dst := some 108, op := Op.load 32 (Operand.tmp 3), type := 32, pos := "law.go:54", after := #[{ on := 23, ground := Ground.guard }], guard := some (23, false) },
  { dst := some 109, op := Op.fieldAddr 63 (Operand.tmp 7) 0, type := 0, pos := "law.go:54", after := #[{ on := 23, ground := Ground.guard }], guard := some (23, false) },
  { dst := some 110, op := Op.load 3 (Operand.tmp 109), type := 3, pos := "law.go:54", after := #[{ on := 29, ground := Ground.data }, { on := 23, ground := Ground.guard }], guard := some (23, false) },
  { dst := some 111, op := Op.call { callee := Callee.value (Operand.func 23), args := #[Operand.tmp 108, Operand.tmp 110], argTypes := #[32, 3] }, type := 3, pos := "law.go:54", after := #[{ on := 28, ground := Ground.data }, { on := 30, ground := Ground.data }, { on := 27, ground := Ground.chain }, { on := 23, ground := Ground.guard }], guard := some (23, false) },
  { dst := some 112, op := Op.binOp BinOp.neq 3 (Operand.tmp 107) (Operand.tmp 111) 3, type := 4, pos := "law.go:54", after := #[{ on := 27, ground := Ground.data }, { on := 31, ground := Ground.data }, { on := 23, ground := Ground.guard }], guard := some (23, false) },
  { dst := some 113, op := Op.pick (Operand.tmp 103) (Operand.const (Value.bool true)) (Operand.tmp 112), type := 4, pos := "law.go:54", after := #[{ on := 23, ground := Ground.data }, { on := 32, ground := Ground.data }], guard := none }]
def dst_stB (i : Nat) : Option Nat := (ops_stB[i]?).bind (·.dst)
theorem inj_stB : ∀ i, i < 34 → ∀ k, k < 34 → dst_stB i ≠ none → dst_stB i = dst_stB k → i = k := by decide +kernel
theorem lt_stB : ∀ i, i < 34 → (dst_stB i).getD 0 < 122 := by decide +kernel
theorem low_stB : ∀ i : Fin 34, ∀ e ∈ (ops_stB[i.1]'(by exact i.2)).after, Region.binds .any e = true → e.on < i.1 := by decide +kernel
def pv_stB (mv : Value) (lb mb xb wb fn fc gc : Nat) (fa ga : Option Addr) (nx id pl : Int) (R : ByteArray) : List (Value → World → Prop) := [
  fun v w => v = .bool true,
  fun v w => v = .bool false,
  fun v w => v = .bool false,
  fun v w => v = .bool true,
  fun v w => v = .bool false,
  fun v w => v = .bool false,
  fun v w => v = .bool false,
  fun v w => v = .bool true,
  fun v w => v = .bool false,
  fun v w => v = .bool false,
  fun v w => v = .bool false,
  fun v w => v = .string R,
  fun v w => v = .pointer (some ⟨wb, 1, none⟩),
  fun v w => v = .string R,
  fun v w => v = .bool false,
  fun v w => v = .bool false,
  fun v w => v = .bool false,
  fun v w => v = .slice fa fn fc,
  fun v w => v = .pointer (some ⟨wb, 2, none⟩),
  fun v w => v = .slice ga fn gc,
  fun v w => v = .bool true,
  fun v w => v = .bool false,
  fun v w => v = .bool false,
  fun v w => v = .bool false,
  fun v w => v = .pointer (some ⟨lb, 0, none⟩),
  fun v w => v = .pointer (some ⟨xb, 0, none⟩),
  fun v w => v = .int .i64 id,
  fun v w => v = .int .i64 pl,
  fun v w => v = .agg #[mv, .int .i64 nx],
  fun v w => v = .pointer (some ⟨xb, 0, none⟩),
  fun v w => v = .int .i64 id,
  fun v w => v = .int .i64 pl,
  fun v w => v = .bool false,
  fun v w => v = .bool false]
set_option maxRecDepth 100000 in
set_option maxHeartbeats 4000000 in
theorem region_stB (a0 : Act) (w0 : World) (mv : Value) (lb mb xb wb fn fc gc : Nat) (fa ga : Option Addr) (nx id pl : Int) (R : ByteArray) (Q : Exit → Act → World → Prop)
    (hsz : a0.tmps.size = 122) (h0 : a0.tmps[0]? = some (.pointer (some ⟨lb, 0, none⟩))) (h3 : a0.tmps[3]? = some (.pointer (some ⟨mb, 0, none⟩))) (h7 : a0.tmps[7]? = some (.pointer (some ⟨xb, 0, none⟩))) (h8 : a0.tmps[8]? = some (.slice fa fn fc)) (h9 : a0.tmps[9]? = some (.bool true)) (h10 : a0.tmps[10]? = some (.string R)) (h11 : a0.tmps[11]? = some (.bool true)) (h12 : a0.tmps[12]? = some (.pointer (some ⟨wb, 0, none⟩))) (h13 : a0.tmps[13]? = some (.bool true))
    (hM : ∀ W, Below w0.heap.size w0 W → W.cell? ⟨mb, 0, none⟩ = some mv ∧ W.cell? ⟨mb, 1, none⟩ = some (.int .i64 nx))
    (hX : ∀ W, Below w0.heap.size w0 W → W.cell? ⟨xb, 0, none⟩ = some (.int .i64 id))
    (hI : ∀ W, Below w0.heap.size w0 W → W.cell? ⟨wb, 1, none⟩ = some (.string R) ∧ W.cell? ⟨wb, 2, none⟩ = some (.slice ga fn gc))
    (hC20 : ∀ (W : World) (_ : Below w0.heap.size w0 W), Calls Tryz.prog 21 #[.slice fa fn fc, .slice ga fn gc] W fun e w => ∃ v, e = .returned v ∧ (v = .bool true) ∧ Below W.heap.size W w)
    (hC27 : ∀ (W : World) (_ : Below w0.heap.size w0 W), Calls Tryz.prog 22 #[.pointer (some ⟨lb, 0, none⟩), .int .i64 id] W fun e w => ∃ v, e = .returned v ∧ (v = .int .i64 pl) ∧ Below W.heap.size W w)
    (hC31 : ∀ (W : World) (_ : Below w0.heap.size w0 W), Calls Tryz.prog 23 #[.agg #[mv, .int .i64 nx], .int .i64 id] W fun e w => ∃ v, e = .returned v ∧ (v = .int .i64 pl) ∧ Below W.heap.size W w)
    (hQ : ∀ (y0 y1 y2 y3 y4 y5 y6 y7 y8 y9 y10 y11 y12 y13 y14 y15 y16 y17 y18 y19 y20 y21 y22 y23 y24 y25 y26 y27 y28 y29 y30 y31 y32 y33 : Value) (w : World), Below w0.heap.size w0 w → ((fun (v : Value) (w : World) => v = .bool false) y33 w) → Q .normal { a0 with tmps := [(80, y0), (81, y1), (82, y2), (83, y3), (84, y4), (85, y5), (86, y6), (87, y7), (88, y8), (89, y9), (90, y10), (91, y11), (92, y12), (93, y13), (94, y14), (95, y15), (96, y16), (97, y17), (98, y18), (99, y19), (100, y20), (101, y21), (102, y22), (103, y23), (104, y24), (105, y25), (106, y26), (107, y27), (108, y28), (109, y29), (110, y30), (111, y31), (112, y32), (113, y33)].foldl (fun u p => u.setIfInBounds p.1 p.2) a0.tmps } w) :
    wpAny Tryz.prog .any ops_stB Q ops_stB.size (Array.replicate ops_stB.size false) a0 w0 := by
  have M : AllM (pv_stB mv lb mb xb wb fn fc gc fa ga nx id pl R) := ⟨fun v x y hb h => h, fun v x y hb h => h, fun v x y hb h => h, fun v x y hb h => h, fun v x y hb h => h, fun v x y hb h => h, fun v x y hb h => h, fun v x y hb h => h, fun v x y hb h => h, fun v x y hb h => h, fun v x y hb h => h, fun v x y hb h => h, fun v x y hb h => h, fun v x y hb h => h, fun v x y hb h => h, fun v x y hb h => h, fun v x y hb h => h, fun v x y hb h => h, fun v x y hb h => h, fun v x y hb h => h, fun v x y hb h => h, fun v x y hb h => h, fun v x y hb h => h, fun v x y hb h => h, fun v x y hb h => h, fun v x y hb h => h, fun v x y hb h => h, fun v x y hb h => h, fun v x y hb h => h, fun v x y hb h => h, fun v x y hb h => h, fun v x y hb h => h, fun v x y hb h => h, fun v x y hb h => h, trivial⟩
  refine wpAny_mono a0 w0 dst_stB (pvL (pv_stB mv lb mb xb wb fn fc gc fa ga nx id pl R)) (fun x y => Below x.heap.size x y) (Below.refl _ _) (fun x y h g => h.trans (g.mono h.size)) (fun i v x y _ g h => pvL_mono M g h)
    (fun i o ho => by unfold dst_stB; rw [ho]; rfl)
    (fun i k d hi hk h1 h2 => inj_stB i hi k hk (by rw [h1]; intro q; cases q) (by rw [h1, h2]))
    (fun i d hi h => by have := lt_stB i hi; rw [h] at this; rw [hsz]; exact this)
    (fun i o e ho he hb => by
      obtain ⟨hi, rfl⟩ := Array.getElem?_eq_some_iff.1 ho
      exact low_stB ⟨i, hi⟩ e he hb)
    ?step (fun w _ => Below.refl _ _) ?fin
  case fin =>
    intro a w hd hs hf hv hR
    obtain ⟨y0, hy0, pv0⟩ := hv 0 80 (by decide) rfl
    obtain ⟨y1, hy1, pv1⟩ := hv 1 81 (by decide) rfl
    obtain ⟨y2, hy2, pv2⟩ := hv 2 82 (by decide) rfl
    obtain ⟨y3, hy3, pv3⟩ := hv 3 83 (by decide) rfl
    obtain ⟨y4, hy4, pv4⟩ := hv 4 84 (by decide) rfl
    obtain ⟨y5, hy5, pv5⟩ := hv 5 85 (by decide) rfl
    obtain ⟨y6, hy6, pv6⟩ := hv 6 86 (by decide) rfl
    obtain ⟨y7, hy7, pv7⟩ := hv 7 87 (by decide) rfl
    obtain ⟨y8, hy8, pv8⟩ := hv 8 88 (by decide) rfl
    obtain ⟨y9, hy9, pv9⟩ := hv 9 89 (by decide) rfl
    obtain ⟨y10, hy10, pv10⟩ := hv 10 90 (by decide) rfl
    obtain ⟨y11, hy11, pv11⟩ := hv 11 91 (by decide) rfl
    obtain ⟨y12, hy12, pv12⟩ := hv 12 92 (by decide) rfl
    obtain ⟨y13, hy13, pv13⟩ := hv 13 93 (by decide) rfl
    obtain ⟨y14, hy14, pv14⟩ := hv 14 94 (by decide) rfl
    obtain ⟨y15, hy15, pv15⟩ := hv 15 95 (by decide) rfl
    obtain ⟨y16, hy16, pv16⟩ := hv 16 96 (by decide) rfl
    obtain ⟨y17, hy17, pv17⟩ := hv 17 97 (by decide) rfl
    obtain ⟨y18, hy18, pv18⟩ := hv 18 98 (by decide) rfl
    obtain ⟨y19, hy19, pv19⟩ := hv 19 99 (by decide) rfl
    obtain ⟨y20, hy20, pv20⟩ := hv 20 100 (by decide) rfl
    obtain ⟨y21, hy21, pv21⟩ := hv 21 101 (by decide) rfl
    obtain ⟨y22, hy22, pv22⟩ := hv 22 102 (by decide) rfl
    obtain ⟨y23, hy23, pv23⟩ := hv 23 103 (by decide) rfl
    obtain ⟨y24, hy24, pv24⟩ := hv 24 104 (by decide) rfl
    obtain ⟨y25, hy25, pv25⟩ := hv 25 105 (by decide) rfl
    obtain ⟨y26, hy26, pv26⟩ := hv 26 106 (by decide) rfl
    obtain ⟨y27, hy27, pv27⟩ := hv 27 107 (by decide) rfl
    obtain ⟨y28, hy28, pv28⟩ := hv 28 108 (by decide) rfl
    obtain ⟨y29, hy29, pv29⟩ := hv 29 109 (by decide) rfl
    obtain ⟨y30, hy30, pv30⟩ := hv 30 110 (by decide) rfl
    obtain ⟨y31, hy31, pv31⟩ := hv 31 111 (by decide) rfl
    obtain ⟨y32, hy32, pv32⟩ := hv 32 112 (by decide) rfl
    obtain ⟨y33, hy33, pv33⟩ := hv 33 113 (by decide) rfl
    rw [act_set' (a := a) (a0 := a0) [(80, y0), (81, y1), (82, y2), (83, y3), (84, y4), (85, y5), (86, y6), (87, y7), (88, y8), (89, y9), (90, y10), (91, y11), (92, y12), (93, y13), (94, y14), (95, y15), (96, y16), (97, y17), (98, y18), (99, y19), (100, y20), (101, y21), (102, y22), (103, y23), (104, y24), (105, y25), (106, y26), (107, y27), (108, y28), (109, y29), (110, y30), (111, y31), (112, y32), (113, y33)] hd hs (by
      intro p hp
      simp only [List.mem_cons, List.not_mem_nil, or_false] at hp
      rcases hp with rfl | rfl | rfl | rfl | rfl | rfl | rfl | rfl | rfl | rfl | rfl | rfl | rfl | rfl | rfl | rfl | rfl | rfl | rfl | rfl | rfl | rfl | rfl | rfl | rfl | rfl | rfl | rfl | rfl | rfl | rfl | rfl | rfl | rfl
      · exact hy0
      · exact hy1
      · exact hy2
      · exact hy3
      · exact hy4
      · exact hy5
      · exact hy6
      · exact hy7
      · exact hy8
      · exact hy9
      · exact hy10
      · exact hy11
      · exact hy12
      · exact hy13
      · exact hy14
      · exact hy15
      · exact hy16
      · exact hy17
      · exact hy18
      · exact hy19
      · exact hy20
      · exact hy21
      · exact hy22
      · exact hy23
      · exact hy24
      · exact hy25
      · exact hy26
      · exact hy27
      · exact hy28
      · exact hy29
      · exact hy30
      · exact hy31
      · exact hy32
      · exact hy33
      ) (fun j hj => hf j (fun k hk q => hj (by
        have : ∀ k, k < 34 → (dst_stB k).all (fun d => [80, 81, 82, 83, 84, 85, 86, 87, 88, 89, 90, 91, 92, 93, 94, 95, 96, 97, 98, 99, 100, 101, 102, 103, 104, 105, 106, 107, 108, 109, 110, 111, 112, 113].contains d) = true := by decide +kernel
        have h1 := this k hk
        rw [q] at h1
        simpa using h1)))]
    exact hQ y0 y1 y2 y3 y4 y5 y6 y7 y8 y9 y10 y11 y12 y13 y14 y15 y16 y17 y18 y19 y20 y21 y22 y23 y24 y25 y26 y27 y28 y29 y30 y31 y32 y33 w hR pv33
  case step =>
    intro i o a w ho hs hf dep hR
    have hi : i < 34 := (Array.getElem?_eq_some_iff.1 ho).1
    have e0 := evT ((hf 0 (by decide +kernel)).trans h0)
    have e3 := evT ((hf 3 (by decide +kernel)).trans h3)
    have e7 := evT ((hf 7 (by decide +kernel)).trans h7)
    have e8 := evT ((hf 8 (by decide +kernel)).trans h8)
    have e9 := evT ((hf 9 (by decide +kernel)).trans h9)
    have e10 := evT ((hf 10 (by decide +kernel)).trans h10)
    have e11 := evT ((hf 11 (by decide +kernel)).trans h11)
    have e12 := evT ((hf 12 (by decide +kernel)).trans h12)
    have e13 := evT ((hf 13 (by decide +kernel)).trans h13)
    rcases (by omega : i = 0 ∨ i = 1 ∨ i = 2 ∨ i = 3 ∨ i = 4 ∨ i = 5 ∨ i = 6 ∨ i = 7 ∨ i = 8 ∨ i = 9 ∨ i = 10 ∨ i = 11 ∨ i = 12 ∨ i = 13 ∨ i = 14 ∨ i = 15 ∨ i = 16 ∨ i = 17 ∨ i = 18 ∨ i = 19 ∨ i = 20 ∨ i = 21 ∨ i = 22 ∨ i = 23 ∨ i = 24 ∨ i = 25 ∨ i = 26 ∨ i = 27 ∨ i = 28 ∨ i = 29 ∨ i = 30 ∨ i = 31 ∨ i = 32 ∨ i = 33) with rfl | rfl | rfl | rfl | rfl | rfl | rfl | rfl | rfl | rfl | rfl | rfl | rfl | rfl | rfl | rfl | rfl | rfl | rfl | rfl | rfl | rfl | rfl | rfl | rfl | rfl | rfl | rfl | rfl | rfl | rfl | rfl | rfl | rfl
    · have ho2 : some _ = some o := ho
      obtain rfl := Option.some.inj ho2
      exact .inl ⟨wantN rfl, fun K hK => mo_move rfl e9 (hK _ _ (Below.refl _ _) rfl)⟩
    · have ho2 : some _ = some o := ho
      obtain rfl := Option.some.inj ho2
      obtain ⟨_, hv0, rfl⟩ : ∃ v, a.tmps[80]? = some v ∧ (fun (v : Value) (w : World) => v = .bool true) v w := dep ⟨0, Ground.data⟩ (by simp [ops_stB]) rfl 80 rfl
      exact .inl ⟨wantN rfl, fun K hK => mo_not rfl (evT hv0) (hK _ _ (Below.refl _ _) rfl)⟩
    · have ho2 : some _ = some o := ho
      obtain rfl := Option.some.inj ho2
      obtain ⟨_, hv1, rfl⟩ : ∃ v, a.tmps[81]? = some v ∧ (fun (v : Value) (w : World) => v = .bool false) v w := dep ⟨1, Ground.data⟩ (by simp [ops_stB]) rfl 81 rfl
      exact .inl ⟨wantN rfl, fun K hK => mo_move rfl (evT hv1) (hK _ _ (Below.refl _ _) rfl)⟩
    · have ho2 : some _ = some o := ho
      obtain rfl := Option.some.inj ho2
      obtain ⟨_, hv2, rfl⟩ : ∃ v, a.tmps[82]? = some v ∧ (fun (v : Value) (w : World) => v = .bool false) v w := dep ⟨2, Ground.guard⟩ (by simp [ops_stB]) rfl 82 rfl
      exact .inl ⟨wantG (b := false) rfl (show ((ops_stB[2]?).bind (·.dst)) = some 82 from rfl) hv2, fun K hK => mo_move rfl e11 (hK _ _ (Below.refl _ _) rfl)⟩
    · have ho2 : some _ = some o := ho
      obtain rfl := Option.some.inj ho2
      obtain ⟨_, hv3, rfl⟩ : ∃ v, a.tmps[83]? = some v ∧ (fun (v : Value) (w : World) => v = .bool true) v w := dep ⟨3, Ground.data⟩ (by simp [ops_stB]) rfl 83 rfl
      obtain ⟨_, hv2, rfl⟩ : ∃ v, a.tmps[82]? = some v ∧ (fun (v : Value) (w : World) => v = .bool false) v w := dep ⟨2, Ground.guard⟩ (by simp [ops_stB]) rfl 82 rfl
      exact .inl ⟨wantG (b := false) rfl (show ((ops_stB[2]?).bind (·.dst)) = some 82 from rfl) hv2, fun K hK => mo_not rfl (evT hv3) (hK _ _ (Below.refl _ _) rfl)⟩
    · have ho2 : some _ = some o := ho
      obtain rfl := Option.some.inj ho2
      obtain ⟨_, hv2, rfl⟩ : ∃ v, a.tmps[82]? = some v ∧ (fun (v : Value) (w : World) => v = .bool false) v w := dep ⟨2, Ground.data⟩ (by simp [ops_stB]) rfl 82 rfl
      obtain ⟨_, hv4, rfl⟩ : ∃ v, a.tmps[84]? = some v ∧ (fun (v : Value) (w : World) => v = .bool false) v w := dep ⟨4, Ground.data⟩ (by simp [ops_stB]) rfl 84 rfl
      exact .inl ⟨wantN rfl, fun K hK => mo_pick rfl (evT hv2) rfl (evT hv4) rfl (hK _ _ (Below.refl _ _) rfl)⟩
    · have ho2 : some _ = some o := ho
      obtain rfl := Option.some.inj ho2
      obtain ⟨_, hv5, rfl⟩ : ∃ v, a.tmps[85]? = some v ∧ (fun (v : Value) (w : World) => v = .bool false) v w := dep ⟨5, Ground.data⟩ (by simp [ops_stB]) rfl 85 rfl
      exact .inl ⟨wantN rfl, fun K hK => mo_move rfl (evT hv5) (hK _ _ (Below.refl _ _) rfl)⟩
    · have ho2 : some _ = some o := ho
      obtain rfl := Option.some.inj ho2
      obtain ⟨_, hv6, rfl⟩ : ∃ v, a.tmps[86]? = some v ∧ (fun (v : Value) (w : World) => v = .bool false) v w := dep ⟨6, Ground.guard⟩ (by simp [ops_stB]) rfl 86 rfl
      exact .inl ⟨wantG (b := false) rfl (show ((ops_stB[6]?).bind (·.dst)) = some 86 from rfl) hv6, fun K hK => mo_move rfl e13 (hK _ _ (Below.refl _ _) rfl)⟩
    · have ho2 : some _ = some o := ho
      obtain rfl := Option.some.inj ho2
      obtain ⟨_, hv7, rfl⟩ : ∃ v, a.tmps[87]? = some v ∧ (fun (v : Value) (w : World) => v = .bool true) v w := dep ⟨7, Ground.data⟩ (by simp [ops_stB]) rfl 87 rfl
      obtain ⟨_, hv6, rfl⟩ : ∃ v, a.tmps[86]? = some v ∧ (fun (v : Value) (w : World) => v = .bool false) v w := dep ⟨6, Ground.guard⟩ (by simp [ops_stB]) rfl 86 rfl
      exact .inl ⟨wantG (b := false) rfl (show ((ops_stB[6]?).bind (·.dst)) = some 86 from rfl) hv6, fun K hK => mo_not rfl (evT hv7) (hK _ _ (Below.refl _ _) rfl)⟩
    · have ho2 : some _ = some o := ho
      obtain rfl := Option.some.inj ho2
      obtain ⟨_, hv6, rfl⟩ : ∃ v, a.tmps[86]? = some v ∧ (fun (v : Value) (w : World) => v = .bool false) v w := dep ⟨6, Ground.data⟩ (by simp [ops_stB]) rfl 86 rfl
      obtain ⟨_, hv8, rfl⟩ : ∃ v, a.tmps[88]? = some v ∧ (fun (v : Value) (w : World) => v = .bool false) v w := dep ⟨8, Ground.data⟩ (by simp [ops_stB]) rfl 88 rfl
      exact .inl ⟨wantN rfl, fun K hK => mo_pick rfl (evT hv6) rfl (evT hv8) rfl (hK _ _ (Below.refl _ _) rfl)⟩
    · have ho2 : some _ = some o := ho
      obtain rfl := Option.some.inj ho2
      obtain ⟨_, hv9, rfl⟩ : ∃ v, a.tmps[89]? = some v ∧ (fun (v : Value) (w : World) => v = .bool false) v w := dep ⟨9, Ground.data⟩ (by simp [ops_stB]) rfl 89 rfl
      exact .inl ⟨wantN rfl, fun K hK => mo_move rfl (evT hv9) (hK _ _ (Below.refl _ _) rfl)⟩
    · have ho2 : some _ = some o := ho
      obtain rfl := Option.some.inj ho2
      obtain ⟨_, hv10, rfl⟩ : ∃ v, a.tmps[90]? = some v ∧ (fun (v : Value) (w : World) => v = .bool false) v w := dep ⟨10, Ground.guard⟩ (by simp [ops_stB]) rfl 90 rfl
      exact .inl ⟨wantG (b := false) rfl (show ((ops_stB[10]?).bind (·.dst)) = some 90 from rfl) hv10, fun K hK => mo_move rfl e10 (hK _ _ (Below.refl _ _) rfl)⟩
    · have ho2 : some _ = some o := ho
      obtain rfl := Option.some.inj ho2
      obtain ⟨_, hv10, rfl⟩ : ∃ v, a.tmps[90]? = some v ∧ (fun (v : Value) (w : World) => v = .bool false) v w := dep ⟨10, Ground.guard⟩ (by simp [ops_stB]) rfl 90 rfl
      exact .inl ⟨wantG (b := false) rfl (show ((ops_stB[10]?).bind (·.dst)) = some 90 from rfl) hv10, fun K hK => mo_field field_it1 rfl e12 (hK _ _ (Below.refl _ _) rfl)⟩
    · have ho2 : some _ = some o := ho
      obtain rfl := Option.some.inj ho2
      obtain ⟨_, hv12, rfl⟩ : ∃ v, a.tmps[92]? = some v ∧ (fun (v : Value) (w : World) => v = .pointer (some ⟨wb, 1, none⟩)) v w := dep ⟨12, Ground.data⟩ (by simp [ops_stB]) rfl 92 rfl
      obtain ⟨_, hv10, rfl⟩ : ∃ v, a.tmps[90]? = some v ∧ (fun (v : Value) (w : World) => v = .bool false) v w := dep ⟨10, Ground.guard⟩ (by simp [ops_stB]) rfl 90 rfl
      exact .inl ⟨wantG (b := false) rfl (show ((ops_stB[10]?).bind (·.dst)) = some 90 from rfl) hv10, fun K hK => mo_load (load_str (hI w hR).1) rfl (evT hv12) (hK _ _ (Below.refl _ _) rfl)⟩
    · have ho2 : some _ = some o := ho
      obtain rfl := Option.some.inj ho2
      obtain ⟨_, hv11, rfl⟩ : ∃ v, a.tmps[91]? = some v ∧ (fun (v : Value) (w : World) => v = .string R) v w := dep ⟨11, Ground.data⟩ (by simp [ops_stB]) rfl 91 rfl
      obtain ⟨_, hv13, rfl⟩ : ∃ v, a.tmps[93]? = some v ∧ (fun (v : Value) (w : World) => v = .string R) v w := dep ⟨13, Ground.data⟩ (by simp [ops_stB]) rfl 93 rfl
      obtain ⟨_, hv10, rfl⟩ : ∃ v, a.tmps[90]? = some v ∧ (fun (v : Value) (w : World) => v = .bool false) v w := dep ⟨10, Ground.guard⟩ (by simp [ops_stB]) rfl 90 rfl
      exact .inl ⟨wantG (b := false) rfl (show ((ops_stB[10]?).bind (·.dst)) = some 90 from rfl) hv10, fun K hK => mo_neqS rfl (evT hv11) (evT hv13) (hK _ _ (Below.refl _ _) (congrArg Value.bool (by simp)))⟩
    · have ho2 : some _ = some o := ho
      obtain rfl := Option.some.inj ho2
      obtain ⟨_, hv10, rfl⟩ : ∃ v, a.tmps[90]? = some v ∧ (fun (v : Value) (w : World) => v = .bool false) v w := dep ⟨10, Ground.data⟩ (by simp [ops_stB]) rfl 90 rfl
      obtain ⟨_, hv14, rfl⟩ : ∃ v, a.tmps[94]? = some v ∧ (fun (v : Value) (w : World) => v = .bool false) v w := dep ⟨14, Ground.data⟩ (by simp [ops_stB]) rfl 94 rfl
      exact .inl ⟨wantN rfl, fun K hK => mo_pick rfl (evT hv10) rfl (evT hv14) rfl (hK _ _ (Below.refl _ _) rfl)⟩
    · have ho2 : some _ = some o := ho
      obtain rfl := Option.some.inj ho2
      obtain ⟨_, hv15, rfl⟩ : ∃ v, a.tmps[95]? = some v ∧ (fun (v : Value) (w : World) => v = .bool false) v w := dep ⟨15, Ground.data⟩ (by simp [ops_stB]) rfl 95 rfl
      exact .inl ⟨wantN rfl, fun K hK => mo_move rfl (evT hv15) (hK _ _ (Below.refl _ _) rfl)⟩
    · have ho2 : some _ = some o := ho
      obtain rfl := Option.some.inj ho2
      obtain ⟨_, hv16, rfl⟩ : ∃ v, a.tmps[96]? = some v ∧ (fun (v : Value) (w : World) => v = .bool false) v w := dep ⟨16, Ground.guard⟩ (by simp [ops_stB]) rfl 96 rfl
      exact .inl ⟨wantG (b := false) rfl (show ((ops_stB[16]?).bind (·.dst)) = some 96 from rfl) hv16, fun K hK => mo_move rfl e8 (hK _ _ (Below.refl _ _) rfl)⟩
    · have ho2 : some _ = some o := ho
      obtain rfl := Option.some.inj ho2
      obtain ⟨_, hv16, rfl⟩ : ∃ v, a.tmps[96]? = some v ∧ (fun (v : Value) (w : World) => v = .bool false) v w := dep ⟨16, Ground.guard⟩ (by simp [ops_stB]) rfl 96 rfl
      exact .inl ⟨wantG (b := false) rfl (show ((ops_stB[16]?).bind (·.dst)) = some 96 from rfl) hv16, fun K hK => mo_field field_it2 rfl e12 (hK _ _ (Below.refl _ _) rfl)⟩
    · have ho2 : some _ = some o := ho
      obtain rfl := Option.some.inj ho2
      obtain ⟨_, hv18, rfl⟩ : ∃ v, a.tmps[98]? = some v ∧ (fun (v : Value) (w : World) => v = .pointer (some ⟨wb, 2, none⟩)) v w := dep ⟨18, Ground.data⟩ (by simp [ops_stB]) rfl 98 rfl
      obtain ⟨_, hv16, rfl⟩ : ∃ v, a.tmps[96]? = some v ∧ (fun (v : Value) (w : World) => v = .bool false) v w := dep ⟨16, Ground.guard⟩ (by simp [ops_stB]) rfl 96 rfl
      exact .inl ⟨wantG (b := false) rfl (show ((ops_stB[16]?).bind (·.dst)) = some 96 from rfl) hv16, fun K hK => mo_load (load_flds (hI w hR).2) rfl (evT hv18) (hK _ _ (Below.refl _ _) rfl)⟩
    · have ho2 : some _ = some o := ho
      obtain rfl := Option.some.inj ho2
      obtain ⟨_, hv17, rfl⟩ : ∃ v, a.tmps[97]? = some v ∧ (fun (v : Value) (w : World) => v = .slice fa fn fc) v w := dep ⟨17, Ground.data⟩ (by simp [ops_stB]) rfl 97 rfl
      obtain ⟨_, hv19, rfl⟩ : ∃ v, a.tmps[99]? = some v ∧ (fun (v : Value) (w : World) => v = .slice ga fn gc) v w := dep ⟨19, Ground.data⟩ (by simp [ops_stB]) rfl 99 rfl
      obtain ⟨_, hv16, rfl⟩ : ∃ v, a.tmps[96]? = some v ∧ (fun (v : Value) (w : World) => v = .bool false) v w := dep ⟨16, Ground.guard⟩ (by simp [ops_stB]) rfl 96 rfl
      exact .inl ⟨wantG (b := false) rfl (show ((ops_stB[16]?).bind (·.dst)) = some 96 from rfl) hv16, fun K hK => mo_call2 21 rfl (evT hv17) (evT hv19) (enters_of (P := Tryz.prog) Tryz.func21 (by kernel_rfl) rfl) (hC20 w hR) (fun v w' h => hK v w' h.2 h.1)⟩
    · have ho2 : some _ = some o := ho
      obtain rfl := Option.some.inj ho2
      obtain ⟨_, hv20, rfl⟩ : ∃ v, a.tmps[100]? = some v ∧ (fun (v : Value) (w : World) => v = .bool true) v w := dep ⟨20, Ground.data⟩ (by simp [ops_stB]) rfl 100 rfl
      obtain ⟨_, hv16, rfl⟩ : ∃ v, a.tmps[96]? = some v ∧ (fun (v : Value) (w : World) => v = .bool false) v w := dep ⟨16, Ground.guard⟩ (by simp [ops_stB]) rfl 96 rfl
      exact .inl ⟨wantG (b := false) rfl (show ((ops_stB[16]?).bind (·.dst)) = some 96 from rfl) hv16, fun K hK => mo_not rfl (evT hv20) (hK _ _ (Below.refl _ _) rfl)⟩
    · have ho2 : some _ = some o := ho
      obtain rfl := Option.some.inj ho2
      obtain ⟨_, hv16, rfl⟩ : ∃ v, a.tmps[96]? = some v ∧ (fun (v : Value) (w : World) => v = .bool false) v w := dep ⟨16, Ground.data⟩ (by simp [ops_stB]) rfl 96 rfl
      obtain ⟨_, hv21, rfl⟩ : ∃ v, a.tmps[101]? = some v ∧ (fun (v : Value) (w : World) => v = .bool false) v w := dep ⟨21, Ground.data⟩ (by simp [ops_stB]) rfl 101 rfl
      exact .inl ⟨wantN rfl, fun K hK => mo_pick rfl (evT hv16) rfl (evT hv21) rfl (hK _ _ (Below.refl _ _) rfl)⟩
    · have ho2 : some _ = some o := ho
      obtain rfl := Option.some.inj ho2
      obtain ⟨_, hv22, rfl⟩ : ∃ v, a.tmps[102]? = some v ∧ (fun (v : Value) (w : World) => v = .bool false) v w := dep ⟨22, Ground.data⟩ (by simp [ops_stB]) rfl 102 rfl
      exact .inl ⟨wantN rfl, fun K hK => mo_move rfl (evT hv22) (hK _ _ (Below.refl _ _) rfl)⟩
    · have ho2 : some _ = some o := ho
      obtain rfl := Option.some.inj ho2
      obtain ⟨_, hv23, rfl⟩ : ∃ v, a.tmps[103]? = some v ∧ (fun (v : Value) (w : World) => v = .bool false) v w := dep ⟨23, Ground.guard⟩ (by simp [ops_stB]) rfl 103 rfl
      exact .inl ⟨wantG (b := false) rfl (show ((ops_stB[23]?).bind (·.dst)) = some 103 from rfl) hv23, fun K hK => mo_move rfl e0 (hK _ _ (Below.refl _ _) rfl)⟩
    · have ho2 : some _ = some o := ho
      obtain rfl := Option.some.inj ho2
      obtain ⟨_, hv23, rfl⟩ : ∃ v, a.tmps[103]? = some v ∧ (fun (v : Value) (w : World) => v = .bool false) v w := dep ⟨23, Ground.guard⟩ (by simp [ops_stB]) rfl 103 rfl
      exact .inl ⟨wantG (b := false) rfl (show ((ops_stB[23]?).bind (·.dst)) = some 103 from rfl) hv23, fun K hK => mo_field field_stz0 rfl e7 (hK _ _ (Below.refl _ _) rfl)⟩
    · have ho2 : some _ = some o := ho
      obtain rfl := Option.some.inj ho2
      obtain ⟨_, hv25, rfl⟩ : ∃ v, a.tmps[105]? = some v ∧ (fun (v : Value) (w : World) => v = .pointer (some ⟨xb, 0, none⟩)) v w := dep ⟨25, Ground.data⟩ (by simp [ops_stB]) rfl 105 rfl
      obtain ⟨_, hv23, rfl⟩ : ∃ v, a.tmps[103]? = some v ∧ (fun (v : Value) (w : World) => v = .bool false) v w := dep ⟨23, Ground.guard⟩ (by simp [ops_stB]) rfl 103 rfl
      exact .inl ⟨wantG (b := false) rfl (show ((ops_stB[23]?).bind (·.dst)) = some 103 from rfl) hv23, fun K hK => mo_load (load_int (hX w hR)) rfl (evT hv25) (hK _ _ (Below.refl _ _) rfl)⟩
    · have ho2 : some _ = some o := ho
      obtain rfl := Option.some.inj ho2
      obtain ⟨_, hv24, rfl⟩ : ∃ v, a.tmps[104]? = some v ∧ (fun (v : Value) (w : World) => v = .pointer (some ⟨lb, 0, none⟩)) v w := dep ⟨24, Ground.data⟩ (by simp [ops_stB]) rfl 104 rfl
      obtain ⟨_, hv26, rfl⟩ : ∃ v, a.tmps[106]? = some v ∧ (fun (v : Value) (w : World) => v = .int .i64 id) v w := dep ⟨26, Ground.data⟩ (by simp [ops_stB]) rfl 106 rfl
      obtain ⟨_, hv23, rfl⟩ : ∃ v, a.tmps[103]? = some v ∧ (fun (v : Value) (w : World) => v = .bool false) v w := dep ⟨23, Ground.guard⟩ (by simp [ops_stB]) rfl 103 rfl
      exact .inl ⟨wantG (b := false) rfl (show ((ops_stB[23]?).bind (·.dst)) = some 103 from rfl) hv23, fun K hK => mo_call2 22 rfl (evT hv24) (evT hv26) (enters_of (P := Tryz.prog) Tryz.func22 (by kernel_rfl) rfl) (hC27 w hR) (fun v w' h => hK v w' h.2 h.1)⟩
    · have ho2 : some _ = some o := ho
      obtain rfl := Option.some.inj ho2
      obtain ⟨_, hv23, rfl⟩ : ∃ v, a.tmps[103]? = some v ∧ (fun (v : Value) (w : World) => v = .bool false) v w := dep ⟨23, Ground.guard⟩ (by simp [ops_stB]) rfl 103 rfl
      exact .inl ⟨wantG (b := false) rfl (show ((ops_stB[23]?).bind (·.dst)) = some 103 from rfl) hv23, fun K hK => mo_load (load_lst (hM w hR).1 (hM w hR).2) rfl e3 (hK _ _ (Below.refl _ _) rfl)⟩
    · have ho2 : some _ = some o := ho
      obtain rfl := Option.some.inj ho2
      obtain ⟨_, hv23, rfl⟩ : ∃ v, a.tmps[103]? = some v ∧ (fun (v : Value) (w : World) => v = .bool false) v w := dep ⟨23, Ground.guard⟩ (by simp [ops_stB]) rfl 103 rfl
      exact .inl ⟨wantG (b := false) rfl (show ((ops_stB[23]?).bind (·.dst)) = some 103 from rfl) hv23, fun K hK => mo_field field_stz0 rfl e7 (hK _ _ (Below.refl _ _) rfl)⟩
    · have ho2 : some _ = some o := ho
      obtain rfl := Option.some.inj ho2
      obtain ⟨_, hv29, rfl⟩ : ∃ v, a.tmps[109]? = some v ∧ (fun (v : Value) (w : World) => v = .pointer (some ⟨xb, 0, none⟩)) v w := dep ⟨29, Ground.data⟩ (by simp [ops_stB]) rfl 109 rfl
      obtain ⟨_, hv23, rfl⟩ : ∃ v, a.tmps[103]? = some v ∧ (fun (v : Value) (w : World) => v = .bool false) v w := dep ⟨23, Ground.guard⟩ (by simp [ops_stB]) rfl 103 rfl
      exact .inl ⟨wantG (b := false) rfl (show ((ops_stB[23]?).bind (·.dst)) = some 103 from rfl) hv23, fun K hK => mo_load (load_int (hX w hR)) rfl (evT hv29) (hK _ _ (Below.refl _ _) rfl)⟩
    · have ho2 : some _ = some o := ho
      obtain rfl := Option.some.inj ho2
      obtain ⟨_, hv28, rfl⟩ : ∃ v, a.tmps[108]? = some v ∧ (fun (v : Value) (w : World) => v = .agg #[mv, .int .i64 nx]) v w := dep ⟨28, Ground.data⟩ (by simp [ops_stB]) rfl 108 rfl
      obtain ⟨_, hv30, rfl⟩ : ∃ v, a.tmps[110]? = some v ∧ (fun (v : Value) (w : World) => v = .int .i64 id) v w := dep ⟨30, Ground.data⟩ (by simp [ops_stB]) rfl 110 rfl
      obtain ⟨_, hv23, rfl⟩ : ∃ v, a.tmps[103]? = some v ∧ (fun (v : Value) (w : World) => v = .bool false) v w := dep ⟨23, Ground.guard⟩ (by simp [ops_stB]) rfl 103 rfl
      exact .inl ⟨wantG (b := false) rfl (show ((ops_stB[23]?).bind (·.dst)) = some 103 from rfl) hv23, fun K hK => mo_call2 23 rfl (evT hv28) (evT hv30) (enters_of (P := Tryz.prog) Tryz.func23 (by kernel_rfl) rfl) (hC31 w hR) (fun v w' h => hK v w' h.2 h.1)⟩
    · have ho2 : some _ = some o := ho
      obtain rfl := Option.some.inj ho2
      obtain ⟨_, hv27, rfl⟩ : ∃ v, a.tmps[107]? = some v ∧ (fun (v : Value) (w : World) => v = .int .i64 pl) v w := dep ⟨27, Ground.data⟩ (by simp [ops_stB]) rfl 107 rfl
      obtain ⟨_, hv31, rfl⟩ : ∃ v, a.tmps[111]? = some v ∧ (fun (v : Value) (w : World) => v = .int .i64 pl) v w := dep ⟨31, Ground.data⟩ (by simp [ops_stB]) rfl 111 rfl
      obtain ⟨_, hv23, rfl⟩ : ∃ v, a.tmps[103]? = some v ∧ (fun (v : Value) (w : World) => v = .bool false) v w := dep ⟨23, Ground.guard⟩ (by simp [ops_stB]) rfl 103 rfl
      exact .inl ⟨wantG (b := false) rfl (show ((ops_stB[23]?).bind (·.dst)) = some 103 from rfl) hv23, fun K hK => mo_neqI rfl (evT hv27) (evT hv31) (hK _ _ (Below.refl _ _) (congrArg Value.bool (by simp)))⟩
    · have ho2 : some _ = some o := ho
      obtain rfl := Option.some.inj ho2
      obtain ⟨_, hv23, rfl⟩ : ∃ v, a.tmps[103]? = some v ∧ (fun (v : Value) (w : World) => v = .bool false) v w := dep ⟨23, Ground.data⟩ (by simp [ops_stB]) rfl 103 rfl
      obtain ⟨_, hv32, rfl⟩ : ∃ v, a.tmps[112]? = some v ∧ (fun (v : Value) (w : World) => v = .bool false) v w := dep ⟨32, Ground.data⟩ (by simp [ops_stB]) rfl 112 rfl
      exact .inl ⟨wantN rfl, fun K hK => mo_pick rfl (evT hv23) rfl (evT hv32) rfl (hK _ _ (Below.refl _ _) rfl)⟩
def ops_stC : Array Oper := #[
  { dst := some 117, op := Op.move (Operand.tmp 0), type := 25, pos := "law.go:59", after := #[], guard := none },
  { dst := some 118, op := Op.call { callee := Callee.value (Operand.func 27), args := #[Operand.tmp 117], argTypes := #[25] }, type := 60, pos := "law.go:59", after := #[{ on := 0, ground := Ground.data }], guard := none },
  { dst := some 119, op := Op.load 32 (Operand.tmp 3), type := 32, pos := "law.go:59", after := #[], guard := none },
  { dst := some 120, op := Op.call { callee := Callee.value (Operand.func 59), args := #[Operand.tmp 119], argTypes := #[32] }, type := 60, pos := "law.go:59", after := #[{ on := 2, ground := Ground.data }, { on := 1, ground := Ground.chain }], guard := none },
  { dst := some 121, op := Op.call { callee := Callee.value (Operand.func 58), args := #[Operand.tmp 118, Operand.tmp 120], argTypes := #[60, 60] }, type := 4, pos := "law.go:59", after := #[{ on := 1, ground := Ground.data }, { on := 3, ground := Ground.data }, { on := 3, ground := Ground.chain }], guard := none },
  { dst := some 4, op := Op.assign (Operand.tmp 121), type := 4, pos := "law.go:59", after := #[{ on := 4, ground := Ground.data }, { on := 4, ground := Ground.chain }, { on := 0, ground := Ground.phase }, { on := 1, ground := Ground.phase }, { on := 2, ground := Ground.phase }, { on := 3, ground := Ground.phase }, { on := 4, ground := Ground.phase }], guard := none }]
def dst_stC (i : Nat) : Option Nat := (ops_stC[i]?).bind (·.dst)
theorem inj_stC : ∀ i, i < 6 → ∀ k, k < 6 → dst_stC i ≠ none → dst_stC i = dst_stC k → i = k := by decide +kernel
theorem lt_stC : ∀ i, i < 6 → (dst_stC i).getD 0 < 122 := by decide +kernel
theorem low_stC : ∀ i : Fin 6, ∀ e ∈ (ops_stC[i.1]'(by exact i.2)).after, Region.binds .any e = true → e.on < i.1 := by decide +kernel
def pv_stC (mv : Value) (lb mb : Nat) (nx : Int) (rs : List Stz) : List (Value → World → Prop) := [
  fun v w => v = .pointer (some ⟨lb, 0, none⟩),
  fun v w => Szs w v rs,
  fun v w => v = .agg #[mv, .int .i64 nx],
  fun v w => Szs w v rs,
  fun v w => v = .bool true,
  fun v w => v = .bool true]
set_option maxRecDepth 100000 in
set_option maxHeartbeats 4000000 in
theorem region_stC (a0 : Act) (w0 : World) (mv : Value) (lb mb : Nat) (nx : Int) (rs : List Stz) (Q : Exit → Act → World → Prop)
    (hsz : a0.tmps.size = 122) (h0 : a0.tmps[0]? = some (.pointer (some ⟨lb, 0, none⟩))) (h3 : a0.tmps[3]? = some (.pointer (some ⟨mb, 0, none⟩)))
    (hM : ∀ W, Below w0.heap.size w0 W → W.cell? ⟨mb, 0, none⟩ = some mv ∧ W.cell? ⟨mb, 1, none⟩ = some (.int .i64 nx))
    (hC1 : ∀ (W : World) (_ : Below w0.heap.size w0 W), Calls Tryz.prog 27 #[.pointer (some ⟨lb, 0, none⟩)] W fun e w => ∃ v, e = .returned v ∧ (Szs w v rs) ∧ Below W.heap.size W w)
    (hC3 : ∀ (W : World) (_ : Below w0.heap.size w0 W), Calls Tryz.prog 59 #[.agg #[mv, .int .i64 nx]] W fun e w => ∃ v, e = .returned v ∧ (Szs w v rs) ∧ Below W.heap.size W w)
    (hC4 : ∀ (W : World) (_ : Below w0.heap.size w0 W) (z1 : Value) (_ : (fun (v : Value) (w : World) => Szs w v rs) z1 W) (z3 : Value) (_ : (fun (v : Value) (w : World) => Szs w v rs) z3 W), Calls Tryz.prog 58 #[z1, z3] W fun e w => ∃ v, e = .returned v ∧ (v = .bool true) ∧ Below W.heap.size W w)
    (hQ : ∀ (y0 y1 y2 y3 y4 y5 : Value) (w : World), Below w0.heap.size w0 w → ((fun (v : Value) (w : World) => v = .bool true) y5 w) → Q .normal { a0 with tmps := [(117, y0), (118, y1), (119, y2), (120, y3), (121, y4), (4, y5)].foldl (fun u p => u.setIfInBounds p.1 p.2) a0.tmps } w) :
    wpAny Tryz.prog .any ops_stC Q ops_stC.size (Array.replicate ops_stC.size false) a0 w0 := by
  have M : AllM (pv_stC mv lb mb nx rs) := ⟨fun v x y hb h => h, fun v x y hb h => h.below hb (Nat.le_refl _), fun v x y hb h => h, fun v x y hb h => h.below hb (Nat.le_refl _), fun v x y hb h => h, fun v x y hb h => h, trivial⟩
  refine wpAny_mono a0 w0 dst_stC (pvL (pv_stC mv lb mb nx rs)) (fun x y => Below x.heap.size x y) (Below.refl _ _) (fun x y h g => h.trans (g.mono h.size)) (fun i v x y _ g h => pvL_mono M g h)
    (fun i o ho => by unfold dst_stC; rw [ho]; rfl)
    (fun i k d hi hk h1 h2 => inj_stC i hi k hk (by rw [h1]; intro q; cases q) (by rw [h1, h2]))
    (fun i d hi h => by have := lt_stC i hi; rw [h] at this; rw [hsz]; exact this)
    (fun i o e ho he hb => by
      obtain ⟨hi, rfl⟩ := Array.getElem?_eq_some_iff.1 ho
      exact low_stC ⟨i, hi⟩ e he hb)
    ?step (fun w _ => Below.refl _ _) ?fin
  case fin =>
    intro a w hd hs hf hv hR
    obtain ⟨y0, hy0, pv0⟩ := hv 0 117 (by decide) rfl
    obtain ⟨y1, hy1, pv1⟩ := hv 1 118 (by decide) rfl
    obtain ⟨y2, hy2, pv2⟩ := hv 2 119 (by decide) rfl
    obtain ⟨y3, hy3, pv3⟩ := hv 3 120 (by decide) rfl
    obtain ⟨y4, hy4, pv4⟩ := hv 4 121 (by decide) rfl
    obtain ⟨y5, hy5, pv5⟩ := hv 5 4 (by decide) rfl
    rw [act_set' (a := a) (a0 := a0) [(117, y0), (118, y1), (119, y2), (120, y3), (121, y4), (4, y5)] hd hs (by
      intro p hp
      simp only [List.mem_cons, List.not_mem_nil, or_false] at hp
      rcases hp with rfl | rfl | rfl | rfl | rfl | rfl
      · exact hy0
      · exact hy1
      · exact hy2
      · exact hy3
      · exact hy4
      · exact hy5
      ) (fun j hj => hf j (fun k hk q => hj (by
        have : ∀ k, k < 6 → (dst_stC k).all (fun d => [117, 118, 119, 120, 121, 4].contains d) = true := by decide +kernel
        have h1 := this k hk
        rw [q] at h1
        simpa using h1)))]
    exact hQ y0 y1 y2 y3 y4 y5 w hR pv5
  case step =>
    intro i o a w ho hs hf dep hR
    have hi : i < 6 := (Array.getElem?_eq_some_iff.1 ho).1
    have e0 := evT ((hf 0 (by decide +kernel)).trans h0)
    have e3 := evT ((hf 3 (by decide +kernel)).trans h3)
    rcases (by omega : i = 0 ∨ i = 1 ∨ i = 2 ∨ i = 3 ∨ i = 4 ∨ i = 5) with rfl | rfl | rfl | rfl | rfl | rfl
    · have ho2 : some _ = some o := ho
      obtain rfl := Option.some.inj ho2
      exact .inl ⟨wantN rfl, fun K hK => mo_move rfl e0 (hK _ _ (Below.refl _ _) rfl)⟩
    · have ho2 : some _ = some o := ho
      obtain rfl := Option.some.inj ho2
      obtain ⟨_, hv0, rfl⟩ : ∃ v, a.tmps[117]? = some v ∧ (fun (v : Value) (w : World) => v = .pointer (some ⟨lb, 0, none⟩)) v w := dep ⟨0, Ground.data⟩ (by simp [ops_stC]) rfl 117 rfl
      exact .inl ⟨wantN rfl, fun K hK => mo_call1 27 rfl (evT hv0) (enters_of (P := Tryz.prog) Tryz.func27 (by kernel_rfl) rfl) (hC1 w hR) (fun v w' h => hK v w' h.2 h.1)⟩
    · have ho2 : some _ = some o := ho
      obtain rfl := Option.some.inj ho2
      exact .inl ⟨wantN rfl, fun K hK => mo_load (load_lst (hM w hR).1 (hM w hR).2) rfl e3 (hK _ _ (Below.refl _ _) rfl)⟩
    · have ho2 : some _ = some o := ho
      obtain rfl := Option.some.inj ho2
      obtain ⟨_, hv2, rfl⟩ : ∃ v, a.tmps[119]? = some v ∧ (fun (v : Value) (w : World) => v = .agg #[mv, .int .i64 nx]) v w := dep ⟨2, Ground.data⟩ (by simp [ops_stC]) rfl 119 rfl
      exact .inl ⟨wantN rfl, fun K hK => mo_call1 59 rfl (evT hv2) (enters_of (P := Tryz.prog) Tryz.func59 (by kernel_rfl) rfl) (hC3 w hR) (fun v w' h => hK v w' h.2 h.1)⟩
    · have ho2 : some _ = some o := ho
      obtain rfl := Option.some.inj ho2
      obtain ⟨z1, hv1, pv1⟩ : ∃ v, a.tmps[118]? = some v ∧ (fun (v : Value) (w : World) => Szs w v rs) v w := dep ⟨1, Ground.data⟩ (by simp [ops_stC]) rfl 118 rfl
      obtain ⟨z3, hv3, pv3⟩ : ∃ v, a.tmps[120]? = some v ∧ (fun (v : Value) (w : World) => Szs w v rs) v w := dep ⟨3, Ground.data⟩ (by simp [ops_stC]) rfl 120 rfl
      exact .inl ⟨wantN rfl, fun K hK => mo_call2 58 rfl (evT hv1) (evT hv3) (enters_of (P := Tryz.prog) Tryz.func58 (by kernel_rfl) rfl) (hC4 w hR _ pv1 _ pv3) (fun v w' h => hK v w' h.2 h.1)⟩
    · have ho2 : some _ = some o := ho
      obtain rfl := Option.some.inj ho2
      obtain ⟨_, hv4, rfl⟩ : ∃ v, a.tmps[121]? = some v ∧ (fun (v : Value) (w : World) => v = .bool true) v w := dep ⟨4, Ground.data⟩ (by simp [ops_stC]) rfl 121 rfl
      exact .inl ⟨wantN rfl, fun K hK => mo_assign rfl (evT hv4) (hK _ _ (Below.refl _ _) rfl)⟩
def ops_plD : Array Oper := #[
  { dst := some 97, op := Op.move (Operand.tmp 7), type := 25, pos := "law.go:88", after := #[], guard := none },
  { dst := some 98, op := Op.load 32 (Operand.tmp 9), type := 32, pos := "law.go:88", after := #[], guard := none },
  { dst := some 99, op := Op.call { callee := Callee.value (Operand.func 17), args := #[Operand.tmp 97, Operand.tmp 98], argTypes := #[25, 32] }, type := 4, pos := "law.go:88", after := #[{ on := 0, ground := Ground.data }, { on := 1, ground := Ground.data }], guard := none },
  { dst := some 100, op := Op.move (Operand.tmp 99), type := 4, pos := "law.go:88", after := #[{ on := 2, ground := Ground.data }, { on := 2, ground := Ground.chain }], guard := none },
  { dst := some 101, op := Op.move (Operand.tmp 17), type := 4, pos := "law.go:88", after := #[{ on := 3, ground := Ground.guard }], guard := some (3, true) },
  { dst := some 102, op := Op.move (Operand.tmp 21), type := 4, pos := "law.go:88", after := #[{ on := 3, ground := Ground.guard }], guard := some (3, true) },
  { dst := some 103, op := Op.binOp BinOp.eql 4 (Operand.tmp 101) (Operand.tmp 102) 4, type := 4, pos := "law.go:88", after := #[{ on := 4, ground := Ground.data }, { on := 5, ground := Ground.data }, { on := 3, ground := Ground.guard }], guard := some (3, true) },
  { dst := some 104, op := Op.pick (Operand.tmp 100) (Operand.tmp 103) (Operand.const (Value.bool false)), type := 4, pos := "law.go:88", after := #[{ on := 3, ground := Ground.data }, { on := 6, ground := Ground.data }], guard := none },
  { dst := some 105, op := Op.move (Operand.tmp 104), type := 4, pos := "law.go:88", after := #[{ on := 7, ground := Ground.data }, { on := 3, ground := Ground.chain }], guard := none },
  { dst := some 106, op := Op.move (Operand.tmp 19), type := 4, pos := "law.go:88", after := #[{ on := 8, ground := Ground.guard }], guard := some (8, true) },
  { dst := some 107, op := Op.move (Operand.tmp 21), type := 4, pos := "law.go:88", after := #[{ on := 8, ground := Ground.guard }], guard := some (8, true) },
  { dst := some 108, op := Op.binOp BinOp.eql 4 (Operand.tmp 106) (Operand.tmp 107) 4, type := 4, pos := "law.go:88", after := #[{ on := 9, ground := Ground.data }, { on := 10, ground := Ground.data }, { on := 8, ground := Ground.guard }], guard := some (8, true) },
  { dst := some 109, op := Op.pick (Operand.tmp 105) (Operand.tmp 108) (Operand.const (Value.bool false)), type := 4, pos := "law.go:88", after := #[{ on := 8, ground := Ground.data }, { on := 11, ground := Ground.data }], guard := none },
  { dst := some 110, op := Op.move (Operand.tmp 109), type := 4, pos := "law.go:88", after := #[{ on := 12, ground := Ground.data }, { on := 8, ground := Ground.chain }], guard := none },
  { dst := some 111, op := Op.move (Operand.tmp 18), type := 9, pos := "law.go:88", after := #[{ on := 13, ground := Ground.guard }], guard := some (13, true) },
  { dst := some 112, op := Op.fieldAddr 47 (Operand.tmp 20) 1, type := 0, pos := "law.go:88", after := #[{ on := 13, ground := Ground.guard }], guard := some (13, true) },
  { dst := some 113, op := Op.load 9 (Operand.tmp 112), type := 9, pos := "law.go:88", after := #[{ on := 15, ground := Ground.data }, { on := 13, ground := Ground.guard }], guard := some (13, true) },
  { dst := some 114, op := Op.binOp BinOp.eql 9 (Operand.tmp 111) (Operand.tmp 113) 9, type := 4, pos := "law.go:88", after := #[{ on := 14, ground := Ground.data }, { on := 16, ground := Ground.data }, { on := 13, ground := Ground.guard }], guard := some (13, true) },
  { dst := some 115, op := Op.pick (Operand.tmp 110) (Operand.tmp 114) (Operand.const (Value.bool false)), type := 4, pos := "law.go:88", after := #[{ on := 13, ground := Ground.data }, { on := 17, ground := Ground.data }], guard := none },
  { dst := some 116, op := Op.move (Operand.tmp 115), type := 4, pos := "law.go:88", after := #[{ on := 18, ground := Ground.data }, { on := 13, ground := Ground.chain }], guard := none },
  { dst := some 117, op := Op.move (Operand.tmp 16), type := 36, pos := "law.go:88", after := #[{ on := 19, ground := Ground.guard }], guard := some (19, true) },
  { dst := some 118, op := Op.fieldAddr 47 (Operand.tmp 20) 2, type := 0, pos := "law.go:88", after := #[{ on := 19, ground := Ground.guard }], guard := some (19, true) },
  { dst := some 119, op := Op.load 36 (Operand.tmp 118), type := 36, pos := "law.go:88", after := #[{ on := 21, ground := Ground.data }, { on := 19, ground := Ground.guard }], guard := some (19, true) },
  { dst := some 120, op := Op.call { callee := Callee.value (Operand.func 21), args := #[Operand.tmp 117, Operand.tmp 119], argTypes := #[36, 36] }, type := 4, pos := "law.go:88", after := #[{ on := 20, ground := Ground.data }, { on := 22, ground := Ground.data }, { on := 19, ground := Ground.chain }, { on := 19, ground := Ground.guard }], guard := some (19, true) },
  { dst := some 121, op := Op.pick (Operand.tmp 116) (Operand.tmp 120) (Operand.const (Value.bool false)), type := 4, pos := "law.go:88", after := #[{ on := 19, ground := Ground.data }, { on := 23, ground := Ground.data }], guard := none },
  { dst := some 122, op := Op.move (Operand.tmp 121), type := 4, pos := "law.go:88", after := #[{ on := 24, ground := Ground.data }, { on := 23, ground := Ground.chain }], guard := none },
  { dst := some 123, op := Op.move (Operand.tmp 7), type := 25, pos := "law.go:88", after := #[{ on := 25, ground := Ground.guard }], guard := some (25, true) },
  { dst := some 124, op := Op.move (Operand.tmp 2), type := 3, pos := "law.go:88", after := #[{ on := 25, ground := Ground.guard }], guard := some (25, true) },
  { dst := some 125, op := Op.call { callee := Callee.value (Operand.func 22), args := #[Operand.tmp 123, Operand.tmp 124], argTypes := #[25, 3] }, type := 3, pos := "law.go:88", after := #[{ on := 26, ground := Ground.data }, { on := 27, ground := Ground.data }, { on := 25, ground := Ground.chain }, { on := 25, ground := Ground.guard }], guard := some (25, true) },
  { dst := some 126, op := Op.load 32 (Operand.tmp 9), type := 32, pos := "law.go:88", after := #[{ on := 25, ground := Ground.guard }], guard := some (25, true) },
  { dst := some 127, op := Op.move (Operand.tmp 2), type := 3, pos := "law.go:88", after := #[{ on := 25, ground := Ground.guard }], guard := some (25, true) },
  { dst := some 128, op := Op.call { callee := Callee.value (Operand.func 23), args := #[Operand.tmp 126, Operand.tmp 127], argTypes := #[32, 3] }, type := 3, pos := "law.go:88", after := #[{ on := 29, ground := Ground.data }, { on := 30, ground := Ground.data }, { on := 28, ground := Ground.chain }, { on := 25, ground := Ground.guard }], guard := some (25, true) },
  { dst := some 129, op := Op.binOp BinOp.eql 3 (Operand.tmp 125) (Operand.tmp 128) 3, type := 4, pos := "law.go:88", after := #[{ on := 28, ground := Ground.data }, { on := 31, ground := Ground.data }, { on := 25, ground := Ground.guard }], guard := some (25, true) },
  { dst := some 130, op := Op.pick (Operand.tmp 122) (Operand.tmp 129) (Operand.const (Value.bool false)), type := 4, pos := "law.go:88", after := #[{ on := 25, ground := Ground.data }, { on := 32, ground := Ground.data }], guard := none },
  { dst := some 6, op := Op.assign (Operand.tmp 130), type := 4, pos := "law.go:88", after := #[{ on := 33, ground := Ground.data }, { on := 31, ground := Ground.chain }, { on := 0, ground := Ground.phase }, { on := 1, ground := Ground.phase }, { on := 2, ground := Ground.phase }, { on := 3, ground := Ground.phase }, { on := 4, ground := Ground.phase }, { on := 5, ground := Ground.phase }, { on := 6, ground := Ground.phase }, { on := 7, ground := Ground.phase }, { on := 8, ground := Ground.phase }, { on := 9, ground := Ground.phase }, { on := 10, ground := Ground.phase }, { on := 11, ground := Ground.phase }, { on := 12, ground := Ground.phase }, { on := 13, ground := Ground.phase }, { on := 14, ground := Ground.phase }, { on := 15, ground := Ground.phase }, { on := 16, ground := Ground.phase }, { on := 17, ground := Ground.phase }, { on := 18, ground := Ground.phase }, { on := 19, ground := Ground.phase }, { on := 20, ground := Ground.phase }, { on := 21, ground := Ground.phase }, { on := 22, ground := Ground.phase }, { on := 23, ground := Ground.phase }, { on := 24, ground := Ground.phase }, { on := 25, ground := Ground.phase }, { on := 26, ground := Ground.phase }, { on := 27, ground := Ground.phase }, { on := 28, ground := Ground.phase }, { on := 29, ground := Ground.phase }, { on := 30, ground := Ground.phase }, { on := 31, ground := Ground.phase }, { on := 32, ground := Ground.phase }, { on := 33, ground := Ground.phase }], guard := none }]
def dst_plD (i : Nat) : Option Nat := (ops_plD[i]?).bind (·.dst)
theorem inj_plD : ∀ i, i < 35 → ∀ k, k < 35 → dst_plD i ≠ none → dst_plD i = dst_plD k → i = k := by decide +kernel
theorem lt_plD : ∀ i, i < 35 → (dst_plD i).getD 0 < 131 := by decide +kernel
theorem low_plD : ∀ i : Fin 35, ∀ e ∈ (ops_plD[i.1]'(by exact i.2)).after, Region.binds .any e = true → e.on < i.1 := by decide +kernel
def pv_plD (mv : Value) (lb mb wb fn fc gc : Nat) (fa ga : Option Addr) (nx id pl : Int) (R : ByteArray) (h : Bool) : List (Value → World → Prop) := [
  fun v w => v = .pointer (some ⟨lb, 0, none⟩),
  fun v w => v = .agg #[mv, .int .i64 nx],
  fun v w => v = .bool true,
  fun v w => v = .bool true,
  fun v w => v = .bool h,
  fun v w => v = .bool h,
  fun v w => v = .bool true,
  fun v w => v = .bool true,
  fun v w => v = .bool true,
  fun v w => v = .bool h,
  fun v w => v = .bool h,
  fun v w => v = .bool true,
  fun v w => v = .bool true,
  fun v w => v = .bool true,
  fun v w => v = .string R,
  fun v w => v = .pointer (some ⟨wb, 1, none⟩),
  fun v w => v = .string R,
  fun v w => v = .bool true,
  fun v w => v = .bool true,
  fun v w => v = .bool true,
  fun v w => v = .slice fa fn fc,
  fun v w => v = .pointer (some ⟨wb, 2, none⟩),
  fun v w => v = .slice ga fn gc,
  fun v w => v = .bool true,
  fun v w => v = .bool true,
  fun v w => v = .bool true,
  fun v w => v = .pointer (some ⟨lb, 0, none⟩),
  fun v w => v = .int .i64 id,
  fun v w => v = .int .i64 pl,
  fun v w => v = .agg #[mv, .int .i64 nx],
  fun v w => v = .int .i64 id,
  fun v w => v = .int .i64 pl,
  fun v w => v = .bool true,
  fun v w => v = .bool true,
  fun v w => v = .bool true]
set_option maxRecDepth 100000 in
set_option maxHeartbeats 4000000 in
theorem region_plD (a0 : Act) (w0 : World) (mv : Value) (lb mb wb fn fc gc : Nat) (fa ga : Option Addr) (nx id pl : Int) (R : ByteArray) (h : Bool) (Q : Exit → Act → World → Prop)
    (hsz : a0.tmps.size = 131) (h2 : a0.tmps[2]? = some (.int .i64 id)) (h7 : a0.tmps[7]? = some (.pointer (some ⟨lb, 0, none⟩))) (h9 : a0.tmps[9]? = some (.pointer (some ⟨mb, 0, none⟩))) (h16 : a0.tmps[16]? = some (.slice fa fn fc)) (h17 : a0.tmps[17]? = some (.bool h)) (h18 : a0.tmps[18]? = some (.string R)) (h19 : a0.tmps[19]? = some (.bool h)) (h20 : a0.tmps[20]? = some (.pointer (some ⟨wb, 0, none⟩))) (h21 : a0.tmps[21]? = some (.bool h))
    (hM : ∀ W, Below w0.heap.size w0 W → W.cell? ⟨mb, 0, none⟩ = some mv ∧ W.cell? ⟨mb, 1, none⟩ = some (.int .i64 nx))
    (hI : ∀ W, Below w0.heap.size w0 W → W.cell? ⟨wb, 1, none⟩ = some (.string R) ∧ W.cell? ⟨wb, 2, none⟩ = some (.slice ga fn gc))
    (hC2 : ∀ (W : World) (_ : Below w0.heap.size w0 W), Calls Tryz.prog 17 #[.pointer (some ⟨lb, 0, none⟩), .agg #[mv, .int .i64 nx]] W fun e w => ∃ v, e = .returned v ∧ (v = .bool true) ∧ Below W.heap.size W w)
    (hC23 : ∀ (W : World) (_ : Below w0.heap.size w0 W), Calls Tryz.prog 21 #[.slice fa fn fc, .slice ga fn gc] W fun e w => ∃ v, e = .returned v ∧ (v = .bool true) ∧ Below W.heap.size W w)
    (hC28 : ∀ (W : World) (_ : Below w0.heap.size w0 W), Calls Tryz.prog 22 #[.pointer (some ⟨lb, 0, none⟩), .int .i64 id] W fun e w => ∃ v, e = .returned v ∧ (v = .int .i64 pl) ∧ Below W.heap.size W w)
    (hC31 : ∀ (W : World) (_ : Below w0.heap.size w0 W), Calls Tryz.prog 23 #[.agg #[mv, .int .i64 nx], .int .i64 id] W fun e w => ∃ v, e = .returned v ∧ (v = .int .i64 pl) ∧ Below W.heap.size W w)
    (hQ : ∀ (y0 y1 y2 y3 y4 y5 y6 y7 y8 y9 y10 y11 y12 y13 y14 y15 y16 y17 y18 y19 y20 y21 y22 y23 y24 y25 y26 y27 y28 y29 y30 y31 y32 y33 y34 : Value) (w : World), Below w0.heap.size w0 w → ((fun (v : Value) (w : World) => v = .bool true) y34 w) → Q .normal { a0 with tmps := [(97, y0), (98, y1), (99, y2), (100, y3), (101, y4), (102, y5), (103, y6), (104, y7), (105, y8), (106, y9), (107, y10), (108, y11), (109, y12), (110, y13), (111, y14), (112, y15), (113, y16), (114, y17), (115, y18), (116, y19), (117, y20), (118, y21), (119, y22), (120, y23), (121, y24), (122, y25), (123, y26), (124, y27), (125, y28), (126, y29), (127, y30), (128, y31), (129, y32), (130, y33), (6, y34)].foldl (fun u p => u.setIfInBounds p.1 p.2) a0.tmps } w) :
    wpAny Tryz.prog .any ops_plD Q ops_plD.size (Array.replicate ops_plD.size false) a0 w0 := by
  have M : AllM (pv_plD mv lb mb wb fn fc gc fa ga nx id pl R h) := ⟨fun v x y hb h => h, fun v x y hb h => h, fun v x y hb h => h, fun v x y hb h => h, fun v x y hb h => h, fun v x y hb h => h, fun v x y hb h => h, fun v x y hb h => h, fun v x y hb h => h, fun v x y hb h => h, fun v x y hb h => h, fun v x y hb h => h, fun v x y hb h => h, fun v x y hb h => h, fun v x y hb h => h, fun v x y hb h => h, fun v x y hb h => h, fun v x y hb h => h, fun v x y hb h => h, fun v x y hb h => h, fun v x y hb h => h, fun v x y hb h => h, fun v x y hb h => h, fun v x y hb h => h, fun v x y hb h => h, fun v x y hb h => h, fun v x y hb h => h, fun v x y hb h => h, fun v x y hb h => h, fun v x y hb h => h, fun v x y hb h => h, fun v x y hb h => h, fun v x y hb h => h, fun v x y hb h => h, fun v x y hb h => h, trivial⟩
  refine wpAny_mono a0 w0 dst_plD (pvL (pv_plD mv lb mb wb fn fc gc fa ga nx id pl R h)) (fun x y => Below x.heap.size x y) (Below.refl _ _) (fun x y h g => h.trans (g.mono h.size)) (fun i v x y _ g h => pvL_mono M g h)
    (fun i o ho => by unfold dst_plD; rw [ho]; rfl)
    (fun i k d hi hk h1 h2 => inj_plD i hi k hk (by rw [h1]; intro q; cases q) (by rw [h1, h2]))
    (fun i d hi h => by have := lt_plD i hi; rw [h] at this; rw [hsz]; exact this)
    (fun i o e ho he hb => by
      obtain ⟨hi, rfl⟩ := Array.getElem?_eq_some_iff.1 ho
      exact low_plD ⟨i, hi⟩ e he hb)
    ?step (fun w _ => Below.refl _ _) ?fin
  case fin =>
    intro a w hd hs hf hv hR
    obtain ⟨y0, hy0, pv0⟩ := hv 0 97 (by decide) rfl
    obtain ⟨y1, hy1, pv1⟩ := hv 1 98 (by decide) rfl
    obtain ⟨y2, hy2, pv2⟩ := hv 2 99 (by decide) rfl
    obtain ⟨y3, hy3, pv3⟩ := hv 3 100 (by decide) rfl
    obtain ⟨y4, hy4, pv4⟩ := hv 4 101 (by decide) rfl
    obtain ⟨y5, hy5, pv5⟩ := hv 5 102 (by decide) rfl
    obtain ⟨y6, hy6, pv6⟩ := hv 6 103 (by decide) rfl
    obtain ⟨y7, hy7, pv7⟩ := hv 7 104 (by decide) rfl
    obtain ⟨y8, hy8, pv8⟩ := hv 8 105 (by decide) rfl
    obtain ⟨y9, hy9, pv9⟩ := hv 9 106 (by decide) rfl
    obtain ⟨y10, hy10, pv10⟩ := hv 10 107 (by decide) rfl
    obtain ⟨y11, hy11, pv11⟩ := hv 11 108 (by decide) rfl
    obtain ⟨y12, hy12, pv12⟩ := hv 12 109 (by decide) rfl
    obtain ⟨y13, hy13, pv13⟩ := hv 13 110 (by decide) rfl
    obtain ⟨y14, hy14, pv14⟩ := hv 14 111 (by decide) rfl
    obtain ⟨y15, hy15, pv15⟩ := hv 15 112 (by decide) rfl
    obtain ⟨y16, hy16, pv16⟩ := hv 16 113 (by decide) rfl
    obtain ⟨y17, hy17, pv17⟩ := hv 17 114 (by decide) rfl
    obtain ⟨y18, hy18, pv18⟩ := hv 18 115 (by decide) rfl
    obtain ⟨y19, hy19, pv19⟩ := hv 19 116 (by decide) rfl
    obtain ⟨y20, hy20, pv20⟩ := hv 20 117 (by decide) rfl
    obtain ⟨y21, hy21, pv21⟩ := hv 21 118 (by decide) rfl
    obtain ⟨y22, hy22, pv22⟩ := hv 22 119 (by decide) rfl
    obtain ⟨y23, hy23, pv23⟩ := hv 23 120 (by decide) rfl
    obtain ⟨y24, hy24, pv24⟩ := hv 24 121 (by decide) rfl
    obtain ⟨y25, hy25, pv25⟩ := hv 25 122 (by decide) rfl
    obtain ⟨y26, hy26, pv26⟩ := hv 26 123 (by decide) rfl
    obtain ⟨y27, hy27, pv27⟩ := hv 27 124 (by decide) rfl
    obtain ⟨y28, hy28, pv28⟩ := hv 28 125 (by decide) rfl
    obtain ⟨y29, hy29, pv29⟩ := hv 29 126 (by decide) rfl
    obtain ⟨y30, hy30, pv30⟩ := hv 30 127 (by decide) rfl
    obtain ⟨y31, hy31, pv31⟩ := hv 31 128 (by decide) rfl
    obtain ⟨y32, hy32, pv32⟩ := hv 32 129 (by decide) rfl
    obtain ⟨y33, hy33, pv33⟩ := hv 33 130 (by decide) rfl
    obtain ⟨y34, hy34, pv34⟩ := hv 34 6 (by decide) rfl
    rw [act_set' (a := a) (a0 := a0) [(97, y0), (98, y1), (99, y2), (100, y3), (101, y4), (102, y5), (103, y6), (104, y7), (105, y8), (106, y9), (107, y10), (108, y11), (109, y12), (110, y13), (111, y14), (112, y15), (113, y16), (114, y17), (115, y18), (116, y19), (117, y20), (118, y21), (119, y22), (120, y23), (121, y24), (122, y25), (123, y26), (124, y27), (125, y28), (126, y29), (127, y30), (128, y31), (129, y32), (130, y33), (6, y34)] hd hs (by
      intro p hp
      simp only [List.mem_cons, List.not_mem_nil, or_false] at hp
      rcases hp with rfl | rfl | rfl | rfl | rfl | rfl | rfl | rfl | rfl | rfl | rfl | rfl | rfl | rfl | rfl | rfl | rfl | rfl | rfl | rfl | rfl | rfl | rfl | rfl | rfl | rfl | rfl | rfl | rfl | rfl | rfl | rfl | rfl | rfl | rfl
      · exact hy0
      · exact hy1
      · exact hy2
      · exact hy3
      · exact hy4
      · exact hy5
      · exact hy6
      · exact hy7
      · exact hy8
      · exact hy9
      · exact hy10
      · exact hy11
      · exact hy12
      · exact hy13
      · exact hy14
      · exact hy15
      · exact hy16
      · exact hy17
      · exact hy18
      · exact hy19
      · exact hy20
      · exact hy21
      · exact hy22
      · exact hy23
      · exact hy24
      · exact hy25
      · exact hy26
      · exact hy27
      · exact hy28
      · exact hy29
      · exact hy30
      · exact hy31
      · exact hy32
      · exact hy33
      · exact hy34
      ) (fun j hj => hf j (fun k hk q => hj (by
        have : ∀ k, k < 35 → (dst_plD k).all (fun d => [97, 98, 99, 100, 101, 102, 103, 104, 105, 106, 107, 108, 109, 110, 111, 112, 113, 114, 115, 116, 117, 118, 119, 120, 121, 122, 123, 124, 125, 126, 127, 128, 129, 130, 6].contains d) = true := by decide +kernel
        have h1 := this k hk
        rw [q] at h1
        simpa using h1)))]
    exact hQ y0 y1 y2 y3 y4 y5 y6 y7 y8 y9 y10 y11 y12 y13 y14 y15 y16 y17 y18 y19 y20 y21 y22 y23 y24 y25 y26 y27 y28 y29 y30 y31 y32 y33 y34 w hR pv34
  case step =>
    intro i o a w ho hs hf dep hR
    have hi : i < 35 := (Array.getElem?_eq_some_iff.1 ho).1
    have e2 := evT ((hf 2 (by decide +kernel)).trans h2)
    have e7 := evT ((hf 7 (by decide +kernel)).trans h7)
    have e9 := evT ((hf 9 (by decide +kernel)).trans h9)
    have e16 := evT ((hf 16 (by decide +kernel)).trans h16)
    have e17 := evT ((hf 17 (by decide +kernel)).trans h17)
    have e18 := evT ((hf 18 (by decide +kernel)).trans h18)
    have e19 := evT ((hf 19 (by decide +kernel)).trans h19)
    have e20 := evT ((hf 20 (by decide +kernel)).trans h20)
    have e21 := evT ((hf 21 (by decide +kernel)).trans h21)
    rcases (by omega : i = 0 ∨ i = 1 ∨ i = 2 ∨ i = 3 ∨ i = 4 ∨ i = 5 ∨ i = 6 ∨ i = 7 ∨ i = 8 ∨ i = 9 ∨ i = 10 ∨ i = 11 ∨ i = 12 ∨ i = 13 ∨ i = 14 ∨ i = 15 ∨ i = 16 ∨ i = 17 ∨ i = 18 ∨ i = 19 ∨ i = 20 ∨ i = 21 ∨ i = 22 ∨ i = 23 ∨ i = 24 ∨ i = 25 ∨ i = 26 ∨ i = 27 ∨ i = 28 ∨ i = 29 ∨ i = 30 ∨ i = 31 ∨ i = 32 ∨ i = 33 ∨ i = 34) with rfl | rfl | rfl | rfl | rfl | rfl | rfl | rfl | rfl | rfl | rfl | rfl | rfl | rfl | rfl | rfl | rfl | rfl | rfl | rfl | rfl | rfl | rfl | rfl | rfl | rfl | rfl | rfl | rfl | rfl | rfl | rfl | rfl | rfl | rfl
    · have ho2 : some _ = some o := ho
      obtain rfl := Option.some.inj ho2
      exact .inl ⟨wantN rfl, fun K hK => mo_move rfl e7 (hK _ _ (Below.refl _ _) rfl)⟩
    · have ho2 : some _ = some o := ho
      obtain rfl := Option.some.inj ho2
      exact .inl ⟨wantN rfl, fun K hK => mo_load (load_lst (hM w hR).1 (hM w hR).2) rfl e9 (hK _ _ (Below.refl _ _) rfl)⟩
    · have ho2 : some _ = some o := ho
      obtain rfl := Option.some.inj ho2
      obtain ⟨_, hv0, rfl⟩ : ∃ v, a.tmps[97]? = some v ∧ (fun (v : Value) (w : World) => v = .pointer (some ⟨lb, 0, none⟩)) v w := dep ⟨0, Ground.data⟩ (by simp [ops_plD]) rfl 97 rfl
      obtain ⟨_, hv1, rfl⟩ : ∃ v, a.tmps[98]? = some v ∧ (fun (v : Value) (w : World) => v = .agg #[mv, .int .i64 nx]) v w := dep ⟨1, Ground.data⟩ (by simp [ops_plD]) rfl 98 rfl
      exact .inl ⟨wantN rfl, fun K hK => mo_call2 17 rfl (evT hv0) (evT hv1) (enters_of (P := Tryz.prog) Tryz.func17 (by kernel_rfl) rfl) (hC2 w hR) (fun v w' h => hK v w' h.2 h.1)⟩
    · have ho2 : some _ = some o := ho
      obtain rfl := Option.some.inj ho2
      obtain ⟨_, hv2, rfl⟩ : ∃ v, a.tmps[99]? = some v ∧ (fun (v : Value) (w : World) => v = .bool true) v w := dep ⟨2, Ground.data⟩ (by simp [ops_plD]) rfl 99 rfl
      exact .inl ⟨wantN rfl, fun K hK => mo_move rfl (evT hv2) (hK _ _ (Below.refl _ _) rfl)⟩
    · have ho2 : some _ = some o := ho
      obtain rfl := Option.some.inj ho2
      obtain ⟨_, hv3, rfl⟩ : ∃ v, a.tmps[100]? = some v ∧ (fun (v : Value) (w : World) => v = .bool true) v w := dep ⟨3, Ground.guard⟩ (by simp [ops_plD]) rfl 100 rfl
      exact .inl ⟨wantG (b := true) rfl (show ((ops_plD[3]?).bind (·.dst)) = some 100 from rfl) hv3, fun K hK => mo_move rfl e17 (hK _ _ (Below.refl _ _) rfl)⟩
    · have ho2 : some _ = some o := ho
      obtain rfl := Option.some.inj ho2
      obtain ⟨_, hv3, rfl⟩ : ∃ v, a.tmps[100]? = some v ∧ (fun (v : Value) (w : World) => v = .bool true) v w := dep ⟨3, Ground.guard⟩ (by simp [ops_plD]) rfl 100 rfl
      exact .inl ⟨wantG (b := true) rfl (show ((ops_plD[3]?).bind (·.dst)) = some 100 from rfl) hv3, fun K hK => mo_move rfl e21 (hK _ _ (Below.refl _ _) rfl)⟩
    · have ho2 : some _ = some o := ho
      obtain rfl := Option.some.inj ho2
      obtain ⟨_, hv4, rfl⟩ : ∃ v, a.tmps[101]? = some v ∧ (fun (v : Value) (w : World) => v = .bool h) v w := dep ⟨4, Ground.data⟩ (by simp [ops_plD]) rfl 101 rfl
      obtain ⟨_, hv5, rfl⟩ : ∃ v, a.tmps[102]? = some v ∧ (fun (v : Value) (w : World) => v = .bool h) v w := dep ⟨5, Ground.data⟩ (by simp [ops_plD]) rfl 102 rfl
      obtain ⟨_, hv3, rfl⟩ : ∃ v, a.tmps[100]? = some v ∧ (fun (v : Value) (w : World) => v = .bool true) v w := dep ⟨3, Ground.guard⟩ (by simp [ops_plD]) rfl 100 rfl
      exact .inl ⟨wantG (b := true) rfl (show ((ops_plD[3]?).bind (·.dst)) = some 100 from rfl) hv3, fun K hK => mo_eqlB rfl (evT hv4) (evT hv5) (hK _ _ (Below.refl _ _) (congrArg Value.bool (by simp)))⟩
    · have ho2 : some _ = some o := ho
      obtain rfl := Option.some.inj ho2
      obtain ⟨_, hv3, rfl⟩ : ∃ v, a.tmps[100]? = some v ∧ (fun (v : Value) (w : World) => v = .bool true) v w := dep ⟨3, Ground.data⟩ (by simp [ops_plD]) rfl 100 rfl
      obtain ⟨_, hv6, rfl⟩ : ∃ v, a.tmps[103]? = some v ∧ (fun (v : Value) (w : World) => v = .bool true) v w := dep ⟨6, Ground.data⟩ (by simp [ops_plD]) rfl 103 rfl
      exact .inl ⟨wantN rfl, fun K hK => mo_pick rfl (evT hv3) (evT hv6) rfl rfl (hK _ _ (Below.refl _ _) rfl)⟩
    · have ho2 : some _ = some o := ho
      obtain rfl := Option.some.inj ho2
      obtain ⟨_, hv7, rfl⟩ : ∃ v, a.tmps[104]? = some v ∧ (fun (v : Value) (w : World) => v = .bool true) v w := dep ⟨7, Ground.data⟩ (by simp [ops_plD]) rfl 104 rfl
      exact .inl ⟨wantN rfl, fun K hK => mo_move rfl (evT hv7) (hK _ _ (Below.refl _ _) rfl)⟩
    · have ho2 : some _ = some o := ho
      obtain rfl := Option.some.inj ho2
      obtain ⟨_, hv8, rfl⟩ : ∃ v, a.tmps[105]? = some v ∧ (fun (v : Value) (w : World) => v = .bool true) v w := dep ⟨8, Ground.guard⟩ (by simp [ops_plD]) rfl 105 rfl
      exact .inl ⟨wantG (b := true) rfl (show ((ops_plD[8]?).bind (·.dst)) = some 105 from rfl) hv8, fun K hK => mo_move rfl e19 (hK _ _ (Below.refl _ _) rfl)⟩
    · have ho2 : some _ = some o := ho
      obtain rfl := Option.some.inj ho2
      obtain ⟨_, hv8, rfl⟩ : ∃ v, a.tmps[105]? = some v ∧ (fun (v : Value) (w : World) => v = .bool true) v w := dep ⟨8, Ground.guard⟩ (by simp [ops_plD]) rfl 105 rfl
      exact .inl ⟨wantG (b := true) rfl (show ((ops_plD[8]?).bind (·.dst)) = some 105 from rfl) hv8, fun K hK => mo_move rfl e21 (hK _ _ (Below.refl _ _) rfl)⟩
    · have ho2 : some _ = some o := ho
      obtain rfl := Option.some.inj ho2
      obtain ⟨_, hv9, rfl⟩ : ∃ v, a.tmps[106]? = some v ∧ (fun (v : Value) (w : World) => v = .bool h) v w := dep ⟨9, Ground.data⟩ (by simp [ops_plD]) rfl 106 rfl
      obtain ⟨_, hv10, rfl⟩ : ∃ v, a.tmps[107]? = some v ∧ (fun (v : Value) (w : World) => v = .bool h) v w := dep ⟨10, Ground.data⟩ (by simp [ops_plD]) rfl 107 rfl
      obtain ⟨_, hv8, rfl⟩ : ∃ v, a.tmps[105]? = some v ∧ (fun (v : Value) (w : World) => v = .bool true) v w := dep ⟨8, Ground.guard⟩ (by simp [ops_plD]) rfl 105 rfl
      exact .inl ⟨wantG (b := true) rfl (show ((ops_plD[8]?).bind (·.dst)) = some 105 from rfl) hv8, fun K hK => mo_eqlB rfl (evT hv9) (evT hv10) (hK _ _ (Below.refl _ _) (congrArg Value.bool (by simp)))⟩
    · have ho2 : some _ = some o := ho
      obtain rfl := Option.some.inj ho2
      obtain ⟨_, hv8, rfl⟩ : ∃ v, a.tmps[105]? = some v ∧ (fun (v : Value) (w : World) => v = .bool true) v w := dep ⟨8, Ground.data⟩ (by simp [ops_plD]) rfl 105 rfl
      obtain ⟨_, hv11, rfl⟩ : ∃ v, a.tmps[108]? = some v ∧ (fun (v : Value) (w : World) => v = .bool true) v w := dep ⟨11, Ground.data⟩ (by simp [ops_plD]) rfl 108 rfl
      exact .inl ⟨wantN rfl, fun K hK => mo_pick rfl (evT hv8) (evT hv11) rfl rfl (hK _ _ (Below.refl _ _) rfl)⟩
    · have ho2 : some _ = some o := ho
      obtain rfl := Option.some.inj ho2
      obtain ⟨_, hv12, rfl⟩ : ∃ v, a.tmps[109]? = some v ∧ (fun (v : Value) (w : World) => v = .bool true) v w := dep ⟨12, Ground.data⟩ (by simp [ops_plD]) rfl 109 rfl
      exact .inl ⟨wantN rfl, fun K hK => mo_move rfl (evT hv12) (hK _ _ (Below.refl _ _) rfl)⟩
    · have ho2 : some _ = some o := ho
      obtain rfl := Option.some.inj ho2
      obtain ⟨_, hv13, rfl⟩ : ∃ v, a.tmps[110]? = some v ∧ (fun (v : Value) (w : World) => v = .bool true) v w := dep ⟨13, Ground.guard⟩ (by simp [ops_plD]) rfl 110 rfl
      exact .inl ⟨wantG (b := true) rfl (show ((ops_plD[13]?).bind (·.dst)) = some 110 from rfl) hv13, fun K hK => mo_move rfl e18 (hK _ _ (Below.refl _ _) rfl)⟩
    · have ho2 : some _ = some o := ho
      obtain rfl := Option.some.inj ho2
      obtain ⟨_, hv13, rfl⟩ : ∃ v, a.tmps[110]? = some v ∧ (fun (v : Value) (w : World) => v = .bool true) v w := dep ⟨13, Ground.guard⟩ (by simp [ops_plD]) rfl 110 rfl
      exact .inl ⟨wantG (b := true) rfl (show ((ops_plD[13]?).bind (·.dst)) = some 110 from rfl) hv13, fun K hK => mo_field field_it1 rfl e20 (hK _ _ (Below.refl _ _) rfl)⟩
    · have ho2 : some _ = some o := ho
      obtain rfl := Option.some.inj ho2
      obtain ⟨_, hv15, rfl⟩ : ∃ v, a.tmps[112]? = some v ∧ (fun (v : Value) (w : World) => v = .pointer (some ⟨wb, 1, none⟩)) v w := dep ⟨15, Ground.data⟩ (by simp [ops_plD]) rfl 112 rfl
      obtain ⟨_, hv13, rfl⟩ : ∃ v, a.tmps[110]? = some v ∧ (fun (v : Value) (w : World) => v = .bool true) v w := dep ⟨13, Ground.guard⟩ (by simp [ops_plD]) rfl 110 rfl
      exact .inl ⟨wantG (b := true) rfl (show ((ops_plD[13]?).bind (·.dst)) = some 110 from rfl) hv13, fun K hK => mo_load (load_str (hI w hR).1) rfl (evT hv15) (hK _ _ (Below.refl _ _) rfl)⟩
    · have ho2 : some _ = some o := ho
      obtain rfl := Option.some.inj ho2
      obtain ⟨_, hv14, rfl⟩ : ∃ v, a.tmps[111]? = some v ∧ (fun (v : Value) (w : World) => v = .string R) v w := dep ⟨14, Ground.data⟩ (by simp [ops_plD]) rfl 111 rfl
      obtain ⟨_, hv16, rfl⟩ : ∃ v, a.tmps[113]? = some v ∧ (fun (v : Value) (w : World) => v = .string R) v w := dep ⟨16, Ground.data⟩ (by simp [ops_plD]) rfl 113 rfl
      obtain ⟨_, hv13, rfl⟩ : ∃ v, a.tmps[110]? = some v ∧ (fun (v : Value) (w : World) => v = .bool true) v w := dep ⟨13, Ground.guard⟩ (by simp [ops_plD]) rfl 110 rfl
      exact .inl ⟨wantG (b := true) rfl (show ((ops_plD[13]?).bind (·.dst)) = some 110 from rfl) hv13, fun K hK => mo_eqlS rfl (evT hv14) (evT hv16) (hK _ _ (Below.refl _ _) (congrArg Value.bool (by simp)))⟩
    · have ho2 : some _ = some o := ho
      obtain rfl := Option.some.inj ho2
      obtain ⟨_, hv13, rfl⟩ : ∃ v, a.tmps[110]? = some v ∧ (fun (v : Value) (w : World) => v = .bool true) v w := dep ⟨13, Ground.data⟩ (by simp [ops_plD]) rfl 110 rfl
      obtain ⟨_, hv17, rfl⟩ : ∃ v, a.tmps[114]? = some v ∧ (fun (v : Value) (w : World) => v = .bool true) v w := dep ⟨17, Ground.data⟩ (by simp [ops_plD]) rfl 114 rfl
      exact .inl ⟨wantN rfl, fun K hK => mo_pick rfl (evT hv13) (evT hv17) rfl rfl (hK _ _ (Below.refl _ _) rfl)⟩
    · have ho2 : some _ = some o := ho
      obtain rfl := Option.some.inj ho2
      obtain ⟨_, hv18, rfl⟩ : ∃ v, a.tmps[115]? = some v ∧ (fun (v : Value) (w : World) => v = .bool true) v w := dep ⟨18, Ground.data⟩ (by simp [ops_plD]) rfl 115 rfl
      exact .inl ⟨wantN rfl, fun K hK => mo_move rfl (evT hv18) (hK _ _ (Below.refl _ _) rfl)⟩
    · have ho2 : some _ = some o := ho
      obtain rfl := Option.some.inj ho2
      obtain ⟨_, hv19, rfl⟩ : ∃ v, a.tmps[116]? = some v ∧ (fun (v : Value) (w : World) => v = .bool true) v w := dep ⟨19, Ground.guard⟩ (by simp [ops_plD]) rfl 116 rfl
      exact .inl ⟨wantG (b := true) rfl (show ((ops_plD[19]?).bind (·.dst)) = some 116 from rfl) hv19, fun K hK => mo_move rfl e16 (hK _ _ (Below.refl _ _) rfl)⟩
    · have ho2 : some _ = some o := ho
      obtain rfl := Option.some.inj ho2
      obtain ⟨_, hv19, rfl⟩ : ∃ v, a.tmps[116]? = some v ∧ (fun (v : Value) (w : World) => v = .bool true) v w := dep ⟨19, Ground.guard⟩ (by simp [ops_plD]) rfl 116 rfl
      exact .inl ⟨wantG (b := true) rfl (show ((ops_plD[19]?).bind (·.dst)) = some 116 from rfl) hv19, fun K hK => mo_field field_it2 rfl e20 (hK _ _ (Below.refl _ _) rfl)⟩
    · have ho2 : some _ = some o := ho
      obtain rfl := Option.some.inj ho2
      obtain ⟨_, hv21, rfl⟩ : ∃ v, a.tmps[118]? = some v ∧ (fun (v : Value) (w : World) => v = .pointer (some ⟨wb, 2, none⟩)) v w := dep ⟨21, Ground.data⟩ (by simp [ops_plD]) rfl 118 rfl
      obtain ⟨_, hv19, rfl⟩ : ∃ v, a.tmps[116]? = some v ∧ (fun (v : Value) (w : World) => v = .bool true) v w := dep ⟨19, Ground.guard⟩ (by simp [ops_plD]) rfl 116 rfl
      exact .inl ⟨wantG (b := true) rfl (show ((ops_plD[19]?).bind (·.dst)) = some 116 from rfl) hv19, fun K hK => mo_load (load_flds (hI w hR).2) rfl (evT hv21) (hK _ _ (Below.refl _ _) rfl)⟩
    · have ho2 : some _ = some o := ho
      obtain rfl := Option.some.inj ho2
      obtain ⟨_, hv20, rfl⟩ : ∃ v, a.tmps[117]? = some v ∧ (fun (v : Value) (w : World) => v = .slice fa fn fc) v w := dep ⟨20, Ground.data⟩ (by simp [ops_plD]) rfl 117 rfl
      obtain ⟨_, hv22, rfl⟩ : ∃ v, a.tmps[119]? = some v ∧ (fun (v : Value) (w : World) => v = .slice ga fn gc) v w := dep ⟨22, Ground.data⟩ (by simp [ops_plD]) rfl 119 rfl
      obtain ⟨_, hv19, rfl⟩ : ∃ v, a.tmps[116]? = some v ∧ (fun (v : Value) (w : World) => v = .bool true) v w := dep ⟨19, Ground.guard⟩ (by simp [ops_plD]) rfl 116 rfl
      exact .inl ⟨wantG (b := true) rfl (show ((ops_plD[19]?).bind (·.dst)) = some 116 from rfl) hv19, fun K hK => mo_call2 21 rfl (evT hv20) (evT hv22) (enters_of (P := Tryz.prog) Tryz.func21 (by kernel_rfl) rfl) (hC23 w hR) (fun v w' h => hK v w' h.2 h.1)⟩
    · have ho2 : some _ = some o := ho
      obtain rfl := Option.some.inj ho2
      obtain ⟨_, hv19, rfl⟩ : ∃ v, a.tmps[116]? = some v ∧ (fun (v : Value) (w : World) => v = .bool true) v w := dep ⟨19, Ground.data⟩ (by simp [ops_plD]) rfl 116 rfl
      obtain ⟨_, hv23, rfl⟩ : ∃ v, a.tmps[120]? = some v ∧ (fun (v : Value) (w : World) => v = .bool true) v w := dep ⟨23, Ground.data⟩ (by simp [ops_plD]) rfl 120 rfl
      exact .inl ⟨wantN rfl, fun K hK => mo_pick rfl (evT hv19) (evT hv23) rfl rfl (hK _ _ (Below.refl _ _) rfl)⟩
    · have ho2 : some _ = some o := ho
      obtain rfl := Option.some.inj ho2
      obtain ⟨_, hv24, rfl⟩ : ∃ v, a.tmps[121]? = some v ∧ (fun (v : Value) (w : World) => v = .bool true) v w := dep ⟨24, Ground.data⟩ (by simp [ops_plD]) rfl 121 rfl
      exact .inl ⟨wantN rfl, fun K hK => mo_move rfl (evT hv24) (hK _ _ (Below.refl _ _) rfl)⟩
    · have ho2 : some _ = some o := ho
      obtain rfl := Option.some.inj ho2
      obtain ⟨_, hv25, rfl⟩ : ∃ v, a.tmps[122]? = some v ∧ (fun (v : Value) (w : World) => v = .bool true) v w := dep ⟨25, Ground.guard⟩ (by simp [ops_plD]) rfl 122 rfl
      exact .inl ⟨wantG (b := true) rfl (show ((ops_plD[25]?).bind (·.dst)) = some 122 from rfl) hv25, fun K hK => mo_move rfl e7 (hK _ _ (Below.refl _ _) rfl)⟩
    · have ho2 : some _ = some o := ho
      obtain rfl := Option.some.inj ho2
      obtain ⟨_, hv25, rfl⟩ : ∃ v, a.tmps[122]? = some v ∧ (fun (v : Value) (w : World) => v = .bool true) v w := dep ⟨25, Ground.guard⟩ (by simp [ops_plD]) rfl 122 rfl
      exact .inl ⟨wantG (b := true) rfl (show ((ops_plD[25]?).bind (·.dst)) = some 122 from rfl) hv25, fun K hK => mo_move rfl e2 (hK _ _ (Below.refl _ _) rfl)⟩
    · have ho2 : some _ = some o := ho
      obtain rfl := Option.some.inj ho2
      obtain ⟨_, hv26, rfl⟩ : ∃ v, a.tmps[123]? = some v ∧ (fun (v : Value) (w : World) => v = .pointer (some ⟨lb, 0, none⟩)) v w := dep ⟨26, Ground.data⟩ (by simp [ops_plD]) rfl 123 rfl
      obtain ⟨_, hv27, rfl⟩ : ∃ v, a.tmps[124]? = some v ∧ (fun (v : Value) (w : World) => v = .int .i64 id) v w := dep ⟨27, Ground.data⟩ (by simp [ops_plD]) rfl 124 rfl
      obtain ⟨_, hv25, rfl⟩ : ∃ v, a.tmps[122]? = some v ∧ (fun (v : Value) (w : World) => v = .bool true) v w := dep ⟨25, Ground.guard⟩ (by simp [ops_plD]) rfl 122 rfl
      exact .inl ⟨wantG (b := true) rfl (show ((ops_plD[25]?).bind (·.dst)) = some 122 from rfl) hv25, fun K hK => mo_call2 22 rfl (evT hv26) (evT hv27) (enters_of (P := Tryz.prog) Tryz.func22 (by kernel_rfl) rfl) (hC28 w hR) (fun v w' h => hK v w' h.2 h.1)⟩
    · have ho2 : some _ = some o := ho
      obtain rfl := Option.some.inj ho2
      obtain ⟨_, hv25, rfl⟩ : ∃ v, a.tmps[122]? = some v ∧ (fun (v : Value) (w : World) => v = .bool true) v w := dep ⟨25, Ground.guard⟩ (by simp [ops_plD]) rfl 122 rfl
      exact .inl ⟨wantG (b := true) rfl (show ((ops_plD[25]?).bind (·.dst)) = some 122 from rfl) hv25, fun K hK => mo_load (load_lst (hM w hR).1 (hM w hR).2) rfl e9 (hK _ _ (Below.refl _ _) rfl)⟩
    · have ho2 : some _ = some o := ho
      obtain rfl := Option.some.inj ho2
      obtain ⟨_, hv25, rfl⟩ : ∃ v, a.tmps[122]? = some v ∧ (fun (v : Value) (w : World) => v = .bool true) v w := dep ⟨25, Ground.guard⟩ (by simp [ops_plD]) rfl 122 rfl
      exact .inl ⟨wantG (b := true) rfl (show ((ops_plD[25]?).bind (·.dst)) = some 122 from rfl) hv25, fun K hK => mo_move rfl e2 (hK _ _ (Below.refl _ _) rfl)⟩
    · have ho2 : some _ = some o := ho
      obtain rfl := Option.some.inj ho2
      obtain ⟨_, hv29, rfl⟩ : ∃ v, a.tmps[126]? = some v ∧ (fun (v : Value) (w : World) => v = .agg #[mv, .int .i64 nx]) v w := dep ⟨29, Ground.data⟩ (by simp [ops_plD]) rfl 126 rfl
      obtain ⟨_, hv30, rfl⟩ : ∃ v, a.tmps[127]? = some v ∧ (fun (v : Value) (w : World) => v = .int .i64 id) v w := dep ⟨30, Ground.data⟩ (by simp [ops_plD]) rfl 127 rfl
      obtain ⟨_, hv25, rfl⟩ : ∃ v, a.tmps[122]? = some v ∧ (fun (v : Value) (w : World) => v = .bool true) v w := dep ⟨25, Ground.guard⟩ (by simp [ops_plD]) rfl 122 rfl
      exact .inl ⟨wantG (b := true) rfl (show ((ops_plD[25]?).bind (·.dst)) = some 122 from rfl) hv25, fun K hK => mo_call2 23 rfl (evT hv29) (evT hv30) (enters_of (P := Tryz.prog) Tryz.func23 (by kernel_rfl) rfl) (hC31 w hR) (fun v w' h => hK v w' h.2 h.1)⟩
    · have ho2 : some _ = some o := ho
      obtain rfl := Option.some.inj ho2
      obtain ⟨_, hv28, rfl⟩ : ∃ v, a.tmps[125]? = some v ∧ (fun (v : Value) (w : World) => v = .int .i64 pl) v w := dep ⟨28, Ground.data⟩ (by simp [ops_plD]) rfl 125 rfl
      obtain ⟨_, hv31, rfl⟩ : ∃ v, a.tmps[128]? = some v ∧ (fun (v : Value) (w : World) => v = .int .i64 pl) v w := dep ⟨31, Ground.data⟩ (by simp [ops_plD]) rfl 128 rfl
      obtain ⟨_, hv25, rfl⟩ : ∃ v, a.tmps[122]? = some v ∧ (fun (v : Value) (w : World) => v = .bool true) v w := dep ⟨25, Ground.guard⟩ (by simp [ops_plD]) rfl 122 rfl
      exact .inl ⟨wantG (b := true) rfl (show ((ops_plD[25]?).bind (·.dst)) = some 122 from rfl) hv25, fun K hK => mo_eqlI rfl (evT hv28) (evT hv31) (hK _ _ (Below.refl _ _) (congrArg Value.bool (by simp)))⟩
    · have ho2 : some _ = some o := ho
      obtain rfl := Option.some.inj ho2
      obtain ⟨_, hv25, rfl⟩ : ∃ v, a.tmps[122]? = some v ∧ (fun (v : Value) (w : World) => v = .bool true) v w := dep ⟨25, Ground.data⟩ (by simp [ops_plD]) rfl 122 rfl
      obtain ⟨_, hv32, rfl⟩ : ∃ v, a.tmps[129]? = some v ∧ (fun (v : Value) (w : World) => v = .bool true) v w := dep ⟨32, Ground.data⟩ (by simp [ops_plD]) rfl 129 rfl
      exact .inl ⟨wantN rfl, fun K hK => mo_pick rfl (evT hv25) (evT hv32) rfl rfl (hK _ _ (Below.refl _ _) rfl)⟩
    · have ho2 : some _ = some o := ho
      obtain rfl := Option.some.inj ho2
      obtain ⟨_, hv33, rfl⟩ : ∃ v, a.tmps[130]? = some v ∧ (fun (v : Value) (w : World) => v = .bool true) v w := dep ⟨33, Ground.data⟩ (by simp [ops_plD]) rfl 130 rfl
      exact .inl ⟨wantN rfl, fun K hK => mo_assign rfl (evT hv33) (hK _ _ (Below.refl _ _) rfl)⟩
end Go.Proofs.YtiebbgbcojgeoaaGreatDoor

