/- Texts put together: HD. -/
import Derived.Test.YtflnlenkgbphpaaGreatDoorBaf1
import Derived.Test.YtflnlenkgbphpaaGreatDoorBaf2
import Derived.Test.YtflnlenkgbphpaaGreatDoorBaf3
import Derived.Test.YtflnlenkgbphpaaGreatDoorBaf4
import Derived.Test.YtflnlenkgbphpaaGreatDoorBaf5
import Derived.Test.YtflnlenkgbphpaaGreatDoorBaf6
import Derived.Test.YtflnlenkgbphpaaGreatDoorBaf7
import Derived.Test.YtflnlenkgbphpaaGreatDoorBaf8
import Derived.Test.YtflnlenkgbphpaaGreatDoorBaf9
import Derived.Test.YtflnlenkgbphpaaGreatDoorBaf10
import Derived.Test.YtflnlenkgbphpaaGreatDoorBaf11
import Derived.Test.YtflnlenkgbphpaaGreatDoorBaf12
import Derived.Test.YtflnlenkgbphpaaGreatDoorBaf13
import Derived.Test.YtflnlenkgbphpaaGreatDoorBaf14
import Derived.Test.YtflnlenkgbphpaaGreatDoorBaf15
import Derived.Test.YtflnlenkgbphpaaGreatDoorBaf16
import Derived.Test.YtflnlenkgbphpaaGreatDoorBaf17
import Derived.Test.YtflnlenkgbphpaaGreatDoorBaf18
import Derived.Test.YtflnlenkgbphpaaGreatDoorBag1
import Derived.Test.YtflnlenkgbphpaaGreatDoorBag2
import Derived.Test.YtflnlenkgbphpaaGreatDoorBag3
set_option linter.unusedVariables false
namespace Go.Proofs.YtflnlenkgbphpaaGreatDoor
open Go.RowKit Go.Shelf

def ops_edA : Array Oper := #[
  { dst := some 52, op := Op.move (Operand.tmp 11), type := 27, pos := "law.go:72", after := #[], guard := none },
  { dst := some 53, op := Op.call { callee := Callee.value (Operand.func 14), args := #[Operand.tmp 52], argTypes := #[27] }, type := 3, pos := "law.go:72", after := #[{ on := 0, ground := Ground.data }], guard := none },
  { dst := some 54, op := Op.move (Operand.tmp 15), type := 3, pos := "law.go:72", after := #[], guard := none },
  { dst := some 55, op := Op.binOp BinOp.neq 3 (Operand.tmp 53) (Operand.tmp 54) 3, type := 4, pos := "law.go:72", after := #[{ on := 1, ground := Ground.data }, { on := 2, ground := Ground.data }], guard := none },
  { dst := some 56, op := Op.move (Operand.tmp 55), type := 4, pos := "law.go:72", after := #[{ on := 3, ground := Ground.data }, { on := 1, ground := Ground.chain }], guard := none },
  { dst := some 57, op := Op.move (Operand.tmp 11), type := 27, pos := "law.go:72", after := #[{ on := 4, ground := Ground.guard }], guard := some (4, false) },
  { dst := some 58, op := Op.call { callee := Callee.value (Operand.func 15), args := #[Operand.tmp 57], argTypes := #[27] }, type := 3, pos := "law.go:72", after := #[{ on := 5, ground := Ground.data }, { on := 4, ground := Ground.chain }, { on := 4, ground := Ground.guard }], guard := some (4, false) },
  { dst := some 59, op := Op.move (Operand.tmp 14), type := 3, pos := "law.go:72", after := #[{ on := 4, ground := Ground.guard }], guard := some (4, false) },
  { dst := some 60, op := Op.binOp BinOp.neq 3 (Operand.tmp 58) (Operand.tmp 59) 3, type := 4, pos := "law.go:72", after := #[{ on := 6, ground := Ground.data }, { on := 7, ground := Ground.data }, { on := 4, ground := Ground.guard }], guard := some (4, false) },
  { dst := some 61, op := Op.pick (Operand.tmp 56) (Operand.const (Value.bool true)) (Operand.tmp 60), type := 4, pos := "law.go:72", after := #[{ on := 4, ground := Ground.data }, { on := 8, ground := Ground.data }], guard := none },
  { dst := some 62, op := Op.move (Operand.tmp 61), type := 4, pos := "law.go:72", after := #[{ on := 9, ground := Ground.data }, { on := 6, ground := Ground.chain }], guard := none },
  { dst := some 63, op := Op.move (Operand.tmp 10), type := 46, pos := "law.go:72", after := #[{ on := 10, ground := Ground.guard }], guard := some (10, false) },
  { dst := some 64, op := Op.move (Operand.tmp 13), type := 46, pos := "law.go:72", after := #[{ on := 10, ground := Ground.guard }], guard := some (10, false) },
  { dst := some 65, op := Op.call { callee := Callee.value (Operand.func 23), args := #[Operand.tmp 63, Operand.tmp 64], argTypes := #[46, 46] }, type := 4, pos := "law.go:72", after := #[{ on := 11, ground := Ground.data }, { on := 12, ground := Ground.data }, { on := 10, ground := Ground.chain }, { on := 10, ground := Ground.guard }], guard := some (10, false) },
  { dst := some 66, op := Op.unOp UnOp.not 4 (Operand.tmp 65), type := 4, pos := "law.go:72", after := #[{ on := 13, ground := Ground.data }, { on := 10, ground := Ground.guard }], guard := some (10, false) },
  { dst := some 67, op := Op.pick (Operand.tmp 62) (Operand.const (Value.bool true)) (Operand.tmp 66), type := 4, pos := "law.go:72", after := #[{ on := 10, ground := Ground.data }, { on := 14, ground := Ground.data }], guard := none },
  { dst := some 68, op := Op.move (Operand.tmp 67), type := 4, pos := "law.go:72", after := #[{ on := 15, ground := Ground.data }, { on := 13, ground := Ground.chain }], guard := none },
  { dst := some 69, op := Op.move (Operand.tmp 5), type := 40, pos := "law.go:72", after := #[{ on := 16, ground := Ground.guard }], guard := some (16, false) },
  { dst := some 70, op := Op.call { callee := Callee.value (Operand.func 24), args := #[Operand.tmp 69], argTypes := #[40] }, type := 9, pos := "law.go:72", after := #[{ on := 17, ground := Ground.data }, { on := 16, ground := Ground.chain }, { on := 16, ground := Ground.guard }], guard := some (16, false) },
  { dst := some 71, op := Op.load 43 (Operand.tmp 6), type := 43, pos := "law.go:72", after := #[{ on := 16, ground := Ground.guard }], guard := some (16, false) },
  { dst := some 72, op := Op.call { callee := Callee.value (Operand.func 25), args := #[Operand.tmp 71], argTypes := #[43] }, type := 9, pos := "law.go:72", after := #[{ on := 19, ground := Ground.data }, { on := 18, ground := Ground.chain }, { on := 16, ground := Ground.guard }], guard := some (16, false) },
  { dst := some 73, op := Op.binOp BinOp.neq 9 (Operand.tmp 70) (Operand.tmp 72) 9, type := 4, pos := "law.go:72", after := #[{ on := 18, ground := Ground.data }, { on := 20, ground := Ground.data }, { on := 16, ground := Ground.guard }], guard := some (16, false) },
  { dst := some 74, op := Op.pick (Operand.tmp 68) (Operand.const (Value.bool true)) (Operand.tmp 73), type := 4, pos := "law.go:72", after := #[{ on := 16, ground := Ground.data }, { on := 21, ground := Ground.data }], guard := none },
  { dst := some 75, op := Op.move (Operand.tmp 74), type := 4, pos := "law.go:72", after := #[{ on := 22, ground := Ground.data }, { on := 20, ground := Ground.chain }], guard := none },
  { dst := some 76, op := Op.move (Operand.tmp 8), type := 22, pos := "law.go:72", after := #[{ on := 23, ground := Ground.guard }], guard := some (23, false) },
  { dst := some 77, op := Op.move (Operand.tmp 1), type := 22, pos := "law.go:72", after := #[{ on := 23, ground := Ground.guard }], guard := some (23, false) },
  { dst := some 78, op := Op.call { callee := Callee.value (Operand.func 18), args := #[Operand.tmp 76, Operand.tmp 77], argTypes := #[22, 22] }, type := 4, pos := "law.go:72", after := #[{ on := 24, ground := Ground.data }, { on := 25, ground := Ground.data }, { on := 23, ground := Ground.chain }, { on := 23, ground := Ground.guard }], guard := some (23, false) },
  { dst := some 79, op := Op.unOp UnOp.not 4 (Operand.tmp 78), type := 4, pos := "law.go:72", after := #[{ on := 26, ground := Ground.data }, { on := 23, ground := Ground.guard }], guard := some (23, false) },
  { dst := some 80, op := Op.pick (Operand.tmp 75) (Operand.const (Value.bool true)) (Operand.tmp 79), type := 4, pos := "law.go:72", after := #[{ on := 23, ground := Ground.data }, { on := 27, ground := Ground.data }], guard := none }]
def dst_edA (i : Nat) : Option Nat := (ops_edA[i]?).bind (·.dst)
theorem inj_edA : ∀ i, i < 29 → ∀ k, k < 29 → dst_edA i ≠ none → dst_edA i = dst_edA k → i = k := by decide +kernel
theorem lt_edA : ∀ i, i < 29 → (dst_edA i).getD 0 < 114 := by decide +kernel
theorem low_edA : ∀ i : Fin 29, ∀ e ∈ (ops_edA[i.1]'(by exact i.2)).after, Region.binds .any e = true → e.on < i.1 := by decide +kernel
def pv_edA (er iv jv cv bv mv : Value) (at1 bad nx : Int) (lb mb : Nat) (T : ByteArray) : List (Value → World → Prop) := [
  fun v w => v = er,
  fun v w => v = .int .i64 bad,
  fun v w => v = .int .i64 bad,
  fun v w => v = .bool false,
  fun v w => v = .bool false,
  fun v w => v = er,
  fun v w => v = .int .i64 at1,
  fun v w => v = .int .i64 at1,
  fun v w => v = .bool false,
  fun v w => v = .bool false,
  fun v w => v = .bool false,
  fun v w => v = iv,
  fun v w => v = jv,
  fun v w => v = .bool true,
  fun v w => v = .bool false,
  fun v w => v = .bool false,
  fun v w => v = .bool false,
  fun v w => v = .pointer (some ⟨lb, 0, none⟩),
  fun v w => v = .string T,
  fun v w => v = .agg #[mv, .int .i64 nx],
  fun v w => v = .string T,
  fun v w => v = .bool false,
  fun v w => v = .bool false,
  fun v w => v = .bool false,
  fun v w => v = cv,
  fun v w => v = bv,
  fun v w => v = .bool true,
  fun v w => v = .bool false,
  fun v w => v = .bool false]
set_option maxRecDepth 100000 in
set_option maxHeartbeats 4000000 in
theorem region_edA (a0 : Act) (w0 : World) (er iv jv cv bv mv : Value) (at1 bad nx : Int) (lb mb : Nat) (T : ByteArray) (Q : Exit → Act → World → Prop)
    (hsz : a0.tmps.size = 114) (h11 : a0.tmps[11]? = some (er)) (h15 : a0.tmps[15]? = some (.int .i64 bad)) (h14 : a0.tmps[14]? = some (.int .i64 at1)) (h10 : a0.tmps[10]? = some (iv)) (h13 : a0.tmps[13]? = some (jv)) (h5 : a0.tmps[5]? = some (.pointer (some ⟨lb, 0, none⟩))) (h8 : a0.tmps[8]? = some (cv)) (h1 : a0.tmps[1]? = some (bv)) (h6 : a0.tmps[6]? = some (.pointer (some ⟨mb, 0, none⟩)))
    (hM : ∀ W, Below w0.heap.size w0 W → W.cell? ⟨mb, 0, none⟩ = some mv ∧ W.cell? ⟨mb, 1, none⟩ = some (.int .i64 nx))
    (hC1 : ∀ (W : World) (_ : Below w0.heap.size w0 W), Calls Tryz.prog 14 #[er] W fun e w => ∃ v, e = .returned v ∧ (v = .int .i64 bad) ∧ Below W.heap.size W w)
    (hC6 : ∀ (W : World) (_ : Below w0.heap.size w0 W), Calls Tryz.prog 15 #[er] W fun e w => ∃ v, e = .returned v ∧ (v = .int .i64 at1) ∧ Below W.heap.size W w)
    (hC13 : ∀ (W : World) (_ : Below w0.heap.size w0 W), Calls Tryz.prog 23 #[iv, jv] W fun e w => ∃ v, e = .returned v ∧ (v = .bool true) ∧ Below W.heap.size W w)
    (hC18 : ∀ (W : World) (_ : Below w0.heap.size w0 W), Calls Tryz.prog 24 #[.pointer (some ⟨lb, 0, none⟩)] W fun e w => ∃ v, e = .returned v ∧ (v = .string T) ∧ Below W.heap.size W w)
    (hC20 : ∀ (W : World) (_ : Below w0.heap.size w0 W), Calls Tryz.prog 25 #[.agg #[mv, .int .i64 nx]] W fun e w => ∃ v, e = .returned v ∧ (v = .string T) ∧ Below W.heap.size W w)
    (hC26 : ∀ (W : World) (_ : Below w0.heap.size w0 W), Calls Tryz.prog 18 #[cv, bv] W fun e w => ∃ v, e = .returned v ∧ (v = .bool true) ∧ Below W.heap.size W w)
    (hQ : ∀ (y0 y1 y2 y3 y4 y5 y6 y7 y8 y9 y10 y11 y12 y13 y14 y15 y16 y17 y18 y19 y20 y21 y22 y23 y24 y25 y26 y27 y28 : Value) (w : World), Below w0.heap.size w0 w → ((fun (v : Value) (w : World) => v = .bool false) y28 w) → Q .normal { a0 with tmps := [(52, y0), (53, y1), (54, y2), (55, y3), (56, y4), (57, y5), (58, y6), (59, y7), (60, y8), (61, y9), (62, y10), (63, y11), (64, y12), (65, y13), (66, y14), (67, y15), (68, y16), (69, y17), (70, y18), (71, y19), (72, y20), (73, y21), (74, y22), (75, y23), (76, y24), (77, y25), (78, y26), (79, y27), (80, y28)].foldl (fun u p => u.setIfInBounds p.1 p.2) a0.tmps } w) :
    wpAny Tryz.prog .any ops_edA Q ops_edA.size (Array.replicate ops_edA.size false) a0 w0 := by
  have M : AllM (pv_edA er iv jv cv bv mv at1 bad nx lb mb T) := ⟨fun _ _ _ _ => id, fun _ _ _ _ => id, fun _ _ _ _ => id, fun _ _ _ _ => id, fun _ _ _ _ => id, fun _ _ _ _ => id, fun _ _ _ _ => id, fun _ _ _ _ => id, fun _ _ _ _ => id, fun _ _ _ _ => id, fun _ _ _ _ => id, fun _ _ _ _ => id, fun _ _ _ _ => id, fun _ _ _ _ => id, fun _ _ _ _ => id, fun _ _ _ _ => id, fun _ _ _ _ => id, fun _ _ _ _ => id, fun _ _ _ _ => id, fun _ _ _ _ => id, fun _ _ _ _ => id, fun _ _ _ _ => id, fun _ _ _ _ => id, fun _ _ _ _ => id, fun _ _ _ _ => id, fun _ _ _ _ => id, fun _ _ _ _ => id, fun _ _ _ _ => id, fun _ _ _ _ => id, trivial⟩
  refine wpAny_mono a0 w0 dst_edA (pvL (pv_edA er iv jv cv bv mv at1 bad nx lb mb T)) (fun x y => Below x.heap.size x y) (Below.refl _ _) (fun x y h g => h.trans (g.mono h.size)) (fun i v x y _ g h => pvL_mono M g h)
    (fun i o ho => by unfold dst_edA; rw [ho]; rfl)
    (fun i k d hi hk h1 h2 => inj_edA i hi k hk (by rw [h1]; intro q; cases q) (by rw [h1, h2]))
    (fun i d hi h => by have := lt_edA i hi; rw [h] at this; rw [hsz]; exact this)
    (fun i o e ho he hb => by
      obtain ⟨hi, rfl⟩ := Array.getElem?_eq_some_iff.1 ho
      exact low_edA ⟨i, hi⟩ e he hb)
    ?step (fun w _ => Below.refl _ _) ?fin
  case fin =>
    intro a w hd hs hf hv hR
    obtain ⟨y0, hy0, pv0⟩ := hv 0 52 (by decide) rfl
    obtain ⟨y1, hy1, pv1⟩ := hv 1 53 (by decide) rfl
    obtain ⟨y2, hy2, pv2⟩ := hv 2 54 (by decide) rfl
    obtain ⟨y3, hy3, pv3⟩ := hv 3 55 (by decide) rfl
    obtain ⟨y4, hy4, pv4⟩ := hv 4 56 (by decide) rfl
    obtain ⟨y5, hy5, pv5⟩ := hv 5 57 (by decide) rfl
    obtain ⟨y6, hy6, pv6⟩ := hv 6 58 (by decide) rfl
    obtain ⟨y7, hy7, pv7⟩ := hv 7 59 (by decide) rfl
    obtain ⟨y8, hy8, pv8⟩ := hv 8 60 (by decide) rfl
    obtain ⟨y9, hy9, pv9⟩ := hv 9 61 (by decide) rfl
    obtain ⟨y10, hy10, pv10⟩ := hv 10 62 (by decide) rfl
    obtain ⟨y11, hy11, pv11⟩ := hv 11 63 (by decide) rfl
    obtain ⟨y12, hy12, pv12⟩ := hv 12 64 (by decide) rfl
    obtain ⟨y13, hy13, pv13⟩ := hv 13 65 (by decide) rfl
    obtain ⟨y14, hy14, pv14⟩ := hv 14 66 (by decide) rfl
    obtain ⟨y15, hy15, pv15⟩ := hv 15 67 (by decide) rfl
    obtain ⟨y16, hy16, pv16⟩ := hv 16 68 (by decide) rfl
    obtain ⟨y17, hy17, pv17⟩ := hv 17 69 (by decide) rfl
    obtain ⟨y18, hy18, pv18⟩ := hv 18 70 (by decide) rfl
    obtain ⟨y19, hy19, pv19⟩ := hv 19 71 (by decide) rfl
    obtain ⟨y20, hy20, pv20⟩ := hv 20 72 (by decide) rfl
    obtain ⟨y21, hy21, pv21⟩ := hv 21 73 (by decide) rfl
    obtain ⟨y22, hy22, pv22⟩ := hv 22 74 (by decide) rfl
    obtain ⟨y23, hy23, pv23⟩ := hv 23 75 (by decide) rfl
    obtain ⟨y24, hy24, pv24⟩ := hv 24 76 (by decide) rfl
    obtain ⟨y25, hy25, pv25⟩ := hv 25 77 (by decide) rfl
    obtain ⟨y26, hy26, pv26⟩ := hv 26 78 (by decide) rfl
    obtain ⟨y27, hy27, pv27⟩ := hv 27 79 (by decide) rfl
    obtain ⟨y28, hy28, pv28⟩ := hv 28 80 (by decide) rfl
    rw [act_set' (a := a) (a0 := a0) [(52, y0), (53, y1), (54, y2), (55, y3), (56, y4), (57, y5), (58, y6), (59, y7), (60, y8), (61, y9), (62, y10), (63, y11), (64, y12), (65, y13), (66, y14), (67, y15), (68, y16), (69, y17), (70, y18), (71, y19), (72, y20), (73, y21), (74, y22), (75, y23), (76, y24), (77, y25), (78, y26), (79, y27), (80, y28)] hd hs (by
      intro p hp
      simp only [List.mem_cons, List.not_mem_nil, or_false] at hp
      rcases hp with rfl | rfl | rfl | rfl | rfl | rfl | rfl | rfl | rfl | rfl | rfl | rfl | rfl | rfl | rfl | rfl | rfl | rfl | rfl | rfl | rfl | rfl | rfl | rfl | rfl | rfl | rfl | rfl | rfl
      · exact hy0
      · exact hy1
      · exact hy2
      · exact hy3
      · exact hy4
      · exact hy5
      · exact hy6
      · exact hy7
      · exact hy8
      · exact hy9
      · exact hy10
      · exact hy11
      · exact hy12
      · exact hy13
      · exact hy14
      · exact hy15
      · exact hy16
      · exact hy17
      · exact hy18
      · exact hy19
      · exact hy20
      · exact hy21
      · exact hy22
      · exact hy23
      · exact hy24
      · exact hy25
      · exact hy26
      · exact hy27
      · exact hy28
      ) (fun j hj => hf j (fun k hk q => hj (by
        have : ∀ k, k < 29 → (dst_edA k).all (fun d => [52, 53, 54, 55, 56, 57, 58, 59, 60, 61, 62, 63, 64, 65, 66, 67, 68, 69, 70, 71, 72, 73, 74, 75, 76, 77, 78, 79, 80].contains d) = true := by decide +kernel
        have h1 := this k hk
        rw [q] at h1
        simpa using h1)))]
    exact hQ y0 y1 y2 y3 y4 y5 y6 y7 y8 y9 y10 y11 y12 y13 y14 y15 y16 y17 y18 y19 y20 y21 y22 y23 y24 y25 y26 y27 y28 w hR pv28
  case step =>
    intro i o a w ho hs hf dep hR
    have hi : i < 29 := (Array.getElem?_eq_some_iff.1 ho).1
    have e11 := evT ((hf 11 (by decide +kernel)).trans h11)
    have e15 := evT ((hf 15 (by decide +kernel)).trans h15)
    have e14 := evT ((hf 14 (by decide +kernel)).trans h14)
    have e10 := evT ((hf 10 (by decide +kernel)).trans h10)
    have e13 := evT ((hf 13 (by decide +kernel)).trans h13)
    have e5 := evT ((hf 5 (by decide +kernel)).trans h5)
    have e8 := evT ((hf 8 (by decide +kernel)).trans h8)
    have e1 := evT ((hf 1 (by decide +kernel)).trans h1)
    have e6 := evT ((hf 6 (by decide +kernel)).trans h6)
    rcases (by omega : i = 0 ∨ i = 1 ∨ i = 2 ∨ i = 3 ∨ i = 4 ∨ i = 5 ∨ i = 6 ∨ i = 7 ∨ i = 8 ∨ i = 9 ∨ i = 10 ∨ i = 11 ∨ i = 12 ∨ i = 13 ∨ i = 14 ∨ i = 15 ∨ i = 16 ∨ i = 17 ∨ i = 18 ∨ i = 19 ∨ i = 20 ∨ i = 21 ∨ i = 22 ∨ i = 23 ∨ i = 24 ∨ i = 25 ∨ i = 26 ∨ i = 27 ∨ i = 28) with rfl | rfl | rfl | rfl | rfl | rfl | rfl | rfl | rfl | rfl | rfl | rfl | rfl | rfl | rfl | rfl | rfl | rfl | rfl | rfl | rfl | rfl | rfl | rfl | rfl | rfl | rfl | rfl | rfl
    · obtain rfl := Option.some.inj (show some _ = some o from ho)
      exact .inl ⟨wantN rfl, fun K hK => mo_move rfl e11 (hK _ _ (Below.refl _ _) rfl)⟩
    · obtain rfl := Option.some.inj (show some _ = some o from ho)
      obtain ⟨_, hv0, rfl⟩ : ∃ v, a.tmps[52]? = some v ∧ v = er := dep ⟨0, .data⟩ (by simp [ops_edA]) rfl 52 rfl
      exact .inl ⟨wantN rfl, fun K hK => mo_call1 14 rfl (evT hv0) (enters_of (P := Tryz.prog) Tryz.func14 (by kernel_rfl) rfl) (hC1 w hR) (fun v w' h => hK v w' h.2 h.1)⟩
    · obtain rfl := Option.some.inj (show some _ = some o from ho)
      exact .inl ⟨wantN rfl, fun K hK => mo_move rfl e15 (hK _ _ (Below.refl _ _) rfl)⟩
    · obtain rfl := Option.some.inj (show some _ = some o from ho)
      obtain ⟨_, hv1, rfl⟩ : ∃ v, a.tmps[53]? = some v ∧ v = .int .i64 bad := dep ⟨1, .data⟩ (by simp [ops_edA]) rfl 53 rfl
      obtain ⟨_, hv2, rfl⟩ : ∃ v, a.tmps[54]? = some v ∧ v = .int .i64 bad := dep ⟨2, .data⟩ (by simp [ops_edA]) rfl 54 rfl
      exact .inl ⟨wantN rfl, fun K hK => mo_neqI rfl (evT hv1) (evT hv2) (hK _ _ (Below.refl _ _) (congrArg Value.bool (by simp)))⟩
    · obtain rfl := Option.some.inj (show some _ = some o from ho)
      obtain ⟨_, hv3, rfl⟩ : ∃ v, a.tmps[55]? = some v ∧ v = .bool false := dep ⟨3, .data⟩ (by simp [ops_edA]) rfl 55 rfl
      exact .inl ⟨wantN rfl, fun K hK => mo_move rfl (evT hv3) (hK _ _ (Below.refl _ _) rfl)⟩
    · obtain rfl := Option.some.inj (show some _ = some o from ho)
      obtain ⟨_, hv4, rfl⟩ : ∃ v, a.tmps[56]? = some v ∧ v = .bool false := dep ⟨4, .guard⟩ (by simp [ops_edA]) rfl 56 rfl
      exact .inl ⟨wantG (b := false) rfl (show ((ops_edA[4]?).bind (·.dst)) = some 56 from rfl) hv4, fun K hK => mo_move rfl e11 (hK _ _ (Below.refl _ _) rfl)⟩
    · obtain rfl := Option.some.inj (show some _ = some o from ho)
      obtain ⟨_, hv5, rfl⟩ : ∃ v, a.tmps[57]? = some v ∧ v = er := dep ⟨5, .data⟩ (by simp [ops_edA]) rfl 57 rfl
      obtain ⟨_, hv4, rfl⟩ : ∃ v, a.tmps[56]? = some v ∧ v = .bool false := dep ⟨4, .guard⟩ (by simp [ops_edA]) rfl 56 rfl
      exact .inl ⟨wantG (b := false) rfl (show ((ops_edA[4]?).bind (·.dst)) = some 56 from rfl) hv4, fun K hK => mo_call1 15 rfl (evT hv5) (enters_of (P := Tryz.prog) Tryz.func15 (by kernel_rfl) rfl) (hC6 w hR) (fun v w' h => hK v w' h.2 h.1)⟩
    · obtain rfl := Option.some.inj (show some _ = some o from ho)
      obtain ⟨_, hv4, rfl⟩ : ∃ v, a.tmps[56]? = some v ∧ v = .bool false := dep ⟨4, .guard⟩ (by simp [ops_edA]) rfl 56 rfl
      exact .inl ⟨wantG (b := false) rfl (show ((ops_edA[4]?).bind (·.dst)) = some 56 from rfl) hv4, fun K hK => mo_move rfl e14 (hK _ _ (Below.refl _ _) rfl)⟩
    · obtain rfl := Option.some.inj (show some _ = some o from ho)
      obtain ⟨_, hv6, rfl⟩ : ∃ v, a.tmps[58]? = some v ∧ v = .int .i64 at1 := dep ⟨6, .data⟩ (by simp [ops_edA]) rfl 58 rfl
      obtain ⟨_, hv7, rfl⟩ : ∃ v, a.tmps[59]? = some v ∧ v = .int .i64 at1 := dep ⟨7, .data⟩ (by simp [ops_edA]) rfl 59 rfl
      obtain ⟨_, hv4, rfl⟩ : ∃ v, a.tmps[56]? = some v ∧ v = .bool false := dep ⟨4, .guard⟩ (by simp [ops_edA]) rfl 56 rfl
      exact .inl ⟨wantG (b := false) rfl (show ((ops_edA[4]?).bind (·.dst)) = some 56 from rfl) hv4, fun K hK => mo_neqI rfl (evT hv6) (evT hv7) (hK _ _ (Below.refl _ _) (congrArg Value.bool (by simp)))⟩
    · obtain rfl := Option.some.inj (show some _ = some o from ho)
      obtain ⟨_, hv4, rfl⟩ : ∃ v, a.tmps[56]? = some v ∧ v = .bool false := dep ⟨4, .data⟩ (by simp [ops_edA]) rfl 56 rfl
      obtain ⟨_, hv8, rfl⟩ : ∃ v, a.tmps[60]? = some v ∧ v = .bool false := dep ⟨8, .data⟩ (by simp [ops_edA]) rfl 60 rfl
      exact .inl ⟨wantN rfl, fun K hK => mo_pick rfl (evT hv4) rfl (evT hv8) rfl (hK _ _ (Below.refl _ _) rfl)⟩
    · obtain rfl := Option.some.inj (show some _ = some o from ho)
      obtain ⟨_, hv9, rfl⟩ : ∃ v, a.tmps[61]? = some v ∧ v = .bool false := dep ⟨9, .data⟩ (by simp [ops_edA]) rfl 61 rfl
      exact .inl ⟨wantN rfl, fun K hK => mo_move rfl (evT hv9) (hK _ _ (Below.refl _ _) rfl)⟩
    · obtain rfl := Option.some.inj (show some _ = some o from ho)
      obtain ⟨_, hv10, rfl⟩ : ∃ v, a.tmps[62]? = some v ∧ v = .bool false := dep ⟨10, .guard⟩ (by simp [ops_edA]) rfl 62 rfl
      exact .inl ⟨wantG (b := false) rfl (show ((ops_edA[10]?).bind (·.dst)) = some 62 from rfl) hv10, fun K hK => mo_move rfl e10 (hK _ _ (Below.refl _ _) rfl)⟩
    · obtain rfl := Option.some.inj (show some _ = some o from ho)
      obtain ⟨_, hv10, rfl⟩ : ∃ v, a.tmps[62]? = some v ∧ v = .bool false := dep ⟨10, .guard⟩ (by simp [ops_edA]) rfl 62 rfl
      exact .inl ⟨wantG (b := false) rfl (show ((ops_edA[10]?).bind (·.dst)) = some 62 from rfl) hv10, fun K hK => mo_move rfl e13 (hK _ _ (Below.refl _ _) rfl)⟩
    · obtain rfl := Option.some.inj (show some _ = some o from ho)
      obtain ⟨_, hv11, rfl⟩ : ∃ v, a.tmps[63]? = some v ∧ v = iv := dep ⟨11, .data⟩ (by simp [ops_edA]) rfl 63 rfl
      obtain ⟨_, hv12, rfl⟩ : ∃ v, a.tmps[64]? = some v ∧ v = jv := dep ⟨12, .data⟩ (by simp [ops_edA]) rfl 64 rfl
      obtain ⟨_, hv10, rfl⟩ : ∃ v, a.tmps[62]? = some v ∧ v = .bool false := dep ⟨10, .guard⟩ (by simp [ops_edA]) rfl 62 rfl
      exact .inl ⟨wantG (b := false) rfl (show ((ops_edA[10]?).bind (·.dst)) = some 62 from rfl) hv10, fun K hK => mo_call2 23 rfl (evT hv11) (evT hv12) (enters_of (P := Tryz.prog) Tryz.func23 (by kernel_rfl) rfl) (hC13 w hR) (fun v w' h => hK v w' h.2 h.1)⟩
    · obtain rfl := Option.some.inj (show some _ = some o from ho)
      obtain ⟨_, hv13, rfl⟩ : ∃ v, a.tmps[65]? = some v ∧ v = .bool true := dep ⟨13, .data⟩ (by simp [ops_edA]) rfl 65 rfl
      obtain ⟨_, hv10, rfl⟩ : ∃ v, a.tmps[62]? = some v ∧ v = .bool false := dep ⟨10, .guard⟩ (by simp [ops_edA]) rfl 62 rfl
      exact .inl ⟨wantG (b := false) rfl (show ((ops_edA[10]?).bind (·.dst)) = some 62 from rfl) hv10, fun K hK => mo_not rfl (evT hv13) (hK _ _ (Below.refl _ _) rfl)⟩
    · obtain rfl := Option.some.inj (show some _ = some o from ho)
      obtain ⟨_, hv10, rfl⟩ : ∃ v, a.tmps[62]? = some v ∧ v = .bool false := dep ⟨10, .data⟩ (by simp [ops_edA]) rfl 62 rfl
      obtain ⟨_, hv14, rfl⟩ : ∃ v, a.tmps[66]? = some v ∧ v = .bool false := dep ⟨14, .data⟩ (by simp [ops_edA]) rfl 66 rfl
      exact .inl ⟨wantN rfl, fun K hK => mo_pick rfl (evT hv10) rfl (evT hv14) rfl (hK _ _ (Below.refl _ _) rfl)⟩
    · obtain rfl := Option.some.inj (show some _ = some o from ho)
      obtain ⟨_, hv15, rfl⟩ : ∃ v, a.tmps[67]? = some v ∧ v = .bool false := dep ⟨15, .data⟩ (by simp [ops_edA]) rfl 67 rfl
      exact .inl ⟨wantN rfl, fun K hK => mo_move rfl (evT hv15) (hK _ _ (Below.refl _ _) rfl)⟩
    · obtain rfl := Option.some.inj (show some _ = some o from ho)
      obtain ⟨_, hv16, rfl⟩ : ∃ v, a.tmps[68]? = some v ∧ v = .bool false := dep ⟨16, .guard⟩ (by simp [ops_edA]) rfl 68 rfl
      exact .inl ⟨wantG (b := false) rfl (show ((ops_edA[16]?).bind (·.dst)) = some 68 from rfl) hv16, fun K hK => mo_move rfl e5 (hK _ _ (Below.refl _ _) rfl)⟩
    · obtain rfl := Option.some.inj (show some _ = some o from ho)
      obtain ⟨_, hv17, rfl⟩ : ∃ v, a.tmps[69]? = some v ∧ v = .pointer (some ⟨lb, 0, none⟩) := dep ⟨17, .data⟩ (by simp [ops_edA]) rfl 69 rfl
      obtain ⟨_, hv16, rfl⟩ : ∃ v, a.tmps[68]? = some v ∧ v = .bool false := dep ⟨16, .guard⟩ (by simp [ops_edA]) rfl 68 rfl
      exact .inl ⟨wantG (b := false) rfl (show ((ops_edA[16]?).bind (·.dst)) = some 68 from rfl) hv16, fun K hK => mo_call1 24 rfl (evT hv17) (enters_of (P := Tryz.prog) Tryz.func24 (by kernel_rfl) rfl) (hC18 w hR) (fun v w' h => hK v w' h.2 h.1)⟩
    · obtain rfl := Option.some.inj (show some _ = some o from ho)
      obtain ⟨_, hv16, rfl⟩ : ∃ v, a.tmps[68]? = some v ∧ v = .bool false := dep ⟨16, .guard⟩ (by simp [ops_edA]) rfl 68 rfl
      exact .inl ⟨wantG (b := false) rfl (show ((ops_edA[16]?).bind (·.dst)) = some 68 from rfl) hv16, fun K hK => mo_load (load_lst (hM w hR).1 (hM w hR).2) rfl e6 (hK _ _ (Below.refl _ _) rfl)⟩
    · obtain rfl := Option.some.inj (show some _ = some o from ho)
      obtain ⟨_, hv19, rfl⟩ : ∃ v, a.tmps[71]? = some v ∧ v = .agg #[mv, .int .i64 nx] := dep ⟨19, .data⟩ (by simp [ops_edA]) rfl 71 rfl
      obtain ⟨_, hv16, rfl⟩ : ∃ v, a.tmps[68]? = some v ∧ v = .bool false := dep ⟨16, .guard⟩ (by simp [ops_edA]) rfl 68 rfl
      exact .inl ⟨wantG (b := false) rfl (show ((ops_edA[16]?).bind (·.dst)) = some 68 from rfl) hv16, fun K hK => mo_call1 25 rfl (evT hv19) (enters_of (P := Tryz.prog) Tryz.func25 (by kernel_rfl) rfl) (hC20 w hR) (fun v w' h => hK v w' h.2 h.1)⟩
    · obtain rfl := Option.some.inj (show some _ = some o from ho)
      obtain ⟨_, hv18, rfl⟩ : ∃ v, a.tmps[70]? = some v ∧ v = .string T := dep ⟨18, .data⟩ (by simp [ops_edA]) rfl 70 rfl
      obtain ⟨_, hv20, rfl⟩ : ∃ v, a.tmps[72]? = some v ∧ v = .string T := dep ⟨20, .data⟩ (by simp [ops_edA]) rfl 72 rfl
      obtain ⟨_, hv16, rfl⟩ : ∃ v, a.tmps[68]? = some v ∧ v = .bool false := dep ⟨16, .guard⟩ (by simp [ops_edA]) rfl 68 rfl
      exact .inl ⟨wantG (b := false) rfl (show ((ops_edA[16]?).bind (·.dst)) = some 68 from rfl) hv16, fun K hK => mo_neqS rfl (evT hv18) (evT hv20) (hK _ _ (Below.refl _ _) (congrArg Value.bool (by simp)))⟩
    · obtain rfl := Option.some.inj (show some _ = some o from ho)
      obtain ⟨_, hv16, rfl⟩ : ∃ v, a.tmps[68]? = some v ∧ v = .bool false := dep ⟨16, .data⟩ (by simp [ops_edA]) rfl 68 rfl
      obtain ⟨_, hv21, rfl⟩ : ∃ v, a.tmps[73]? = some v ∧ v = .bool false := dep ⟨21, .data⟩ (by simp [ops_edA]) rfl 73 rfl
      exact .inl ⟨wantN rfl, fun K hK => mo_pick rfl (evT hv16) rfl (evT hv21) rfl (hK _ _ (Below.refl _ _) rfl)⟩
    · obtain rfl := Option.some.inj (show some _ = some o from ho)
      obtain ⟨_, hv22, rfl⟩ : ∃ v, a.tmps[74]? = some v ∧ v = .bool false := dep ⟨22, .data⟩ (by simp [ops_edA]) rfl 74 rfl
      exact .inl ⟨wantN rfl, fun K hK => mo_move rfl (evT hv22) (hK _ _ (Below.refl _ _) rfl)⟩
    · obtain rfl := Option.some.inj (show some _ = some o from ho)
      obtain ⟨_, hv23, rfl⟩ : ∃ v, a.tmps[75]? = some v ∧ v = .bool false := dep ⟨23, .guard⟩ (by simp [ops_edA]) rfl 75 rfl
      exact .inl ⟨wantG (b := false) rfl (show ((ops_edA[23]?).bind (·.dst)) = some 75 from rfl) hv23, fun K hK => mo_move rfl e8 (hK _ _ (Below.refl _ _) rfl)⟩
    · obtain rfl := Option.some.inj (show some _ = some o from ho)
      obtain ⟨_, hv23, rfl⟩ : ∃ v, a.tmps[75]? = some v ∧ v = .bool false := dep ⟨23, .guard⟩ (by simp [ops_edA]) rfl 75 rfl
      exact .inl ⟨wantG (b := false) rfl (show ((ops_edA[23]?).bind (·.dst)) = some 75 from rfl) hv23, fun K hK => mo_move rfl e1 (hK _ _ (Below.refl _ _) rfl)⟩
    · obtain rfl := Option.some.inj (show some _ = some o from ho)
      obtain ⟨_, hv24, rfl⟩ : ∃ v, a.tmps[76]? = some v ∧ v = cv := dep ⟨24, .data⟩ (by simp [ops_edA]) rfl 76 rfl
      obtain ⟨_, hv25, rfl⟩ : ∃ v, a.tmps[77]? = some v ∧ v = bv := dep ⟨25, .data⟩ (by simp [ops_edA]) rfl 77 rfl
      obtain ⟨_, hv23, rfl⟩ : ∃ v, a.tmps[75]? = some v ∧ v = .bool false := dep ⟨23, .guard⟩ (by simp [ops_edA]) rfl 75 rfl
      exact .inl ⟨wantG (b := false) rfl (show ((ops_edA[23]?).bind (·.dst)) = some 75 from rfl) hv23, fun K hK => mo_call2 18 rfl (evT hv24) (evT hv25) (enters_of (P := Tryz.prog) Tryz.func18 (by kernel_rfl) rfl) (hC26 w hR) (fun v w' h => hK v w' h.2 h.1)⟩
    · obtain rfl := Option.some.inj (show some _ = some o from ho)
      obtain ⟨_, hv26, rfl⟩ : ∃ v, a.tmps[78]? = some v ∧ v = .bool true := dep ⟨26, .data⟩ (by simp [ops_edA]) rfl 78 rfl
      obtain ⟨_, hv23, rfl⟩ : ∃ v, a.tmps[75]? = some v ∧ v = .bool false := dep ⟨23, .guard⟩ (by simp [ops_edA]) rfl 75 rfl
      exact .inl ⟨wantG (b := false) rfl (show ((ops_edA[23]?).bind (·.dst)) = some 75 from rfl) hv23, fun K hK => mo_not rfl (evT hv26) (hK _ _ (Below.refl _ _) rfl)⟩
    · obtain rfl := Option.some.inj (show some _ = some o from ho)
      obtain ⟨_, hv23, rfl⟩ : ∃ v, a.tmps[75]? = some v ∧ v = .bool false := dep ⟨23, .data⟩ (by simp [ops_edA]) rfl 75 rfl
      obtain ⟨_, hv27, rfl⟩ : ∃ v, a.tmps[79]? = some v ∧ v = .bool false := dep ⟨27, .data⟩ (by simp [ops_edA]) rfl 79 rfl
      exact .inl ⟨wantN rfl, fun K hK => mo_pick rfl (evT hv23) rfl (evT hv27) rfl (hK _ _ (Below.refl _ _) rfl)⟩
def ops_edB : Array Oper := #[
  { dst := some 95, op := Op.move (Operand.tmp 9), type := 40, pos := "law.go:81", after := #[], guard := none },
  { dst := some 96, op := Op.call { callee := Callee.value (Operand.func 24), args := #[Operand.tmp 95], argTypes := #[40] }, type := 9, pos := "law.go:81", after := #[{ on := 0, ground := Ground.data }], guard := none },
  { dst := some 97, op := Op.load 43 (Operand.tmp 12), type := 43, pos := "law.go:81", after := #[], guard := none },
  { dst := some 98, op := Op.call { callee := Callee.value (Operand.func 25), args := #[Operand.tmp 97], argTypes := #[43] }, type := 9, pos := "law.go:81", after := #[{ on := 2, ground := Ground.data }, { on := 1, ground := Ground.chain }], guard := none },
  { dst := some 99, op := Op.binOp BinOp.eql 9 (Operand.tmp 96) (Operand.tmp 98) 9, type := 4, pos := "law.go:81", after := #[{ on := 1, ground := Ground.data }, { on := 3, ground := Ground.data }], guard := none },
  { dst := some 100, op := Op.move (Operand.tmp 99), type := 4, pos := "law.go:81", after := #[{ on := 4, ground := Ground.data }, { on := 3, ground := Ground.chain }], guard := none },
  { dst := some 101, op := Op.move (Operand.tmp 9), type := 40, pos := "law.go:81", after := #[{ on := 5, ground := Ground.guard }], guard := some (5, true) },
  { dst := some 102, op := Op.call { callee := Callee.value (Operand.func 27), args := #[Operand.tmp 101], argTypes := #[40] }, type := 55, pos := "law.go:81", after := #[{ on := 6, ground := Ground.data }, { on := 5, ground := Ground.chain }, { on := 5, ground := Ground.guard }], guard := some (5, true) },
  { dst := some 103, op := Op.load 43 (Operand.tmp 12), type := 43, pos := "law.go:81", after := #[{ on := 5, ground := Ground.guard }], guard := some (5, true) },
  { dst := some 104, op := Op.call { callee := Callee.value (Operand.func 28), args := #[Operand.tmp 103], argTypes := #[43] }, type := 55, pos := "law.go:81", after := #[{ on := 8, ground := Ground.data }, { on := 7, ground := Ground.chain }, { on := 5, ground := Ground.guard }], guard := some (5, true) },
  { dst := some 105, op := Op.call { callee := Callee.value (Operand.func 26), args := #[Operand.tmp 102, Operand.tmp 104], argTypes := #[55, 55] }, type := 4, pos := "law.go:81", after := #[{ on := 7, ground := Ground.data }, { on := 9, ground := Ground.data }, { on := 9, ground := Ground.chain }, { on := 5, ground := Ground.guard }], guard := some (5, true) },
  { dst := some 106, op := Op.pick (Operand.tmp 100) (Operand.tmp 105) (Operand.const (Value.bool false)), type := 4, pos := "law.go:81", after := #[{ on := 5, ground := Ground.data }, { on := 10, ground := Ground.data }], guard := none },
  { dst := some 107, op := Op.move (Operand.tmp 106), type := 4, pos := "law.go:81", after := #[{ on := 11, ground := Ground.data }, { on := 10, ground := Ground.chain }], guard := none },
  { dst := some 108, op := Op.move (Operand.tmp 9), type := 40, pos := "law.go:81", after := #[{ on := 12, ground := Ground.guard }], guard := some (12, true) },
  { dst := some 109, op := Op.call { callee := Callee.value (Operand.func 29), args := #[Operand.tmp 108], argTypes := #[40] }, type := 3, pos := "law.go:81", after := #[{ on := 13, ground := Ground.data }, { on := 12, ground := Ground.chain }, { on := 12, ground := Ground.guard }], guard := some (12, true) },
  { dst := some 110, op := Op.fieldAddr 43 (Operand.tmp 12) 1, type := 0, pos := "law.go:81", after := #[{ on := 12, ground := Ground.guard }], guard := some (12, true) },
  { dst := some 111, op := Op.load 3 (Operand.tmp 110), type := 3, pos := "law.go:81", after := #[{ on := 15, ground := Ground.data }, { on := 12, ground := Ground.guard }], guard := some (12, true) },
  { dst := some 112, op := Op.binOp BinOp.eql 3 (Operand.tmp 109) (Operand.tmp 111) 3, type := 4, pos := "law.go:81", after := #[{ on := 14, ground := Ground.data }, { on := 16, ground := Ground.data }, { on := 12, ground := Ground.guard }], guard := some (12, true) },
  { dst := some 113, op := Op.pick (Operand.tmp 107) (Operand.tmp 112) (Operand.const (Value.bool false)), type := 4, pos := "law.go:81", after := #[{ on := 12, ground := Ground.data }, { on := 17, ground := Ground.data }], guard := none },
  { dst := some 4, op := Op.assign (Operand.tmp 113), type := 4, pos := "law.go:81", after := #[{ on := 18, ground := Ground.data }, { on := 14, ground := Ground.chain }, { on := 0, ground := Ground.phase }, { on := 1, ground := Ground.phase }, { on := 2, ground := Ground.phase }, { on := 3, ground := Ground.phase }, { on := 4, ground := Ground.phase }, { on := 5, ground := Ground.phase }, { on := 6, ground := Ground.phase }, { on := 7, ground := Ground.phase }, { on := 8, ground := Ground.phase }, { on := 9, ground := Ground.phase }, { on := 10, ground := Ground.phase }, { on := 11, ground := Ground.phase }, { on := 12, ground := Ground.phase }, { on := 13, ground := Ground.phase }, { on := 14, ground := Ground.phase }, { on := 15, ground := Ground.phase }, { on := 16, ground := Ground.phase }, { on := 17, ground := Ground.phase }, { on := 18, ground := Ground.phase }], guard := none }]
def dst_edB (i : Nat) : Option Nat := (ops_edB[i]?).bind (·.dst)
theorem inj_edB : ∀ i, i < 20 → ∀ k, k < 20 → dst_edB i ≠ none → dst_edB i = dst_edB k → i = k := by decide +kernel
theorem lt_edB : ∀ i, i < 20 → (dst_edB i).getD 0 < 114 := by decide +kernel
theorem low_edB : ∀ i : Fin 20, ∀ e ∈ (ops_edB[i.1]'(by exact i.2)).after, Region.binds .any e = true → e.on < i.1 := by decide +kernel
def pv_edB (mv : Value) (lb mb : Nat) (nx : Int) (rs : List Stz) (T : ByteArray) : List (Value → World → Prop) := [
  fun v w => v = .pointer (some ⟨lb, 0, none⟩),
  fun v w => v = .string T,
  fun v w => v = .agg #[mv, .int .i64 nx],
  fun v w => v = .string T,
  fun v w => v = .bool true,
  fun v w => v = .bool true,
  fun v w => v = .pointer (some ⟨lb, 0, none⟩),
  fun v w => Szs w v rs,
  fun v w => v = .agg #[mv, .int .i64 nx],
  fun v w => Szs w v rs,
  fun v w => v = .bool true,
  fun v w => v = .bool true,
  fun v w => v = .bool true,
  fun v w => v = .pointer (some ⟨lb, 0, none⟩),
  fun v w => v = .int .i64 nx,
  fun v w => v = .pointer (some ⟨mb, 1, none⟩),
  fun v w => v = .int .i64 nx,
  fun v w => v = .bool true,
  fun v w => v = .bool true,
  fun v w => v = .bool true]
set_option maxRecDepth 100000 in
set_option maxHeartbeats 4000000 in
theorem region_edB (a0 : Act) (w0 : World) (mv : Value) (lb mb : Nat) (nx : Int) (rs : List Stz) (T : ByteArray) (Q : Exit → Act → World → Prop)
    (hsz : a0.tmps.size = 114) (h9 : a0.tmps[9]? = some (.pointer (some ⟨lb, 0, none⟩))) (h12 : a0.tmps[12]? = some (.pointer (some ⟨mb, 0, none⟩)))
    (hM : ∀ W, Below w0.heap.size w0 W → W.cell? ⟨mb, 0, none⟩ = some mv ∧ W.cell? ⟨mb, 1, none⟩ = some (.int .i64 nx))
    (hC1 : ∀ (W : World) (_ : Below w0.heap.size w0 W), Calls Tryz.prog 24 #[.pointer (some ⟨lb, 0, none⟩)] W fun e w => ∃ v, e = .returned v ∧ (v = .string T) ∧ Below W.heap.size W w)
    (hC3 : ∀ (W : World) (_ : Below w0.heap.size w0 W), Calls Tryz.prog 25 #[.agg #[mv, .int .i64 nx]] W fun e w => ∃ v, e = .returned v ∧ (v = .string T) ∧ Below W.heap.size W w)
    (hC7 : ∀ (W : World) (_ : Below w0.heap.size w0 W), Calls Tryz.prog 27 #[.pointer (some ⟨lb, 0, none⟩)] W fun e w => ∃ v, e = .returned v ∧ (Szs w v rs) ∧ Below W.heap.size W w)
    (hC9 : ∀ (W : World) (_ : Below w0.heap.size w0 W), Calls Tryz.prog 28 #[.agg #[mv, .int .i64 nx]] W fun e w => ∃ v, e = .returned v ∧ (Szs w v rs) ∧ Below W.heap.size W w)
    (hC10 : ∀ (W : World) (_ : Below w0.heap.size w0 W) (z7 : Value) (_ : (fun (v : Value) (w : World) => Szs w v rs) z7 W) (z9 : Value) (_ : (fun (v : Value) (w : World) => Szs w v rs) z9 W), Calls Tryz.prog 26 #[z7, z9] W fun e w => ∃ v, e = .returned v ∧ (v = .bool true) ∧ Below W.heap.size W w)
    (hC14 : ∀ (W : World) (_ : Below w0.heap.size w0 W), Calls Tryz.prog 29 #[.pointer (some ⟨lb, 0, none⟩)] W fun e w => ∃ v, e = .returned v ∧ (v = .int .i64 nx) ∧ Below W.heap.size W w)
    (hQ : ∀ (y0 y1 y2 y3 y4 y5 y6 y7 y8 y9 y10 y11 y12 y13 y14 y15 y16 y17 y18 y19 : Value) (w : World), Below w0.heap.size w0 w → ((fun (v : Value) (w : World) => v = .bool true) y19 w) → Q .normal { a0 with tmps := [(95, y0), (96, y1), (97, y2), (98, y3), (99, y4), (100, y5), (101, y6), (102, y7), (103, y8), (104, y9), (105, y10), (106, y11), (107, y12), (108, y13), (109, y14), (110, y15), (111, y16), (112, y17), (113, y18), (4, y19)].foldl (fun u p => u.setIfInBounds p.1 p.2) a0.tmps } w) :
    wpAny Tryz.prog .any ops_edB Q ops_edB.size (Array.replicate ops_edB.size false) a0 w0 := by
  have M : AllM (pv_edB mv lb mb nx rs T) := ⟨fun _ _ _ _ => id, fun _ _ _ _ => id, fun _ _ _ _ => id, fun _ _ _ _ => id, fun _ _ _ _ => id, fun _ _ _ _ => id, fun _ _ _ _ => id, fun v x y hb h => h.below hb (Nat.le_refl _), fun _ _ _ _ => id, fun v x y hb h => h.below hb (Nat.le_refl _), fun _ _ _ _ => id, fun _ _ _ _ => id, fun _ _ _ _ => id, fun _ _ _ _ => id, fun _ _ _ _ => id, fun _ _ _ _ => id, fun _ _ _ _ => id, fun _ _ _ _ => id, fun _ _ _ _ => id, fun _ _ _ _ => id, trivial⟩
  refine wpAny_mono a0 w0 dst_edB (pvL (pv_edB mv lb mb nx rs T)) (fun x y => Below x.heap.size x y) (Below.refl _ _) (fun x y h g => h.trans (g.mono h.size)) (fun i v x y _ g h => pvL_mono M g h)
    (fun i o ho => by unfold dst_edB; rw [ho]; rfl)
    (fun i k d hi hk h1 h2 => inj_edB i hi k hk (by rw [h1]; intro q; cases q) (by rw [h1, h2]))
    (fun i d hi h => by have := lt_edB i hi; rw [h] at this; rw [hsz]; exact this)
    (fun i o e ho he hb => by
      obtain ⟨hi, rfl⟩ := Array.getElem?_eq_some_iff.1 ho
      exact low_edB ⟨i, hi⟩ e he hb)
    ?step (fun w _ => Below.refl _ _) ?fin
  case fin =>
    intro a w hd hs hf hv hR
    obtain ⟨y0, hy0, pv0⟩ := hv 0 95 (by decide) rfl
    obtain ⟨y1, hy1, pv1⟩ := hv 1 96 (by decide) rfl
    obtain ⟨y2, hy2, pv2⟩ := hv 2 97 (by decide) rfl
    obtain ⟨y3, hy3, pv3⟩ := hv 3 98 (by decide) rfl
    obtain ⟨y4, hy4, pv4⟩ := hv 4 99 (by decide) rfl
    obtain ⟨y5, hy5, pv5⟩ := hv 5 100 (by decide) rfl
    obtain ⟨y6, hy6, pv6⟩ := hv 6 101 (by decide) rfl
    obtain ⟨y7, hy7, pv7⟩ := hv 7 102 (by decide) rfl
    obtain ⟨y8, hy8, pv8⟩ := hv 8 103 (by decide) rfl
    obtain ⟨y9, hy9, pv9⟩ := hv 9 104 (by decide) rfl
    obtain ⟨y10, hy10, pv10⟩ := hv 10 105 (by decide) rfl
    obtain ⟨y11, hy11, pv11⟩ := hv 11 106 (by decide) rfl
    obtain ⟨y12, hy12, pv12⟩ := hv 12 107 (by decide) rfl
    obtain ⟨y13, hy13, pv13⟩ := hv 13 108 (by decide) rfl
    obtain ⟨y14, hy14, pv14⟩ := hv 14 109 (by decide) rfl
    obtain ⟨y15, hy15, pv15⟩ := hv 15 110 (by decide) rfl
    obtain ⟨y16, hy16, pv16⟩ := hv 16 111 (by decide) rfl
    obtain ⟨y17, hy17, pv17⟩ := hv 17 112 (by decide) rfl
    obtain ⟨y18, hy18, pv18⟩ := hv 18 113 (by decide) rfl
    obtain ⟨y19, hy19, pv19⟩ := hv 19 4 (by decide) rfl
    rw [act_set' (a := a) (a0 := a0) [(95, y0), (96, y1), (97, y2), (98, y3), (99, y4), (100, y5), (101, y6), (102, y7), (103, y8), (104, y9), (105, y10), (106, y11), (107, y12), (108, y13), (109, y14), (110, y15), (111, y16), (112, y17), (113, y18), (4, y19)] hd hs (by
      intro p hp
      simp only [List.mem_cons, List.not_mem_nil, or_false] at hp
      rcases hp with rfl | rfl | rfl | rfl | rfl | rfl | rfl | rfl | rfl | rfl | rfl | rfl | rfl | rfl | rfl | rfl | rfl | rfl | rfl | rfl
      · exact hy0
      · exact hy1
      · exact hy2
      · exact hy3
      · exact hy4
      · exact hy5
      · exact hy6
      · exact hy7
      · exact hy8
      · exact hy9
      · exact hy10
      · exact hy11
      · exact hy12
      · exact hy13
      · exact hy14
      · exact hy15
      · exact hy16
      · exact hy17
      · exact hy18
      · exact hy19
      ) (fun j hj => hf j (fun k hk q => hj (by
        have : ∀ k, k < 20 → (dst_edB k).all (fun d => [95, 96, 97, 98, 99, 100, 101, 102, 103, 104, 105, 106, 107, 108, 109, 110, 111, 112, 113, 4].contains d) = true := by decide +kernel
        have h1 := this k hk
        rw [q] at h1
        simpa using h1)))]
    exact hQ y0 y1 y2 y3 y4 y5 y6 y7 y8 y9 y10 y11 y12 y13 y14 y15 y16 y17 y18 y19 w hR pv19
  case step =>
    intro i o a w ho hs hf dep hR
    have hi : i < 20 := (Array.getElem?_eq_some_iff.1 ho).1
    have e9 := evT ((hf 9 (by decide +kernel)).trans h9)
    have e12 := evT ((hf 12 (by decide +kernel)).trans h12)
    rcases (by omega : i = 0 ∨ i = 1 ∨ i = 2 ∨ i = 3 ∨ i = 4 ∨ i = 5 ∨ i = 6 ∨ i = 7 ∨ i = 8 ∨ i = 9 ∨ i = 10 ∨ i = 11 ∨ i = 12 ∨ i = 13 ∨ i = 14 ∨ i = 15 ∨ i = 16 ∨ i = 17 ∨ i = 18 ∨ i = 19) with rfl | rfl | rfl | rfl | rfl | rfl | rfl | rfl | rfl | rfl | rfl | rfl | rfl | rfl | rfl | rfl | rfl | rfl | rfl | rfl
    · obtain rfl := Option.some.inj (show some _ = some o from ho)
      exact .inl ⟨wantN rfl, fun K hK => mo_move rfl e9 (hK _ _ (Below.refl _ _) rfl)⟩
    · obtain rfl := Option.some.inj (show some _ = some o from ho)
      obtain ⟨_, hv0, rfl⟩ : ∃ v, a.tmps[95]? = some v ∧ v = .pointer (some ⟨lb, 0, none⟩) := dep ⟨0, .data⟩ (by simp [ops_edB]) rfl 95 rfl
      exact .inl ⟨wantN rfl, fun K hK => mo_call1 24 rfl (evT hv0) (enters_of (P := Tryz.prog) Tryz.func24 (by kernel_rfl) rfl) (hC1 w hR) (fun v w' h => hK v w' h.2 h.1)⟩
    · obtain rfl := Option.some.inj (show some _ = some o from ho)
      exact .inl ⟨wantN rfl, fun K hK => mo_load (load_lst (hM w hR).1 (hM w hR).2) rfl e12 (hK _ _ (Below.refl _ _) rfl)⟩
    · obtain rfl := Option.some.inj (show some _ = some o from ho)
      obtain ⟨_, hv2, rfl⟩ : ∃ v, a.tmps[97]? = some v ∧ v = .agg #[mv, .int .i64 nx] := dep ⟨2, .data⟩ (by simp [ops_edB]) rfl 97 rfl
      exact .inl ⟨wantN rfl, fun K hK => mo_call1 25 rfl (evT hv2) (enters_of (P := Tryz.prog) Tryz.func25 (by kernel_rfl) rfl) (hC3 w hR) (fun v w' h => hK v w' h.2 h.1)⟩
    · obtain rfl := Option.some.inj (show some _ = some o from ho)
      obtain ⟨_, hv1, rfl⟩ : ∃ v, a.tmps[96]? = some v ∧ v = .string T := dep ⟨1, .data⟩ (by simp [ops_edB]) rfl 96 rfl
      obtain ⟨_, hv3, rfl⟩ : ∃ v, a.tmps[98]? = some v ∧ v = .string T := dep ⟨3, .data⟩ (by simp [ops_edB]) rfl 98 rfl
      exact .inl ⟨wantN rfl, fun K hK => mo_eqlS rfl (evT hv1) (evT hv3) (hK _ _ (Below.refl _ _) (congrArg Value.bool (by simp)))⟩
    · obtain rfl := Option.some.inj (show some _ = some o from ho)
      obtain ⟨_, hv4, rfl⟩ : ∃ v, a.tmps[99]? = some v ∧ v = .bool true := dep ⟨4, .data⟩ (by simp [ops_edB]) rfl 99 rfl
      exact .inl ⟨wantN rfl, fun K hK => mo_move rfl (evT hv4) (hK _ _ (Below.refl _ _) rfl)⟩
    · obtain rfl := Option.some.inj (show some _ = some o from ho)
      obtain ⟨_, hv5, rfl⟩ : ∃ v, a.tmps[100]? = some v ∧ v = .bool true := dep ⟨5, .guard⟩ (by simp [ops_edB]) rfl 100 rfl
      exact .inl ⟨wantG (b := true) rfl (show ((ops_edB[5]?).bind (·.dst)) = some 100 from rfl) hv5, fun K hK => mo_move rfl e9 (hK _ _ (Below.refl _ _) rfl)⟩
    · obtain rfl := Option.some.inj (show some _ = some o from ho)
      obtain ⟨_, hv6, rfl⟩ : ∃ v, a.tmps[101]? = some v ∧ v = .pointer (some ⟨lb, 0, none⟩) := dep ⟨6, .data⟩ (by simp [ops_edB]) rfl 101 rfl
      obtain ⟨_, hv5, rfl⟩ : ∃ v, a.tmps[100]? = some v ∧ v = .bool true := dep ⟨5, .guard⟩ (by simp [ops_edB]) rfl 100 rfl
      exact .inl ⟨wantG (b := true) rfl (show ((ops_edB[5]?).bind (·.dst)) = some 100 from rfl) hv5, fun K hK => mo_call1 27 rfl (evT hv6) (enters_of (P := Tryz.prog) Tryz.func27 (by kernel_rfl) rfl) (hC7 w hR) (fun v w' h => hK v w' h.2 h.1)⟩
    · obtain rfl := Option.some.inj (show some _ = some o from ho)
      obtain ⟨_, hv5, rfl⟩ : ∃ v, a.tmps[100]? = some v ∧ v = .bool true := dep ⟨5, .guard⟩ (by simp [ops_edB]) rfl 100 rfl
      exact .inl ⟨wantG (b := true) rfl (show ((ops_edB[5]?).bind (·.dst)) = some 100 from rfl) hv5, fun K hK => mo_load (load_lst (hM w hR).1 (hM w hR).2) rfl e12 (hK _ _ (Below.refl _ _) rfl)⟩
    · obtain rfl := Option.some.inj (show some _ = some o from ho)
      obtain ⟨_, hv8, rfl⟩ : ∃ v, a.tmps[103]? = some v ∧ v = .agg #[mv, .int .i64 nx] := dep ⟨8, .data⟩ (by simp [ops_edB]) rfl 103 rfl
      obtain ⟨_, hv5, rfl⟩ : ∃ v, a.tmps[100]? = some v ∧ v = .bool true := dep ⟨5, .guard⟩ (by simp [ops_edB]) rfl 100 rfl
      exact .inl ⟨wantG (b := true) rfl (show ((ops_edB[5]?).bind (·.dst)) = some 100 from rfl) hv5, fun K hK => mo_call1 28 rfl (evT hv8) (enters_of (P := Tryz.prog) Tryz.func28 (by kernel_rfl) rfl) (hC9 w hR) (fun v w' h => hK v w' h.2 h.1)⟩
    · obtain rfl := Option.some.inj (show some _ = some o from ho)
      obtain ⟨z7, hv7, pv7⟩ : ∃ v, a.tmps[102]? = some v ∧ (fun (v : Value) (w : World) => Szs w v rs) v w := dep ⟨7, .data⟩ (by simp [ops_edB]) rfl 102 rfl
      obtain ⟨z9, hv9, pv9⟩ : ∃ v, a.tmps[104]? = some v ∧ (fun (v : Value) (w : World) => Szs w v rs) v w := dep ⟨9, .data⟩ (by simp [ops_edB]) rfl 104 rfl
      obtain ⟨_, hv5, rfl⟩ : ∃ v, a.tmps[100]? = some v ∧ v = .bool true := dep ⟨5, .guard⟩ (by simp [ops_edB]) rfl 100 rfl
      exact .inl ⟨wantG (b := true) rfl (show ((ops_edB[5]?).bind (·.dst)) = some 100 from rfl) hv5, fun K hK => mo_call2 26 rfl (evT hv7) (evT hv9) (enters_of (P := Tryz.prog) Tryz.func26 (by kernel_rfl) rfl) (hC10 w hR _ pv7 _ pv9) (fun v w' h => hK v w' h.2 h.1)⟩
    · obtain rfl := Option.some.inj (show some _ = some o from ho)
      obtain ⟨_, hv5, rfl⟩ : ∃ v, a.tmps[100]? = some v ∧ v = .bool true := dep ⟨5, .data⟩ (by simp [ops_edB]) rfl 100 rfl
      obtain ⟨_, hv10, rfl⟩ : ∃ v, a.tmps[105]? = some v ∧ v = .bool true := dep ⟨10, .data⟩ (by simp [ops_edB]) rfl 105 rfl
      exact .inl ⟨wantN rfl, fun K hK => mo_pick rfl (evT hv5) (evT hv10) rfl rfl (hK _ _ (Below.refl _ _) rfl)⟩
    · obtain rfl := Option.some.inj (show some _ = some o from ho)
      obtain ⟨_, hv11, rfl⟩ : ∃ v, a.tmps[106]? = some v ∧ v = .bool true := dep ⟨11, .data⟩ (by simp [ops_edB]) rfl 106 rfl
      exact .inl ⟨wantN rfl, fun K hK => mo_move rfl (evT hv11) (hK _ _ (Below.refl _ _) rfl)⟩
    · obtain rfl := Option.some.inj (show some _ = some o from ho)
      obtain ⟨_, hv12, rfl⟩ : ∃ v, a.tmps[107]? = some v ∧ v = .bool true := dep ⟨12, .guard⟩ (by simp [ops_edB]) rfl 107 rfl
      exact .inl ⟨wantG (b := true) rfl (show ((ops_edB[12]?).bind (·.dst)) = some 107 from rfl) hv12, fun K hK => mo_move rfl e9 (hK _ _ (Below.refl _ _) rfl)⟩
    · obtain rfl := Option.some.inj (show some _ = some o from ho)
      obtain ⟨_, hv13, rfl⟩ : ∃ v, a.tmps[108]? = some v ∧ v = .pointer (some ⟨lb, 0, none⟩) := dep ⟨13, .data⟩ (by simp [ops_edB]) rfl 108 rfl
      obtain ⟨_, hv12, rfl⟩ : ∃ v, a.tmps[107]? = some v ∧ v = .bool true := dep ⟨12, .guard⟩ (by simp [ops_edB]) rfl 107 rfl
      exact .inl ⟨wantG (b := true) rfl (show ((ops_edB[12]?).bind (·.dst)) = some 107 from rfl) hv12, fun K hK => mo_call1 29 rfl (evT hv13) (enters_of (P := Tryz.prog) Tryz.func29 (by kernel_rfl) rfl) (hC14 w hR) (fun v w' h => hK v w' h.2 h.1)⟩
    · obtain rfl := Option.some.inj (show some _ = some o from ho)
      obtain ⟨_, hv12, rfl⟩ : ∃ v, a.tmps[107]? = some v ∧ v = .bool true := dep ⟨12, .guard⟩ (by simp [ops_edB]) rfl 107 rfl
      exact .inl ⟨wantG (b := true) rfl (show ((ops_edB[12]?).bind (·.dst)) = some 107 from rfl) hv12, fun K hK => mo_field field_lst rfl e12 (hK _ _ (Below.refl _ _) rfl)⟩
    · obtain rfl := Option.some.inj (show some _ = some o from ho)
      obtain ⟨_, hv15, rfl⟩ : ∃ v, a.tmps[110]? = some v ∧ v = .pointer (some ⟨mb, 1, none⟩) := dep ⟨15, .data⟩ (by simp [ops_edB]) rfl 110 rfl
      obtain ⟨_, hv12, rfl⟩ : ∃ v, a.tmps[107]? = some v ∧ v = .bool true := dep ⟨12, .guard⟩ (by simp [ops_edB]) rfl 107 rfl
      exact .inl ⟨wantG (b := true) rfl (show ((ops_edB[12]?).bind (·.dst)) = some 107 from rfl) hv12, fun K hK => mo_load (load_int (hM w hR).2) rfl (evT hv15) (hK _ _ (Below.refl _ _) rfl)⟩
    · obtain rfl := Option.some.inj (show some _ = some o from ho)
      obtain ⟨_, hv14, rfl⟩ : ∃ v, a.tmps[109]? = some v ∧ v = .int .i64 nx := dep ⟨14, .data⟩ (by simp [ops_edB]) rfl 109 rfl
      obtain ⟨_, hv16, rfl⟩ : ∃ v, a.tmps[111]? = some v ∧ v = .int .i64 nx := dep ⟨16, .data⟩ (by simp [ops_edB]) rfl 111 rfl
      obtain ⟨_, hv12, rfl⟩ : ∃ v, a.tmps[107]? = some v ∧ v = .bool true := dep ⟨12, .guard⟩ (by simp [ops_edB]) rfl 107 rfl
      exact .inl ⟨wantG (b := true) rfl (show ((ops_edB[12]?).bind (·.dst)) = some 107 from rfl) hv12, fun K hK => mo_eqlI rfl (evT hv14) (evT hv16) (hK _ _ (Below.refl _ _) (congrArg Value.bool (by simp)))⟩
    · obtain rfl := Option.some.inj (show some _ = some o from ho)
      obtain ⟨_, hv12, rfl⟩ : ∃ v, a.tmps[107]? = some v ∧ v = .bool true := dep ⟨12, .data⟩ (by simp [ops_edB]) rfl 107 rfl
      obtain ⟨_, hv17, rfl⟩ : ∃ v, a.tmps[112]? = some v ∧ v = .bool true := dep ⟨17, .data⟩ (by simp [ops_edB]) rfl 112 rfl
      exact .inl ⟨wantN rfl, fun K hK => mo_pick rfl (evT hv12) (evT hv17) rfl rfl (hK _ _ (Below.refl _ _) rfl)⟩
    · obtain rfl := Option.some.inj (show some _ = some o from ho)
      obtain ⟨_, hv18, rfl⟩ : ∃ v, a.tmps[113]? = some v ∧ v = .bool true := dep ⟨18, .data⟩ (by simp [ops_edB]) rfl 113 rfl
      exact .inl ⟨wantN rfl, fun K hK => mo_assign rfl (evT hv18) (hK _ _ (Below.refl _ _) rfl)⟩
end Go.Proofs.YtflnlenkgbphpaaGreatDoor

