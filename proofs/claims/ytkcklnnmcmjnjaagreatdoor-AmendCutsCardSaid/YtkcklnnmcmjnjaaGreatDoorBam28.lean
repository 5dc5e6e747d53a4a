/- Texts put together: HF. -/
import Derived.Test.YtkcklnnmcmjnjaaGreatDoorBam26
import Derived.Test.YtkcklnnmcmjnjaaGreatDoorBam27
set_option linter.unusedVariables false
namespace Go.Proofs.YtkcklnnmcmjnjaaGreatDoor
open Go.RowKit Go.Shelf

def ops_edk : Array Oper := #[
  { dst := some 16, op := Op.move (Operand.tmp 0), type := 22, pos := "num.go:106", after := #[], guard := none },
  { dst := some 17, op := Op.move (Operand.tmp 5), type := 3, pos := "num.go:106", after := #[], guard := none },
  { dst := some 18, op := Op.indexAddr 22 (Operand.tmp 16) (Operand.tmp 17), type := 0, pos := "num.go:106", after := #[{ on := 0, ground := Ground.data }, { on := 1, ground := Ground.data }], guard := none },
  { dst := some 19, op := Op.fieldAddr 33 (Operand.tmp 18) 0, type := 0, pos := "num.go:106", after := #[{ on := 2, ground := Ground.data }], guard := none },
  { dst := some 20, op := Op.load 3 (Operand.tmp 19), type := 3, pos := "num.go:106", after := #[{ on := 3, ground := Ground.data }], guard := none },
  { dst := some 21, op := Op.move (Operand.tmp 1), type := 22, pos := "num.go:106", after := #[], guard := none },
  { dst := some 22, op := Op.move (Operand.tmp 5), type := 3, pos := "num.go:106", after := #[], guard := none },
  { dst := some 23, op := Op.indexAddr 22 (Operand.tmp 21) (Operand.tmp 22), type := 0, pos := "num.go:106", after := #[{ on := 5, ground := Ground.data }, { on := 6, ground := Ground.data }], guard := none },
  { dst := some 24, op := Op.fieldAddr 33 (Operand.tmp 23) 0, type := 0, pos := "num.go:106", after := #[{ on := 7, ground := Ground.data }], guard := none },
  { dst := some 25, op := Op.load 3 (Operand.tmp 24), type := 3, pos := "num.go:106", after := #[{ on := 8, ground := Ground.data }], guard := none },
  { dst := some 26, op := Op.binOp BinOp.neq 3 (Operand.tmp 20) (Operand.tmp 25) 3, type := 4, pos := "num.go:106", after := #[{ on := 4, ground := Ground.data }, { on := 9, ground := Ground.data }], guard := none },
  { dst := some 27, op := Op.move (Operand.tmp 26), type := 4, pos := "num.go:106", after := #[{ on := 10, ground := Ground.data }], guard := none },
  { dst := some 28, op := Op.move (Operand.tmp 0), type := 22, pos := "num.go:106", after := #[{ on := 11, ground := Ground.guard }], guard := some (11, false) },
  { dst := some 29, op := Op.move (Operand.tmp 5), type := 3, pos := "num.go:106", after := #[{ on := 11, ground := Ground.guard }], guard := some (11, false) },
  { dst := some 30, op := Op.indexAddr 22 (Operand.tmp 28) (Operand.tmp 29), type := 0, pos := "num.go:106", after := #[{ on := 12, ground := Ground.data }, { on := 13, ground := Ground.data }, { on := 11, ground := Ground.guard }], guard := some (11, false) },
  { dst := some 31, op := Op.fieldAddr 33 (Operand.tmp 30) 1, type := 0, pos := "num.go:106", after := #[{ on := 14, ground := Ground.data }, { on := 11, ground := Ground.guard }], guard := some (11, false) },
  { dst := some 32, op := Op.load 3 (Operand.tmp 31), type := 3, pos := "num.go:106", after := #[{ on := 15, ground := Ground.data }, { on := 11, ground := Ground.guard }], guard := some (11, false) },
  { dst := some 33, op := Op.move (Operand.tmp 1), type := 22, pos := "num.go:106", after := #[{ on := 11, ground := Ground.guard }], guard := some (11, false) },
  { dst := some 34, op := Op.move (Operand.tmp 5), type := 3, pos := "num.go:106", after := #[{ on := 11, ground := Ground.guard }], guard := some (11, false) },
  { dst := some 35, op := Op.indexAddr 22 (Operand.tmp 33) (Operand.tmp 34), type := 0, pos := "num.go:106", after := #[{ on := 17, ground := Ground.data }, { on := 18, ground := Ground.data }, { on := 11, ground := Ground.guard }], guard := some (11, false) },
  { dst := some 36, op := Op.fieldAddr 33 (Operand.tmp 35) 1, type := 0, pos := "num.go:106", after := #[{ on := 19, ground := Ground.data }, { on := 11, ground := Ground.guard }], guard := some (11, false) },
  { dst := some 37, op := Op.load 3 (Operand.tmp 36), type := 3, pos := "num.go:106", after := #[{ on := 20, ground := Ground.data }, { on := 11, ground := Ground.guard }], guard := some (11, false) },
  { dst := some 38, op := Op.binOp BinOp.neq 3 (Operand.tmp 32) (Operand.tmp 37) 3, type := 4, pos := "num.go:106", after := #[{ on := 16, ground := Ground.data }, { on := 21, ground := Ground.data }, { on := 11, ground := Ground.guard }], guard := some (11, false) },
  { dst := some 39, op := Op.pick (Operand.tmp 27) (Operand.const (Value.bool true)) (Operand.tmp 38), type := 4, pos := "num.go:106", after := #[{ on := 11, ground := Ground.data }, { on := 22, ground := Ground.data }], guard := none },
  { dst := some 40, op := Op.move (Operand.tmp 39), type := 4, pos := "num.go:106", after := #[{ on := 23, ground := Ground.data }, { on := 11, ground := Ground.chain }], guard := none },
  { dst := some 41, op := Op.move (Operand.tmp 0), type := 22, pos := "num.go:106", after := #[{ on := 24, ground := Ground.guard }], guard := some (24, false) },
  { dst := some 42, op := Op.move (Operand.tmp 5), type := 3, pos := "num.go:106", after := #[{ on := 24, ground := Ground.guard }], guard := some (24, false) },
  { dst := some 43, op := Op.indexAddr 22 (Operand.tmp 41) (Operand.tmp 42), type := 0, pos := "num.go:106", after := #[{ on := 25, ground := Ground.data }, { on := 26, ground := Ground.data }, { on := 24, ground := Ground.guard }], guard := some (24, false) },
  { dst := some 44, op := Op.fieldAddr 33 (Operand.tmp 43) 2, type := 0, pos := "num.go:106", after := #[{ on := 27, ground := Ground.data }, { on := 24, ground := Ground.guard }], guard := some (24, false) },
  { dst := some 45, op := Op.load 31 (Operand.tmp 44), type := 31, pos := "num.go:106", after := #[{ on := 28, ground := Ground.data }, { on := 24, ground := Ground.guard }], guard := some (24, false) },
  { dst := some 46, op := Op.move (Operand.tmp 1), type := 22, pos := "num.go:106", after := #[{ on := 24, ground := Ground.guard }], guard := some (24, false) },
  { dst := some 47, op := Op.move (Operand.tmp 5), type := 3, pos := "num.go:106", after := #[{ on := 24, ground := Ground.guard }], guard := some (24, false) },
  { dst := some 48, op := Op.indexAddr 22 (Operand.tmp 46) (Operand.tmp 47), type := 0, pos := "num.go:106", after := #[{ on := 30, ground := Ground.data }, { on := 31, ground := Ground.data }, { on := 24, ground := Ground.guard }], guard := some (24, false) },
  { dst := some 49, op := Op.fieldAddr 33 (Operand.tmp 48) 2, type := 0, pos := "num.go:106", after := #[{ on := 32, ground := Ground.data }, { on := 24, ground := Ground.guard }], guard := some (24, false) },
  { dst := some 50, op := Op.load 31 (Operand.tmp 49), type := 31, pos := "num.go:106", after := #[{ on := 33, ground := Ground.data }, { on := 24, ground := Ground.guard }], guard := some (24, false) },
  { dst := some 51, op := Op.call { callee := Callee.value (Operand.func 27), args := #[Operand.tmp 45, Operand.tmp 50], argTypes := #[31, 31] }, type := 4, pos := "num.go:106", after := #[{ on := 29, ground := Ground.data }, { on := 34, ground := Ground.data }, { on := 24, ground := Ground.chain }, { on := 24, ground := Ground.guard }], guard := some (24, false) },
  { dst := some 52, op := Op.unOp UnOp.not 4 (Operand.tmp 51), type := 4, pos := "num.go:106", after := #[{ on := 35, ground := Ground.data }, { on := 24, ground := Ground.guard }], guard := some (24, false) },
  { dst := some 53, op := Op.pick (Operand.tmp 40) (Operand.const (Value.bool true)) (Operand.tmp 52), type := 4, pos := "num.go:106", after := #[{ on := 24, ground := Ground.data }, { on := 36, ground := Ground.data }], guard := none }]
def dst_edk (i : Nat) : Option Nat := (ops_edk[i]?).bind (·.dst)
theorem inj_edk : ∀ i, i < 38 → ∀ k, k < 38 → dst_edk i ≠ none → dst_edk i = dst_edk k → i = k := by decide +kernel
theorem lt_edk : ∀ i, i < 38 → (dst_edk i).getD 0 < 55 := by decide +kernel
theorem low_edk : ∀ i : Fin 38, ∀ e ∈ (ops_edk[i.1]'(by exact i.2)).after, Region.binds .any e = true → e.on < i.1 := by decide +kernel
def pv_edk (b off n c b2 off2 n2 c2 j : Nat) (K K2 X X2 : Int) : List (Value → World → Prop) := [
  fun v w => v = .slice (some ⟨b, off, none⟩) n c,
  fun v w => v = .int .i64 (j : Nat),
  fun v w => v = .pointer (some ⟨b, off + j * 3, none⟩),
  fun v w => v = .pointer (some ⟨b, off + j * 3, none⟩),
  fun v w => v = .int .i64 K,
  fun v w => v = .slice (some ⟨b2, off2, none⟩) n2 c2,
  fun v w => v = .int .i64 (j : Nat),
  fun v w => v = .pointer (some ⟨b2, off2 + j * 3, none⟩),
  fun v w => v = .pointer (some ⟨b2, off2 + j * 3, none⟩),
  fun v w => v = .int .i64 K2,
  fun v w => v = .bool true,
  fun v w => v = .bool true,
  fun v w => v = undef,
  fun v w => v = undef,
  fun v w => v = undef,
  fun v w => v = undef,
  fun v w => v = undef,
  fun v w => v = undef,
  fun v w => v = undef,
  fun v w => v = undef,
  fun v w => v = undef,
  fun v w => v = undef,
  fun v w => v = undef,
  fun v w => v = .bool true,
  fun v w => v = .bool true,
  fun v w => v = undef,
  fun v w => v = undef,
  fun v w => v = undef,
  fun v w => v = undef,
  fun v w => v = undef,
  fun v w => v = undef,
  fun v w => v = undef,
  fun v w => v = undef,
  fun v w => v = undef,
  fun v w => v = undef,
  fun v w => v = undef,
  fun v w => v = undef,
  fun v w => v = .bool true]
set_option maxRecDepth 100000 in
set_option maxHeartbeats 4000000 in
theorem region_edk (a0 : Act) (w0 : World) (b off n c b2 off2 n2 c2 j : Nat) (K K2 X X2 : Int) (Q : Exit → Act → World → Prop)
    (hsz : a0.tmps.size = 55) (h0 : a0.tmps[0]? = some (.slice (some ⟨b, off, none⟩) n c)) (h1 : a0.tmps[1]? = some (.slice (some ⟨b2, off2, none⟩) n2 c2)) (h5 : a0.tmps[5]? = some (.int .i64 (j : Nat)))
    (hj : j < n) (hj2 : j < n2) (hE : ∀ W, Below w0.heap.size w0 W → W.cell? ⟨b, off + j * 3, none⟩ = some (.int .i64 K) ∧ W.cell? ⟨b2, off2 + j * 3, none⟩ = some (.int .i64 K2) ∧ W.cell? ⟨b, off + j * 3 + 1, none⟩ = some (.int .i64 X) ∧ W.cell? ⟨b2, off2 + j * 3 + 1, none⟩ = some (.int .i64 X2))
    (hne : (K != K2) = true)
    (hQ : ∀ (y0 y1 y2 y3 y4 y5 y6 y7 y8 y9 y10 y11 y12 y13 y14 y15 y16 y17 y18 y19 y20 y21 y22 y23 y24 y25 y26 y27 y28 y29 y30 y31 y32 y33 y34 y35 y36 y37 : Value) (w : World), Below w0.heap.size w0 w → ((fun (v : Value) (w : World) => v = .bool true) y37 w) → Q .normal { a0 with tmps := [(16, y0), (17, y1), (18, y2), (19, y3), (20, y4), (21, y5), (22, y6), (23, y7), (24, y8), (25, y9), (26, y10), (27, y11), (28, y12), (29, y13), (30, y14), (31, y15), (32, y16), (33, y17), (34, y18), (35, y19), (36, y20), (37, y21), (38, y22), (39, y23), (40, y24), (41, y25), (42, y26), (43, y27), (44, y28), (45, y29), (46, y30), (47, y31), (48, y32), (49, y33), (50, y34), (51, y35), (52, y36), (53, y37)].foldl (fun u p => u.setIfInBounds p.1 p.2) a0.tmps } w) :
    wpAny Tryz.prog .any ops_edk Q ops_edk.size (Array.replicate ops_edk.size false) a0 w0 := by
  have M : AllM (pv_edk b off n c b2 off2 n2 c2 j K K2 X X2) := ⟨fun v x y hb h => h, fun v x y hb h => h, fun v x y hb h => h, fun v x y hb h => h, fun v x y hb h => h, fun v x y hb h => h, fun v x y hb h => h, fun v x y hb h => h, fun v x y hb h => h, fun v x y hb h => h, fun v x y hb h => h, fun v x y hb h => h, fun v x y hb h => h, fun v x y hb h => h, fun v x y hb h => h, fun v x y hb h => h, fun v x y hb h => h, fun v x y hb h => h, fun v x y hb h => h, fun v x y hb h => h, fun v x y hb h => h, fun v x y hb h => h, fun v x y hb h => h, fun v x y hb h => h, fun v x y hb h => h, fun v x y hb h => h, fun v x y hb h => h, fun v x y hb h => h, fun v x y hb h => h, fun v x y hb h => h, fun v x y hb h => h, fun v x y hb h => h, fun v x y hb h => h, fun v x y hb h => h, fun v x y hb h => h, fun v x y hb h => h, fun v x y hb h => h, fun v x y hb h => h, trivial⟩
  refine wpAny_mono a0 w0 dst_edk (pvL (pv_edk b off n c b2 off2 n2 c2 j K K2 X X2)) (fun x y => Below x.heap.size x y) (Below.refl _ _) (fun x y h g => h.trans (g.mono h.size)) (fun i v x y _ g h => pvL_mono M g h)
    (fun i o ho => by unfold dst_edk; rw [ho]; rfl)
    (fun i k d hi hk h1 h2 => inj_edk i hi k hk (by rw [h1]; intro q; cases q) (by rw [h1, h2]))
    (fun i d hi h => by have := lt_edk i hi; rw [h] at this; rw [hsz]; exact this)
    (fun i o e ho he hb => by
      obtain ⟨hi, rfl⟩ := Array.getElem?_eq_some_iff.1 ho
      exact low_edk ⟨i, hi⟩ e he hb)
    ?step (fun w _ => Below.refl _ _) ?fin
  case fin =>
    intro a w hd hs hf hv hR
    obtain ⟨y0, hy0, pv0⟩ := hv 0 16 (by decide) rfl
    obtain ⟨y1, hy1, pv1⟩ := hv 1 17 (by decide) rfl
    obtain ⟨y2, hy2, pv2⟩ := hv 2 18 (by decide) rfl
    obtain ⟨y3, hy3, pv3⟩ := hv 3 19 (by decide) rfl
    obtain ⟨y4, hy4, pv4⟩ := hv 4 20 (by decide) rfl
    obtain ⟨y5, hy5, pv5⟩ := hv 5 21 (by decide) rfl
    obtain ⟨y6, hy6, pv6⟩ := hv 6 22 (by decide) rfl
    obtain ⟨y7, hy7, pv7⟩ := hv 7 23 (by decide) rfl
    obtain ⟨y8, hy8, pv8⟩ := hv 8 24 (by decide) rfl
    obtain ⟨y9, hy9, pv9⟩ := hv 9 25 (by decide) rfl
    obtain ⟨y10, hy10, pv10⟩ := hv 10 26 (by decide) rfl
    obtain ⟨y11, hy11, pv11⟩ := hv 11 27 (by decide) rfl
    obtain ⟨y12, hy12, pv12⟩ := hv 12 28 (by decide) rfl
    obtain ⟨y13, hy13, pv13⟩ := hv 13 29 (by decide) rfl
    obtain ⟨y14, hy14, pv14⟩ := hv 14 30 (by decide) rfl
    obtain ⟨y15, hy15, pv15⟩ := hv 15 31 (by decide) rfl
    obtain ⟨y16, hy16, pv16⟩ := hv 16 32 (by decide) rfl
    obtain ⟨y17, hy17, pv17⟩ := hv 17 33 (by decide) rfl
    obtain ⟨y18, hy18, pv18⟩ := hv 18 34 (by decide) rfl
    obtain ⟨y19, hy19, pv19⟩ := hv 19 35 (by decide) rfl
    obtain ⟨y20, hy20, pv20⟩ := hv 20 36 (by decide) rfl
    obtain ⟨y21, hy21, pv21⟩ := hv 21 37 (by decide) rfl
    obtain ⟨y22, hy22, pv22⟩ := hv 22 38 (by decide) rfl
    obtain ⟨y23, hy23, pv23⟩ := hv 23 39 (by decide) rfl
    obtain ⟨y24, hy24, pv24⟩ := hv 24 40 (by decide) rfl
    obtain ⟨y25, hy25, pv25⟩ := hv 25 41 (by decide) rfl
    obtain ⟨y26, hy26, pv26⟩ := hv 26 42 (by decide) rfl
    obtain ⟨y27, hy27, pv27⟩ := hv 27 43 (by decide) rfl
    obtain ⟨y28, hy28, pv28⟩ := hv 28 44 (by decide) rfl
    obtain ⟨y29, hy29, pv29⟩ := hv 29 45 (by decide) rfl
    obtain ⟨y30, hy30, pv30⟩ := hv 30 46 (by decide) rfl
    obtain ⟨y31, hy31, pv31⟩ := hv 31 47 (by decide) rfl
    obtain ⟨y32, hy32, pv32⟩ := hv 32 48 (by decide) rfl
    obtain ⟨y33, hy33, pv33⟩ := hv 33 49 (by decide) rfl
    obtain ⟨y34, hy34, pv34⟩ := hv 34 50 (by decide) rfl
    obtain ⟨y35, hy35, pv35⟩ := hv 35 51 (by decide) rfl
    obtain ⟨y36, hy36, pv36⟩ := hv 36 52 (by decide) rfl
    obtain ⟨y37, hy37, pv37⟩ := hv 37 53 (by decide) rfl
    rw [act_set' (a := a) (a0 := a0) [(16, y0), (17, y1), (18, y2), (19, y3), (20, y4), (21, y5), (22, y6), (23, y7), (24, y8), (25, y9), (26, y10), (27, y11), (28, y12), (29, y13), (30, y14), (31, y15), (32, y16), (33, y17), (34, y18), (35, y19), (36, y20), (37, y21), (38, y22), (39, y23), (40, y24), (41, y25), (42, y26), (43, y27), (44, y28), (45, y29), (46, y30), (47, y31), (48, y32), (49, y33), (50, y34), (51, y35), (52, y36), (53, y37)] hd hs (by
      intro p hp
      simp only [List.mem_cons, List.not_mem_nil, or_false] at hp
      rcases hp with rfl | rfl | rfl | rfl | rfl | rfl | rfl | rfl | rfl | rfl | rfl | rfl | rfl | rfl | rfl | rfl | rfl | rfl | rfl | rfl | rfl | rfl | rfl | rfl | rfl | rfl | rfl | rfl | rfl | rfl | rfl | rfl | rfl | rfl | rfl | rfl | rfl | rfl
      · exact hy0
      · exact hy1
      · exact hy2
      · exact hy3
      · exact hy4
      · exact hy5
      · exact hy6
      · exact hy7
      · exact hy8
      · exact hy9
      · exact hy10
      · exact hy11
      · exact hy12
      · exact hy13
      · exact hy14
      · exact hy15
      · exact hy16
      · exact hy17
      · exact hy18
      · exact hy19
      · exact hy20
      · exact hy21
      · exact hy22
      · exact hy23
      · exact hy24
      · exact hy25
      · exact hy26
      · exact hy27
      · exact hy28
      · exact hy29
      · exact hy30
      · exact hy31
      · exact hy32
      · exact hy33
      · exact hy34
      · exact hy35
      · exact hy36
      · exact hy37
      ) (fun j hj => hf j (fun k hk q => hj (by
        have : ∀ k, k < 38 → (dst_edk k).all (fun d => [16, 17, 18, 19, 20, 21, 22, 23, 24, 25, 26, 27, 28, 29, 30, 31, 32, 33, 34, 35, 36, 37, 38, 39, 40, 41, 42, 43, 44, 45, 46, 47, 48, 49, 50, 51, 52, 53].contains d) = true := by decide +kernel
        have h1 := this k hk
        rw [q] at h1
        simpa using h1)))]
    exact hQ y0 y1 y2 y3 y4 y5 y6 y7 y8 y9 y10 y11 y12 y13 y14 y15 y16 y17 y18 y19 y20 y21 y22 y23 y24 y25 y26 y27 y28 y29 y30 y31 y32 y33 y34 y35 y36 y37 w hR pv37
  case step =>
    intro i o a w ho hs hf dep hR
    have hi : i < 38 := (Array.getElem?_eq_some_iff.1 ho).1
    have e0 := evT ((hf 0 (by decide +kernel)).trans h0)
    have e1 := evT ((hf 1 (by decide +kernel)).trans h1)
    have e5 := evT ((hf 5 (by decide +kernel)).trans h5)
    rcases (by omega : i = 0 ∨ i = 1 ∨ i = 2 ∨ i = 3 ∨ i = 4 ∨ i = 5 ∨ i = 6 ∨ i = 7 ∨ i = 8 ∨ i = 9 ∨ i = 10 ∨ i = 11 ∨ i = 12 ∨ i = 13 ∨ i = 14 ∨ i = 15 ∨ i = 16 ∨ i = 17 ∨ i = 18 ∨ i = 19 ∨ i = 20 ∨ i = 21 ∨ i = 22 ∨ i = 23 ∨ i = 24 ∨ i = 25 ∨ i = 26 ∨ i = 27 ∨ i = 28 ∨ i = 29 ∨ i = 30 ∨ i = 31 ∨ i = 32 ∨ i = 33 ∨ i = 34 ∨ i = 35 ∨ i = 36 ∨ i = 37) with rfl | rfl | rfl | rfl | rfl | rfl | rfl | rfl | rfl | rfl | rfl | rfl | rfl | rfl | rfl | rfl | rfl | rfl | rfl | rfl | rfl | rfl | rfl | rfl | rfl | rfl | rfl | rfl | rfl | rfl | rfl | rfl | rfl | rfl | rfl | rfl | rfl | rfl
    · have ho2 : some _ = some o := ho
      obtain rfl := Option.some.inj ho2
      exact .inl ⟨wantN rfl, fun K hK => mo_move rfl e0 (hK _ _ (Below.refl _ _) rfl)⟩
    · have ho2 : some _ = some o := ho
      obtain rfl := Option.some.inj ho2
      exact .inl ⟨wantN rfl, fun K hK => mo_move rfl e5 (hK _ _ (Below.refl _ _) rfl)⟩
    · have ho2 : some _ = some o := ho
      obtain rfl := Option.some.inj ho2
      obtain ⟨_, hv0, rfl⟩ : ∃ v, a.tmps[16]? = some v ∧ (fun (v : Value) (w : World) => v = .slice (some ⟨b, off, none⟩) n c) v w := dep ⟨0, Ground.data⟩ (by first | simp | simp [ops_edk]) rfl 16 rfl
      obtain ⟨_, hv1, rfl⟩ : ∃ v, a.tmps[17]? = some v ∧ (fun (v : Value) (w : World) => v = .int .i64 (j : Nat)) v w := dep ⟨1, Ground.data⟩ (by first | simp | simp [ops_edk]) rfl 17 rfl
      exact .inl ⟨wantN rfl, fun K hK => mo_index (idx_eds hj) rfl (evT hv0) (evT hv1) (hK _ _ (Below.refl _ _) rfl)⟩
    · have ho2 : some _ = some o := ho
      obtain rfl := Option.some.inj ho2
      obtain ⟨_, hv2, rfl⟩ : ∃ v, a.tmps[18]? = some v ∧ (fun (v : Value) (w : World) => v = .pointer (some ⟨b, off + j * 3, none⟩)) v w := dep ⟨2, Ground.data⟩ (by first | simp | simp [ops_edk]) rfl 18 rfl
      exact .inl ⟨wantN rfl, fun K hK => mo_field (by simp [go_sem]) rfl (evT hv2) (hK _ _ (Below.refl _ _) rfl)⟩
    · have ho2 : some _ = some o := ho
      obtain rfl := Option.some.inj ho2
      obtain ⟨_, hv3, rfl⟩ : ∃ v, a.tmps[19]? = some v ∧ (fun (v : Value) (w : World) => v = .pointer (some ⟨b, off + j * 3, none⟩)) v w := dep ⟨3, Ground.data⟩ (by first | simp | simp [ops_edk]) rfl 19 rfl
      exact .inl ⟨wantN rfl, fun K hK => mo_load (by simp [go_sem, (hE w hR).1]) rfl (evT hv3) (hK _ _ (Below.refl _ _) rfl)⟩
    · have ho2 : some _ = some o := ho
      obtain rfl := Option.some.inj ho2
      exact .inl ⟨wantN rfl, fun K hK => mo_move rfl e1 (hK _ _ (Below.refl _ _) rfl)⟩
    · have ho2 : some _ = some o := ho
      obtain rfl := Option.some.inj ho2
      exact .inl ⟨wantN rfl, fun K hK => mo_move rfl e5 (hK _ _ (Below.refl _ _) rfl)⟩
    · have ho2 : some _ = some o := ho
      obtain rfl := Option.some.inj ho2
      obtain ⟨_, hv5, rfl⟩ : ∃ v, a.tmps[21]? = some v ∧ (fun (v : Value) (w : World) => v = .slice (some ⟨b2, off2, none⟩) n2 c2) v w := dep ⟨5, Ground.data⟩ (by first | simp | simp [ops_edk]) rfl 21 rfl
      obtain ⟨_, hv6, rfl⟩ : ∃ v, a.tmps[22]? = some v ∧ (fun (v : Value) (w : World) => v = .int .i64 (j : Nat)) v w := dep ⟨6, Ground.data⟩ (by first | simp | simp [ops_edk]) rfl 22 rfl
      exact .inl ⟨wantN rfl, fun K hK => mo_index (idx_eds hj2) rfl (evT hv5) (evT hv6) (hK _ _ (Below.refl _ _) rfl)⟩
    · have ho2 : some _ = some o := ho
      obtain rfl := Option.some.inj ho2
      obtain ⟨_, hv7, rfl⟩ : ∃ v, a.tmps[23]? = some v ∧ (fun (v : Value) (w : World) => v = .pointer (some ⟨b2, off2 + j * 3, none⟩)) v w := dep ⟨7, Ground.data⟩ (by first | simp | simp [ops_edk]) rfl 23 rfl
      exact .inl ⟨wantN rfl, fun K hK => mo_field (by simp [go_sem]) rfl (evT hv7) (hK _ _ (Below.refl _ _) rfl)⟩
    · have ho2 : some _ = some o := ho
      obtain rfl := Option.some.inj ho2
      obtain ⟨_, hv8, rfl⟩ : ∃ v, a.tmps[24]? = some v ∧ (fun (v : Value) (w : World) => v = .pointer (some ⟨b2, off2 + j * 3, none⟩)) v w := dep ⟨8, Ground.data⟩ (by first | simp | simp [ops_edk]) rfl 24 rfl
      exact .inl ⟨wantN rfl, fun K hK => mo_load (by simp [go_sem, (hE w hR).2.1]) rfl (evT hv8) (hK _ _ (Below.refl _ _) rfl)⟩
    · have ho2 : some _ = some o := ho
      obtain rfl := Option.some.inj ho2
      obtain ⟨_, hv4, rfl⟩ : ∃ v, a.tmps[20]? = some v ∧ (fun (v : Value) (w : World) => v = .int .i64 K) v w := dep ⟨4, Ground.data⟩ (by first | simp | simp [ops_edk]) rfl 20 rfl
      obtain ⟨_, hv9, rfl⟩ : ∃ v, a.tmps[25]? = some v ∧ (fun (v : Value) (w : World) => v = .int .i64 K2) v w := dep ⟨9, Ground.data⟩ (by first | simp | simp [ops_edk]) rfl 25 rfl
      exact .inl ⟨wantN rfl, fun K hK => mo_neqI rfl (evT hv4) (evT hv9) (hK _ _ (Below.refl _ _) (congrArg Value.bool (hne)))⟩
    · have ho2 : some _ = some o := ho
      obtain rfl := Option.some.inj ho2
      obtain ⟨_, hv10, rfl⟩ : ∃ v, a.tmps[26]? = some v ∧ (fun (v : Value) (w : World) => v = .bool true) v w := dep ⟨10, Ground.data⟩ (by first | simp | simp [ops_edk]) rfl 26 rfl
      exact .inl ⟨wantN rfl, fun K hK => mo_move rfl (evT hv10) (hK _ _ (Below.refl _ _) rfl)⟩
    · have ho2 : some _ = some o := ho
      obtain rfl := Option.some.inj ho2
      obtain ⟨_, hv11, rfl⟩ : ∃ v, a.tmps[27]? = some v ∧ (fun (v : Value) (w : World) => v = .bool true) v w := dep ⟨11, Ground.guard⟩ (by first | simp | simp [ops_edk]) rfl 27 rfl
      exact .inr ⟨wantU (b := false) rfl (show ((ops_edk[11]?).bind (·.dst)) = some 27 from rfl) hv11, rfl⟩
    · have ho2 : some _ = some o := ho
      obtain rfl := Option.some.inj ho2
      obtain ⟨_, hv11, rfl⟩ : ∃ v, a.tmps[27]? = some v ∧ (fun (v : Value) (w : World) => v = .bool true) v w := dep ⟨11, Ground.guard⟩ (by first | simp | simp [ops_edk]) rfl 27 rfl
      exact .inr ⟨wantU (b := false) rfl (show ((ops_edk[11]?).bind (·.dst)) = some 27 from rfl) hv11, rfl⟩
    · have ho2 : some _ = some o := ho
      obtain rfl := Option.some.inj ho2
      obtain ⟨_, hv11, rfl⟩ : ∃ v, a.tmps[27]? = some v ∧ (fun (v : Value) (w : World) => v = .bool true) v w := dep ⟨11, Ground.guard⟩ (by first | simp | simp [ops_edk]) rfl 27 rfl
      exact .inr ⟨wantU (b := false) rfl (show ((ops_edk[11]?).bind (·.dst)) = some 27 from rfl) hv11, rfl⟩
    · have ho2 : some _ = some o := ho
      obtain rfl := Option.some.inj ho2
      obtain ⟨_, hv11, rfl⟩ : ∃ v, a.tmps[27]? = some v ∧ (fun (v : Value) (w : World) => v = .bool true) v w := dep ⟨11, Ground.guard⟩ (by first | simp | simp [ops_edk]) rfl 27 rfl
      exact .inr ⟨wantU (b := false) rfl (show ((ops_edk[11]?).bind (·.dst)) = some 27 from rfl) hv11, rfl⟩
    · have ho2 : some _ = some o := ho
      obtain rfl := Option.some.inj ho2
      obtain ⟨_, hv11, rfl⟩ : ∃ v, a.tmps[27]? = some v ∧ (fun (v : Value) (w : World) => v = .bool true) v w := dep ⟨11, Ground.guard⟩ (by first | simp | simp [ops_edk]) rfl 27 rfl
      exact .inr ⟨wantU (b := false) rfl (show ((ops_edk[11]?).bind (·.dst)) = some 27 from rfl) hv11, rfl⟩
    · have ho2 : some _ = some o := ho
      obtain rfl := Option.some.inj ho2
      obtain ⟨_, hv11, rfl⟩ : ∃ v, a.tmps[27]? = some v ∧ (fun (v : Value) (w : World) => v = .bool true) v w := dep ⟨11, Ground.guard⟩ (by first | simp | simp [ops_edk]) rfl 27 rfl
      exact .inr ⟨wantU (b := false) rfl (show ((ops_edk[11]?).bind (·.dst)) = some 27 from rfl) hv11, rfl⟩
    · have ho2 : some _ = some o := ho
      obtain rfl := Option.some.inj ho2
      obtain ⟨_, hv11, rfl⟩ : ∃ v, a.tmps[27]? = some v ∧ (fun (v : Value) (w : World) => v = .bool true) v w := dep ⟨11, Ground.guard⟩ (by first | simp | simp [ops_edk]) rfl 27 rfl
      exact .inr ⟨wantU (b := false) rfl (show ((ops_edk[11]?).bind (·.dst)) = some 27 from rfl) hv11, rfl⟩
    · have ho2 : some _ = some o := ho
      obtain rfl := Option.some.inj ho2
      obtain ⟨_, hv11, rfl⟩ : ∃ v, a.tmps[27]? = some v ∧ (fun (v : Value) (w : World) => v = .bool true) v w := dep ⟨11, Ground.guard⟩ (by first | simp | simp [ops_edk]) rfl 27 rfl
      exact .inr ⟨wantU (b := false) rfl (show ((ops_edk[11]?).bind (·.dst)) = some 27 from rfl) hv11, rfl⟩
    · have ho2 : some _ = some o := ho
      obtain rfl := Option.some.inj ho2
      obtain ⟨_, hv11, rfl⟩ : ∃ v, a.tmps[27]? = some v ∧ (fun (v : Value) (w : World) => v = .bool true) v w := dep ⟨11, Ground.guard⟩ (by first | simp | simp [ops_edk]) rfl 27 rfl
      exact .inr ⟨wantU (b := false) rfl (show ((ops_edk[11]?).bind (·.dst)) = some 27 from rfl) hv11, rfl⟩
    · have ho2 : some _ = some o := ho
      obtain rfl := Option.some.inj ho2
      obtain ⟨_, hv11, rfl⟩ : ∃ v, a.tmps[27]? = some v ∧ (fun (v : Value) (w : World) => v = .bool true) v w := dep ⟨11, Ground.guard⟩ (by first | simp | simp [ops_edk]) rfl 27 rfl
      exact .inr ⟨wantU (b := false) rfl (show ((ops_edk[11]?).bind (·.dst)) = some 27 from rfl) hv11, rfl⟩
    · have ho2 : some _ = some o := ho
      obtain rfl := Option.some.inj ho2
      obtain ⟨_, hv11, rfl⟩ : ∃ v, a.tmps[27]? = some v ∧ (fun (v : Value) (w : World) => v = .bool true) v w := dep ⟨11, Ground.guard⟩ (by first | simp | simp [ops_edk]) rfl 27 rfl
      exact .inr ⟨wantU (b := false) rfl (show ((ops_edk[11]?).bind (·.dst)) = some 27 from rfl) hv11, rfl⟩
    · have ho2 : some _ = some o := ho
      obtain rfl := Option.some.inj ho2
      obtain ⟨_, hv11, rfl⟩ : ∃ v, a.tmps[27]? = some v ∧ (fun (v : Value) (w : World) => v = .bool true) v w := dep ⟨11, Ground.data⟩ (by first | simp | simp [ops_edk]) rfl 27 rfl
      obtain ⟨_, hv22, rfl⟩ : ∃ v, a.tmps[38]? = some v ∧ (fun (v : Value) (w : World) => v = undef) v w := dep ⟨22, Ground.data⟩ (by first | simp | simp [ops_edk]) rfl 38 rfl
      exact .inl ⟨wantN rfl, fun K hK => mo_pick rfl (evT hv11) rfl (evT hv22) rfl (hK _ _ (Below.refl _ _) rfl)⟩
    · have ho2 : some _ = some o := ho
      obtain rfl := Option.some.inj ho2
      obtain ⟨_, hv23, rfl⟩ : ∃ v, a.tmps[39]? = some v ∧ (fun (v : Value) (w : World) => v = .bool true) v w := dep ⟨23, Ground.data⟩ (by first | simp | simp [ops_edk]) rfl 39 rfl
      exact .inl ⟨wantN rfl, fun K hK => mo_move rfl (evT hv23) (hK _ _ (Below.refl _ _) rfl)⟩
    · have ho2 : some _ = some o := ho
      obtain rfl := Option.some.inj ho2
      obtain ⟨_, hv24, rfl⟩ : ∃ v, a.tmps[40]? = some v ∧ (fun (v : Value) (w : World) => v = .bool true) v w := dep ⟨24, Ground.guard⟩ (by first | simp | simp [ops_edk]) rfl 40 rfl
      exact .inr ⟨wantU (b := false) rfl (show ((ops_edk[24]?).bind (·.dst)) = some 40 from rfl) hv24, rfl⟩
    · have ho2 : some _ = some o := ho
      obtain rfl := Option.some.inj ho2
      obtain ⟨_, hv24, rfl⟩ : ∃ v, a.tmps[40]? = some v ∧ (fun (v : Value) (w : World) => v = .bool true) v w := dep ⟨24, Ground.guard⟩ (by first | simp | simp [ops_edk]) rfl 40 rfl
      exact .inr ⟨wantU (b := false) rfl (show ((ops_edk[24]?).bind (·.dst)) = some 40 from rfl) hv24, rfl⟩
    · have ho2 : some _ = some o := ho
      obtain rfl := Option.some.inj ho2
      obtain ⟨_, hv24, rfl⟩ : ∃ v, a.tmps[40]? = some v ∧ (fun (v : Value) (w : World) => v = .bool true) v w := dep ⟨24, Ground.guard⟩ (by first | simp | simp [ops_edk]) rfl 40 rfl
      exact .inr ⟨wantU (b := false) rfl (show ((ops_edk[24]?).bind (·.dst)) = some 40 from rfl) hv24, rfl⟩
    · have ho2 : some _ = some o := ho
      obtain rfl := Option.some.inj ho2
      obtain ⟨_, hv24, rfl⟩ : ∃ v, a.tmps[40]? = some v ∧ (fun (v : Value) (w : World) => v = .bool true) v w := dep ⟨24, Ground.guard⟩ (by first | simp | simp [ops_edk]) rfl 40 rfl
      exact .inr ⟨wantU (b := false) rfl (show ((ops_edk[24]?).bind (·.dst)) = some 40 from rfl) hv24, rfl⟩
    · have ho2 : some _ = some o := ho
      obtain rfl := Option.some.inj ho2
      obtain ⟨_, hv24, rfl⟩ : ∃ v, a.tmps[40]? = some v ∧ (fun (v : Value) (w : World) => v = .bool true) v w := dep ⟨24, Ground.guard⟩ (by first | simp | simp [ops_edk]) rfl 40 rfl
      exact .inr ⟨wantU (b := false) rfl (show ((ops_edk[24]?).bind (·.dst)) = some 40 from rfl) hv24, rfl⟩
    · have ho2 : some _ = some o := ho
      obtain rfl := Option.some.inj ho2
      obtain ⟨_, hv24, rfl⟩ : ∃ v, a.tmps[40]? = some v ∧ (fun (v : Value) (w : World) => v = .bool true) v w := dep ⟨24, Ground.guard⟩ (by first | simp | simp [ops_edk]) rfl 40 rfl
      exact .inr ⟨wantU (b := false) rfl (show ((ops_edk[24]?).bind (·.dst)) = some 40 from rfl) hv24, rfl⟩
    · have ho2 : some _ = some o := ho
      obtain rfl := Option.some.inj ho2
      obtain ⟨_, hv24, rfl⟩ : ∃ v, a.tmps[40]? = some v ∧ (fun (v : Value) (w : World) => v = .bool true) v w := dep ⟨24, Ground.guard⟩ (by first | simp | simp [ops_edk]) rfl 40 rfl
      exact .inr ⟨wantU (b := false) rfl (show ((ops_edk[24]?).bind (·.dst)) = some 40 from rfl) hv24, rfl⟩
    · have ho2 : some _ = some o := ho
      obtain rfl := Option.some.inj ho2
      obtain ⟨_, hv24, rfl⟩ : ∃ v, a.tmps[40]? = some v ∧ (fun (v : Value) (w : World) => v = .bool true) v w := dep ⟨24, Ground.guard⟩ (by first | simp | simp [ops_edk]) rfl 40 rfl
      exact .inr ⟨wantU (b := false) rfl (show ((ops_edk[24]?).bind (·.dst)) = some 40 from rfl) hv24, rfl⟩
    · have ho2 : some _ = some o := ho
      obtain rfl := Option.some.inj ho2
      obtain ⟨_, hv24, rfl⟩ : ∃ v, a.tmps[40]? = some v ∧ (fun (v : Value) (w : World) => v = .bool true) v w := dep ⟨24, Ground.guard⟩ (by first | simp | simp [ops_edk]) rfl 40 rfl
      exact .inr ⟨wantU (b := false) rfl (show ((ops_edk[24]?).bind (·.dst)) = some 40 from rfl) hv24, rfl⟩
    · have ho2 : some _ = some o := ho
      obtain rfl := Option.some.inj ho2
      obtain ⟨_, hv24, rfl⟩ : ∃ v, a.tmps[40]? = some v ∧ (fun (v : Value) (w : World) => v = .bool true) v w := dep ⟨24, Ground.guard⟩ (by first | simp | simp [ops_edk]) rfl 40 rfl
      exact .inr ⟨wantU (b := false) rfl (show ((ops_edk[24]?).bind (·.dst)) = some 40 from rfl) hv24, rfl⟩
    · have ho2 : some _ = some o := ho
      obtain rfl := Option.some.inj ho2
      obtain ⟨_, hv24, rfl⟩ : ∃ v, a.tmps[40]? = some v ∧ (fun (v : Value) (w : World) => v = .bool true) v w := dep ⟨24, Ground.guard⟩ (by first | simp | simp [ops_edk]) rfl 40 rfl
      exact .inr ⟨wantU (b := false) rfl (show ((ops_edk[24]?).bind (·.dst)) = some 40 from rfl) hv24, rfl⟩
    · have ho2 : some _ = some o := ho
      obtain rfl := Option.some.inj ho2
      obtain ⟨_, hv24, rfl⟩ : ∃ v, a.tmps[40]? = some v ∧ (fun (v : Value) (w : World) => v = .bool true) v w := dep ⟨24, Ground.guard⟩ (by first | simp | simp [ops_edk]) rfl 40 rfl
      exact .inr ⟨wantU (b := false) rfl (show ((ops_edk[24]?).bind (·.dst)) = some 40 from rfl) hv24, rfl⟩
    · have ho2 : some _ = some o := ho
      obtain rfl := Option.some.inj ho2
      obtain ⟨_, hv24, rfl⟩ : ∃ v, a.tmps[40]? = some v ∧ (fun (v : Value) (w : World) => v = .bool true) v w := dep ⟨24, Ground.data⟩ (by first | simp | simp [ops_edk]) rfl 40 rfl
      obtain ⟨_, hv36, rfl⟩ : ∃ v, a.tmps[52]? = some v ∧ (fun (v : Value) (w : World) => v = undef) v w := dep ⟨36, Ground.data⟩ (by first | simp | simp [ops_edk]) rfl 52 rfl
      exact .inl ⟨wantN rfl, fun K hK => mo_pick rfl (evT hv24) rfl (evT hv36) rfl (hK _ _ (Below.refl _ _) rfl)⟩
def ops_edi : Array Oper := #[
  { dst := some 16, op := Op.move (Operand.tmp 0), type := 22, pos := "num.go:106", after := #[], guard := none },
  { dst := some 17, op := Op.move (Operand.tmp 5), type := 3, pos := "num.go:106", after := #[], guard := none },
  { dst := some 18, op := Op.indexAddr 22 (Operand.tmp 16) (Operand.tmp 17), type := 0, pos := "num.go:106", after := #[{ on := 0, ground := Ground.data }, { on := 1, ground := Ground.data }], guard := none },
  { dst := some 19, op := Op.fieldAddr 33 (Operand.tmp 18) 0, type := 0, pos := "num.go:106", after := #[{ on := 2, ground := Ground.data }], guard := none },
  { dst := some 20, op := Op.load 3 (Operand.tmp 19), type := 3, pos := "num.go:106", after := #[{ on := 3, ground := Ground.data }], guard := none },
  { dst := some 21, op := Op.move (Operand.tmp 1), type := 22, pos := "num.go:106", after := #[], guard := none },
  { dst := some 22, op := Op.move (Operand.tmp 5), type := 3, pos := "num.go:106", after := #[], guard := none },
  { dst := some 23, op := Op.indexAddr 22 (Operand.tmp 21) (Operand.tmp 22), type := 0, pos := "num.go:106", after := #[{ on := 5, ground := Ground.data }, { on := 6, ground := Ground.data }], guard := none },
  { dst := some 24, op := Op.fieldAddr 33 (Operand.tmp 23) 0, type := 0, pos := "num.go:106", after := #[{ on := 7, ground := Ground.data }], guard := none },
  { dst := some 25, op := Op.load 3 (Operand.tmp 24), type := 3, pos := "num.go:106", after := #[{ on := 8, ground := Ground.data }], guard := none },
  { dst := some 26, op := Op.binOp BinOp.neq 3 (Operand.tmp 20) (Operand.tmp 25) 3, type := 4, pos := "num.go:106", after := #[{ on := 4, ground := Ground.data }, { on := 9, ground := Ground.data }], guard := none },
  { dst := some 27, op := Op.move (Operand.tmp 26), type := 4, pos := "num.go:106", after := #[{ on := 10, ground := Ground.data }], guard := none },
  { dst := some 28, op := Op.move (Operand.tmp 0), type := 22, pos := "num.go:106", after := #[{ on := 11, ground := Ground.guard }], guard := some (11, false) },
  { dst := some 29, op := Op.move (Operand.tmp 5), type := 3, pos := "num.go:106", after := #[{ on := 11, ground := Ground.guard }], guard := some (11, false) },
  { dst := some 30, op := Op.indexAddr 22 (Operand.tmp 28) (Operand.tmp 29), type := 0, pos := "num.go:106", after := #[{ on := 12, ground := Ground.data }, { on := 13, ground := Ground.data }, { on := 11, ground := Ground.guard }], guard := some (11, false) },
  { dst := some 31, op := Op.fieldAddr 33 (Operand.tmp 30) 1, type := 0, pos := "num.go:106", after := #[{ on := 14, ground := Ground.data }, { on := 11, ground := Ground.guard }], guard := some (11, false) },
  { dst := some 32, op := Op.load 3 (Operand.tmp 31), type := 3, pos := "num.go:106", after := #[{ on := 15, ground := Ground.data }, { on := 11, ground := Ground.guard }], guard := some (11, false) },
  { dst := some 33, op := Op.move (Operand.tmp 1), type := 22, pos := "num.go:106", after := #[{ on := 11, ground := Ground.guard }], guard := some (11, false) },
  { dst := some 34, op := Op.move (Operand.tmp 5), type := 3, pos := "num.go:106", after := #[{ on := 11, ground := Ground.guard }], guard := some (11, false) },
  { dst := some 35, op := Op.indexAddr 22 (Operand.tmp 33) (Operand.tmp 34), type := 0, pos := "num.go:106", after := #[{ on := 17, ground := Ground.data }, { on := 18, ground := Ground.data }, { on := 11, ground := Ground.guard }], guard := some (11, false) },
  { dst := some 36, op := Op.fieldAddr 33 (Operand.tmp 35) 1, type := 0, pos := "num.go:106", after := #[{ on := 19, ground := Ground.data }, { on := 11, ground := Ground.guard }], guard := some (11, false) },
  { dst := some 37, op := Op.load 3 (Operand.tmp 36), type := 3, pos := "num.go:106", after := #[{ on := 20, ground := Ground.data }, { on := 11, ground := Ground.guard }], guard := some (11, false) },
  { dst := some 38, op := Op.binOp BinOp.neq 3 (Operand.tmp 32) (Operand.tmp 37) 3, type := 4, pos := "num.go:106", after := #[{ on := 16, ground := Ground.data }, { on := 21, ground := Ground.data }, { on := 11, ground := Ground.guard }], guard := some (11, false) },
  { dst := some 39, op := Op.pick (Operand.tmp 27) (Operand.const (Value.bool true)) (Operand.tmp 38), type := 4, pos := "num.go:106", after := #[{ on := 11, ground := Ground.data }, { on := 22, ground := Ground.data }], guard := none },
  { dst := some 40, op := Op.move (Operand.tmp 39), type := 4, pos := "num.go:106", after := #[{ on := 23, ground := Ground.data }, { on := 11, ground := Ground.chain }], guard := none },
  { dst := some 41, op := Op.move (Operand.tmp 0), type := 22, pos := "num.go:106", after := #[{ on := 24, ground := Ground.guard }], guard := some (24, false) },
  { dst := some 42, op := Op.move (Operand.tmp 5), type := 3, pos := "num.go:106", after := #[{ on := 24, ground := Ground.guard }], guard := some (24, false) },
  { dst := some 43, op := Op.indexAddr 22 (Operand.tmp 41) (Operand.tmp 42), type := 0, pos := "num.go:106", after := #[{ on := 25, ground := Ground.data }, { on := 26, ground := Ground.data }, { on := 24, ground := Ground.guard }], guard := some (24, false) },
  { dst := some 44, op := Op.fieldAddr 33 (Operand.tmp 43) 2, type := 0, pos := "num.go:106", after := #[{ on := 27, ground := Ground.data }, { on := 24, ground := Ground.guard }], guard := some (24, false) },
  { dst := some 45, op := Op.load 31 (Operand.tmp 44), type := 31, pos := "num.go:106", after := #[{ on := 28, ground := Ground.data }, { on := 24, ground := Ground.guard }], guard := some (24, false) },
  { dst := some 46, op := Op.move (Operand.tmp 1), type := 22, pos := "num.go:106", after := #[{ on := 24, ground := Ground.guard }], guard := some (24, false) },
  { dst := some 47, op := Op.move (Operand.tmp 5), type := 3, pos := "num.go:106", after := #[{ on := 24, ground := Ground.guard }], guard := some (24, false) },
  { dst := some 48, op := Op.indexAddr 22 (Operand.tmp 46) (Operand.tmp 47), type := 0, pos := "num.go:106", after := #[{ on := 30, ground := Ground.data }, { on := 31, ground := Ground.data }, { on := 24, ground := Ground.guard }], guard := some (24, false) },
  { dst := some 49, op := Op.fieldAddr 33 (Operand.tmp 48) 2, type := 0, pos := "num.go:106", after := #[{ on := 32, ground := Ground.data }, { on := 24, ground := Ground.guard }], guard := some (24, false) },
  { dst := some 50, op := Op.load 31 (Operand.tmp 49), type := 31, pos := "num.go:106", after := #[{ on := 33, ground := Ground.data }, { on := 24, ground := Ground.guard }], guard := some (24, false) },
  { dst := some 51, op := Op.call { callee := Callee.value (Operand.func 27), args := #[Operand.tmp 45, Operand.tmp 50], argTypes := #[31, 31] }, type := 4, pos := "num.go:106", after := #[{ on := 29, ground := Ground.data }, { on := 34, ground := Ground.data }, { on := 24, ground := Ground.chain }, { on := 24, ground := Ground.guard }], guard := some (24, false) },
  { dst := some 52, op := Op.unOp UnOp.not 4 (Operand.tmp 51), type := 4, pos := "num.go:106", after := #[{ on := 35, ground := Ground.data }, { on := 24, ground := Ground.guard }], guard := some (24, false) },
  { dst := some 53, op := Op.pick (Operand.tmp 40) (Operand.const (Value.bool true)) (Operand.tmp 52), type := 4, pos := "num.go:106", after := #[{ on := 24, ground := Ground.data }, { on := 36, ground := Ground.data }], guard := none }]
def dst_edi (i : Nat) : Option Nat := (ops_edi[i]?).bind (·.dst)
theorem inj_edi : ∀ i, i < 38 → ∀ k, k < 38 → dst_edi i ≠ none → dst_edi i = dst_edi k → i = k := by decide +kernel
theorem lt_edi : ∀ i, i < 38 → (dst_edi i).getD 0 < 55 := by decide +kernel
theorem low_edi : ∀ i : Fin 38, ∀ e ∈ (ops_edi[i.1]'(by exact i.2)).after, Region.binds .any e = true → e.on < i.1 := by decide +kernel
def pv_edi (b off n c b2 off2 n2 c2 j : Nat) (K K2 X X2 : Int) : List (Value → World → Prop) := [
  fun v w => v = .slice (some ⟨b, off, none⟩) n c,
  fun v w => v = .int .i64 (j : Nat),
  fun v w => v = .pointer (some ⟨b, off + j * 3, none⟩),
  fun v w => v = .pointer (some ⟨b, off + j * 3, none⟩),
  fun v w => v = .int .i64 K,
  fun v w => v = .slice (some ⟨b2, off2, none⟩) n2 c2,
  fun v w => v = .int .i64 (j : Nat),
  fun v w => v = .pointer (some ⟨b2, off2 + j * 3, none⟩),
  fun v w => v = .pointer (some ⟨b2, off2 + j * 3, none⟩),
  fun v w => v = .int .i64 K2,
  fun v w => v = .bool false,
  fun v w => v = .bool false,
  fun v w => v = .slice (some ⟨b, off, none⟩) n c,
  fun v w => v = .int .i64 (j : Nat),
  fun v w => v = .pointer (some ⟨b, off + j * 3, none⟩),
  fun v w => v = .pointer (some ⟨b, off + j * 3 + 1, none⟩),
  fun v w => v = .int .i64 X,
  fun v w => v = .slice (some ⟨b2, off2, none⟩) n2 c2,
  fun v w => v = .int .i64 (j : Nat),
  fun v w => v = .pointer (some ⟨b2, off2 + j * 3, none⟩),
  fun v w => v = .pointer (some ⟨b2, off2 + j * 3 + 1, none⟩),
  fun v w => v = .int .i64 X2,
  fun v w => v = .bool true,
  fun v w => v = .bool true,
  fun v w => v = .bool true,
  fun v w => v = undef,
  fun v w => v = undef,
  fun v w => v = undef,
  fun v w => v = undef,
  fun v w => v = undef,
  fun v w => v = undef,
  fun v w => v = undef,
  fun v w => v = undef,
  fun v w => v = undef,
  fun v w => v = undef,
  fun v w => v = undef,
  fun v w => v = undef,
  fun v w => v = .bool true]
set_option maxRecDepth 100000 in
set_option maxHeartbeats 4000000 in
theorem region_edi (a0 : Act) (w0 : World) (b off n c b2 off2 n2 c2 j : Nat) (K K2 X X2 : Int) (Q : Exit → Act → World → Prop)
    (hsz : a0.tmps.size = 55) (h0 : a0.tmps[0]? = some (.slice (some ⟨b, off, none⟩) n c)) (h1 : a0.tmps[1]? = some (.slice (some ⟨b2, off2, none⟩) n2 c2)) (h5 : a0.tmps[5]? = some (.int .i64 (j : Nat)))
    (hj : j < n) (hj2 : j < n2) (hE : ∀ W, Below w0.heap.size w0 W → W.cell? ⟨b, off + j * 3, none⟩ = some (.int .i64 K) ∧ W.cell? ⟨b2, off2 + j * 3, none⟩ = some (.int .i64 K2) ∧ W.cell? ⟨b, off + j * 3 + 1, none⟩ = some (.int .i64 X) ∧ W.cell? ⟨b2, off2 + j * 3 + 1, none⟩ = some (.int .i64 X2))
    (heq : (K != K2) = false) (hne : (X != X2) = true)
    (hQ : ∀ (y0 y1 y2 y3 y4 y5 y6 y7 y8 y9 y10 y11 y12 y13 y14 y15 y16 y17 y18 y19 y20 y21 y22 y23 y24 y25 y26 y27 y28 y29 y30 y31 y32 y33 y34 y35 y36 y37 : Value) (w : World), Below w0.heap.size w0 w → ((fun (v : Value) (w : World) => v = .bool true) y37 w) → Q .normal { a0 with tmps := [(16, y0), (17, y1), (18, y2), (19, y3), (20, y4), (21, y5), (22, y6), (23, y7), (24, y8), (25, y9), (26, y10), (27, y11), (28, y12), (29, y13), (30, y14), (31, y15), (32, y16), (33, y17), (34, y18), (35, y19), (36, y20), (37, y21), (38, y22), (39, y23), (40, y24), (41, y25), (42, y26), (43, y27), (44, y28), (45, y29), (46, y30), (47, y31), (48, y32), (49, y33), (50, y34), (51, y35), (52, y36), (53, y37)].foldl (fun u p => u.setIfInBounds p.1 p.2) a0.tmps } w) :
    wpAny Tryz.prog .any ops_edi Q ops_edi.size (Array.replicate ops_edi.size false) a0 w0 := by
  have M : AllM (pv_edi b off n c b2 off2 n2 c2 j K K2 X X2) := ⟨fun v x y hb h => h, fun v x y hb h => h, fun v x y hb h => h, fun v x y hb h => h, fun v x y hb h => h, fun v x y hb h => h, fun v x y hb h => h, fun v x y hb h => h, fun v x y hb h => h, fun v x y hb h => h, fun v x y hb h => h, fun v x y hb h => h, fun v x y hb h => h, fun v x y hb h => h, fun v x y hb h => h, fun v x y hb h => h, fun v x y hb h => h, fun v x y hb h => h, fun v x y hb h => h, fun v x y hb h => h, fun v x y hb h => h, fun v x y hb h => h, fun v x y hb h => h, fun v x y hb h => h, fun v x y hb h => h, fun v x y hb h => h, fun v x y hb h => h, fun v x y hb h => h, fun v x y hb h => h, fun v x y hb h => h, fun v x y hb h => h, fun v x y hb h => h, fun v x y hb h => h, fun v x y hb h => h, fun v x y hb h => h, fun v x y hb h => h, fun v x y hb h => h, fun v x y hb h => h, trivial⟩
  refine wpAny_mono a0 w0 dst_edi (pvL (pv_edi b off n c b2 off2 n2 c2 j K K2 X X2)) (fun x y => Below x.heap.size x y) (Below.refl _ _) (fun x y h g => h.trans (g.mono h.size)) (fun i v x y _ g h => pvL_mono M g h)
    (fun i o ho => by unfold dst_edi; rw [ho]; rfl)
    (fun i k d hi hk h1 h2 => inj_edi i hi k hk (by rw [h1]; intro q; cases q) (by rw [h1, h2]))
    (fun i d hi h => by have := lt_edi i hi; rw [h] at this; rw [hsz]; exact this)
    (fun i o e ho he hb => by
      obtain ⟨hi, rfl⟩ := Array.getElem?_eq_some_iff.1 ho
      exact low_edi ⟨i, hi⟩ e he hb)
    ?step (fun w _ => Below.refl _ _) ?fin
  case fin =>
    intro a w hd hs hf hv hR
    obtain ⟨y0, hy0, pv0⟩ := hv 0 16 (by decide) rfl
    obtain ⟨y1, hy1, pv1⟩ := hv 1 17 (by decide) rfl
    obtain ⟨y2, hy2, pv2⟩ := hv 2 18 (by decide) rfl
    obtain ⟨y3, hy3, pv3⟩ := hv 3 19 (by decide) rfl
    obtain ⟨y4, hy4, pv4⟩ := hv 4 20 (by decide) rfl
    obtain ⟨y5, hy5, pv5⟩ := hv 5 21 (by decide) rfl
    obtain ⟨y6, hy6, pv6⟩ := hv 6 22 (by decide) rfl
    obtain ⟨y7, hy7, pv7⟩ := hv 7 23 (by decide) rfl
    obtain ⟨y8, hy8, pv8⟩ := hv 8 24 (by decide) rfl
    obtain ⟨y9, hy9, pv9⟩ := hv 9 25 (by decide) rfl
    obtain ⟨y10, hy10, pv10⟩ := hv 10 26 (by decide) rfl
    obtain ⟨y11, hy11, pv11⟩ := hv 11 27 (by decide) rfl
    obtain ⟨y12, hy12, pv12⟩ := hv 12 28 (by decide) rfl
    obtain ⟨y13, hy13, pv13⟩ := hv 13 29 (by decide) rfl
    obtain ⟨y14, hy14, pv14⟩ := hv 14 30 (by decide) rfl
    obtain ⟨y15, hy15, pv15⟩ := hv 15 31 (by decide) rfl
    obtain ⟨y16, hy16, pv16⟩ := hv 16 32 (by decide) rfl
    obtain ⟨y17, hy17, pv17⟩ := hv 17 33 (by decide) rfl
    obtain ⟨y18, hy18, pv18⟩ := hv 18 34 (by decide) rfl
    obtain ⟨y19, hy19, pv19⟩ := hv 19 35 (by decide) rfl
    obtain ⟨y20, hy20, pv20⟩ := hv 20 36 (by decide) rfl
    obtain ⟨y21, hy21, pv21⟩ := hv 21 37 (by decide) rfl
    obtain ⟨y22, hy22, pv22⟩ := hv 22 38 (by decide) rfl
    obtain ⟨y23, hy23, pv23⟩ := hv 23 39 (by decide) rfl
    obtain ⟨y24, hy24, pv24⟩ := hv 24 40 (by decide) rfl
    obtain ⟨y25, hy25, pv25⟩ := hv 25 41 (by decide) rfl
    obtain ⟨y26, hy26, pv26⟩ := hv 26 42 (by decide) rfl
    obtain ⟨y27, hy27, pv27⟩ := hv 27 43 (by decide) rfl
    obtain ⟨y28, hy28, pv28⟩ := hv 28 44 (by decide) rfl
    obtain ⟨y29, hy29, pv29⟩ := hv 29 45 (by decide) rfl
    obtain ⟨y30, hy30, pv30⟩ := hv 30 46 (by decide) rfl
    obtain ⟨y31, hy31, pv31⟩ := hv 31 47 (by decide) rfl
    obtain ⟨y32, hy32, pv32⟩ := hv 32 48 (by decide) rfl
    obtain ⟨y33, hy33, pv33⟩ := hv 33 49 (by decide) rfl
    obtain ⟨y34, hy34, pv34⟩ := hv 34 50 (by decide) rfl
    obtain ⟨y35, hy35, pv35⟩ := hv 35 51 (by decide) rfl
    obtain ⟨y36, hy36, pv36⟩ := hv 36 52 (by decide) rfl
    obtain ⟨y37, hy37, pv37⟩ := hv 37 53 (by decide) rfl
    rw [act_set' (a := a) (a0 := a0) [(16, y0), (17, y1), (18, y2), (19, y3), (20, y4), (21, y5), (22, y6), (23, y7), (24, y8), (25, y9), (26, y10), (27, y11), (28, y12), (29, y13), (30, y14), (31, y15), (32, y16), (33, y17), (34, y18), (35, y19), (36, y20), (37, y21), (38, y22), (39, y23), (40, y24), (41, y25), (42, y26), (43, y27), (44, y28), (45, y29), (46, y30), (47, y31), (48, y32), (49, y33), (50, y34), (51, y35), (52, y36), (53, y37)] hd hs (by
      intro p hp
      simp only [List.mem_cons, List.not_mem_nil, or_false] at hp
      rcases hp with rfl | rfl | rfl | rfl | rfl | rfl | rfl | rfl | rfl | rfl | rfl | rfl | rfl | rfl | rfl | rfl | rfl | rfl | rfl | rfl | rfl | rfl | rfl | rfl | rfl | rfl | rfl | rfl | rfl | rfl | rfl | rfl | rfl | rfl | rfl | rfl | rfl | rfl
      · exact hy0
      · exact hy1
      · exact hy2
      · exact hy3
      · exact hy4
      · exact hy5
      · exact hy6
      · exact hy7
      · exact hy8
      · exact hy9
      · exact hy10
      · exact hy11
      · exact hy12
      · exact hy13
      · exact hy14
      · exact hy15
      · exact hy16
      · exact hy17
      · exact hy18
      · exact hy19
      · exact hy20
      · exact hy21
      · exact hy22
      · exact hy23
      · exact hy24
      · exact hy25
      · exact hy26
      · exact hy27
      · exact hy28
      · exact hy29
      · exact hy30
      · exact hy31
      · exact hy32
      · exact hy33
      · exact hy34
      · exact hy35
      · exact hy36
      · exact hy37
      ) (fun j hj => hf j (fun k hk q => hj (by
        have : ∀ k, k < 38 → (dst_edi k).all (fun d => [16, 17, 18, 19, 20, 21, 22, 23, 24, 25, 26, 27, 28, 29, 30, 31, 32, 33, 34, 35, 36, 37, 38, 39, 40, 41, 42, 43, 44, 45, 46, 47, 48, 49, 50, 51, 52, 53].contains d) = true := by decide +kernel
        have h1 := this k hk
        rw [q] at h1
        simpa using h1)))]
    exact hQ y0 y1 y2 y3 y4 y5 y6 y7 y8 y9 y10 y11 y12 y13 y14 y15 y16 y17 y18 y19 y20 y21 y22 y23 y24 y25 y26 y27 y28 y29 y30 y31 y32 y33 y34 y35 y36 y37 w hR pv37
  case step =>
    intro i o a w ho hs hf dep hR
    have hi : i < 38 := (Array.getElem?_eq_some_iff.1 ho).1
    have e0 := evT ((hf 0 (by decide +kernel)).trans h0)
    have e1 := evT ((hf 1 (by decide +kernel)).trans h1)
    have e5 := evT ((hf 5 (by decide +kernel)).trans h5)
    rcases (by omega : i = 0 ∨ i = 1 ∨ i = 2 ∨ i = 3 ∨ i = 4 ∨ i = 5 ∨ i = 6 ∨ i = 7 ∨ i = 8 ∨ i = 9 ∨ i = 10 ∨ i = 11 ∨ i = 12 ∨ i = 13 ∨ i = 14 ∨ i = 15 ∨ i = 16 ∨ i = 17 ∨ i = 18 ∨ i = 19 ∨ i = 20 ∨ i = 21 ∨ i = 22 ∨ i = 23 ∨ i = 24 ∨ i = 25 ∨ i = 26 ∨ i = 27 ∨ i = 28 ∨ i = 29 ∨ i = 30 ∨ i = 31 ∨ i = 32 ∨ i = 33 ∨ i = 34 ∨ i = 35 ∨ i = 36 ∨ i = 37) with rfl | rfl | rfl | rfl | rfl | rfl | rfl | rfl | rfl | rfl | rfl | rfl | rfl | rfl | rfl | rfl | rfl | rfl | rfl | rfl | rfl | rfl | rfl | rfl | rfl | rfl | rfl | rfl | rfl | rfl | rfl | rfl | rfl | rfl | rfl | rfl | rfl | rfl
    · have ho2 : some _ = some o := ho
      obtain rfl := Option.some.inj ho2
      exact .inl ⟨wantN rfl, fun K hK => mo_move rfl e0 (hK _ _ (Below.refl _ _) rfl)⟩
    · have ho2 : some _ = some o := ho
      obtain rfl := Option.some.inj ho2
      exact .inl ⟨wantN rfl, fun K hK => mo_move rfl e5 (hK _ _ (Below.refl _ _) rfl)⟩
    · have ho2 : some _ = some o := ho
      obtain rfl := Option.some.inj ho2
      obtain ⟨_, hv0, rfl⟩ : ∃ v, a.tmps[16]? = some v ∧ (fun (v : Value) (w : World) => v = .slice (some ⟨b, off, none⟩) n c) v w := dep ⟨0, Ground.data⟩ (by first | simp | simp [ops_edi]) rfl 16 rfl
      obtain ⟨_, hv1, rfl⟩ : ∃ v, a.tmps[17]? = some v ∧ (fun (v : Value) (w : World) => v = .int .i64 (j : Nat)) v w := dep ⟨1, Ground.data⟩ (by first | simp | simp [ops_edi]) rfl 17 rfl
      exact .inl ⟨wantN rfl, fun K hK => mo_index (idx_eds hj) rfl (evT hv0) (evT hv1) (hK _ _ (Below.refl _ _) rfl)⟩
    · have ho2 : some _ = some o := ho
      obtain rfl := Option.some.inj ho2
      obtain ⟨_, hv2, rfl⟩ : ∃ v, a.tmps[18]? = some v ∧ (fun (v : Value) (w : World) => v = .pointer (some ⟨b, off + j * 3, none⟩)) v w := dep ⟨2, Ground.data⟩ (by first | simp | simp [ops_edi]) rfl 18 rfl
      exact .inl ⟨wantN rfl, fun K hK => mo_field (by simp [go_sem]) rfl (evT hv2) (hK _ _ (Below.refl _ _) rfl)⟩
    · have ho2 : some _ = some o := ho
      obtain rfl := Option.some.inj ho2
      obtain ⟨_, hv3, rfl⟩ : ∃ v, a.tmps[19]? = some v ∧ (fun (v : Value) (w : World) => v = .pointer (some ⟨b, off + j * 3, none⟩)) v w := dep ⟨3, Ground.data⟩ (by first | simp | simp [ops_edi]) rfl 19 rfl
      exact .inl ⟨wantN rfl, fun K hK => mo_load (by simp [go_sem, (hE w hR).1]) rfl (evT hv3) (hK _ _ (Below.refl _ _) rfl)⟩
    · have ho2 : some _ = some o := ho
      obtain rfl := Option.some.inj ho2
      exact .inl ⟨wantN rfl, fun K hK => mo_move rfl e1 (hK _ _ (Below.refl _ _) rfl)⟩
    · have ho2 : some _ = some o := ho
      obtain rfl := Option.some.inj ho2
      exact .inl ⟨wantN rfl, fun K hK => mo_move rfl e5 (hK _ _ (Below.refl _ _) rfl)⟩
    · have ho2 : some _ = some o := ho
      obtain rfl := Option.some.inj ho2
      obtain ⟨_, hv5, rfl⟩ : ∃ v, a.tmps[21]? = some v ∧ (fun (v : Value) (w : World) => v = .slice (some ⟨b2, off2, none⟩) n2 c2) v w := dep ⟨5, Ground.data⟩ (by first | simp | simp [ops_edi]) rfl 21 rfl
      obtain ⟨_, hv6, rfl⟩ : ∃ v, a.tmps[22]? = some v ∧ (fun (v : Value) (w : World) => v = .int .i64 (j : Nat)) v w := dep ⟨6, Ground.data⟩ (by first | simp | simp [ops_edi]) rfl 22 rfl
      exact .inl ⟨wantN rfl, fun K hK => mo_index (idx_eds hj2) rfl (evT hv5) (evT hv6) (hK _ _ (Below.refl _ _) rfl)⟩
    · have ho2 : some _ = some o := ho
      obtain rfl := Option.some.inj ho2
      obtain ⟨_, hv7, rfl⟩ : ∃ v, a.tmps[23]? = some v ∧ (fun (v : Value) (w : World) => v = .pointer (some ⟨b2, off2 + j * 3, none⟩)) v w := dep ⟨7, Ground.data⟩ (by first | simp | simp [ops_edi]) rfl 23 rfl
      exact .inl ⟨wantN rfl, fun K hK => mo_field (by simp [go_sem]) rfl (evT hv7) (hK _ _ (Below.refl _ _) rfl)⟩
    · have ho2 : some _ = some o := ho
      obtain rfl := Option.some.inj ho2
      obtain ⟨_, hv8, rfl⟩ : ∃ v, a.tmps[24]? = some v ∧ (fun (v : Value) (w : World) => v = .pointer (some ⟨b2, off2 + j * 3, none⟩)) v w := dep ⟨8, Ground.data⟩ (by first | simp | simp [ops_edi]) rfl 24 rfl
      exact .inl ⟨wantN rfl, fun K hK => mo_load (by simp [go_sem, (hE w hR).2.1]) rfl (evT hv8) (hK _ _ (Below.refl _ _) rfl)⟩
    · have ho2 : some _ = some o := ho
      obtain rfl := Option.some.inj ho2
      obtain ⟨_, hv4, rfl⟩ : ∃ v, a.tmps[20]? = some v ∧ (fun (v : Value) (w : World) => v = .int .i64 K) v w := dep ⟨4, Ground.data⟩ (by first | simp | simp [ops_edi]) rfl 20 rfl
      obtain ⟨_, hv9, rfl⟩ : ∃ v, a.tmps[25]? = some v ∧ (fun (v : Value) (w : World) => v = .int .i64 K2) v w := dep ⟨9, Ground.data⟩ (by first | simp | simp [ops_edi]) rfl 25 rfl
      exact .inl ⟨wantN rfl, fun K hK => mo_neqI rfl (evT hv4) (evT hv9) (hK _ _ (Below.refl _ _) (congrArg Value.bool (heq)))⟩
    · have ho2 : some _ = some o := ho
      obtain rfl := Option.some.inj ho2
      obtain ⟨_, hv10, rfl⟩ : ∃ v, a.tmps[26]? = some v ∧ (fun (v : Value) (w : World) => v = .bool false) v w := dep ⟨10, Ground.data⟩ (by first | simp | simp [ops_edi]) rfl 26 rfl
      exact .inl ⟨wantN rfl, fun K hK => mo_move rfl (evT hv10) (hK _ _ (Below.refl _ _) rfl)⟩
    · have ho2 : some _ = some o := ho
      obtain rfl := Option.some.inj ho2
      obtain ⟨_, hv11, rfl⟩ : ∃ v, a.tmps[27]? = some v ∧ (fun (v : Value) (w : World) => v = .bool false) v w := dep ⟨11, Ground.guard⟩ (by first | simp | simp [ops_edi]) rfl 27 rfl
      exact .inl ⟨wantG (b := false) rfl (show ((ops_edi[11]?).bind (·.dst)) = some 27 from rfl) hv11, fun K hK => mo_move rfl e0 (hK _ _ (Below.refl _ _) rfl)⟩
    · have ho2 : some _ = some o := ho
      obtain rfl := Option.some.inj ho2
      obtain ⟨_, hv11, rfl⟩ : ∃ v, a.tmps[27]? = some v ∧ (fun (v : Value) (w : World) => v = .bool false) v w := dep ⟨11, Ground.guard⟩ (by first | simp | simp [ops_edi]) rfl 27 rfl
      exact .inl ⟨wantG (b := false) rfl (show ((ops_edi[11]?).bind (·.dst)) = some 27 from rfl) hv11, fun K hK => mo_move rfl e5 (hK _ _ (Below.refl _ _) rfl)⟩
    · have ho2 : some _ = some o := ho
      obtain rfl := Option.some.inj ho2
      obtain ⟨_, hv12, rfl⟩ : ∃ v, a.tmps[28]? = some v ∧ (fun (v : Value) (w : World) => v = .slice (some ⟨b, off, none⟩) n c) v w := dep ⟨12, Ground.data⟩ (by first | simp | simp [ops_edi]) rfl 28 rfl
      obtain ⟨_, hv13, rfl⟩ : ∃ v, a.tmps[29]? = some v ∧ (fun (v : Value) (w : World) => v = .int .i64 (j : Nat)) v w := dep ⟨13, Ground.data⟩ (by first | simp | simp [ops_edi]) rfl 29 rfl
      obtain ⟨_, hv11, rfl⟩ : ∃ v, a.tmps[27]? = some v ∧ (fun (v : Value) (w : World) => v = .bool false) v w := dep ⟨11, Ground.guard⟩ (by first | simp | simp [ops_edi]) rfl 27 rfl
      exact .inl ⟨wantG (b := false) rfl (show ((ops_edi[11]?).bind (·.dst)) = some 27 from rfl) hv11, fun K hK => mo_index (idx_eds hj) rfl (evT hv12) (evT hv13) (hK _ _ (Below.refl _ _) rfl)⟩
    · have ho2 : some _ = some o := ho
      obtain rfl := Option.some.inj ho2
      obtain ⟨_, hv14, rfl⟩ : ∃ v, a.tmps[30]? = some v ∧ (fun (v : Value) (w : World) => v = .pointer (some ⟨b, off + j * 3, none⟩)) v w := dep ⟨14, Ground.data⟩ (by first | simp | simp [ops_edi]) rfl 30 rfl
      obtain ⟨_, hv11, rfl⟩ : ∃ v, a.tmps[27]? = some v ∧ (fun (v : Value) (w : World) => v = .bool false) v w := dep ⟨11, Ground.guard⟩ (by first | simp | simp [ops_edi]) rfl 27 rfl
      exact .inl ⟨wantG (b := false) rfl (show ((ops_edi[11]?).bind (·.dst)) = some 27 from rfl) hv11, fun K hK => mo_field (by simp [go_sem]) rfl (evT hv14) (hK _ _ (Below.refl _ _) rfl)⟩
    · have ho2 : some _ = some o := ho
      obtain rfl := Option.some.inj ho2
      obtain ⟨_, hv15, rfl⟩ : ∃ v, a.tmps[31]? = some v ∧ (fun (v : Value) (w : World) => v = .pointer (some ⟨b, off + j * 3 + 1, none⟩)) v w := dep ⟨15, Ground.data⟩ (by first | simp | simp [ops_edi]) rfl 31 rfl
      obtain ⟨_, hv11, rfl⟩ : ∃ v, a.tmps[27]? = some v ∧ (fun (v : Value) (w : World) => v = .bool false) v w := dep ⟨11, Ground.guard⟩ (by first | simp | simp [ops_edi]) rfl 27 rfl
      exact .inl ⟨wantG (b := false) rfl (show ((ops_edi[11]?).bind (·.dst)) = some 27 from rfl) hv11, fun K hK => mo_load (by simp [go_sem, (hE w hR).2.2.1]) rfl (evT hv15) (hK _ _ (Below.refl _ _) rfl)⟩
    · have ho2 : some _ = some o := ho
      obtain rfl := Option.some.inj ho2
      obtain ⟨_, hv11, rfl⟩ : ∃ v, a.tmps[27]? = some v ∧ (fun (v : Value) (w : World) => v = .bool false) v w := dep ⟨11, Ground.guard⟩ (by first | simp | simp [ops_edi]) rfl 27 rfl
      exact .inl ⟨wantG (b := false) rfl (show ((ops_edi[11]?).bind (·.dst)) = some 27 from rfl) hv11, fun K hK => mo_move rfl e1 (hK _ _ (Below.refl _ _) rfl)⟩
    · have ho2 : some _ = some o := ho
      obtain rfl := Option.some.inj ho2
      obtain ⟨_, hv11, rfl⟩ : ∃ v, a.tmps[27]? = some v ∧ (fun (v : Value) (w : World) => v = .bool false) v w := dep ⟨11, Ground.guard⟩ (by first | simp | simp [ops_edi]) rfl 27 rfl
      exact .inl ⟨wantG (b := false) rfl (show ((ops_edi[11]?).bind (·.dst)) = some 27 from rfl) hv11, fun K hK => mo_move rfl e5 (hK _ _ (Below.refl _ _) rfl)⟩
    · have ho2 : some _ = some o := ho
      obtain rfl := Option.some.inj ho2
      obtain ⟨_, hv17, rfl⟩ : ∃ v, a.tmps[33]? = some v ∧ (fun (v : Value) (w : World) => v = .slice (some ⟨b2, off2, none⟩) n2 c2) v w := dep ⟨17, Ground.data⟩ (by first | simp | simp [ops_edi]) rfl 33 rfl
      obtain ⟨_, hv18, rfl⟩ : ∃ v, a.tmps[34]? = some v ∧ (fun (v : Value) (w : World) => v = .int .i64 (j : Nat)) v w := dep ⟨18, Ground.data⟩ (by first | simp | simp [ops_edi]) rfl 34 rfl
      obtain ⟨_, hv11, rfl⟩ : ∃ v, a.tmps[27]? = some v ∧ (fun (v : Value) (w : World) => v = .bool false) v w := dep ⟨11, Ground.guard⟩ (by first | simp | simp [ops_edi]) rfl 27 rfl
      exact .inl ⟨wantG (b := false) rfl (show ((ops_edi[11]?).bind (·.dst)) = some 27 from rfl) hv11, fun K hK => mo_index (idx_eds hj2) rfl (evT hv17) (evT hv18) (hK _ _ (Below.refl _ _) rfl)⟩
    · have ho2 : some _ = some o := ho
      obtain rfl := Option.some.inj ho2
      obtain ⟨_, hv19, rfl⟩ : ∃ v, a.tmps[35]? = some v ∧ (fun (v : Value) (w : World) => v = .pointer (some ⟨b2, off2 + j * 3, none⟩)) v w := dep ⟨19, Ground.data⟩ (by first | simp | simp [ops_edi]) rfl 35 rfl
      obtain ⟨_, hv11, rfl⟩ : ∃ v, a.tmps[27]? = some v ∧ (fun (v : Value) (w : World) => v = .bool false) v w := dep ⟨11, Ground.guard⟩ (by first | simp | simp [ops_edi]) rfl 27 rfl
      exact .inl ⟨wantG (b := false) rfl (show ((ops_edi[11]?).bind (·.dst)) = some 27 from rfl) hv11, fun K hK => mo_field (by simp [go_sem]) rfl (evT hv19) (hK _ _ (Below.refl _ _) rfl)⟩
    · have ho2 : some _ = some o := ho
      obtain rfl := Option.some.inj ho2
      obtain ⟨_, hv20, rfl⟩ : ∃ v, a.tmps[36]? = some v ∧ (fun (v : Value) (w : World) => v = .pointer (some ⟨b2, off2 + j * 3 + 1, none⟩)) v w := dep ⟨20, Ground.data⟩ (by first | simp | simp [ops_edi]) rfl 36 rfl
      obtain ⟨_, hv11, rfl⟩ : ∃ v, a.tmps[27]? = some v ∧ (fun (v : Value) (w : World) => v = .bool false) v w := dep ⟨11, Ground.guard⟩ (by first | simp | simp [ops_edi]) rfl 27 rfl
      exact .inl ⟨wantG (b := false) rfl (show ((ops_edi[11]?).bind (·.dst)) = some 27 from rfl) hv11, fun K hK => mo_load (by simp [go_sem, (hE w hR).2.2.2]) rfl (evT hv20) (hK _ _ (Below.refl _ _) rfl)⟩
    · have ho2 : some _ = some o := ho
      obtain rfl := Option.some.inj ho2
      obtain ⟨_, hv16, rfl⟩ : ∃ v, a.tmps[32]? = some v ∧ (fun (v : Value) (w : World) => v = .int .i64 X) v w := dep ⟨16, Ground.data⟩ (by first | simp | simp [ops_edi]) rfl 32 rfl
      obtain ⟨_, hv21, rfl⟩ : ∃ v, a.tmps[37]? = some v ∧ (fun (v : Value) (w : World) => v = .int .i64 X2) v w := dep ⟨21, Ground.data⟩ (by first | simp | simp [ops_edi]) rfl 37 rfl
      obtain ⟨_, hv11, rfl⟩ : ∃ v, a.tmps[27]? = some v ∧ (fun (v : Value) (w : World) => v = .bool false) v w := dep ⟨11, Ground.guard⟩ (by first | simp | simp [ops_edi]) rfl 27 rfl
      exact .inl ⟨wantG (b := false) rfl (show ((ops_edi[11]?).bind (·.dst)) = some 27 from rfl) hv11, fun K hK => mo_neqI rfl (evT hv16) (evT hv21) (hK _ _ (Below.refl _ _) (congrArg Value.bool (hne)))⟩
    · have ho2 : some _ = some o := ho
      obtain rfl := Option.some.inj ho2
      obtain ⟨_, hv11, rfl⟩ : ∃ v, a.tmps[27]? = some v ∧ (fun (v : Value) (w : World) => v = .bool false) v w := dep ⟨11, Ground.data⟩ (by first | simp | simp [ops_edi]) rfl 27 rfl
      obtain ⟨_, hv22, rfl⟩ : ∃ v, a.tmps[38]? = some v ∧ (fun (v : Value) (w : World) => v = .bool true) v w := dep ⟨22, Ground.data⟩ (by first | simp | simp [ops_edi]) rfl 38 rfl
      exact .inl ⟨wantN rfl, fun K hK => mo_pick rfl (evT hv11) rfl (evT hv22) rfl (hK _ _ (Below.refl _ _) rfl)⟩
    · have ho2 : some _ = some o := ho
      obtain rfl := Option.some.inj ho2
      obtain ⟨_, hv23, rfl⟩ : ∃ v, a.tmps[39]? = some v ∧ (fun (v : Value) (w : World) => v = .bool true) v w := dep ⟨23, Ground.data⟩ (by first | simp | simp [ops_edi]) rfl 39 rfl
      exact .inl ⟨wantN rfl, fun K hK => mo_move rfl (evT hv23) (hK _ _ (Below.refl _ _) rfl)⟩
    · have ho2 : some _ = some o := ho
      obtain rfl := Option.some.inj ho2
      obtain ⟨_, hv24, rfl⟩ : ∃ v, a.tmps[40]? = some v ∧ (fun (v : Value) (w : World) => v = .bool true) v w := dep ⟨24, Ground.guard⟩ (by first | simp | simp [ops_edi]) rfl 40 rfl
      exact .inr ⟨wantU (b := false) rfl (show ((ops_edi[24]?).bind (·.dst)) = some 40 from rfl) hv24, rfl⟩
    · have ho2 : some _ = some o := ho
      obtain rfl := Option.some.inj ho2
      obtain ⟨_, hv24, rfl⟩ : ∃ v, a.tmps[40]? = some v ∧ (fun (v : Value) (w : World) => v = .bool true) v w := dep ⟨24, Ground.guard⟩ (by first | simp | simp [ops_edi]) rfl 40 rfl
      exact .inr ⟨wantU (b := false) rfl (show ((ops_edi[24]?).bind (·.dst)) = some 40 from rfl) hv24, rfl⟩
    · have ho2 : some _ = some o := ho
      obtain rfl := Option.some.inj ho2
      obtain ⟨_, hv24, rfl⟩ : ∃ v, a.tmps[40]? = some v ∧ (fun (v : Value) (w : World) => v = .bool true) v w := dep ⟨24, Ground.guard⟩ (by first | simp | simp [ops_edi]) rfl 40 rfl
      exact .inr ⟨wantU (b := false) rfl (show ((ops_edi[24]?).bind (·.dst)) = some 40 from rfl) hv24, rfl⟩
    · have ho2 : some _ = some o := ho
      obtain rfl := Option.some.inj ho2
      obtain ⟨_, hv24, rfl⟩ : ∃ v, a.tmps[40]? = some v ∧ (fun (v : Value) (w : World) => v = .bool true) v w := dep ⟨24, Ground.guard⟩ (by first | simp | simp [ops_edi]) rfl 40 rfl
      exact .inr ⟨wantU (b := false) rfl (show ((ops_edi[24]?).bind (·.dst)) = some 40 from rfl) hv24, rfl⟩
    · have ho2 : some _ = some o := ho
      obtain rfl := Option.some.inj ho2
      obtain ⟨_, hv24, rfl⟩ : ∃ v, a.tmps[40]? = some v ∧ (fun (v : Value) (w : World) => v = .bool true) v w := dep ⟨24, Ground.guard⟩ (by first | simp | simp [ops_edi]) rfl 40 rfl
      exact .inr ⟨wantU (b := false) rfl (show ((ops_edi[24]?).bind (·.dst)) = some 40 from rfl) hv24, rfl⟩
    · have ho2 : some _ = some o := ho
      obtain rfl := Option.some.inj ho2
      obtain ⟨_, hv24, rfl⟩ : ∃ v, a.tmps[40]? = some v ∧ (fun (v : Value) (w : World) => v = .bool true) v w := dep ⟨24, Ground.guard⟩ (by first | simp | simp [ops_edi]) rfl 40 rfl
      exact .inr ⟨wantU (b := false) rfl (show ((ops_edi[24]?).bind (·.dst)) = some 40 from rfl) hv24, rfl⟩
    · have ho2 : some _ = some o := ho
      obtain rfl := Option.some.inj ho2
      obtain ⟨_, hv24, rfl⟩ : ∃ v, a.tmps[40]? = some v ∧ (fun (v : Value) (w : World) => v = .bool true) v w := dep ⟨24, Ground.guard⟩ (by first | simp | simp [ops_edi]) rfl 40 rfl
      exact .inr ⟨wantU (b := false) rfl (show ((ops_edi[24]?).bind (·.dst)) = some 40 from rfl) hv24, rfl⟩
    · have ho2 : some _ = some o := ho
      obtain rfl := Option.some.inj ho2
      obtain ⟨_, hv24, rfl⟩ : ∃ v, a.tmps[40]? = some v ∧ (fun (v : Value) (w : World) => v = .bool true) v w := dep ⟨24, Ground.guard⟩ (by first | simp | simp [ops_edi]) rfl 40 rfl
      exact .inr ⟨wantU (b := false) rfl (show ((ops_edi[24]?).bind (·.dst)) = some 40 from rfl) hv24, rfl⟩
    · have ho2 : some _ = some o := ho
      obtain rfl := Option.some.inj ho2
      obtain ⟨_, hv24, rfl⟩ : ∃ v, a.tmps[40]? = some v ∧ (fun (v : Value) (w : World) => v = .bool true) v w := dep ⟨24, Ground.guard⟩ (by first | simp | simp [ops_edi]) rfl 40 rfl
      exact .inr ⟨wantU (b := false) rfl (show ((ops_edi[24]?).bind (·.dst)) = some 40 from rfl) hv24, rfl⟩
    · have ho2 : some _ = some o := ho
      obtain rfl := Option.some.inj ho2
      obtain ⟨_, hv24, rfl⟩ : ∃ v, a.tmps[40]? = some v ∧ (fun (v : Value) (w : World) => v = .bool true) v w := dep ⟨24, Ground.guard⟩ (by first | simp | simp [ops_edi]) rfl 40 rfl
      exact .inr ⟨wantU (b := false) rfl (show ((ops_edi[24]?).bind (·.dst)) = some 40 from rfl) hv24, rfl⟩
    · have ho2 : some _ = some o := ho
      obtain rfl := Option.some.inj ho2
      obtain ⟨_, hv24, rfl⟩ : ∃ v, a.tmps[40]? = some v ∧ (fun (v : Value) (w : World) => v = .bool true) v w := dep ⟨24, Ground.guard⟩ (by first | simp | simp [ops_edi]) rfl 40 rfl
      exact .inr ⟨wantU (b := false) rfl (show ((ops_edi[24]?).bind (·.dst)) = some 40 from rfl) hv24, rfl⟩
    · have ho2 : some _ = some o := ho
      obtain rfl := Option.some.inj ho2
      obtain ⟨_, hv24, rfl⟩ : ∃ v, a.tmps[40]? = some v ∧ (fun (v : Value) (w : World) => v = .bool true) v w := dep ⟨24, Ground.guard⟩ (by first | simp | simp [ops_edi]) rfl 40 rfl
      exact .inr ⟨wantU (b := false) rfl (show ((ops_edi[24]?).bind (·.dst)) = some 40 from rfl) hv24, rfl⟩
    · have ho2 : some _ = some o := ho
      obtain rfl := Option.some.inj ho2
      obtain ⟨_, hv24, rfl⟩ : ∃ v, a.tmps[40]? = some v ∧ (fun (v : Value) (w : World) => v = .bool true) v w := dep ⟨24, Ground.data⟩ (by first | simp | simp [ops_edi]) rfl 40 rfl
      obtain ⟨_, hv36, rfl⟩ : ∃ v, a.tmps[52]? = some v ∧ (fun (v : Value) (w : World) => v = undef) v w := dep ⟨36, Ground.data⟩ (by first | simp | simp [ops_edi]) rfl 52 rfl
      exact .inl ⟨wantN rfl, fun K hK => mo_pick rfl (evT hv24) rfl (evT hv36) rfl (hK _ _ (Below.refl _ _) rfl)⟩
end Go.Proofs.YtkcklnnmcmjnjaaGreatDoor

