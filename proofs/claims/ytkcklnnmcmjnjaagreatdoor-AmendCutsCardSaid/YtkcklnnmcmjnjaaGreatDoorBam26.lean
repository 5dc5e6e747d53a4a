/- Texts put together: AQ, AP, ES, HA. -/
import Derived.Deep.DeepCutAuto
import Derived.Test.YtkcklnnmcmjnjaaGreatDoorBam10
import Derived.Test.YtkcklnnmcmjnjaaGreatDoorBam12
import Derived.Test.YtkcklnnmcmjnjaaGreatDoorBam17
import Derived.Test.YtkcklnnmcmjnjaaGreatDoorBam19
import Derived.Test.YtkcklnnmcmjnjaaGreatDoorBam21
import Derived.Test.YtkcklnnmcmjnjaaGreatDoorBam22
import Derived.Test.YtkcklnnmcmjnjaaGreatDoorBam25
set_option linter.unusedVariables false
namespace Go.Proofs.YtkcklnnmcmjnjaaGreatDoor
open Go.RowKit Go.Shelf

section
variable {K : Act → World → Prop} {Q : Exit → Act → World → Prop} {o : Oper} {a : Act} {w : World}
theorem mo_addS {x y : Operand} {m n : ByteArray} (ho : o.op = Op.binOp BinOp.add 9 x y 9) (hx : a.eval x = .string m) (hy : a.eval y = .string n) (hm : m.size ≤ 1000000000) (hn : n.size ≤ 1000000000) (hK : K (a.put o.dst (.string (m ++ n))) w) : Oper.wp Tryz.prog o a w K Q :=
  mo_run (by
    generalize a.eval = ρ at hx hy ⊢
    have h1 : m.size + n.size ≤ 9223372036854775807 := by omega
    simp only [execOp, ho, hx, hy]
    simp [go_sem, h1]) hK
end
theorem idx_eds {b off n c i : Nat} {w : World} (h : i < n) : (Instr.indexAt 22 (.slice (some ⟨b, off, none⟩) n c) (.int .i64 (i : Nat))).run Tryz.prog w = .ok (.pointer (some ⟨b, off + i * 3, none⟩)) w := by
  have h1 : (i : Int) < (n : Int) := by omega
  have h2 : (0 : Int) ≤ (i : Int) := by omega
  simp [go_sem, h1, h2]

def ops_la5 : Array Oper := #[
  { dst := some 14, op := Op.load 33 (Operand.tmp 3), type := 33, pos := "law.go:78", after := #[], guard := none },
  { dst := some 15, op := Op.call { callee := Callee.value (Operand.func 35), args := #[Operand.tmp 14], argTypes := #[33] }, type := 9, pos := "law.go:78", after := #[{ on := 0, ground := Ground.data }], guard := none },
  { dst := some 16, op := Op.load 33 (Operand.tmp 3), type := 33, pos := "law.go:78", after := #[], guard := none },
  { dst := some 17, op := Op.call { callee := Callee.value (Operand.func 36), args := #[Operand.tmp 16], argTypes := #[33] }, type := 9, pos := "law.go:78", after := #[{ on := 2, ground := Ground.data }, { on := 1, ground := Ground.chain }], guard := none },
  { dst := some 18, op := Op.binOp BinOp.neq 9 (Operand.tmp 15) (Operand.tmp 17) 9, type := 4, pos := "law.go:78", after := #[{ on := 1, ground := Ground.data }, { on := 3, ground := Ground.data }], guard := none }]
def dst_la5 (i : Nat) : Option Nat := (ops_la5[i]?).bind (·.dst)
theorem inj_la5 : ∀ i, i < 5 → ∀ k, k < 5 → dst_la5 i ≠ none → dst_la5 i = dst_la5 k → i = k := by decide +kernel
theorem lt_la5 : ∀ i, i < 5 → (dst_la5 i).getD 0 < 73 := by decide +kernel
theorem low_la5 : ∀ i : Fin 5, ∀ e ∈ (ops_la5[i.1]'(by exact i.2)).after, Region.binds .any e = true → e.on < i.1 := by decide +kernel
def pv_la5 (xb : Nat) (k i : Int) (fv : Value) (la : ByteArray) : List (Value → World → Prop) := [
  fun v w => v = .agg #[.int .i64 k, .int .i64 i, fv],
  fun v w => v = .string la,
  fun v w => v = .agg #[.int .i64 k, .int .i64 i, fv],
  fun v w => v = .string la,
  fun v w => v = .bool false]
set_option maxRecDepth 100000 in
set_option maxHeartbeats 4000000 in
theorem region_la5 (a0 : Act) (w0 : World) (xb : Nat) (k i : Int) (fv : Value) (la : ByteArray) (Q : Exit → Act → World → Prop)
    (hsz : a0.tmps.size = 73) (h3 : a0.tmps[3]? = some (.pointer (some ⟨xb, 0, none⟩)))
    (hE : ∀ W, Below w0.heap.size w0 W → (Instr.loadAt 33 (.pointer (some ⟨xb, 0, none⟩))).run Tryz.prog W = .ok (.agg #[.int .i64 k, .int .i64 i, fv]) W)
    (hC1 : ∀ (W : World) (_ : Below w0.heap.size w0 W), Calls Tryz.prog 35 #[.agg #[.int .i64 k, .int .i64 i, fv]] W fun e w => ∃ v, e = .returned v ∧ (v = .string la) ∧ Below W.heap.size W w)
    (hC3 : ∀ (W : World) (_ : Below w0.heap.size w0 W), Calls Tryz.prog 36 #[.agg #[.int .i64 k, .int .i64 i, fv]] W fun e w => ∃ v, e = .returned v ∧ (v = .string la) ∧ Below W.heap.size W w)
    (hQ : ∀ (y0 y1 y2 y3 y4 : Value) (w : World), Below w0.heap.size w0 w → ((fun (v : Value) (w : World) => v = .bool false) y4 w) → Q .normal { a0 with tmps := [(14, y0), (15, y1), (16, y2), (17, y3), (18, y4)].foldl (fun u p => u.setIfInBounds p.1 p.2) a0.tmps } w) :
    wpAny Tryz.prog .any ops_la5 Q ops_la5.size (Array.replicate ops_la5.size false) a0 w0 := by
  have M : AllM (pv_la5 xb k i fv la) := ⟨fun v x y hb h => h, fun v x y hb h => h, fun v x y hb h => h, fun v x y hb h => h, fun v x y hb h => h, trivial⟩
  refine wpAny_mono a0 w0 dst_la5 (pvL (pv_la5 xb k i fv la)) (fun x y => Below x.heap.size x y) (Below.refl _ _) (fun x y h g => h.trans (g.mono h.size)) (fun i v x y _ g h => pvL_mono M g h)
    (fun i o ho => by unfold dst_la5; rw [ho]; rfl)
    (fun i k d hi hk h1 h2 => inj_la5 i hi k hk (by rw [h1]; intro q; cases q) (by rw [h1, h2]))
    (fun i d hi h => by have := lt_la5 i hi; rw [h] at this; rw [hsz]; exact this)
    (fun i o e ho he hb => by
      obtain ⟨hi, rfl⟩ := Array.getElem?_eq_some_iff.1 ho
      exact low_la5 ⟨i, hi⟩ e he hb)
    ?step (fun w _ => Below.refl _ _) ?fin
  case fin =>
    intro a w hd hs hf hv hR
    obtain ⟨y0, hy0, pv0⟩ := hv 0 14 (by decide) rfl
    obtain ⟨y1, hy1, pv1⟩ := hv 1 15 (by decide) rfl
    obtain ⟨y2, hy2, pv2⟩ := hv 2 16 (by decide) rfl
    obtain ⟨y3, hy3, pv3⟩ := hv 3 17 (by decide) rfl
    obtain ⟨y4, hy4, pv4⟩ := hv 4 18 (by decide) rfl
    rw [act_set' (a := a) (a0 := a0) [(14, y0), (15, y1), (16, y2), (17, y3), (18, y4)] hd hs (by
      intro p hp
      simp only [List.mem_cons, List.not_mem_nil, or_false] at hp
      rcases hp with rfl | rfl | rfl | rfl | rfl
      · exact hy0
      · exact hy1
      · exact hy2
      · exact hy3
      · exact hy4
      ) (fun j hj => hf j (fun k hk q => hj (by
        have : ∀ k, k < 5 → (dst_la5 k).all (fun d => [14, 15, 16, 17, 18].contains d) = true := by decide +kernel
        have h1 := this k hk
        rw [q] at h1
        simpa using h1)))]
    exact hQ y0 y1 y2 y3 y4 w hR pv4
  case step =>
    intro i o a w ho hs hf dep hR
    have hi : i < 5 := (Array.getElem?_eq_some_iff.1 ho).1
    have e3 := evT ((hf 3 (by decide +kernel)).trans h3)
    rcases (by omega : i = 0 ∨ i = 1 ∨ i = 2 ∨ i = 3 ∨ i = 4) with rfl | rfl | rfl | rfl | rfl
    · have ho2 : some _ = some o := ho
      obtain rfl := Option.some.inj ho2
      exact .inl ⟨wantN rfl, fun K hK => mo_loadv (hE w hR) rfl e3 (hK _ _ (Below.refl _ _) rfl)⟩
    · have ho2 : some _ = some o := ho
      obtain rfl := Option.some.inj ho2
      obtain ⟨_, hv0, rfl⟩ : ∃ v, a.tmps[14]? = some v ∧ (fun (v : Value) (w : World) => v = .agg #[.int .i64 k, .int .i64 i, fv]) v w := dep ⟨0, Ground.data⟩ (by first | simp | simp [ops_la5]) rfl 14 rfl
      exact .inl ⟨wantN rfl, fun K hK => mo_call1 35 rfl (evT hv0) (enters_of (P := Tryz.prog) Tryz.func35 (by kernel_rfl) rfl) (hC1 w hR) (fun v w' h => hK v w' h.2 h.1)⟩
    · have ho2 : some _ = some o := ho
      obtain rfl := Option.some.inj ho2
      exact .inl ⟨wantN rfl, fun K hK => mo_loadv (hE w hR) rfl e3 (hK _ _ (Below.refl _ _) rfl)⟩
    · have ho2 : some _ = some o := ho
      obtain rfl := Option.some.inj ho2
      obtain ⟨_, hv2, rfl⟩ : ∃ v, a.tmps[16]? = some v ∧ (fun (v : Value) (w : World) => v = .agg #[.int .i64 k, .int .i64 i, fv]) v w := dep ⟨2, Ground.data⟩ (by first | simp | simp [ops_la5]) rfl 16 rfl
      exact .inl ⟨wantN rfl, fun K hK => mo_call1 36 rfl (evT hv2) (enters_of (P := Tryz.prog) Tryz.func36 (by kernel_rfl) rfl) (hC3 w hR) (fun v w' h => hK v w' h.2 h.1)⟩
    · have ho2 : some _ = some o := ho
      obtain rfl := Option.some.inj ho2
      obtain ⟨_, hv1, rfl⟩ : ∃ v, a.tmps[15]? = some v ∧ (fun (v : Value) (w : World) => v = .string la) v w := dep ⟨1, Ground.data⟩ (by first | simp | simp [ops_la5]) rfl 15 rfl
      obtain ⟨_, hv3, rfl⟩ : ∃ v, a.tmps[17]? = some v ∧ (fun (v : Value) (w : World) => v = .string la) v w := dep ⟨3, Ground.data⟩ (by first | simp | simp [ops_la5]) rfl 17 rfl
      exact .inl ⟨wantN rfl, fun K hK => mo_neqS rfl (evT hv1) (evT hv3) (hK _ _ (Below.refl _ _) (congrArg Value.bool (by simp)))⟩
def ops_re5 : List Oper := [
  { dst := some 11, op := Op.move (Operand.tmp 3), type := 9, pos := "ref.go:69", after := #[], guard := none },
  { dst := some 12, op := Op.move (Operand.tmp 0), type := 22, pos := "ref.go:69", after := #[], guard := none },
  { dst := some 13, op := Op.move (Operand.tmp 4), type := 3, pos := "ref.go:69", after := #[], guard := none },
  { dst := some 14, op := Op.indexAddr 22 (Operand.tmp 12) (Operand.tmp 13), type := 0, pos := "ref.go:69", after := #[{ on := 1, ground := Ground.data }, { on := 2, ground := Ground.data }], guard := none },
  { dst := some 15, op := Op.load 33 (Operand.tmp 14), type := 33, pos := "ref.go:69", after := #[{ on := 3, ground := Ground.data }], guard := none },
  { dst := some 16, op := Op.call { callee := Callee.value (Operand.func 36), args := #[Operand.tmp 15], argTypes := #[33] }, type := 9, pos := "ref.go:69", after := #[{ on := 4, ground := Ground.data }], guard := none },
  { dst := some 17, op := Op.binOp BinOp.add 9 (Operand.tmp 11) (Operand.tmp 16) 9, type := 9, pos := "ref.go:69", after := #[{ on := 0, ground := Ground.data }, { on := 5, ground := Ground.data }], guard := none },
  { dst := some 18, op := Op.binOp BinOp.add 9 (Operand.tmp 17) (Operand.const (Value.string { data := #[10] })) 9, type := 9, pos := "ref.go:69", after := #[{ on := 6, ground := Ground.data }], guard := none },
  { dst := some 19, op := Op.move (Operand.tmp 0), type := 22, pos := "ref.go:69", after := #[], guard := none },
  { dst := some 20, op := Op.move (Operand.tmp 4), type := 3, pos := "ref.go:69", after := #[], guard := none },
  { dst := some 21, op := Op.indexAddr 22 (Operand.tmp 19) (Operand.tmp 20), type := 0, pos := "ref.go:69", after := #[{ on := 8, ground := Ground.data }, { on := 9, ground := Ground.data }], guard := none },
  { dst := some 22, op := Op.fieldAddr 33 (Operand.tmp 21) 2, type := 0, pos := "ref.go:69", after := #[{ on := 10, ground := Ground.data }], guard := none },
  { dst := some 23, op := Op.load 31 (Operand.tmp 22), type := 31, pos := "ref.go:69", after := #[{ on := 11, ground := Ground.data }], guard := none },
  { dst := some 24, op := Op.call { callee := Callee.value (Operand.func 73), args := #[Operand.tmp 23], argTypes := #[31] }, type := 9, pos := "ref.go:69", after := #[{ on := 12, ground := Ground.data }, { on := 5, ground := Ground.chain }], guard := none },
  { dst := some 25, op := Op.call { callee := Callee.value (Operand.func 72), args := #[Operand.tmp 24, Operand.const (Value.string { data := #[32, 32] })], argTypes := #[9, 9] }, type := 9, pos := "ref.go:69", after := #[{ on := 13, ground := Ground.data }, { on := 13, ground := Ground.chain }], guard := none },
  { dst := some 26, op := Op.binOp BinOp.add 9 (Operand.tmp 18) (Operand.tmp 25) 9, type := 9, pos := "ref.go:69", after := #[{ on := 7, ground := Ground.data }, { on := 14, ground := Ground.data }], guard := none },
  { dst := some 3, op := Op.assign (Operand.tmp 26), type := 9, pos := "ref.go:69", after := #[{ on := 15, ground := Ground.data }, { on := 14, ground := Ground.chain }, { on := 0, ground := Ground.phase }, { on := 1, ground := Ground.phase }, { on := 2, ground := Ground.phase }, { on := 3, ground := Ground.phase }, { on := 4, ground := Ground.phase }, { on := 5, ground := Ground.phase }, { on := 6, ground := Ground.phase }, { on := 7, ground := Ground.phase }, { on := 8, ground := Ground.phase }, { on := 9, ground := Ground.phase }, { on := 10, ground := Ground.phase }, { on := 11, ground := Ground.phase }, { on := 12, ground := Ground.phase }, { on := 13, ground := Ground.phase }, { on := 14, ground := Ground.phase }, { on := 15, ground := Ground.phase }], guard := none }]
def dst_re5 (i : Nat) : Option Nat := (ops_re5[i]?).bind (·.dst)
theorem inj_re5 : ∀ i, i < 16 → ∀ k, k < 16 → dst_re5 i ≠ none → dst_re5 i = dst_re5 k → i = k := by decide +kernel
theorem lt_re5 : ∀ i, i < 16 → (dst_re5 i).getD 0 < 28 := by decide +kernel
theorem low_re5 : ∀ i : Fin 17, ∀ e ∈ (ops_re5[i.1]'(by exact i.2)).after, Region.binds .any e = true → e.on < i.1 := by decide +kernel
def pv_re5 (b off n c j : Nat) (k i : Int) (fv : Value) (acc la fo ind : ByteArray) : List (Value → World → Prop) := [
  fun v w => v = .string acc,
  fun v w => v = .slice (some ⟨b, off, none⟩) n c,
  fun v w => v = .int .i64 (j : Nat),
  fun v w => v = .pointer (some ⟨b, off + j * 3, none⟩),
  fun v w => v = .agg #[.int .i64 k, .int .i64 i, fv],
  fun v w => v = .string la,
  fun v w => v = .string (acc ++ la),
  fun v w => v = .string (acc ++ la ++ ⟨#[10]⟩),
  fun v w => v = .slice (some ⟨b, off, none⟩) n c,
  fun v w => v = .int .i64 (j : Nat),
  fun v w => v = .pointer (some ⟨b, off + j * 3, none⟩),
  fun v w => v = .pointer (some ⟨b, off + j * 3 + 2, none⟩),
  fun v w => v = fv,
  fun v w => v = .string fo,
  fun v w => v = .string ind,
  fun v w => v = .string (acc ++ la ++ ⟨#[10]⟩ ++ ind)]
set_option maxRecDepth 100000 in
set_option maxHeartbeats 4000000 in
theorem region_re5 (a0 : Act) (w0 : World) (b off n c j : Nat) (k i : Int) (fv : Value) (acc la fo ind : ByteArray) (Q : Exit → Act → World → Prop)
    (hsz : a0.tmps.size = 28) (h3 : a0.tmps[3]? = some (.string acc)) (h0 : a0.tmps[0]? = some (.slice (some ⟨b, off, none⟩) n c)) (h4 : a0.tmps[4]? = some (.int .i64 (j : Nat)))
    (hj : j < n) (hE : ∀ W, Below w0.heap.size w0 W → (Instr.loadAt 33 (.pointer (some ⟨b, off + j * 3, none⟩))).run Tryz.prog W = .ok (.agg #[.int .i64 k, .int .i64 i, fv]) W ∧ (Instr.loadAt 31 (.pointer (some ⟨b, off + j * 3 + 2, none⟩))).run Tryz.prog W = .ok fv W)
    (s1 : acc.size ≤ 100000000) (s2 : la.size ≤ 1000000) (s3 : ind.size ≤ 1000000)
    (hC5 : ∀ (W : World) (_ : Below w0.heap.size w0 W), Calls Tryz.prog 36 #[.agg #[.int .i64 k, .int .i64 i, fv]] W fun e w => ∃ v, e = .returned v ∧ (v = .string la) ∧ Below W.heap.size W w)
    (hC13 : ∀ (W : World) (_ : Below w0.heap.size w0 W), Calls Tryz.prog 73 #[fv] W fun e w => ∃ v, e = .returned v ∧ (v = .string fo) ∧ Below W.heap.size W w)
    (hC14 : ∀ (W : World) (_ : Below w0.heap.size w0 W), Calls Tryz.prog 72 #[.string fo, Value.string { data := #[32, 32] }] W fun e w => ∃ v, e = .returned v ∧ (v = .string ind) ∧ Below W.heap.size W w)
    (hQ : ∀ (y0 y1 y2 y3 y4 y5 y6 y7 y8 y9 y10 y11 y12 y13 y14 y15 : Value) (w : World), Below w0.heap.size w0 w → ((fun (v : Value) (w : World) => v = .string (acc ++ la ++ ⟨#[10]⟩ ++ ind)) y15 w) → wpList Tryz.prog ops_re5.toArray Q [{ dst := some 3, op := Op.assign (Operand.tmp 26), type := 9, pos := "ref.go:69", after := #[{ on := 15, ground := Ground.data }, { on := 14, ground := Ground.chain }, { on := 0, ground := Ground.phase }, { on := 1, ground := Ground.phase }, { on := 2, ground := Ground.phase }, { on := 3, ground := Ground.phase }, { on := 4, ground := Ground.phase }, { on := 5, ground := Ground.phase }, { on := 6, ground := Ground.phase }, { on := 7, ground := Ground.phase }, { on := 8, ground := Ground.phase }, { on := 9, ground := Ground.phase }, { on := 10, ground := Ground.phase }, { on := 11, ground := Ground.phase }, { on := 12, ground := Ground.phase }, { on := 13, ground := Ground.phase }, { on := 14, ground := Ground.phase }, { on := 15, ground := Ground.phase }], guard := none }] { a0 with tmps := [(11, y0), (12, y1), (13, y2), (14, y3), (15, y4), (16, y5), (17, y6), (18, y7), (19, y8), (20, y9), (21, y10), (22, y11), (23, y12), (24, y13), (25, y14), (26, y15)].foldl (fun u p => u.setIfInBounds p.1 p.2) a0.tmps } w) :
    wpAny Tryz.prog .any ops_re5.toArray Q ops_re5.toArray.size (Array.replicate ops_re5.toArray.size false) a0 w0 := by
  have M : AllM (pv_re5 b off n c j k i fv acc la fo ind) := ⟨fun v x y hb h => h, fun v x y hb h => h, fun v x y hb h => h, fun v x y hb h => h, fun v x y hb h => h, fun v x y hb h => h, fun v x y hb h => h, fun v x y hb h => h, fun v x y hb h => h, fun v x y hb h => h, fun v x y hb h => h, fun v x y hb h => h, fun v x y hb h => h, fun v x y hb h => h, fun v x y hb h => h, fun v x y hb h => h, trivial⟩
  refine wpAny_mono_tail 16 1 (by kernel_rfl) (by decide) a0 w0 dst_re5 (pv_re5 b off n c j k i fv acc la fo ind) M (by kernel_rfl) (by kernel_rfl) (by kernel_rfl)
    (fun i o _ ho => by unfold dst_re5; rw [ho]; rfl)
    (fun i k d hi hk h1 h2 => inj_re5 i hi k hk (by rw [h1]; intro q; cases q) (by rw [h1, h2]))
    (fun i d hi h => by have := lt_re5 i hi; rw [h] at this; rw [hsz]; exact this)
    (fun i o e ho he hb => by
      obtain ⟨hi, rfl⟩ := List.getElem?_eq_some_iff.1 ho
      exact low_re5 ⟨i, hi⟩ e he hb)
    ?step ?fin
  case fin =>
    intro a w hd hs hf hv hR
    obtain ⟨y0, hy0, pv0⟩ := hv 0 11 (by decide) rfl
    obtain ⟨y1, hy1, pv1⟩ := hv 1 12 (by decide) rfl
    obtain ⟨y2, hy2, pv2⟩ := hv 2 13 (by decide) rfl
    obtain ⟨y3, hy3, pv3⟩ := hv 3 14 (by decide) rfl
    obtain ⟨y4, hy4, pv4⟩ := hv 4 15 (by decide) rfl
    obtain ⟨y5, hy5, pv5⟩ := hv 5 16 (by decide) rfl
    obtain ⟨y6, hy6, pv6⟩ := hv 6 17 (by decide) rfl
    obtain ⟨y7, hy7, pv7⟩ := hv 7 18 (by decide) rfl
    obtain ⟨y8, hy8, pv8⟩ := hv 8 19 (by decide) rfl
    obtain ⟨y9, hy9, pv9⟩ := hv 9 20 (by decide) rfl
    obtain ⟨y10, hy10, pv10⟩ := hv 10 21 (by decide) rfl
    obtain ⟨y11, hy11, pv11⟩ := hv 11 22 (by decide) rfl
    obtain ⟨y12, hy12, pv12⟩ := hv 12 23 (by decide) rfl
    obtain ⟨y13, hy13, pv13⟩ := hv 13 24 (by decide) rfl
    obtain ⟨y14, hy14, pv14⟩ := hv 14 25 (by decide) rfl
    obtain ⟨y15, hy15, pv15⟩ := hv 15 26 (by decide) rfl
    rw [act_set' (a := a) (a0 := a0) [(11, y0), (12, y1), (13, y2), (14, y3), (15, y4), (16, y5), (17, y6), (18, y7), (19, y8), (20, y9), (21, y10), (22, y11), (23, y12), (24, y13), (25, y14), (26, y15)] hd hs (by
      intro p hp
      simp only [List.mem_cons, List.not_mem_nil, or_false] at hp
      rcases hp with rfl | rfl | rfl | rfl | rfl | rfl | rfl | rfl | rfl | rfl | rfl | rfl | rfl | rfl | rfl | rfl
      · exact hy0
      · exact hy1
      · exact hy2
      · exact hy3
      · exact hy4
      · exact hy5
      · exact hy6
      · exact hy7
      · exact hy8
      · exact hy9
      · exact hy10
      · exact hy11
      · exact hy12
      · exact hy13
      · exact hy14
      · exact hy15
      ) (fun j hj => hf j (fun k hk q => hj (by
        have : ∀ k, k < 16 → (dst_re5 k).all (fun d => [11, 12, 13, 14, 15, 16, 17, 18, 19, 20, 21, 22, 23, 24, 25, 26].contains d) = true := by decide +kernel
        have h1 := this k hk
        rw [q] at h1
        simpa using h1)))]
    exact hQ y0 y1 y2 y3 y4 y5 y6 y7 y8 y9 y10 y11 y12 y13 y14 y15 w hR pv15
  case step =>
    intro i o a w hi ho hs hf dep hR
    have e3 := evT ((hf 3 (by decide +kernel)).trans h3)
    have e0 := evT ((hf 0 (by decide +kernel)).trans h0)
    have e4 := evT ((hf 4 (by decide +kernel)).trans h4)
    rcases (by omega : i = 0 ∨ i = 1 ∨ i = 2 ∨ i = 3 ∨ i = 4 ∨ i = 5 ∨ i = 6 ∨ i = 7 ∨ i = 8 ∨ i = 9 ∨ i = 10 ∨ i = 11 ∨ i = 12 ∨ i = 13 ∨ i = 14 ∨ i = 15) with rfl | rfl | rfl | rfl | rfl | rfl | rfl | rfl | rfl | rfl | rfl | rfl | rfl | rfl | rfl | rfl
    · have ho2 : some _ = some o := ho
      obtain rfl := Option.some.inj ho2
      exact .inl ⟨wantN rfl, fun K hK => mo_move rfl e3 (hK _ _ (Below.refl _ _) rfl)⟩
    · have ho2 : some _ = some o := ho
      obtain rfl := Option.some.inj ho2
      exact .inl ⟨wantN rfl, fun K hK => mo_move rfl e0 (hK _ _ (Below.refl _ _) rfl)⟩
    · have ho2 : some _ = some o := ho
      obtain rfl := Option.some.inj ho2
      exact .inl ⟨wantN rfl, fun K hK => mo_move rfl e4 (hK _ _ (Below.refl _ _) rfl)⟩
    · have ho2 : some _ = some o := ho
      obtain rfl := Option.some.inj ho2
      obtain ⟨_, hv1, rfl⟩ : ∃ v, a.tmps[12]? = some v ∧ (fun (v : Value) (w : World) => v = .slice (some ⟨b, off, none⟩) n c) v w := dep ⟨1, Ground.data⟩ (by first | simp | simp [ops_re5]) rfl 12 rfl
      obtain ⟨_, hv2, rfl⟩ : ∃ v, a.tmps[13]? = some v ∧ (fun (v : Value) (w : World) => v = .int .i64 (j : Nat)) v w := dep ⟨2, Ground.data⟩ (by first | simp | simp [ops_re5]) rfl 13 rfl
      exact .inl ⟨wantN rfl, fun K hK => mo_index (idx_eds hj) rfl (evT hv1) (evT hv2) (hK _ _ (Below.refl _ _) rfl)⟩
    · have ho2 : some _ = some o := ho
      obtain rfl := Option.some.inj ho2
      obtain ⟨_, hv3, rfl⟩ : ∃ v, a.tmps[14]? = some v ∧ (fun (v : Value) (w : World) => v = .pointer (some ⟨b, off + j * 3, none⟩)) v w := dep ⟨3, Ground.data⟩ (by first | simp | simp [ops_re5]) rfl 14 rfl
      exact .inl ⟨wantN rfl, fun K hK => mo_loadv (hE w hR).1 rfl (evT hv3) (hK _ _ (Below.refl _ _) rfl)⟩
    · have ho2 : some _ = some o := ho
      obtain rfl := Option.some.inj ho2
      obtain ⟨_, hv4, rfl⟩ : ∃ v, a.tmps[15]? = some v ∧ (fun (v : Value) (w : World) => v = .agg #[.int .i64 k, .int .i64 i, fv]) v w := dep ⟨4, Ground.data⟩ (by first | simp | simp [ops_re5]) rfl 15 rfl
      exact .inl ⟨wantN rfl, fun K hK => mo_call1 36 rfl (evT hv4) (enters_of (P := Tryz.prog) Tryz.func36 (by kernel_rfl) rfl) (hC5 w hR) (fun v w' h => hK v w' h.2 h.1)⟩
    · have ho2 : some _ = some o := ho
      obtain rfl := Option.some.inj ho2
      obtain ⟨_, hv0, rfl⟩ : ∃ v, a.tmps[11]? = some v ∧ (fun (v : Value) (w : World) => v = .string acc) v w := dep ⟨0, Ground.data⟩ (by first | simp | simp [ops_re5]) rfl 11 rfl
      obtain ⟨_, hv5, rfl⟩ : ∃ v, a.tmps[16]? = some v ∧ (fun (v : Value) (w : World) => v = .string la) v w := dep ⟨5, Ground.data⟩ (by first | simp | simp [ops_re5]) rfl 16 rfl
      exact .inl ⟨wantN rfl, fun K hK => mo_addS rfl (evT hv0) (evT hv5) (by omega) (by omega) (hK _ _ (Below.refl _ _) rfl)⟩
    · have ho2 : some _ = some o := ho
      obtain rfl := Option.some.inj ho2
      obtain ⟨_, hv6, rfl⟩ : ∃ v, a.tmps[17]? = some v ∧ (fun (v : Value) (w : World) => v = .string (acc ++ la)) v w := dep ⟨6, Ground.data⟩ (by first | simp | simp [ops_re5]) rfl 17 rfl
      exact .inl ⟨wantN rfl, fun K hK => mo_addS rfl (evT hv6) rfl (by rw [ByteArray.size_append]; omega) (by decide) (hK _ _ (Below.refl _ _) rfl)⟩
    · have ho2 : some _ = some o := ho
      obtain rfl := Option.some.inj ho2
      exact .inl ⟨wantN rfl, fun K hK => mo_move rfl e0 (hK _ _ (Below.refl _ _) rfl)⟩
    · have ho2 : some _ = some o := ho
      obtain rfl := Option.some.inj ho2
      exact .inl ⟨wantN rfl, fun K hK => mo_move rfl e4 (hK _ _ (Below.refl _ _) rfl)⟩
    · have ho2 : some _ = some o := ho
      obtain rfl := Option.some.inj ho2
      obtain ⟨_, hv8, rfl⟩ : ∃ v, a.tmps[19]? = some v ∧ (fun (v : Value) (w : World) => v = .slice (some ⟨b, off, none⟩) n c) v w := dep ⟨8, Ground.data⟩ (by first | simp | simp [ops_re5]) rfl 19 rfl
      obtain ⟨_, hv9, rfl⟩ : ∃ v, a.tmps[20]? = some v ∧ (fun (v : Value) (w : World) => v = .int .i64 (j : Nat)) v w := dep ⟨9, Ground.data⟩ (by first | simp | simp [ops_re5]) rfl 20 rfl
      exact .inl ⟨wantN rfl, fun K hK => mo_index (idx_eds hj) rfl (evT hv8) (evT hv9) (hK _ _ (Below.refl _ _) rfl)⟩
    · have ho2 : some _ = some o := ho
      obtain rfl := Option.some.inj ho2
      obtain ⟨_, hv10, rfl⟩ : ∃ v, a.tmps[21]? = some v ∧ (fun (v : Value) (w : World) => v = .pointer (some ⟨b, off + j * 3, none⟩)) v w := dep ⟨10, Ground.data⟩ (by first | simp | simp [ops_re5]) rfl 21 rfl
      exact .inl ⟨wantN rfl, fun K hK => mo_field (by simp [go_sem]) rfl (evT hv10) (hK _ _ (Below.refl _ _) rfl)⟩
    · have ho2 : some _ = some o := ho
      obtain rfl := Option.some.inj ho2
      obtain ⟨_, hv11, rfl⟩ : ∃ v, a.tmps[22]? = some v ∧ (fun (v : Value) (w : World) => v = .pointer (some ⟨b, off + j * 3 + 2, none⟩)) v w := dep ⟨11, Ground.data⟩ (by first | simp | simp [ops_re5]) rfl 22 rfl
      exact .inl ⟨wantN rfl, fun K hK => mo_loadv (hE w hR).2 rfl (evT hv11) (hK _ _ (Below.refl _ _) rfl)⟩
    · have ho2 : some _ = some o := ho
      obtain rfl := Option.some.inj ho2
      obtain ⟨_, hv12, rfl⟩ : ∃ v, a.tmps[23]? = some v ∧ (fun (v : Value) (w : World) => v = fv) v w := dep ⟨12, Ground.data⟩ (by first | simp | simp [ops_re5]) rfl 23 rfl
      exact .inl ⟨wantN rfl, fun K hK => mo_call1 73 rfl (evT hv12) (enters_of (P := Tryz.prog) Tryz.func73 (by kernel_rfl) rfl) (hC13 w hR) (fun v w' h => hK v w' h.2 h.1)⟩
    · have ho2 : some _ = some o := ho
      obtain rfl := Option.some.inj ho2
      obtain ⟨_, hv13, rfl⟩ : ∃ v, a.tmps[24]? = some v ∧ (fun (v : Value) (w : World) => v = .string fo) v w := dep ⟨13, Ground.data⟩ (by first | simp | simp [ops_re5]) rfl 24 rfl
      exact .inl ⟨wantN rfl, fun K hK => mo_call2 72 rfl (evT hv13) rfl (enters_of (P := Tryz.prog) Tryz.func72 (by kernel_rfl) rfl) (hC14 w hR) (fun v w' h => hK v w' h.2 h.1)⟩
    · have ho2 : some _ = some o := ho
      obtain rfl := Option.some.inj ho2
      obtain ⟨_, hv7, rfl⟩ : ∃ v, a.tmps[18]? = some v ∧ (fun (v : Value) (w : World) => v = .string (acc ++ la ++ ⟨#[10]⟩)) v w := dep ⟨7, Ground.data⟩ (by first | simp | simp [ops_re5]) rfl 18 rfl
      obtain ⟨_, hv14, rfl⟩ : ∃ v, a.tmps[25]? = some v ∧ (fun (v : Value) (w : World) => v = .string ind) v w := dep ⟨14, Ground.data⟩ (by first | simp | simp [ops_re5]) rfl 25 rfl
      exact .inl ⟨wantN rfl, fun K hK => mo_addS rfl (evT hv7) (evT hv14) (by rw [ByteArray.size_append, ByteArray.size_append]; show _ + 1 ≤ _; omega) (by omega) (hK _ _ (Below.refl _ _) rfl)⟩
end Go.Proofs.YtkcklnnmcmjnjaaGreatDoor

namespace Go.Proofs.YtkcklnnmcmjnjaaGreatDoor
open Go.RowKit Go.Shelf
attribute [local go_sem] Oper.semAt_some

theorem light_fines8 {eds : List Ed} (h : Light eds) : Fines8 eds := (h.fines).eight
theorem at_data (l : List UInt8) (i : Nat) : (B l).data[i]? = l[i]? := by simp [B]
set_option maxRecDepth 100000 in
set_option maxHeartbeats 8000000 in
theorem linesLawA (eds : List Ed) (v1 : Value) (k i : Int) (fv : Value) (w : World) (ha : EdsIn w v1 eds) (hi : ∀ ed ∈ eds, I64 ed.id) (hi2 : I64 i) (hT : Tabs w) :
    Calls Tryz.prog 7 #[v1, .agg #[.int .i64 k, .int .i64 i, fv]] w fun e w' => e = .returned (.bool true) ∧ Below w.heap.size w w' := by
  obtain ⟨wa, hwa⟩ : ∃ wa, wa = w.alloc (.cells #[.int .i64 k, .int .i64 i, fv] 33) := ⟨_, rfl⟩
  have hba : Below w.heap.size w wa := by rw [hwa]; exact (Below.refl _ w).alloc (Nat.le_refl _) _
  have hwz : wa.heap.size = w.heap.size + 1 := by rw [hwa]; simp
  have CX := Lib.hid (show Cells wa w.heap.size 33 #[.int .i64 k, .int .i64 i, fv] by rw [hwa]; exact Cells.new _ _ _)
  have HBA := Lib.hid hba
  have AL := Lib.hid (aliveA_any wa (hT.below hba (Nat.le_refl _)))
  have HEA := Lib.hid ha
  have HT := Lib.hid hT
  have HI := Lib.hid hi
  obtain ⟨va, vac, rfl, _⟩ : ∃ A c, v1 = .slice A eds.length c ∧ True := by obtain ⟨_, A, c, e, _⟩ := ha; exact ⟨A, c, e, trivial⟩
  clear ha hT hi hba
  subst hwa
  go_enter Tryz.func7, Tryz.ntmps7
  go_wp2_with fail
  refine AL.out.mono ?_
  rintro e w1 ⟨rfl, b1⟩
  have B1 := Lib.hid (HBA.out.trans (b1.mono HBA.out.size))
  have K1 := Lib.hid (cells_kept CX.out b1 (by rw [hwz]; omega))
  have z1 := b1.size
  rw [hwz] at z1
  have HV := Lib.hid (heavy_any eds _ w1 (HEA.out.below B1.out (Nat.le_refl _)))
  clear AL b1 CX
  go_wp2_with fail
  refine HV.out.mono ?_
  rintro e w2 ⟨⟨q, rfl, hq⟩, b2⟩
  have B2 := Lib.hid (B1.out.trans (b2.mono B1.out.size))
  have K2 := Lib.hid (cells_kept K1.out b2 (by omega))
  have z2 := b2.size
  have HQ := Lib.hid hq
  clear HV b2 hq K1
  cases q with
  | true =>
    go_wp2_with fail
    go_ret
    exact ⟨rfl, B2.out⟩
  | false =>
  have LA : Hid (Light eds) := HQ.out (by first | exact rfl | trivial)
  clear HQ
  have la51 : eds.length ≤ 51 := LA.out.1
  have LN1 : Hid (∀ W, Below w.heap.size w W → Calls Tryz.prog 35 #[.agg #[.int .i64 k, .int .i64 i, fv]] W fun e w' => e = .returned (.string (B (lineA k i))) ∧ Below W.heap.size W w') := fun W hW => lineA_any ⟨k, i, []⟩ fv hi2 W (HT.out.below hW (Nat.le_refl _))
  have LN2 : Hid (∀ W, Calls Tryz.prog 36 #[.agg #[.int .i64 k, .int .i64 i, fv]] W fun e w' => e = .returned (.string (B (lineA k i))) ∧ Below W.heap.size W w') := fun W => refLineA_any k i fv hi2 W
  generalize B (lineA k i) = la at *
  go_upto_region 5 with fail
  have HE5 : ∀ W, Below w2.drew.heap.size w2.drew W → (Instr.loadAt 33 (.pointer (some ⟨w.heap.size, 0, none⟩))).run Tryz.prog W = .ok (.agg #[.int .i64 k, .int .i64 i, fv]) W := fun W hW => by
    have hX := cells_kept K2.out (show Below w2.heap.size w2 W from (Below.refl w2.heap.size w2).drew.trans hW) (by omega)
    have c0 := hX.cell 0
    have c1 := hX.cell 1
    have c2 := hX.cell 2
    simp at c0 c1 c2
    simp [go_sem, c0, c1, c2]
  refine wp_region_any (by kernel_rfl) ?_
  refine region_la5 _ w2.drew w.heap.size k i fv la _ rfl rfl HE5 ?h1 ?h3 ?hQ
  case h1 =>
    intro W hW
    exact (LN1.out W (B2.out.trans (((Below.refl w2.heap.size w2).drew.trans hW).mono B2.out.size))).mono fun e w' ⟨he, hb⟩ => ⟨_, he, rfl, hb⟩
  case h3 =>
    intro W hW
    exact (LN2.out W).mono fun e w' ⟨he, hb⟩ => ⟨_, he, rfl, hb⟩
  case hQ =>
  intro y0 y1 y2 y3 y4 w3 hb3 hy4
  have hy4' : y4 = .bool false := hy4
  subst hy4'
  have B3 := Lib.hid (B2.out.trans (((Below.refl w2.heap.size w2).drew.trans hb3).mono B2.out.size))
  have EN := Lib.hid (encode_any eds _ w3 (HEA.out.edv.below B3.out (Nat.le_refl _)) (by omega) (light_fines8 LA.out) HI.out (HT.out.below B3.out (Nat.le_refl _)))
  clear hb3 HE5 LN1 LN2 hy4
  simp only [List.foldl_cons, List.foldl_nil, List.setIfInBounds_toArray, List.set_cons_zero, List.set_cons_succ]
  go_wp2_with fail
  refine EN.out.mono ?_
  rintro e w4 ⟨b4, ⟨h0, rfl⟩ | ⟨h0, u', rfl, hz⟩⟩
  rotate_left
  · have B4 := Lib.hid (B3.out.trans (b4.mono B3.out.size))
    obtain ⟨_, ⟨rfl, hx⟩ | ⟨kk, ⟨q, _, rfl, _⟩, _, _⟩⟩ := hz
    · rw [errV_pos _ (Nat.pos_of_ne_zero h0)]
      clear EN b4 h0 hx
      generalize ((chkB eds).2 : Int) = zz at *
      go_wp2_with fail
      go_ret
      exact ⟨rfl, B4.out⟩
    · clear EN b4 h0
      go_wp2_with fail
      go_ret
      exact ⟨rfl, B4.out⟩
  have B4 := Lib.hid (B3.out.trans (b4.mono B3.out.size))
  obtain ⟨⟨n1, n40⟩, hg⟩ := chkB_good h0
  obtain ⟨ls, hls⟩ : ∃ ls, batchLs eds = ls := ⟨_, rfl⟩
  have hcl := batchLs_clean hg
  have hsp := batchLs_sp hg
  have hne : ls ≠ [] := by
    intro e
    cases eds with
    | nil => simp at n1
    | cons a r => rw [← hls] at e; unfold batchLs edLs at e; rw [List.flatMap_cons] at e; simp at e
  rw [hls] at hcl hsp
  have hT0 : batchT eds = textL ls := by unfold batchT; rw [hls]
  have hlen : (batchT eds).length ≤ 600000 * eds.length := by
    clear hT0 hls hne hcl hsp n1 n40 EN b4 B4 HEA LA la51 h0
    have hi := HI.out
    clear HI
    induction eds with
    | nil => exact Nat.le_refl _
    | cons a r ih =>
      have h1 := edT_le (goodE_F (hg a List.mem_cons_self)) (hi a List.mem_cons_self)
      have h2 := ih (fun x hx => hg x (List.mem_cons_of_mem _ hx)) (fun x hx => hi x (List.mem_cons_of_mem _ hx))
      rw [batchT_cons, List.length_append, List.length_cons]; omega
  rw [hT0] at hlen ⊢
  have hf := text_first hsp hne
  have hl := text_last ls hne
  have hnz : 0 < (textL ls).length := by
    rcases Nat.eq_zero_or_pos (textL ls).length with q | q
    · rw [List.length_eq_zero_iff.1 q] at hf; simp at hf
    · exact q
  have hsz := B_size (textL ls)
  have q0 : ¬ ((B (textL ls)).size = 0) := by omega
  clear EN b4 h0 hT0 hls
  obtain ⟨X, hX⟩ : ∃ X, B (textL ls) = X := ⟨_, rfl⟩
  obtain ⟨m, hL⟩ : ∃ m, (textL ls).length = m + 1 := ⟨(textL ls).length - 1, by omega⟩
  have get : ∀ (j : Nat) (c : UInt8), (textL ls)[j]? = some c → ∀ h : j < X.size, X[j]'h = c := fun j c hj h => by
    subst hX
    have h2 : j < (textL ls).length := by rw [B_size] at h; exact h
    rw [List.getElem?_eq_getElem h2] at hj
    rw [← Option.some.inj hj]
    show (B (textL ls)).data[j] = _
    simp [B]
  have hx0 := get 0 32 hf
  have hxl := get m 10 (by rw [← hl, hL]; rfl)
  rw [hX] at hsz q0 ⊢
  rw [hL] at hsz hlen hnz
  have hz0 : ((m : Int) + 1 == 0) = false := by simp; omega
  have hw1 : IntKind.i64.wrap ((m : Int) + 1 - 1) = (m : Int) := by rw [show (m : Int) + 1 - 1 = m by omega]; exact IntWalk.i64_in _ (by omega)
  have hb1 : (0 : Int) ≤ (m : Int) := by omega
  have hb2 : (m : Int) < (m : Int) + 1 := by omega
  have AFT : Hid (∀ (j : Nat) (h1 : j < X.size) (h2 : j + 1 < X.size), X[j]'h1 = 10 → X[j + 1]'h2 = 32) := by
    intro j h1 h2 he
    have hj : j < (textL ls).length := by omega
    have hj2 : j + 1 < (textL ls).length := by omega
    have e1 : (textL ls)[j]? = some 10 := by
      rw [List.getElem?_eq_getElem hj, ← get j _ (List.getElem?_eq_getElem hj) h1, he]
    rcases text_after ls hcl hsp j e1 with q | q
    · rw [List.getElem?_eq_getElem hj2] at q; cases q
    · exact get (j + 1) 32 q h2
  have DD := Lib.hid (fun W => dedent_any X ⟨#[32]⟩ (by omega) W)
  rw [← hX, B_data, show (⟨#[32]⟩ : ByteArray).data.toList = [32] from rfl, dd_sp hcl hsp] at DD
  have CT1 := Lib.hid (fun W => count_any X W (by omega))
  rw [← hX, B_data, lines_len hcl] at CT1
  have CT2 : Hid (∀ W, Calls Tryz.prog 38 #[.string ⟨(textL (ls.map List.tail)).toArray⟩] W fun e w' => e = .returned (.int .i64 ls.length) ∧ Below W.heap.size W w') := fun W => by
    have hle : (textL (ls.map List.tail)).length ≤ m + 1 := by
      rw [← hL, textL_len, textL_len, List.length_map]
      have : ((ls.map List.tail).map List.length).sum ≤ (ls.map List.length).sum := by
        clear AFT DD CT1 hcl hsp hne hf hl hL hx0 hxl get hX
        induction ls with
        | nil => exact Nat.le_refl _
        | cons a r ih => simp only [List.map_cons, List.sum_cons, List.length_tail]; omega
      omega
    have := count_any (B (textL (ls.map List.tail))) W (by rw [B_size]; omega)
    rw [B_data, lines_len (tails_clean hcl), List.length_map] at this
    exact this
  rw [hX] at DD CT1
  have B4' := B4.out
  clear hX hf hl hL get q0 hcl hsp hne hnz
  generalize (⟨(textL (ls.map List.tail)).toArray⟩ : ByteArray) = Y at *
  generalize ls.length = ln at *
  go_wp2_with fail
  go_loopw [45] (fun i wr => ∃ j : Nat, j ≤ m ∧ i = .int .i64 j ∧ wr = w4) (fun i _ => m - (intOf i).toNat)
  case atStart => exact ⟨0, Nat.zero_le _, rfl, rfl⟩
  case round =>
    obtain ⟨j, hj, rfl, hwr⟩ := hrel
    subst hwr
    by_cases hjm : j < m
    · have h1 : j < X.size := by omega
      have h2 : j + 1 < X.size := by omega
      obtain ⟨c, hc⟩ : ∃ c, X[j]'h1 = c := ⟨_, rfl⟩
      have hw2 : IntKind.i64.wrap ((j : Int) + 1) = (j : Int) + 1 := IntWalk.i64_in _ (by omega)
      have hg : ∀ h, X[j]'h = c := fun h => hc
      have b1 : (j : Int) < (m : Int) + 1 := by omega
      have b2 : (j : Int) + 1 < (m : Int) + 1 := by omega
      have b3 : (0 : Int) ≤ (j : Int) + 1 := by omega
      have b4 : ((j : Int) + 1).toNat = j + 1 := by omega
      by_cases hten : c = 10
      · subst hten
        have h32 : ∀ h, X[j + 1]'h = 32 := fun h => AFT.out j h1 h2 hc
        clear hc AFT
        go_wp2_with fail
        go_roundw
        case rel => exact ⟨j + 1, hjm, by go_num, by first | trivial | rfl⟩
        case measure => simp [intOf]; omega
      · have hn : (((c.toNat : Nat) : Int) == 10) = false := by
          have : c.toNat ≠ 10 := fun e => hten (UInt8.toNat_inj.1 (by rw [e]; rfl))
          simp; omega
        clear hc AFT
        go_wp2_with fail
        go_roundw
        case rel => exact ⟨j + 1, hjm, by go_num, by first | trivial | rfl⟩
        case measure => simp [intOf]; omega
    · obtain rfl : j = m := by omega
      have DD1 := Lib.hid (DD.out wr)
      clear DD AFT
      go_wp2_with fail
      refine DD1.out.mono ?_
      rintro e w5 ⟨rfl, b5⟩
      have B5 := Lib.hid (B4'.trans (b5.mono B4'.size))
      have C1 := Lib.hid (CT2.out w5)
      clear DD1 b5 CT2
      go_wp2_with fail
      refine C1.out.mono ?_
      rintro e w6 ⟨rfl, b6⟩
      have B6 := Lib.hid (B5.out.trans (b6.mono B5.out.size))
      have C2 := Lib.hid (CT1.out w6)
      clear C1 b6 CT1
      go_wp2_with fail
      refine C2.out.mono ?_
      rintro e w7 ⟨rfl, b7⟩
      have B7 := Lib.hid (B6.out.trans (b7.mono B6.out.size))
      clear C2 b7
      go_wp2_with fail
      go_ret
      exact ⟨rfl, B7.out⟩
open Go.Maps Go.ChangeShapes Go.Joins Go.WideShapes in
set_option maxRecDepth 100000 in
/-- .. at a batch and an edit that came in. -/
theorem linesCallA {H : Type} {enc : TypeId × Value → H} (v1 : Value) (d1 : DataW H) (p1 : List MemPlace) (v2 : Value) (d2 : DataW H) (p2 : List MemPlace) (W : World) {b0 : Nat} (hval1 : Value.okWide Tryz.prog W .any b0 22 v1) {base1 : Nat} {sp1 : Nat → Bool} {held1 : Bool} (h1 : DataW.Trod enc Tryz.prog W base1 sp1 held1 22 v1 d1 p1)
    {b2 : Nat} (hval2 : Value.okWide Tryz.prog W .any b2 33 v2) {base2 : Nat} {sp2 : Nat → Bool} {held2 : Bool} (h2 : DataW.Trod enc Tryz.prog W base2 sp2 held2 33 v2 d2 p2) (hT : Tabs W) :
    Calls Tryz.prog 7 #[v1, v2] W fun e w' => e = .returned (.bool true) ∧ Below W.heap.size W w' := by
  obtain ⟨k, i, fv, rfl, hi2⟩ := edit_of v2 d2 p2 W hval2 h2
  obtain ⟨n1, hn1⟩ := h1
  obtain ⟨ao, len, cap, rfl⟩ := okWide_slice Tryz.underlying22 hval1
  obtain ⟨as_, hr1, hi⟩ := edits_inB (v := .slice ao len cap) hn1
  exact linesLawA as_ _ k i fv W hr1 hi hi2 hT
end Go.Proofs.YtkcklnnmcmjnjaaGreatDoor

namespace Go.Proofs.YtkcklnnmcmjnjaaGreatDoor
open Go.RowKit Go.Shelf
attribute [local go_sem] Oper.semAt_some

set_option maxRecDepth 100000 in
set_option maxHeartbeats 4000000 in
theorem refGood_any (ed : Ed) (fv : Value) (w : World) (h : Flds w fv ed.fields) (hf : Fine7 ed.fields) :
    Calls Tryz.prog 46 #[.agg #[.int .i64 ed.kind, .int .i64 ed.id, fv]] w fun e w' => e = .returned (.int .i64 (goodE ed : Nat)) ∧ Below w.heap.size w w' := by
  obtain ⟨fa, fc, rfl, _, _⟩ := _root_.id h
  obtain ⟨wa, hwa⟩ : ∃ wa, wa = w.alloc (.cells #[.int .i64 ed.kind, .int .i64 ed.id, .slice fa ed.fields.length fc] 33) := ⟨_, rfl⟩
  have hba : Below w.heap.size w wa := by rw [hwa]; exact (Below.refl _ w).alloc (Nat.le_refl _) _
  have HC := Lib.hid (refChk_any ed.fields (.slice fa ed.fields.length fc) wa (h.below hba (Nat.le_refl _)) (by have := hf.len; omega) (fun f hm => by have := hf.each f hm; omega))
  have HB := Lib.hid hba
  have GE := Lib.hid (show goodE ed = if ed.kind = 1 ∨ ed.kind = 3 then chkN ed.fields else if ed.kind = 2 ∧ ed.fields.length = 0 then 0 else 2 from rfl)
  clear hba h
  generalize goodE ed = ge at *
  generalize chkN ed.fields = cn at *
  generalize chkAt ed.fields = ca at *
  generalize ed.fields.length = fl at *
  generalize ed.kind = kk at *
  generalize ed.id = ii at *
  by_cases hlo : kk < 1
  · have hg : ge = 2 := by rw [GE.out, if_neg (by omega), if_neg (by omega)]
    subst hg hwa
    go_enter Tryz.func46, Tryz.ntmps46
    go_wp2_with fail
    go_ret
    exact ⟨rfl, HB.out⟩
  · by_cases hhi : 3 < kk
    · have hg : ge = 2 := by rw [GE.out, if_neg (by omega), if_neg (by omega)]
      subst hg hwa
      go_enter Tryz.func46, Tryz.ntmps46
      go_wp2_with fail
      go_ret
      exact ⟨rfl, HB.out⟩
    · by_cases h2 : kk = 2
      · subst h2
        by_cases h0 : fl = 0
        · have hg : ge = 0 := by rw [GE.out, if_neg (by omega), if_pos ⟨rfl, h0⟩]
          subst hg h0 hwa
          go_enter Tryz.func46, Tryz.ntmps46
          go_wp2_with fail
          go_ret
          exact ⟨rfl, HB.out⟩
        · have hg : ge = 2 := by rw [GE.out, if_neg (by omega), if_neg (by omega)]
          have hp : (0 : Int) < (fl : Int) := by omega
          subst hg hwa
          go_enter Tryz.func46, Tryz.ntmps46
          go_wp2_with fail
          go_ret
          exact ⟨rfl, HB.out⟩
      · have hg : ge = cn := by rw [GE.out, if_pos (by omega)]
        have q2 : (kk == 2) = false := by simpa using h2
        subst hg hwa
        go_enter Tryz.func46, Tryz.ntmps46
        go_wp2_with fail
        refine HC.out.mono ?_
        rintro e w2 ⟨rfl, b2⟩
        have B2 := Lib.hid (HB.out.trans (b2.mono HB.out.size))
        clear b2 HC
        go_wp2_with fail
        go_ret
        exact ⟨rfl, B2.out⟩
set_option maxRecDepth 100000 in
set_option maxHeartbeats 4000000 in
theorem refCheckB_any (eds : List Ed) (v : Value) (w : World) (h : EdV w v eds) (hl : eds.length ≤ 1000000) (hf : Fines eds) :
    Calls Tryz.prog 13 #[v] w fun e w' => e = .returned (.tuple #[.int .i64 (chkB eds).1, .int .i64 (chkB eds).2]) ∧ Below w.heap.size w w' := by
  obtain ⟨A, cap, rfl, hle, hc⟩ := h
  have PC := Lib.hid hc
  have HF := Lib.hid hf
  clear hc hf
  by_cases h0 : eds.length < 1
  · have e0 : chkB eds = (-9, 1) := by unfold chkB; rw [if_pos (by omega)]
    have z0 : eds.length = 0 := by omega
    rw [e0, z0]
    go_enter Tryz.func13, Tryz.ntmps13
    go_wp2_with fail
    go_ret2
    exact ⟨rfl, Below.refl _ _⟩
  have q0 : ¬ ((eds.length : Int) < 1) := by omega
  by_cases h40 : 40 < eds.length
  · have e0 : chkB eds = (-9, 1) := by unfold chkB; rw [if_pos (by omega)]
    rw [e0]
    go_enter Tryz.func13, Tryz.ntmps13
    go_wp2_with fail
    go_ret2
    exact ⟨rfl, Below.refl _ _⟩
  have e1 : chkB eds = chkOn 0 eds := by unfold chkB; rw [if_neg (by omega)]
  rw [e1]
  go_enter Tryz.func13, Tryz.ntmps13
  go_wp2_with fail
  go_loopw [4] (fun i wr => ∃ k : Nat, k ≤ eds.length ∧ i = .int .i64 k ∧ (∀ x ∈ eds.take k, goodE x = 0) ∧ Below w.heap.size w wr) (fun i _ => eds.length - (intOf i).toNat)
  case atStart => exact ⟨0, Nat.zero_le _, rfl, (fun x hx => by simp at hx), Below.refl _ _⟩
  case round =>
    obtain ⟨k, hk, rfl, hsm, hb⟩ := hrel
    by_cases hlt : k < eds.length
    · obtain ⟨ed, hed⟩ : ∃ ed, eds[k]? = some ed := ⟨_, List.getElem?_eq_getElem hlt⟩
      obtain ⟨b, off, fv, rfl, hbb, c0, c1, c2, hfl⟩ := PC.out k ed hed
      obtain ⟨fa, fc, rfl, _, _⟩ := _root_.id hfl.1
      replace c0 := (hb.cell (p := ⟨b, off + k * 3, none⟩) hbb).trans c0
      replace c1 := (hb.cell (p := ⟨b, off + k * 3 + 1, none⟩) hbb).trans c1
      replace c2 := (hb.cell (p := ⟨b, off + k * 3 + 1 + 1, none⟩) hbb).trans c2
      have CK := Lib.hid (refGood_any ed (.slice fa ed.fields.length fc) wr (hfl.1.below hb (Nat.le_refl _)) (HF.out ed (List.mem_of_getElem? hed)))
      have SM : Hid (goodE ed = 0 → ∀ x ∈ eds.take (k + 1), goodE x = 0) := fun hz x hx => by
        rw [take_snoc hed] at hx
        rcases List.mem_append.1 hx with hx | hx
        · exact hsm x hx
        · rw [List.mem_singleton.1 hx]; exact hz
      have AT : Hid (goodE ed ≠ 0 → chkOn 0 eds = (((k : Nat) : Int), goodE ed)) := fun hz => by rw [chkOn_at eds 0 k ed hsm hed hz, Nat.zero_add]
      have HBA := Lib.hid hb
      clear hed hsm hfl hb
      generalize goodE ed = ge at *
      go_wp2_with fail
      refine CK.out.mono ?_
      rintro e w2 ⟨rfl, b2⟩
      have B2 := Lib.hid (HBA.out.trans (b2.mono HBA.out.size))
      clear b2 CK
      by_cases hg0 : ge = 0
      · subst hg0
        have SM1 := Lib.hid (SM.out rfl)
        clear SM AT
        go_wp2_with fail
        go_roundw
        case rel => exact ⟨k + 1, hlt, by go_num, SM1.out, B2.out⟩
        case measure => simp [intOf]; omega
      · have AT1 := Lib.hid (AT.out hg0)
        have qn : ((ge : Int) == 0) = false := by simpa using hg0
        have FIN : Hid (Ending.returned (.tuple #[.int .i64 (k : Nat), .int .i64 (ge : Nat)]) = .returned (.tuple #[.int .i64 (chkOn 0 eds).1, .int .i64 (chkOn 0 eds).2])) := by
          show _ = _
          rw [AT1.out]
        clear SM AT AT1
        go_wp2_with fail
        go_ret2
        exact ⟨FIN.out, B2.out⟩
    · obtain rfl : k = eds.length := by omega
      rw [List.take_length] at hsm
      have FIN : Hid (Ending.returned (.tuple #[.int .i64 (-9), .int .i64 0]) = .returned (.tuple #[.int .i64 (chkOn 0 eds).1, .int .i64 (chkOn 0 eds).2])) := by
        show _ = _
        rw [chkOn_all eds 0 hsm]; rfl
      clear PC hsm
      go_wp2_with fail
      go_ret2
      exact ⟨FIN.out, hb⟩
end Go.Proofs.YtkcklnnmcmjnjaaGreatDoor

namespace Go.Proofs.YtkcklnnmcmjnjaaGreatDoor
open Go.RowKit Go.Shelf
attribute [local go_sem] Oper.semAt_some

set_option maxRecDepth 100000 in
set_option maxHeartbeats 8000000 in
theorem edits_quiet (eds : List Ed) (v v' : Value) (w : World) (h : EdV w v eds) (h' : EdV w v' eds) (hn : eds.length ≤ 1000000) (hf : Fines eds) :
    Calls Tryz.prog 19 #[v, v'] w fun e w' => e = .returned (.bool true) ∧ ∃ m, w' = w.drewN m := by
  obtain ⟨A, cap, rfl, hle, hc⟩ := h
  obtain ⟨A', cap', rfl, hle', hc'⟩ := h'
  have PC := Lib.hid hc
  have PC' := Lib.hid hc'
  have HF := Lib.hid hf
  clear hc hc' hf
  go_enter Tryz.func19, Tryz.ntmps19
  go_wp2_with fail
  go_loopw [13] (fun i wr => ∃ k : Nat, k ≤ eds.length ∧ i = .int .i64 k ∧ ∃ m, wr = w.drewN m) (fun i _ => eds.length - (intOf i).toNat)
  case atStart => exact ⟨0, Nat.zero_le _, rfl, 0, rfl⟩
  case round =>
    obtain ⟨k, hk, rfl, nd, hwr⟩ := hrel
    by_cases hlt : k < eds.length
    · obtain ⟨ed, hed⟩ : ∃ ed, eds[k]? = some ed := ⟨_, List.getElem?_eq_getElem hlt⟩
      obtain ⟨b, off, fv, rfl, hbb, c0, c1, c2, hfl⟩ := PC.out k ed hed
      obtain ⟨b', off', fv', rfl, hbb', c0', c1', c2', hfl'⟩ := PC'.out k ed hed
      have hm := (HF.out ed (List.mem_of_getElem? hed)).len
      have FQ0 : ∀ n, Calls Tryz.prog 27 #[fv, fv'] (wr.drewN n) fun e w' => e = .returned (.bool true) ∧ ∃ m, w' = (wr.drewN n).drewN m := by
        intro n
        rw [hwr]
        exact fields_quiet ed.fields fv fv' ((w.drewN nd).drewN n) hfl.1 hfl'.1 (by omega)
      have FQ := Lib.hid FQ0
      clear FQ0
      replace c0 : wr.cell? ⟨b, off + k * 3, none⟩ = some (.int .i64 ed.kind) := by rw [hwr]; exact c0
      replace c1 : wr.cell? ⟨b, off + k * 3 + 1, none⟩ = some (.int .i64 ed.id) := by rw [hwr]; exact c1
      replace c2 : wr.cell? ⟨b, off + k * 3 + 1 + 1, none⟩ = some fv := by rw [hwr]; exact c2
      replace c0' : wr.cell? ⟨b', off' + k * 3, none⟩ = some (.int .i64 ed.kind) := by rw [hwr]; exact c0'
      replace c1' : wr.cell? ⟨b', off' + k * 3 + 1, none⟩ = some (.int .i64 ed.id) := by rw [hwr]; exact c1'
      replace c2' : wr.cell? ⟨b', off' + k * 3 + 1 + 1, none⟩ = some fv' := by rw [hwr]; exact c2'
      have HW := Lib.hid hwr
      clear hed PC PC' hwr hfl hfl' HF
      generalize ed.id = X at *
      generalize ed.kind = K at *
      go_wp2_with (go_quiet ((go_at_call 27; exact Calls.quiet_of (FQ.out _))))
      go_roundw
      case rel => exact ⟨k + 1, hlt, by go_num, _, by rw [HW.out]; exact World.drewN_drewN _ _ _⟩
      case measure => simp [intOf]; omega
    · obtain rfl : k = eds.length := by omega
      clear PC PC'
      go_wp2_with fail
      go_ret
      exact ⟨rfl, nd, by first | rfl | exact hwr⟩
end Go.Proofs.YtkcklnnmcmjnjaaGreatDoor

