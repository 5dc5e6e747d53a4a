/- Texts put together: EY, EU, AQ, HF, ES, HA, EL, EZ, AS, AT, AU, AW, BJ, AN, AR, FV. -/
import Derived.WideShapes
import Derived.Lib.SliceRun
import Derived.Deep.DeepCutAuto
import Derived.Test.YtbkeoiefolkjfaaGreatDoorBxa5
import Derived.Test.YtbkeoiefolkjfaaGreatDoorBxa13
import Derived.Test.YtbkeoiefolkjfaaGreatDoorBxa14
import Derived.Test.YtbkeoiefolkjfaaGreatDoorBxa16
import Derived.Test.YtbkeoiefolkjfaaGreatDoorBxa17
import Derived.Test.YtbkeoiefolkjfaaGreatDoorBxa18
import Derived.Test.YtbkeoiefolkjfaaGreatDoorBxa19
import Derived.Test.YtbkeoiefolkjfaaGreatDoorBxa20
import Derived.Test.YtbkeoiefolkjfaaGreatDoorBxa21
import Derived.Test.YtbkeoiefolkjfaaGreatDoorBxa23
import Derived.Test.YtbkeoiefolkjfaaGreatDoorBxa27
import Derived.Test.YtbkeoiefolkjfaaGreatDoorBxa28
set_option linter.unusedVariables false
set_option maxRecDepth 100000
set_option maxHeartbeats 16000000
namespace Go.Proofs.YtbkeoiefolkjfaaGreatDoor
open Go.RowKit Go.Shelf
attribute [local go_sem] Oper.semAt_some
end Go.Proofs.YtbkeoiefolkjfaaGreatDoor
namespace Go.Proofs.YtbkeoiefolkjfaaGreatDoor
open Go.RowKit Go.Shelf
attribute [local go_sem] Oper.semAt_some
section
variable {o : Oper} {a : Act} {w : World} {K : Act -> World -> Prop} {Q : Exit -> Act -> World -> Prop}
end
end Go.Proofs.YtbkeoiefolkjfaaGreatDoor
namespace Go.Proofs.YtbkeoiefolkjfaaGreatDoor
open Go.RowKit Go.Shelf
section
variable {K : Act -> World -> Prop} {Q : Exit -> Act -> World -> Prop} {o : Oper} {a : Act} {w : World}
theorem mo_addS {x y : Operand} {m n : ByteArray} (ho : o.op = Op.binOp BinOp.add 9 x y 9) (hx : a.eval x = .string m) (hy : a.eval y = .string n) (hm : m.size <= 1000000000) (hn : n.size <= 1000000000) (hK : K (a.put o.dst (.string (m ++ n))) w) : Oper.wp Tryz.prog o a w K Q :=
 mo_run (by
  generalize a.eval = ρ at hx hy ⊢
  have h1 : m.size + n.size <= 9223372036854775807 := by omega
  simp only [execOp, ho, hx, hy]
  simp [go_sem, h1]) hK
end
theorem idx_eds {b off n c i : Nat} {w : World} (h : i < n) : (Instr.indexAt 37 (.slice (some ⟨b, off, none⟩) n c) (.int .i64 (i : Nat))).run Tryz.prog w = .ok (.pointer (some ⟨b, off + i * 3, none⟩)) w := by
 have h1 : (i : Int) < (n : Int) := by omega
 have h2 : (0 : Int) <= (i : Int) := by omega
 simp [go_sem, h1, h2]
def ops_re5 : List Oper := [
 { dst := some 11, op := Op.move (Operand.tmp 3), type := 9, pos := "ref.go:69", after := #[], guard := none },
 { dst := some 12, op := Op.move (Operand.tmp 0), type := 37, pos := "ref.go:69", after := #[], guard := none },
 { dst := some 13, op := Op.move (Operand.tmp 4), type := 3, pos := "ref.go:69", after := #[], guard := none },
 { dst := some 14, op := Op.indexAddr 37 (Operand.tmp 12) (Operand.tmp 13), type := 0, pos := "ref.go:69", after := #[{ on := 1, ground := Ground.data }, { on := 2, ground := Ground.data }], guard := none },
 { dst := some 15, op := Op.load 40 (Operand.tmp 14), type := 40, pos := "ref.go:69", after := #[{ on := 3, ground := Ground.data }], guard := none },
 { dst := some 16, op := Op.call { callee := Callee.value (Operand.func 80), args := #[Operand.tmp 15], argTypes := #[40] }, type := 9, pos := "ref.go:69", after := #[{ on := 4, ground := Ground.data }], guard := none },
 { dst := some 17, op := Op.binOp BinOp.add 9 (Operand.tmp 11) (Operand.tmp 16) 9, type := 9, pos := "ref.go:69", after := #[{ on := 0, ground := Ground.data }, { on := 5, ground := Ground.data }], guard := none },
 { dst := some 18, op := Op.binOp BinOp.add 9 (Operand.tmp 17) (Operand.const (Value.string { data := #[10] })) 9, type := 9, pos := "ref.go:69", after := #[{ on := 6, ground := Ground.data }], guard := none },
 { dst := some 19, op := Op.move (Operand.tmp 0), type := 37, pos := "ref.go:69", after := #[], guard := none },
 { dst := some 20, op := Op.move (Operand.tmp 4), type := 3, pos := "ref.go:69", after := #[], guard := none },
 { dst := some 21, op := Op.indexAddr 37 (Operand.tmp 19) (Operand.tmp 20), type := 0, pos := "ref.go:69", after := #[{ on := 8, ground := Ground.data }, { on := 9, ground := Ground.data }], guard := none },
 { dst := some 22, op := Op.fieldAddr 40 (Operand.tmp 21) 2, type := 0, pos := "ref.go:69", after := #[{ on := 10, ground := Ground.data }], guard := none },
 { dst := some 23, op := Op.load 38 (Operand.tmp 22), type := 38, pos := "ref.go:69", after := #[{ on := 11, ground := Ground.data }], guard := none },
 { dst := some 24, op := Op.call { callee := Callee.value (Operand.func 95), args := #[Operand.tmp 23], argTypes := #[38] }, type := 9, pos := "ref.go:69", after := #[{ on := 12, ground := Ground.data }, { on := 5, ground := Ground.chain }], guard := none },
 { dst := some 25, op := Op.call { callee := Callee.value (Operand.func 94), args := #[Operand.tmp 24, Operand.const (Value.string { data := #[32, 32] })], argTypes := #[9, 9] }, type := 9, pos := "ref.go:69", after := #[{ on := 13, ground := Ground.data }, { on := 13, ground := Ground.chain }], guard := none },
 { dst := some 26, op := Op.binOp BinOp.add 9 (Operand.tmp 18) (Operand.tmp 25) 9, type := 9, pos := "ref.go:69", after := #[{ on := 7, ground := Ground.data }, { on := 14, ground := Ground.data }], guard := none },
 { dst := some 3, op := Op.assign (Operand.tmp 26), type := 9, pos := "ref.go:69", after := #[{ on := 15, ground := Ground.data }, { on := 14, ground := Ground.chain }, { on := 0, ground := Ground.phase }, { on := 1, ground := Ground.phase }, { on := 2, ground := Ground.phase }, { on := 3, ground := Ground.phase }, { on := 4, ground := Ground.phase }, { on := 5, ground := Ground.phase }, { on := 6, ground := Ground.phase }, { on := 7, ground := Ground.phase }, { on := 8, ground := Ground.phase }, { on := 9, ground := Ground.phase }, { on := 10, ground := Ground.phase }, { on := 11, ground := Ground.phase }, { on := 12, ground := Ground.phase }, { on := 13, ground := Ground.phase }, { on := 14, ground := Ground.phase }, { on := 15, ground := Ground.phase }], guard := none }]
def dst_re5 (i : Nat) : Option Nat := (ops_re5[i]?).bind (·.dst)
theorem inj_re5 : ∀ i, i < 16 -> ∀ k, k < 16 -> dst_re5 i ≠ none -> dst_re5 i = dst_re5 k -> i = k := by decide +kernel
theorem lt_re5 : ∀ i, i < 16 -> (dst_re5 i).getD 0 < 28 := by decide +kernel
theorem low_re5 : ∀ i : Fin 17, ∀ e ∈ (ops_re5[i.1]'(by exact i.2)).after, Region.binds .any e = true -> e.on < i.1 := by decide +kernel
def pv_re5 (b off n c j : Nat) (k i : Int) (fv : Value) (acc la fo ind : ByteArray) : List (Value -> World -> Prop) := [
 fun v w => v = .string acc,
 fun v w => v = .slice (some ⟨b, off, none⟩) n c,
 fun v w => v = .int .i64 (j : Nat),
 fun v w => v = .pointer (some ⟨b, off + j * 3, none⟩),
 fun v w => v = .agg #[.int .i64 k, .int .i64 i, fv],
 fun v w => v = .string la,
 fun v w => v = .string (acc ++ la),
 fun v w => v = .string (acc ++ la ++ ⟨#[10]⟩),
 fun v w => v = .slice (some ⟨b, off, none⟩) n c,
 fun v w => v = .int .i64 (j : Nat),
 fun v w => v = .pointer (some ⟨b, off + j * 3, none⟩),
 fun v w => v = .pointer (some ⟨b, off + j * 3 + 2, none⟩),
 fun v w => v = fv,
 fun v w => v = .string fo,
 fun v w => v = .string ind,
 fun v w => v = .string (acc ++ la ++ ⟨#[10]⟩ ++ ind)]
theorem region_re5 (a0 : Act) (w0 : World) (b off n c j : Nat) (k i : Int) (fv : Value) (acc la fo ind : ByteArray) (Q : Exit -> Act -> World -> Prop)
  (hsz : a0.tmps.size = 28) (h3 : a0.tmps[3]? = some (.string acc)) (h0 : a0.tmps[0]? = some (.slice (some ⟨b, off, none⟩) n c)) (h4 : a0.tmps[4]? = some (.int .i64 (j : Nat)))
  (hj : j < n) (hE : ∀ W, Below w0.heap.size w0 W -> (Instr.loadAt 40 (.pointer (some ⟨b, off + j * 3, none⟩))).run Tryz.prog W = .ok (.agg #[.int .i64 k, .int .i64 i, fv]) W /\ (Instr.loadAt 38 (.pointer (some ⟨b, off + j * 3 + 2, none⟩))).run Tryz.prog W = .ok fv W)
  (s1 : acc.size <= 100000000) (s2 : la.size <= 1000000) (s3 : ind.size <= 1000000)
  (hC5 : ∀ (W : World) (_ : Below w0.heap.size w0 W), Calls Tryz.prog 80 #[.agg #[.int .i64 k, .int .i64 i, fv]] W fun e w => ∃ v, e = .returned v /\ (v = .string la) /\ Below W.heap.size W w)
  (hC13 : ∀ (W : World) (_ : Below w0.heap.size w0 W), Calls Tryz.prog 95 #[fv] W fun e w => ∃ v, e = .returned v /\ (v = .string fo) /\ Below W.heap.size W w)
  (hC14 : ∀ (W : World) (_ : Below w0.heap.size w0 W), Calls Tryz.prog 94 #[.string fo, Value.string { data := #[32, 32] }] W fun e w => ∃ v, e = .returned v /\ (v = .string ind) /\ Below W.heap.size W w)
  (hQ : ∀ (y0 y1 y2 y3 y4 y5 y6 y7 y8 y9 y10 y11 y12 y13 y14 y15 : Value) (w : World), Below w0.heap.size w0 w -> ((fun (v : Value) (w : World) => v = .string (acc ++ la ++ ⟨#[10]⟩ ++ ind)) y15 w) -> wpList Tryz.prog ops_re5.toArray Q [{ dst := some 3, op := Op.assign (Operand.tmp 26), type := 9, pos := "ref.go:69", after := #[{ on := 15, ground := Ground.data }, { on := 14, ground := Ground.chain }, { on := 0, ground := Ground.phase }, { on := 1, ground := Ground.phase }, { on := 2, ground := Ground.phase }, { on := 3, ground := Ground.phase }, { on := 4, ground := Ground.phase }, { on := 5, ground := Ground.phase }, { on := 6, ground := Ground.phase }, { on := 7, ground := Ground.phase }, { on := 8, ground := Ground.phase }, { on := 9, ground := Ground.phase }, { on := 10, ground := Ground.phase }, { on := 11, ground := Ground.phase }, { on := 12, ground := Ground.phase }, { on := 13, ground := Ground.phase }, { on := 14, ground := Ground.phase }, { on := 15, ground := Ground.phase }], guard := none }] { a0 with tmps := [(11, y0), (12, y1), (13, y2), (14, y3), (15, y4), (16, y5), (17, y6), (18, y7), (19, y8), (20, y9), (21, y10), (22, y11), (23, y12), (24, y13), (25, y14), (26, y15)].foldl (fun u p => u.setIfInBounds p.1 p.2) a0.tmps } w) :
  wpAny Tryz.prog .any ops_re5.toArray Q ops_re5.toArray.size (Array.replicate ops_re5.toArray.size false) a0 w0 := by
 have M : AllM (pv_re5 b off n c j k i fv acc la fo ind) := ⟨fun v x y hb h => h, fun v x y hb h => h, fun v x y hb h => h, fun v x y hb h => h, fun v x y hb h => h, fun v x y hb h => h, fun v x y hb h => h, fun v x y hb h => h, fun v x y hb h => h, fun v x y hb h => h, fun v x y hb h => h, fun v x y hb h => h, fun v x y hb h => h, fun v x y hb h => h, fun v x y hb h => h, fun v x y hb h => h, trivial⟩
 refine wpAny_mono_tail 16 1 (by kernel_rfl) (by decide) a0 w0 dst_re5 (pv_re5 b off n c j k i fv acc la fo ind) M (by kernel_rfl) (by kernel_rfl) (by kernel_rfl)
  (fun i o _ ho => by unfold dst_re5; rw [ho]; rfl)
  (fun i k d hi hk h1 h2 => inj_re5 i hi k hk (by rw [h1]; intro q; cases q) (by rw [h1, h2]))
  (fun i d hi h => by have := lt_re5 i hi; rw [h] at this; rw [hsz]; exact this)
  (fun i o e ho he hb => by
   obtain ⟨hi, rfl⟩ := List.getElem?_eq_some_iff.1 ho
   exact low_re5 ⟨i, hi⟩ e he hb)
  ?step ?fin
 case fin =>
  intro a w hd hs hf hv hR
  obtain ⟨y0, hy0, pv0⟩ := hv 0 11 (by decide) rfl
  obtain ⟨y1, hy1, pv1⟩ := hv 1 12 (by decide) rfl
  obtain ⟨y2, hy2, pv2⟩ := hv 2 13 (by decide) rfl
  obtain ⟨y3, hy3, pv3⟩ := hv 3 14 (by decide) rfl
  obtain ⟨y4, hy4, pv4⟩ := hv 4 15 (by decide) rfl
  obtain ⟨y5, hy5, pv5⟩ := hv 5 16 (by decide) rfl
  obtain ⟨y6, hy6, pv6⟩ := hv 6 17 (by decide) rfl
  obtain ⟨y7, hy7, pv7⟩ := hv 7 18 (by decide) rfl
  obtain ⟨y8, hy8, pv8⟩ := hv 8 19 (by decide) rfl
  obtain ⟨y9, hy9, pv9⟩ := hv 9 20 (by decide) rfl
  obtain ⟨y10, hy10, pv10⟩ := hv 10 21 (by decide) rfl
  obtain ⟨y11, hy11, pv11⟩ := hv 11 22 (by decide) rfl
  obtain ⟨y12, hy12, pv12⟩ := hv 12 23 (by decide) rfl
  obtain ⟨y13, hy13, pv13⟩ := hv 13 24 (by decide) rfl
  obtain ⟨y14, hy14, pv14⟩ := hv 14 25 (by decide) rfl
  obtain ⟨y15, hy15, pv15⟩ := hv 15 26 (by decide) rfl
  rw [act_set' (a := a) (a0 := a0) [(11, y0), (12, y1), (13, y2), (14, y3), (15, y4), (16, y5), (17, y6), (18, y7), (19, y8), (20, y9), (21, y10), (22, y11), (23, y12), (24, y13), (25, y14), (26, y15)] hd hs (by
   intro p hp
   simp only [List.mem_cons, List.not_mem_nil, or_false] at hp
   rcases hp with rfl | rfl | rfl | rfl | rfl | rfl | rfl | rfl | rfl | rfl | rfl | rfl | rfl | rfl | rfl | rfl
   ·exact hy0
   ·exact hy1
   ·exact hy2
   ·exact hy3
   ·exact hy4
   ·exact hy5
   ·exact hy6
   ·exact hy7
   ·exact hy8
   ·exact hy9
   ·exact hy10
   ·exact hy11
   ·exact hy12
   ·exact hy13
   ·exact hy14
   ·exact hy15
   ) (fun j hj => hf j (fun k hk q => hj (by
    have : ∀ k, k < 16 -> (dst_re5 k).all (fun d => [11, 12, 13, 14, 15, 16, 17, 18, 19, 20, 21, 22, 23, 24, 25, 26].contains d) = true := by decide +kernel
    have h1 := this k hk
    rw [q] at h1
    simpa using h1)))]
  exact hQ y0 y1 y2 y3 y4 y5 y6 y7 y8 y9 y10 y11 y12 y13 y14 y15 w hR pv15
 case step =>
 intro i o a w hi ho hs hf dep hR
 have e3 := evT ((hf 3 (by decide +kernel)).trans h3)
 have e0 := evT ((hf 0 (by decide +kernel)).trans h0)
 have e4 := evT ((hf 4 (by decide +kernel)).trans h4)
 rcases (by omega : i = 0 \/ i = 1 \/ i = 2 \/ i = 3 \/ i = 4 \/ i = 5 \/ i = 6 \/ i = 7 \/ i = 8 \/ i = 9 \/ i = 10 \/ i = 11 \/ i = 12 \/ i = 13 \/ i = 14 \/ i = 15) with rfl | rfl | rfl | rfl | rfl | rfl | rfl | rfl | rfl | rfl | rfl | rfl | rfl | rfl | rfl | rfl
 ·have ho2 : some _ = some o := ho
  obtain rfl := Option.some.inj ho2
  exact .inl ⟨wantN rfl, fun K hK => mo_move rfl e3 (hK _ _ (Below.refl _ _) rfl)⟩
 ·have ho2 : some _ = some o := ho
  obtain rfl := Option.some.inj ho2
  exact .inl ⟨wantN rfl, fun K hK => mo_move rfl e0 (hK _ _ (Below.refl _ _) rfl)⟩
 ·have ho2 : some _ = some o := ho
  obtain rfl := Option.some.inj ho2
  exact .inl ⟨wantN rfl, fun K hK => mo_move rfl e4 (hK _ _ (Below.refl _ _) rfl)⟩
 ·have ho2 : some _ = some o := ho
  obtain rfl := Option.some.inj ho2
  obtain ⟨_, hv1, rfl⟩ : ∃ v, a.tmps[12]? = some v /\ (fun (v : Value) (w : World) => v = .slice (some ⟨b, off, none⟩) n c) v w := dep ⟨1, Ground.data⟩ (by first | simp | simp [ops_re5]) rfl 12 rfl
  obtain ⟨_, hv2, rfl⟩ : ∃ v, a.tmps[13]? = some v /\ (fun (v : Value) (w : World) => v = .int .i64 (j : Nat)) v w := dep ⟨2, Ground.data⟩ (by first | simp | simp [ops_re5]) rfl 13 rfl
  exact .inl ⟨wantN rfl, fun K hK => mo_index (idx_eds hj) rfl (evT hv1) (evT hv2) (hK _ _ (Below.refl _ _) rfl)⟩
 ·have ho2 : some _ = some o := ho
  obtain rfl := Option.some.inj ho2
  obtain ⟨_, hv3, rfl⟩ : ∃ v, a.tmps[14]? = some v /\ (fun (v : Value) (w : World) => v = .pointer (some ⟨b, off + j * 3, none⟩)) v w := dep ⟨3, Ground.data⟩ (by first | simp | simp [ops_re5]) rfl 14 rfl
  exact .inl ⟨wantN rfl, fun K hK => mo_loadv (hE w hR).1 rfl (evT hv3) (hK _ _ (Below.refl _ _) rfl)⟩
 ·have ho2 : some _ = some o := ho
  obtain rfl := Option.some.inj ho2
  obtain ⟨_, hv4, rfl⟩ : ∃ v, a.tmps[15]? = some v /\ (fun (v : Value) (w : World) => v = .agg #[.int .i64 k, .int .i64 i, fv]) v w := dep ⟨4, Ground.data⟩ (by first | simp | simp [ops_re5]) rfl 15 rfl
  exact .inl ⟨wantN rfl, fun K hK => mo_call1 80 rfl (evT hv4) (enters_of (P := Tryz.prog) Tryz.func80 (by kernel_rfl) rfl) (hC5 w hR) (fun v w' h => hK v w' h.2 h.1)⟩
 ·have ho2 : some _ = some o := ho
  obtain rfl := Option.some.inj ho2
  obtain ⟨_, hv0, rfl⟩ : ∃ v, a.tmps[11]? = some v /\ (fun (v : Value) (w : World) => v = .string acc) v w := dep ⟨0, Ground.data⟩ (by first | simp | simp [ops_re5]) rfl 11 rfl
  obtain ⟨_, hv5, rfl⟩ : ∃ v, a.tmps[16]? = some v /\ (fun (v : Value) (w : World) => v = .string la) v w := dep ⟨5, Ground.data⟩ (by first | simp | simp [ops_re5]) rfl 16 rfl
  exact .inl ⟨wantN rfl, fun K hK => mo_addS rfl (evT hv0) (evT hv5) (by omega) (by omega) (hK _ _ (Below.refl _ _) rfl)⟩
 ·have ho2 : some _ = some o := ho
  obtain rfl := Option.some.inj ho2
  obtain ⟨_, hv6, rfl⟩ : ∃ v, a.tmps[17]? = some v /\ (fun (v : Value) (w : World) => v = .string (acc ++ la)) v w := dep ⟨6, Ground.data⟩ (by first | simp | simp [ops_re5]) rfl 17 rfl
  exact .inl ⟨wantN rfl, fun K hK => mo_addS rfl (evT hv6) rfl (by rw [ByteArray.size_append]; omega) (by decide) (hK _ _ (Below.refl _ _) rfl)⟩
 ·have ho2 : some _ = some o := ho
  obtain rfl := Option.some.inj ho2
  exact .inl ⟨wantN rfl, fun K hK => mo_move rfl e0 (hK _ _ (Below.refl _ _) rfl)⟩
 ·have ho2 : some _ = some o := ho
  obtain rfl := Option.some.inj ho2
  exact .inl ⟨wantN rfl, fun K hK => mo_move rfl e4 (hK _ _ (Below.refl _ _) rfl)⟩
 ·have ho2 : some _ = some o := ho
  obtain rfl := Option.some.inj ho2
  obtain ⟨_, hv8, rfl⟩ : ∃ v, a.tmps[19]? = some v /\ (fun (v : Value) (w : World) => v = .slice (some ⟨b, off, none⟩) n c) v w := dep ⟨8, Ground.data⟩ (by first | simp | simp [ops_re5]) rfl 19 rfl
  obtain ⟨_, hv9, rfl⟩ : ∃ v, a.tmps[20]? = some v /\ (fun (v : Value) (w : World) => v = .int .i64 (j : Nat)) v w := dep ⟨9, Ground.data⟩ (by first | simp | simp [ops_re5]) rfl 20 rfl
  exact .inl ⟨wantN rfl, fun K hK => mo_index (idx_eds hj) rfl (evT hv8) (evT hv9) (hK _ _ (Below.refl _ _) rfl)⟩
 ·have ho2 : some _ = some o := ho
  obtain rfl := Option.some.inj ho2
  obtain ⟨_, hv10, rfl⟩ : ∃ v, a.tmps[21]? = some v /\ (fun (v : Value) (w : World) => v = .pointer (some ⟨b, off + j * 3, none⟩)) v w := dep ⟨10, Ground.data⟩ (by first | simp | simp [ops_re5]) rfl 21 rfl
  exact .inl ⟨wantN rfl, fun K hK => mo_field (by simp [go_sem]) rfl (evT hv10) (hK _ _ (Below.refl _ _) rfl)⟩
 ·have ho2 : some _ = some o := ho
  obtain rfl := Option.some.inj ho2
  obtain ⟨_, hv11, rfl⟩ : ∃ v, a.tmps[22]? = some v /\ (fun (v : Value) (w : World) => v = .pointer (some ⟨b, off + j * 3 + 2, none⟩)) v w := dep ⟨11, Ground.data⟩ (by first | simp | simp [ops_re5]) rfl 22 rfl
  exact .inl ⟨wantN rfl, fun K hK => mo_loadv (hE w hR).2 rfl (evT hv11) (hK _ _ (Below.refl _ _) rfl)⟩
 ·have ho2 : some _ = some o := ho
  obtain rfl := Option.some.inj ho2
  obtain ⟨_, hv12, rfl⟩ : ∃ v, a.tmps[23]? = some v /\ (fun (v : Value) (w : World) => v = fv) v w := dep ⟨12, Ground.data⟩ (by first | simp | simp [ops_re5]) rfl 23 rfl
  exact .inl ⟨wantN rfl, fun K hK => mo_call1 95 rfl (evT hv12) (enters_of (P := Tryz.prog) Tryz.func95 (by kernel_rfl) rfl) (hC13 w hR) (fun v w' h => hK v w' h.2 h.1)⟩
 ·have ho2 : some _ = some o := ho
  obtain rfl := Option.some.inj ho2
  obtain ⟨_, hv13, rfl⟩ : ∃ v, a.tmps[24]? = some v /\ (fun (v : Value) (w : World) => v = .string fo) v w := dep ⟨13, Ground.data⟩ (by first | simp | simp [ops_re5]) rfl 24 rfl
  exact .inl ⟨wantN rfl, fun K hK => mo_call2 94 rfl (evT hv13) rfl (enters_of (P := Tryz.prog) Tryz.func94 (by kernel_rfl) rfl) (hC14 w hR) (fun v w' h => hK v w' h.2 h.1)⟩
 have ho2 : some _ = some o := ho
 obtain rfl := Option.some.inj ho2
 obtain ⟨_, hv7, rfl⟩ : ∃ v, a.tmps[18]? = some v /\ (fun (v : Value) (w : World) => v = .string (acc ++ la ++ ⟨#[10]⟩)) v w := dep ⟨7, Ground.data⟩ (by first | simp | simp [ops_re5]) rfl 18 rfl
 obtain ⟨_, hv14, rfl⟩ : ∃ v, a.tmps[25]? = some v /\ (fun (v : Value) (w : World) => v = .string ind) v w := dep ⟨14, Ground.data⟩ (by first | simp | simp [ops_re5]) rfl 25 rfl
 exact .inl ⟨wantN rfl, fun K hK => mo_addS rfl (evT hv7) (evT hv14) (by rw [ByteArray.size_append, ByteArray.size_append]; show _ + 1 <= _; omega) (by omega) (hK _ _ (Below.refl _ _) rfl)⟩
end Go.Proofs.YtbkeoiefolkjfaaGreatDoor
namespace Go.Proofs.YtbkeoiefolkjfaaGreatDoor
open Go.RowKit Go.Shelf
end Go.Proofs.YtbkeoiefolkjfaaGreatDoor
namespace Go.Proofs.YtbkeoiefolkjfaaGreatDoor
open Go.RowKit Go.Shelf
attribute [local go_sem] Oper.semAt_some
theorem refGood_any (ed : Ed) (fv : Value) (w : World) (h : Flds w fv ed.fields) (hf : Fine8 ed.fields) :
  Calls Tryz.prog 93 #[.agg #[.int .i64 ed.kind, .int .i64 ed.id, fv]] w fun e w' => e = .returned (.int .i64 (goodE ed : Nat)) /\ Below w.heap.size w w' := by
 obtain ⟨fa, fc, rfl, _, _⟩ := _root_.id h
 obtain ⟨wa, hwa⟩ : ∃ wa, wa = w.alloc (.cells #[.int .i64 ed.kind, .int .i64 ed.id, .slice fa ed.fields.length fc] 40) := ⟨_, rfl⟩
 have hba : Below w.heap.size w wa := by rw [hwa]; exact (Below.refl _ w).alloc (Nat.le_refl _) _
 have HC := Lib.hid (refChk_any ed.fields (.slice fa ed.fields.length fc) wa (h.below hba (Nat.le_refl _)) (by have := hf.len; omega) (fun f hm => by have := hf.each f hm; omega))
 have HB := Lib.hid hba
 have GE := Lib.hid (show goodE ed = if ed.kind = 1 \/ ed.kind = 3 then chkN ed.fields else if ed.kind = 2 /\ ed.fields.length = 0 then 0 else 2 from rfl)
 clear hba h
 generalize goodE ed = ge at *
 generalize chkN ed.fields = cn at *
 generalize chkAt ed.fields = ca at *
 generalize ed.fields.length = fl at *
 generalize ed.kind = kk at *
 generalize ed.id = ii at *
 by_cases hlo : kk < 1
 ·have hg : ge = 2 := by rw [GE.out, if_neg (by omega), if_neg (by omega)]
  subst hg hwa
  go_enter Tryz.func93, Tryz.ntmps93
  go_wp2_with fail
  go_ret
  exact ⟨rfl, HB.out⟩
 by_cases hhi : 3 < kk
 ·have hg : ge = 2 := by rw [GE.out, if_neg (by omega), if_neg (by omega)]
  subst hg hwa
  go_enter Tryz.func93, Tryz.ntmps93
  go_wp2_with fail
  go_ret
  exact ⟨rfl, HB.out⟩
 by_cases h2 : kk = 2
 ·subst h2
  by_cases h0 : fl = 0
  ·have hg : ge = 0 := by rw [GE.out, if_neg (by omega), if_pos ⟨rfl, h0⟩]
   subst hg h0 hwa
   go_enter Tryz.func93, Tryz.ntmps93
   go_wp2_with fail
   go_ret
   exact ⟨rfl, HB.out⟩
  have hg : ge = 2 := by rw [GE.out, if_neg (by omega), if_neg (by omega)]
  have hp : (0 : Int) < (fl : Int) := by omega
  subst hg hwa
  go_enter Tryz.func93, Tryz.ntmps93
  go_wp2_with fail
  go_ret
  exact ⟨rfl, HB.out⟩
 have hg : ge = cn := by rw [GE.out, if_pos (by omega)]
 have q2 : (kk == 2) = false := by simpa using h2
 subst hg hwa
 go_enter Tryz.func93, Tryz.ntmps93
 go_wp2_with fail
 refine HC.out.mono ?_
 rintro e w2 ⟨rfl, b2⟩
 have B2 := Lib.hid (HB.out.trans (b2.mono HB.out.size))
 clear b2 HC
 go_wp2_with fail
 go_ret
 exact ⟨rfl, B2.out⟩
theorem refCheckB_any8 (eds : List Ed) (v : Value) (w : World) (h : EdV w v eds) (hl : eds.length <= 1000000) (hf : Fines8 eds) :
  Calls Tryz.prog 44 #[v] w fun e w' => e = .returned (.tuple #[.int .i64 (chkB eds).1, .int .i64 (chkB eds).2]) /\ Below w.heap.size w w' := by
 obtain ⟨A, cap, rfl, hle, hc⟩ := h
 have PC := Lib.hid hc
 have HF := Lib.hid hf
 clear hc hf
 by_cases h0 : eds.length < 1
 ·have e0 : chkB eds = (-9, 1) := by unfold chkB; rw [if_pos (by omega)]
  have z0 : eds.length = 0 := by omega
  rw [e0, z0]
  go_enter Tryz.func44, Tryz.ntmps44
  go_wp2_with fail
  go_ret2
  exact ⟨rfl, Below.refl _ _⟩
 have q0 : ¬ ((eds.length : Int) < 1) := by omega
 by_cases h40 : 40 < eds.length
 ·have e0 : chkB eds = (-9, 1) := by unfold chkB; rw [if_pos (by omega)]
  rw [e0]
  go_enter Tryz.func44, Tryz.ntmps44
  go_wp2_with fail
  go_ret2
  exact ⟨rfl, Below.refl _ _⟩
 have e1 : chkB eds = chkOn 0 eds := by unfold chkB; rw [if_neg (by omega)]
 rw [e1]
 go_enter Tryz.func44, Tryz.ntmps44
 go_wp2_with fail
 go_loopw [4] (fun i wr => ∃ k : Nat, k <= eds.length /\ i = .int .i64 k /\ (∀ x ∈ eds.take k, goodE x = 0) /\ Below w.heap.size w wr) (fun i _ => eds.length - (intOf i).toNat)
 case atStart => exact ⟨0, Nat.zero_le _, rfl, (fun x hx => by simp at hx), Below.refl _ _⟩
 case round =>
 obtain ⟨k, hk, rfl, hsm, hb⟩ := hrel
 by_cases hlt : k < eds.length
 ·obtain ⟨ed, hed⟩ : ∃ ed, eds[k]? = some ed := ⟨_, List.getElem?_eq_getElem hlt⟩
  obtain ⟨b, off, fv, rfl, hbb, c0, c1, c2, hfl⟩ := PC.out k ed hed
  obtain ⟨fa, fc, rfl, _, _⟩ := _root_.id hfl.1
  replace c0 := (hb.cell (p := ⟨b, off + k * 3, none⟩) hbb).trans c0
  replace c1 := (hb.cell (p := ⟨b, off + k * 3 + 1, none⟩) hbb).trans c1
  replace c2 := (hb.cell (p := ⟨b, off + k * 3 + 1 + 1, none⟩) hbb).trans c2
  have CK := Lib.hid (refGood_any ed (.slice fa ed.fields.length fc) wr (hfl.1.below hb (Nat.le_refl _)) (HF.out ed (List.mem_of_getElem? hed)))
  have SM : Hid (goodE ed = 0 -> ∀ x ∈ eds.take (k + 1), goodE x = 0) := fun hz x hx => by
   rw [take_snoc hed] at hx
   rcases List.mem_append.1 hx with hx | hx
   ·exact hsm x hx
   rw [List.mem_singleton.1 hx]; exact hz
  have AT : Hid (goodE ed ≠ 0 -> chkOn 0 eds = (((k : Nat) : Int), goodE ed)) := fun hz => by rw [chkOn_at eds 0 k ed hsm hed hz, Nat.zero_add]
  have HBA := Lib.hid hb
  clear hed hsm hfl hb
  generalize goodE ed = ge at *
  go_wp2_with fail
  refine CK.out.mono ?_
  rintro e w2 ⟨rfl, b2⟩
  have B2 := Lib.hid (HBA.out.trans (b2.mono HBA.out.size))
  clear b2 CK
  by_cases hg0 : ge = 0
  ·subst hg0
   have SM1 := Lib.hid (SM.out rfl)
   clear SM AT
   go_wp2_with fail
   go_roundw
   case rel => exact ⟨k + 1, hlt, by go_num, SM1.out, B2.out⟩
   case measure => simp [intOf]; omega
  have AT1 := Lib.hid (AT.out hg0)
  have qn : ((ge : Int) == 0) = false := by simpa using hg0
  have FIN : Hid (Ending.returned (.tuple #[.int .i64 (k : Nat), .int .i64 (ge : Nat)]) = .returned (.tuple #[.int .i64 (chkOn 0 eds).1, .int .i64 (chkOn 0 eds).2])) := by
   show _ = _
   rw [AT1.out]
  clear SM AT AT1
  go_wp2_with fail
  go_ret2
  exact ⟨FIN.out, B2.out⟩
 obtain rfl : k = eds.length := by omega
 rw [List.take_length] at hsm
 have FIN : Hid (Ending.returned (.tuple #[.int .i64 (-9), .int .i64 0]) = .returned (.tuple #[.int .i64 (chkOn 0 eds).1, .int .i64 (chkOn 0 eds).2])) := by
  show _ = _
  rw [chkOn_all eds 0 hsm]; rfl
 clear PC hsm
 go_wp2_with fail
 go_ret2
 exact ⟨FIN.out, hb⟩
end Go.Proofs.YtbkeoiefolkjfaaGreatDoor
namespace Go.Proofs.YtbkeoiefolkjfaaGreatDoor
open Go.RowKit Go.Shelf
attribute [local go_sem] Oper.semAt_some
theorem edits_quiet (eds : List Ed) (v v' : Value) (w : World) (h : EdV w v eds) (h' : EdV w v' eds) (hn : eds.length <= 1000000) (hf : Fines eds) :
  Calls Tryz.prog 23 #[v, v'] w fun e w' => e = .returned (.bool true) /\ ∃ m, w' = w.drewN m := by
 obtain ⟨A, cap, rfl, hle, hc⟩ := h
 obtain ⟨A', cap', rfl, hle', hc'⟩ := h'
 have PC := Lib.hid hc
 have PC' := Lib.hid hc'
 have HF := Lib.hid hf
 clear hc hc' hf
 go_enter Tryz.func23, Tryz.ntmps23
 go_wp2_with fail
 go_loopw [13] (fun i wr => ∃ k : Nat, k <= eds.length /\ i = .int .i64 k /\ ∃ m, wr = w.drewN m) (fun i _ => eds.length - (intOf i).toNat)
 case atStart => exact ⟨0, Nat.zero_le _, rfl, 0, rfl⟩
 case round =>
 obtain ⟨k, hk, rfl, nd, hwr⟩ := hrel
 by_cases hlt : k < eds.length
 ·obtain ⟨ed, hed⟩ : ∃ ed, eds[k]? = some ed := ⟨_, List.getElem?_eq_getElem hlt⟩
  obtain ⟨b, off, fv, rfl, hbb, c0, c1, c2, hfl⟩ := PC.out k ed hed
  obtain ⟨b', off', fv', rfl, hbb', c0', c1', c2', hfl'⟩ := PC'.out k ed hed
  have hm := (HF.out ed (List.mem_of_getElem? hed)).len
  have FQ0 : ∀ n, Calls Tryz.prog 49 #[fv, fv'] (wr.drewN n) fun e w' => e = .returned (.bool true) /\ ∃ m, w' = (wr.drewN n).drewN m := by
   intro n
   rw [hwr]
   exact fields_quiet ed.fields fv fv' ((w.drewN nd).drewN n) hfl.1 hfl'.1 (by omega)
  have FQ := Lib.hid FQ0
  clear FQ0
  replace c0 : wr.cell? ⟨b, off + k * 3, none⟩ = some (.int .i64 ed.kind) := by rw [hwr]; exact c0
  replace c1 : wr.cell? ⟨b, off + k * 3 + 1, none⟩ = some (.int .i64 ed.id) := by rw [hwr]; exact c1
  replace c2 : wr.cell? ⟨b, off + k * 3 + 1 + 1, none⟩ = some fv := by rw [hwr]; exact c2
  replace c0' : wr.cell? ⟨b', off' + k * 3, none⟩ = some (.int .i64 ed.kind) := by rw [hwr]; exact c0'
  replace c1' : wr.cell? ⟨b', off' + k * 3 + 1, none⟩ = some (.int .i64 ed.id) := by rw [hwr]; exact c1'
  replace c2' : wr.cell? ⟨b', off' + k * 3 + 1 + 1, none⟩ = some fv' := by rw [hwr]; exact c2'
  have HW := Lib.hid hwr
  clear hed PC PC' hwr hfl hfl' HF
  generalize ed.id = X at *
  generalize ed.kind = K at *
  go_wp2_with (go_quiet ((go_at_call 49; exact Calls.quiet_of (FQ.out _))))
  go_roundw
  case rel => exact ⟨k + 1, hlt, by go_num, _, by rw [HW.out]; exact World.drewN_drewN _ _ _⟩
  case measure => simp [intOf]; omega
 obtain rfl : k = eds.length := by omega
 clear PC PC'
 go_wp2_with fail
 go_ret
 exact ⟨rfl, nd, by first | rfl | exact hwr⟩
end Go.Proofs.YtbkeoiefolkjfaaGreatDoor
namespace Go.Proofs.YtbkeoiefolkjfaaGreatDoor
open Go.RowKit Go.Shelf
attribute [local go_sem] Oper.semAt_some
end Go.Proofs.YtbkeoiefolkjfaaGreatDoor
namespace Go.Proofs.YtbkeoiefolkjfaaGreatDoor
open Go.RowKit Go.Shelf
attribute [local go_sem] Oper.semAt_some
end Go.Proofs.YtbkeoiefolkjfaaGreatDoor
namespace Go.Proofs.YtbkeoiefolkjfaaGreatDoor
open Go.RowKit Go.Shelf
attribute [local go_sem] Oper.semAt_some
end Go.Proofs.YtbkeoiefolkjfaaGreatDoor
namespace Go.Proofs.YtbkeoiefolkjfaaGreatDoor
open Go.RowKit Go.Shelf
attribute [local go_sem] Oper.semAt_some
end Go.Proofs.YtbkeoiefolkjfaaGreatDoor
namespace Go.Proofs.YtbkeoiefolkjfaaGreatDoor
open Go.RowKit Go.Shelf
attribute [local go_sem] Oper.semAt_some
end Go.Proofs.YtbkeoiefolkjfaaGreatDoor
namespace Go.Proofs.YtbkeoiefolkjfaaGreatDoor
open Go.RowKit Go.Shelf
attribute [local go_sem] Oper.semAt_some
theorem row_put {W : World} {base size n g cap i : Nat} {e : TypeId} {xs : List Value} (h : W.ownsRow base e size (.slice (some ⟨g, 0, none⟩) n cap) n xs) (u : Value) : (W.setCell ⟨g, i, none⟩ u).ownsRow base e size (.slice (some ⟨g, 0, none⟩) n cap) n (xs.set i u) := by
 refine ⟨by rw [List.length_set]; exact h.1, ?_⟩
 rcases h.2 with ⟨q, hn⟩ | ⟨g', cap', cur, q, hb, hc, hle, hm, hs, ht⟩
 ·cases q
 cases q
 refine .inr ⟨g, cap, cur.setIfInBounds i u, rfl, hb, ?_, hle, hm, by simp [hs], ?_⟩
 ·show (W.heap.modify g _)[g]? = _
  rw [Array.getElem?_modify]; simp [hc]
 rw [<- ht]; simp [List.take_set]
theorem edRow_set : ∀ (a : List Ed) (f : List Value) (k : Nat) (u : Value), f.length = a.length -> (edRow a f).set (k * 3 + 1 + 1) u = edRow a (f.set k u)
 | [], [], _, _, _ => rfl
 | x :: a, y :: f, 0, u, _ => rfl
 | x :: a, y :: f, k + 1, u, h => by
  rw [show (k + 1) * 3 + 1 + 1 = (k * 3 + 1 + 1) + 1 + 1 + 1 by omega]
  have := edRow_set a f k u (by simpa using h)
  show (_ :: _ :: _ :: edRow a f).set _ u = _ :: _ :: _ :: edRow a (f.set k u)
  simp only [List.set_cons_succ, this]
 | [], _ :: _, _, _, h => by simp at h
 | _ :: _, [], _, _, h => by simp at h
end Go.Proofs.YtbkeoiefolkjfaaGreatDoor
namespace Go.Proofs.YtbkeoiefolkjfaaGreatDoor
open Go.RowKit Go.Shelf
theorem flush_ls {s s' : StD} (h : flushD s = some s') : s'.2 = [] := by
 unfold flushD at h
 split at h
 ·rename_i q; injection h with h; subst h; exact q
 split at h
 ·injection h with h; subst h; rfl
 cases h
theorem line_ne {s s' : StD} {x : List UInt8} (h : s.2 ≠ [] -> s.1 ≠ []) (hf : lineD s x = some s') : s'.2 ≠ [] -> s'.1 ≠ [] := by
 unfold lineD at hf
 split at hf
 ·split at hf
  ·cases hf
  rename_i q
  injection hf with hf
  subst hf
  exact fun _ => q
 split at hf
 ·cases hf
 injection hf with hf
 subst hf
 intro _
 simp
theorem step_ne {s s' : StD} {x : List UInt8} (h : s.2 ≠ [] -> s.1 ≠ []) (hf : stepD s x = some s') : s'.2 ≠ [] -> s'.1 ≠ [] := by
 unfold stepD at hf
 split at hf
 ·exact line_ne h hf
 cases hs : flushD s with
 | none => rw [hs] at hf; cases hf
 | some s1 =>
 rw [hs] at hf
 exact line_ne (fun q => absurd (flush_ls hs) q) hf
theorem run_ne : ∀ (xs : List (List UInt8)) {s s' : StD}, (s.2 ≠ [] -> s.1 ≠ []) -> runD xs s = some s' -> s'.2 ≠ [] -> s'.1 ≠ []
 | [], s, s', h, hr => by
  injection hr with hr
  subst hr
  exact h
 | x :: r, s, s', h, hr => by
  rw [runD] at hr
  cases hs : stepD s x with
  | none => rw [hs] at hr; cases hr
  | some s1 =>
  rw [hs] at hr
  exact run_ne r (step_ne h hs) hr
theorem edRow_turn : ∀ (p : List Ed) (e e' : Ed) (F : List Value), e.kind = e'.kind -> e.id = e'.id -> edRow (p ++ [e]) F = edRow (p ++ [e']) F
 | [], e, e', F, h1, h2 => by
  cases F with
  | nil => rfl
  | cons f r =>
  show (Value.int .i64 e.kind :: .int .i64 e.id :: f :: edRow [] r) = (Value.int .i64 e'.kind :: .int .i64 e'.id :: f :: edRow [] r)
  rw [h1, h2]
 | x :: p, e, e', F, h1, h2 => by
  cases F with
  | nil => rfl
  | cons f r =>
  show (_ :: _ :: _ :: edRow (p ++ [e]) r) = (_ :: _ :: _ :: edRow (p ++ [e']) r)
  rw [edRow_turn p e e' r h1 h2]
theorem cellsF_snoc' (fs : List Fld) (f : Fld) : cellsF (fs ++ [f]) = cellsF fs ++ [.string (B f.1), .string (B f.2)] := by unfold cellsF; simp
theorem own_field {lo : Nat} {W w2 : World} {og oc g c : Nat} {p : List Ed} {e : Ed} {fvs : List Value} {f : Fld} (h : OwnE lo W (.slice (some ⟨og, 0, none⟩) (p.length + 1) oc) (p ++ [e]) fvs) (hb : Below W.heap.size W w2) (hlo : lo <= W.heap.size)
  (hr : w2.ownsRow W.heap.size 83 2 (.slice (some ⟨g, 0, none⟩) (e.fields.length + 1) c) (e.fields.length + 1) (cellsF e.fields ++ [.string (B f.1), .string (B f.2)])) :
  OwnE lo (w2.setCell ⟨og, p.length * 3 + 2, none⟩ (.slice (some ⟨g, 0, none⟩) (e.fields.length + 1) c)) (.slice (some ⟨og, 0, none⟩) (p.length + 1) oc) (p ++ [⟨e.kind, e.id, e.fields ++ [f]⟩]) (fvs.set p.length (.slice (some ⟨g, 0, none⟩) (e.fields.length + 1) c)) := by
 have hl0 := h.len
 rw [List.length_append, List.length_singleton] at hl0
 have hrow := row_below h.row hb (Nat.le_refl _)
 rw [List.length_append, List.length_singleton] at hrow
 refine ⟨?_, by rw [List.length_set, List.length_append, List.length_singleton]; exact hl0, fun i ed fv h1 h2 => ?_⟩
 ·rw [List.length_append, List.length_singleton, <- edRow_turn p e ⟨e.kind, e.id, e.fields ++ [f]⟩ _ rfl rfl, <- edRow_set (p ++ [e]) fvs p.length _ h.len]
  exact row_put hrow _
 have h1' := h1
 rcases Nat.lt_or_ge i p.length with q | q
 ·rw [List.getElem?_append_left q] at h1
  rw [List.getElem?_set_ne (by omega)] at h2
  have hx := row_below (h.each i ed fv (by rw [List.getElem?_append_left q]; exact h1) h2) hb (Nat.le_refl _)
  exact row_cell hx (fun z => own_own_ne hrow hx (by decide) og rfl z) _
 have hi : i = p.length := by
  have := (List.getElem?_eq_some_iff.1 h1').1
  rw [List.length_append, List.length_singleton] at this
  omega
 subst hi
 rw [List.getElem?_append_right (Nat.le_refl _), Nat.sub_self] at h1
 cases h1
 rw [List.getElem?_set_self (by omega)] at h2
 cases h2
 have hr' := rowBase hr hlo
 show World.ownsRow _ lo _ 2 _ (e.fields ++ [f]).length (cellsF (e.fields ++ [f]))
 rw [cellsF_snoc', List.length_append, List.length_singleton]
 exact row_cell hr' (fun z => own_own_ne hrow hr' (by decide) og rfl z) _
theorem line_cell {l : List UInt8} {k : Nat} {x : List UInt8} (h : (linesT l)[k]? = some x) : (cellsOf (linesOf l))[k * 4 + 2]? = some (.string (B x)) := by
 unfold linesT at h
 rw [List.getElem?_map] at h
 cases hy : (linesOf l)[k]? with
 | none => rw [hy] at h; cases h
 | some y =>
 rw [hy] at h
 cases h
 obtain ⟨hk, hyy⟩ := List.getElem?_eq_some_iff.1 hy
 have e : linesOf l = (linesOf l).take k ++ y :: (linesOf l).drop (k + 1) := by
  rw [<- hyy]; simp
 have hkl : ((linesOf l).take k).length = k := by rw [List.length_take]; omega
 have := cellsOf_at ((linesOf l).take k) y ((linesOf l).drop (k + 1)) 2 (by decide)
 rw [<- e, hkl] at this
 rw [this]
 rfl
end Go.Proofs.YtbkeoiefolkjfaaGreatDoor
namespace Go.Proofs.YtbkeoiefolkjfaaGreatDoor
open Go.RowKit Go.Shelf
attribute [local go_sem] Oper.semAt_some
theorem itoa0 : Lib.itoa 0 = [48] := by
 rw [show (0 : Int) = ((0 : Nat) : Int) from rfl, Lib.itoa_nonneg, Lib.decDigits_one (by decide)]; rfl
end Go.Proofs.YtbkeoiefolkjfaaGreatDoor
namespace Go.Proofs.YtbkeoiefolkjfaaGreatDoor
open Go.RowKit Go.Shelf
attribute [local go_sem] Oper.semAt_some
theorem batch_le {eds : List Ed} (hg : ∀ ed ∈ eds, goodE ed = 0) (hi : ∀ ed ∈ eds, I64 ed.id) : (batchT eds).length <= 600000 * eds.length := by
 induction eds with
 | nil => exact Nat.le_refl _
 | cons a r ih =>
 have h1 := edT_le (goodE_F (hg a List.mem_cons_self)) (hi a List.mem_cons_self)
 have h2 := ih (fun x hx => hg x (List.mem_cons_of_mem _ hx)) (fun x hx => hi x (List.mem_cons_of_mem _ hx))
 rw [batchT_cons, List.length_append, List.length_cons]; omega
theorem refEncodeA_any (eds : List Ed) (v : Value) (w : World) (h : EdV w v eds) (hl : eds.length <= 51) (hg : ∀ ed ∈ eds, goodE ed = 0) (hi : ∀ ed ∈ eds, I64 ed.id) :
  Calls Tryz.prog 45 #[v] w fun e w' => e = .returned (.string (B (batchT eds))) /\ Below w.heap.size w w' := by
 obtain ⟨A, cap, rfl, hle, hc⟩ := h
 have PC := Lib.hid hc
 have HG := Lib.hid hg
 have HI := Lib.hid hi
 clear hc hg hi
 go_enter Tryz.func45, Tryz.ntmps45
 go_wp2_with fail
 go_loopw [3, 4] (fun sv i wr => ∃ k : Nat, k <= eds.length /\ i = .int .i64 k /\ sv = .string (B (batchT (eds.take k))) /\ Below w.heap.size w wr) (fun _ i _ => eds.length - (intOf i).toNat)
 case atStart => exact ⟨0, Nat.zero_le _, rfl, rfl, Below.refl _ _⟩
 case round =>
 obtain ⟨k, hk, rfl, rfl, hb⟩ := hrel
 by_cases hlt : k < eds.length
 ·obtain ⟨ed, hed⟩ : ∃ ed, eds[k]? = some ed := ⟨_, List.getElem?_eq_getElem hlt⟩
  obtain ⟨b, off, fv, rfl, hbb, c0, c1, c2, hfl⟩ := PC.out k ed hed
  have hie := HI.out ed (List.mem_of_getElem? hed)
  have GF := goodE_F (HG.out ed (List.mem_of_getElem? hed))
  have TK : Hid (batchT (eds.take (k + 1)) = batchT (eds.take k) ++ ((lineA ed.kind ed.id ++ [10]) ++ indL [32, 32] (linesOf (foldG ed.fields)))) := by
   show _ = _
   rw [take_snoc hed, batchT_snoc, edT_parts GF]
  have ELE := edT_le GF hie
  rw [edT_parts GF, List.length_append, List.length_append] at ELE
  have BLE : (batchT (eds.take k)).length <= 600000 * 51 := by
   have h1 := batch_le (eds := eds.take k) (fun x hx => HG.out x (List.mem_of_mem_take hx)) (fun x hx => HI.out x (List.mem_of_mem_take hx))
   rw [List.length_take] at h1
   have : min k eds.length <= 51 := by omega
   omega
  have fle := foldG_le GF
  have fl40 := GF.len
  have hEE : ∀ W, Below wr.drew.heap.size wr.drew W -> (Instr.loadAt 40 (.pointer (some ⟨b, off + k * 3, none⟩))).run Tryz.prog W = .ok (.agg #[.int .i64 ed.kind, .int .i64 ed.id, fv]) W /\ (Instr.loadAt 38 (.pointer (some ⟨b, off + k * 3 + 2, none⟩))).run Tryz.prog W = .ok fv W := fun W hW => by
   have hW' : Below w.heap.size w W := hb.drew.trans (hW.mono hb.size)
   have d0 := (hW'.cell (p := ⟨b, off + k * 3, none⟩) hbb).trans c0
   have d1 := (hW'.cell (p := ⟨b, off + k * 3 + 1, none⟩) hbb).trans c1
   have d2 := (hW'.cell (p := ⟨b, off + k * 3 + 1 + 1, none⟩) hbb).trans c2
   obtain ⟨fa, fc, rfl, _, _⟩ := _root_.id hfl.1
   exact ⟨by simp [go_sem, d0, d1, d2], by simp [go_sem, d2]⟩
  have hfv' : ∀ W, Below wr.drew.heap.size wr.drew W -> Flds W fv ed.fields := fun W hW => hfl.1.below (hb.drew.trans (hW.mono hb.size)) (Nat.le_refl _)
  have hlt2 := hlt
  go_upto_region 5 with fail
  refine wp_region_any (by kernel_rfl) ?_
  refine region_re5 _ wr.drew b off eds.length cap k ed.kind ed.id fv (B (batchT (eds.take k))) (B (lineA ed.kind ed.id)) (B (foldG ed.fields)) (B (indL [32, 32] (linesOf (foldG ed.fields)))) _ rfl rfl rfl rfl hlt2 hEE (by rw [B_size]; omega) (by rw [B_size]; omega) (by rw [B_size]; omega) ?h5 ?h13 ?h14 ?hQ
  case h5 => exact fun W hW => (refLineA_any ed.kind ed.id fv hie W).mono fun e w' ⟨he, hb⟩ => ⟨_, he, rfl, hb⟩
  case h13 => exact fun W hW => (refFold_any ed.fields fv W (hfv' W hW) (by omega) GF.small).mono fun e w' ⟨he, hb⟩ => ⟨_, he, rfl, hb⟩
  case h14 =>
   intro W hW
   refine (refIndent_any (B (foldG ed.fields)) ⟨#[32, 32]⟩ (by rw [B_size]; omega) (by decide) W).mono ?_
   rintro e w' ⟨rfl, hb⟩
   exact ⟨_, rfl, by rw [B_data]; rfl, hb⟩
  case hQ =>
  intro y0 y1 y2 y3 y4 y5 y6 y7 y8 y9 y10 y11 y12 y13 y14 y15 w2 hb2 hy15
  have hy : y15 = .string (B (batchT (eds.take k)) ++ B (lineA ed.kind ed.id) ++ ⟨#[10]⟩ ++ B (indL [32, 32] (linesOf (foldG ed.fields)))) := hy15
  rw [show (⟨#[10]⟩ : ByteArray) = B [10] from rfl, B_append, B_append, B_append, show batchT (eds.take k) ++ lineA ed.kind ed.id ++ [10] ++ indL [32, 32] (linesOf (foldG ed.fields)) = batchT (eds.take (k + 1)) by rw [TK.out]; simp] at hy
  subst hy
  have HB2 := Lib.hid (hb.drew.trans (hb2.mono hb.size))
  clear hb2 hy15 hEE hfv' hfl GF hie hed c0 c1 c2 TK ELE BLE fle
  simp only [List.foldl, List.setIfInBounds_toArray, List.set_cons_zero, List.set_cons_succ]
  generalize hXe : B (batchT (eds.take (k + 1))) = X at *
  go_wp2_with fail
  go_roundw
  case rel => exact ⟨k + 1, hlt, by go_num, by rw [hXe], HB2.out⟩
  case measure => simp [intOf]; omega
 obtain rfl : k = eds.length := by omega
 rw [List.take_length] at *
 have HB := Lib.hid hb
 clear hb PC HG HI
 generalize hXe : B (batchT eds) = X at *
 go_wp2_with fail
 go_ret
 exact ⟨by rw [hXe]; rfl, HB.out⟩
end Go.Proofs.YtbkeoiefolkjfaaGreatDoor
namespace Go.Proofs.YtbkeoiefolkjfaaGreatDoor
open Go.RowKit Go.Shelf
theorem refUnfold_any (ls : List (List UInt8)) (v : Value) (w : World) (hs : Strs w v (ls.map B)) (hl : ∀ l ∈ ls, l.length <= 100000) (hn : ls.length <= 100000) (hj : (saidV ls).length <= 1000000) :
  Calls Tryz.prog 68 #[v] w fun e w' => e = .returned (.tuple #[fieldV (unfoldK ls) (unfoldV ls), .int .i64 (unfoldN ls : Nat)]) /\ Below w.heap.size w w' := by
 cases ls with
 | nil =>
  have hF : sayF [] = false := rfl
  obtain ⟨e1, e2, e3⟩ := unfold_no hF
  rw [e1, e2, e3]
  exact refUnfold_no [] v w hs hl hn (.inl rfl)
 | cons a r =>
 by_cases hka : kindL a = 4
 ·exact refUnfold_yes a r v w hs hl hn hj hka
 have hF : sayF (a :: r) = false := by
  rw [sayF_eq]
  show (decide (0 < (a :: r).length) && ((kindL a == 4) && sayG 3 r)) = _
  simp [hka]
 obtain ⟨e1, e2, e3⟩ := unfold_no hF
 rw [e1, e2, e3]
 exact refUnfold_no (a :: r) v w hs hl hn (.inr ⟨a, r, rfl, hka⟩)
end Go.Proofs.YtbkeoiefolkjfaaGreatDoor
