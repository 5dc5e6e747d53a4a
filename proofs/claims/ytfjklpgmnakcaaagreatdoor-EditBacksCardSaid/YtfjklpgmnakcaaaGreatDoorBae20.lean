/- Texts put together: KR, KJ, KT, NH, NF, NI, NJ, EH. -/
import Derived.ArgAppend
import Derived.Test.YtfjklpgmnakcaaaGreatDoorBae2
import Derived.Test.YtfjklpgmnakcaaaGreatDoorBae10
import Derived.Test.YtfjklpgmnakcaaaGreatDoorBae15
import Derived.Test.YtfjklpgmnakcaaaGreatDoorBae17
import Derived.Test.YtfjklpgmnakcaaaGreatDoorBae18
import Derived.Test.YtfjklpgmnakcaaaGreatDoorBae19
set_option linter.unusedVariables false
set_option maxRecDepth 100000
set_option maxHeartbeats 16000000
namespace Go.Proofs.YtfjklpgmnakcaaaGreatDoor
open Go.RowKit Go.Shelf
attribute [local go_sem] Oper.semAt_some
def ops_rb18 : List Oper := [
  { dst := some 79, op := Op.move (Operand.tmp 13), type := 22, pos := "ref.go:96", after := #[], guard := none },
  { dst := some 80, op := Op.move (Operand.tmp 12), type := 78, pos := "ref.go:96", after := #[], guard := none },
  { dst := some 81, op := Op.fieldAddr 53 (Operand.tmp 15) 1, type := 0, pos := "ref.go:96", after := #[], guard := none },
  { dst := some 82, op := Op.load 3 (Operand.tmp 81), type := 3, pos := "ref.go:96", after := #[{ on := 2, ground := Ground.data }], guard := none },
  { dst := some 83, op := Op.call { callee := Callee.value (Operand.func 29), args := #[Operand.tmp 80, Operand.tmp 82], argTypes := #[78, 3] }, type := 3, pos := "ref.go:96", after := #[{ on := 1, ground := Ground.data }, { on := 3, ground := Ground.data }], guard := none },
  { dst := some 84, op := Op.fieldAddr 80 (Operand.tmp 16) 2, type := 0, pos := "ref.go:96", after := #[], guard := none },
  { dst := some 85, op := Op.load 46 (Operand.tmp 84), type := 46, pos := "ref.go:96", after := #[{ on := 5, ground := Ground.data }], guard := none },
  { dst := some 86, op := Op.build 53 #[(0, Operand.const (Value.int IntKind.i64 1)), (1, Operand.tmp 83), (2, Operand.tmp 85)], type := 53, pos := "ref.go:96", after := #[{ on := 4, ground := Ground.data }, { on := 6, ground := Ground.data }], guard := none },
  { dst := some 87, op := Op.buildSlice 22 1 #[(0, Operand.tmp 86)], type := 22, pos := "ref.go:96", after := #[{ on := 7, ground := Ground.data }], guard := none },
  { dst := some 88, op := Op.call { callee := Callee.builtin Builtin.append, args := #[Operand.tmp 79, Operand.tmp 87], argTypes := #[22, 22] }, type := 22, pos := "ref.go:96", after := #[{ on := 0, ground := Ground.data }, { on := 8, ground := Ground.data }, { on := 4, ground := Ground.chain }], guard := none },
  { dst := some 13, op := Op.assign (Operand.tmp 88), type := 22, pos := "ref.go:96", after := #[{ on := 9, ground := Ground.data }, { on := 9, ground := Ground.chain }, { on := 0, ground := Ground.phase }, { on := 1, ground := Ground.phase }, { on := 2, ground := Ground.phase }, { on := 3, ground := Ground.phase }, { on := 4, ground := Ground.phase }, { on := 5, ground := Ground.phase }, { on := 6, ground := Ground.phase }, { on := 7, ground := Ground.phase }, { on := 8, ground := Ground.phase }, { on := 9, ground := Ground.phase }], guard := none }]
def dst_rb18 (i : Nat) : Option Nat := (ops_rb18[i]?).bind (·.dst)
theorem inj_rb18 : ∀ i, i < 9 -> ∀ k, k < 9 -> dst_rb18 i ≠ none -> dst_rb18 i = dst_rb18 k -> i = k := by decide +kernel
theorem lt_rb18 : ∀ i, i < 9 -> (dst_rb18 i).getD 0 < 140 := by decide +kernel
theorem low_rb18 : ∀ i : Fin 11, ∀ e ∈ (ops_rb18[i.1]'(by exact i.2)).after, Region.binds .any e = true -> e.on < i.1 := by decide +kernel
def pv_rb18 (eb sb lo : Nat) (ov pv : Value) (i z : Int) (ga : Option Addr) (gn gc : Nat) : List (Value -> World -> Prop) := [
  fun v w => v = ov,
  fun v w => v = pv,
  fun v w => v = .pointer (some ⟨eb, 1, none⟩),
  fun v w => v = .int .i64 i,
  fun v w => v = .int .i64 z,
  fun v w => v = .pointer (some ⟨sb, 2, none⟩),
  fun v w => v = .slice ga gn gc,
  fun v w => v = .agg #[.int .i64 1, .int .i64 z, .slice ga gn gc],
  fun v w => ∃ b, v = .slice (some ⟨b, 0, none⟩) 1 1 /\ lo <= b /\ Cells w b 53 #[.int .i64 1, .int .i64 z, .slice ga gn gc]]
theorem region_rb18 (a0 : Act) (w0 : World) (eb sb lo : Nat) (ov pv : Value) (i z : Int) (ga : Option Addr) (gn gc : Nat) (Q : Exit -> Act -> World -> Prop)
    (hsz : a0.tmps.size = 140) (h13 : a0.tmps[13]? = some (ov)) (h12 : a0.tmps[12]? = some (pv)) (h15 : a0.tmps[15]? = some (.pointer (some ⟨eb, 0, none⟩))) (h16 : a0.tmps[16]? = some (.pointer (some ⟨sb, 0, none⟩)))
    (hE : ∀ W, Below w0.heap.size w0 W -> W.cell? ⟨eb, 1, none⟩ = some (.int .i64 i) /\ W.cell? ⟨sb, 2, none⟩ = some (.slice ga gn gc)) (hlo : lo <= w0.heap.size)
    (hC4 : ∀ (W : World) (_ : Below w0.heap.size w0 W), Calls Tryz.prog 29 #[pv, .int .i64 i] W fun e w => ∃ v, e = .returned v /\ (v = .int .i64 z) /\ Below W.heap.size W w)
    (hQ : ∀ (y0 y1 y2 y3 y4 y5 y6 y7 y8 : Value) (w : World), Below w0.heap.size w0 w -> ((fun (v : Value) (w : World) => v = ov) y0 w) -> ((fun (v : Value) (w : World) => ∃ b, v = .slice (some ⟨b, 0, none⟩) 1 1 /\ lo <= b /\ Cells w b 53 #[.int .i64 1, .int .i64 z, .slice ga gn gc]) y8 w) -> wpList Tryz.prog ops_rb18.toArray Q [{ dst := some 88, op := Op.call { callee := Callee.builtin Builtin.append, args := #[Operand.tmp 79, Operand.tmp 87], argTypes := #[22, 22] }, type := 22, pos := "ref.go:96", after := #[{ on := 0, ground := Ground.data }, { on := 8, ground := Ground.data }, { on := 4, ground := Ground.chain }], guard := none }, { dst := some 13, op := Op.assign (Operand.tmp 88), type := 22, pos := "ref.go:96", after := #[{ on := 9, ground := Ground.data }, { on := 9, ground := Ground.chain }, { on := 0, ground := Ground.phase }, { on := 1, ground := Ground.phase }, { on := 2, ground := Ground.phase }, { on := 3, ground := Ground.phase }, { on := 4, ground := Ground.phase }, { on := 5, ground := Ground.phase }, { on := 6, ground := Ground.phase }, { on := 7, ground := Ground.phase }, { on := 8, ground := Ground.phase }, { on := 9, ground := Ground.phase }], guard := none }] { a0 with tmps := [(79, y0), (80, y1), (81, y2), (82, y3), (83, y4), (84, y5), (85, y6), (86, y7), (87, y8)].foldl (fun u p => u.setIfInBounds p.1 p.2) a0.tmps } w) :
    wpAny Tryz.prog .any ops_rb18.toArray Q ops_rb18.toArray.size (Array.replicate ops_rb18.toArray.size false) a0 w0 := by
  have M : AllM (pv_rb18 eb sb lo ov pv i z ga gn gc) := ⟨fun v x y hb h => h, fun v x y hb h => h, fun v x y hb h => h, fun v x y hb h => h, fun v x y hb h => h, fun v x y hb h => h, fun v x y hb h => h, fun v x y hb h => h, fun v x y hb h => by obtain ⟨b, e, h1, h4⟩ := h; exact ⟨b, e, h1, cells_kept h4 hb h4.lt⟩, trivial⟩
  refine wpAny_mono_tail 9 2 (by kernel_rfl) (by decide) a0 w0 dst_rb18 (pv_rb18 eb sb lo ov pv i z ga gn gc) M (by kernel_rfl) (by kernel_rfl) (by kernel_rfl)
    (fun i o _ ho => by unfold dst_rb18; rw [ho]; rfl)
    (fun i k d hi hk h1 h2 => inj_rb18 i hi k hk (by rw [h1]; intro q; cases q) (by rw [h1, h2]))
    (fun i d hi h => by have := lt_rb18 i hi; rw [h] at this; rw [hsz]; exact this)
    (fun i o e ho he hb => by
      obtain ⟨hi, rfl⟩ := List.getElem?_eq_some_iff.1 ho
      exact low_rb18 ⟨i, hi⟩ e he hb)
    ?step ?fin
  case fin =>
    intro a w hd hs hf hv hR
    obtain ⟨y0, hy0, pv0⟩ := hv 0 79 (by decide) rfl
    obtain ⟨y1, hy1, pv1⟩ := hv 1 80 (by decide) rfl
    obtain ⟨y2, hy2, pv2⟩ := hv 2 81 (by decide) rfl
    obtain ⟨y3, hy3, pv3⟩ := hv 3 82 (by decide) rfl
    obtain ⟨y4, hy4, pv4⟩ := hv 4 83 (by decide) rfl
    obtain ⟨y5, hy5, pv5⟩ := hv 5 84 (by decide) rfl
    obtain ⟨y6, hy6, pv6⟩ := hv 6 85 (by decide) rfl
    obtain ⟨y7, hy7, pv7⟩ := hv 7 86 (by decide) rfl
    obtain ⟨y8, hy8, pv8⟩ := hv 8 87 (by decide) rfl
    rw [act_set' (a := a) (a0 := a0) [(79, y0), (80, y1), (81, y2), (82, y3), (83, y4), (84, y5), (85, y6), (86, y7), (87, y8)] hd hs (by
      intro p hp
      simp only [List.mem_cons, List.not_mem_nil, or_false] at hp
      rcases hp with rfl | rfl | rfl | rfl | rfl | rfl | rfl | rfl | rfl
      . exact hy0
      . exact hy1
      . exact hy2
      . exact hy3
      . exact hy4
      . exact hy5
      . exact hy6
      . exact hy7
      . exact hy8
      ) (fun j hj => hf j (fun k hk q => hj (by
        have : ∀ k, k < 9 -> (dst_rb18 k).all (fun d => [79, 80, 81, 82, 83, 84, 85, 86, 87].contains d) = true := by decide +kernel
        have h1 := this k hk
        rw [q] at h1
        simpa using h1)))]
    exact hQ y0 y1 y2 y3 y4 y5 y6 y7 y8 w hR pv0 pv8
  case step =>
  intro i o a w hi ho hs hf dep hR
  have e13 := evT ((hf 13 (by decide +kernel)).trans h13)
  have e12 := evT ((hf 12 (by decide +kernel)).trans h12)
  have e15 := evT ((hf 15 (by decide +kernel)).trans h15)
  have e16 := evT ((hf 16 (by decide +kernel)).trans h16)
  rcases (by omega : i = 0 \/ i = 1 \/ i = 2 \/ i = 3 \/ i = 4 \/ i = 5 \/ i = 6 \/ i = 7 \/ i = 8) with rfl | rfl | rfl | rfl | rfl | rfl | rfl | rfl | rfl
  . have ho2 : some _ = some o := ho
    obtain rfl := Option.some.inj ho2
    exact .inl ⟨wantN rfl, fun K hK => mo_move rfl e13 (hK _ _ (Below.refl _ _) rfl)⟩
  . have ho2 : some _ = some o := ho
    obtain rfl := Option.some.inj ho2
    exact .inl ⟨wantN rfl, fun K hK => mo_move rfl e12 (hK _ _ (Below.refl _ _) rfl)⟩
  . have ho2 : some _ = some o := ho
    obtain rfl := Option.some.inj ho2
    exact .inl ⟨wantN rfl, fun K hK => mo_field (by simp [go_sem]) rfl e15 (hK _ _ (Below.refl _ _) rfl)⟩
  . have ho2 : some _ = some o := ho
    obtain rfl := Option.some.inj ho2
    obtain ⟨_, hv2, rfl⟩ : ∃ v, a.tmps[81]? = some v /\ (fun (v : Value) (w : World) => v = .pointer (some ⟨eb, 1, none⟩)) v w := dep ⟨2, Ground.data⟩ (by first | simp | simp [ops_rb18]) rfl 81 rfl
    exact .inl ⟨wantN rfl, fun K hK => mo_load (by simp [go_sem, (hE w hR).1]) rfl (evT hv2) (hK _ _ (Below.refl _ _) rfl)⟩
  . have ho2 : some _ = some o := ho
    obtain rfl := Option.some.inj ho2
    obtain ⟨_, hv1, rfl⟩ : ∃ v, a.tmps[80]? = some v /\ (fun (v : Value) (w : World) => v = pv) v w := dep ⟨1, Ground.data⟩ (by first | simp | simp [ops_rb18]) rfl 80 rfl
    obtain ⟨_, hv3, rfl⟩ : ∃ v, a.tmps[82]? = some v /\ (fun (v : Value) (w : World) => v = .int .i64 i) v w := dep ⟨3, Ground.data⟩ (by first | simp | simp [ops_rb18]) rfl 82 rfl
    exact .inl ⟨wantN rfl, fun K hK => mo_call2 29 rfl (evT hv1) (evT hv3) (enters_of (P := Tryz.prog) Tryz.func29 (by kernel_rfl) rfl) (hC4 w hR) (fun v w' h => hK v w' h.2 h.1)⟩
  . have ho2 : some _ = some o := ho
    obtain rfl := Option.some.inj ho2
    exact .inl ⟨wantN rfl, fun K hK => mo_field (by simp [go_sem]) rfl e16 (hK _ _ (Below.refl _ _) rfl)⟩
  . have ho2 : some _ = some o := ho
    obtain rfl := Option.some.inj ho2
    obtain ⟨_, hv5, rfl⟩ : ∃ v, a.tmps[84]? = some v /\ (fun (v : Value) (w : World) => v = .pointer (some ⟨sb, 2, none⟩)) v w := dep ⟨5, Ground.data⟩ (by first | simp | simp [ops_rb18]) rfl 84 rfl
    exact .inl ⟨wantN rfl, fun K hK => mo_load (by simp [go_sem, (hE w hR).2]) rfl (evT hv5) (hK _ _ (Below.refl _ _) rfl)⟩
  . have ho2 : some _ = some o := ho
    obtain rfl := Option.some.inj ho2
    obtain ⟨_, hv4, rfl⟩ : ∃ v, a.tmps[83]? = some v /\ (fun (v : Value) (w : World) => v = .int .i64 z) v w := dep ⟨4, Ground.data⟩ (by first | simp | simp [ops_rb18]) rfl 83 rfl
    obtain ⟨_, hv6, rfl⟩ : ∃ v, a.tmps[85]? = some v /\ (fun (v : Value) (w : World) => v = .slice ga gn gc) v w := dep ⟨6, Ground.data⟩ (by first | simp | simp [ops_rb18]) rfl 85 rfl
    exact .inl ⟨wantN rfl, fun K hK => mo_build3 rfl rfl (evT hv4) (evT hv6) (hK _ _ (Below.refl _ _) rfl)⟩
  have ho2 : some _ = some o := ho
  obtain rfl := Option.some.inj ho2
  obtain ⟨_, hv7, rfl⟩ : ∃ v, a.tmps[86]? = some v /\ (fun (v : Value) (w : World) => v = .agg #[.int .i64 1, .int .i64 z, .slice ga gn gc]) v w := dep ⟨7, Ground.data⟩ (by first | simp | simp [ops_rb18]) rfl 86 rfl
  exact .inl ⟨wantN rfl, fun K hK => mo_lit3 rfl (evT hv7) (hK _ _ ((Below.refl _ _).alloc (Nat.le_refl _) _) ⟨w.heap.size, rfl, Nat.le_trans hlo hR.size, Cells.new _ _ _⟩)⟩
def ops_rb25 : List Oper := [
  { dst := some 121, op := Op.move (Operand.tmp 13), type := 22, pos := "ref.go:105", after := #[], guard := none },
  { dst := some 122, op := Op.move (Operand.tmp 12), type := 78, pos := "ref.go:105", after := #[], guard := none },
  { dst := some 123, op := Op.move (Operand.tmp 19), type := 3, pos := "ref.go:105", after := #[], guard := none },
  { dst := some 124, op := Op.call { callee := Callee.value (Operand.func 29), args := #[Operand.tmp 122, Operand.tmp 123], argTypes := #[78, 3] }, type := 3, pos := "ref.go:105", after := #[{ on := 1, ground := Ground.data }, { on := 2, ground := Ground.data }], guard := none },
  { dst := some 125, op := Op.fieldAddr 80 (Operand.tmp 16) 2, type := 0, pos := "ref.go:105", after := #[], guard := none },
  { dst := some 126, op := Op.load 46 (Operand.tmp 125), type := 46, pos := "ref.go:105", after := #[{ on := 4, ground := Ground.data }], guard := none },
  { dst := some 127, op := Op.build 53 #[(0, Operand.const (Value.int IntKind.i64 3)), (1, Operand.tmp 124), (2, Operand.tmp 126)], type := 53, pos := "ref.go:105", after := #[{ on := 3, ground := Ground.data }, { on := 5, ground := Ground.data }], guard := none },
  { dst := some 128, op := Op.buildSlice 22 1 #[(0, Operand.tmp 127)], type := 22, pos := "ref.go:105", after := #[{ on := 6, ground := Ground.data }], guard := none },
  { dst := some 129, op := Op.call { callee := Callee.builtin Builtin.append, args := #[Operand.tmp 121, Operand.tmp 128], argTypes := #[22, 22] }, type := 22, pos := "ref.go:105", after := #[{ on := 0, ground := Ground.data }, { on := 7, ground := Ground.data }, { on := 3, ground := Ground.chain }], guard := none },
  { dst := some 13, op := Op.assign (Operand.tmp 129), type := 22, pos := "ref.go:105", after := #[{ on := 8, ground := Ground.data }, { on := 8, ground := Ground.chain }, { on := 0, ground := Ground.phase }, { on := 1, ground := Ground.phase }, { on := 2, ground := Ground.phase }, { on := 3, ground := Ground.phase }, { on := 4, ground := Ground.phase }, { on := 5, ground := Ground.phase }, { on := 6, ground := Ground.phase }, { on := 7, ground := Ground.phase }, { on := 8, ground := Ground.phase }], guard := none }]
def dst_rb25 (i : Nat) : Option Nat := (ops_rb25[i]?).bind (·.dst)
theorem inj_rb25 : ∀ i, i < 8 -> ∀ k, k < 8 -> dst_rb25 i ≠ none -> dst_rb25 i = dst_rb25 k -> i = k := by decide +kernel
theorem lt_rb25 : ∀ i, i < 8 -> (dst_rb25 i).getD 0 < 140 := by decide +kernel
theorem low_rb25 : ∀ i : Fin 10, ∀ e ∈ (ops_rb25[i.1]'(by exact i.2)).after, Region.binds .any e = true -> e.on < i.1 := by decide +kernel
def pv_rb25 (sb lo : Nat) (ov pv : Value) (i z : Int) (ga : Option Addr) (gn gc : Nat) : List (Value -> World -> Prop) := [
  fun v w => v = ov,
  fun v w => v = pv,
  fun v w => v = .int .i64 i,
  fun v w => v = .int .i64 z,
  fun v w => v = .pointer (some ⟨sb, 2, none⟩),
  fun v w => v = .slice ga gn gc,
  fun v w => v = .agg #[.int .i64 3, .int .i64 z, .slice ga gn gc],
  fun v w => ∃ b, v = .slice (some ⟨b, 0, none⟩) 1 1 /\ lo <= b /\ Cells w b 53 #[.int .i64 3, .int .i64 z, .slice ga gn gc]]
theorem region_rb25 (a0 : Act) (w0 : World) (sb lo : Nat) (ov pv : Value) (i z : Int) (ga : Option Addr) (gn gc : Nat) (Q : Exit -> Act -> World -> Prop)
    (hsz : a0.tmps.size = 140) (h13 : a0.tmps[13]? = some (ov)) (h12 : a0.tmps[12]? = some (pv)) (h19 : a0.tmps[19]? = some (.int .i64 i)) (h16 : a0.tmps[16]? = some (.pointer (some ⟨sb, 0, none⟩)))
    (hS : ∀ W, Below w0.heap.size w0 W -> W.cell? ⟨sb, 2, none⟩ = some (.slice ga gn gc)) (hlo : lo <= w0.heap.size)
    (hC3 : ∀ (W : World) (_ : Below w0.heap.size w0 W), Calls Tryz.prog 29 #[pv, .int .i64 i] W fun e w => ∃ v, e = .returned v /\ (v = .int .i64 z) /\ Below W.heap.size W w)
    (hQ : ∀ (y0 y1 y2 y3 y4 y5 y6 y7 : Value) (w : World), Below w0.heap.size w0 w -> ((fun (v : Value) (w : World) => v = ov) y0 w) -> ((fun (v : Value) (w : World) => ∃ b, v = .slice (some ⟨b, 0, none⟩) 1 1 /\ lo <= b /\ Cells w b 53 #[.int .i64 3, .int .i64 z, .slice ga gn gc]) y7 w) -> wpList Tryz.prog ops_rb25.toArray Q [{ dst := some 129, op := Op.call { callee := Callee.builtin Builtin.append, args := #[Operand.tmp 121, Operand.tmp 128], argTypes := #[22, 22] }, type := 22, pos := "ref.go:105", after := #[{ on := 0, ground := Ground.data }, { on := 7, ground := Ground.data }, { on := 3, ground := Ground.chain }], guard := none }, { dst := some 13, op := Op.assign (Operand.tmp 129), type := 22, pos := "ref.go:105", after := #[{ on := 8, ground := Ground.data }, { on := 8, ground := Ground.chain }, { on := 0, ground := Ground.phase }, { on := 1, ground := Ground.phase }, { on := 2, ground := Ground.phase }, { on := 3, ground := Ground.phase }, { on := 4, ground := Ground.phase }, { on := 5, ground := Ground.phase }, { on := 6, ground := Ground.phase }, { on := 7, ground := Ground.phase }, { on := 8, ground := Ground.phase }], guard := none }] { a0 with tmps := [(121, y0), (122, y1), (123, y2), (124, y3), (125, y4), (126, y5), (127, y6), (128, y7)].foldl (fun u p => u.setIfInBounds p.1 p.2) a0.tmps } w) :
    wpAny Tryz.prog .any ops_rb25.toArray Q ops_rb25.toArray.size (Array.replicate ops_rb25.toArray.size false) a0 w0 := by
  have M : AllM (pv_rb25 sb lo ov pv i z ga gn gc) := ⟨fun v x y hb h => h, fun v x y hb h => h, fun v x y hb h => h, fun v x y hb h => h, fun v x y hb h => h, fun v x y hb h => h, fun v x y hb h => h, fun v x y hb h => by obtain ⟨b, e, h1, h4⟩ := h; exact ⟨b, e, h1, cells_kept h4 hb h4.lt⟩, trivial⟩
  refine wpAny_mono_tail 8 2 (by kernel_rfl) (by decide) a0 w0 dst_rb25 (pv_rb25 sb lo ov pv i z ga gn gc) M (by kernel_rfl) (by kernel_rfl) (by kernel_rfl)
    (fun i o _ ho => by unfold dst_rb25; rw [ho]; rfl)
    (fun i k d hi hk h1 h2 => inj_rb25 i hi k hk (by rw [h1]; intro q; cases q) (by rw [h1, h2]))
    (fun i d hi h => by have := lt_rb25 i hi; rw [h] at this; rw [hsz]; exact this)
    (fun i o e ho he hb => by
      obtain ⟨hi, rfl⟩ := List.getElem?_eq_some_iff.1 ho
      exact low_rb25 ⟨i, hi⟩ e he hb)
    ?step ?fin
  case fin =>
    intro a w hd hs hf hv hR
    obtain ⟨y0, hy0, pv0⟩ := hv 0 121 (by decide) rfl
    obtain ⟨y1, hy1, pv1⟩ := hv 1 122 (by decide) rfl
    obtain ⟨y2, hy2, pv2⟩ := hv 2 123 (by decide) rfl
    obtain ⟨y3, hy3, pv3⟩ := hv 3 124 (by decide) rfl
    obtain ⟨y4, hy4, pv4⟩ := hv 4 125 (by decide) rfl
    obtain ⟨y5, hy5, pv5⟩ := hv 5 126 (by decide) rfl
    obtain ⟨y6, hy6, pv6⟩ := hv 6 127 (by decide) rfl
    obtain ⟨y7, hy7, pv7⟩ := hv 7 128 (by decide) rfl
    rw [act_set' (a := a) (a0 := a0) [(121, y0), (122, y1), (123, y2), (124, y3), (125, y4), (126, y5), (127, y6), (128, y7)] hd hs (by
      intro p hp
      simp only [List.mem_cons, List.not_mem_nil, or_false] at hp
      rcases hp with rfl | rfl | rfl | rfl | rfl | rfl | rfl | rfl
      . exact hy0
      . exact hy1
      . exact hy2
      . exact hy3
      . exact hy4
      . exact hy5
      . exact hy6
      . exact hy7
      ) (fun j hj => hf j (fun k hk q => hj (by
        have : ∀ k, k < 8 -> (dst_rb25 k).all (fun d => [121, 122, 123, 124, 125, 126, 127, 128].contains d) = true := by decide +kernel
        have h1 := this k hk
        rw [q] at h1
        simpa using h1)))]
    exact hQ y0 y1 y2 y3 y4 y5 y6 y7 w hR pv0 pv7
  case step =>
  intro i o a w hi ho hs hf dep hR
  have e13 := evT ((hf 13 (by decide +kernel)).trans h13)
  have e12 := evT ((hf 12 (by decide +kernel)).trans h12)
  have e19 := evT ((hf 19 (by decide +kernel)).trans h19)
  have e16 := evT ((hf 16 (by decide +kernel)).trans h16)
  rcases (by omega : i = 0 \/ i = 1 \/ i = 2 \/ i = 3 \/ i = 4 \/ i = 5 \/ i = 6 \/ i = 7) with rfl | rfl | rfl | rfl | rfl | rfl | rfl | rfl
  . have ho2 : some _ = some o := ho
    obtain rfl := Option.some.inj ho2
    exact .inl ⟨wantN rfl, fun K hK => mo_move rfl e13 (hK _ _ (Below.refl _ _) rfl)⟩
  . have ho2 : some _ = some o := ho
    obtain rfl := Option.some.inj ho2
    exact .inl ⟨wantN rfl, fun K hK => mo_move rfl e12 (hK _ _ (Below.refl _ _) rfl)⟩
  . have ho2 : some _ = some o := ho
    obtain rfl := Option.some.inj ho2
    exact .inl ⟨wantN rfl, fun K hK => mo_move rfl e19 (hK _ _ (Below.refl _ _) rfl)⟩
  . have ho2 : some _ = some o := ho
    obtain rfl := Option.some.inj ho2
    obtain ⟨_, hv1, rfl⟩ : ∃ v, a.tmps[122]? = some v /\ (fun (v : Value) (w : World) => v = pv) v w := dep ⟨1, Ground.data⟩ (by first | simp | simp [ops_rb25]) rfl 122 rfl
    obtain ⟨_, hv2, rfl⟩ : ∃ v, a.tmps[123]? = some v /\ (fun (v : Value) (w : World) => v = .int .i64 i) v w := dep ⟨2, Ground.data⟩ (by first | simp | simp [ops_rb25]) rfl 123 rfl
    exact .inl ⟨wantN rfl, fun K hK => mo_call2 29 rfl (evT hv1) (evT hv2) (enters_of (P := Tryz.prog) Tryz.func29 (by kernel_rfl) rfl) (hC3 w hR) (fun v w' h => hK v w' h.2 h.1)⟩
  . have ho2 : some _ = some o := ho
    obtain rfl := Option.some.inj ho2
    exact .inl ⟨wantN rfl, fun K hK => mo_field (by simp [go_sem]) rfl e16 (hK _ _ (Below.refl _ _) rfl)⟩
  . have ho2 : some _ = some o := ho
    obtain rfl := Option.some.inj ho2
    obtain ⟨_, hv4, rfl⟩ : ∃ v, a.tmps[125]? = some v /\ (fun (v : Value) (w : World) => v = .pointer (some ⟨sb, 2, none⟩)) v w := dep ⟨4, Ground.data⟩ (by first | simp | simp [ops_rb25]) rfl 125 rfl
    exact .inl ⟨wantN rfl, fun K hK => mo_load (by simp [go_sem, hS w hR]) rfl (evT hv4) (hK _ _ (Below.refl _ _) rfl)⟩
  . have ho2 : some _ = some o := ho
    obtain rfl := Option.some.inj ho2
    obtain ⟨_, hv3, rfl⟩ : ∃ v, a.tmps[124]? = some v /\ (fun (v : Value) (w : World) => v = .int .i64 z) v w := dep ⟨3, Ground.data⟩ (by first | simp | simp [ops_rb25]) rfl 124 rfl
    obtain ⟨_, hv5, rfl⟩ : ∃ v, a.tmps[126]? = some v /\ (fun (v : Value) (w : World) => v = .slice ga gn gc) v w := dep ⟨5, Ground.data⟩ (by first | simp | simp [ops_rb25]) rfl 126 rfl
    exact .inl ⟨wantN rfl, fun K hK => mo_build3 rfl rfl (evT hv3) (evT hv5) (hK _ _ (Below.refl _ _) rfl)⟩
  have ho2 : some _ = some o := ho
  obtain rfl := Option.some.inj ho2
  obtain ⟨_, hv6, rfl⟩ : ∃ v, a.tmps[127]? = some v /\ (fun (v : Value) (w : World) => v = .agg #[.int .i64 3, .int .i64 z, .slice ga gn gc]) v w := dep ⟨6, Ground.data⟩ (by first | simp | simp [ops_rb25]) rfl 127 rfl
  exact .inl ⟨wantN rfl, fun K hK => mo_lit3 rfl (evT hv6) (hK _ _ ((Below.refl _ _).alloc (Nat.le_refl _) _) ⟨w.heap.size, rfl, Nat.le_trans hlo hR.size, Cells.new _ _ _⟩)⟩
def ops_rb21 : Array Oper := #[
  { dst := some 102, op := Op.move (Operand.tmp 5), type := 77, pos := "ref.go:100", after := #[], guard := none },
  { dst := some 103, op := Op.move (Operand.tmp 14), type := 3, pos := "ref.go:100", after := #[], guard := none },
  { dst := some 104, op := Op.indexAddr 77 (Operand.tmp 102) (Operand.tmp 103), type := 0, pos := "ref.go:100", after := #[{ on := 0, ground := Ground.data }, { on := 1, ground := Ground.data }], guard := none },
  { dst := some 105, op := Op.load 28 (Operand.tmp 104), type := 28, pos := "ref.go:100", after := #[{ on := 2, ground := Ground.data }], guard := none },
  { dst := some 106, op := Op.fieldAddr 53 (Operand.tmp 15) 1, type := 0, pos := "ref.go:100", after := #[], guard := none },
  { dst := some 107, op := Op.load 3 (Operand.tmp 106), type := 3, pos := "ref.go:100", after := #[{ on := 4, ground := Ground.data }], guard := none },
  { dst := some 108, op := Op.call { callee := Callee.value (Operand.func 30), args := #[Operand.tmp 105, Operand.tmp 107], argTypes := #[28, 3] }, type := 3, pos := "ref.go:100", after := #[{ on := 3, ground := Ground.data }, { on := 5, ground := Ground.data }], guard := none },
  { dst := some 18, op := Op.assign (Operand.tmp 108), type := 3, pos := "ref.go:100", after := #[{ on := 6, ground := Ground.data }, { on := 6, ground := Ground.chain }, { on := 0, ground := Ground.phase }, { on := 1, ground := Ground.phase }, { on := 2, ground := Ground.phase }, { on := 3, ground := Ground.phase }, { on := 4, ground := Ground.phase }, { on := 5, ground := Ground.phase }, { on := 6, ground := Ground.phase }], guard := none }]
def dst_rb21 (i : Nat) : Option Nat := (ops_rb21[i]?).bind (·.dst)
theorem inj_rb21 : ∀ i, i < 8 -> ∀ k, k < 8 -> dst_rb21 i ≠ none -> dst_rb21 i = dst_rb21 k -> i = k := by decide +kernel
theorem lt_rb21 : ∀ i, i < 8 -> (dst_rb21 i).getD 0 < 140 := by decide +kernel
theorem low_rb21 : ∀ i : Fin 8, ∀ e ∈ (ops_rb21[i.1]'(by exact i.2)).after, Region.binds .any e = true -> e.on < i.1 := by decide +kernel
def pv_rb21 (eb : Nat) (rv pa lv : Value) (q i z : Int) : List (Value -> World -> Prop) := [
  fun v w => v = rv,
  fun v w => v = .int .i64 q,
  fun v w => v = pa,
  fun v w => v = lv,
  fun v w => v = .pointer (some ⟨eb, 1, none⟩),
  fun v w => v = .int .i64 i,
  fun v w => v = .int .i64 z,
  fun v w => v = .int .i64 z]
theorem region_rb21 (a0 : Act) (w0 : World) (eb : Nat) (rv pa lv : Value) (q i z : Int) (Q : Exit -> Act -> World -> Prop)
    (hsz : a0.tmps.size = 140) (h5 : a0.tmps[5]? = some (rv)) (h14 : a0.tmps[14]? = some (.int .i64 q)) (h15 : a0.tmps[15]? = some (.pointer (some ⟨eb, 0, none⟩)))
    (hE : ∀ W, Below w0.heap.size w0 W -> W.cell? ⟨eb, 1, none⟩ = some (.int .i64 i))
    (hI : ∀ W, Below w0.heap.size w0 W -> (Instr.indexAt 77 rv (.int .i64 q)).run Tryz.prog W = .ok pa W) (hLD : ∀ W, Below w0.heap.size w0 W -> (Instr.loadAt 28 pa).run Tryz.prog W = .ok lv W)
    (hC6 : ∀ (W : World) (_ : Below w0.heap.size w0 W), Calls Tryz.prog 30 #[lv, .int .i64 i] W fun e w => ∃ v, e = .returned v /\ (v = .int .i64 z) /\ Below W.heap.size W w)
    (hQ : ∀ (y0 y1 y2 y3 y4 y5 y6 y7 : Value) (w : World), Below w0.heap.size w0 w -> ((fun (v : Value) (w : World) => v = .int .i64 z) y7 w) -> Q .normal { a0 with tmps := [(102, y0), (103, y1), (104, y2), (105, y3), (106, y4), (107, y5), (108, y6), (18, y7)].foldl (fun u p => u.setIfInBounds p.1 p.2) a0.tmps } w) :
    wpAny Tryz.prog .any ops_rb21 Q ops_rb21.size (Array.replicate ops_rb21.size false) a0 w0 := by
  have M : AllM (pv_rb21 eb rv pa lv q i z) := ⟨fun v x y hb h => h, fun v x y hb h => h, fun v x y hb h => h, fun v x y hb h => h, fun v x y hb h => h, fun v x y hb h => h, fun v x y hb h => h, fun v x y hb h => h, trivial⟩
  refine wpAny_mono a0 w0 dst_rb21 (pvL (pv_rb21 eb rv pa lv q i z)) (fun x y => Below x.heap.size x y) (Below.refl _ _) (fun x y h g => h.trans (g.mono h.size)) (fun i v x y _ g h => pvL_mono M g h)
    (fun i o ho => by unfold dst_rb21; rw [ho]; rfl)
    (fun i k d hi hk h1 h2 => inj_rb21 i hi k hk (by rw [h1]; intro q; cases q) (by rw [h1, h2]))
    (fun i d hi h => by have := lt_rb21 i hi; rw [h] at this; rw [hsz]; exact this)
    (fun i o e ho he hb => by
      obtain ⟨hi, rfl⟩ := Array.getElem?_eq_some_iff.1 ho
      exact low_rb21 ⟨i, hi⟩ e he hb)
    ?step (fun w _ => Below.refl _ _) ?fin
  case fin =>
    intro a w hd hs hf hv hR
    obtain ⟨y0, hy0, pv0⟩ := hv 0 102 (by decide) rfl
    obtain ⟨y1, hy1, pv1⟩ := hv 1 103 (by decide) rfl
    obtain ⟨y2, hy2, pv2⟩ := hv 2 104 (by decide) rfl
    obtain ⟨y3, hy3, pv3⟩ := hv 3 105 (by decide) rfl
    obtain ⟨y4, hy4, pv4⟩ := hv 4 106 (by decide) rfl
    obtain ⟨y5, hy5, pv5⟩ := hv 5 107 (by decide) rfl
    obtain ⟨y6, hy6, pv6⟩ := hv 6 108 (by decide) rfl
    obtain ⟨y7, hy7, pv7⟩ := hv 7 18 (by decide) rfl
    rw [act_set' (a := a) (a0 := a0) [(102, y0), (103, y1), (104, y2), (105, y3), (106, y4), (107, y5), (108, y6), (18, y7)] hd hs (by
      intro p hp
      simp only [List.mem_cons, List.not_mem_nil, or_false] at hp
      rcases hp with rfl | rfl | rfl | rfl | rfl | rfl | rfl | rfl
      . exact hy0
      . exact hy1
      . exact hy2
      . exact hy3
      . exact hy4
      . exact hy5
      . exact hy6
      . exact hy7
      ) (fun j hj => hf j (fun k hk q => hj (by
        have : ∀ k, k < 8 -> (dst_rb21 k).all (fun d => [102, 103, 104, 105, 106, 107, 108, 18].contains d) = true := by decide +kernel
        have h1 := this k hk
        rw [q] at h1
        simpa using h1)))]
    exact hQ y0 y1 y2 y3 y4 y5 y6 y7 w hR pv7
  case step =>
  intro i o a w ho hs hf dep hR
  have hi : i < 8 := (Array.getElem?_eq_some_iff.1 ho).1
  have e5 := evT ((hf 5 (by decide +kernel)).trans h5)
  have e14 := evT ((hf 14 (by decide +kernel)).trans h14)
  have e15 := evT ((hf 15 (by decide +kernel)).trans h15)
  rcases (by omega : i = 0 \/ i = 1 \/ i = 2 \/ i = 3 \/ i = 4 \/ i = 5 \/ i = 6 \/ i = 7) with rfl | rfl | rfl | rfl | rfl | rfl | rfl | rfl
  . have ho2 : some _ = some o := ho
    obtain rfl := Option.some.inj ho2
    exact .inl ⟨wantN rfl, fun K hK => mo_move rfl e5 (hK _ _ (Below.refl _ _) rfl)⟩
  . have ho2 : some _ = some o := ho
    obtain rfl := Option.some.inj ho2
    exact .inl ⟨wantN rfl, fun K hK => mo_move rfl e14 (hK _ _ (Below.refl _ _) rfl)⟩
  . have ho2 : some _ = some o := ho
    obtain rfl := Option.some.inj ho2
    obtain ⟨_, hv0, rfl⟩ : ∃ v, a.tmps[102]? = some v /\ (fun (v : Value) (w : World) => v = rv) v w := dep ⟨0, Ground.data⟩ (by first | simp | simp [ops_rb21]) rfl 102 rfl
    obtain ⟨_, hv1, rfl⟩ : ∃ v, a.tmps[103]? = some v /\ (fun (v : Value) (w : World) => v = .int .i64 q) v w := dep ⟨1, Ground.data⟩ (by first | simp | simp [ops_rb21]) rfl 103 rfl
    exact .inl ⟨wantN rfl, fun K hK => mo_index (hI w hR) rfl (evT hv0) (evT hv1) (hK _ _ (Below.refl _ _) rfl)⟩
  . have ho2 : some _ = some o := ho
    obtain rfl := Option.some.inj ho2
    obtain ⟨_, hv2, rfl⟩ : ∃ v, a.tmps[104]? = some v /\ (fun (v : Value) (w : World) => v = pa) v w := dep ⟨2, Ground.data⟩ (by first | simp | simp [ops_rb21]) rfl 104 rfl
    exact .inl ⟨wantN rfl, fun K hK => mo_loadv (hLD w hR) rfl (evT hv2) (hK _ _ (Below.refl _ _) rfl)⟩
  . have ho2 : some _ = some o := ho
    obtain rfl := Option.some.inj ho2
    exact .inl ⟨wantN rfl, fun K hK => mo_field (by simp [go_sem]) rfl e15 (hK _ _ (Below.refl _ _) rfl)⟩
  . have ho2 : some _ = some o := ho
    obtain rfl := Option.some.inj ho2
    obtain ⟨_, hv4, rfl⟩ : ∃ v, a.tmps[106]? = some v /\ (fun (v : Value) (w : World) => v = .pointer (some ⟨eb, 1, none⟩)) v w := dep ⟨4, Ground.data⟩ (by first | simp | simp [ops_rb21]) rfl 106 rfl
    exact .inl ⟨wantN rfl, fun K hK => mo_load (by simp [go_sem, hE w hR]) rfl (evT hv4) (hK _ _ (Below.refl _ _) rfl)⟩
  . have ho2 : some _ = some o := ho
    obtain rfl := Option.some.inj ho2
    obtain ⟨_, hv3, rfl⟩ : ∃ v, a.tmps[105]? = some v /\ (fun (v : Value) (w : World) => v = lv) v w := dep ⟨3, Ground.data⟩ (by first | simp | simp [ops_rb21]) rfl 105 rfl
    obtain ⟨_, hv5, rfl⟩ : ∃ v, a.tmps[107]? = some v /\ (fun (v : Value) (w : World) => v = .int .i64 i) v w := dep ⟨5, Ground.data⟩ (by first | simp | simp [ops_rb21]) rfl 107 rfl
    exact .inl ⟨wantN rfl, fun K hK => mo_call2 30 rfl (evT hv3) (evT hv5) (enters_of (P := Tryz.prog) Tryz.func30 (by kernel_rfl) rfl) (hC6 w hR) (fun v w' h => hK v w' h.2 h.1)⟩
  have ho2 : some _ = some o := ho
  obtain rfl := Option.some.inj ho2
  obtain ⟨_, hv6, rfl⟩ : ∃ v, a.tmps[108]? = some v /\ (fun (v : Value) (w : World) => v = .int .i64 z) v w := dep ⟨6, Ground.data⟩ (by first | simp | simp [ops_rb21]) rfl 108 rfl
  exact .inl ⟨wantN rfl, fun K hK => mo_assign rfl (evT hv6) (hK _ _ (Below.refl _ _) rfl)⟩
end Go.Proofs.YtfjklpgmnakcaaaGreatDoor
namespace Go.Proofs.YtfjklpgmnakcaaaGreatDoor
open Go.RowKit Go.Shelf
attribute [local go_sem] Oper.semAt_some
abbrev St6 := Int × Int × Value × Value × Int × Int
def st6V (c : St6) : Value := .agg #[.int .i64 c.1, .int .i64 c.2.1, c.2.2.1, c.2.2.2.1, .int .i64 c.2.2.2.2.1, .int .i64 c.2.2.2.2.2]
def st6Row (cs : List St6) : List Value := cs.flatMap fun c => [.int .i64 c.1, .int .i64 c.2.1, c.2.2.1, c.2.2.2.1, .int .i64 c.2.2.2.2.1, .int .i64 c.2.2.2.2.2]
theorem st6_at : ∀ (cs : List St6) (k : Nat) (h : k < cs.length), (st6Row cs)[k * 6]? = some (.int .i64 cs[k].1) /\ (st6Row cs)[k * 6 + 1]? = some (.int .i64 cs[k].2.1) /\ (st6Row cs)[k * 6 + 1 + 1]? = some cs[k].2.2.1 /\ (st6Row cs)[k * 6 + 1 + 1 + 1]? = some cs[k].2.2.2.1 /\ (st6Row cs)[k * 6 + 1 + 1 + 1 + 1]? = some (.int .i64 cs[k].2.2.2.2.1) /\ (st6Row cs)[k * 6 + 1 + 1 + 1 + 1 + 1]? = some (.int .i64 cs[k].2.2.2.2.2)
  | [], k, h => by simp at h
  | c :: cs, 0, _ => ⟨rfl, rfl, rfl, rfl, rfl, rfl⟩
  | c :: cs, k + 1, h => by
    have ih := st6_at cs k (by simpa using h)
    have sh : ∀ j, (st6Row (c :: cs))[(k + 1) * 6 + j]? = (st6Row cs)[k * 6 + j]? := by
      intro j
      show ([Value.int .i64 c.1, .int .i64 c.2.1, c.2.2.1, c.2.2.2.1, .int .i64 c.2.2.2.2.1, .int .i64 c.2.2.2.2.2] ++ st6Row cs)[_]? = _
      rw [List.getElem?_append_right (by simp; omega)]
      congr 1
      simp; omega
    exact ⟨(sh 0).trans ih.1, (sh 1).trans ih.2.1, (sh 2).trans ih.2.2.1, (sh 3).trans ih.2.2.2.1, (sh 4).trans ih.2.2.2.2.1, (sh 5).trans ih.2.2.2.2.2⟩
def bkL (cs : List St6) : List (Nat × St6) := (cs.zipIdx.map fun p => (p.2, p.1)).reverse
theorem bkL_snoc (cs : List St6) (c : St6) : bkL (cs ++ [c]) = (cs.length, c) :: bkL cs := by
  unfold bkL
  rw [List.zipIdx_append]
  simp
theorem bkL_take {cs : List St6} {m : Nat} (h : m < cs.length) : bkL (cs.take (m + 1)) = (m, cs[m]) :: bkL (cs.take m) := by
  rw [List.take_succ_eq_append_getElem h, bkL_snoc, List.length_take, Nat.min_eq_left (by omega)]
theorem row_at9 {w : World} {base : Nat} {e : TypeId} {size : Nat} {g n cap : Nat} {xs : List Value} (h : w.ownsRow base e size (.slice (some ⟨g, 0, none⟩) n cap) n xs) {j : Nat} {u : Value} (hj : xs[j]? = some u) : w.cell? ⟨g, j, none⟩ = some u := by
  have := h.cells (g := g) rfl j u hj
  have e : (⟨g, 0, none⟩ : Addr).add j = ⟨g, j, none⟩ := by unfold Addr.add; split <;> simp_all
  rwa [e] at this
theorem back_start (v : Value) (w : World) (A : Option Addr) (n c : Nat) (hv : v = .slice A n c) :
    Calls Tryz.prog 46 #[v] w fun e w' => e = .returned (.func (.func 73) #[] #[.pointer (some ⟨w.heap.size, 0, none⟩)]) /\ w' = w.alloc (.cells #[v] 62) := by
  subst hv
  go_enter Tryz.func46, Tryz.ntmps46
  go_wp2
  go_ret
  exact ⟨rfl, rfl⟩
theorem back_hands (cs : List St6) (v : Value) (Be N : Nat) (w : World) (hbox : Boxed w Be 62 v) (hl : cs.length <= 1000) (hE : w.ownsRow N 65 6 v cs.length (st6Row cs)) :
    HandsK Tryz.prog 73 #[.pointer (some ⟨Be, 0, none⟩)] (fun x => #[.int .i64 (x.1 : Nat), st6V x.2]) 0 (bkL cs) (fun W => W.ownsRow N 65 6 v cs.length (st6Row cs) /\ Boxed W Be 62 v) w := by
  intro l J Jx W hW hJ hK hY h0
  obtain ⟨hE0, hb⟩ := hK _ _ h0
  obtain ⟨A, cap, hv⟩ : ∃ A cap, v = .slice A cs.length cap := by
    rcases hE0.2 with ⟨e, h0⟩ | ⟨g, cap, cur, e, _⟩
    . exact ⟨none, 0, by rw [e, h0]⟩
    exact ⟨_, _, e⟩
  have hA : 0 < cs.length -> ∃ g, A = some ⟨g, 0, none⟩ := by
    intro hp
    rcases hE0.2 with ⟨e, h0⟩ | ⟨g, cap', cur, e, _⟩
    . omega
    rw [hv] at e; injection e with e; exact ⟨g, e⟩
  have c0 := hb.cell
  subst hv
  have HA := Lib.hid hA
  clear hE hE0 hA hbox hb
  refine callsIn_of_wp Tryz.func73 rfl trivial ?_ rfl
  simp only [Tryz.ntmps73, List.size_toArray, List.length_cons, List.length_nil, Nat.reduceAdd, Nat.reduceSub, Array.replicate_succ, Array.replicate_zero, List.push_toArray, List.append_toArray, List.nil_append, List.cons_append]
  gi_wp2_with fail
  gi_loopw [3] (fun i wr => ∃ (m : Nat) (pre : List (Nat × St6)), m <= cs.length /\ i = .int .i64 ((m : Int) - 1) /\ bkL cs = pre ++ bkL (cs.take m) /\ J pre wr /\ W.heap.size <= wr.heap.size) (fun i _ => (intOf i + 1).toNat)
  case atStart => exact ⟨cs.length, [], Nat.le_refl _, rfl, by rw [List.take_length]; rfl, h0, Nat.le_refl _⟩
  case round =>
  obtain ⟨m, pre, hm, rfl, hx, hj, hz⟩ := hrel
  obtain ⟨hE1, hb1⟩ := hK _ _ hj
  have HX := Lib.hid hx
  clear hx
  cases m with
  | zero =>
    clear hE1 hb1 c0
    gi_wp2
    refine bodyPost_end (results_none rfl _ _ _) rfl ⟨⟨_, rfl⟩, .inl ?_⟩
    have e0 : bkL cs = pre := by rw [HX.out]; simp [bkL]
    rw [e0]
    exact hj
  | succ m =>
  obtain ⟨g, rfl⟩ := HA.out (by omega)
  obtain ⟨d0, d1, d2, d3, d4, d5⟩ := st6_at cs m (by omega)
  have d0 := row_at9 hE1 d0
  have d1 := row_at9 hE1 d1
  have d2 := row_at9 hE1 d2
  have d3 := row_at9 hE1 d3
  have d4 := row_at9 hE1 d4
  have d5 := row_at9 hE1 d5
  have q0 : wr.cell? ⟨Be, 0, none⟩ = some (.slice (some ⟨g, 0, none⟩) cs.length cap) := hb1.cell
  have hxp : bkL cs = pre ++ (m, cs[m]) :: bkL (cs.take m) := by rw [HX.out, bkL_take (by omega)]
  have hzi : ((m + 1 : Nat) : Int) - 1 = (m : Int) := by omega
  rw [hzi]
  have HXP := Lib.hid hxp
  clear hE1 hb1 HX hxp c0 hzi
  gi_wp2_with fail
  obtain ⟨fn, tmps, assign, body, hy, hR⟩ := hY pre (m, cs[m]) _ wr HXP.out (by omega) hj
  dsimp only [st6V] at hy
  rw [hy, Oper.uponIn_round]
  refine ⟨fun h => (by cases h), hR.mono ?_⟩
  clear hR hy
  rintro e W3 (⟨rfl, hJ3, hk3⟩ | ⟨rfl, hJx3⟩)
  . gi_wp2
    go_roundw
    case rel => exact ⟨m, pre ++ [(m, cs[m])], by omega, by go_num, by rw [HXP.out, List.append_assoc, List.singleton_append], hJ3, Nat.le_trans hz hk3.size⟩
    case measure => simp [intOf]
  gi_wp2
  refine bodyPost_ret (results_none rfl _ _ _) rfl ⟨⟨_, rfl⟩, .inr ⟨_, ⟨bkL (cs.take m), ?_⟩, hJx3⟩⟩
  rw [List.append_assoc, List.singleton_append]
  exact HXP.out.symm
end Go.Proofs.YtfjklpgmnakcaaaGreatDoor
namespace Go.Proofs.YtfjklpgmnakcaaaGreatDoor
open Go.RowKit Go.Shelf
def lstRow (ls : List (Value × Int)) : List Value := ls.flatMap fun x => [x.1, .int .i64 x.2]
theorem lstRow_snoc (ls : List (Value × Int)) (x : Value × Int) : lstRow (ls ++ [x]) = lstRow ls ++ [x.1, .int .i64 x.2] := by unfold lstRow; simp
theorem lstRow_at : ∀ (ls : List (Value × Int)) (k : Nat) (h : k < ls.length), (lstRow ls)[k * 2]? = some ls[k].1 /\ (lstRow ls)[k * 2 + 1]? = some (.int .i64 ls[k].2)
  | [], k, h => by simp at h
  | x :: ls, 0, _ => ⟨rfl, rfl⟩
  | x :: ls, k + 1, h => by
    have ih := lstRow_at ls k (by simpa using h)
    have sh : ∀ j, (lstRow (x :: ls))[(k + 1) * 2 + j]? = (lstRow ls)[k * 2 + j]? := by
      intro j
      show ([x.1, Value.int .i64 x.2] ++ lstRow ls)[_]? = _
      rw [List.getElem?_append_right (by simp; omega)]
      congr 1
      simp; omega
    exact ⟨(sh 0).trans ih.1, (sh 1).trans ih.2⟩
end Go.Proofs.YtfjklpgmnakcaaaGreatDoor
namespace Go.Proofs.YtfjklpgmnakcaaaGreatDoor
def cnt3 (its : List It) : Nat := (its.filter fun it => decide (it.kind = 3)).length
theorem cnt3_snoc (its : List It) (it : It) : cnt3 (its ++ [it]) = cnt3 its + if it.kind = 3 then 1 else 0 := by
  unfold cnt3
  rw [List.filter_append, List.length_append]
  congr 1
  by_cases h : it.kind = 3
  . rw [if_pos h, List.filter_cons, if_pos (by simpa using h)]; rfl
  rw [if_neg h, List.filter_cons, if_neg (by simpa using h)]; rfl
def CntP (p : PS) : Prop := cnt3 p.items = p.stanzas
theorem CntP.endField {p : PS} (h : CntP p) : CntP (endFieldP p) := by
  unfold endFieldP
  split
  . exact h
  exact h
theorem CntP.endItem {t : List UInt8} {p : PS} (h : CntP p) (kind e : Nat) (hk : kind ≠ 3) : CntP (endItemP t p kind e) := by
  show cnt3 (p.items ++ [_]) = p.stanzas
  rw [cnt3_snoc, if_neg (by show ((kind : Nat) : Int) ≠ 3; omega), h]; rfl
theorem CntP.endBlock {t : List UInt8} {p : PS} (h : CntP p) (e : Nat) : CntP (endBlockP t p e) := by
  unfold endBlockP
  split
  . exact h
  split
  . exact h.endItem 2 e (by decide)
  show cnt3 (p.items ++ [_]) = p.stanzas + 1
  rw [cnt3_snoc, if_pos (by rfl), h]
theorem CntP.went {p : PS} (h : CntP p) (x : Ln) : CntP (wentP p x) := by
  unfold wentP
  split <;> exact h
theorem CntP.then_ {p : PS} (h : CntP p) (x : Ln) : CntP (thenP p x) := by
  unfold thenP
  split
  . exact (h.went x).endField
  exact h.went x
theorem CntP.put {t : List UInt8} {p : PS} (h : CntP p) (x : Ln) : CntP (putP t p x) := by
  unfold putP
  split
  . exact h
  split
  . exact (h.endBlock x.at_).endItem 1 _ (by decide)
  exact h
theorem CntP.take {t : List UInt8} {p q : PS} {x : Ln} (h : CntP p) (he : takeP t p x = .ok q) : CntP q := by
  obtain ⟨_, _, rfl⟩ := take_parts he
  exact (h.then_ x).put x
theorem CntP.run (t : List UInt8) : ∀ (xs : List Ln) (p q : PS), CntP p -> runP t p xs = .ok q -> CntP q
  | [], p, q, h, he => by cases he; exact h
  | x :: xs, p, q, h, he => by
    unfold runP at he
    cases ht : takeP t p x with
    | error e => rw [ht] at he; cases he
    | ok p1 =>
    rw [ht] at he
    exact CntP.run t xs p1 q (h.take ht) he
theorem parse_cnt {t : List UInt8} {its : List It} (h : parseL t = .ok its) : cnt3 its <= 400 := by
  obtain ⟨p, hr, h0, rfl, g, _⟩ := parse_good h
  have hc : CntP (endBlockP t (endFieldP p) t.length) := ((CntP.run t _ _ _ (by rfl) hr).endField).endBlock _
  rw [show cnt3 _ = _ from hc]
  exact g.st
theorem nums_from : ∀ (n : Int) (its : List It), 0 < n -> (∀ m ∈ nums (fromOn n its), n <= m /\ m < fromNext n its) /\ (nums (fromOn n its)).Nodup /\ (nums (fromOn n its)).length = cnt3 its /\ n <= fromNext n its
  | n, [], h => ⟨(fun m hm => by cases hm), List.nodup_nil, rfl, Int.le_refl _⟩
  | n, it :: r, h => by
    by_cases hk : it.kind = 3
    . obtain ⟨a, b, c, d⟩ := nums_from (n + 1) r (by omega)
      have e1 : nums (fromOn n (it :: r)) = n :: nums (fromOn (n + 1) r) := by
        unfold nums
        rw [fromOn, if_pos hk, List.map_cons, List.filter_cons, if_pos (by simpa using h)]
      have e2 : fromNext n (it :: r) = fromNext (n + 1) r := by rw [fromNext, if_pos hk]
      rw [e1, e2]
      refine ⟨fun m hm => ?_, List.nodup_cons.2 ⟨fun q => ?_, b⟩, ?_, by omega⟩
      . rcases List.mem_cons.1 hm with rfl | hm
        . exact ⟨Int.le_refl _, by omega⟩
        have := a m hm; exact ⟨by omega, this.2⟩
      . have := (a n q).1; omega
      unfold cnt3 at c ⊢
      rw [List.length_cons, c, List.filter_cons, if_pos (by simpa using hk)]; rfl
    obtain ⟨a, b, c, d⟩ := nums_from n r h
    have e1 : nums (fromOn n (it :: r)) = nums (fromOn n r) := by
      unfold nums
      rw [fromOn, if_neg hk, List.map_cons, List.filter_cons, if_neg (by simp)]
    have e2 : fromNext n (it :: r) = fromNext n r := by rw [fromNext, if_neg hk]
    rw [e1, e2]
    refine ⟨a, b, ?_, d⟩
    unfold cnt3 at c ⊢
    rw [c, List.filter_cons, if_neg (by simpa using hk)]
theorem from_ok {t : List UInt8} {its : List It} (h : parseL t = .ok its) : OkL (fromL its) := by
  obtain ⟨a, b, c, d⟩ := nums_from 1 its (by decide)
  refine ⟨from_wf 1 its (by decide), by show 0 < fromNext 1 its; omega, fun n hn => (a n hn).2, b, ?_⟩
  rw [<- nums_len]
  show (nums (fromOn 1 its)).length <= 400
  rw [c]; exact parse_cnt h
end Go.Proofs.YtfjklpgmnakcaaaGreatDoor
namespace Go.Proofs.YtfjklpgmnakcaaaGreatDoor
open Go.RowKit Go.Shelf
attribute [local go_sem] Oper.semAt_some
theorem parseA7 : parseL [65, 58, 32, 49, 10] = .ok [⟨3, [65, 58, 32, 49, 10], [([65], [49])]⟩] := by kernel_rfl
theorem fromA7 : fromL [⟨3, [65, 58, 32, 49, 10], [([65], [49])]⟩] = ⟨[(⟨3, [65, 58, 32, 49, 10], [([65], [49])]⟩, 1)], 2⟩ := by kernel_rfl
theorem wfA7 : WF [((⟨3, [65, 58, 32, 49, 10], [([65], [49])]⟩ : It), (1 : Int))] := by
  intro e he
  rw [List.mem_singleton.1 he]
  exact .inl ⟨rfl, by decide⟩
theorem insert_R (lb : Nat) (ev : Value) (ps : List Pr) (nx id : Int) (fs : List Fld) (v : Value) (w : World) (h : LA w lb ev ps nx) (hwf : WF (ps.map Prod.fst)) (h4 : lenR (ps.map Prod.fst) <= 400) (hps : ps.length <= 10000) (hnx : -1000000 <= nx /\ nx <= 1000000) (hs : FldR w v fs) (hfs : Fine7 fs) :
    Calls Tryz.prog 69 #[ptr lb, .int .i64 id, v] w fun e w' => ∃ u ev' ps', e = .returned (.tuple #[.int .i64 (insertR ⟨ps.map Prod.fst, nx⟩ id fs).id, u]) /\ WrR w lb ev ps (insertR ⟨ps.map Prod.fst, nx⟩ id fs) u w' ev' ps' := by
  have := insert_list lb ev ps nx id fs v w h hps hnx hs hfs
  rw [gapP_R hwf, full_R hwf h4, show insertW (gapR (ps.map Prod.fst) id) (decide (400 <= lenR (ps.map Prod.fst))) ⟨ps.map Prod.fst, nx⟩ fs = insertR ⟨ps.map Prod.fst, nx⟩ id fs by rw [insertR_W]] at this
  exact this
theorem len_R (lb : Nat) (ev : Value) (ps : List Pr) (nx : Int) (w : World) (h : LR w lb ev ps nx) (hwf : WF (ps.map Prod.fst)) (hps : ps.length <= 1000000) :
    Calls Tryz.prog 18 #[ptr lb] w fun e w' => e = .returned (.int .i64 (lenR (ps.map Prod.fst) : Nat)) /\ Below w.heap.size w w' := by
  have := len_any lb ev ps nx w h hps
  rw [stzP_len hwf] at this
  exact this
end Go.Proofs.YtfjklpgmnakcaaaGreatDoor
namespace Go.Proofs.YtfjklpgmnakcaaaGreatDoor
end Go.Proofs.YtfjklpgmnakcaaaGreatDoor
namespace Go.Proofs.YtfjklpgmnakcaaaGreatDoor
open Go.RowKit Go.Shelf
def SzL (es : List En) : Prop := ∀ e ∈ es, e.1.raw.length <= 100000 /\ e.1.fields.length <= 1000000
theorem edit_mem (l : LS) (kind id : Int) (fs : List Fld) : ∀ e ∈ (editR l kind id fs).ls.es, e ∈ l.es \/ (e.1 = itemOf fs /\ chkN fs = 0) := by
  intro e he
  unfold editR at he
  split at he
  . unfold replaceR at he
    split at he
    . exact .inl he
    rename_i k hk
    split at he
    . rename_i hc
      have he' : e ∈ setE l.es k (itemOf fs) := he
      unfold setE at he'
      obtain ⟨j, hj⟩ := List.getElem?_of_mem he'
      rw [List.getElem?_modify] at hj
      cases hx : l.es[j]? with
      | none => rw [hx] at hj; cases hj
      | some y =>
      rw [hx] at hj
      have hj' : (if k = j then (itemOf fs, y.2) else y) = e := Option.some.inj hj
      by_cases q : k = j
      . rw [if_pos q] at hj'
        rw [<- hj']; exact .inr ⟨rfl, hc⟩
      rw [if_neg q] at hj'
      rw [<- hj']; exact .inl (List.mem_of_getElem? hx)
    exact .inl he
  split at he
  . unfold deleteR at he
    split at he
    . exact .inl he
    have he' : e ∈ cutE l.es _ := he
    unfold cutE at he'
    rcases List.mem_append.1 he' with q | q
    . exact .inl (List.mem_of_mem_take q)
    exact .inl (List.mem_of_mem_drop q)
  unfold insertR at he
  split at he
  . exact .inl he
  split at he
  . rename_i hc
    split at he
    . exact .inl he
    have he' : e ∈ putE l.es _ (itemOf fs, l.next) := he
    unfold putE at he'
    rcases List.mem_append.1 he' with q | q
    . exact .inl (List.mem_of_mem_take q)
    rcases List.mem_cons.1 q with q | q
    . rw [q]; exact .inr ⟨rfl, hc⟩
    exact .inl (List.mem_of_mem_drop q)
  exact .inl he
structure Carry (S0 : Nat) (w : World) (lb : Nat) (ev : Value) (ps : List Pr) (l : LS) (m : Nat) : Prop where
  la : LA w lb ev ps l.next
  es : ps.map Prod.fst = l.es
  ok : OkL l
  sz : SzL l.es
  lb0 : S0 <= lb
  ev0 : ∀ b, ev.ownBlock = some b -> S0 <= b
  len : l.es.length <= m
  nx : l.next <= m + 1
theorem Carry.wf {S0 : Nat} {w : World} {lb : Nat} {ev : Value} {ps : List Pr} {l : LS} {m : Nat} (h : Carry S0 w lb ev ps l m) : WF (ps.map Prod.fst) := by rw [h.es]; exact h.ok.wf
theorem Carry.below {S0 : Nat} {w w' : World} {lb : Nat} {ev : Value} {ps : List Pr} {l : LS} {m N : Nat} (h : Carry S0 w lb ev ps l m) (hb : Below N w w') (hN : w.heap.size <= N) : Carry S0 w' lb ev ps l m :=
  ⟨h.la.below hb hN, h.es, h.ok, h.sz, h.lb0, h.ev0, h.len, h.nx⟩
theorem Carry.ents {S0 : Nat} {w : World} {lb : Nat} {ev : Value} {ps : List Pr} {l : LS} {m : Nat} (h : Carry S0 w lb ev ps l m) (hm : m <= 10000) : EntsOk ps := by
  have hmem : ∀ p ∈ ps, p.1 ∈ l.es := fun p hp => by rw [<- h.es]; exact List.mem_map_of_mem hp
  have hl : ps.length = l.es.length := by rw [<- h.es, List.length_map]
  refine ⟨by have := h.len; omega, fun p hp => (h.sz _ (hmem p hp)).1, fun p hp => (h.sz _ (hmem p hp)).2, fun p hp => ?_⟩
  rcases h.ok.wf _ (hmem p hp) with ⟨_, q⟩ | ⟨_, q⟩
  . have hn : p.1.2 ∈ nums l.es := by
      unfold nums
      exact List.mem_filter.2 ⟨List.mem_map_of_mem (hmem p hp), by simpa using q⟩
    have := h.ok.lt _ hn
    have := h.nx
    omega
  omega
theorem Carry.str {S0 : Nat} {w : World} {lb : Nat} {ev : Value} {ps : List Pr} {l : LS} {m : Nat} (h : Carry S0 w lb ev ps l m) : StR w lb ev ps l.next (.slice none 0 0) [] :=
  ⟨h.la, entsQ_none w, (fun b e => by cases e), (fun p hp => by cases hp)⟩
theorem SzL.edit {l : LS} (h : SzL l.es) (kind id : Int) {fs : List Fld} (h1 : (foldG fs).length <= 100000) (h2 : fs.length <= 1000000) : SzL (editR l kind id fs).ls.es := fun e he => by
  rcases edit_mem l kind id fs e he with q | ⟨q, _⟩
  . exact h e q
  rw [q]; exact ⟨h1, h2⟩
theorem Carry.edit {S0 : Nat} {w w' : World} {lb : Nat} {ev ev' : Value} {ps ps' : List Pr} {l : LS} {m : Nat} (h : Carry S0 w lb ev ps l m) (kind id : Int) {fs : List Fld} (h1 : (foldG fs).length <= 100000) (h2 : fs.length <= 1000000)
    (la : LA w' lb ev' ps' (editR l kind id fs).ls.next) (es : ps'.map Prod.fst = (editR l kind id fs).ls.es) (hS : S0 <= w.heap.size) (hev : ∀ b, ev'.ownBlock = some b -> ev.ownBlock = some b \/ w.heap.size <= b) : Carry S0 w' lb ev' ps' (editR l kind id fs).ls (m + 1) := by
  obtain ⟨a, _, c⟩ := edit_len l kind id fs
  have hl := h.len
  have hn := h.nx
  refine ⟨la, es, h.ok.edit kind id fs, h.sz.edit kind id h1 h2, h.lb0, fun b e => ?_, by omega, by omega⟩
  rcases hev b e with q | q
  . exact h.ev0 b q
  omega
end Go.Proofs.YtfjklpgmnakcaaaGreatDoor
namespace Go.Proofs.YtfjklpgmnakcaaaGreatDoor
open Go.RowKit Go.Shelf
attribute [local go_sem] Oper.semAt_some
theorem WrR.from {w w1 w' : World} {lb : Nat} {ev u ev' : Value} {ps ps' : List Pr} {d : Did} (h : WrR w1 lb ev ps d u w' ev' ps') (hb : Below w.heap.size w w1) : WrR w lb ev ps d u w' ev' ps' := by
  refine ⟨h.la, h.es, ?_, ?_, h.err.mono hb.size, fun p hp => ?_⟩
  . exact (Only.of_below (S := fun r => r = lb \/ ev.ownBlock = some r) hb (Nat.le_refl _)).trans h.only (fun r _ e => e)
  . rcases h.blk with q | ⟨b, q, hq⟩
    . exact .inl q
    exact .inr ⟨b, q, by have := hb.size; omega⟩
  rcases h.mem p hp with q | q
  . exact .inl q
  exact .inr (fun b e => by have := q b e; have := hb.size; omega)
theorem stepE_1 (l : LS) {ed : Ed} (h : ed.kind = 1) : stepE l ed = replaceR l ed.id ed.fields := by unfold stepE editR; rw [if_pos h]
theorem stepE_2 (l : LS) {ed : Ed} (h : ed.kind = 2) : stepE l ed = deleteR l ed.id := by unfold stepE editR; rw [if_neg (by omega), if_pos h]
theorem stepE_3 (l : LS) {ed : Ed} (h1 : ed.kind ≠ 1) (h2 : ed.kind ≠ 2) : stepE l ed = insertR l ed.id ed.fields := by unfold stepE editR; rw [if_neg h1, if_neg h2]
theorem replaceR_id9 (l : LS) (id : Int) (fs : List Fld) : (replaceR l id fs).id = 0 := by
  unfold replaceR
  split
  . rfl
  split <;> rfl
theorem deleteR_id9 (l : LS) (id : Int) : (deleteR l id).id = 0 := by
  unfold deleteR
  split <;> rfl
theorem do9_any {S0 : Nat} {w : World} {lb : Nat} {ev : Value} {ps : List Pr} {l : LS} {m : Nat} (C : Carry S0 w lb ev ps l m) (hm : m <= 10000) (ed : Ed) (fv : Value) (hf : FldR w fv ed.fields) (h7 : Fine7 ed.fields) :
    Calls Tryz.prog 41 #[ptr lb, .agg #[.int .i64 ed.kind, .int .i64 ed.id, fv]] w fun e w' => ∃ u ev' ps', e = .returned (.tuple #[.int .i64 (stepE l ed).id, u]) /\ WrR w lb ev ps (stepE l ed) u w' ev' ps' := by
  obtain ⟨fa, fc, rfl⟩ := hf.form
  obtain ⟨wa, hwa⟩ : ∃ wa, wa = w.alloc (.cells #[.int .i64 ed.kind, .int .i64 ed.id, .slice fa ed.fields.length fc] 53) := ⟨_, rfl⟩
  have hba : Below w.heap.size w wa := by rw [hwa]; exact (Below.refl _ w).alloc (Nat.le_refl _) _
  have Ca := C.below hba (Nat.le_refl _)
  have hl : ps.length <= m := by have := C.len; rw [<- C.es, List.length_map] at this; exact this
  have hnx := C.nx
  have hp := C.ok.pos
  have hwf := C.wf
  have hfa := hf.below hba (Nat.le_refl _)
  have el : (⟨ps.map Prod.fst, l.next⟩ : LS) = l := by rw [C.es]
  by_cases h1 : ed.kind = 1
  . have R := replace_list lb ev ps l.next ed.id ed.fields (.slice fa ed.fields.length fc) wa Ca.la (by omega) hfa h7
    rw [findP_R hwf, show replaceW (findR (ps.map Prod.fst) ed.id) ⟨ps.map Prod.fst, l.next⟩ ed.fields = replaceR ⟨ps.map Prod.fst, l.next⟩ ed.id ed.fields by rw [replaceR_W], el] at R
    rw [stepE_1 l h1, replaceR_id9]
    have R := Lib.hid R
    have FR : Hid (∀ u w' ev' ps', WrR wa lb ev ps (replaceR l ed.id ed.fields) u w' ev' ps' -> WrR w lb ev ps (replaceR l ed.id ed.fields) u w' ev' ps') := fun u w' ev' ps' h => h.from hba
    generalize replaceR l ed.id ed.fields = dd at *
    clear hba Ca C hf hfa hwf el
    rw [h1] at hwa ⊢
    subst hwa
    unfold ptr at *
    go_enter Tryz.func41, Tryz.ntmps41
    go_wp2_with fail
    refine R.out.mono ?_
    rintro e w2 ⟨u, ev', ps', rfl, hR⟩
    have H := FR.out _ _ _ _ hR
    clear hR R FR
    go_wp2_with fail
    go_ret2
    exact ⟨u, ev', ps', rfl, H⟩
  by_cases h2 : ed.kind = 2
  . have R := delete_list lb ev ps l.next ed.id wa Ca.la (by omega)
    rw [findP_R hwf, show deleteW (findR (ps.map Prod.fst) ed.id) ⟨ps.map Prod.fst, l.next⟩ = deleteR ⟨ps.map Prod.fst, l.next⟩ ed.id by rw [deleteR_W], el] at R
    rw [stepE_2 l h2, deleteR_id9]
    have R := Lib.hid R
    have FR : Hid (∀ u w' ev' ps', WrR wa lb ev ps (deleteR l ed.id) u w' ev' ps' -> WrR w lb ev ps (deleteR l ed.id) u w' ev' ps') := fun u w' ev' ps' h => h.from hba
    generalize deleteR l ed.id = dd at *
    clear hba Ca C hf hfa hwf el
    rw [h2] at hwa ⊢
    subst hwa
    unfold ptr at *
    go_enter Tryz.func41, Tryz.ntmps41
    go_wp2_with fail
    refine R.out.mono ?_
    rintro e w2 ⟨u, ev', ps', rfl, hR⟩
    have H := FR.out _ _ _ _ hR
    clear hR R FR
    go_wp2_with fail
    go_ret2
    exact ⟨u, ev', ps', rfl, H⟩
  have R := insert_R lb ev ps l.next ed.id ed.fields (.slice fa ed.fields.length fc) wa Ca.la hwf (by rw [C.es]; exact C.ok.len) (by omega) (by omega) hfa h7
  rw [el] at R
  rw [stepE_3 l h1 h2]
  have R := Lib.hid R
  have FR : Hid (∀ u w' ev' ps', WrR wa lb ev ps (insertR l ed.id ed.fields) u w' ev' ps' -> WrR w lb ev ps (insertR l ed.id ed.fields) u w' ev' ps') := fun u w' ev' ps' h => h.from hba
  generalize insertR l ed.id ed.fields = dd at *
  have q1 : (ed.kind == 1) = false := by simpa using h1
  have q2 : (ed.kind == 2) = false := by simpa using h2
  clear hba Ca C hf hfa hwf el
  subst hwa
  unfold ptr at *
  go_enter Tryz.func41, Tryz.ntmps41
  go_wp2_with fail
  refine R.out.mono ?_
  rintro e w2 ⟨u, ev', ps', rfl, hR⟩
  have H := FR.out _ _ _ _ hR
  clear hR R FR
  go_wp2_with fail
  go_ret2
  exact ⟨u, ev', ps', rfl, H⟩
structure Shows (g : Nat) (cb : Array Value) (w0 : World) (N1 : Nat) (l0 : LS) (eds : List Ed) (P : Nat -> World -> (Nat -> Prop) -> Prop) : Prop where
  eg : ∀ args w, (callFunc g args).run Tryz.prog w = .ok (.enter g args) w
  lt : ∀ j W Z, P j W Z -> ∀ r, Z r -> w0.heap.size <= r /\ r < W.heap.size
  keep : ∀ j W W' Z (S : Nat -> Prop), P j W Z -> Only S W W' -> (∀ r, Z r -> ¬ S r) -> P j W' Z
  ask : ∀ (j : Nat) (ed : Ed) (fv : Value) (W : World) (Z : Nat -> Prop) (lb : Nat) (ev : Value) (ps : List Pr) (m : Nat), eds[j]? = some ed -> goodE ed = 0 -> P j W Z -> Below w0.heap.size w0 W -> Carry N1 W lb ev ps (lsOn l0 (eds.take j)) m -> m <= 10000 -> (∀ r, BlkR lb ev ps (.slice none 0 0) [] r -> ¬ Z r) -> FldR W fv ed.fields -> (∃ A c, fv = .slice A ed.fields.length c) ->
    Calls Tryz.prog g (#[ptr lb, .agg #[.int .i64 ed.kind, .int .i64 ed.id, fv]] ++ cb) W fun e W' => e = .returned (.tuple #[]) /\ ∃ Z', P (j + 1) W' Z' /\ Only Z W W' /\ ∀ r, Z' r -> Z r \/ W.heap.size <= r
theorem Carry.blkEd {S0 : Nat} {w w' : World} {lb : Nat} {ev ev' u : Value} {ps ps' : List Pr} {l : LS} {m : Nat} (h : Carry S0 w lb ev ps l m) {ed : Ed} (h1 : (foldG ed.fields).length <= 100000) (h2 : ed.fields.length <= 1000000) (hS : S0 <= w.heap.size) (R : WrR w lb ev ps (stepE l ed) u w' ev' ps') : Carry S0 w' lb ev' ps' (stepE l ed).ls (m + 1) :=
  h.edit ed.kind ed.id h1 h2 R.la R.es hS (fun b e => by
    rcases R.blk with q | ⟨b', q, hq⟩
    . exact .inl (by rw [<- q]; exact e)
    right; rw [q] at e; cases e; exact hq)
theorem WrR.blks {w w' : World} {lb : Nat} {ev u ev' : Value} {ps ps' : List Pr} {d : Did} (h : WrR w lb ev ps d u w' ev' ps') {r : Nat} (hr : BlkR lb ev' ps' (.slice none 0 0) [] r) : BlkR lb ev ps (.slice none 0 0) [] r \/ w.heap.size <= r := by
  rcases hr with q | q | q | ⟨p, hp, hne, q⟩ | ⟨p, hp, _⟩
  . exact .inl (.inl q)
  . rcases h.blk with e | ⟨b, e, hb⟩
    . exact .inl (.inr (.inl (by rw [<- e]; exact q)))
    rw [e] at q; cases q; exact .inr hb
  . cases q
  . rcases h.mem p hp with e | e
    . exact .inl (.inr (.inr (.inr (.inl ⟨p, e, hne, q⟩))))
    exact .inr (e r q)
  cases hp
theorem Carry.only {S0 : Nat} {w w' : World} {lb : Nat} {ev : Value} {ps : List Pr} {l : LS} {m : Nat} {S : Nat -> Prop} (h : Carry S0 w lb ev ps l m) (g : Only S w w') (hs : ∀ r, BlkR lb ev ps (.slice none 0 0) [] r -> ¬ S r) : Carry S0 w' lb ev ps l m :=
  ⟨(h.str.only g hs).la, h.es, h.ok, h.sz, h.lb0, h.ev0, h.len, h.nx⟩
end Go.Proofs.YtfjklpgmnakcaaaGreatDoor
