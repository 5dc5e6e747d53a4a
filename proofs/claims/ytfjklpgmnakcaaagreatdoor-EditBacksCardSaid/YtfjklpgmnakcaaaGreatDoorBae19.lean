/- Texts put together: EN, KN. -/
import Derived.Test.YtfjklpgmnakcaaaGreatDoorBae1
import Derived.Test.YtfjklpgmnakcaaaGreatDoorBae18
set_option linter.unusedVariables false
set_option maxRecDepth 100000
set_option maxHeartbeats 16000000
namespace Go.Proofs.YtfjklpgmnakcaaaGreatDoor
open Go.RowKit Go.Shelf
def ops_bk1 : List Oper := [
  { dst := some 5, op := Op.load 62 (Operand.tmp 2), type := 62, pos := "edit.go:35", after := #[], guard := none },
  { dst := some 6, op := Op.move (Operand.tmp 0), type := 25, pos := "edit.go:35", after := #[], guard := none },
  { dst := some 7, op := Op.load 53 (Operand.tmp 4), type := 53, pos := "edit.go:35", after := #[], guard := none },
  { dst := some 8, op := Op.call { callee := Callee.value (Operand.func 23), args := #[Operand.tmp 6, Operand.tmp 7], argTypes := #[25, 53] }, type := 65, pos := "edit.go:35", after := #[{ on := 1, ground := Ground.data }, { on := 2, ground := Ground.data }], guard := none },
  { dst := some 9, op := Op.buildSlice 62 1 #[(0, Operand.tmp 8)], type := 62, pos := "edit.go:35", after := #[{ on := 3, ground := Ground.data }], guard := none },
  { dst := some 10, op := Op.call { callee := Callee.builtin Builtin.append, args := #[Operand.tmp 5, Operand.tmp 9], argTypes := #[62, 62] }, type := 62, pos := "edit.go:35", after := #[{ on := 0, ground := Ground.data }, { on := 4, ground := Ground.data }, { on := 3, ground := Ground.chain }], guard := none },
  { dst := none, op := Op.store 62 (Operand.tmp 2) (Operand.tmp 10), type := 0, pos := "edit.go:35", after := #[{ on := 5, ground := Ground.data }, { on := 5, ground := Ground.chain }, { on := 0, ground := Ground.phase }, { on := 1, ground := Ground.phase }, { on := 2, ground := Ground.phase }, { on := 3, ground := Ground.phase }, { on := 4, ground := Ground.phase }, { on := 5, ground := Ground.phase }], guard := none }]
def dst_bk1 (i : Nat) : Option Nat := (ops_bk1[i]?).bind (·.dst)
theorem inj_bk1 : ∀ i, i < 5 -> ∀ k, k < 5 -> dst_bk1 i ≠ none -> dst_bk1 i = dst_bk1 k -> i = k := by decide +kernel
theorem lt_bk1 : ∀ i, i < 5 -> (dst_bk1 i).getD 0 < 11 := by decide +kernel
theorem low_bk1 : ∀ i : Fin 7, ∀ e ∈ (ops_bk1[i.1]'(by exact i.2)).after, Region.binds .any e = true -> e.on < i.1 := by decide +kernel
def pv_bk1 (sb eb lo : Nat) (sv lv : Value) (k i : Int) (fa : Option Addr) (fn fc : Nat) (PL : Value -> World -> Prop) : List (Value -> World -> Prop) := [
  fun v w => v = sv,
  fun v w => v = lv,
  fun v w => v = .agg #[.int .i64 k, .int .i64 i, .slice fa fn fc],
  fun v w => PL v w,
  fun v w => ∃ b u cs, v = .slice (some ⟨b, 0, none⟩) 1 1 /\ PL u w /\ lo <= b /\ u = .agg cs /\ Cells w b 65 cs]
theorem region_bk1 (a0 : Act) (w0 : World) (sb eb lo : Nat) (sv lv : Value) (k i : Int) (fa : Option Addr) (fn fc : Nat) (PL : Value -> World -> Prop) (Q : Exit -> Act -> World -> Prop)
    (hsz : a0.tmps.size = 11) (h0 : a0.tmps[0]? = some (lv)) (h2 : a0.tmps[2]? = some (.pointer (some ⟨sb, 0, none⟩))) (h4 : a0.tmps[4]? = some (.pointer (some ⟨eb, 0, none⟩)))
    (hS : ∀ W, Below w0.heap.size w0 W -> W.cell? ⟨sb, 0, none⟩ = some sv) (hlo : lo <= w0.heap.size)
    (hE : ∀ W, Below w0.heap.size w0 W -> W.cell? ⟨eb, 0, none⟩ = some (.int .i64 k) /\ W.cell? ⟨eb, 1, none⟩ = some (.int .i64 i) /\ W.cell? ⟨eb, 2, none⟩ = some (.slice fa fn fc))
    (hPM : ∀ v x y, Below x.heap.size x y -> PL v x -> PL v y) (hPF : ∀ v w, PL v w -> ∃ k i fa fn fc ga gn gc p q, v = .agg #[.int .i64 k, .int .i64 i, .slice fa fn fc, .slice ga gn gc, .int .i64 p, .int .i64 q])
    (hC3 : ∀ (W : World) (_ : Below w0.heap.size w0 W), Calls Tryz.prog 23 #[lv, .agg #[.int .i64 k, .int .i64 i, .slice fa fn fc]] W fun e w => ∃ v, e = .returned v /\ (PL v w) /\ Below W.heap.size W w)
    (hQ : ∀ (y0 y1 y2 y3 y4 : Value) (w : World), Below w0.heap.size w0 w -> ((fun (v : Value) (w : World) => v = sv) y0 w) -> ((fun (v : Value) (w : World) => ∃ b u cs, v = .slice (some ⟨b, 0, none⟩) 1 1 /\ PL u w /\ lo <= b /\ u = .agg cs /\ Cells w b 65 cs) y4 w) -> wpList Tryz.prog ops_bk1.toArray Q [{ dst := some 10, op := Op.call { callee := Callee.builtin Builtin.append, args := #[Operand.tmp 5, Operand.tmp 9], argTypes := #[62, 62] }, type := 62, pos := "edit.go:35", after := #[{ on := 0, ground := Ground.data }, { on := 4, ground := Ground.data }, { on := 3, ground := Ground.chain }], guard := none }, { dst := none, op := Op.store 62 (Operand.tmp 2) (Operand.tmp 10), type := 0, pos := "edit.go:35", after := #[{ on := 5, ground := Ground.data }, { on := 5, ground := Ground.chain }, { on := 0, ground := Ground.phase }, { on := 1, ground := Ground.phase }, { on := 2, ground := Ground.phase }, { on := 3, ground := Ground.phase }, { on := 4, ground := Ground.phase }, { on := 5, ground := Ground.phase }], guard := none }] { a0 with tmps := [(5, y0), (6, y1), (7, y2), (8, y3), (9, y4)].foldl (fun u p => u.setIfInBounds p.1 p.2) a0.tmps } w) :
    wpAny Tryz.prog .any ops_bk1.toArray Q ops_bk1.toArray.size (Array.replicate ops_bk1.toArray.size false) a0 w0 := by
  have M : AllM (pv_bk1 sb eb lo sv lv k i fa fn fc PL) := ⟨fun v x y hb h => h, fun v x y hb h => h, fun v x y hb h => h, fun v x y hb h => hPM v x y hb h, fun v x y hb h => by obtain ⟨b, u, cs, e, h1, h2, h3, h4⟩ := h; exact ⟨b, u, cs, e, hPM u x y hb h1, h2, h3, cells_kept h4 hb h4.lt⟩, trivial⟩
  refine wpAny_mono_tail 5 2 (by kernel_rfl) (by decide) a0 w0 dst_bk1 (pv_bk1 sb eb lo sv lv k i fa fn fc PL) M (by kernel_rfl) (by kernel_rfl) (by kernel_rfl)
    (fun i o _ ho => by unfold dst_bk1; rw [ho]; rfl)
    (fun i k d hi hk h1 h2 => inj_bk1 i hi k hk (by rw [h1]; intro q; cases q) (by rw [h1, h2]))
    (fun i d hi h => by have := lt_bk1 i hi; rw [h] at this; rw [hsz]; exact this)
    (fun i o e ho he hb => by
      obtain ⟨hi, rfl⟩ := List.getElem?_eq_some_iff.1 ho
      exact low_bk1 ⟨i, hi⟩ e he hb)
    ?step ?fin
  case fin =>
    intro a w hd hs hf hv hR
    obtain ⟨y0, hy0, pv0⟩ := hv 0 5 (by decide) rfl
    obtain ⟨y1, hy1, pv1⟩ := hv 1 6 (by decide) rfl
    obtain ⟨y2, hy2, pv2⟩ := hv 2 7 (by decide) rfl
    obtain ⟨y3, hy3, pv3⟩ := hv 3 8 (by decide) rfl
    obtain ⟨y4, hy4, pv4⟩ := hv 4 9 (by decide) rfl
    rw [act_set' (a := a) (a0 := a0) [(5, y0), (6, y1), (7, y2), (8, y3), (9, y4)] hd hs (by
      intro p hp
      simp only [List.mem_cons, List.not_mem_nil, or_false] at hp
      rcases hp with rfl | rfl | rfl | rfl | rfl
      . exact hy0
      . exact hy1
      . exact hy2
      . exact hy3
      . exact hy4
      ) (fun j hj => hf j (fun k hk q => hj (by
        have : ∀ k, k < 5 -> (dst_bk1 k).all (fun d => [5, 6, 7, 8, 9].contains d) = true := by decide +kernel
        have h1 := this k hk
        rw [q] at h1
        simpa using h1)))]
    exact hQ y0 y1 y2 y3 y4 w hR pv0 pv4
  case step =>
  intro i o a w hi ho hs hf dep hR
  have e0 := evT ((hf 0 (by decide +kernel)).trans h0)
  have e2 := evT ((hf 2 (by decide +kernel)).trans h2)
  have e4 := evT ((hf 4 (by decide +kernel)).trans h4)
  rcases (by omega : i = 0 \/ i = 1 \/ i = 2 \/ i = 3 \/ i = 4) with rfl | rfl | rfl | rfl | rfl
  . have ho2 : some _ = some o := ho
    obtain rfl := Option.some.inj ho2
    exact .inl ⟨wantN rfl, fun K hK => mo_load (by simp [go_sem, hS w hR]) rfl e2 (hK _ _ (Below.refl _ _) rfl)⟩
  . have ho2 : some _ = some o := ho
    obtain rfl := Option.some.inj ho2
    exact .inl ⟨wantN rfl, fun K hK => mo_move rfl e0 (hK _ _ (Below.refl _ _) rfl)⟩
  . have ho2 : some _ = some o := ho
    obtain rfl := Option.some.inj ho2
    exact .inl ⟨wantN rfl, fun K hK => mo_load (by obtain ⟨c0, c1, c2⟩ := hE w hR; simp [go_sem, c0, c1, c2]) rfl e4 (hK _ _ (Below.refl _ _) rfl)⟩
  . have ho2 : some _ = some o := ho
    obtain rfl := Option.some.inj ho2
    obtain ⟨_, hv1, rfl⟩ : ∃ v, a.tmps[6]? = some v /\ (fun (v : Value) (w : World) => v = lv) v w := dep ⟨1, Ground.data⟩ (by first | simp | simp [ops_bk1]) rfl 6 rfl
    obtain ⟨_, hv2, rfl⟩ : ∃ v, a.tmps[7]? = some v /\ (fun (v : Value) (w : World) => v = .agg #[.int .i64 k, .int .i64 i, .slice fa fn fc]) v w := dep ⟨2, Ground.data⟩ (by first | simp | simp [ops_bk1]) rfl 7 rfl
    exact .inl ⟨wantN rfl, fun K hK => mo_call2 23 rfl (evT hv1) (evT hv2) (enters_of (P := Tryz.prog) Tryz.func23 (by kernel_rfl) rfl) (hC3 w hR) (fun v w' h => hK v w' h.2 h.1)⟩
  have ho2 : some _ = some o := ho
  obtain rfl := Option.some.inj ho2
  obtain ⟨z3, hv3, pv3⟩ : ∃ v, a.tmps[8]? = some v /\ (fun (v : Value) (w : World) => PL v w) v w := dep ⟨3, Ground.data⟩ (by first | simp | simp [ops_bk1]) rfl 8 rfl
  exact .inl ⟨wantN rfl, fun K hK => by obtain ⟨k1, i1, fa1, fn1, fc1, ga1, gn1, gc1, p1, q1, rfl⟩ := hPF _ _ pv3; exact mo_lit6 rfl (evT hv3) (hK _ _ ((Below.refl _ _).alloc (Nat.le_refl _) _) ⟨w.heap.size, _, _, rfl, hPM _ _ _ ((Below.refl _ _).alloc (Nat.le_refl _) _) pv3, Nat.le_trans hlo hR.size, rfl, Cells.new _ _ _⟩)⟩
def ops_wb6 : List Oper := [
  { dst := some 16, op := Op.load 22 (Operand.tmp 7), type := 22, pos := "step.go:53", after := #[], guard := none },
  { dst := some 17, op := Op.load 65 (Operand.tmp 9), type := 65, pos := "step.go:53", after := #[], guard := none },
  { dst := some 18, op := Op.load 115 (Operand.tmp 6), type := 115, pos := "step.go:53", after := #[], guard := none },
  { dst := some 19, op := Op.call { callee := Callee.value (Operand.func 47), args := #[Operand.tmp 17, Operand.tmp 18], argTypes := #[65, 115] }, type := 53, pos := "step.go:53", after := #[{ on := 1, ground := Ground.data }, { on := 2, ground := Ground.data }], guard := none },
  { dst := some 20, op := Op.buildSlice 22 1 #[(0, Operand.tmp 19)], type := 22, pos := "step.go:53", after := #[{ on := 3, ground := Ground.data }], guard := none },
  { dst := some 21, op := Op.call { callee := Callee.builtin Builtin.append, args := #[Operand.tmp 16, Operand.tmp 20], argTypes := #[22, 22] }, type := 22, pos := "step.go:53", after := #[{ on := 0, ground := Ground.data }, { on := 4, ground := Ground.data }, { on := 3, ground := Ground.chain }], guard := none },
  { dst := none, op := Op.store 22 (Operand.tmp 7) (Operand.tmp 21), type := 0, pos := "step.go:53", after := #[{ on := 5, ground := Ground.data }, { on := 5, ground := Ground.chain }, { on := 0, ground := Ground.phase }, { on := 1, ground := Ground.phase }, { on := 2, ground := Ground.phase }, { on := 3, ground := Ground.phase }, { on := 4, ground := Ground.phase }, { on := 5, ground := Ground.phase }], guard := none }]
def dst_wb6 (i : Nat) : Option Nat := (ops_wb6[i]?).bind (·.dst)
theorem inj_wb6 : ∀ i, i < 5 -> ∀ k, k < 5 -> dst_wb6 i ≠ none -> dst_wb6 i = dst_wb6 k -> i = k := by decide +kernel
theorem lt_wb6 : ∀ i, i < 5 -> (dst_wb6 i).getD 0 < 34 := by decide +kernel
theorem low_wb6 : ∀ i : Fin 7, ∀ e ∈ (ops_wb6[i.1]'(by exact i.2)).after, Region.binds .any e = true -> e.on < i.1 := by decide +kernel
def pv_wb6 (bb tb nb lo : Nat) (bv fv : Value) (k i p q : Int) (fa ga : Option Addr) (fn fc gn gc : Nat) (PL : Value -> World -> Prop) : List (Value -> World -> Prop) := [
  fun v w => v = bv,
  fun v w => v = .agg #[.int .i64 k, .int .i64 i, .slice fa fn fc, .slice ga gn gc, .int .i64 p, .int .i64 q],
  fun v w => v = fv,
  fun v w => PL v w,
  fun v w => ∃ b u cs, v = .slice (some ⟨b, 0, none⟩) 1 1 /\ PL u w /\ lo <= b /\ u = .agg cs /\ Cells w b 53 cs]
theorem region_wb6 (a0 : Act) (w0 : World) (bb tb nb lo : Nat) (bv fv : Value) (k i p q : Int) (fa ga : Option Addr) (fn fc gn gc : Nat) (PL : Value -> World -> Prop) (Q : Exit -> Act -> World -> Prop)
    (hsz : a0.tmps.size = 34) (h7 : a0.tmps[7]? = some (.pointer (some ⟨bb, 0, none⟩))) (h9 : a0.tmps[9]? = some (.pointer (some ⟨tb, 0, none⟩))) (h6 : a0.tmps[6]? = some (.pointer (some ⟨nb, 0, none⟩)))
    (hS : ∀ W, Below w0.heap.size w0 W -> W.cell? ⟨bb, 0, none⟩ = some bv /\ W.cell? ⟨nb, 0, none⟩ = some fv) (hlo : lo <= w0.heap.size)
    (hE : ∀ W, Below w0.heap.size w0 W -> W.cell? ⟨tb, 0, none⟩ = some (.int .i64 k) /\ W.cell? ⟨tb, 1, none⟩ = some (.int .i64 i) /\ W.cell? ⟨tb, 2, none⟩ = some (.slice fa fn fc) /\ W.cell? ⟨tb, 3, none⟩ = some (.slice ga gn gc) /\ W.cell? ⟨tb, 4, none⟩ = some (.int .i64 p) /\ W.cell? ⟨tb, 5, none⟩ = some (.int .i64 q))
    (hPM : ∀ v x y, Below x.heap.size x y -> PL v x -> PL v y) (hPF : ∀ v w, PL v w -> ∃ k i fa fn fc, v = .agg #[.int .i64 k, .int .i64 i, .slice fa fn fc])
    (hC3 : ∀ (W : World) (_ : Below w0.heap.size w0 W), Calls Tryz.prog 47 #[.agg #[.int .i64 k, .int .i64 i, .slice fa fn fc, .slice ga gn gc, .int .i64 p, .int .i64 q], fv] W fun e w => ∃ v, e = .returned v /\ (PL v w) /\ Below W.heap.size W w)
    (hQ : ∀ (y0 y1 y2 y3 y4 : Value) (w : World), Below w0.heap.size w0 w -> ((fun (v : Value) (w : World) => v = bv) y0 w) -> ((fun (v : Value) (w : World) => ∃ b u cs, v = .slice (some ⟨b, 0, none⟩) 1 1 /\ PL u w /\ lo <= b /\ u = .agg cs /\ Cells w b 53 cs) y4 w) -> wpList Tryz.prog ops_wb6.toArray Q [{ dst := some 21, op := Op.call { callee := Callee.builtin Builtin.append, args := #[Operand.tmp 16, Operand.tmp 20], argTypes := #[22, 22] }, type := 22, pos := "step.go:53", after := #[{ on := 0, ground := Ground.data }, { on := 4, ground := Ground.data }, { on := 3, ground := Ground.chain }], guard := none }, { dst := none, op := Op.store 22 (Operand.tmp 7) (Operand.tmp 21), type := 0, pos := "step.go:53", after := #[{ on := 5, ground := Ground.data }, { on := 5, ground := Ground.chain }, { on := 0, ground := Ground.phase }, { on := 1, ground := Ground.phase }, { on := 2, ground := Ground.phase }, { on := 3, ground := Ground.phase }, { on := 4, ground := Ground.phase }, { on := 5, ground := Ground.phase }], guard := none }] { a0 with tmps := [(16, y0), (17, y1), (18, y2), (19, y3), (20, y4)].foldl (fun u p => u.setIfInBounds p.1 p.2) a0.tmps } w) :
    wpAny Tryz.prog .any ops_wb6.toArray Q ops_wb6.toArray.size (Array.replicate ops_wb6.toArray.size false) a0 w0 := by
  have M : AllM (pv_wb6 bb tb nb lo bv fv k i p q fa ga fn fc gn gc PL) := ⟨fun v x y hb h => h, fun v x y hb h => h, fun v x y hb h => h, fun v x y hb h => hPM v x y hb h, fun v x y hb h => by obtain ⟨b, u, cs, e, h1, h2, h3, h4⟩ := h; exact ⟨b, u, cs, e, hPM u x y hb h1, h2, h3, cells_kept h4 hb h4.lt⟩, trivial⟩
  refine wpAny_mono_tail 5 2 (by kernel_rfl) (by decide) a0 w0 dst_wb6 (pv_wb6 bb tb nb lo bv fv k i p q fa ga fn fc gn gc PL) M (by kernel_rfl) (by kernel_rfl) (by kernel_rfl)
    (fun i o _ ho => by unfold dst_wb6; rw [ho]; rfl)
    (fun i k d hi hk h1 h2 => inj_wb6 i hi k hk (by rw [h1]; intro q; cases q) (by rw [h1, h2]))
    (fun i d hi h => by have := lt_wb6 i hi; rw [h] at this; rw [hsz]; exact this)
    (fun i o e ho he hb => by
      obtain ⟨hi, rfl⟩ := List.getElem?_eq_some_iff.1 ho
      exact low_wb6 ⟨i, hi⟩ e he hb)
    ?step ?fin
  case fin =>
    intro a w hd hs hf hv hR
    obtain ⟨y0, hy0, pv0⟩ := hv 0 16 (by decide) rfl
    obtain ⟨y1, hy1, pv1⟩ := hv 1 17 (by decide) rfl
    obtain ⟨y2, hy2, pv2⟩ := hv 2 18 (by decide) rfl
    obtain ⟨y3, hy3, pv3⟩ := hv 3 19 (by decide) rfl
    obtain ⟨y4, hy4, pv4⟩ := hv 4 20 (by decide) rfl
    rw [act_set' (a := a) (a0 := a0) [(16, y0), (17, y1), (18, y2), (19, y3), (20, y4)] hd hs (by
      intro p hp
      simp only [List.mem_cons, List.not_mem_nil, or_false] at hp
      rcases hp with rfl | rfl | rfl | rfl | rfl
      . exact hy0
      . exact hy1
      . exact hy2
      . exact hy3
      . exact hy4
      ) (fun j hj => hf j (fun k hk q => hj (by
        have : ∀ k, k < 5 -> (dst_wb6 k).all (fun d => [16, 17, 18, 19, 20].contains d) = true := by decide +kernel
        have h1 := this k hk
        rw [q] at h1
        simpa using h1)))]
    exact hQ y0 y1 y2 y3 y4 w hR pv0 pv4
  case step =>
  intro i o a w hi ho hs hf dep hR
  have e7 := evT ((hf 7 (by decide +kernel)).trans h7)
  have e9 := evT ((hf 9 (by decide +kernel)).trans h9)
  have e6 := evT ((hf 6 (by decide +kernel)).trans h6)
  rcases (by omega : i = 0 \/ i = 1 \/ i = 2 \/ i = 3 \/ i = 4) with rfl | rfl | rfl | rfl | rfl
  . have ho2 : some _ = some o := ho
    obtain rfl := Option.some.inj ho2
    exact .inl ⟨wantN rfl, fun K hK => mo_load (by simp [go_sem, (hS w hR).1]) rfl e7 (hK _ _ (Below.refl _ _) rfl)⟩
  . have ho2 : some _ = some o := ho
    obtain rfl := Option.some.inj ho2
    exact .inl ⟨wantN rfl, fun K hK => mo_load (by obtain ⟨c0, c1, c2, c3, c4, c5⟩ := hE w hR; simp [go_sem, c0, c1, c2, c3, c4, c5]) rfl e9 (hK _ _ (Below.refl _ _) rfl)⟩
  . have ho2 : some _ = some o := ho
    obtain rfl := Option.some.inj ho2
    exact .inl ⟨wantN rfl, fun K hK => mo_load (by simp [go_sem, (hS w hR).2]) rfl e6 (hK _ _ (Below.refl _ _) rfl)⟩
  . have ho2 : some _ = some o := ho
    obtain rfl := Option.some.inj ho2
    obtain ⟨_, hv1, rfl⟩ : ∃ v, a.tmps[17]? = some v /\ (fun (v : Value) (w : World) => v = .agg #[.int .i64 k, .int .i64 i, .slice fa fn fc, .slice ga gn gc, .int .i64 p, .int .i64 q]) v w := dep ⟨1, Ground.data⟩ (by first | simp | simp [ops_wb6]) rfl 17 rfl
    obtain ⟨_, hv2, rfl⟩ : ∃ v, a.tmps[18]? = some v /\ (fun (v : Value) (w : World) => v = fv) v w := dep ⟨2, Ground.data⟩ (by first | simp | simp [ops_wb6]) rfl 18 rfl
    exact .inl ⟨wantN rfl, fun K hK => mo_call2 47 rfl (evT hv1) (evT hv2) (enters_of (P := Tryz.prog) Tryz.func47 (by kernel_rfl) rfl) (hC3 w hR) (fun v w' h => hK v w' h.2 h.1)⟩
  have ho2 : some _ = some o := ho
  obtain rfl := Option.some.inj ho2
  obtain ⟨z3, hv3, pv3⟩ : ∃ v, a.tmps[19]? = some v /\ (fun (v : Value) (w : World) => PL v w) v w := dep ⟨3, Ground.data⟩ (by first | simp | simp [ops_wb6]) rfl 19 rfl
  exact .inl ⟨wantN rfl, fun K hK => by obtain ⟨k1, i1, fa1, fn1, fc1, rfl⟩ := hPF _ _ pv3; exact mo_lit3 rfl (evT hv3) (hK _ _ ((Below.refl _ _).alloc (Nat.le_refl _) _) ⟨w.heap.size, _, _, rfl, hPM _ _ _ ((Below.refl _ _).alloc (Nat.le_refl _) _) pv3, Nat.le_trans hlo hR.size, rfl, Cells.new _ _ _⟩)⟩
def ops_un4 : List Oper := [
  { dst := some 15, op := Op.move (Operand.tmp 1), type := 115, pos := "step.go:66", after := #[], guard := none },
  { dst := some 16, op := Op.fieldAddr 65 (Operand.tmp 2) 0, type := 0, pos := "step.go:66", after := #[], guard := none },
  { dst := some 17, op := Op.fieldAddr 53 (Operand.tmp 16) 1, type := 0, pos := "step.go:66", after := #[{ on := 1, ground := Ground.data }], guard := none },
  { dst := some 18, op := Op.load 3 (Operand.tmp 17), type := 3, pos := "step.go:66", after := #[{ on := 2, ground := Ground.data }], guard := none },
  { dst := some 19, op := Op.call { callee := Callee.value (Operand.tmp 15), args := #[Operand.tmp 18], argTypes := #[3] }, type := 3, pos := "step.go:66", after := #[{ on := 0, ground := Ground.data }, { on := 3, ground := Ground.data }], guard := none },
  { dst := some 20, op := Op.fieldAddr 65 (Operand.tmp 2) 1, type := 0, pos := "step.go:66", after := #[], guard := none },
  { dst := some 21, op := Op.load 46 (Operand.tmp 20), type := 46, pos := "step.go:66", after := #[{ on := 5, ground := Ground.data }], guard := none },
  { dst := some 22, op := Op.build 53 #[(0, Operand.const (Value.int IntKind.i64 1)), (1, Operand.tmp 19), (2, Operand.tmp 21)], type := 53, pos := "step.go:66", after := #[{ on := 4, ground := Ground.data }, { on := 6, ground := Ground.data }], guard := none },
  { dst := none, op := Op.store 53 (Operand.tmp 4) (Operand.tmp 22), type := 0, pos := "step.go:66", after := #[{ on := 7, ground := Ground.data }, { on := 4, ground := Ground.chain }, { on := 0, ground := Ground.phase }, { on := 1, ground := Ground.phase }, { on := 2, ground := Ground.phase }, { on := 3, ground := Ground.phase }, { on := 4, ground := Ground.phase }, { on := 5, ground := Ground.phase }, { on := 6, ground := Ground.phase }, { on := 7, ground := Ground.phase }], guard := none }]
def dst_un4 (i : Nat) : Option Nat := (ops_un4[i]?).bind (·.dst)
theorem inj_un4 : ∀ i, i < 8 -> ∀ k, k < 8 -> dst_un4 i ≠ none -> dst_un4 i = dst_un4 k -> i = k := by decide +kernel
theorem lt_un4 : ∀ i, i < 8 -> (dst_un4 i).getD 0 < 32 := by decide +kernel
theorem low_un4 : ∀ i : Fin 9, ∀ e ∈ (ops_un4[i.1]'(by exact i.2)).after, Region.binds .any e = true -> e.on < i.1 := by decide +kernel
def pv_un4 (tb g : Nat) (cb : Array Value) (zi z : Int) (ga : Option Addr) (gn gc : Nat) : List (Value -> World -> Prop) := [
  fun v w => v = .func (.func g) #[] cb,
  fun v w => v = .pointer (some ⟨tb, 0, none⟩),
  fun v w => v = .pointer (some ⟨tb, 1, none⟩),
  fun v w => v = .int .i64 zi,
  fun v w => v = .int .i64 z,
  fun v w => v = .pointer (some ⟨tb, 3, none⟩),
  fun v w => v = .slice ga gn gc,
  fun v w => v = .agg #[.int .i64 1, .int .i64 z, .slice ga gn gc]]
theorem region_un4 (a0 : Act) (w0 : World) (tb g : Nat) (cb : Array Value) (zi z : Int) (ga : Option Addr) (gn gc : Nat) (Q : Exit -> Act -> World -> Prop)
    (hsz : a0.tmps.size = 32) (h1 : a0.tmps[1]? = some (.func (.func g) #[] cb)) (h2 : a0.tmps[2]? = some (.pointer (some ⟨tb, 0, none⟩)))
    (hE : ∀ W, Below w0.heap.size w0 W -> W.cell? ⟨tb, 1, none⟩ = some (.int .i64 zi) /\ W.cell? ⟨tb, 3, none⟩ = some (.slice ga gn gc))
    (hN : ∀ (W : World), Below w0.heap.size w0 W -> Calls Tryz.prog g (#[.int .i64 zi] ++ cb) W fun e w => ∃ v, e = .returned v /\ v = .int .i64 z /\ Below W.heap.size W w) (eg : ∀ args w, (callFunc g args).run Tryz.prog w = .ok (.enter g args) w)
    (hQ : ∀ (y0 y1 y2 y3 y4 y5 y6 y7 : Value) (w : World), Below w0.heap.size w0 w -> ((fun (v : Value) (w : World) => v = .agg #[.int .i64 1, .int .i64 z, .slice ga gn gc]) y7 w) -> wpList Tryz.prog ops_un4.toArray Q [{ dst := none, op := Op.store 53 (Operand.tmp 4) (Operand.tmp 22), type := 0, pos := "step.go:66", after := #[{ on := 7, ground := Ground.data }, { on := 4, ground := Ground.chain }, { on := 0, ground := Ground.phase }, { on := 1, ground := Ground.phase }, { on := 2, ground := Ground.phase }, { on := 3, ground := Ground.phase }, { on := 4, ground := Ground.phase }, { on := 5, ground := Ground.phase }, { on := 6, ground := Ground.phase }, { on := 7, ground := Ground.phase }], guard := none }] { a0 with tmps := [(15, y0), (16, y1), (17, y2), (18, y3), (19, y4), (20, y5), (21, y6), (22, y7)].foldl (fun u p => u.setIfInBounds p.1 p.2) a0.tmps } w) :
    wpAny Tryz.prog .any ops_un4.toArray Q ops_un4.toArray.size (Array.replicate ops_un4.toArray.size false) a0 w0 := by
  have M : AllM (pv_un4 tb g cb zi z ga gn gc) := ⟨fun v x y hb h => h, fun v x y hb h => h, fun v x y hb h => h, fun v x y hb h => h, fun v x y hb h => h, fun v x y hb h => h, fun v x y hb h => h, fun v x y hb h => h, trivial⟩
  refine wpAny_mono_tail 8 1 (by kernel_rfl) (by decide) a0 w0 dst_un4 (pv_un4 tb g cb zi z ga gn gc) M (by kernel_rfl) (by kernel_rfl) (by kernel_rfl)
    (fun i o _ ho => by unfold dst_un4; rw [ho]; rfl)
    (fun i k d hi hk h1 h2 => inj_un4 i hi k hk (by rw [h1]; intro q; cases q) (by rw [h1, h2]))
    (fun i d hi h => by have := lt_un4 i hi; rw [h] at this; rw [hsz]; exact this)
    (fun i o e ho he hb => by
      obtain ⟨hi, rfl⟩ := List.getElem?_eq_some_iff.1 ho
      exact low_un4 ⟨i, hi⟩ e he hb)
    ?step ?fin
  case fin =>
    intro a w hd hs hf hv hR
    obtain ⟨y0, hy0, pv0⟩ := hv 0 15 (by decide) rfl
    obtain ⟨y1, hy1, pv1⟩ := hv 1 16 (by decide) rfl
    obtain ⟨y2, hy2, pv2⟩ := hv 2 17 (by decide) rfl
    obtain ⟨y3, hy3, pv3⟩ := hv 3 18 (by decide) rfl
    obtain ⟨y4, hy4, pv4⟩ := hv 4 19 (by decide) rfl
    obtain ⟨y5, hy5, pv5⟩ := hv 5 20 (by decide) rfl
    obtain ⟨y6, hy6, pv6⟩ := hv 6 21 (by decide) rfl
    obtain ⟨y7, hy7, pv7⟩ := hv 7 22 (by decide) rfl
    rw [act_set' (a := a) (a0 := a0) [(15, y0), (16, y1), (17, y2), (18, y3), (19, y4), (20, y5), (21, y6), (22, y7)] hd hs (by
      intro p hp
      simp only [List.mem_cons, List.not_mem_nil, or_false] at hp
      rcases hp with rfl | rfl | rfl | rfl | rfl | rfl | rfl | rfl
      . exact hy0
      . exact hy1
      . exact hy2
      . exact hy3
      . exact hy4
      . exact hy5
      . exact hy6
      . exact hy7
      ) (fun j hj => hf j (fun k hk q => hj (by
        have : ∀ k, k < 8 -> (dst_un4 k).all (fun d => [15, 16, 17, 18, 19, 20, 21, 22].contains d) = true := by decide +kernel
        have h1 := this k hk
        rw [q] at h1
        simpa using h1)))]
    exact hQ y0 y1 y2 y3 y4 y5 y6 y7 w hR pv7
  case step =>
  intro i o a w hi ho hs hf dep hR
  have e1 := evT ((hf 1 (by decide +kernel)).trans h1)
  have e2 := evT ((hf 2 (by decide +kernel)).trans h2)
  rcases (by omega : i = 0 \/ i = 1 \/ i = 2 \/ i = 3 \/ i = 4 \/ i = 5 \/ i = 6 \/ i = 7) with rfl | rfl | rfl | rfl | rfl | rfl | rfl | rfl
  . have ho2 : some _ = some o := ho
    obtain rfl := Option.some.inj ho2
    exact .inl ⟨wantN rfl, fun K hK => mo_move rfl e1 (hK _ _ (Below.refl _ _) rfl)⟩
  . have ho2 : some _ = some o := ho
    obtain rfl := Option.some.inj ho2
    exact .inl ⟨wantN rfl, fun K hK => mo_field (by simp [go_sem]) rfl e2 (hK _ _ (Below.refl _ _) rfl)⟩
  . have ho2 : some _ = some o := ho
    obtain rfl := Option.some.inj ho2
    obtain ⟨_, hv1, rfl⟩ : ∃ v, a.tmps[16]? = some v /\ (fun (v : Value) (w : World) => v = .pointer (some ⟨tb, 0, none⟩)) v w := dep ⟨1, Ground.data⟩ (by first | simp | simp [ops_un4]) rfl 16 rfl
    exact .inl ⟨wantN rfl, fun K hK => mo_field (by simp [go_sem]) rfl (evT hv1) (hK _ _ (Below.refl _ _) rfl)⟩
  . have ho2 : some _ = some o := ho
    obtain rfl := Option.some.inj ho2
    obtain ⟨_, hv2, rfl⟩ : ∃ v, a.tmps[17]? = some v /\ (fun (v : Value) (w : World) => v = .pointer (some ⟨tb, 1, none⟩)) v w := dep ⟨2, Ground.data⟩ (by first | simp | simp [ops_un4]) rfl 17 rfl
    exact .inl ⟨wantN rfl, fun K hK => mo_load (by simp [go_sem, (hE w hR).1]) rfl (evT hv2) (hK _ _ (Below.refl _ _) rfl)⟩
  . have ho2 : some _ = some o := ho
    obtain rfl := Option.some.inj ho2
    obtain ⟨_, hv0, rfl⟩ : ∃ v, a.tmps[15]? = some v /\ (fun (v : Value) (w : World) => v = .func (.func g) #[] cb) v w := dep ⟨0, Ground.data⟩ (by first | simp | simp [ops_un4]) rfl 15 rfl
    obtain ⟨_, hv3, rfl⟩ : ∃ v, a.tmps[18]? = some v /\ (fun (v : Value) (w : World) => v = .int .i64 zi) v w := dep ⟨3, Ground.data⟩ (by first | simp | simp [ops_un4]) rfl 18 rfl
    exact .inl ⟨wantN rfl, fun K hK => mo_callV rfl (evT hv0) (evT hv3) eg (hN w hR) (fun v w' h => hK v w' h.2 h.1)⟩
  . have ho2 : some _ = some o := ho
    obtain rfl := Option.some.inj ho2
    exact .inl ⟨wantN rfl, fun K hK => mo_field (by simp [go_sem]) rfl e2 (hK _ _ (Below.refl _ _) rfl)⟩
  . have ho2 : some _ = some o := ho
    obtain rfl := Option.some.inj ho2
    obtain ⟨_, hv5, rfl⟩ : ∃ v, a.tmps[20]? = some v /\ (fun (v : Value) (w : World) => v = .pointer (some ⟨tb, 3, none⟩)) v w := dep ⟨5, Ground.data⟩ (by first | simp | simp [ops_un4]) rfl 20 rfl
    exact .inl ⟨wantN rfl, fun K hK => mo_load (by simp [go_sem, (hE w hR).2]) rfl (evT hv5) (hK _ _ (Below.refl _ _) rfl)⟩
  have ho2 : some _ = some o := ho
  obtain rfl := Option.some.inj ho2
  obtain ⟨_, hv4, rfl⟩ : ∃ v, a.tmps[19]? = some v /\ (fun (v : Value) (w : World) => v = .int .i64 z) v w := dep ⟨4, Ground.data⟩ (by first | simp | simp [ops_un4]) rfl 19 rfl
  obtain ⟨_, hv6, rfl⟩ : ∃ v, a.tmps[21]? = some v /\ (fun (v : Value) (w : World) => v = .slice ga gn gc) v w := dep ⟨6, Ground.data⟩ (by first | simp | simp [ops_un4]) rfl 21 rfl
  exact .inl ⟨wantN rfl, fun K hK => mo_build3 rfl rfl (evT hv4) (evT hv6) (hK _ _ (Below.refl _ _) rfl)⟩
def ops_un6 : List Oper := [
  { dst := some 25, op := Op.move (Operand.tmp 1), type := 115, pos := "step.go:68", after := #[], guard := none },
  { dst := some 26, op := Op.fieldAddr 65 (Operand.tmp 2) 2, type := 0, pos := "step.go:68", after := #[], guard := none },
  { dst := some 27, op := Op.load 3 (Operand.tmp 26), type := 3, pos := "step.go:68", after := #[{ on := 1, ground := Ground.data }], guard := none },
  { dst := some 28, op := Op.call { callee := Callee.value (Operand.tmp 25), args := #[Operand.tmp 27], argTypes := #[3] }, type := 3, pos := "step.go:68", after := #[{ on := 0, ground := Ground.data }, { on := 2, ground := Ground.data }], guard := none },
  { dst := some 29, op := Op.fieldAddr 65 (Operand.tmp 2) 1, type := 0, pos := "step.go:68", after := #[], guard := none },
  { dst := some 30, op := Op.load 46 (Operand.tmp 29), type := 46, pos := "step.go:68", after := #[{ on := 4, ground := Ground.data }], guard := none },
  { dst := some 31, op := Op.build 53 #[(0, Operand.const (Value.int IntKind.i64 3)), (1, Operand.tmp 28), (2, Operand.tmp 30)], type := 53, pos := "step.go:68", after := #[{ on := 3, ground := Ground.data }, { on := 5, ground := Ground.data }], guard := none },
  { dst := none, op := Op.store 53 (Operand.tmp 4) (Operand.tmp 31), type := 0, pos := "step.go:68", after := #[{ on := 6, ground := Ground.data }, { on := 3, ground := Ground.chain }, { on := 0, ground := Ground.phase }, { on := 1, ground := Ground.phase }, { on := 2, ground := Ground.phase }, { on := 3, ground := Ground.phase }, { on := 4, ground := Ground.phase }, { on := 5, ground := Ground.phase }, { on := 6, ground := Ground.phase }], guard := none }]
def dst_un6 (i : Nat) : Option Nat := (ops_un6[i]?).bind (·.dst)
theorem inj_un6 : ∀ i, i < 7 -> ∀ k, k < 7 -> dst_un6 i ≠ none -> dst_un6 i = dst_un6 k -> i = k := by decide +kernel
theorem lt_un6 : ∀ i, i < 7 -> (dst_un6 i).getD 0 < 32 := by decide +kernel
theorem low_un6 : ∀ i : Fin 8, ∀ e ∈ (ops_un6[i.1]'(by exact i.2)).after, Region.binds .any e = true -> e.on < i.1 := by decide +kernel
def pv_un6 (tb g : Nat) (cb : Array Value) (zi z : Int) (ga : Option Addr) (gn gc : Nat) : List (Value -> World -> Prop) := [
  fun v w => v = .func (.func g) #[] cb,
  fun v w => v = .pointer (some ⟨tb, 4, none⟩),
  fun v w => v = .int .i64 zi,
  fun v w => v = .int .i64 z,
  fun v w => v = .pointer (some ⟨tb, 3, none⟩),
  fun v w => v = .slice ga gn gc,
  fun v w => v = .agg #[.int .i64 3, .int .i64 z, .slice ga gn gc]]
theorem region_un6 (a0 : Act) (w0 : World) (tb g : Nat) (cb : Array Value) (zi z : Int) (ga : Option Addr) (gn gc : Nat) (Q : Exit -> Act -> World -> Prop)
    (hsz : a0.tmps.size = 32) (h1 : a0.tmps[1]? = some (.func (.func g) #[] cb)) (h2 : a0.tmps[2]? = some (.pointer (some ⟨tb, 0, none⟩)))
    (hE : ∀ W, Below w0.heap.size w0 W -> W.cell? ⟨tb, 4, none⟩ = some (.int .i64 zi) /\ W.cell? ⟨tb, 3, none⟩ = some (.slice ga gn gc))
    (hN : ∀ (W : World), Below w0.heap.size w0 W -> Calls Tryz.prog g (#[.int .i64 zi] ++ cb) W fun e w => ∃ v, e = .returned v /\ v = .int .i64 z /\ Below W.heap.size W w) (eg : ∀ args w, (callFunc g args).run Tryz.prog w = .ok (.enter g args) w)
    (hQ : ∀ (y0 y1 y2 y3 y4 y5 y6 : Value) (w : World), Below w0.heap.size w0 w -> ((fun (v : Value) (w : World) => v = .agg #[.int .i64 3, .int .i64 z, .slice ga gn gc]) y6 w) -> wpList Tryz.prog ops_un6.toArray Q [{ dst := none, op := Op.store 53 (Operand.tmp 4) (Operand.tmp 31), type := 0, pos := "step.go:68", after := #[{ on := 6, ground := Ground.data }, { on := 3, ground := Ground.chain }, { on := 0, ground := Ground.phase }, { on := 1, ground := Ground.phase }, { on := 2, ground := Ground.phase }, { on := 3, ground := Ground.phase }, { on := 4, ground := Ground.phase }, { on := 5, ground := Ground.phase }, { on := 6, ground := Ground.phase }], guard := none }] { a0 with tmps := [(25, y0), (26, y1), (27, y2), (28, y3), (29, y4), (30, y5), (31, y6)].foldl (fun u p => u.setIfInBounds p.1 p.2) a0.tmps } w) :
    wpAny Tryz.prog .any ops_un6.toArray Q ops_un6.toArray.size (Array.replicate ops_un6.toArray.size false) a0 w0 := by
  have M : AllM (pv_un6 tb g cb zi z ga gn gc) := ⟨fun v x y hb h => h, fun v x y hb h => h, fun v x y hb h => h, fun v x y hb h => h, fun v x y hb h => h, fun v x y hb h => h, fun v x y hb h => h, trivial⟩
  refine wpAny_mono_tail 7 1 (by kernel_rfl) (by decide) a0 w0 dst_un6 (pv_un6 tb g cb zi z ga gn gc) M (by kernel_rfl) (by kernel_rfl) (by kernel_rfl)
    (fun i o _ ho => by unfold dst_un6; rw [ho]; rfl)
    (fun i k d hi hk h1 h2 => inj_un6 i hi k hk (by rw [h1]; intro q; cases q) (by rw [h1, h2]))
    (fun i d hi h => by have := lt_un6 i hi; rw [h] at this; rw [hsz]; exact this)
    (fun i o e ho he hb => by
      obtain ⟨hi, rfl⟩ := List.getElem?_eq_some_iff.1 ho
      exact low_un6 ⟨i, hi⟩ e he hb)
    ?step ?fin
  case fin =>
    intro a w hd hs hf hv hR
    obtain ⟨y0, hy0, pv0⟩ := hv 0 25 (by decide) rfl
    obtain ⟨y1, hy1, pv1⟩ := hv 1 26 (by decide) rfl
    obtain ⟨y2, hy2, pv2⟩ := hv 2 27 (by decide) rfl
    obtain ⟨y3, hy3, pv3⟩ := hv 3 28 (by decide) rfl
    obtain ⟨y4, hy4, pv4⟩ := hv 4 29 (by decide) rfl
    obtain ⟨y5, hy5, pv5⟩ := hv 5 30 (by decide) rfl
    obtain ⟨y6, hy6, pv6⟩ := hv 6 31 (by decide) rfl
    rw [act_set' (a := a) (a0 := a0) [(25, y0), (26, y1), (27, y2), (28, y3), (29, y4), (30, y5), (31, y6)] hd hs (by
      intro p hp
      simp only [List.mem_cons, List.not_mem_nil, or_false] at hp
      rcases hp with rfl | rfl | rfl | rfl | rfl | rfl | rfl
      . exact hy0
      . exact hy1
      . exact hy2
      . exact hy3
      . exact hy4
      . exact hy5
      . exact hy6
      ) (fun j hj => hf j (fun k hk q => hj (by
        have : ∀ k, k < 7 -> (dst_un6 k).all (fun d => [25, 26, 27, 28, 29, 30, 31].contains d) = true := by decide +kernel
        have h1 := this k hk
        rw [q] at h1
        simpa using h1)))]
    exact hQ y0 y1 y2 y3 y4 y5 y6 w hR pv6
  case step =>
  intro i o a w hi ho hs hf dep hR
  have e1 := evT ((hf 1 (by decide +kernel)).trans h1)
  have e2 := evT ((hf 2 (by decide +kernel)).trans h2)
  rcases (by omega : i = 0 \/ i = 1 \/ i = 2 \/ i = 3 \/ i = 4 \/ i = 5 \/ i = 6) with rfl | rfl | rfl | rfl | rfl | rfl | rfl
  . have ho2 : some _ = some o := ho
    obtain rfl := Option.some.inj ho2
    exact .inl ⟨wantN rfl, fun K hK => mo_move rfl e1 (hK _ _ (Below.refl _ _) rfl)⟩
  . have ho2 : some _ = some o := ho
    obtain rfl := Option.some.inj ho2
    exact .inl ⟨wantN rfl, fun K hK => mo_field (by simp [go_sem]) rfl e2 (hK _ _ (Below.refl _ _) rfl)⟩
  . have ho2 : some _ = some o := ho
    obtain rfl := Option.some.inj ho2
    obtain ⟨_, hv1, rfl⟩ : ∃ v, a.tmps[26]? = some v /\ (fun (v : Value) (w : World) => v = .pointer (some ⟨tb, 4, none⟩)) v w := dep ⟨1, Ground.data⟩ (by first | simp | simp [ops_un6]) rfl 26 rfl
    exact .inl ⟨wantN rfl, fun K hK => mo_load (by simp [go_sem, (hE w hR).1]) rfl (evT hv1) (hK _ _ (Below.refl _ _) rfl)⟩
  . have ho2 : some _ = some o := ho
    obtain rfl := Option.some.inj ho2
    obtain ⟨_, hv0, rfl⟩ : ∃ v, a.tmps[25]? = some v /\ (fun (v : Value) (w : World) => v = .func (.func g) #[] cb) v w := dep ⟨0, Ground.data⟩ (by first | simp | simp [ops_un6]) rfl 25 rfl
    obtain ⟨_, hv2, rfl⟩ : ∃ v, a.tmps[27]? = some v /\ (fun (v : Value) (w : World) => v = .int .i64 zi) v w := dep ⟨2, Ground.data⟩ (by first | simp | simp [ops_un6]) rfl 27 rfl
    exact .inl ⟨wantN rfl, fun K hK => mo_callV rfl (evT hv0) (evT hv2) eg (hN w hR) (fun v w' h => hK v w' h.2 h.1)⟩
  . have ho2 : some _ = some o := ho
    obtain rfl := Option.some.inj ho2
    exact .inl ⟨wantN rfl, fun K hK => mo_field (by simp [go_sem]) rfl e2 (hK _ _ (Below.refl _ _) rfl)⟩
  . have ho2 : some _ = some o := ho
    obtain rfl := Option.some.inj ho2
    obtain ⟨_, hv4, rfl⟩ : ∃ v, a.tmps[29]? = some v /\ (fun (v : Value) (w : World) => v = .pointer (some ⟨tb, 3, none⟩)) v w := dep ⟨4, Ground.data⟩ (by first | simp | simp [ops_un6]) rfl 29 rfl
    exact .inl ⟨wantN rfl, fun K hK => mo_load (by simp [go_sem, (hE w hR).2]) rfl (evT hv4) (hK _ _ (Below.refl _ _) rfl)⟩
  have ho2 : some _ = some o := ho
  obtain rfl := Option.some.inj ho2
  obtain ⟨_, hv3, rfl⟩ : ∃ v, a.tmps[28]? = some v /\ (fun (v : Value) (w : World) => v = .int .i64 z) v w := dep ⟨3, Ground.data⟩ (by first | simp | simp [ops_un6]) rfl 28 rfl
  obtain ⟨_, hv5, rfl⟩ : ∃ v, a.tmps[30]? = some v /\ (fun (v : Value) (w : World) => v = .slice ga gn gc) v w := dep ⟨5, Ground.data⟩ (by first | simp | simp [ops_un6]) rfl 30 rfl
  exact .inl ⟨wantN rfl, fun K hK => mo_build3 rfl rfl (evT hv3) (evT hv5) (hK _ _ (Below.refl _ _) rfl)⟩
end Go.Proofs.YtfjklpgmnakcaaaGreatDoor
namespace Go.Proofs.YtfjklpgmnakcaaaGreatDoor
open Go.RowKit
def renP (ps : List (Int × Int)) (id : Int) : Int := match ps.reverse.find? (fun p => p.1 == id) with | some p => p.2 | none => id
theorem renP_snoc (ps : List (Int × Int)) (p : Int × Int) (id : Int) : renP (ps ++ [p]) id = if p.1 = id then p.2 else renP ps id := by
  unfold renP
  rw [List.reverse_append]
  simp only [List.reverse_cons, List.reverse_nil, List.nil_append, List.singleton_append, List.find?_cons]
  by_cases h : p.1 = id
  . simp [h]
  have hb : (p.1 == id) = false := by simpa using h
  rw [if_neg h, hb]
theorem renP_take {ps : List (Int × Int)} {m : Nat} (h : m < ps.length) (id : Int) : renP (ps.take (m + 1)) id = if ps[m].1 = id then ps[m].2 else renP (ps.take m) id := by
  rw [List.take_succ_eq_append_getElem h, renP_snoc]
def PairsAt (w : World) (v : Value) (ps : List (Int × Int)) : Prop := ∃ A cap, v = .slice A ps.length cap /\ ∀ j (h : j < ps.length), ∃ g, A = some ⟨g, 0, none⟩ /\ w.cell? ⟨g, j * 2, none⟩ = some (.int .i64 ps[j].1) /\ w.cell? ⟨g, j * 2 + 1, none⟩ = some (.int .i64 ps[j].2)
theorem renamed_any {w : World} {v : Value} {ps : List (Int × Int)} (h : PairsAt w v ps) (hl : ps.length <= 1000) (id : Int) :
    Calls Tryz.prog 29 #[v, .int .i64 id] w fun e w' => e = .returned (.int .i64 (renP ps id)) /\ w' = w := by
  obtain ⟨A, cap, rfl, hc⟩ := h
  have HC := Lib.hid hc
  clear hc
  go_enter Tryz.func29, Tryz.ntmps29
  go_wp2_with fail
  go_loopw [5] (fun i wr => ∃ m : Nat, m <= ps.length /\ i = .int .i64 ((m : Int) - 1) /\ renP ps id = renP (ps.take m) id /\ wr = w) (fun i _ => (intOf i + 1).toNat)
  case atStart => exact ⟨ps.length, Nat.le_refl _, rfl, by rw [List.take_length], rfl⟩
  case round =>
  obtain ⟨m, hm, rfl, he, rfl⟩ := hrel
  cases m with
  | zero =>
    have HE := Lib.hid he
    clear he
    go_wp2_with fail
    go_ret
    exact ⟨by rw [HE.out]; rfl, rfl⟩
  | succ m =>
  obtain ⟨g, rfl, c0, c1⟩ := HC.out m (by omega)
  rw [renP_take (by omega)] at he
  have hzi : ((m + 1 : Nat) : Int) - 1 = (m : Int) := by omega
  rw [hzi]
  have hlt : (m : Int) < (ps.length : Int) := by omega
  by_cases hq : ps[m].1 = id
  . rw [if_pos hq] at he
    have HE := Lib.hid he
    have hb : (ps[m].1 == id) = true := by simpa using hq
    clear he hzi
    go_wp2_with fail
    go_ret
    exact ⟨by rw [HE.out]; rfl, rfl⟩
  rw [if_neg hq] at he
  have HE := Lib.hid he
  have hb : (ps[m].1 == id) = false := by simpa using hq
  clear he hzi
  go_wp2_with fail
  go_roundw
  case rel => exact ⟨m, by omega, by go_num, HE.out, by first | rfl | trivial⟩
  case measure => simp [intOf]
end Go.Proofs.YtfjklpgmnakcaaaGreatDoor
