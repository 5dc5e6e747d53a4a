/- Texts put together: KE, KF. -/
import Derived.Test.YtembondddgfpcaaBvp1
import Derived.Test.YtembondddgfpcaaBvp2
import Derived.Test.YtembondddgfpcaaBvp3
import Derived.Test.YtembondddgfpcaaBvp4
import Derived.Test.YtembondddgfpcaaBvp5
import Derived.Test.YtembondddgfpcaaBvp6
import Derived.Test.YtembondddgfpcaaBvp7
import Derived.Test.YtembondddgfpcaaBvp8
import Derived.Test.YtembondddgfpcaaBvp9
import Derived.Test.YtembondddgfpcaaBvp10
import Derived.Test.YtembondddgfpcaaBvp11
import Derived.Test.YtembondddgfpcaaBvp12
import Derived.Test.YtembondddgfpcaaBvp13
import Derived.Test.YtembondddgfpcaaBvp14
import Derived.Test.YtembondddgfpcaaBvp15
import Derived.Test.YtembondddgfpcaaBvp16
import Derived.Test.YtembondddgfpcaaBvp17
import Derived.Test.YtembondddgfpcaaBvc1
set_option linter.unusedVariables false
namespace Go.Proofs.Ytembondddgfpcaa
open Go.RowKit Go.Maps
attribute [local go_sem] errV_0 errV_1 errV_3 errV_7 errV_12
attribute [local go_sem] World.cell?_alloc_some

/-- An answer, with what lay still lying. -/
def Ans (E : Ending) (w : World) : Ending → World → Prop := fun e w' => e = E ∧ Below w.heap.size w w'
theorem ready_none (v : Value) (w : World) : Calls Try.prog 49 #[.pointer none, v] w (Ans (.returned (errV 3)) w) := by
  go_enter Try.func49, Try.ntmps49
  go_wp2
  go_ret
  exact ⟨rfl, Below.refl _ _⟩
theorem find_none (v : Value) (w : World) : Calls Try.prog 47 #[.pointer none, v] w (Ans (.returned (.tuple #[.int .i64 0, errV 3])) w) := by
  have C := Lib.hid (ready_none v w)
  go_enter Try.func47, Try.ntmps47
  go_wp2_with fail
  refine C.out.mono ?_
  rintro e w' ⟨rfl, hb2⟩
  go_wp2_with fail
  go_ret2
  exact ⟨rfl, hb2⟩
theorem nil_create (z : ByteArray) (w : World) : Calls Try.prog 15 #[.pointer none, .string z] w (Ans (.returned (errV 3)) w) := by
  go_enter Try.func15, Try.ntmps15
  go_wp2_with fail
  refine (ready_none _ _).mono ?_
  rintro e w' ⟨rfl, hb2⟩
  have hb3 := ((Below.refl w.heap.size w).alloc (Nat.le_refl _) _).trans (hb2.mono (by simp))
  go_wp2_with fail
  go_ret
  exact ⟨rfl, hb3⟩
theorem nil_write (z t : ByteArray) (w : World) : Calls Try.prog 16 #[.pointer none, .string z, .string t] w (Ans (.returned (errV 3)) w) := by
  go_enter Try.func16, Try.ntmps16
  go_wp2_with fail
  refine (find_none _ _).mono ?_
  rintro e w' ⟨rfl, hb2⟩
  have hb3 := ((Below.refl w.heap.size w).alloc (Nat.le_refl _) _).trans (hb2.mono (by simp))
  go_wp2_with fail
  go_ret
  exact ⟨rfl, hb3⟩
theorem nil_cut (z : ByteArray) (n : Int) (w : World) : Calls Try.prog 17 #[.pointer none, .string z, .int .i64 n] w (Ans (.returned (errV 3)) w) := by
  go_enter Try.func17, Try.ntmps17
  go_wp2_with fail
  refine (find_none _ _).mono ?_
  rintro e w' ⟨rfl, hb2⟩
  have hb3 := ((Below.refl w.heap.size w).alloc (Nat.le_refl _) _).trans (hb2.mono (by simp))
  go_wp2_with fail
  go_ret
  exact ⟨rfl, hb3⟩
theorem nil_sync (z : ByteArray) (w : World) : Calls Try.prog 18 #[.pointer none, .string z] w (Ans (.returned (errV 3)) w) := by
  go_enter Try.func18, Try.ntmps18
  go_wp2_with fail
  refine (find_none _ _).mono ?_
  rintro e w' ⟨rfl, hb2⟩
  have hb3 := ((Below.refl w.heap.size w).alloc (Nat.le_refl _) _).trans (hb2.mono (by simp))
  go_wp2_with fail
  go_ret
  exact ⟨rfl, hb3⟩
theorem nil_rename (z t : ByteArray) (w : World) : Calls Try.prog 19 #[.pointer none, .string z, .string t] w (Ans (.returned (errV 3)) w) := by
  go_enter Try.func19, Try.ntmps19
  go_wp2_with fail
  refine (find_none _ _).mono ?_
  rintro e w' ⟨rfl, hb2⟩
  have hb3 := ((Below.refl w.heap.size w).alloc (Nat.le_refl _) _).trans (hb2.mono (by simp))
  go_wp2_with fail
  go_ret
  exact ⟨rfl, hb3⟩
theorem nil_remove (z : ByteArray) (w : World) : Calls Try.prog 20 #[.pointer none, .string z] w (Ans (.returned (errV 3)) w) := by
  go_enter Try.func20, Try.ntmps20
  go_wp2_with fail
  refine (find_none _ _).mono ?_
  rintro e w' ⟨rfl, hb2⟩
  have hb3 := ((Below.refl w.heap.size w).alloc (Nat.le_refl _) _).trans (hb2.mono (by simp))
  go_wp2_with fail
  go_ret
  exact ⟨rfl, hb3⟩
theorem nil_syncdir (w : World) : Calls Try.prog 21 #[.pointer none] w (Ans (.returned (errV 3)) w) := by
  go_enter Try.func21, Try.ntmps21
  go_wp2_with fail
  refine (ready_none _ _).mono ?_
  rintro e w' ⟨rfl, hb2⟩
  go_wp2_with fail
  go_ret
  exact ⟨rfl, hb2⟩
theorem nil_down (w : World) : Calls Try.prog 26 #[.pointer none] w (Ans (.returned (.bool true)) w) := by
  go_enter Try.func26, Try.ntmps26
  go_wp2
  go_ret
  exact ⟨rfl, Below.refl _ _⟩
theorem nil_read (z : ByteArray) (w : World) : Calls Try.prog 13 #[.pointer none, .string z] w (Ans (.returned (.tuple #[.string ⟨#[]⟩, errV 3])) w) := by
  have C := Lib.hid (nil_down w)
  go_enter Try.func13, Try.ntmps13
  go_wp2_with fail
  refine C.out.mono ?_
  rintro e w' ⟨rfl, hb2⟩
  go_wp2_with fail
  go_ret2
  exact ⟨rfl, hb2⟩
theorem nil_sure (z : ByteArray) (w : World) : Calls Try.prog 14 #[.pointer none, .string z] w (Ans (.returned (.tuple #[.string ⟨#[]⟩, .bool false])) w) := by
  go_enter Try.func14, Try.ntmps14
  go_wp2
  go_ret2
  exact ⟨rfl, Below.refl _ _⟩
theorem nil_names (w : World) : Calls Try.prog 23 #[.pointer none] w (Ans (.returned (.slice none 0 0)) w) := by
  go_enter Try.func23, Try.ntmps23
  go_wp2
  go_ret
  exact ⟨rfl, Below.refl _ _⟩
theorem nil_free (w : World) : Calls Try.prog 24 #[.pointer none] w (Ans (.returned (.int .i64 0)) w) := by
  go_enter Try.func24, Try.ntmps24
  go_wp2
  go_ret
  exact ⟨rfl, Below.refl _ _⟩
theorem nil_units (w : World) : Calls Try.prog 25 #[.pointer none] w (Ans (.returned (.int .i64 0)) w) := by
  go_enter Try.func25, Try.ntmps25
  go_wp2
  go_ret
  exact ⟨rfl, Below.refl _ _⟩
theorem nil_arm (n : Int) (w : World) : Calls Try.prog 22 #[.pointer none, .int .i64 n] w (Ans (.returned (errV 3)) w) := by
  go_enter Try.func22, Try.ntmps22
  go_wp2
  go_ret
  exact ⟨rfl, Below.refl _ _⟩
theorem nil_acts (w : World) : Calls Try.prog 27 #[.pointer none] w (Ans (.returned (.slice none 0 0)) w) := by
  go_enter Try.func27, Try.ntmps27
  go_wp2
  go_ret
  exact ⟨rfl, Below.refl _ _⟩
theorem nil_copy (w : World) : Calls Try.prog 11 #[.pointer none] w (Ans (.returned (.pointer none)) w) := by
  go_enter Try.func11, Try.ntmps11
  go_wp2
  go_ret
  exact ⟨rfl, Below.refl _ _⟩
theorem nil_crash (n : Int) (ao : Option Addr) (k c : Nat) (w : World) : Calls Try.prog 12 #[.pointer none, .int .i64 n, .slice ao k c] w (Ans (.returned (.tuple #[])) w) := by
  go_enter Try.func12, Try.ntmps12
  go_wp2
  exact bodyPost_ret (v := .tuple #[]) (by simp [results, Try.results12, go_sem]) rfl ⟨rfl, Below.refl _ _⟩
end Go.Proofs.Ytembondddgfpcaa

namespace Go.Proofs.Ytembondddgfpcaa
namespace Vm
open Go.RowKit Go.Shelf Go.Maps
attribute [local go_sem] Oper.semAt_some
def nine : Array Value := #[errV 3, errV 3, errV 3, errV 3, errV 3, errV 3, errV 3, errV 3, errV 3]
section
variable {o : Oper} {a : Act} {w : World} {K : Act → World → Prop} {Q : Exit → Act → World → Prop}
theorem mo_assign {x : Operand} {v : Value} (ho : o.op = Op.assign x) (hx : a.eval x = v) (hK : K (a.put o.dst v) w) : Oper.wp Try.prog o a w K Q :=
  mo_run (by simp only [execOp, ho, hx]; simp [go_sem]) hK
section
variable {T : Value → World → Prop}
theorem mo_call3 {x y z : Operand} {u v2 v3 : Value} (F : Nat) {T1 T2 T3 : TypeId} (ho : o.op = Op.call { callee := Callee.value (Operand.func F), args := #[x, y, z], argTypes := #[T1, T2, T3] }) (hx : a.eval x = u) (hy : a.eval y = v2) (hz : a.eval z = v3)
    (en : ∀ args w, (callFunc F args).run Try.prog w = .ok (.enter F args) w) (hC : Calls Try.prog F #[u, v2, v3] w fun e w' => ∃ v, e = .returned v ∧ T v w') (hK : ∀ v w', T v w' → K (a.put o.dst v) w') : Oper.wp Try.prog o a w K Q := by
  unfold Oper.wp
  have e : (execOp a.eval o).run Try.prog w = .ok (.enter F #[u, v2, v3]) w := by
    have hf : a.eval (.func F) = .func (.func F) #[] #[] := rfl
    generalize a.eval = ρ at hx hy hz hf ⊢
    simp only [execOp, ho]
    simp [go_sem, resolve, invoke, hx, hy, hz, hf, en]
  rw [e]
  refine hC.mono ?_
  rintro e w' ⟨v, rfl, h⟩
  exact hK v w' h
end
theorem mo_runW {v : Value} {w' : World} (e : (execOp a.eval o).run Try.prog w = .ok (.value v) w') (hK : K (a.put o.dst v) w') : Oper.wp Try.prog o a w K Q := by
  unfold Oper.wp
  simp [e]
  exact hK
theorem mo_nine {x0 x1 x2 x3 x4 x5 x6 x7 x8 : Operand} (ho : o.op = Op.buildSlice 56 9 #[(0, x0), (1, x1), (2, x2), (3, x3), (4, x4), (5, x5), (6, x6), (7, x7), (8, x8)]) (h0 : a.eval x0 = errV 3) (h1 : a.eval x1 = errV 3) (h2 : a.eval x2 = errV 3) (h3 : a.eval x3 = errV 3) (h4 : a.eval x4 = errV 3) (h5 : a.eval x5 = errV 3) (h6 : a.eval x6 = errV 3) (h7 : a.eval x7 = errV 3) (h8 : a.eval x8 = errV 3)
    (hK : K (a.put o.dst (.slice (some ⟨w.heap.size, 0, none⟩) 9 9)) (w.alloc (.cells nine 27))) : Oper.wp Try.prog o a w K Q := by
  refine mo_runW ?_ hK
  simp only [execOp, ho]
  rw [show (Array.map (fun (p : Nat × Operand) => match p with | (i, x) => (i, a.eval x)) #[((0 : Nat), x0), (1, x1), (2, x2), (3, x3), (4, x4), (5, x5), (6, x6), (7, x7), (8, x8)]) = #[((0 : Nat), errV 3), (1, errV 3), (2, errV 3), (3, errV 3), (4, errV 3), (5, errV 3), (6, errV 3), (7, errV 3), (8, errV 3)] from by simp [h0, h1, h2, h3, h4, h5, h6, h7, h8]]
  kernel_rfl
theorem mo_lenE {x : Operand} {f : Option Addr} {n c : Nat} (ho : o.op = Op.call { callee := Callee.builtin Builtin.len, args := #[x], argTypes := #[56] }) (hx : a.eval x = .slice f n c) (hK : K (a.put o.dst (.int .i64 n)) w) : Oper.wp Try.prog o a w K Q :=
  mo_run (by
    generalize a.eval = ρ at hx ⊢
    simp only [execOp, ho]
    simp [go_sem, resolve, invoke, hx]) hK
theorem mo_alloc (ho : o.op = Op.alloc 37) (hK : K (a.put o.dst (.pointer (some ⟨w.heap.size, 0, none⟩))) (w.alloc (.cells rows9 37))) : Oper.wp Try.prog o a w K Q :=
  mo_runW (by simp only [execOp, ho]; kernel_rfl) hK
end
def ops_cop14 : List Oper := [
  { dst := some 57, op := Op.move (Operand.tmp 7), type := 25, pos := "law.go:262", after := #[], guard := none },
  { dst := some 58, op := Op.call { callee := Callee.value (Operand.func 11), args := #[Operand.tmp 57], argTypes := #[25] }, type := 25, pos := "law.go:262", after := #[{ on := 0, ground := Ground.data }], guard := none },
  { dst := some 59, op := Op.load 37 (Operand.tmp 9), type := 37, pos := "law.go:262", after := #[{ on := 4, ground := Ground.gcOnly Departure.lateStores }], guard := none },
  { dst := some 13, op := Op.alloc 37, type := 0, pos := "law.go:262", after := #[], guard := none },
  { dst := some 12, op := Op.assign (Operand.tmp 58), type := 25, pos := "law.go:262", after := #[{ on := 1, ground := Ground.data }, { on := 1, ground := Ground.chain }, { on := 0, ground := Ground.phase }, { on := 1, ground := Ground.phase }, { on := 2, ground := Ground.textOnly Departure.lateStores }, { on := 3, ground := Ground.phase }], guard := none },
  { dst := none, op := Op.store 37 (Operand.tmp 13) (Operand.tmp 59), type := 0, pos := "law.go:262", after := #[{ on := 3, ground := Ground.data }, { on := 2, ground := Ground.data }, { on := 4, ground := Ground.chain }, { on := 0, ground := Ground.phase }, { on := 1, ground := Ground.phase }, { on := 2, ground := Ground.phase }, { on := 3, ground := Ground.phase }, { on := 4, ground := Ground.phase }], guard := none }]
def dst_cop14 (i : Nat) : Option Nat := (ops_cop14[i]?).bind (·.dst)
theorem inj_cop14 : ∀ i, i < 5 → ∀ k, k < 5 → dst_cop14 i ≠ none → dst_cop14 i = dst_cop14 k → i = k := by decide +kernel
theorem lt_cop14 : ∀ i, i < 5 → (dst_cop14 i).getD 0 < 184 := by decide +kernel
theorem low_cop14 : ∀ i : Fin 6, ∀ e ∈ (ops_cop14[i.1]'(by exact i.2)).after, Region.binds .any e = true → e.on < i.1 := by decide +kernel
def pv_cop14 (p rb lo : Nat) (r : Value) (PD : Value → World → Prop) : List (Value → World → Prop) := [
  fun v w => v = .pointer (some ⟨p, 0, none⟩),
  fun v w => PD v w,
  fun v w => v = r,
  fun v w => ∃ b, v = .pointer (some ⟨b, 0, none⟩) ∧ lo ≤ b ∧ Cells w b 37 rows9,
  fun v w => PD v w]
set_option maxRecDepth 100000 in
set_option maxHeartbeats 4000000 in
theorem region_cop14 (a0 : Act) (w0 : World) (p rb lo : Nat) (r : Value) (PD : Value → World → Prop) (Q : Exit → Act → World → Prop)
    (hsz : a0.tmps.size = 184) (h7 : a0.tmps[7]? = some (.pointer (some ⟨p, 0, none⟩))) (h9 : a0.tmps[9]? = some (.pointer (some ⟨rb, 0, none⟩)))
    (hLD : ∀ W, Below w0.heap.size w0 W → (Instr.loadAt 37 (.pointer (some ⟨rb, 0, none⟩))).run Try.prog W = .ok r W) (hlo : lo ≤ w0.heap.size) (hPM : ∀ v x y, Below x.heap.size x y → PD v x → PD v y)
    (hC1 : ∀ (W : World) (_ : Below w0.heap.size w0 W), Calls Try.prog 11 #[.pointer (some ⟨p, 0, none⟩)] W fun e w => ∃ v, e = .returned v ∧ (PD v w) ∧ Below W.heap.size W w)
    (hQ : ∀ (y0 y1 y2 y3 y4 : Value) (w : World), Below w0.heap.size w0 w → ((fun (v : Value) (w : World) => v = r) y2 w) → ((fun (v : Value) (w : World) => ∃ b, v = .pointer (some ⟨b, 0, none⟩) ∧ lo ≤ b ∧ Cells w b 37 rows9) y3 w) → ((fun (v : Value) (w : World) => PD v w) y4 w) → wpList Try.prog ops_cop14.toArray Q [{ dst := none, op := Op.store 37 (Operand.tmp 13) (Operand.tmp 59), type := 0, pos := "law.go:262", after := #[{ on := 3, ground := Ground.data }, { on := 2, ground := Ground.data }, { on := 4, ground := Ground.chain }, { on := 0, ground := Ground.phase }, { on := 1, ground := Ground.phase }, { on := 2, ground := Ground.phase }, { on := 3, ground := Ground.phase }, { on := 4, ground := Ground.phase }], guard := none }] { a0 with tmps := [(57, y0), (58, y1), (59, y2), (13, y3), (12, y4)].foldl (fun u p => u.setIfInBounds p.1 p.2) a0.tmps } w) :
    wpAny Try.prog .any ops_cop14.toArray Q ops_cop14.toArray.size (Array.replicate ops_cop14.toArray.size false) a0 w0 := by
  have M : AllM (pv_cop14 p rb lo r PD) := ⟨fun v x y hb h => h, fun v x y hb h => hPM v x y hb h, fun v x y hb h => h, fun v x y hb h => by obtain ⟨b, e, h1, h2⟩ := h; exact ⟨b, e, h1, h2.below hb h2.lt⟩, fun v x y hb h => hPM v x y hb h, trivial⟩
  refine wpAny_mono_tail 5 1 (by kernel_rfl) (by decide) a0 w0 dst_cop14 (pv_cop14 p rb lo r PD) M (by kernel_rfl) (by kernel_rfl) (by kernel_rfl)
    (fun i o _ ho => by unfold dst_cop14; rw [ho]; rfl)
    (fun i k d hi hk h1 h2 => inj_cop14 i hi k hk (by rw [h1]; intro q; cases q) (by rw [h1, h2]))
    (fun i d hi h => by have := lt_cop14 i hi; rw [h] at this; rw [hsz]; exact this)
    (fun i o e ho he hb => by
      obtain ⟨hi, rfl⟩ := List.getElem?_eq_some_iff.1 ho
      exact low_cop14 ⟨i, hi⟩ e he hb)
    ?step ?fin
  case fin =>
    intro a w hd hs hf hv hR
    obtain ⟨y0, hy0, pv0⟩ := hv 0 57 (by decide) rfl
    obtain ⟨y1, hy1, pv1⟩ := hv 1 58 (by decide) rfl
    obtain ⟨y2, hy2, pv2⟩ := hv 2 59 (by decide) rfl
    obtain ⟨y3, hy3, pv3⟩ := hv 3 13 (by decide) rfl
    obtain ⟨y4, hy4, pv4⟩ := hv 4 12 (by decide) rfl
    rw [act_set' (a := a) (a0 := a0) [(57, y0), (58, y1), (59, y2), (13, y3), (12, y4)] hd hs (by
      intro p hp
      simp only [List.mem_cons, List.not_mem_nil, or_false] at hp
      rcases hp with rfl | rfl | rfl | rfl | rfl
      · exact hy0
      · exact hy1
      · exact hy2
      · exact hy3
      · exact hy4
      ) (fun j hj => hf j (fun k hk q => hj (by
        have : ∀ k, k < 5 → (dst_cop14 k).all (fun d => [57, 58, 59, 13, 12].contains d) = true := by decide +kernel
        have h1 := this k hk
        rw [q] at h1
        simpa using h1)))]
    exact hQ y0 y1 y2 y3 y4 w hR pv2 pv3 pv4
  case step =>
    intro i o a w hi ho hs hf dep hR
    have e7 := evT ((hf 7 (by decide +kernel)).trans h7)
    have e9 := evT ((hf 9 (by decide +kernel)).trans h9)
    rcases (by omega : i = 0 ∨ i = 1 ∨ i = 2 ∨ i = 3 ∨ i = 4) with rfl | rfl | rfl | rfl | rfl
    · have ho2 : some _ = some o := ho
      obtain rfl := Option.some.inj ho2
      exact .inl ⟨wantN rfl, fun K hK => mo_move rfl e7 (hK _ _ (Below.refl _ _) rfl)⟩
    · have ho2 : some _ = some o := ho
      obtain rfl := Option.some.inj ho2
      obtain ⟨_, hv0, rfl⟩ : ∃ v, a.tmps[57]? = some v ∧ (fun (v : Value) (w : World) => v = .pointer (some ⟨p, 0, none⟩)) v w := dep ⟨0, Ground.data⟩ (by first | simp | simp [ops_cop14]) rfl 57 rfl
      exact .inl ⟨wantN rfl, fun K hK => mo_call1 11 rfl (evT hv0) (enters_of (P := Try.prog) Try.func11 (by kernel_rfl) rfl) (hC1 w hR) (fun v w' h => hK v w' h.2 h.1)⟩
    · have ho2 : some _ = some o := ho
      obtain rfl := Option.some.inj ho2
      exact .inl ⟨wantN rfl, fun K hK => mo_load (hLD w hR) rfl e9 (hK _ _ (Below.refl _ _) rfl)⟩
    · have ho2 : some _ = some o := ho
      obtain rfl := Option.some.inj ho2
      exact .inl ⟨wantN rfl, fun K hK => mo_alloc rfl (hK _ _ ((Below.refl _ _).alloc (Nat.le_refl _) _) ⟨w.heap.size, rfl, Nat.le_trans hlo hR.size, Cells.new _ _ _⟩)⟩
    · have ho2 : some _ = some o := ho
      obtain rfl := Option.some.inj ho2
      obtain ⟨z1, hv1, pv1⟩ : ∃ v, a.tmps[58]? = some v ∧ (fun (v : Value) (w : World) => PD v w) v w := dep ⟨1, Ground.data⟩ (by first | simp | simp [ops_cop14]) rfl 58 rfl
      exact .inl ⟨wantN rfl, fun K hK => mo_assign rfl (evT hv1) (hK _ _ (Below.refl _ _) pv1)⟩
def ops_ans24 : Array Oper := #[
  { dst := some 94, op := Op.move (Operand.tmp 18), type := 27, pos := "law.go:270", after := #[], guard := none },
  { dst := some 95, op := Op.move (Operand.tmp 16), type := 25, pos := "law.go:270", after := #[], guard := none },
  { dst := some 96, op := Op.fieldAddr 40 (Operand.tmp 5) 2, type := 0, pos := "law.go:270", after := #[], guard := none },
  { dst := some 97, op := Op.load 9 (Operand.tmp 96), type := 9, pos := "law.go:270", after := #[{ on := 2, ground := Ground.data }], guard := none },
  { dst := some 98, op := Op.call { callee := Callee.value (Operand.func 15), args := #[Operand.tmp 95, Operand.tmp 97], argTypes := #[25, 9] }, type := 27, pos := "law.go:270", after := #[{ on := 1, ground := Ground.data }, { on := 3, ground := Ground.data }], guard := none },
  { dst := some 99, op := Op.move (Operand.tmp 16), type := 25, pos := "law.go:270", after := #[], guard := none },
  { dst := some 100, op := Op.fieldAddr 40 (Operand.tmp 5) 2, type := 0, pos := "law.go:270", after := #[], guard := none },
  { dst := some 101, op := Op.load 9 (Operand.tmp 100), type := 9, pos := "law.go:270", after := #[{ on := 6, ground := Ground.data }], guard := none },
  { dst := some 102, op := Op.fieldAddr 40 (Operand.tmp 5) 3, type := 0, pos := "law.go:270", after := #[], guard := none },
  { dst := some 103, op := Op.load 9 (Operand.tmp 102), type := 9, pos := "law.go:270", after := #[{ on := 8, ground := Ground.data }], guard := none },
  { dst := some 104, op := Op.call { callee := Callee.value (Operand.func 16), args := #[Operand.tmp 99, Operand.tmp 101, Operand.tmp 103], argTypes := #[25, 9, 9] }, type := 27, pos := "law.go:270", after := #[{ on := 5, ground := Ground.data }, { on := 7, ground := Ground.data }, { on := 9, ground := Ground.data }, { on := 4, ground := Ground.chain }], guard := none },
  { dst := some 105, op := Op.move (Operand.tmp 16), type := 25, pos := "law.go:270", after := #[], guard := none },
  { dst := some 106, op := Op.fieldAddr 40 (Operand.tmp 5) 2, type := 0, pos := "law.go:270", after := #[], guard := none },
  { dst := some 107, op := Op.load 9 (Operand.tmp 106), type := 9, pos := "law.go:270", after := #[{ on := 12, ground := Ground.data }], guard := none },
  { dst := some 108, op := Op.fieldAddr 40 (Operand.tmp 5) 1, type := 0, pos := "law.go:270", after := #[], guard := none },
  { dst := some 109, op := Op.load 3 (Operand.tmp 108), type := 3, pos := "law.go:270", after := #[{ on := 14, ground := Ground.data }], guard := none },
  { dst := some 110, op := Op.call { callee := Callee.value (Operand.func 17), args := #[Operand.tmp 105, Operand.tmp 107, Operand.tmp 109], argTypes := #[25, 9, 3] }, type := 27, pos := "law.go:270", after := #[{ on := 11, ground := Ground.data }, { on := 13, ground := Ground.data }, { on := 15, ground := Ground.data }, { on := 10, ground := Ground.chain }], guard := none },
  { dst := some 111, op := Op.move (Operand.tmp 16), type := 25, pos := "law.go:270", after := #[], guard := none },
  { dst := some 112, op := Op.fieldAddr 40 (Operand.tmp 5) 2, type := 0, pos := "law.go:270", after := #[], guard := none },
  { dst := some 113, op := Op.load 9 (Operand.tmp 112), type := 9, pos := "law.go:270", after := #[{ on := 18, ground := Ground.data }], guard := none },
  { dst := some 114, op := Op.call { callee := Callee.value (Operand.func 18), args := #[Operand.tmp 111, Operand.tmp 113], argTypes := #[25, 9] }, type := 27, pos := "law.go:270", after := #[{ on := 17, ground := Ground.data }, { on := 19, ground := Ground.data }, { on := 16, ground := Ground.chain }], guard := none },
  { dst := some 115, op := Op.move (Operand.tmp 16), type := 25, pos := "law.go:270", after := #[], guard := none },
  { dst := some 116, op := Op.fieldAddr 40 (Operand.tmp 5) 2, type := 0, pos := "law.go:270", after := #[], guard := none },
  { dst := some 117, op := Op.load 9 (Operand.tmp 116), type := 9, pos := "law.go:270", after := #[{ on := 22, ground := Ground.data }], guard := none },
  { dst := some 118, op := Op.fieldAddr 40 (Operand.tmp 5) 3, type := 0, pos := "law.go:270", after := #[], guard := none },
  { dst := some 119, op := Op.load 9 (Operand.tmp 118), type := 9, pos := "law.go:270", after := #[{ on := 24, ground := Ground.data }], guard := none },
  { dst := some 120, op := Op.call { callee := Callee.value (Operand.func 19), args := #[Operand.tmp 115, Operand.tmp 117, Operand.tmp 119], argTypes := #[25, 9, 9] }, type := 27, pos := "law.go:270", after := #[{ on := 21, ground := Ground.data }, { on := 23, ground := Ground.data }, { on := 25, ground := Ground.data }, { on := 20, ground := Ground.chain }], guard := none },
  { dst := some 121, op := Op.move (Operand.tmp 16), type := 25, pos := "law.go:270", after := #[], guard := none },
  { dst := some 122, op := Op.fieldAddr 40 (Operand.tmp 5) 2, type := 0, pos := "law.go:270", after := #[], guard := none },
  { dst := some 123, op := Op.load 9 (Operand.tmp 122), type := 9, pos := "law.go:270", after := #[{ on := 28, ground := Ground.data }], guard := none },
  { dst := some 124, op := Op.call { callee := Callee.value (Operand.func 20), args := #[Operand.tmp 121, Operand.tmp 123], argTypes := #[25, 9] }, type := 27, pos := "law.go:270", after := #[{ on := 27, ground := Ground.data }, { on := 29, ground := Ground.data }, { on := 26, ground := Ground.chain }], guard := none },
  { dst := some 125, op := Op.move (Operand.tmp 16), type := 25, pos := "law.go:270", after := #[], guard := none },
  { dst := some 126, op := Op.call { callee := Callee.value (Operand.func 21), args := #[Operand.tmp 125], argTypes := #[25] }, type := 27, pos := "law.go:270", after := #[{ on := 31, ground := Ground.data }, { on := 30, ground := Ground.chain }], guard := none },
  { dst := some 127, op := Op.move (Operand.tmp 16), type := 25, pos := "law.go:270", after := #[], guard := none },
  { dst := some 128, op := Op.fieldAddr 40 (Operand.tmp 5) 1, type := 0, pos := "law.go:270", after := #[], guard := none },
  { dst := some 129, op := Op.load 3 (Operand.tmp 128), type := 3, pos := "law.go:270", after := #[{ on := 34, ground := Ground.data }], guard := none },
  { dst := some 130, op := Op.call { callee := Callee.value (Operand.func 22), args := #[Operand.tmp 127, Operand.tmp 129], argTypes := #[25, 3] }, type := 27, pos := "law.go:270", after := #[{ on := 33, ground := Ground.data }, { on := 35, ground := Ground.data }, { on := 32, ground := Ground.chain }], guard := none },
  { dst := some 131, op := Op.buildSlice 56 9 #[(0, Operand.tmp 94), (1, Operand.tmp 98), (2, Operand.tmp 104), (3, Operand.tmp 110), (4, Operand.tmp 114), (5, Operand.tmp 120), (6, Operand.tmp 124), (7, Operand.tmp 126), (8, Operand.tmp 130)], type := 56, pos := "law.go:270", after := #[{ on := 0, ground := Ground.data }, { on := 4, ground := Ground.data }, { on := 10, ground := Ground.data }, { on := 16, ground := Ground.data }, { on := 20, ground := Ground.data }, { on := 26, ground := Ground.data }, { on := 30, ground := Ground.data }, { on := 32, ground := Ground.data }, { on := 36, ground := Ground.data }], guard := none },
  { dst := some 132, op := Op.call { callee := Callee.builtin Builtin.len, args := #[Operand.tmp 131], argTypes := #[56] }, type := 3, pos := "law.go:270", after := #[{ on := 37, ground := Ground.data }], guard := none },
  { dst := some 133, op := Op.move (Operand.const (Value.int IntKind.i64 0)), type := 3, pos := "law.go:270", after := #[], guard := none }]
def dst_ans24 (i : Nat) : Option Nat := (ops_ans24[i]?).bind (·.dst)
theorem inj_ans24 : ∀ i, i < 40 → ∀ k, k < 40 → dst_ans24 i ≠ none → dst_ans24 i = dst_ans24 k → i = k := by decide +kernel
theorem lt_ans24 : ∀ i, i < 40 → (dst_ans24 i).getD 0 < 184 := by decide +kernel
theorem low_ans24 : ∀ i : Fin 40, ∀ e ∈ (ops_ans24[i.1]'(by exact i.2)).after, Region.binds .any e = true → e.on < i.1 := by decide +kernel
def pv_ans24 (ob : Nat) (n : Int) (z x : ByteArray) : List (Value → World → Prop) := [
  fun v w => v = errV 3,
  fun v w => v = .pointer none,
  fun v w => v = .pointer (some ⟨ob, 2, none⟩),
  fun v w => v = .string z,
  fun v w => v = errV 3,
  fun v w => v = .pointer none,
  fun v w => v = .pointer (some ⟨ob, 2, none⟩),
  fun v w => v = .string z,
  fun v w => v = .pointer (some ⟨ob, 3, none⟩),
  fun v w => v = .string x,
  fun v w => v = errV 3,
  fun v w => v = .pointer none,
  fun v w => v = .pointer (some ⟨ob, 2, none⟩),
  fun v w => v = .string z,
  fun v w => v = .pointer (some ⟨ob, 1, none⟩),
  fun v w => v = .int .i64 n,
  fun v w => v = errV 3,
  fun v w => v = .pointer none,
  fun v w => v = .pointer (some ⟨ob, 2, none⟩),
  fun v w => v = .string z,
  fun v w => v = errV 3,
  fun v w => v = .pointer none,
  fun v w => v = .pointer (some ⟨ob, 2, none⟩),
  fun v w => v = .string z,
  fun v w => v = .pointer (some ⟨ob, 3, none⟩),
  fun v w => v = .string x,
  fun v w => v = errV 3,
  fun v w => v = .pointer none,
  fun v w => v = .pointer (some ⟨ob, 2, none⟩),
  fun v w => v = .string z,
  fun v w => v = errV 3,
  fun v w => v = .pointer none,
  fun v w => v = errV 3,
  fun v w => v = .pointer none,
  fun v w => v = .pointer (some ⟨ob, 1, none⟩),
  fun v w => v = .int .i64 n,
  fun v w => v = errV 3,
  fun v w => ∃ b, v = .slice (some ⟨b, 0, none⟩) 9 9 ∧ Cells w b 27 nine,
  fun v w => v = .int .i64 9,
  fun v w => v = .int .i64 0]
set_option maxRecDepth 100000 in
set_option maxHeartbeats 4000000 in
theorem region_ans24 (a0 : Act) (w0 : World) (ob : Nat) (n : Int) (z x : ByteArray) (Q : Exit → Act → World → Prop)
    (hsz : a0.tmps.size = 184) (h5 : a0.tmps[5]? = some (.pointer (some ⟨ob, 0, none⟩))) (h16 : a0.tmps[16]? = some (.pointer none)) (h18 : a0.tmps[18]? = some (errV 3))
    (hE : ∀ W, Below w0.heap.size w0 W → W.cell? ⟨ob, 1, none⟩ = some (.int .i64 n) ∧ W.cell? ⟨ob, 2, none⟩ = some (.string z) ∧ W.cell? ⟨ob, 3, none⟩ = some (.string x))
    (hC4 : ∀ (W : World) (_ : Below w0.heap.size w0 W), Calls Try.prog 15 #[.pointer none, .string z] W fun e w => ∃ v, e = .returned v ∧ (v = errV 3) ∧ Below W.heap.size W w)
    (hC10 : ∀ (W : World) (_ : Below w0.heap.size w0 W), Calls Try.prog 16 #[.pointer none, .string z, .string x] W fun e w => ∃ v, e = .returned v ∧ (v = errV 3) ∧ Below W.heap.size W w)
    (hC16 : ∀ (W : World) (_ : Below w0.heap.size w0 W), Calls Try.prog 17 #[.pointer none, .string z, .int .i64 n] W fun e w => ∃ v, e = .returned v ∧ (v = errV 3) ∧ Below W.heap.size W w)
    (hC20 : ∀ (W : World) (_ : Below w0.heap.size w0 W), Calls Try.prog 18 #[.pointer none, .string z] W fun e w => ∃ v, e = .returned v ∧ (v = errV 3) ∧ Below W.heap.size W w)
    (hC26 : ∀ (W : World) (_ : Below w0.heap.size w0 W), Calls Try.prog 19 #[.pointer none, .string z, .string x] W fun e w => ∃ v, e = .returned v ∧ (v = errV 3) ∧ Below W.heap.size W w)
    (hC30 : ∀ (W : World) (_ : Below w0.heap.size w0 W), Calls Try.prog 20 #[.pointer none, .string z] W fun e w => ∃ v, e = .returned v ∧ (v = errV 3) ∧ Below W.heap.size W w)
    (hC32 : ∀ (W : World) (_ : Below w0.heap.size w0 W), Calls Try.prog 21 #[.pointer none] W fun e w => ∃ v, e = .returned v ∧ (v = errV 3) ∧ Below W.heap.size W w)
    (hC36 : ∀ (W : World) (_ : Below w0.heap.size w0 W), Calls Try.prog 22 #[.pointer none, .int .i64 n] W fun e w => ∃ v, e = .returned v ∧ (v = errV 3) ∧ Below W.heap.size W w)
    (hQ : ∀ (y0 y1 y2 y3 y4 y5 y6 y7 y8 y9 y10 y11 y12 y13 y14 y15 y16 y17 y18 y19 y20 y21 y22 y23 y24 y25 y26 y27 y28 y29 y30 y31 y32 y33 y34 y35 y36 y37 y38 y39 : Value) (w : World), Below w0.heap.size w0 w → ((fun (v : Value) (w : World) => ∃ b, v = .slice (some ⟨b, 0, none⟩) 9 9 ∧ Cells w b 27 nine) y37 w) → ((fun (v : Value) (w : World) => v = .int .i64 9) y38 w) → ((fun (v : Value) (w : World) => v = .int .i64 0) y39 w) → Q .normal { a0 with tmps := [(94, y0), (95, y1), (96, y2), (97, y3), (98, y4), (99, y5), (100, y6), (101, y7), (102, y8), (103, y9), (104, y10), (105, y11), (106, y12), (107, y13), (108, y14), (109, y15), (110, y16), (111, y17), (112, y18), (113, y19), (114, y20), (115, y21), (116, y22), (117, y23), (118, y24), (119, y25), (120, y26), (121, y27), (122, y28), (123, y29), (124, y30), (125, y31), (126, y32), (127, y33), (128, y34), (129, y35), (130, y36), (131, y37), (132, y38), (133, y39)].foldl (fun u p => u.setIfInBounds p.1 p.2) a0.tmps } w) :
    wpAny Try.prog .any ops_ans24 Q ops_ans24.size (Array.replicate ops_ans24.size false) a0 w0 := by
  have M : AllM (pv_ans24 ob n z x) := ⟨fun v x y hb h => h, fun v x y hb h => h, fun v x y hb h => h, fun v x y hb h => h, fun v x y hb h => h, fun v x y hb h => h, fun v x y hb h => h, fun v x y hb h => h, fun v x y hb h => h, fun v x y hb h => h, fun v x y hb h => h, fun v x y hb h => h, fun v x y hb h => h, fun v x y hb h => h, fun v x y hb h => h, fun v x y hb h => h, fun v x y hb h => h, fun v x y hb h => h, fun v x y hb h => h, fun v x y hb h => h, fun v x y hb h => h, fun v x y hb h => h, fun v x y hb h => h, fun v x y hb h => h, fun v x y hb h => h, fun v x y hb h => h, fun v x y hb h => h, fun v x y hb h => h, fun v x y hb h => h, fun v x y hb h => h, fun v x y hb h => h, fun v x y hb h => h, fun v x y hb h => h, fun v x y hb h => h, fun v x y hb h => h, fun v x y hb h => h, fun v x y hb h => h, fun v x y hb h => by obtain ⟨b, e, h2⟩ := h; exact ⟨b, e, h2.below hb h2.lt⟩, fun v x y hb h => h, fun v x y hb h => h, trivial⟩
  refine wpAny_mono a0 w0 dst_ans24 (pvL (pv_ans24 ob n z x)) (fun x y => Below x.heap.size x y) (Below.refl _ _) (fun x y h g => h.trans (g.mono h.size)) (fun i v x y _ g h => pvL_mono M g h)
    (fun i o ho => by unfold dst_ans24; rw [ho]; rfl)
    (fun i k d hi hk h1 h2 => inj_ans24 i hi k hk (by rw [h1]; intro q; cases q) (by rw [h1, h2]))
    (fun i d hi h => by have := lt_ans24 i hi; rw [h] at this; rw [hsz]; exact this)
    (fun i o e ho he hb => by
      obtain ⟨hi, rfl⟩ := Array.getElem?_eq_some_iff.1 ho
      exact low_ans24 ⟨i, hi⟩ e he hb)
    ?step (fun w _ => Below.refl _ _) ?fin
  case fin =>
    intro a w hd hs hf hv hR
    obtain ⟨y0, hy0, pv0⟩ := hv 0 94 (by decide) rfl
    obtain ⟨y1, hy1, pv1⟩ := hv 1 95 (by decide) rfl
    obtain ⟨y2, hy2, pv2⟩ := hv 2 96 (by decide) rfl
    obtain ⟨y3, hy3, pv3⟩ := hv 3 97 (by decide) rfl
    obtain ⟨y4, hy4, pv4⟩ := hv 4 98 (by decide) rfl
    obtain ⟨y5, hy5, pv5⟩ := hv 5 99 (by decide) rfl
    obtain ⟨y6, hy6, pv6⟩ := hv 6 100 (by decide) rfl
    obtain ⟨y7, hy7, pv7⟩ := hv 7 101 (by decide) rfl
    obtain ⟨y8, hy8, pv8⟩ := hv 8 102 (by decide) rfl
    obtain ⟨y9, hy9, pv9⟩ := hv 9 103 (by decide) rfl
    obtain ⟨y10, hy10, pv10⟩ := hv 10 104 (by decide) rfl
    obtain ⟨y11, hy11, pv11⟩ := hv 11 105 (by decide) rfl
    obtain ⟨y12, hy12, pv12⟩ := hv 12 106 (by decide) rfl
    obtain ⟨y13, hy13, pv13⟩ := hv 13 107 (by decide) rfl
    obtain ⟨y14, hy14, pv14⟩ := hv 14 108 (by decide) rfl
    obtain ⟨y15, hy15, pv15⟩ := hv 15 109 (by decide) rfl
    obtain ⟨y16, hy16, pv16⟩ := hv 16 110 (by decide) rfl
    obtain ⟨y17, hy17, pv17⟩ := hv 17 111 (by decide) rfl
    obtain ⟨y18, hy18, pv18⟩ := hv 18 112 (by decide) rfl
    obtain ⟨y19, hy19, pv19⟩ := hv 19 113 (by decide) rfl
    obtain ⟨y20, hy20, pv20⟩ := hv 20 114 (by decide) rfl
    obtain ⟨y21, hy21, pv21⟩ := hv 21 115 (by decide) rfl
    obtain ⟨y22, hy22, pv22⟩ := hv 22 116 (by decide) rfl
    obtain ⟨y23, hy23, pv23⟩ := hv 23 117 (by decide) rfl
    obtain ⟨y24, hy24, pv24⟩ := hv 24 118 (by decide) rfl
    obtain ⟨y25, hy25, pv25⟩ := hv 25 119 (by decide) rfl
    obtain ⟨y26, hy26, pv26⟩ := hv 26 120 (by decide) rfl
    obtain ⟨y27, hy27, pv27⟩ := hv 27 121 (by decide) rfl
    obtain ⟨y28, hy28, pv28⟩ := hv 28 122 (by decide) rfl
    obtain ⟨y29, hy29, pv29⟩ := hv 29 123 (by decide) rfl
    obtain ⟨y30, hy30, pv30⟩ := hv 30 124 (by decide) rfl
    obtain ⟨y31, hy31, pv31⟩ := hv 31 125 (by decide) rfl
    obtain ⟨y32, hy32, pv32⟩ := hv 32 126 (by decide) rfl
    obtain ⟨y33, hy33, pv33⟩ := hv 33 127 (by decide) rfl
    obtain ⟨y34, hy34, pv34⟩ := hv 34 128 (by decide) rfl
    obtain ⟨y35, hy35, pv35⟩ := hv 35 129 (by decide) rfl
    obtain ⟨y36, hy36, pv36⟩ := hv 36 130 (by decide) rfl
    obtain ⟨y37, hy37, pv37⟩ := hv 37 131 (by decide) rfl
    obtain ⟨y38, hy38, pv38⟩ := hv 38 132 (by decide) rfl
    obtain ⟨y39, hy39, pv39⟩ := hv 39 133 (by decide) rfl
    rw [act_set' (a := a) (a0 := a0) [(94, y0), (95, y1), (96, y2), (97, y3), (98, y4), (99, y5), (100, y6), (101, y7), (102, y8), (103, y9), (104, y10), (105, y11), (106, y12), (107, y13), (108, y14), (109, y15), (110, y16), (111, y17), (112, y18), (113, y19), (114, y20), (115, y21), (116, y22), (117, y23), (118, y24), (119, y25), (120, y26), (121, y27), (122, y28), (123, y29), (124, y30), (125, y31), (126, y32), (127, y33), (128, y34), (129, y35), (130, y36), (131, y37), (132, y38), (133, y39)] hd hs (by
      intro p hp
      simp only [List.mem_cons, List.not_mem_nil, or_false] at hp
      rcases hp with rfl | rfl | rfl | rfl | rfl | rfl | rfl | rfl | rfl | rfl | rfl | rfl | rfl | rfl | rfl | rfl | rfl | rfl | rfl | rfl | rfl | rfl | rfl | rfl | rfl | rfl | rfl | rfl | rfl | rfl | rfl | rfl | rfl | rfl | rfl | rfl | rfl | rfl | rfl | rfl
      · exact hy0
      · exact hy1
      · exact hy2
      · exact hy3
      · exact hy4
      · exact hy5
      · exact hy6
      · exact hy7
      · exact hy8
      · exact hy9
      · exact hy10
      · exact hy11
      · exact hy12
      · exact hy13
      · exact hy14
      · exact hy15
      · exact hy16
      · exact hy17
      · exact hy18
      · exact hy19
      · exact hy20
      · exact hy21
      · exact hy22
      · exact hy23
      · exact hy24
      · exact hy25
      · exact hy26
      · exact hy27
      · exact hy28
      · exact hy29
      · exact hy30
      · exact hy31
      · exact hy32
      · exact hy33
      · exact hy34
      · exact hy35
      · exact hy36
      · exact hy37
      · exact hy38
      · exact hy39
      ) (fun j hj => hf j (fun k hk q => hj (by
        have : ∀ k, k < 40 → (dst_ans24 k).all (fun d => [94, 95, 96, 97, 98, 99, 100, 101, 102, 103, 104, 105, 106, 107, 108, 109, 110, 111, 112, 113, 114, 115, 116, 117, 118, 119, 120, 121, 122, 123, 124, 125, 126, 127, 128, 129, 130, 131, 132, 133].contains d) = true := by decide +kernel
        have h1 := this k hk
        rw [q] at h1
        simpa using h1)))]
    exact hQ y0 y1 y2 y3 y4 y5 y6 y7 y8 y9 y10 y11 y12 y13 y14 y15 y16 y17 y18 y19 y20 y21 y22 y23 y24 y25 y26 y27 y28 y29 y30 y31 y32 y33 y34 y35 y36 y37 y38 y39 w hR pv37 pv38 pv39
  case step =>
    intro i o a w ho hs hf dep hR
    have hi : i < 40 := (Array.getElem?_eq_some_iff.1 ho).1
    have e5 := evT ((hf 5 (by decide +kernel)).trans h5)
    have e16 := evT ((hf 16 (by decide +kernel)).trans h16)
    have e18 := evT ((hf 18 (by decide +kernel)).trans h18)
    rcases (by omega : i = 0 ∨ i = 1 ∨ i = 2 ∨ i = 3 ∨ i = 4 ∨ i = 5 ∨ i = 6 ∨ i = 7 ∨ i = 8 ∨ i = 9 ∨ i = 10 ∨ i = 11 ∨ i = 12 ∨ i = 13 ∨ i = 14 ∨ i = 15 ∨ i = 16 ∨ i = 17 ∨ i = 18 ∨ i = 19 ∨ i = 20 ∨ i = 21 ∨ i = 22 ∨ i = 23 ∨ i = 24 ∨ i = 25 ∨ i = 26 ∨ i = 27 ∨ i = 28 ∨ i = 29 ∨ i = 30 ∨ i = 31 ∨ i = 32 ∨ i = 33 ∨ i = 34 ∨ i = 35 ∨ i = 36 ∨ i = 37 ∨ i = 38 ∨ i = 39) with rfl | rfl | rfl | rfl | rfl | rfl | rfl | rfl | rfl | rfl | rfl | rfl | rfl | rfl | rfl | rfl | rfl | rfl | rfl | rfl | rfl | rfl | rfl | rfl | rfl | rfl | rfl | rfl | rfl | rfl | rfl | rfl | rfl | rfl | rfl | rfl | rfl | rfl | rfl | rfl
    · have ho2 : some _ = some o := ho
      obtain rfl := Option.some.inj ho2
      exact .inl ⟨wantN rfl, fun K hK => mo_move rfl e18 (hK _ _ (Below.refl _ _) rfl)⟩
    · have ho2 : some _ = some o := ho
      obtain rfl := Option.some.inj ho2
      exact .inl ⟨wantN rfl, fun K hK => mo_move rfl e16 (hK _ _ (Below.refl _ _) rfl)⟩
    · have ho2 : some _ = some o := ho
      obtain rfl := Option.some.inj ho2
      exact .inl ⟨wantN rfl, fun K hK => mo_field (by simp [go_sem]) rfl e5 (hK _ _ (Below.refl _ _) rfl)⟩
    · have ho2 : some _ = some o := ho
      obtain rfl := Option.some.inj ho2
      obtain ⟨_, hv2, rfl⟩ : ∃ v, a.tmps[96]? = some v ∧ (fun (v : Value) (w : World) => v = .pointer (some ⟨ob, 2, none⟩)) v w := dep ⟨2, Ground.data⟩ (by first | simp | simp [ops_ans24]) rfl 96 rfl
      exact .inl ⟨wantN rfl, fun K hK => mo_load (by simp [go_sem, (hE w hR).2.1]) rfl (evT hv2) (hK _ _ (Below.refl _ _) rfl)⟩
    · have ho2 : some _ = some o := ho
      obtain rfl := Option.some.inj ho2
      obtain ⟨_, hv1, rfl⟩ : ∃ v, a.tmps[95]? = some v ∧ (fun (v : Value) (w : World) => v = .pointer none) v w := dep ⟨1, Ground.data⟩ (by first | simp | simp [ops_ans24]) rfl 95 rfl
      obtain ⟨_, hv3, rfl⟩ : ∃ v, a.tmps[97]? = some v ∧ (fun (v : Value) (w : World) => v = .string z) v w := dep ⟨3, Ground.data⟩ (by first | simp | simp [ops_ans24]) rfl 97 rfl
      exact .inl ⟨wantN rfl, fun K hK => mo_call2 15 rfl (evT hv1) (evT hv3) (enters_of (P := Try.prog) Try.func15 (by kernel_rfl) rfl) (hC4 w hR) (fun v w' h => hK v w' h.2 h.1)⟩
    · have ho2 : some _ = some o := ho
      obtain rfl := Option.some.inj ho2
      exact .inl ⟨wantN rfl, fun K hK => mo_move rfl e16 (hK _ _ (Below.refl _ _) rfl)⟩
    · have ho2 : some _ = some o := ho
      obtain rfl := Option.some.inj ho2
      exact .inl ⟨wantN rfl, fun K hK => mo_field (by simp [go_sem]) rfl e5 (hK _ _ (Below.refl _ _) rfl)⟩
    · have ho2 : some _ = some o := ho
      obtain rfl := Option.some.inj ho2
      obtain ⟨_, hv6, rfl⟩ : ∃ v, a.tmps[100]? = some v ∧ (fun (v : Value) (w : World) => v = .pointer (some ⟨ob, 2, none⟩)) v w := dep ⟨6, Ground.data⟩ (by first | simp | simp [ops_ans24]) rfl 100 rfl
      exact .inl ⟨wantN rfl, fun K hK => mo_load (by simp [go_sem, (hE w hR).2.1]) rfl (evT hv6) (hK _ _ (Below.refl _ _) rfl)⟩
    · have ho2 : some _ = some o := ho
      obtain rfl := Option.some.inj ho2
      exact .inl ⟨wantN rfl, fun K hK => mo_field (by simp [go_sem]) rfl e5 (hK _ _ (Below.refl _ _) rfl)⟩
    · have ho2 : some _ = some o := ho
      obtain rfl := Option.some.inj ho2
      obtain ⟨_, hv8, rfl⟩ : ∃ v, a.tmps[102]? = some v ∧ (fun (v : Value) (w : World) => v = .pointer (some ⟨ob, 3, none⟩)) v w := dep ⟨8, Ground.data⟩ (by first | simp | simp [ops_ans24]) rfl 102 rfl
      exact .inl ⟨wantN rfl, fun K hK => mo_load (by simp [go_sem, (hE w hR).2.2]) rfl (evT hv8) (hK _ _ (Below.refl _ _) rfl)⟩
    · have ho2 : some _ = some o := ho
      obtain rfl := Option.some.inj ho2
      obtain ⟨_, hv5, rfl⟩ : ∃ v, a.tmps[99]? = some v ∧ (fun (v : Value) (w : World) => v = .pointer none) v w := dep ⟨5, Ground.data⟩ (by first | simp | simp [ops_ans24]) rfl 99 rfl
      obtain ⟨_, hv7, rfl⟩ : ∃ v, a.tmps[101]? = some v ∧ (fun (v : Value) (w : World) => v = .string z) v w := dep ⟨7, Ground.data⟩ (by first | simp | simp [ops_ans24]) rfl 101 rfl
      obtain ⟨_, hv9, rfl⟩ : ∃ v, a.tmps[103]? = some v ∧ (fun (v : Value) (w : World) => v = .string x) v w := dep ⟨9, Ground.data⟩ (by first | simp | simp [ops_ans24]) rfl 103 rfl
      exact .inl ⟨wantN rfl, fun K hK => mo_call3 16 rfl (evT hv5) (evT hv7) (evT hv9) (enters_of (P := Try.prog) Try.func16 (by kernel_rfl) rfl) (hC10 w hR) (fun v w' h => hK v w' h.2 h.1)⟩
    · have ho2 : some _ = some o := ho
      obtain rfl := Option.some.inj ho2
      exact .inl ⟨wantN rfl, fun K hK => mo_move rfl e16 (hK _ _ (Below.refl _ _) rfl)⟩
    · have ho2 : some _ = some o := ho
      obtain rfl := Option.some.inj ho2
      exact .inl ⟨wantN rfl, fun K hK => mo_field (by simp [go_sem]) rfl e5 (hK _ _ (Below.refl _ _) rfl)⟩
    · have ho2 : some _ = some o := ho
      obtain rfl := Option.some.inj ho2
      obtain ⟨_, hv12, rfl⟩ : ∃ v, a.tmps[106]? = some v ∧ (fun (v : Value) (w : World) => v = .pointer (some ⟨ob, 2, none⟩)) v w := dep ⟨12, Ground.data⟩ (by first | simp | simp [ops_ans24]) rfl 106 rfl
      exact .inl ⟨wantN rfl, fun K hK => mo_load (by simp [go_sem, (hE w hR).2.1]) rfl (evT hv12) (hK _ _ (Below.refl _ _) rfl)⟩
    · have ho2 : some _ = some o := ho
      obtain rfl := Option.some.inj ho2
      exact .inl ⟨wantN rfl, fun K hK => mo_field (by simp [go_sem]) rfl e5 (hK _ _ (Below.refl _ _) rfl)⟩
    · have ho2 : some _ = some o := ho
      obtain rfl := Option.some.inj ho2
      obtain ⟨_, hv14, rfl⟩ : ∃ v, a.tmps[108]? = some v ∧ (fun (v : Value) (w : World) => v = .pointer (some ⟨ob, 1, none⟩)) v w := dep ⟨14, Ground.data⟩ (by first | simp | simp [ops_ans24]) rfl 108 rfl
      exact .inl ⟨wantN rfl, fun K hK => mo_load (by simp [go_sem, (hE w hR).1]) rfl (evT hv14) (hK _ _ (Below.refl _ _) rfl)⟩
    · have ho2 : some _ = some o := ho
      obtain rfl := Option.some.inj ho2
      obtain ⟨_, hv11, rfl⟩ : ∃ v, a.tmps[105]? = some v ∧ (fun (v : Value) (w : World) => v = .pointer none) v w := dep ⟨11, Ground.data⟩ (by first | simp | simp [ops_ans24]) rfl 105 rfl
      obtain ⟨_, hv13, rfl⟩ : ∃ v, a.tmps[107]? = some v ∧ (fun (v : Value) (w : World) => v = .string z) v w := dep ⟨13, Ground.data⟩ (by first | simp | simp [ops_ans24]) rfl 107 rfl
      obtain ⟨_, hv15, rfl⟩ : ∃ v, a.tmps[109]? = some v ∧ (fun (v : Value) (w : World) => v = .int .i64 n) v w := dep ⟨15, Ground.data⟩ (by first | simp | simp [ops_ans24]) rfl 109 rfl
      exact .inl ⟨wantN rfl, fun K hK => mo_call3 17 rfl (evT hv11) (evT hv13) (evT hv15) (enters_of (P := Try.prog) Try.func17 (by kernel_rfl) rfl) (hC16 w hR) (fun v w' h => hK v w' h.2 h.1)⟩
    · have ho2 : some _ = some o := ho
      obtain rfl := Option.some.inj ho2
      exact .inl ⟨wantN rfl, fun K hK => mo_move rfl e16 (hK _ _ (Below.refl _ _) rfl)⟩
    · have ho2 : some _ = some o := ho
      obtain rfl := Option.some.inj ho2
      exact .inl ⟨wantN rfl, fun K hK => mo_field (by simp [go_sem]) rfl e5 (hK _ _ (Below.refl _ _) rfl)⟩
    · have ho2 : some _ = some o := ho
      obtain rfl := Option.some.inj ho2
      obtain ⟨_, hv18, rfl⟩ : ∃ v, a.tmps[112]? = some v ∧ (fun (v : Value) (w : World) => v = .pointer (some ⟨ob, 2, none⟩)) v w := dep ⟨18, Ground.data⟩ (by first | simp | simp [ops_ans24]) rfl 112 rfl
      exact .inl ⟨wantN rfl, fun K hK => mo_load (by simp [go_sem, (hE w hR).2.1]) rfl (evT hv18) (hK _ _ (Below.refl _ _) rfl)⟩
    · have ho2 : some _ = some o := ho
      obtain rfl := Option.some.inj ho2
      obtain ⟨_, hv17, rfl⟩ : ∃ v, a.tmps[111]? = some v ∧ (fun (v : Value) (w : World) => v = .pointer none) v w := dep ⟨17, Ground.data⟩ (by first | simp | simp [ops_ans24]) rfl 111 rfl
      obtain ⟨_, hv19, rfl⟩ : ∃ v, a.tmps[113]? = some v ∧ (fun (v : Value) (w : World) => v = .string z) v w := dep ⟨19, Ground.data⟩ (by first | simp | simp [ops_ans24]) rfl 113 rfl
      exact .inl ⟨wantN rfl, fun K hK => mo_call2 18 rfl (evT hv17) (evT hv19) (enters_of (P := Try.prog) Try.func18 (by kernel_rfl) rfl) (hC20 w hR) (fun v w' h => hK v w' h.2 h.1)⟩
    · have ho2 : some _ = some o := ho
      obtain rfl := Option.some.inj ho2
      exact .inl ⟨wantN rfl, fun K hK => mo_move rfl e16 (hK _ _ (Below.refl _ _) rfl)⟩
    · have ho2 : some _ = some o := ho
      obtain rfl := Option.some.inj ho2
      exact .inl ⟨wantN rfl, fun K hK => mo_field (by simp [go_sem]) rfl e5 (hK _ _ (Below.refl _ _) rfl)⟩
    · have ho2 : some _ = some o := ho
      obtain rfl := Option.some.inj ho2
      obtain ⟨_, hv22, rfl⟩ : ∃ v, a.tmps[116]? = some v ∧ (fun (v : Value) (w : World) => v = .pointer (some ⟨ob, 2, none⟩)) v w := dep ⟨22, Ground.data⟩ (by first | simp | simp [ops_ans24]) rfl 116 rfl
      exact .inl ⟨wantN rfl, fun K hK => mo_load (by simp [go_sem, (hE w hR).2.1]) rfl (evT hv22) (hK _ _ (Below.refl _ _) rfl)⟩
    · have ho2 : some _ = some o := ho
      obtain rfl := Option.some.inj ho2
      exact .inl ⟨wantN rfl, fun K hK => mo_field (by simp [go_sem]) rfl e5 (hK _ _ (Below.refl _ _) rfl)⟩
    · have ho2 : some _ = some o := ho
      obtain rfl := Option.some.inj ho2
      obtain ⟨_, hv24, rfl⟩ : ∃ v, a.tmps[118]? = some v ∧ (fun (v : Value) (w : World) => v = .pointer (some ⟨ob, 3, none⟩)) v w := dep ⟨24, Ground.data⟩ (by first | simp | simp [ops_ans24]) rfl 118 rfl
      exact .inl ⟨wantN rfl, fun K hK => mo_load (by simp [go_sem, (hE w hR).2.2]) rfl (evT hv24) (hK _ _ (Below.refl _ _) rfl)⟩
    · have ho2 : some _ = some o := ho
      obtain rfl := Option.some.inj ho2
      obtain ⟨_, hv21, rfl⟩ : ∃ v, a.tmps[115]? = some v ∧ (fun (v : Value) (w : World) => v = .pointer none) v w := dep ⟨21, Ground.data⟩ (by first | simp | simp [ops_ans24]) rfl 115 rfl
      obtain ⟨_, hv23, rfl⟩ : ∃ v, a.tmps[117]? = some v ∧ (fun (v : Value) (w : World) => v = .string z) v w := dep ⟨23, Ground.data⟩ (by first | simp | simp [ops_ans24]) rfl 117 rfl
      obtain ⟨_, hv25, rfl⟩ : ∃ v, a.tmps[119]? = some v ∧ (fun (v : Value) (w : World) => v = .string x) v w := dep ⟨25, Ground.data⟩ (by first | simp | simp [ops_ans24]) rfl 119 rfl
      exact .inl ⟨wantN rfl, fun K hK => mo_call3 19 rfl (evT hv21) (evT hv23) (evT hv25) (enters_of (P := Try.prog) Try.func19 (by kernel_rfl) rfl) (hC26 w hR) (fun v w' h => hK v w' h.2 h.1)⟩
    · have ho2 : some _ = some o := ho
      obtain rfl := Option.some.inj ho2
      exact .inl ⟨wantN rfl, fun K hK => mo_move rfl e16 (hK _ _ (Below.refl _ _) rfl)⟩
    · have ho2 : some _ = some o := ho
      obtain rfl := Option.some.inj ho2
      exact .inl ⟨wantN rfl, fun K hK => mo_field (by simp [go_sem]) rfl e5 (hK _ _ (Below.refl _ _) rfl)⟩
    · have ho2 : some _ = some o := ho
      obtain rfl := Option.some.inj ho2
      obtain ⟨_, hv28, rfl⟩ : ∃ v, a.tmps[122]? = some v ∧ (fun (v : Value) (w : World) => v = .pointer (some ⟨ob, 2, none⟩)) v w := dep ⟨28, Ground.data⟩ (by first | simp | simp [ops_ans24]) rfl 122 rfl
      exact .inl ⟨wantN rfl, fun K hK => mo_load (by simp [go_sem, (hE w hR).2.1]) rfl (evT hv28) (hK _ _ (Below.refl _ _) rfl)⟩
    · have ho2 : some _ = some o := ho
      obtain rfl := Option.some.inj ho2
      obtain ⟨_, hv27, rfl⟩ : ∃ v, a.tmps[121]? = some v ∧ (fun (v : Value) (w : World) => v = .pointer none) v w := dep ⟨27, Ground.data⟩ (by first | simp | simp [ops_ans24]) rfl 121 rfl
      obtain ⟨_, hv29, rfl⟩ : ∃ v, a.tmps[123]? = some v ∧ (fun (v : Value) (w : World) => v = .string z) v w := dep ⟨29, Ground.data⟩ (by first | simp | simp [ops_ans24]) rfl 123 rfl
      exact .inl ⟨wantN rfl, fun K hK => mo_call2 20 rfl (evT hv27) (evT hv29) (enters_of (P := Try.prog) Try.func20 (by kernel_rfl) rfl) (hC30 w hR) (fun v w' h => hK v w' h.2 h.1)⟩
    · have ho2 : some _ = some o := ho
      obtain rfl := Option.some.inj ho2
      exact .inl ⟨wantN rfl, fun K hK => mo_move rfl e16 (hK _ _ (Below.refl _ _) rfl)⟩
    · have ho2 : some _ = some o := ho
      obtain rfl := Option.some.inj ho2
      obtain ⟨_, hv31, rfl⟩ : ∃ v, a.tmps[125]? = some v ∧ (fun (v : Value) (w : World) => v = .pointer none) v w := dep ⟨31, Ground.data⟩ (by first | simp | simp [ops_ans24]) rfl 125 rfl
      exact .inl ⟨wantN rfl, fun K hK => mo_call1 21 rfl (evT hv31) (enters_of (P := Try.prog) Try.func21 (by kernel_rfl) rfl) (hC32 w hR) (fun v w' h => hK v w' h.2 h.1)⟩
    · have ho2 : some _ = some o := ho
      obtain rfl := Option.some.inj ho2
      exact .inl ⟨wantN rfl, fun K hK => mo_move rfl e16 (hK _ _ (Below.refl _ _) rfl)⟩
    · have ho2 : some _ = some o := ho
      obtain rfl := Option.some.inj ho2
      exact .inl ⟨wantN rfl, fun K hK => mo_field (by simp [go_sem]) rfl e5 (hK _ _ (Below.refl _ _) rfl)⟩
    · have ho2 : some _ = some o := ho
      obtain rfl := Option.some.inj ho2
      obtain ⟨_, hv34, rfl⟩ : ∃ v, a.tmps[128]? = some v ∧ (fun (v : Value) (w : World) => v = .pointer (some ⟨ob, 1, none⟩)) v w := dep ⟨34, Ground.data⟩ (by first | simp | simp [ops_ans24]) rfl 128 rfl
      exact .inl ⟨wantN rfl, fun K hK => mo_load (by simp [go_sem, (hE w hR).1]) rfl (evT hv34) (hK _ _ (Below.refl _ _) rfl)⟩
    · have ho2 : some _ = some o := ho
      obtain rfl := Option.some.inj ho2
      obtain ⟨_, hv33, rfl⟩ : ∃ v, a.tmps[127]? = some v ∧ (fun (v : Value) (w : World) => v = .pointer none) v w := dep ⟨33, Ground.data⟩ (by first | simp | simp [ops_ans24]) rfl 127 rfl
      obtain ⟨_, hv35, rfl⟩ : ∃ v, a.tmps[129]? = some v ∧ (fun (v : Value) (w : World) => v = .int .i64 n) v w := dep ⟨35, Ground.data⟩ (by first | simp | simp [ops_ans24]) rfl 129 rfl
      exact .inl ⟨wantN rfl, fun K hK => mo_call2 22 rfl (evT hv33) (evT hv35) (enters_of (P := Try.prog) Try.func22 (by kernel_rfl) rfl) (hC36 w hR) (fun v w' h => hK v w' h.2 h.1)⟩
    · have ho2 : some _ = some o := ho
      obtain rfl := Option.some.inj ho2
      obtain ⟨_, hv0, rfl⟩ : ∃ v, a.tmps[94]? = some v ∧ (fun (v : Value) (w : World) => v = errV 3) v w := dep ⟨0, Ground.data⟩ (by first | simp | simp [ops_ans24]) rfl 94 rfl
      obtain ⟨_, hv4, rfl⟩ : ∃ v, a.tmps[98]? = some v ∧ (fun (v : Value) (w : World) => v = errV 3) v w := dep ⟨4, Ground.data⟩ (by first | simp | simp [ops_ans24]) rfl 98 rfl
      obtain ⟨_, hv10, rfl⟩ : ∃ v, a.tmps[104]? = some v ∧ (fun (v : Value) (w : World) => v = errV 3) v w := dep ⟨10, Ground.data⟩ (by first | simp | simp [ops_ans24]) rfl 104 rfl
      obtain ⟨_, hv16, rfl⟩ : ∃ v, a.tmps[110]? = some v ∧ (fun (v : Value) (w : World) => v = errV 3) v w := dep ⟨16, Ground.data⟩ (by first | simp | simp [ops_ans24]) rfl 110 rfl
      obtain ⟨_, hv20, rfl⟩ : ∃ v, a.tmps[114]? = some v ∧ (fun (v : Value) (w : World) => v = errV 3) v w := dep ⟨20, Ground.data⟩ (by first | simp | simp [ops_ans24]) rfl 114 rfl
      obtain ⟨_, hv26, rfl⟩ : ∃ v, a.tmps[120]? = some v ∧ (fun (v : Value) (w : World) => v = errV 3) v w := dep ⟨26, Ground.data⟩ (by first | simp | simp [ops_ans24]) rfl 120 rfl
      obtain ⟨_, hv30, rfl⟩ : ∃ v, a.tmps[124]? = some v ∧ (fun (v : Value) (w : World) => v = errV 3) v w := dep ⟨30, Ground.data⟩ (by first | simp | simp [ops_ans24]) rfl 124 rfl
      obtain ⟨_, hv32, rfl⟩ : ∃ v, a.tmps[126]? = some v ∧ (fun (v : Value) (w : World) => v = errV 3) v w := dep ⟨32, Ground.data⟩ (by first | simp | simp [ops_ans24]) rfl 126 rfl
      obtain ⟨_, hv36, rfl⟩ : ∃ v, a.tmps[130]? = some v ∧ (fun (v : Value) (w : World) => v = errV 3) v w := dep ⟨36, Ground.data⟩ (by first | simp | simp [ops_ans24]) rfl 130 rfl
      exact .inl ⟨wantN rfl, fun K hK => mo_nine rfl (evT hv0) (evT hv4) (evT hv10) (evT hv16) (evT hv20) (evT hv26) (evT hv30) (evT hv32) (evT hv36) (hK _ _ ((Below.refl _ _).alloc (Nat.le_refl _) _) ⟨w.heap.size, rfl, Cells.new _ _ _⟩)⟩
    · have ho2 : some _ = some o := ho
      obtain rfl := Option.some.inj ho2
      obtain ⟨z37, hv37, pv37⟩ : ∃ v, a.tmps[131]? = some v ∧ (fun (v : Value) (w : World) => ∃ b, v = .slice (some ⟨b, 0, none⟩) 9 9 ∧ Cells w b 27 nine) v w := dep ⟨37, Ground.data⟩ (by first | simp | simp [ops_ans24]) rfl 131 rfl
      exact .inl ⟨wantN rfl, fun K hK => by obtain ⟨b1, rfl, h1⟩ := pv37; exact mo_lenE rfl (evT hv37) (hK _ _ (Below.refl _ _) rfl)⟩
    · have ho2 : some _ = some o := ho
      obtain rfl := Option.some.inj ho2
      exact .inl ⟨wantN rfl, fun K hK => mo_move rfl rfl (hK _ _ (Below.refl _ _) rfl)⟩
end Vm
end Go.Proofs.Ytembondddgfpcaa

