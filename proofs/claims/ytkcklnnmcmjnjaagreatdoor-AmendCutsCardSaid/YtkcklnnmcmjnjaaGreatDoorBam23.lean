/- Texts put together: EN, EH, EI, N0, EK. -/
import Derived.ArgAppend
import Derived.OwnWalk
import Derived.Test.YtkcklnnmcmjnjaaGreatDoorBam14
import Derived.Test.YtkcklnnmcmjnjaaGreatDoorBam15
import Derived.Test.YtkcklnnmcmjnjaaGreatDoorBam16
import Derived.Test.YtkcklnnmcmjnjaaGreatDoorBam17
import Derived.Test.YtkcklnnmcmjnjaaGreatDoorBam18
import Derived.Test.YtkcklnnmcmjnjaaGreatDoorBam19
import Derived.Test.YtkcklnnmcmjnjaaGreatDoorBam21
set_option linter.unusedVariables false
namespace Go.Proofs.YtkcklnnmcmjnjaaGreatDoor
open Go.RowKit Go.Shelf

def ops_ow5 : List Oper := [
  { dst := some 13, op := Op.move (Operand.tmp 3), type := 22, pos := "num.go:120", after := #[], guard := none },
  { dst := some 14, op := Op.fieldAddr 33 (Operand.tmp 5) 0, type := 0, pos := "num.go:120", after := #[], guard := none },
  { dst := some 15, op := Op.load 3 (Operand.tmp 14), type := 3, pos := "num.go:120", after := #[{ on := 1, ground := Ground.data }], guard := none },
  { dst := some 16, op := Op.fieldAddr 33 (Operand.tmp 5) 1, type := 0, pos := "num.go:120", after := #[], guard := none },
  { dst := some 17, op := Op.load 3 (Operand.tmp 16), type := 3, pos := "num.go:120", after := #[{ on := 3, ground := Ground.data }], guard := none },
  { dst := some 18, op := Op.fieldAddr 33 (Operand.tmp 5) 2, type := 0, pos := "num.go:120", after := #[], guard := none },
  { dst := some 19, op := Op.load 31 (Operand.tmp 18), type := 31, pos := "num.go:120", after := #[{ on := 5, ground := Ground.data }], guard := none },
  { dst := some 20, op := Op.call { callee := Callee.value (Operand.func 43), args := #[Operand.tmp 19], argTypes := #[31] }, type := 31, pos := "num.go:120", after := #[{ on := 6, ground := Ground.data }], guard := none },
  { dst := some 21, op := Op.build 33 #[(0, Operand.tmp 15), (1, Operand.tmp 17), (2, Operand.tmp 20)], type := 33, pos := "num.go:120", after := #[{ on := 2, ground := Ground.data }, { on := 4, ground := Ground.data }, { on := 7, ground := Ground.data }], guard := none },
  { dst := some 22, op := Op.buildSlice 22 1 #[(0, Operand.tmp 21)], type := 22, pos := "num.go:120", after := #[{ on := 8, ground := Ground.data }], guard := none },
  { dst := some 23, op := Op.call { callee := Callee.builtin Builtin.append, args := #[Operand.tmp 13, Operand.tmp 22], argTypes := #[22, 22] }, type := 22, pos := "num.go:120", after := #[{ on := 0, ground := Ground.data }, { on := 9, ground := Ground.data }, { on := 7, ground := Ground.chain }], guard := none },
  { dst := some 3, op := Op.assign (Operand.tmp 23), type := 22, pos := "num.go:120", after := #[{ on := 10, ground := Ground.data }, { on := 10, ground := Ground.chain }, { on := 0, ground := Ground.phase }, { on := 1, ground := Ground.phase }, { on := 2, ground := Ground.phase }, { on := 3, ground := Ground.phase }, { on := 4, ground := Ground.phase }, { on := 5, ground := Ground.phase }, { on := 6, ground := Ground.phase }, { on := 7, ground := Ground.phase }, { on := 8, ground := Ground.phase }, { on := 9, ground := Ground.phase }, { on := 10, ground := Ground.phase }], guard := none }]
def dst_ow5 (i : Nat) : Option Nat := (ops_ow5[i]?).bind (·.dst)
theorem inj_ow5 : ∀ i, i < 10 → ∀ k, k < 10 → dst_ow5 i ≠ none → dst_ow5 i = dst_ow5 k → i = k := by decide +kernel
theorem lt_ow5 : ∀ i, i < 10 → (dst_ow5 i).getD 0 < 26 := by decide +kernel
theorem low_ow5 : ∀ i : Fin 12, ∀ e ∈ (ops_ow5[i.1]'(by exact i.2)).after, Region.binds .any e = true → e.on < i.1 := by decide +kernel
def pv_ow5 (eb lo : Nat) (ov : Value) (k i : Int) (fa : Option Addr) (fn fc : Nat) (PL : Value → World → Prop) : List (Value → World → Prop) := [
  fun v w => v = ov,
  fun v w => v = .pointer (some ⟨eb, 0, none⟩),
  fun v w => v = .int .i64 k,
  fun v w => v = .pointer (some ⟨eb, 1, none⟩),
  fun v w => v = .int .i64 i,
  fun v w => v = .pointer (some ⟨eb, 2, none⟩),
  fun v w => v = .slice fa fn fc,
  fun v w => PL v w,
  fun v w => ∃ u, v = .agg #[.int .i64 k, .int .i64 i, u] ∧ PL u w,
  fun v w => ∃ b u, v = .slice (some ⟨b, 0, none⟩) 1 1 ∧ PL u w ∧ lo ≤ b ∧ Cells w b 33 #[.int .i64 k, .int .i64 i, u]]
set_option maxRecDepth 100000 in
set_option maxHeartbeats 4000000 in
theorem region_ow5 (a0 : Act) (w0 : World) (eb lo : Nat) (ov : Value) (k i : Int) (fa : Option Addr) (fn fc : Nat) (PL : Value → World → Prop) (Q : Exit → Act → World → Prop)
    (hsz : a0.tmps.size = 26) (h3 : a0.tmps[3]? = some (ov)) (h5 : a0.tmps[5]? = some (.pointer (some ⟨eb, 0, none⟩)))
    (hE : ∀ W, Below w0.heap.size w0 W → W.cell? ⟨eb, 0, none⟩ = some (.int .i64 k) ∧ W.cell? ⟨eb, 1, none⟩ = some (.int .i64 i) ∧ W.cell? ⟨eb, 2, none⟩ = some (.slice fa fn fc)) (hlo : lo ≤ w0.heap.size)
    (hPM : ∀ v x y, Below x.heap.size x y → PL v x → PL v y) (hPF : ∀ v w, PL v w → ∃ fa fn fc, v = .slice fa fn fc)
    (hC7 : ∀ (W : World) (_ : Below w0.heap.size w0 W), Calls Tryz.prog 43 #[.slice fa fn fc] W fun e w => ∃ v, e = .returned v ∧ (PL v w) ∧ Below W.heap.size W w)
    (hQ : ∀ (y0 y1 y2 y3 y4 y5 y6 y7 y8 y9 : Value) (w : World), Below w0.heap.size w0 w → ((fun (v : Value) (w : World) => v = ov) y0 w) → ((fun (v : Value) (w : World) => ∃ b u, v = .slice (some ⟨b, 0, none⟩) 1 1 ∧ PL u w ∧ lo ≤ b ∧ Cells w b 33 #[.int .i64 k, .int .i64 i, u]) y9 w) → wpList Tryz.prog ops_ow5.toArray Q [{ dst := some 23, op := Op.call { callee := Callee.builtin Builtin.append, args := #[Operand.tmp 13, Operand.tmp 22], argTypes := #[22, 22] }, type := 22, pos := "num.go:120", after := #[{ on := 0, ground := Ground.data }, { on := 9, ground := Ground.data }, { on := 7, ground := Ground.chain }], guard := none }, { dst := some 3, op := Op.assign (Operand.tmp 23), type := 22, pos := "num.go:120", after := #[{ on := 10, ground := Ground.data }, { on := 10, ground := Ground.chain }, { on := 0, ground := Ground.phase }, { on := 1, ground := Ground.phase }, { on := 2, ground := Ground.phase }, { on := 3, ground := Ground.phase }, { on := 4, ground := Ground.phase }, { on := 5, ground := Ground.phase }, { on := 6, ground := Ground.phase }, { on := 7, ground := Ground.phase }, { on := 8, ground := Ground.phase }, { on := 9, ground := Ground.phase }, { on := 10, ground := Ground.phase }], guard := none }] { a0 with tmps := [(13, y0), (14, y1), (15, y2), (16, y3), (17, y4), (18, y5), (19, y6), (20, y7), (21, y8), (22, y9)].foldl (fun u p => u.setIfInBounds p.1 p.2) a0.tmps } w) :
    wpAny Tryz.prog .any ops_ow5.toArray Q ops_ow5.toArray.size (Array.replicate ops_ow5.toArray.size false) a0 w0 := by
  have M : AllM (pv_ow5 eb lo ov k i fa fn fc PL) := ⟨fun v x y hb h => h, fun v x y hb h => h, fun v x y hb h => h, fun v x y hb h => h, fun v x y hb h => h, fun v x y hb h => h, fun v x y hb h => h, fun v x y hb h => hPM v x y hb h, fun v x y hb h => by obtain ⟨u, e, h1⟩ := h; exact ⟨u, e, hPM u x y hb h1⟩, fun v x y hb h => by obtain ⟨b, u, e, h1, h2, h4⟩ := h; exact ⟨b, u, e, hPM u x y hb h1, h2, cells_kept h4 hb h4.lt⟩, trivial⟩
  refine wpAny_mono_tail 10 2 (by kernel_rfl) (by decide) a0 w0 dst_ow5 (pv_ow5 eb lo ov k i fa fn fc PL) M (by kernel_rfl) (by kernel_rfl) (by kernel_rfl)
    (fun i o _ ho => by unfold dst_ow5; rw [ho]; rfl)
    (fun i k d hi hk h1 h2 => inj_ow5 i hi k hk (by rw [h1]; intro q; cases q) (by rw [h1, h2]))
    (fun i d hi h => by have := lt_ow5 i hi; rw [h] at this; rw [hsz]; exact this)
    (fun i o e ho he hb => by
      obtain ⟨hi, rfl⟩ := List.getElem?_eq_some_iff.1 ho
      exact low_ow5 ⟨i, hi⟩ e he hb)
    ?step ?fin
  case fin =>
    intro a w hd hs hf hv hR
    obtain ⟨y0, hy0, pv0⟩ := hv 0 13 (by decide) rfl
    obtain ⟨y1, hy1, pv1⟩ := hv 1 14 (by decide) rfl
    obtain ⟨y2, hy2, pv2⟩ := hv 2 15 (by decide) rfl
    obtain ⟨y3, hy3, pv3⟩ := hv 3 16 (by decide) rfl
    obtain ⟨y4, hy4, pv4⟩ := hv 4 17 (by decide) rfl
    obtain ⟨y5, hy5, pv5⟩ := hv 5 18 (by decide) rfl
    obtain ⟨y6, hy6, pv6⟩ := hv 6 19 (by decide) rfl
    obtain ⟨y7, hy7, pv7⟩ := hv 7 20 (by decide) rfl
    obtain ⟨y8, hy8, pv8⟩ := hv 8 21 (by decide) rfl
    obtain ⟨y9, hy9, pv9⟩ := hv 9 22 (by decide) rfl
    rw [act_set' (a := a) (a0 := a0) [(13, y0), (14, y1), (15, y2), (16, y3), (17, y4), (18, y5), (19, y6), (20, y7), (21, y8), (22, y9)] hd hs (by
      intro p hp
      simp only [List.mem_cons, List.not_mem_nil, or_false] at hp
      rcases hp with rfl | rfl | rfl | rfl | rfl | rfl | rfl | rfl | rfl | rfl
      · exact hy0
      · exact hy1
      · exact hy2
      · exact hy3
      · exact hy4
      · exact hy5
      · exact hy6
      · exact hy7
      · exact hy8
      · exact hy9
      ) (fun j hj => hf j (fun k hk q => hj (by
        have : ∀ k, k < 10 → (dst_ow5 k).all (fun d => [13, 14, 15, 16, 17, 18, 19, 20, 21, 22].contains d) = true := by decide +kernel
        have h1 := this k hk
        rw [q] at h1
        simpa using h1)))]
    exact hQ y0 y1 y2 y3 y4 y5 y6 y7 y8 y9 w hR pv0 pv9
  case step =>
    intro i o a w hi ho hs hf dep hR
    have e3 := evT ((hf 3 (by decide +kernel)).trans h3)
    have e5 := evT ((hf 5 (by decide +kernel)).trans h5)
    rcases (by omega : i = 0 ∨ i = 1 ∨ i = 2 ∨ i = 3 ∨ i = 4 ∨ i = 5 ∨ i = 6 ∨ i = 7 ∨ i = 8 ∨ i = 9) with rfl | rfl | rfl | rfl | rfl | rfl | rfl | rfl | rfl | rfl
    · have ho2 : some _ = some o := ho
      obtain rfl := Option.some.inj ho2
      exact .inl ⟨wantN rfl, fun K hK => mo_move rfl e3 (hK _ _ (Below.refl _ _) rfl)⟩
    · have ho2 : some _ = some o := ho
      obtain rfl := Option.some.inj ho2
      exact .inl ⟨wantN rfl, fun K hK => mo_field (by simp [go_sem]) rfl e5 (hK _ _ (Below.refl _ _) rfl)⟩
    · have ho2 : some _ = some o := ho
      obtain rfl := Option.some.inj ho2
      obtain ⟨_, hv1, rfl⟩ : ∃ v, a.tmps[14]? = some v ∧ (fun (v : Value) (w : World) => v = .pointer (some ⟨eb, 0, none⟩)) v w := dep ⟨1, Ground.data⟩ (by first | simp | simp [ops_ow5]) rfl 14 rfl
      exact .inl ⟨wantN rfl, fun K hK => mo_load (by simp [go_sem, (hE w hR).1]) rfl (evT hv1) (hK _ _ (Below.refl _ _) rfl)⟩
    · have ho2 : some _ = some o := ho
      obtain rfl := Option.some.inj ho2
      exact .inl ⟨wantN rfl, fun K hK => mo_field (by simp [go_sem]) rfl e5 (hK _ _ (Below.refl _ _) rfl)⟩
    · have ho2 : some _ = some o := ho
      obtain rfl := Option.some.inj ho2
      obtain ⟨_, hv3, rfl⟩ : ∃ v, a.tmps[16]? = some v ∧ (fun (v : Value) (w : World) => v = .pointer (some ⟨eb, 1, none⟩)) v w := dep ⟨3, Ground.data⟩ (by first | simp | simp [ops_ow5]) rfl 16 rfl
      exact .inl ⟨wantN rfl, fun K hK => mo_load (by simp [go_sem, (hE w hR).2.1]) rfl (evT hv3) (hK _ _ (Below.refl _ _) rfl)⟩
    · have ho2 : some _ = some o := ho
      obtain rfl := Option.some.inj ho2
      exact .inl ⟨wantN rfl, fun K hK => mo_field (by simp [go_sem]) rfl e5 (hK _ _ (Below.refl _ _) rfl)⟩
    · have ho2 : some _ = some o := ho
      obtain rfl := Option.some.inj ho2
      obtain ⟨_, hv5, rfl⟩ : ∃ v, a.tmps[18]? = some v ∧ (fun (v : Value) (w : World) => v = .pointer (some ⟨eb, 2, none⟩)) v w := dep ⟨5, Ground.data⟩ (by first | simp | simp [ops_ow5]) rfl 18 rfl
      exact .inl ⟨wantN rfl, fun K hK => mo_load (by simp [go_sem, (hE w hR).2.2]) rfl (evT hv5) (hK _ _ (Below.refl _ _) rfl)⟩
    · have ho2 : some _ = some o := ho
      obtain rfl := Option.some.inj ho2
      obtain ⟨_, hv6, rfl⟩ : ∃ v, a.tmps[19]? = some v ∧ (fun (v : Value) (w : World) => v = .slice fa fn fc) v w := dep ⟨6, Ground.data⟩ (by first | simp | simp [ops_ow5]) rfl 19 rfl
      exact .inl ⟨wantN rfl, fun K hK => mo_call1 43 rfl (evT hv6) (enters_of (P := Tryz.prog) Tryz.func43 (by kernel_rfl) rfl) (hC7 w hR) (fun v w' h => hK v w' h.2 h.1)⟩
    · have ho2 : some _ = some o := ho
      obtain rfl := Option.some.inj ho2
      obtain ⟨_, hv2, rfl⟩ : ∃ v, a.tmps[15]? = some v ∧ (fun (v : Value) (w : World) => v = .int .i64 k) v w := dep ⟨2, Ground.data⟩ (by first | simp | simp [ops_ow5]) rfl 15 rfl
      obtain ⟨_, hv4, rfl⟩ : ∃ v, a.tmps[17]? = some v ∧ (fun (v : Value) (w : World) => v = .int .i64 i) v w := dep ⟨4, Ground.data⟩ (by first | simp | simp [ops_ow5]) rfl 17 rfl
      obtain ⟨z7, hv7, pv7⟩ : ∃ v, a.tmps[20]? = some v ∧ (fun (v : Value) (w : World) => PL v w) v w := dep ⟨7, Ground.data⟩ (by first | simp | simp [ops_ow5]) rfl 20 rfl
      exact .inl ⟨wantN rfl, fun K hK => by obtain ⟨fa1, fn1, fc1, rfl⟩ := hPF _ _ pv7; exact mo_build3 rfl (evT hv2) (evT hv4) (evT hv7) (hK _ _ (Below.refl _ _) ⟨_, rfl, pv7⟩)⟩
    · have ho2 : some _ = some o := ho
      obtain rfl := Option.some.inj ho2
      obtain ⟨z8, hv8, pv8⟩ : ∃ v, a.tmps[21]? = some v ∧ (fun (v : Value) (w : World) => ∃ u, v = .agg #[.int .i64 k, .int .i64 i, u] ∧ PL u w) v w := dep ⟨8, Ground.data⟩ (by first | simp | simp [ops_ow5]) rfl 21 rfl
      exact .inl ⟨wantN rfl, fun K hK => by obtain ⟨u1, rfl, h1⟩ := pv8; obtain ⟨fa1, fn1, fc1, rfl⟩ := hPF _ _ h1; exact mo_lit3 rfl (evT hv8) (hK _ _ ((Below.refl _ _).alloc (Nat.le_refl _) _) ⟨w.heap.size, _, rfl, hPM _ _ _ ((Below.refl _ _).alloc (Nat.le_refl _) _) h1, Nat.le_trans hlo hR.size, Cells.new _ _ _⟩)⟩
end Go.Proofs.YtkcklnnmcmjnjaaGreatDoor

namespace Go.Proofs.YtkcklnnmcmjnjaaGreatDoor
open Go.RowKit Go.Shelf
attribute [local go_sem] Oper.semAt_some

theorem WrR.from {w w1 w' : World} {lb : Nat} {ev u ev' : Value} {ps ps' : List Pr} {d : Did} (h : WrR w1 lb ev ps d u w' ev' ps') (hb : Below w.heap.size w w1) : WrR w lb ev ps d u w' ev' ps' := by
  refine ⟨h.la, h.es, ?_, ?_, h.err.mono hb.size, fun p hp => ?_⟩
  · exact (Only.of_below (S := fun r => r = lb ∨ ev.ownBlock = some r) hb (Nat.le_refl _)).trans h.only (fun r _ e => e)
  · rcases h.blk with q | ⟨b, q, hq⟩
    · exact .inl q
    · exact .inr ⟨b, q, by have := hb.size; omega⟩
  · rcases h.mem p hp with q | q
    · exact .inl q
    · exact .inr (fun b e => by have := q b e; have := hb.size; omega)
theorem stepE_1 (l : LS) {ed : Ed} (h : ed.kind = 1) : stepE l ed = replaceR l ed.id ed.fields := by unfold stepE editR; rw [if_pos h]
theorem stepE_2 (l : LS) {ed : Ed} (h : ed.kind = 2) : stepE l ed = deleteR l ed.id := by unfold stepE editR; rw [if_neg (by omega), if_pos h]
theorem stepE_3 (l : LS) {ed : Ed} (h1 : ed.kind ≠ 1) (h2 : ed.kind ≠ 2) : stepE l ed = insertR l ed.id ed.fields := by unfold stepE editR; rw [if_neg h1, if_neg h2]
theorem replaceR_id9 (l : LS) (id : Int) (fs : List Fld) : (replaceR l id fs).id = 0 := by
  unfold replaceR
  split
  · rfl
  · split <;> rfl
theorem deleteR_id9 (l : LS) (id : Int) : (deleteR l id).id = 0 := by
  unfold deleteR
  split <;> rfl
set_option maxRecDepth 100000 in
set_option maxHeartbeats 4000000 in
theorem do9_any {S0 : Nat} {w : World} {lb : Nat} {ev : Value} {ps : List Pr} {l : LS} {m : Nat} (C : Carry S0 w lb ev ps l m) (hm : m ≤ 10000) (ed : Ed) (fv : Value) (hf : FldR w fv ed.fields) (h7 : Fine7 ed.fields) :
    Calls Tryz.prog 92 #[ptr lb, .agg #[.int .i64 ed.kind, .int .i64 ed.id, fv]] w fun e w' => ∃ u ev' ps', e = .returned (.tuple #[.int .i64 (stepE l ed).id, u]) ∧ WrR w lb ev ps (stepE l ed) u w' ev' ps' := by
  obtain ⟨fa, fc, rfl⟩ := hf.form
  obtain ⟨wa, hwa⟩ : ∃ wa, wa = w.alloc (.cells #[.int .i64 ed.kind, .int .i64 ed.id, .slice fa ed.fields.length fc] 33) := ⟨_, rfl⟩
  have hba : Below w.heap.size w wa := by rw [hwa]; exact (Below.refl _ w).alloc (Nat.le_refl _) _
  have Ca := C.below hba (Nat.le_refl _)
  have hl : ps.length ≤ m := by have := C.len; rw [← C.es, List.length_map] at this; exact this
  have hnx := C.nx
  have hp := C.ok.pos
  have hwf := C.wf
  have hfa := hf.below hba (Nat.le_refl _)
  have el : (⟨ps.map Prod.fst, l.next⟩ : LS) = l := by rw [C.es]
  by_cases h1 : ed.kind = 1
  · have R := replace_list lb ev ps l.next ed.id ed.fields (.slice fa ed.fields.length fc) wa Ca.la (by omega) hfa h7
    rw [findP_R hwf, show replaceW (findR (ps.map Prod.fst) ed.id) ⟨ps.map Prod.fst, l.next⟩ ed.fields = replaceR ⟨ps.map Prod.fst, l.next⟩ ed.id ed.fields by rw [replaceR_W], el] at R
    rw [stepE_1 l h1, replaceR_id9]
    have R := Lib.hid R
    have FR : Hid (∀ u w' ev' ps', WrR wa lb ev ps (replaceR l ed.id ed.fields) u w' ev' ps' → WrR w lb ev ps (replaceR l ed.id ed.fields) u w' ev' ps') := fun u w' ev' ps' h => h.from hba
    generalize replaceR l ed.id ed.fields = dd at *
    clear hba Ca C hf hfa hwf el
    rw [h1] at hwa ⊢
    subst hwa
    unfold ptr at *
    go_enter Tryz.func92, Tryz.ntmps92
    go_wp2_with fail
    refine R.out.mono ?_
    rintro e w2 ⟨u, ev', ps', rfl, hR⟩
    have H := FR.out _ _ _ _ hR
    clear hR R FR
    go_wp2_with fail
    go_ret2
    exact ⟨u, ev', ps', rfl, H⟩
  · by_cases h2 : ed.kind = 2
    · have R := delete_list lb ev ps l.next ed.id wa Ca.la (by omega)
      rw [findP_R hwf, show deleteW (findR (ps.map Prod.fst) ed.id) ⟨ps.map Prod.fst, l.next⟩ = deleteR ⟨ps.map Prod.fst, l.next⟩ ed.id by rw [deleteR_W], el] at R
      rw [stepE_2 l h2, deleteR_id9]
      have R := Lib.hid R
      have FR : Hid (∀ u w' ev' ps', WrR wa lb ev ps (deleteR l ed.id) u w' ev' ps' → WrR w lb ev ps (deleteR l ed.id) u w' ev' ps') := fun u w' ev' ps' h => h.from hba
      generalize deleteR l ed.id = dd at *
      clear hba Ca C hf hfa hwf el
      rw [h2] at hwa ⊢
      subst hwa
      unfold ptr at *
      go_enter Tryz.func92, Tryz.ntmps92
      go_wp2_with fail
      refine R.out.mono ?_
      rintro e w2 ⟨u, ev', ps', rfl, hR⟩
      have H := FR.out _ _ _ _ hR
      clear hR R FR
      go_wp2_with fail
      go_ret2
      exact ⟨u, ev', ps', rfl, H⟩
    · have R := insert_R lb ev ps l.next ed.id ed.fields (.slice fa ed.fields.length fc) wa Ca.la hwf (by rw [C.es]; exact C.ok.len) (by omega) (by omega) hfa h7
      rw [el] at R
      rw [stepE_3 l h1 h2]
      have R := Lib.hid R
      have FR : Hid (∀ u w' ev' ps', WrR wa lb ev ps (insertR l ed.id ed.fields) u w' ev' ps' → WrR w lb ev ps (insertR l ed.id ed.fields) u w' ev' ps') := fun u w' ev' ps' h => h.from hba
      generalize insertR l ed.id ed.fields = dd at *
      have q1 : (ed.kind == 1) = false := by simpa using h1
      have q2 : (ed.kind == 2) = false := by simpa using h2
      clear hba Ca C hf hfa hwf el
      subst hwa
      unfold ptr at *
      go_enter Tryz.func92, Tryz.ntmps92
      go_wp2_with fail
      refine R.out.mono ?_
      rintro e w2 ⟨u, ev', ps', rfl, hR⟩
      have H := FR.out _ _ _ _ hR
      clear hR R FR
      go_wp2_with fail
      go_ret2
      exact ⟨u, ev', ps', rfl, H⟩
/-- What shows each edit, and what it owns (Z: the blocks that are its own by now). -/
structure Shows (g : Nat) (cb : Array Value) (w0 : World) (N1 : Nat) (l0 : LS) (eds : List Ed) (P : Nat → World → (Nat → Prop) → Prop) : Prop where
  eg : ∀ args w, (callFunc g args).run Tryz.prog w = .ok (.enter g args) w
  lt : ∀ j W Z, P j W Z → ∀ r, Z r → w0.heap.size ≤ r ∧ r < W.heap.size
  keep : ∀ j W W' Z (S : Nat → Prop), P j W Z → Only S W W' → (∀ r, Z r → ¬ S r) → P j W' Z
  ask : ∀ (j : Nat) (ed : Ed) (fv : Value) (W : World) (Z : Nat → Prop) (lb : Nat) (ev : Value) (ps : List Pr) (m : Nat), eds[j]? = some ed → goodE ed = 0 → P j W Z → Below w0.heap.size w0 W → Carry N1 W lb ev ps (lsOn l0 (eds.take j)) m → m ≤ 10000 → (∀ r, BlkR lb ev ps (.slice none 0 0) [] r → ¬ Z r) → FldR W fv ed.fields → (∃ A c, fv = .slice A ed.fields.length c) →
    Calls Tryz.prog g (#[ptr lb, .agg #[.int .i64 ed.kind, .int .i64 ed.id, fv]] ++ cb) W fun e W' => e = .returned (.tuple #[]) ∧ ∃ Z', P (j + 1) W' Z' ∧ Only Z W W' ∧ ∀ r, Z' r → Z r ∨ W.heap.size ≤ r
theorem Carry.blkEd {S0 : Nat} {w w' : World} {lb : Nat} {ev ev' u : Value} {ps ps' : List Pr} {l : LS} {m : Nat} (h : Carry S0 w lb ev ps l m) {ed : Ed} (h1 : (foldG ed.fields).length ≤ 100000) (h2 : ed.fields.length ≤ 1000000) (hS : S0 ≤ w.heap.size) (R : WrR w lb ev ps (stepE l ed) u w' ev' ps') : Carry S0 w' lb ev' ps' (stepE l ed).ls (m + 1) :=
  h.edit ed.kind ed.id h1 h2 R.la R.es hS (fun b e => by
    rcases R.blk with q | ⟨b', q, hq⟩
    · exact .inl (by rw [← q]; exact e)
    · right; rw [q] at e; cases e; exact hq)
theorem WrR.blks {w w' : World} {lb : Nat} {ev u ev' : Value} {ps ps' : List Pr} {d : Did} (h : WrR w lb ev ps d u w' ev' ps') {r : Nat} (hr : BlkR lb ev' ps' (.slice none 0 0) [] r) : BlkR lb ev ps (.slice none 0 0) [] r ∨ w.heap.size ≤ r := by
  rcases hr with q | q | q | ⟨p, hp, hne, q⟩ | ⟨p, hp, _⟩
  · exact .inl (.inl q)
  · rcases h.blk with e | ⟨b, e, hb⟩
    · exact .inl (.inr (.inl (by rw [← e]; exact q)))
    · rw [e] at q; cases q; exact .inr hb
  · cases q
  · rcases h.mem p hp with e | e
    · exact .inl (.inr (.inr (.inr (.inl ⟨p, e, hne, q⟩))))
    · exact .inr (e r q)
  · cases hp
theorem Carry.only {S0 : Nat} {w w' : World} {lb : Nat} {ev : Value} {ps : List Pr} {l : LS} {m : Nat} {S : Nat → Prop} (h : Carry S0 w lb ev ps l m) (g : Only S w w') (hs : ∀ r, BlkR lb ev ps (.slice none 0 0) [] r → ¬ S r) : Carry S0 w' lb ev ps l m :=
  ⟨(h.str.only g hs).la, h.es, h.ok, h.sz, h.lb0, h.ev0, h.len, h.nx⟩
end Go.Proofs.YtkcklnnmcmjnjaaGreatDoor

namespace Go.Proofs.YtkcklnnmcmjnjaaGreatDoor
open Go.RowKit Go.Shelf
attribute [local go_sem] Oper.semAt_some

def Smalls (eds : List Ed) : Prop := ∀ ed ∈ eds, (foldG ed.fields).length ≤ 100000 ∧ ed.fields.length ≤ 1000000
def encI (z : Int) : Value := .int .i64 z
theorem infoInt9 : (Tryz.prog.info? 3).map (fun i => (i.zero, i.size, i.bytes)) = some (some (.int .i64 0), 1, 8) := by kernel_rfl
/-- What play comes to. -/
def PlayR (w0 w w' : World) (l : LS) (m : Nat) (eds : List Ed) (P : Nat → World → (Nat → Prop) → Prop) (e : Ending) : Prop :=
  Below w0.heap.size w0 w' ∧ w.heap.size ≤ w'.heap.size ∧
  (((doB l eds).2 ≠ 0 ∧ ∃ u, e = .returned (.tuple #[.pointer none, .slice none 0 0, u]) ∧ ErrZ w.heap.size w' u (doB l eds).1 (doB l eds).2) ∨
  (doB l eds = (-9, 0) ∧ chkB eds = (-9, 0) ∧ okOn l eds ∧ ∃ lb ev ps gv Z, e = .returned (.tuple #[ptr lb, gv, .nilIface]) ∧ Carry w.heap.size w' lb ev ps (lsOn l eds) (m + eds.length) ∧ P eds.length w' Z ∧
    (∀ r, BlkR lb ev ps (.slice none 0 0) [] r → ¬ Z r ∧ w.heap.size ≤ r) ∧ w'.ownsRow w.heap.size 3 1 gv (idsOn l eds).length ((idsOn l eds).map encI)))
set_option maxRecDepth 100000 in
set_option maxHeartbeats 8000000 in
theorem play_any {S00 : Nat} {w0 w : World} (hB0 : Below w0.heap.size w0 w) (eds : List Ed) (v : Value) (hv : EdV w0 v eds) (hl : eds.length ≤ 51) (hf : Fines eds) (hsm : Smalls eds) (hg : ErrT w0)
    {lb0 : Nat} {ev0 : Value} {ps0 : List Pr} {l : LS} {m : Nat} (C : Carry S00 w lb0 ev0 ps0 l m) (hm : m ≤ 5000) {g : Nat} {cb : Array Value} {P : Nat → World → (Nat → Prop) → Prop} (SH : Shows g cb w0 w.heap.size l eds P) {Z0 : Nat → Prop} (hP : P 0 w Z0) :
    Calls Tryz.prog 53 #[ptr lb0, v, .func (.func g) #[] cb] w fun e w' => PlayR w0 w w' l m eds P e := by
  obtain ⟨i0, hi, hz0, hz1, hz2⟩ := info_parts infoInt9
  have HB0 := Lib.hid hB0
  have CK := Lib.hid (checkB_any eds v w (hv.below hB0 (Nat.le_refl _)) (by omega) hf (hg.below hB0 (Nat.le_refl _)))
  obtain ⟨A, cap, rfl, hle, hc⟩ := _root_.id hv
  have PC := Lib.hid hc
  have HF := Lib.hid hf
  have HS := Lib.hid hsm
  have HG := Lib.hid hg
  have HV := Lib.hid hv
  have HC := Lib.hid C
  have HSH := Lib.hid SH
  have HP := Lib.hid hP
  have heg := SH.eg
  have hZ0 := Lib.hid (SH.lt 0 w Z0 hP)
  clear hc hf hsm hg hv C hP SH hB0
  unfold ptr
  go_enter Tryz.func53, Tryz.ntmps53
  go_wp2_with fail
  refine CK.out.mono ?_
  rintro e w1 ⟨u, rfl, b1, hz⟩
  have B1 := Lib.hid b1
  by_cases hb0 : (chkB eds).2 = 0
  rotate_left
  · have hdo : doB l eds = chkB eds := by unfold doB; rw [if_neg hb0]
    have FIN : Hid (PlayR w0 w w1 l m eds P (.returned (.tuple #[.pointer none, .slice none 0 0, u]))) := by
      show PlayR _ _ _ _ _ _ _ _
      refine ⟨HB0.out.trans (b1.mono HB0.out.size), b1.size, .inl ⟨by rw [hdo]; exact hb0, u, rfl, by rw [hdo]; exact hz⟩⟩
    have hform : (∃ z, u = .iface 67 (.int .i64 z)) ∨ ∃ q, u = .iface 86 (.pointer (some ⟨q, 0, none⟩)) := by
      obtain ⟨_, ⟨rfl, _⟩ | ⟨_, ⟨q, _, rfl, _⟩, _, _⟩⟩ := hz
      · rw [errV_pos _ (by omega)]; exact .inl ⟨_, rfl⟩
      · exact .inr ⟨q, rfl⟩
    clear hz b1 CK
    rcases hform with ⟨z, rfl⟩ | ⟨q, rfl⟩
    all_goals
      go_wp2_with fail
      go_ret3
      exact FIN.out
  have hcz := chkB_zero hb0
  rw [hcz] at hz
  have hdo : doB l eds = doOn 0 l eds := by unfold doB; rw [hcz]; rfl
  obtain ⟨⟨c1, c40⟩, hgood⟩ := chkB_good hb0
  have GOOD := Lib.hid hgood
  have HCZ := Lib.hid hcz
  have HDO := Lib.hid hdo
  obtain ⟨_, ⟨rfl, _⟩ | ⟨_, _, _, hx⟩⟩ := hz
  rotate_left
  · exact absurd rfl hx
  have C1 := HC.out.below b1 (Nat.le_refl _)
  have CP := Lib.hid (copy_list lb0 ev0 ps0 l.next w1 C1.la (C1.ents (by omega)))
  have hes : Hid (ps0.map Prod.fst = l.es) := C1.es
  unfold ptr at CP
  clear C1 hgood hcz hdo hb0 CK b1
  rw [show errV 0 = .nilIface from rfl]
  go_wp2_with fail
  refine CP.out.mono ?_
  rintro e w2 ⟨lb, ev1, ps1, rfl, hla, hpe, b2, hlb, hev, hfb⟩
  have hz12 := B1.out.size
  have C2 : Carry w.heap.size w2 lb ev1 ps1 l m := by
    have c := HC.out
    exact ⟨hla, hpe.trans hes.out, c.ok, c.sz, by omega, (fun b e => by have := hev b e; omega), c.len, c.nx⟩
  have B2 : Below w.heap.size w w2 := B1.out.trans (b2.mono hz12)
  have P2 : P 0 w2 Z0 := HSH.out.keep 0 w w2 Z0 (fun _ => False) HP.out (Only.of_below B2 (Nat.le_refl _)) (fun _ _ e => e)
  have K2 : ∀ r, BlkR lb ev1 ps1 (.slice none 0 0) [] r → ¬ Z0 r ∧ w.heap.size ≤ r := by
    intro r hr
    have hge : w.heap.size ≤ r := by
      rcases hr with q | q | q | ⟨p, hp, _, q⟩ | ⟨p, hp, _⟩
      · omega
      · have := hev r q; omega
      · cases q
      · have := hfb p hp r q; omega
      · cases hp
    exact ⟨fun hz => by have := (hZ0.out r hz).2; omega, hge⟩
  have B02 : Below w0.heap.size w0 w2 := HB0.out.trans (B2.mono HB0.out.size)
  have HC2 := Lib.hid C2
  have HP2 := Lib.hid P2
  have HK2 := Lib.hid K2
  have HB02 := Lib.hid B02
  have hw2 := B2.size
  have HLB := Lib.hid hlb
  clear C2 P2 K2 B02 B2 hla hpe hev hfb b2 CP hlb hes HC HP hZ0
  go_wp2_with fail
  go_loopw [11, 25] (fun gx i wr => ∃ (k : Nat) (ev : Value) (ps : List Pr) (Z : Nat → Prop) (gv : Value), gv = gx ∧ k ≤ eds.length ∧ i = .int .i64 k ∧ okOn l (eds.take k) ∧ Carry w.heap.size wr lb ev ps (lsOn l (eds.take k)) (m + k) ∧ P k wr Z ∧
    (∀ r, BlkR lb ev ps (.slice none 0 0) [] r → ¬ Z r ∧ w.heap.size ≤ r) ∧ wr.ownsRow w.heap.size 3 1 gv (idsOn l (eds.take k)).length ((idsOn l (eds.take k)).map encI) ∧ (∀ r, gv.ownBlock = some r → ¬ Z r ∧ ¬ BlkR lb ev ps (.slice none 0 0) [] r) ∧ Below w0.heap.size w0 wr ∧ w.heap.size ≤ wr.heap.size) (fun _ i _ => eds.length - (intOf i).toNat)
  case atStart =>
    refine ⟨0, ev1, ps1, Z0, .slice none 0 0, rfl, Nat.zero_le _, rfl, trivial, ?_, HP2.out, HK2.out, ⟨rfl, .inl ⟨rfl, rfl⟩⟩, (fun r e => by cases e), HB02.out, hw2⟩
    exact HC2.out
  case round =>
    obtain ⟨k, ev, ps, Z, gv, rfl, hk, rfl, hok, hC, hPk, hK, hown, hgb, hB, hwr⟩ := hrel
    by_cases hlt : k < eds.length
    · obtain ⟨ed, hed⟩ : ∃ ed, eds[k]? = some ed := ⟨_, List.getElem?_eq_getElem hlt⟩
      obtain ⟨b, off, fv, rfl, hbb, c0, c1, c2, hfl⟩ := PC.out k ed hed
      obtain ⟨fa, fc, rfl⟩ := hfl.form
      have hmem := List.mem_of_getElem? hed
      replace c0 := (hB.cell (p := ⟨b, off + k * 3, none⟩) hbb).trans c0
      replace c1 := (hB.cell (p := ⟨b, off + k * 3 + 1, none⟩) hbb).trans c1
      replace c2 := (hB.cell (p := ⟨b, off + k * 3 + 1 + 1, none⟩) hbb).trans c2
      obtain ⟨wa, hwa⟩ : ∃ wa, wa = wr.alloc (.cells #[.int .i64 ed.kind, .int .i64 ed.id, .slice fa ed.fields.length fc] 33) := ⟨_, rfl⟩
      have hba : Below wr.heap.size wr wa := by rw [hwa]; exact (Below.refl _ wr).alloc (Nat.le_refl _) _
      have hza : wa.heap.size = wr.heap.size + 1 := by rw [hwa]; simp
      have hEd : Cells wa wr.heap.size 33 #[.int .i64 ed.kind, .int .i64 ed.id, .slice fa ed.fields.length fc] := by rw [hwa]; exact Cells.new _ _ _
      have hCa := hC.below hba (Nat.le_refl _)
      have hPa : P k wa Z := HSH.out.keep k wr wa Z (fun _ => False) hPk (Only.of_below hba (Nat.le_refl _)) (fun _ _ e => e)
      have hBa : Below w0.heap.size w0 wa := hB.trans (hba.mono hB.size)
      have hZlt := HSH.out.lt k wr Z hPk
      have hlt9 : ∀ r, BlkR lb ev ps (.slice none 0 0) [] r → r < wr.heap.size := fun r hr => hC.str.lt hr
      have ASK := HSH.out.ask k ed (.slice fa ed.fields.length fc) wa Z lb ev ps (m + k) hed (GOOD.out ed hmem) hPa hBa hCa (by omega) (fun r hr => (hK r hr).1) (hfl.below hBa (Nat.le_refl _)) ⟨fa, fc, rfl⟩
      have owna : wa.ownsRow w.heap.size 3 1 gv (idsOn l (eds.take k)).length ((idsOn l (eds.take k)).map encI) := row_below hown hba (Nat.le_refl _)
      obtain ⟨ga, gc, rfl⟩ : ∃ A c, gv = .slice A (idsOn l (eds.take k)).length c := by
        rcases hown.2 with ⟨rfl, hn⟩ | ⟨g', cap', cur', rfl, _⟩
        · exact ⟨none, 0, by rw [hn]⟩
        · exact ⟨_, _, rfl⟩
      have GK := Lib.hid (GOOD.out ed hmem)
      have DONE : Hid (∀ (W1 : World) (Z' : Nat → Prop), P (k + 1) W1 Z' → Only Z wa W1 → (∀ r, Z' r → Z r ∨ wa.heap.size ≤ r) →
          Carry w.heap.size W1 lb ev ps (lsOn l (eds.take k)) (m + k) ∧ FldR W1 (.slice fa ed.fields.length fc) ed.fields ∧ Cells W1 wr.heap.size 33 #[.int .i64 ed.kind, .int .i64 ed.id, .slice fa ed.fields.length fc] ∧ Below w0.heap.size w0 W1 ∧ W1.ownsRow w.heap.size 3 1 (.slice ga (idsOn l (eds.take k)).length gc) (idsOn l (eds.take k)).length ((idsOn l (eds.take k)).map encI) ∧ (∀ r, Z' r → ¬ (r = lb ∨ ev.ownBlock = some r)) ∧ wr.heap.size < W1.heap.size) := by
        intro W1 Z' hP1 ho hz'
        have hB1 : Below w0.heap.size w0 W1 := hBa.trans (ho.to_below hBa.size (fun r hr e => by have := (hZlt r e).1; omega))
        refine ⟨hCa.only ho (fun r hr => (hK r hr).1), hfl.below hB1 (Nat.le_refl _), hEd.only ho (fun e => by have := (hZlt _ e).2; omega), hB1, row_only owna ho (fun r e => (hgb r e).1), ?_, by have := ho.size; omega⟩
        intro r hr hs
        have hbl : BlkR lb ev ps (.slice none 0 0) [] r := by
          rcases hs with q | q
          · exact .inl q
          · exact .inr (.inl q)
        rcases hz' r hr with q | q
        · exact (hK r hbl).1 q
        · have := hlt9 r hbl; omega
      have EDIT : Hid (∀ (W1 W2 : World) (Z' : Nat → Prop) (u ev' : Value) (ps' : List Pr), P (k + 1) W1 Z' → Only Z wa W1 → (∀ r, Z' r → Z r ∨ wa.heap.size ≤ r) → WrR W1 lb ev ps (stepE (lsOn l (eds.take k)) ed) u W2 ev' ps' →
          Carry w.heap.size W2 lb ev' ps' (lsOn l (eds.take (k + 1))) (m + (k + 1)) ∧ P (k + 1) W2 Z' ∧ (∀ r, BlkR lb ev' ps' (.slice none 0 0) [] r → ¬ Z' r ∧ w.heap.size ≤ r) ∧ W2.ownsRow w.heap.size 3 1 (.slice ga (idsOn l (eds.take k)).length gc) (idsOn l (eds.take k)).length ((idsOn l (eds.take k)).map encI) ∧
          (∀ r, (Value.slice ga (idsOn l (eds.take k)).length gc).ownBlock = some r → ¬ Z' r ∧ ¬ BlkR lb ev' ps' (.slice none 0 0) [] r) ∧ Below w0.heap.size w0 W2 ∧ Cells W2 wr.heap.size 33 #[.int .i64 ed.kind, .int .i64 ed.id, .slice fa ed.fields.length fc] ∧ wr.heap.size < W2.heap.size) := by
        intro W1 W2 Z' u ev' ps' hP1 ho hz' hR
        obtain ⟨d1, _, d3, d4, d5, d6, d7⟩ := DONE.out W1 Z' hP1 ho hz'
        have hZ'lt := HSH.out.lt (k + 1) W1 Z' hP1
        have hgl : ∀ r, (Value.slice ga (idsOn l (eds.take k)).length gc).ownBlock = some r → r < wr.heap.size := fun r e => (hown.lt r e).2
        refine ⟨?_, HSH.out.keep (k + 1) W1 W2 Z' _ hP1 hR.only d6, ?_, row_only d5 hR.only ?_, ?_, ?_, ?_, ?_⟩
        · have q := d1.blkEd (HS.out ed hmem).1 (HS.out ed hmem).2 (by omega) hR
          rw [lsOn_snoc hed]; exact q
        · intro r hr
          rcases hR.blks hr with q | q
          · refine ⟨fun e => ?_, (hK r q).2⟩
            rcases hz' r e with e | e
            · exact (hK r q).1 e
            · have := hlt9 r q; omega
          · refine ⟨fun e => by have := (hZ'lt r e).2; omega, by omega⟩
        · intro r e hs
          refine (hgb r e).2 ?_
          rcases hs with q | q
          · exact .inl q
          · exact .inr (.inl q)
        · intro r e
          have h1 := hgl r e
          refine ⟨fun z => ?_, fun hr => ?_⟩
          · rcases hz' r z with q | q
            · exact (hgb r e).1 q
            · omega
          · rcases hR.blks hr with q | q
            · exact (hgb r e).2 q
            · omega
        · refine d4.trans (hR.only.to_below d4.size (fun r hr e => ?_))
          have hbl : BlkR lb ev ps (.slice none 0 0) [] r := by
            rcases e with q | q
            · exact .inl q
            · exact .inr (.inl q)
          have h1 := (hK r hbl).2
          have h2 := HB0.out.size
          omega
        · refine d3.only hR.only (fun e => ?_)
          have hbl : BlkR lb ev ps (.slice none 0 0) [] wr.heap.size := by
            rcases e with q | q
            · exact .inl q
            · exact .inr (.inl q)
          have := hlt9 _ hbl
          omega
        · have := hR.only.size; omega
      have OKS : Hid ((stepE (lsOn l (eds.take k)) ed).bad = 0 → okOn l (eds.take (k + 1))) := fun h => okOn_snoc hed hok h
      have AT : Hid ((stepE (lsOn l (eds.take k)) ed).bad ≠ 0 → doB l eds = (((k : Nat) : Int), (stepE (lsOn l (eds.take k)) ed).bad)) := fun h => by rw [HDO.out]; exact doOn_at hed hok h
      have IDS : Hid (idsOn l (eds.take (k + 1)) = idsOn l (eds.take k) ++ (if ed.kind = 3 then [(stepE (lsOn l (eds.take k)) ed).id] else [])) := idsOn_snoc hed
      have hidl : (idsOn l (eds.take k)).length ≤ 51 := by
        have h1 := idsOn_len l (eds.take k)
        rw [List.length_take] at h1
        omega
      have h11 := step_le (lsOn l (eds.take k)) ed
      have F7 := Lib.hid (HF.out ed hmem)
      have HASK := Lib.hid ASK
      clear hed hok hC hPk hK hown hgb hB hba hEd hCa hPa hBa hZlt hlt9 ASK owna hfl hmem
      generalize hst : stepE (lsOn l (eds.take k)) ed = st at *
      have HST := Lib.hid hst
      clear hst
      generalize hids : idsOn l (eds.take k) = ids at *
      clear hids
      unfold ptr at HASK
      subst hwa
      go_wp2_with fail
      refine HASK.out.mono ?_
      rintro e W1 ⟨rfl, Z', hP1, ho1, hz1'⟩
      obtain ⟨d1, d2, d3, d4, d5, d6, d7⟩ := DONE.out W1 Z' hP1 ho1 hz1'
      have DO := do9_any d1 (by omega) ed (.slice fa ed.fields.length fc) d2 F7.out
      rw [HST.out] at DO
      have DO := Lib.hid DO
      have e0 : W1.cell? ⟨wr.heap.size, 0, none⟩ = some (.int .i64 ed.kind) := by rw [d3.cell 0]; rfl
      have e1 : W1.cell? ⟨wr.heap.size, 1, none⟩ = some (.int .i64 ed.id) := by rw [d3.cell 1]; rfl
      have e2 : W1.cell? ⟨wr.heap.size, 2, none⟩ = some (.slice fa ed.fields.length fc) := by rw [d3.cell 2]; rfl
      have HP1 := Lib.hid hP1
      have HO1 := Lib.hid ho1
      have HZ1 := Lib.hid hz1'
      have HD4 := Lib.hid d4
      clear d1 d2 d3 d4 d5 d6 hP1 ho1 hz1' HASK DONE
      unfold ptr at DO
      go_wp2_with fail
      refine DO.out.mono ?_
      rintro e W2 ⟨u, ev', ps', rfl, hR⟩
      obtain ⟨f1, f2, f3, f4, f5, f6, f7, f8⟩ := EDIT.out W1 W2 Z' u ev' ps' HP1.out HO1.out HZ1.out hR
      have herr := hR.err
      clear hR EDIT DO e0 e1 e2
      by_cases hb0 : st.bad = 0
      · obtain ⟨_, ⟨rfl, _⟩ | ⟨_, _, _, hx⟩⟩ := herr
        rotate_left
        · exact absurd hb0 hx
        rw [show errV st.bad = .nilIface by rw [hb0]; rfl]
        have OK1 := Lib.hid (OKS.out hb0)
        have g0 : W2.cell? ⟨wr.heap.size, 0, none⟩ = some (.int .i64 ed.kind) := by rw [f7.cell 0]; rfl
        by_cases h3 : ed.kind = 3
        · have IDS1 := IDS.out
          rw [if_pos h3] at IDS1
          have IDS1 := Lib.hid IDS1
          have HV9 : Hid (∀ (j : Nat) (u : Value), [encI st.id][j]? = some u → (W2.alloc (.cells #[.int .i64 st.id] 3)).cell? ((⟨W2.heap.size, 0, none⟩ : Addr).add j) = some u) := fun j u h => by
            have ea : (⟨W2.heap.size, 0, none⟩ : Addr).add j = ⟨W2.heap.size, j, none⟩ := by unfold Addr.add; split <;> simp_all
            rw [ea, (Cells.new W2 3 #[.int .i64 st.id]).cell j]
            simpa [encI] using h
          have HF1 := Lib.hid f1
          have HF2 := Lib.hid f2
          have HF3 := Lib.hid f3
          have HF4 := Lib.hid f4
          have HF5 := Lib.hid f5
          have HF6 := Lib.hid f6
          clear f1 f2 f3 f4 f5 f6 f7 IDS AT OKS
          rw [h3] at g0
          go_wp2_with (at_builtin; refine wpList_append_at rfl _ _ 48 rfl w.heap.size 3 i0 _ 1 8 Tryz.underlying48 hi hz0 hz1 hz2 rfl (by decide) _ _ _ rfl (HF4.out.alloc _) ⟨W2.heap.size, 0, none⟩ 1 1 _ rfl rfl HV9.out (by intro u hu; simp at hu; subst hu; rfl) (by unfold maxLen; omega) (by omega) (by simp only [World.size_alloc]; omega) ?_)
          intro gv' W4 own4 grow4 at4
          have at4' := at4.out
          have o4 : Only (fun r => (Value.slice ga ids.length gc).ownBlock = some r) W2 W4 :=
            (Only.of_below (S := fun r => (Value.slice ga ids.length gc).ownBlock = some r) ((Below.refl _ W2).alloc (Nat.le_refl _) (.cells #[.int .i64 st.id] 3)) (Nat.le_refl _)).grown grow4 (fun r e => .inl e)
          have hgl : ∀ r, (Value.slice ga ids.length gc).ownBlock = some r → w.heap.size ≤ r ∧ r < W2.heap.size := fun r e => HF4.out.lt r e
          have hblt : ∀ r, BlkR lb ev' ps' (.slice none 0 0) [] r → r < W2.heap.size := fun r hr => HF1.out.str.lt hr
          have hZlt := HSH.out.lt (k + 1) W2 Z' HF2.out
          have R1 : Carry w.heap.size W4 lb ev' ps' (lsOn l (eds.take (k + 1))) (m + (k + 1)) := HF1.out.only o4 (fun r hr e => (HF5.out r e).2 hr)
          have R2 : P (k + 1) W4 Z' := HSH.out.keep (k + 1) W2 W4 Z' _ HF2.out o4 (fun r hr e => (HF5.out r e).1 hr)
          have R4 : W4.ownsRow w.heap.size 3 1 gv' (idsOn l (eds.take (k + 1))).length ((idsOn l (eds.take (k + 1))).map encI) := by
            rw [IDS1.out, List.length_append, List.map_append]; exact own4
          have R5 : ∀ r, gv'.ownBlock = some r → ¬ Z' r ∧ ¬ BlkR lb ev' ps' (.slice none 0 0) [] r := by
            intro r e
            rcases at4' with q | q
            · exact HF5.out r (by rw [← q]; exact e)
            · rw [q] at e
              have e' : W2.heap.size + 1 = r := by simpa using e
              exact ⟨fun z => by have := (hZlt r z).2; omega, fun z => by have := hblt r z; omega⟩
          have R6 : Below w0.heap.size w0 W4 := HF6.out.trans (o4.to_below HF6.out.size (fun r hr e => by have := (hgl r e).1; have := HB0.out.size; omega))
          have hsz := o4.size
          have H1 := Lib.hid R1
          have H2 := Lib.hid R2
          have H4 := Lib.hid R4
          have H5 := Lib.hid R5
          have H6 := Lib.hid R6
          clear R1 R2 R4 R5 R6 o4 hgl hblt hZlt own4 grow4 at4 at4' HV9 HF1 HF2 HF4 HF5 HF6
          go_wp2_with fail
          go_roundw
          case rel => exact ⟨k + 1, ev', ps', Z', _, rfl, hlt, by go_num, OK1.out, H1.out, H2.out, HF3.out, H4.out, H5.out, H6.out, by omega⟩
          case measure => simp [intOf]; omega
        · have IDS1 := IDS.out
          rw [if_neg h3, List.append_nil] at IDS1
          have q3 : (ed.kind == 3) = false := by simpa using h3
          have R4 : W2.ownsRow w.heap.size 3 1 (.slice ga ids.length gc) (idsOn l (eds.take (k + 1))).length ((idsOn l (eds.take (k + 1))).map encI) := by rw [IDS1]; exact f4
          have H1 := Lib.hid f1
          have H2 := Lib.hid f2
          have H3 := Lib.hid f3
          have H4 := Lib.hid R4
          have H5 := Lib.hid f5
          have H6 := Lib.hid f6
          clear f1 f2 f3 f4 f5 f6 f7 IDS AT OKS R4 IDS1
          go_wp2_with fail
          go_roundw
          case rel => exact ⟨k + 1, ev', ps', Z', _, rfl, hlt, by go_num, OK1.out, H1.out, H2.out, H3.out, H4.out, H5.out, H6.out, by omega⟩
          case measure => simp [intOf]; omega
      · have FA := Lib.hid (fault_any k st.bad st.at_ u W2 herr hb0 (HG.out.below f6 (Nat.le_refl _)))
        have AT1 := AT.out hb0
        have hform : (∃ z, u = .iface 67 (.int .i64 z)) ∨ ∃ q, u = .iface 86 (.pointer (some ⟨q, 0, none⟩)) := by
          obtain ⟨_, ⟨rfl, _⟩ | ⟨_, ⟨q, _, rfl, _⟩, _, _⟩⟩ := herr
          · rw [errV_pos st.bad (by omega)]; exact .inl ⟨_, rfl⟩
          · exact .inr ⟨q, rfl⟩
        have FIN : Hid (∀ W3 u', Below W2.heap.size W2 W3 → FaultAt W2.heap.size W3 u' k st.bad → PlayR w0 w W3 l m eds P (.returned (.tuple #[.pointer none, .slice none 0 0, u']))) := by
          intro W3 u' b3 hfa
          refine ⟨f6.trans (b3.mono f6.size), by have := b3.size; omega, .inl ⟨by rw [AT1]; exact hb0, u', rfl, ?_⟩⟩
          rw [AT1]
          exact ErrZ.fault (hfa.mono (by omega)) hb0 h11
        clear herr f1 f2 f3 f4 f5 f6 f7 IDS AT OKS
        rcases hform with ⟨z, rfl⟩ | ⟨q, rfl⟩
        all_goals
          go_wp2_with fail
          refine FA.out.mono ?_
          rintro e w3 ⟨u', rfl, b3, hfa⟩
          have FIN3 := Lib.hid (FIN.out w3 u' b3 hfa)
          clear hfa b3
          go_wp2_with fail
          go_ret3
          exact FIN3.out
    · obtain rfl : k = eds.length := by omega
      rw [List.take_length] at hok hC hown
      have FIN : Hid (PlayR w0 w wr l m eds P (.returned (.tuple #[ptr lb, gv, .nilIface]))) := by
        show PlayR _ _ _ _ _ _ _ _
        exact ⟨hB, hwr, .inr ⟨by rw [HDO.out]; exact doOn_ok 0 l eds hok, HCZ.out, hok, lb, ev, ps, gv, Z, rfl, hC, hPk, hK, hown⟩⟩
      obtain ⟨ga, gc, rfl⟩ : ∃ A c, gv = .slice A (idsOn l eds).length c := by
        rcases hown.2 with ⟨rfl, hn⟩ | ⟨g', cap', cur', rfl, _⟩
        · exact ⟨none, 0, by rw [hn]⟩
        · exact ⟨_, _, rfl⟩
      clear PC hok hC hown hK hgb hPk
      unfold ptr at FIN
      go_wp2_with fail
      go_ret3
      exact FIN.out
end Go.Proofs.YtkcklnnmcmjnjaaGreatDoor

namespace Go.Proofs.YtkcklnnmcmjnjaaGreatDoor
open Go.RowKit Go.Shelf
attribute [local go_sem] Oper.semAt_some

end Go.Proofs.YtkcklnnmcmjnjaaGreatDoor

namespace Go.Proofs.YtkcklnnmcmjnjaaGreatDoor
open Go.RowKit Go.Shelf
attribute [local go_sem] Oper.semAt_some

/-- What owns nothing, shows nothing. -/
def NoShow (_ : Nat) (_ : World) (Z : Nat → Prop) : Prop := ∀ r, ¬ Z r
set_option maxRecDepth 100000 in
theorem shows_none (w0 : World) (N1 : Nat) (l0 : LS) (eds : List Ed) : Shows 63 #[] w0 N1 l0 eds NoShow := by
  refine ⟨enters_of Tryz.func63 (by kernel_rfl) rfl, fun j W Z h r hr => absurd hr (h r), fun j W W' Z S h _ _ => h, ?_⟩
  intro j ed fv W Z lb ev ps m hed _ hP hB hC hm hZ hfl hform
  obtain ⟨fa, fc, rfl⟩ := hform
  have hb : Below W.heap.size W (W.alloc (.cells #[.int .i64 ed.kind, .int .i64 ed.id, .slice fa ed.fields.length fc] 33)) := (Below.refl _ W).alloc (Nat.le_refl _) _
  have H : Hid (∃ Z', NoShow (j + 1) (W.alloc (.cells #[.int .i64 ed.kind, .int .i64 ed.id, .slice fa ed.fields.length fc] 33)) Z' ∧ Only Z W (W.alloc (.cells #[.int .i64 ed.kind, .int .i64 ed.id, .slice fa ed.fields.length fc] 33)) ∧ ∀ r, Z' r → Z r ∨ W.heap.size ≤ r) :=
    ⟨Z, hP, Only.of_below hb (Nat.le_refl _), fun r hr => .inl hr⟩
  clear hed hP hB hC hZ hfl hb
  unfold ptr
  show Calls _ _ #[.pointer (some ⟨lb, 0, none⟩), .agg #[.int .i64 ed.kind, .int .i64 ed.id, .slice fa ed.fields.length fc]] _ _
  go_enter Tryz.func63, Tryz.ntmps63
  go_wp2_with fail
  go_end0
  exact ⟨rfl, H.out⟩
/-- What Do comes to. -/
def DoR (w w' : World) (l : LS) (m : Nat) (eds : List Ed) (e : Ending) : Prop :=
  Below w.heap.size w w' ∧
  (((doB l eds).2 ≠ 0 ∧ ∃ u, e = .returned (.tuple #[.pointer none, .slice none 0 0, u]) ∧ ErrZ w.heap.size w' u (doB l eds).1 (doB l eds).2) ∨
  (doB l eds = (-9, 0) ∧ chkB eds = (-9, 0) ∧ okOn l eds ∧ ∃ lb ev ps gv, e = .returned (.tuple #[ptr lb, gv, .nilIface]) ∧ Carry w.heap.size w' lb ev ps (lsOn l eds) (m + eds.length) ∧
    (∀ r, BlkR lb ev ps (.slice none 0 0) [] r → w.heap.size ≤ r) ∧ w'.ownsRow w.heap.size 3 1 gv (idsOn l eds).length ((idsOn l eds).map encI)))
set_option maxRecDepth 100000 in
set_option maxHeartbeats 4000000 in
theorem Do_any {S00 : Nat} {w : World} (eds : List Ed) (v : Value) (hv : EdV w v eds) (hl : eds.length ≤ 51) (hf : Fines eds) (hsm : Smalls eds) (hg : ErrT w)
    {lb0 : Nat} {ev0 : Value} {ps0 : List Pr} {l : LS} {m : Nat} (C : Carry S00 w lb0 ev0 ps0 l m) (hm : m ≤ 5000) :
    Calls Tryz.prog 25 #[ptr lb0, v] w fun e w' => DoR w w' l m eds e := by
  have PL := Lib.hid (play_any (Below.refl _ w) eds v hv hl hf hsm hg C hm (shows_none w w.heap.size l eds) (Z0 := fun _ => False) (fun _ h => h))
  obtain ⟨A, cap, rfl, _⟩ := hv
  unfold ptr at *
  clear hf hsm hg C
  go_enter Tryz.func25, Tryz.ntmps25
  go_wp2_with fail
  refine PL.out.mono ?_
  rintro e w1 ⟨b1, _, ⟨h0, u, rfl, hz⟩ | ⟨h1, h2, h3, lb, ev, ps, gv, Z, rfl, hC, _, hK, hown⟩⟩
  · have R : Hid (DoR w w1 l m eds (.returned (.tuple #[.pointer none, .slice none 0 0, u]))) := ⟨b1, .inl ⟨h0, u, rfl, hz⟩⟩
    clear hz b1 PL
    go_wp2_with fail
    go_ret3
    exact R.out
  · have R : Hid (DoR w w1 l m eds (.returned (.tuple #[.pointer (some ⟨lb, 0, none⟩), gv, .nilIface]))) := ⟨b1, .inr ⟨h1, h2, h3, lb, ev, ps, gv, rfl, hC, (fun r hr => (hK r hr).2), hown⟩⟩
    clear hC hK hown b1 PL
    unfold ptr
    go_wp2_with fail
    go_ret3
    exact R.out
end Go.Proofs.YtkcklnnmcmjnjaaGreatDoor

