/- Texts put together: EN, NH, NF, NJ, EH. -/
import Derived.ArgAppend
import Derived.Test.YtflnlenkgbphpaaGreatDoorBaf1
import Derived.Test.YtflnlenkgbphpaaGreatDoorBaf2
import Derived.Test.YtflnlenkgbphpaaGreatDoorBaf3
import Derived.Test.YtflnlenkgbphpaaGreatDoorBaf4
import Derived.Test.YtflnlenkgbphpaaGreatDoorBaf5
import Derived.Test.YtflnlenkgbphpaaGreatDoorBaf6
import Derived.Test.YtflnlenkgbphpaaGreatDoorBaf7
import Derived.Test.YtflnlenkgbphpaaGreatDoorBaf8
import Derived.Test.YtflnlenkgbphpaaGreatDoorBaf9
import Derived.Test.YtflnlenkgbphpaaGreatDoorBaf10
import Derived.Test.YtflnlenkgbphpaaGreatDoorBaf11
import Derived.Test.YtflnlenkgbphpaaGreatDoorBaf12
import Derived.Test.YtflnlenkgbphpaaGreatDoorBaf13
import Derived.Test.YtflnlenkgbphpaaGreatDoorBaf14
import Derived.Test.YtflnlenkgbphpaaGreatDoorBaf15
import Derived.Test.YtflnlenkgbphpaaGreatDoorBaf16
import Derived.Test.YtflnlenkgbphpaaGreatDoorBaf17
import Derived.Test.YtflnlenkgbphpaaGreatDoorBaf18
import Derived.Test.YtflnlenkgbphpaaGreatDoorBaf19
import Derived.Test.YtflnlenkgbphpaaGreatDoorBag1
import Derived.Test.YtflnlenkgbphpaaGreatDoorBag2
import Derived.Test.YtflnlenkgbphpaaGreatDoorBag5
import Derived.Test.YtflnlenkgbphpaaGreatDoorBag6
set_option linter.unusedVariables false
namespace Go.Proofs.YtflnlenkgbphpaaGreatDoor
open Go.RowKit Go.Shelf

def ops_ow5 : List Oper := [
  { dst := some 13, op := Op.move (Operand.tmp 3), type := 22, pos := "num.go:120", after := #[], guard := none },
  { dst := some 14, op := Op.fieldAddr 33 (Operand.tmp 5) 0, type := 0, pos := "num.go:120", after := #[], guard := none },
  { dst := some 15, op := Op.load 3 (Operand.tmp 14), type := 3, pos := "num.go:120", after := #[{ on := 1, ground := Ground.data }], guard := none },
  { dst := some 16, op := Op.fieldAddr 33 (Operand.tmp 5) 1, type := 0, pos := "num.go:120", after := #[], guard := none },
  { dst := some 17, op := Op.load 3 (Operand.tmp 16), type := 3, pos := "num.go:120", after := #[{ on := 3, ground := Ground.data }], guard := none },
  { dst := some 18, op := Op.fieldAddr 33 (Operand.tmp 5) 2, type := 0, pos := "num.go:120", after := #[], guard := none },
  { dst := some 19, op := Op.load 31 (Operand.tmp 18), type := 31, pos := "num.go:120", after := #[{ on := 5, ground := Ground.data }], guard := none },
  { dst := some 20, op := Op.call { callee := Callee.value (Operand.func 37), args := #[Operand.tmp 19], argTypes := #[31] }, type := 31, pos := "num.go:120", after := #[{ on := 6, ground := Ground.data }], guard := none },
  { dst := some 21, op := Op.build 33 #[(0, Operand.tmp 15), (1, Operand.tmp 17), (2, Operand.tmp 20)], type := 33, pos := "num.go:120", after := #[{ on := 2, ground := Ground.data }, { on := 4, ground := Ground.data }, { on := 7, ground := Ground.data }], guard := none },
  { dst := some 22, op := Op.buildSlice 22 1 #[(0, Operand.tmp 21)], type := 22, pos := "num.go:120", after := #[{ on := 8, ground := Ground.data }], guard := none },
  { dst := some 23, op := Op.call { callee := Callee.builtin Builtin.append, args := #[Operand.tmp 13, Operand.tmp 22], argTypes := #[22, 22] }, type := 22, pos := "num.go:120", after := #[{ on := 0, ground := Ground.data }, { on := 9, ground := Ground.data }, { on := 7, ground := Ground.chain }], guard := none },
  { dst := some 3, op := Op.assign (Operand.tmp 23), type := 22, pos := "num.go:120", after := #[{ on := 10, ground := Ground.data }, { on := 10, ground := Ground.chain }, { on := 0, ground := Ground.phase }, { on := 1, ground := Ground.phase }, { on := 2, ground := Ground.phase }, { on := 3, ground := Ground.phase }, { on := 4, ground := Ground.phase }, { on := 5, ground := Ground.phase }, { on := 6, ground := Ground.phase }, { on := 7, ground := Ground.phase }, { on := 8, ground := Ground.phase }, { on := 9, ground := Ground.phase }, { on := 10, ground := Ground.phase }], guard := none }]
def dst_ow5 (i : Nat) : Option Nat := (ops_ow5[i]?).bind (·.dst)
theorem inj_ow5 : ∀ i, i < 10 → ∀ k, k < 10 → dst_ow5 i ≠ none → dst_ow5 i = dst_ow5 k → i = k := by decide +kernel
theorem lt_ow5 : ∀ i, i < 10 → (dst_ow5 i).getD 0 < 26 := by decide +kernel
theorem low_ow5 : ∀ i : Fin 12, ∀ e ∈ (ops_ow5[i.1]'(by exact i.2)).after, Region.binds .any e = true → e.on < i.1 := by decide +kernel
def pv_ow5 (eb lo : Nat) (ov : Value) (k i : Int) (fa : Option Addr) (fn fc : Nat) (PL : Value → World → Prop) : List (Value → World → Prop) := [
  fun v w => v = ov,
  fun v w => v = .pointer (some ⟨eb, 0, none⟩),
  fun v w => v = .int .i64 k,
  fun v w => v = .pointer (some ⟨eb, 1, none⟩),
  fun v w => v = .int .i64 i,
  fun v w => v = .pointer (some ⟨eb, 2, none⟩),
  fun v w => v = .slice fa fn fc,
  fun v w => PL v w,
  fun v w => ∃ u, v = .agg #[.int .i64 k, .int .i64 i, u] ∧ PL u w,
  fun v w => ∃ b u, v = .slice (some ⟨b, 0, none⟩) 1 1 ∧ PL u w ∧ lo ≤ b ∧ Cells w b 33 #[.int .i64 k, .int .i64 i, u]]
set_option maxRecDepth 100000 in
set_option maxHeartbeats 4000000 in
theorem region_ow5 (a0 : Act) (w0 : World) (eb lo : Nat) (ov : Value) (k i : Int) (fa : Option Addr) (fn fc : Nat) (PL : Value → World → Prop) (Q : Exit → Act → World → Prop)
    (hsz : a0.tmps.size = 26) (h3 : a0.tmps[3]? = some (ov)) (h5 : a0.tmps[5]? = some (.pointer (some ⟨eb, 0, none⟩)))
    (hE : ∀ W, Below w0.heap.size w0 W → W.cell? ⟨eb, 0, none⟩ = some (.int .i64 k) ∧ W.cell? ⟨eb, 1, none⟩ = some (.int .i64 i) ∧ W.cell? ⟨eb, 2, none⟩ = some (.slice fa fn fc)) (hlo : lo ≤ w0.heap.size)
    (hPM : ∀ v x y, Below x.heap.size x y → PL v x → PL v y) (hPF : ∀ v w, PL v w → ∃ fa fn fc, v = .slice fa fn fc)
    (hC7 : ∀ (W : World) (_ : Below w0.heap.size w0 W), Calls Tryz.prog 37 #[.slice fa fn fc] W fun e w => ∃ v, e = .returned v ∧ (PL v w) ∧ Below W.heap.size W w)
    (hQ : ∀ (y0 y1 y2 y3 y4 y5 y6 y7 y8 y9 : Value) (w : World), Below w0.heap.size w0 w → ((fun (v : Value) (w : World) => v = ov) y0 w) → ((fun (v : Value) (w : World) => ∃ b u, v = .slice (some ⟨b, 0, none⟩) 1 1 ∧ PL u w ∧ lo ≤ b ∧ Cells w b 33 #[.int .i64 k, .int .i64 i, u]) y9 w) → wpList Tryz.prog ops_ow5.toArray Q [{ dst := some 23, op := Op.call { callee := Callee.builtin Builtin.append, args := #[Operand.tmp 13, Operand.tmp 22], argTypes := #[22, 22] }, type := 22, pos := "num.go:120", after := #[{ on := 0, ground := Ground.data }, { on := 9, ground := Ground.data }, { on := 7, ground := Ground.chain }], guard := none }, { dst := some 3, op := Op.assign (Operand.tmp 23), type := 22, pos := "num.go:120", after := #[{ on := 10, ground := Ground.data }, { on := 10, ground := Ground.chain }, { on := 0, ground := Ground.phase }, { on := 1, ground := Ground.phase }, { on := 2, ground := Ground.phase }, { on := 3, ground := Ground.phase }, { on := 4, ground := Ground.phase }, { on := 5, ground := Ground.phase }, { on := 6, ground := Ground.phase }, { on := 7, ground := Ground.phase }, { on := 8, ground := Ground.phase }, { on := 9, ground := Ground.phase }, { on := 10, ground := Ground.phase }], guard := none }] { a0 with tmps := [(13, y0), (14, y1), (15, y2), (16, y3), (17, y4), (18, y5), (19, y6), (20, y7), (21, y8), (22, y9)].foldl (fun u p => u.setIfInBounds p.1 p.2) a0.tmps } w) :
    wpAny Tryz.prog .any ops_ow5.toArray Q ops_ow5.toArray.size (Array.replicate ops_ow5.toArray.size false) a0 w0 := by
  have M : AllM (pv_ow5 eb lo ov k i fa fn fc PL) := ⟨fun v x y hb h => h, fun v x y hb h => h, fun v x y hb h => h, fun v x y hb h => h, fun v x y hb h => h, fun v x y hb h => h, fun v x y hb h => h, fun v x y hb h => hPM v x y hb h, fun v x y hb h => by obtain ⟨u, e, h1⟩ := h; exact ⟨u, e, hPM u x y hb h1⟩, fun v x y hb h => by obtain ⟨b, u, e, h1, h2, h4⟩ := h; exact ⟨b, u, e, hPM u x y hb h1, h2, cells_kept h4 hb h4.lt⟩, trivial⟩
  refine wpAny_mono_tail 10 2 (by kernel_rfl) (by decide) a0 w0 dst_ow5 (pv_ow5 eb lo ov k i fa fn fc PL) M (by kernel_rfl) (by kernel_rfl) (by kernel_rfl)
    (fun i o _ ho => by unfold dst_ow5; rw [ho]; rfl)
    (fun i k d hi hk h1 h2 => inj_ow5 i hi k hk (by rw [h1]; intro q; cases q) (by rw [h1, h2]))
    (fun i d hi h => by have := lt_ow5 i hi; rw [h] at this; rw [hsz]; exact this)
    (fun i o e ho he hb => by
      obtain ⟨hi, rfl⟩ := List.getElem?_eq_some_iff.1 ho
      exact low_ow5 ⟨i, hi⟩ e he hb)
    ?step ?fin
  case fin =>
    intro a w hd hs hf hv hR
    obtain ⟨y0, hy0, pv0⟩ := hv 0 13 (by decide) rfl
    obtain ⟨y1, hy1, pv1⟩ := hv 1 14 (by decide) rfl
    obtain ⟨y2, hy2, pv2⟩ := hv 2 15 (by decide) rfl
    obtain ⟨y3, hy3, pv3⟩ := hv 3 16 (by decide) rfl
    obtain ⟨y4, hy4, pv4⟩ := hv 4 17 (by decide) rfl
    obtain ⟨y5, hy5, pv5⟩ := hv 5 18 (by decide) rfl
    obtain ⟨y6, hy6, pv6⟩ := hv 6 19 (by decide) rfl
    obtain ⟨y7, hy7, pv7⟩ := hv 7 20 (by decide) rfl
    obtain ⟨y8, hy8, pv8⟩ := hv 8 21 (by decide) rfl
    obtain ⟨y9, hy9, pv9⟩ := hv 9 22 (by decide) rfl
    rw [act_set' (a := a) (a0 := a0) [(13, y0), (14, y1), (15, y2), (16, y3), (17, y4), (18, y5), (19, y6), (20, y7), (21, y8), (22, y9)] hd hs (by
      intro p hp
      simp only [List.mem_cons, List.not_mem_nil, or_false] at hp
      rcases hp with rfl | rfl | rfl | rfl | rfl | rfl | rfl | rfl | rfl | rfl
      · exact hy0
      · exact hy1
      · exact hy2
      · exact hy3
      · exact hy4
      · exact hy5
      · exact hy6
      · exact hy7
      · exact hy8
      · exact hy9
      ) (fun j hj => hf j (fun k hk q => hj (by
        have : ∀ k, k < 10 → (dst_ow5 k).all (fun d => [13, 14, 15, 16, 17, 18, 19, 20, 21, 22].contains d) = true := by decide +kernel
        have h1 := this k hk
        rw [q] at h1
        simpa using h1)))]
    exact hQ y0 y1 y2 y3 y4 y5 y6 y7 y8 y9 w hR pv0 pv9
  case step =>
    intro i o a w hi ho hs hf dep hR
    have e3 := evT ((hf 3 (by decide +kernel)).trans h3)
    have e5 := evT ((hf 5 (by decide +kernel)).trans h5)
    rcases (by omega : i = 0 ∨ i = 1 ∨ i = 2 ∨ i = 3 ∨ i = 4 ∨ i = 5 ∨ i = 6 ∨ i = 7 ∨ i = 8 ∨ i = 9) with rfl | rfl | rfl | rfl | rfl | rfl | rfl | rfl | rfl | rfl
    · have ho2 : some _ = some o := ho
      obtain rfl := Option.some.inj ho2
      exact .inl ⟨wantN rfl, fun K hK => mo_move rfl e3 (hK _ _ (Below.refl _ _) rfl)⟩
    · have ho2 : some _ = some o := ho
      obtain rfl := Option.some.inj ho2
      exact .inl ⟨wantN rfl, fun K hK => mo_field (by simp [go_sem]) rfl e5 (hK _ _ (Below.refl _ _) rfl)⟩
    · have ho2 : some _ = some o := ho
      obtain rfl := Option.some.inj ho2
      obtain ⟨_, hv1, rfl⟩ : ∃ v, a.tmps[14]? = some v ∧ (fun (v : Value) (w : World) => v = .pointer (some ⟨eb, 0, none⟩)) v w := dep ⟨1, Ground.data⟩ (by first | simp | simp [ops_ow5]) rfl 14 rfl
      exact .inl ⟨wantN rfl, fun K hK => mo_load (by simp [go_sem, (hE w hR).1]) rfl (evT hv1) (hK _ _ (Below.refl _ _) rfl)⟩
    · have ho2 : some _ = some o := ho
      obtain rfl := Option.some.inj ho2
      exact .inl ⟨wantN rfl, fun K hK => mo_field (by simp [go_sem]) rfl e5 (hK _ _ (Below.refl _ _) rfl)⟩
    · have ho2 : some _ = some o := ho
      obtain rfl := Option.some.inj ho2
      obtain ⟨_, hv3, rfl⟩ : ∃ v, a.tmps[16]? = some v ∧ (fun (v : Value) (w : World) => v = .pointer (some ⟨eb, 1, none⟩)) v w := dep ⟨3, Ground.data⟩ (by first | simp | simp [ops_ow5]) rfl 16 rfl
      exact .inl ⟨wantN rfl, fun K hK => mo_load (by simp [go_sem, (hE w hR).2.1]) rfl (evT hv3) (hK _ _ (Below.refl _ _) rfl)⟩
    · have ho2 : some _ = some o := ho
      obtain rfl := Option.some.inj ho2
      exact .inl ⟨wantN rfl, fun K hK => mo_field (by simp [go_sem]) rfl e5 (hK _ _ (Below.refl _ _) rfl)⟩
    · have ho2 : some _ = some o := ho
      obtain rfl := Option.some.inj ho2
      obtain ⟨_, hv5, rfl⟩ : ∃ v, a.tmps[18]? = some v ∧ (fun (v : Value) (w : World) => v = .pointer (some ⟨eb, 2, none⟩)) v w := dep ⟨5, Ground.data⟩ (by first | simp | simp [ops_ow5]) rfl 18 rfl
      exact .inl ⟨wantN rfl, fun K hK => mo_load (by simp [go_sem, (hE w hR).2.2]) rfl (evT hv5) (hK _ _ (Below.refl _ _) rfl)⟩
    · have ho2 : some _ = some o := ho
      obtain rfl := Option.some.inj ho2
      obtain ⟨_, hv6, rfl⟩ : ∃ v, a.tmps[19]? = some v ∧ (fun (v : Value) (w : World) => v = .slice fa fn fc) v w := dep ⟨6, Ground.data⟩ (by first | simp | simp [ops_ow5]) rfl 19 rfl
      exact .inl ⟨wantN rfl, fun K hK => mo_call1 37 rfl (evT hv6) (enters_of (P := Tryz.prog) Tryz.func37 (by kernel_rfl) rfl) (hC7 w hR) (fun v w' h => hK v w' h.2 h.1)⟩
    · have ho2 : some _ = some o := ho
      obtain rfl := Option.some.inj ho2
      obtain ⟨_, hv2, rfl⟩ : ∃ v, a.tmps[15]? = some v ∧ (fun (v : Value) (w : World) => v = .int .i64 k) v w := dep ⟨2, Ground.data⟩ (by first | simp | simp [ops_ow5]) rfl 15 rfl
      obtain ⟨_, hv4, rfl⟩ : ∃ v, a.tmps[17]? = some v ∧ (fun (v : Value) (w : World) => v = .int .i64 i) v w := dep ⟨4, Ground.data⟩ (by first | simp | simp [ops_ow5]) rfl 17 rfl
      obtain ⟨z7, hv7, pv7⟩ : ∃ v, a.tmps[20]? = some v ∧ (fun (v : Value) (w : World) => PL v w) v w := dep ⟨7, Ground.data⟩ (by first | simp | simp [ops_ow5]) rfl 20 rfl
      exact .inl ⟨wantN rfl, fun K hK => by obtain ⟨fa1, fn1, fc1, rfl⟩ := hPF _ _ pv7; exact mo_build3 rfl (evT hv2) (evT hv4) (evT hv7) (hK _ _ (Below.refl _ _) ⟨_, rfl, pv7⟩)⟩
    · have ho2 : some _ = some o := ho
      obtain rfl := Option.some.inj ho2
      obtain ⟨z8, hv8, pv8⟩ : ∃ v, a.tmps[21]? = some v ∧ (fun (v : Value) (w : World) => ∃ u, v = .agg #[.int .i64 k, .int .i64 i, u] ∧ PL u w) v w := dep ⟨8, Ground.data⟩ (by first | simp | simp [ops_ow5]) rfl 21 rfl
      exact .inl ⟨wantN rfl, fun K hK => by obtain ⟨u1, rfl, h1⟩ := pv8; obtain ⟨fa1, fn1, fc1, rfl⟩ := hPF _ _ h1; exact mo_lit3 rfl (evT hv8) (hK _ _ ((Below.refl _ _).alloc (Nat.le_refl _) _) ⟨w.heap.size, _, rfl, hPM _ _ _ ((Below.refl _ _).alloc (Nat.le_refl _) _) h1, Nat.le_trans hlo hR.size, Cells.new _ _ _⟩)⟩
end Go.Proofs.YtflnlenkgbphpaaGreatDoor

namespace Go.Proofs.YtflnlenkgbphpaaGreatDoor

def cnt3 (its : List It) : Nat := (its.filter fun it => decide (it.kind = 3)).length
theorem cnt3_snoc (its : List It) (it : It) : cnt3 (its ++ [it]) = cnt3 its + if it.kind = 3 then 1 else 0 := by
  unfold cnt3
  rw [List.filter_append, List.length_append]
  congr 1
  by_cases h : it.kind = 3
  · rw [if_pos h, List.filter_cons, if_pos (by simpa using h)]; rfl
  · rw [if_neg h, List.filter_cons, if_neg (by simpa using h)]; rfl
def CntP (p : PS) : Prop := cnt3 p.items = p.stanzas
theorem CntP.endField {p : PS} (h : CntP p) : CntP (endFieldP p) := by
  unfold endFieldP
  split
  · exact h
  · exact h
theorem CntP.endItem {t : List UInt8} {p : PS} (h : CntP p) (kind e : Nat) (hk : kind ≠ 3) : CntP (endItemP t p kind e) := by
  show cnt3 (p.items ++ [_]) = p.stanzas
  rw [cnt3_snoc, if_neg (by show ((kind : Nat) : Int) ≠ 3; omega), h]; rfl
theorem CntP.endBlock {t : List UInt8} {p : PS} (h : CntP p) (e : Nat) : CntP (endBlockP t p e) := by
  unfold endBlockP
  split
  · exact h
  · split
    · exact h.endItem 2 e (by decide)
    · show cnt3 (p.items ++ [_]) = p.stanzas + 1
      rw [cnt3_snoc, if_pos (by rfl), h]
theorem CntP.went {p : PS} (h : CntP p) (x : Ln) : CntP (wentP p x) := by
  unfold wentP
  split <;> exact h
theorem CntP.then_ {p : PS} (h : CntP p) (x : Ln) : CntP (thenP p x) := by
  unfold thenP
  split
  · exact (h.went x).endField
  · exact h.went x
theorem CntP.put {t : List UInt8} {p : PS} (h : CntP p) (x : Ln) : CntP (putP t p x) := by
  unfold putP
  split
  · exact h
  · split
    · exact (h.endBlock x.at_).endItem 1 _ (by decide)
    · exact h
theorem CntP.take {t : List UInt8} {p q : PS} {x : Ln} (h : CntP p) (he : takeP t p x = .ok q) : CntP q := by
  obtain ⟨_, _, rfl⟩ := take_parts he
  exact (h.then_ x).put x
theorem CntP.run (t : List UInt8) : ∀ (xs : List Ln) (p q : PS), CntP p → runP t p xs = .ok q → CntP q
  | [], p, q, h, he => by cases he; exact h
  | x :: xs, p, q, h, he => by
    unfold runP at he
    cases ht : takeP t p x with
    | error e => rw [ht] at he; cases he
    | ok p1 =>
      rw [ht] at he
      exact CntP.run t xs p1 q (h.take ht) he
theorem parse_cnt {t : List UInt8} {its : List It} (h : parseL t = .ok its) : cnt3 its ≤ 400 := by
  obtain ⟨p, hr, h0, rfl, g, _⟩ := parse_good h
  have hc : CntP (endBlockP t (endFieldP p) t.length) := ((CntP.run t _ _ _ (by rfl) hr).endField).endBlock _
  rw [show cnt3 _ = _ from hc]
  exact g.st
theorem nums_from : ∀ (n : Int) (its : List It), 0 < n → (∀ m ∈ nums (fromOn n its), n ≤ m ∧ m < fromNext n its) ∧ (nums (fromOn n its)).Nodup ∧ (nums (fromOn n its)).length = cnt3 its ∧ n ≤ fromNext n its
  | n, [], h => ⟨(fun m hm => by cases hm), List.nodup_nil, rfl, Int.le_refl _⟩
  | n, it :: r, h => by
    by_cases hk : it.kind = 3
    · obtain ⟨a, b, c, d⟩ := nums_from (n + 1) r (by omega)
      have e1 : nums (fromOn n (it :: r)) = n :: nums (fromOn (n + 1) r) := by
        unfold nums
        rw [fromOn, if_pos hk, List.map_cons, List.filter_cons, if_pos (by simpa using h)]
      have e2 : fromNext n (it :: r) = fromNext (n + 1) r := by rw [fromNext, if_pos hk]
      rw [e1, e2]
      refine ⟨fun m hm => ?_, List.nodup_cons.2 ⟨fun q => ?_, b⟩, ?_, by omega⟩
      · rcases List.mem_cons.1 hm with rfl | hm
        · exact ⟨Int.le_refl _, by omega⟩
        · have := a m hm; exact ⟨by omega, this.2⟩
      · have := (a n q).1; omega
      · unfold cnt3 at c ⊢
        rw [List.length_cons, c, List.filter_cons, if_pos (by simpa using hk)]; rfl
    · obtain ⟨a, b, c, d⟩ := nums_from n r h
      have e1 : nums (fromOn n (it :: r)) = nums (fromOn n r) := by
        unfold nums
        rw [fromOn, if_neg hk, List.map_cons, List.filter_cons, if_neg (by simp)]
      have e2 : fromNext n (it :: r) = fromNext n r := by rw [fromNext, if_neg hk]
      rw [e1, e2]
      refine ⟨a, b, ?_, d⟩
      unfold cnt3 at c ⊢
      rw [c, List.filter_cons, if_neg (by simpa using hk)]
theorem from_ok {t : List UInt8} {its : List It} (h : parseL t = .ok its) : OkL (fromL its) := by
  obtain ⟨a, b, c, d⟩ := nums_from 1 its (by decide)
  refine ⟨from_wf 1 its (by decide), by show 0 < fromNext 1 its; omega, fun n hn => (a n hn).2, b, ?_⟩
  rw [← nums_len]
  show (nums (fromOn 1 its)).length ≤ 400
  rw [c]; exact parse_cnt h
end Go.Proofs.YtflnlenkgbphpaaGreatDoor

namespace Go.Proofs.YtflnlenkgbphpaaGreatDoor
open Go.RowKit Go.Shelf
attribute [local go_sem] Oper.semAt_some

theorem parseA7 : parseL [65, 58, 32, 49, 10] = .ok [⟨3, [65, 58, 32, 49, 10], [([65], [49])]⟩] := by kernel_rfl
theorem fromA7 : fromL [⟨3, [65, 58, 32, 49, 10], [([65], [49])]⟩] = ⟨[(⟨3, [65, 58, 32, 49, 10], [([65], [49])]⟩, 1)], 2⟩ := by kernel_rfl
theorem wfA7 : WF [((⟨3, [65, 58, 32, 49, 10], [([65], [49])]⟩ : It), (1 : Int))] := by
  intro e he
  rw [List.mem_singleton.1 he]
  exact .inl ⟨rfl, by decide⟩
/-- Insert by a list whose stanzas are well numbered. -/
theorem insert_R (lb : Nat) (ev : Value) (ps : List Pr) (nx id : Int) (fs : List Fld) (v : Value) (w : World) (h : LA w lb ev ps nx) (hwf : WF (ps.map Prod.fst)) (h4 : lenR (ps.map Prod.fst) ≤ 400) (hps : ps.length ≤ 10000) (hnx : -1000000 ≤ nx ∧ nx ≤ 1000000) (hs : FldR w v fs) (hfs : Fine7 fs) :
    Calls Tryz.prog 104 #[ptr lb, .int .i64 id, v] w fun e w' => ∃ u ev' ps', e = .returned (.tuple #[.int .i64 (insertR ⟨ps.map Prod.fst, nx⟩ id fs).id, u]) ∧ WrR w lb ev ps (insertR ⟨ps.map Prod.fst, nx⟩ id fs) u w' ev' ps' := by
  have := insert_list lb ev ps nx id fs v w h hps hnx hs hfs
  rw [gapP_R hwf, full_R hwf h4, show insertW (gapR (ps.map Prod.fst) id) (decide (400 ≤ lenR (ps.map Prod.fst))) ⟨ps.map Prod.fst, nx⟩ fs = insertR ⟨ps.map Prod.fst, nx⟩ id fs by rw [insertR_W]] at this
  exact this
theorem len_R (lb : Nat) (ev : Value) (ps : List Pr) (nx : Int) (w : World) (h : LR w lb ev ps nx) (hwf : WF (ps.map Prod.fst)) (hps : ps.length ≤ 1000000) :
    Calls Tryz.prog 35 #[ptr lb] w fun e w' => e = .returned (.int .i64 (lenR (ps.map Prod.fst) : Nat)) ∧ Below w.heap.size w w' := by
  have := len_any lb ev ps nx w h hps
  rw [stzP_len hwf] at this
  exact this
end Go.Proofs.YtflnlenkgbphpaaGreatDoor

namespace Go.Proofs.YtflnlenkgbphpaaGreatDoor
open Go.RowKit Go.Shelf

/-- Entries of a modest size. -/
def SzL (es : List En) : Prop := ∀ e ∈ es, e.1.raw.length ≤ 100000 ∧ e.1.fields.length ≤ 1000000
theorem edit_mem (l : LS) (kind id : Int) (fs : List Fld) : ∀ e ∈ (editR l kind id fs).ls.es, e ∈ l.es ∨ (e.1 = itemOf fs ∧ chkN fs = 0) := by
  intro e he
  unfold editR at he
  split at he
  · unfold replaceR at he
    split at he
    · exact .inl he
    · rename_i k hk
      split at he
      · rename_i hc
        have he' : e ∈ setE l.es k (itemOf fs) := he
        unfold setE at he'
        obtain ⟨j, hj⟩ := List.getElem?_of_mem he'
        rw [List.getElem?_modify] at hj
        cases hx : l.es[j]? with
        | none => rw [hx] at hj; cases hj
        | some y =>
          rw [hx] at hj
          have hj' : (if k = j then (itemOf fs, y.2) else y) = e := Option.some.inj hj
          by_cases q : k = j
          · rw [if_pos q] at hj'
            rw [← hj']; exact .inr ⟨rfl, hc⟩
          · rw [if_neg q] at hj'
            rw [← hj']; exact .inl (List.mem_of_getElem? hx)
      · exact .inl he
  · split at he
    · unfold deleteR at he
      split at he
      · exact .inl he
      · have he' : e ∈ cutE l.es _ := he
        unfold cutE at he'
        rcases List.mem_append.1 he' with q | q
        · exact .inl (List.mem_of_mem_take q)
        · exact .inl (List.mem_of_mem_drop q)
    · unfold insertR at he
      split at he
      · exact .inl he
      · split at he
        · rename_i hc
          split at he
          · exact .inl he
          · have he' : e ∈ putE l.es _ (itemOf fs, l.next) := he
            unfold putE at he'
            rcases List.mem_append.1 he' with q | q
            · exact .inl (List.mem_of_mem_take q)
            · rcases List.mem_cons.1 q with q | q
              · rw [q]; exact .inr ⟨rfl, hc⟩
              · exact .inl (List.mem_of_mem_drop q)
        · exact .inl he
/-- The list that a law carries: its blocks lie at or above S0. -/
structure Carry (S0 : Nat) (w : World) (lb : Nat) (ev : Value) (ps : List Pr) (l : LS) (m : Nat) : Prop where
  la : LA w lb ev ps l.next
  es : ps.map Prod.fst = l.es
  ok : OkL l
  sz : SzL l.es
  lb0 : S0 ≤ lb
  ev0 : ∀ b, ev.ownBlock = some b → S0 ≤ b
  len : l.es.length ≤ m
  nx : l.next ≤ m + 1
theorem Carry.wf {S0 : Nat} {w : World} {lb : Nat} {ev : Value} {ps : List Pr} {l : LS} {m : Nat} (h : Carry S0 w lb ev ps l m) : WF (ps.map Prod.fst) := by rw [h.es]; exact h.ok.wf
theorem Carry.below {S0 : Nat} {w w' : World} {lb : Nat} {ev : Value} {ps : List Pr} {l : LS} {m N : Nat} (h : Carry S0 w lb ev ps l m) (hb : Below N w w') (hN : w.heap.size ≤ N) : Carry S0 w' lb ev ps l m :=
  ⟨h.la.below hb hN, h.es, h.ok, h.sz, h.lb0, h.ev0, h.len, h.nx⟩
theorem Carry.ents {S0 : Nat} {w : World} {lb : Nat} {ev : Value} {ps : List Pr} {l : LS} {m : Nat} (h : Carry S0 w lb ev ps l m) (hm : m ≤ 10000) : EntsOk ps := by
  have hmem : ∀ p ∈ ps, p.1 ∈ l.es := fun p hp => by rw [← h.es]; exact List.mem_map_of_mem hp
  have hl : ps.length = l.es.length := by rw [← h.es, List.length_map]
  refine ⟨by have := h.len; omega, fun p hp => (h.sz _ (hmem p hp)).1, fun p hp => (h.sz _ (hmem p hp)).2, fun p hp => ?_⟩
  rcases h.ok.wf _ (hmem p hp) with ⟨_, q⟩ | ⟨_, q⟩
  · have hn : p.1.2 ∈ nums l.es := by
      unfold nums
      exact List.mem_filter.2 ⟨List.mem_map_of_mem (hmem p hp), by simpa using q⟩
    have := h.ok.lt _ hn
    have := h.nx
    omega
  · omega
theorem Carry.str {S0 : Nat} {w : World} {lb : Nat} {ev : Value} {ps : List Pr} {l : LS} {m : Nat} (h : Carry S0 w lb ev ps l m) : StR w lb ev ps l.next (.slice none 0 0) [] :=
  ⟨h.la, entsQ_none w, (fun b e => by cases e), (fun p hp => by cases hp)⟩
theorem SzL.edit {l : LS} (h : SzL l.es) (kind id : Int) {fs : List Fld} (h1 : (foldG fs).length ≤ 100000) (h2 : fs.length ≤ 1000000) : SzL (editR l kind id fs).ls.es := fun e he => by
  rcases edit_mem l kind id fs e he with q | ⟨q, _⟩
  · exact h e q
  · rw [q]; exact ⟨h1, h2⟩
/-- Behind an edit (of whatever kind, by whatever call) the list is carried on. -/
theorem Carry.edit {S0 : Nat} {w w' : World} {lb : Nat} {ev ev' : Value} {ps ps' : List Pr} {l : LS} {m : Nat} (h : Carry S0 w lb ev ps l m) (kind id : Int) {fs : List Fld} (h1 : (foldG fs).length ≤ 100000) (h2 : fs.length ≤ 1000000)
    (la : LA w' lb ev' ps' (editR l kind id fs).ls.next) (es : ps'.map Prod.fst = (editR l kind id fs).ls.es) (hS : S0 ≤ w.heap.size) (hev : ∀ b, ev'.ownBlock = some b → ev.ownBlock = some b ∨ w.heap.size ≤ b) : Carry S0 w' lb ev' ps' (editR l kind id fs).ls (m + 1) := by
  obtain ⟨a, _, c⟩ := edit_len l kind id fs
  have hl := h.len
  have hn := h.nx
  refine ⟨la, es, h.ok.edit kind id fs, h.sz.edit kind id h1 h2, h.lb0, fun b e => ?_, by omega, by omega⟩
  rcases hev b e with q | q
  · exact h.ev0 b q
  · omega
end Go.Proofs.YtflnlenkgbphpaaGreatDoor

namespace Go.Proofs.YtflnlenkgbphpaaGreatDoor
open Go.RowKit Go.Shelf
attribute [local go_sem] Oper.semAt_some

theorem WrR.from {w w1 w' : World} {lb : Nat} {ev u ev' : Value} {ps ps' : List Pr} {d : Did} (h : WrR w1 lb ev ps d u w' ev' ps') (hb : Below w.heap.size w w1) : WrR w lb ev ps d u w' ev' ps' := by
  refine ⟨h.la, h.es, ?_, ?_, h.err.mono hb.size, fun p hp => ?_⟩
  · exact (Only.of_below (S := fun r => r = lb ∨ ev.ownBlock = some r) hb (Nat.le_refl _)).trans h.only (fun r _ e => e)
  · rcases h.blk with q | ⟨b, q, hq⟩
    · exact .inl q
    · exact .inr ⟨b, q, by have := hb.size; omega⟩
  · rcases h.mem p hp with q | q
    · exact .inl q
    · exact .inr (fun b e => by have := q b e; have := hb.size; omega)
theorem stepE_1 (l : LS) {ed : Ed} (h : ed.kind = 1) : stepE l ed = replaceR l ed.id ed.fields := by unfold stepE editR; rw [if_pos h]
theorem stepE_2 (l : LS) {ed : Ed} (h : ed.kind = 2) : stepE l ed = deleteR l ed.id := by unfold stepE editR; rw [if_neg (by omega), if_pos h]
theorem stepE_3 (l : LS) {ed : Ed} (h1 : ed.kind ≠ 1) (h2 : ed.kind ≠ 2) : stepE l ed = insertR l ed.id ed.fields := by unfold stepE editR; rw [if_neg h1, if_neg h2]
theorem replaceR_id9 (l : LS) (id : Int) (fs : List Fld) : (replaceR l id fs).id = 0 := by
  unfold replaceR
  split
  · rfl
  · split <;> rfl
theorem deleteR_id9 (l : LS) (id : Int) : (deleteR l id).id = 0 := by
  unfold deleteR
  split <;> rfl
set_option maxRecDepth 100000 in
set_option maxHeartbeats 4000000 in
theorem do9_any {S0 : Nat} {w : World} {lb : Nat} {ev : Value} {ps : List Pr} {l : LS} {m : Nat} (C : Carry S0 w lb ev ps l m) (hm : m ≤ 10000) (ed : Ed) (fv : Value) (hf : FldR w fv ed.fields) (h7 : Fine7 ed.fields) :
    Calls Tryz.prog 70 #[ptr lb, .agg #[.int .i64 ed.kind, .int .i64 ed.id, fv]] w fun e w' => ∃ u ev' ps', e = .returned (.tuple #[.int .i64 (stepE l ed).id, u]) ∧ WrR w lb ev ps (stepE l ed) u w' ev' ps' := by
  obtain ⟨fa, fc, rfl⟩ := hf.form
  obtain ⟨wa, hwa⟩ : ∃ wa, wa = w.alloc (.cells #[.int .i64 ed.kind, .int .i64 ed.id, .slice fa ed.fields.length fc] 33) := ⟨_, rfl⟩
  have hba : Below w.heap.size w wa := by rw [hwa]; exact (Below.refl _ w).alloc (Nat.le_refl _) _
  have Ca := C.below hba (Nat.le_refl _)
  have hl : ps.length ≤ m := by have := C.len; rw [← C.es, List.length_map] at this; exact this
  have hnx := C.nx
  have hp := C.ok.pos
  have hwf := C.wf
  have hfa := hf.below hba (Nat.le_refl _)
  have el : (⟨ps.map Prod.fst, l.next⟩ : LS) = l := by rw [C.es]
  by_cases h1 : ed.kind = 1
  · have R := replace_list lb ev ps l.next ed.id ed.fields (.slice fa ed.fields.length fc) wa Ca.la (by omega) hfa h7
    rw [findP_R hwf, show replaceW (findR (ps.map Prod.fst) ed.id) ⟨ps.map Prod.fst, l.next⟩ ed.fields = replaceR ⟨ps.map Prod.fst, l.next⟩ ed.id ed.fields by rw [replaceR_W], el] at R
    rw [stepE_1 l h1, replaceR_id9]
    have R := Lib.hid R
    have FR : Hid (∀ u w' ev' ps', WrR wa lb ev ps (replaceR l ed.id ed.fields) u w' ev' ps' → WrR w lb ev ps (replaceR l ed.id ed.fields) u w' ev' ps') := fun u w' ev' ps' h => h.from hba
    generalize replaceR l ed.id ed.fields = dd at *
    clear hba Ca C hf hfa hwf el
    rw [h1] at hwa ⊢
    subst hwa
    unfold ptr at *
    go_enter Tryz.func70, Tryz.ntmps70
    go_wp2_with fail
    refine R.out.mono ?_
    rintro e w2 ⟨u, ev', ps', rfl, hR⟩
    have H := FR.out _ _ _ _ hR
    clear hR R FR
    go_wp2_with fail
    go_ret2
    exact ⟨u, ev', ps', rfl, H⟩
  · by_cases h2 : ed.kind = 2
    · have R := delete_list lb ev ps l.next ed.id wa Ca.la (by omega)
      rw [findP_R hwf, show deleteW (findR (ps.map Prod.fst) ed.id) ⟨ps.map Prod.fst, l.next⟩ = deleteR ⟨ps.map Prod.fst, l.next⟩ ed.id by rw [deleteR_W], el] at R
      rw [stepE_2 l h2, deleteR_id9]
      have R := Lib.hid R
      have FR : Hid (∀ u w' ev' ps', WrR wa lb ev ps (deleteR l ed.id) u w' ev' ps' → WrR w lb ev ps (deleteR l ed.id) u w' ev' ps') := fun u w' ev' ps' h => h.from hba
      generalize deleteR l ed.id = dd at *
      clear hba Ca C hf hfa hwf el
      rw [h2] at hwa ⊢
      subst hwa
      unfold ptr at *
      go_enter Tryz.func70, Tryz.ntmps70
      go_wp2_with fail
      refine R.out.mono ?_
      rintro e w2 ⟨u, ev', ps', rfl, hR⟩
      have H := FR.out _ _ _ _ hR
      clear hR R FR
      go_wp2_with fail
      go_ret2
      exact ⟨u, ev', ps', rfl, H⟩
    · have R := insert_R lb ev ps l.next ed.id ed.fields (.slice fa ed.fields.length fc) wa Ca.la hwf (by rw [C.es]; exact C.ok.len) (by omega) (by omega) hfa h7
      rw [el] at R
      rw [stepE_3 l h1 h2]
      have R := Lib.hid R
      have FR : Hid (∀ u w' ev' ps', WrR wa lb ev ps (insertR l ed.id ed.fields) u w' ev' ps' → WrR w lb ev ps (insertR l ed.id ed.fields) u w' ev' ps') := fun u w' ev' ps' h => h.from hba
      generalize insertR l ed.id ed.fields = dd at *
      have q1 : (ed.kind == 1) = false := by simpa using h1
      have q2 : (ed.kind == 2) = false := by simpa using h2
      clear hba Ca C hf hfa hwf el
      subst hwa
      unfold ptr at *
      go_enter Tryz.func70, Tryz.ntmps70
      go_wp2_with fail
      refine R.out.mono ?_
      rintro e w2 ⟨u, ev', ps', rfl, hR⟩
      have H := FR.out _ _ _ _ hR
      clear hR R FR
      go_wp2_with fail
      go_ret2
      exact ⟨u, ev', ps', rfl, H⟩
/-- What shows each edit, and what it owns (Z: the blocks that are its own by now). -/
structure Shows (g : Nat) (cb : Array Value) (w0 : World) (N1 : Nat) (l0 : LS) (eds : List Ed) (P : Nat → World → (Nat → Prop) → Prop) : Prop where
  eg : ∀ args w, (callFunc g args).run Tryz.prog w = .ok (.enter g args) w
  lt : ∀ j W Z, P j W Z → ∀ r, Z r → w0.heap.size ≤ r ∧ r < W.heap.size
  keep : ∀ j W W' Z (S : Nat → Prop), P j W Z → Only S W W' → (∀ r, Z r → ¬ S r) → P j W' Z
  ask : ∀ (j : Nat) (ed : Ed) (fv : Value) (W : World) (Z : Nat → Prop) (lb : Nat) (ev : Value) (ps : List Pr) (m : Nat), eds[j]? = some ed → goodE ed = 0 → P j W Z → Below w0.heap.size w0 W → Carry N1 W lb ev ps (lsOn l0 (eds.take j)) m → m ≤ 10000 → (∀ r, BlkR lb ev ps (.slice none 0 0) [] r → ¬ Z r) → FldR W fv ed.fields → (∃ A c, fv = .slice A ed.fields.length c) →
    Calls Tryz.prog g (#[ptr lb, .agg #[.int .i64 ed.kind, .int .i64 ed.id, fv]] ++ cb) W fun e W' => e = .returned (.tuple #[]) ∧ ∃ Z', P (j + 1) W' Z' ∧ Only Z W W' ∧ ∀ r, Z' r → Z r ∨ W.heap.size ≤ r
theorem Carry.blkEd {S0 : Nat} {w w' : World} {lb : Nat} {ev ev' u : Value} {ps ps' : List Pr} {l : LS} {m : Nat} (h : Carry S0 w lb ev ps l m) {ed : Ed} (h1 : (foldG ed.fields).length ≤ 100000) (h2 : ed.fields.length ≤ 1000000) (hS : S0 ≤ w.heap.size) (R : WrR w lb ev ps (stepE l ed) u w' ev' ps') : Carry S0 w' lb ev' ps' (stepE l ed).ls (m + 1) :=
  h.edit ed.kind ed.id h1 h2 R.la R.es hS (fun b e => by
    rcases R.blk with q | ⟨b', q, hq⟩
    · exact .inl (by rw [← q]; exact e)
    · right; rw [q] at e; cases e; exact hq)
theorem WrR.blks {w w' : World} {lb : Nat} {ev u ev' : Value} {ps ps' : List Pr} {d : Did} (h : WrR w lb ev ps d u w' ev' ps') {r : Nat} (hr : BlkR lb ev' ps' (.slice none 0 0) [] r) : BlkR lb ev ps (.slice none 0 0) [] r ∨ w.heap.size ≤ r := by
  rcases hr with q | q | q | ⟨p, hp, hne, q⟩ | ⟨p, hp, _⟩
  · exact .inl (.inl q)
  · rcases h.blk with e | ⟨b, e, hb⟩
    · exact .inl (.inr (.inl (by rw [← e]; exact q)))
    · rw [e] at q; cases q; exact .inr hb
  · cases q
  · rcases h.mem p hp with e | e
    · exact .inl (.inr (.inr (.inr (.inl ⟨p, e, hne, q⟩))))
    · exact .inr (e r q)
  · cases hp
theorem Carry.only {S0 : Nat} {w w' : World} {lb : Nat} {ev : Value} {ps : List Pr} {l : LS} {m : Nat} {S : Nat → Prop} (h : Carry S0 w lb ev ps l m) (g : Only S w w') (hs : ∀ r, BlkR lb ev ps (.slice none 0 0) [] r → ¬ S r) : Carry S0 w' lb ev ps l m :=
  ⟨(h.str.only g hs).la, h.es, h.ok, h.sz, h.lb0, h.ev0, h.len, h.nx⟩
end Go.Proofs.YtflnlenkgbphpaaGreatDoor

