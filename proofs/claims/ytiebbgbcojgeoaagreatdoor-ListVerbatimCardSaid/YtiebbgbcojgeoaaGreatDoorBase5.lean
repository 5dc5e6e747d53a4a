/- Texts put together: QJ, UG, UH, UI, UJ, UL, TM, UM, UN, UO, UP, UQ. -/
import Derived.Deep.RegionHeld3
import Derived.Shelf.Spec.SlicesInsertGrow
import Derived.ArgAppend
import Derived.Test.YtiebbgbcojgeoaaGreatDoorBase4
set_option linter.unusedVariables false
/- The document's Parse, region 29: what comes of it, in any order. -/
namespace Go.Proofs.YtiebbgbcojgeoaaGreatDoor
open Go.RowKit Go.Shelf

def fl (l : Array Bool) (j : Nat) : Bool := l.getD j false
theorem fl_set {l : Array Bool} {i : Nat} (hi : i < l.size) (j : Nat) : fl (l.setIfInBounds i true) j = if j = i then true else fl l j := by
  unfold fl
  rw [Array.getD_eq_getD_getElem?, Array.getD_eq_getD_getElem?, Array.getElem?_setIfInBounds]
  by_cases h : i = j
  · subst h; simp [hi]
  · rw [if_neg h, if_neg (Ne.symm h)]
theorem wpOp29 {Q : Exit → Act → World → Prop} {K : Act → World → Prop} {a : Act} {w : World} {i : Nat} {o : Oper} (ho : ops29[i]? = some o) (hg : o.guard = none) (h : Oper.wp Tryz.prog o a w K Q) : wpOp Tryz.prog ops29 Q i K a w := by
  unfold wpOp
  rw [ho]
  show (if Region.wanted o (yielded ops29 a.tmps) = true then _ else _)
  rw [if_pos (by simp [Region.wanted, hg])]
  exact .inl h
set_option maxHeartbeats 1000000 in
theorem go_append0 {o : Oper} {a : Act} {w : World} {K : Act → World → Prop} {Q : Exit → Act → World → Prop} {s x : Operand} {p : Addr} (ho : o.op = Op.call { callee := Callee.builtin Builtin.append, args := #[s, x], argTypes := #[36, 36] }) (hs : a.eval s = .slice (some p) 0 0) (hx : a.eval x = .slice none 0 0) (hK : K (a.put o.dst (.slice (some p) 0 0)) w) : Oper.wp Tryz.prog o a w K Q := by
  have hb : ∀ ty, (Builtin.append_ #[36, 36] ty #[.slice (some p) 0 0, .slice none 0 0]).run Tryz.prog w = .ok (.slice (some p) 0 0) w := fun ty => by kernel_rfl
  unfold Oper.wp
  simp [execOp, ho, resolve, invoke, builtin, hs, hx, hb, Result.andThen]
  exact hK
theorem go_append {o : Oper} {a : Act} {w : World} {K : Act → World → Prop} {Q : Exit → Act → World → Prop} {s x : Operand} (hg : o.guard = none) (ho : o.op = Op.call { callee := Callee.builtin Builtin.append, args := #[s, x], argTypes := #[36, 36] })
    (v : Value) (n : Nat) (xs : List Value) (hs : a.eval s = v) (hown : w.ownsRow 0 73 2 v n xs)
    (ad : Addr) (m c : Nat) (news : List Value) (hx : a.eval x = .slice (some ad) m c) (hl : news.length = m * 2) (hnews : ∀ j u, news[j]? = some u → w.cell? (ad.add j) = some u) (h1 : ∀ u ∈ news, u.oneCell' = true)
    (hn : n + m ≤ 1000000)
    (hK : ∀ v' w', w'.ownsRow 0 73 2 v' (n + m) (xs ++ news) → w.grownBy w' v.ownBlock → (v'.ownBlock = v.ownBlock ∨ v'.ownBlock = some w.heap.size) → K (a.put o.dst v') w') : Oper.wp Tryz.prog o a w K Q := by
  obtain ⟨i0, hi, hz0, hz1, hz2⟩ := info_parts infoFld
  have h := step_append_own (P := Tryz.prog) (ops := ops29) (o := o) (a := a) (w := w) (K := K) (Q := Q) (E := True) hg s x 36 ho 73 i0 _ 2 32 Tryz.underlying36 hi hz0 hz1 hz2 rfl (by decide) v n xs hs hown ad m c news hx hl hnews h1 (by unfold maxLen; omega) (by omega) hK
  rwa [if_pos (by simp [Region.wanted, hg])] at h
theorem after29 {w : World} {lo n a b : Nat} {e : TypeId} {size : Nat} {v : Value} {xs : List Value} (ho : w.ownsRow 0 e size v n xs) (hbk : v.ownBlock = some a ∨ v.ownBlock = some b) (ha : lo ≤ a) (hb : lo ≤ b) : ∃ g c, v = .slice (some ⟨g, 0, none⟩) n c ∧ lo ≤ g ∧ w.ownsRow lo e size (.slice (some ⟨g, 0, none⟩) n c) n xs := by
  rcases ho.2 with ⟨rfl, _⟩ | ⟨g, cap, cur, rfl, h0, rest⟩
  · rcases hbk with h | h <;> cases h
  · have hg : lo ≤ g := by
      rcases hbk with h | h
      · have h2 : g = a := Option.some.inj h
        omega
      · have h2 : g = b := Option.some.inj h
        omega
    exact ⟨g, cap, rfl, hg, ho.1, .inr ⟨g, cap, cur, rfl, hg, rest⟩⟩
theorem own_new29 (w : World) (e : TypeId) (size : Nat) : (w.alloc (.cells #[] e)).ownsRow 0 e size (.slice (some ⟨w.heap.size, 0, none⟩) 0 0) 0 [] :=
  ⟨by simp, .inr ⟨_, 0, #[], rfl, Nat.zero_le _, Cells.new w e #[], Nat.le_refl _, Nat.zero_le _, by simp, by simp⟩⟩
theorem alloc29 (w : World) (o : Obj) : Below w.heap.size w (w.alloc o) := (Below.refl _ _).alloc (Nat.le_refl _) o
theorem cells29 {w : World} {b : Nat} {t : TypeId} {x y : Value} (h : Cells w b t #[x, y]) : ∀ j u, [x, y][j]? = some u → w.cell? ((⟨b, 0, none⟩ : Addr).add j) = some u := by
  intro j u hj
  have ea : (⟨b, 0, none⟩ : Addr).add j = ⟨b, j, none⟩ := by unfold Addr.add; split <;> simp_all
  rw [ea, h.cell j]; simpa using hj
abbrev sl (g n c : Nat) : Value := .slice (some ⟨g, 0, none⟩) n c
/-- What holds while the region is done. -/
structure Reg (a0 : Act) (W3 : World) (nb n : Nat) (fv : Value) (cf : List Value) (x y : ByteArray) (l : Array Bool) (a : Act) (w : World) : Prop where
  dfr : a.defers = a0.defers
  sz : a.tmps.size = a0.tmps.size
  frm : ∀ j, (j < 106 ∨ 113 < j) → a.tmps[j]? = a0.tmps[j]?
  bel : fl l 8 = false → Below W3.heap.size W3 w
  s0 : fl l 0 = true → ∃ B, a.tmps[106]? = some (sl B 0 0) ∧ (fl l 3 = false → W3.heap.size ≤ B ∧ w.ownsRow 0 73 2 (sl B 0 0) 0 [] ∧ (fl l 5 = true → ∀ B5, a.tmps[111]? = some (sl B5 1 1) → B5 ≠ B))
  s1 : fl l 1 = true → a.tmps[107]? = some (.pointer (some ⟨nb, 2, none⟩))
  s2 : fl l 2 = true → a.tmps[108]? = some fv
  s3 : fl l 3 = true → fl l 0 = true ∧ fl l 2 = true ∧ ∃ g c, a.tmps[109]? = some (sl g n c) ∧ (fl l 6 = false → w.ownsRow W3.heap.size 73 2 (sl g n c) n cf)
  s4 : fl l 4 = true → a.tmps[110]? = some (.agg #[.string x, .string y])
  s5 : fl l 5 = true → fl l 4 = true ∧ ∃ B5, a.tmps[111]? = some (sl B5 1 1) ∧ (fl l 6 = false → W3.heap.size ≤ B5 ∧ Cells w B5 73 #[.string x, .string y])
  s6 : fl l 6 = true → fl l 3 = true ∧ fl l 5 = true ∧ ∃ g c, a.tmps[112]? = some (sl g (n + 1) c) ∧ (fl l 8 = false → w.ownsRow W3.heap.size 73 2 (sl g (n + 1) c) (n + 1) (cf ++ [.string x, .string y]))
  s7 : fl l 7 = true → a.tmps[113]? = some (.pointer (some ⟨nb, 2, none⟩))
  s8 : fl l 8 = true → fl l 6 = true ∧ ∃ w2 g c, Below W3.heap.size W3 w2 ∧ w2.ownsRow W3.heap.size 73 2 (sl g (n + 1) c) (n + 1) (cf ++ [.string x, .string y]) ∧ w = w2.setCell ⟨nb, 2, none⟩ (sl g (n + 1) c)
theorem rebase29 {w : World} {lo B : Nat} (h : w.ownsRow 0 73 2 (sl B 0 0) 0 []) (hB : lo ≤ B) : w.ownsRow lo 73 2 (sl B 0 0) 0 [] := by
  refine ⟨h.1, ?_⟩
  rcases h.2 with ⟨e, _⟩ | ⟨g, cap, cur, e, _, rest⟩
  · cases e
  · cases e
    exact .inr ⟨B, 0, cur, rfl, hB, rest⟩
theorem tm29 {a : Act} {d : Nat} {v : Value} (hd : d < a.tmps.size) : ∀ j, (a.put (some d) v).tmps[j]? = if j = d then some v else a.tmps[j]? := put29 hd
set_option maxRecDepth 100000 in
set_option maxHeartbeats 4000000 in
theorem region29 (a0 : Act) (W3 : World) (nb fb n : Nat) (fv : Value) (cf : List Value) (x y : ByteArray) (Q : Exit → Act → World → Prop) (k0 k1 : Value)
    (h9 : a0.tmps[9]? = some (.pointer (some ⟨nb, 0, none⟩))) (h13 : a0.tmps[13]? = some (.pointer (some ⟨fb, 0, none⟩))) (hsz : 114 ≤ a0.tmps.size)
    (hVB : Cells W3 nb 47 #[k0, k1, fv]) (hFB : Cells W3 fb 73 #[.string x, .string y])
    (hrow : W3.ownsRow 0 73 2 fv n cf) (h1 : ∀ u ∈ cf, u.oneCell' = true) (hn : n ≤ 100000)
    (hQ : ∀ a w2 g c, a.defers = a0.defers → a.tmps.size = a0.tmps.size → (∀ j, (j < 106 ∨ 113 < j) → a.tmps[j]? = a0.tmps[j]?) → Below W3.heap.size W3 w2 → w2.ownsRow W3.heap.size 73 2 (sl g (n + 1) c) (n + 1) (cf ++ [.string x, .string y]) → Q .normal a (w2.setCell ⟨nb, 2, none⟩ (sl g (n + 1) c))) :
    (Code.region 29 ops29 true).wp Tryz.prog Q a0 W3 := by
  refine wp_region_inv (by kernel_rfl) (Reg a0 W3 nb n fv cf x y) ?start ?step ?done
  case start =>
    have z : ∀ j, fl (Array.replicate ops29.size false) j = false := by
      intro j
      unfold fl
      rw [Array.getD_eq_getD_getElem?, Array.getElem?_replicate]
      split <;> rfl
    exact ⟨rfl, rfl, fun _ _ => rfl, fun _ => (Below.refl _ _).drew, (fun h => by rw [z] at h; cases h), (fun h => by rw [z] at h; cases h), (fun h => by rw [z] at h; cases h), (fun h => by rw [z] at h; cases h), (fun h => by rw [z] at h; cases h), (fun h => by rw [z] at h; cases h), (fun h => by rw [z] at h; cases h), (fun h => by rw [z] at h; cases h), (fun h => by rw [z] at h; cases h)⟩
  case done =>
    intro l a w I hl hr
    have h8 : fl l 8 = true := by
      have hl9 : l.size = 9 := hl
      have e : l = #[l[0], l[1], l[2], l[3], l[4], l[5], l[6], l[7], l[8]] := by
        apply Array.ext
        · simp [hl9]
        · intro i h1 h2
          rw [hl9] at h1
          rcases (by omega : i = 0 ∨ i = 1 ∨ i = 2 ∨ i = 3 ∨ i = 4 ∨ i = 5 ∨ i = 6 ∨ i = 7 ∨ i = 8) with rfl | rfl | rfl | rfl | rfl | rfl | rfl | rfl | rfl <;> rfl
      rw [e] at hr
      have := done29 _ _ _ _ _ _ _ _ _ hr
      unfold fl
      rw [Array.getD_eq_getD_getElem?, Array.getElem?_eq_getElem (by omega)]
      exact this
    obtain ⟨_, w2, g, c, b, o, rfl⟩ := I.s8 h8
    exact hQ a w2 g c I.dfr I.sz I.frm b o
  case step =>
    intro l i o a w I hl ho hli he
    have hl9 : l.size = 9 := hl
    have hi : i < 9 := by
      rcases Nat.lt_or_ge i 9 with h | h
      · exact h
      · rw [Array.getElem?_eq_none (by exact h)] at ho; cases ho
    have hil : i < l.size := by omega
    have FL := fun j => fl_set hil j
    have TM := fun d v (hd : d < 114) => tm29 (a := a) (d := d) (v := v) (by rw [I.sz]; omega)
    have hfi : fl l i = false := by
      unfold fl
      rw [Array.getD_eq_getD_getElem?, Array.getElem?_eq_getElem hil] at hli ⊢
      exact hli
    have dep : ∀ e ∈ o.after, Region.binds .any e = true → fl l e.on = true := he
    have ev : ∀ j v, a.tmps[j]? = some v → a.eval (.tmp j) = v := fun j v h => ev29 h
    have e9 := ev 9 _ ((I.frm 9 (by omega)).trans h9)
    have e13 := ev 13 _ ((I.frm 13 (by omega)).trans h13)
    rcases (by omega : i = 0 ∨ i = 1 ∨ i = 2 ∨ i = 3 ∨ i = 4 ∨ i = 5 ∨ i = 6 ∨ i = 7 ∨ i = 8) with rfl | rfl | rfl | rfl | rfl | rfl | rfl | rfl | rfl
    · have ho2 : some _ = some o := ho
      obtain rfl := Option.some.inj ho2
      have n3 : fl l 3 = false := by
        cases h : fl l 3 with
        | false => rfl
        | true => exact absurd ((I.s3 h).1) (by rw [hfi]; decide)
      have n6 : fl l 6 = false := by
        cases h : fl l 6 with
        | false => rfl
        | true => exact absurd ((I.s3 (I.s6 h).1).1) (by rw [hfi]; decide)
      have n8 : fl l 8 = false := by
        cases h : fl l 8 with
        | false => rfl
        | true => exact absurd ((I.s3 (I.s6 (I.s8 h).1).1).1) (by rw [hfi]; decide)
      have bl := I.bel n8
      have al := alloc29 w (.cells #[] 73)
      refine wpOp29 ho rfl (go_lit0 rfl ?_)
      show Reg a0 W3 nb n fv cf x y (l.setIfInBounds 0 true) (a.put (some 106) (sl w.heap.size 0 0)) (w.alloc (.cells #[] 73))
      have f0 : fl (l.setIfInBounds 0 true) 0 = true := by rw [FL, if_pos rfl]
      have f1 : fl (l.setIfInBounds 0 true) 1 = fl l 1 := by rw [FL, if_neg (by decide)]
      have f2 : fl (l.setIfInBounds 0 true) 2 = fl l 2 := by rw [FL, if_neg (by decide)]
      have f3 : fl (l.setIfInBounds 0 true) 3 = fl l 3 := by rw [FL, if_neg (by decide)]
      have f4 : fl (l.setIfInBounds 0 true) 4 = fl l 4 := by rw [FL, if_neg (by decide)]
      have f5 : fl (l.setIfInBounds 0 true) 5 = fl l 5 := by rw [FL, if_neg (by decide)]
      have f6 : fl (l.setIfInBounds 0 true) 6 = fl l 6 := by rw [FL, if_neg (by decide)]
      have f7 : fl (l.setIfInBounds 0 true) 7 = fl l 7 := by rw [FL, if_neg (by decide)]
      have f8 : fl (l.setIfInBounds 0 true) 8 = fl l 8 := by rw [FL, if_neg (by decide)]
      have t106 : (a.put (some 106) (sl w.heap.size 0 0)).tmps[106]? = some (sl w.heap.size 0 0) := by rw [TM _ _ (by decide), if_pos rfl]
      have t107 : (a.put (some 106) (sl w.heap.size 0 0)).tmps[107]? = a.tmps[107]? := by rw [TM _ _ (by decide), if_neg (by decide)]
      have t108 : (a.put (some 106) (sl w.heap.size 0 0)).tmps[108]? = a.tmps[108]? := by rw [TM _ _ (by decide), if_neg (by decide)]
      have t109 : (a.put (some 106) (sl w.heap.size 0 0)).tmps[109]? = a.tmps[109]? := by rw [TM _ _ (by decide), if_neg (by decide)]
      have t110 : (a.put (some 106) (sl w.heap.size 0 0)).tmps[110]? = a.tmps[110]? := by rw [TM _ _ (by decide), if_neg (by decide)]
      have t111 : (a.put (some 106) (sl w.heap.size 0 0)).tmps[111]? = a.tmps[111]? := by rw [TM _ _ (by decide), if_neg (by decide)]
      have t112 : (a.put (some 106) (sl w.heap.size 0 0)).tmps[112]? = a.tmps[112]? := by rw [TM _ _ (by decide), if_neg (by decide)]
      have t113 : (a.put (some 106) (sl w.heap.size 0 0)).tmps[113]? = a.tmps[113]? := by rw [TM _ _ (by decide), if_neg (by decide)]
      exact ⟨I.dfr, (size29 _ _ _).trans I.sz, fun j hj => by rw [TM _ _ (by decide), if_neg (by omega)]; exact I.frm j hj, (fun _ => bl.trans (al.mono bl.size)), (fun _ => ⟨w.heap.size, t106, by rw [f3, f5, t111]; exact fun _ => ⟨bl.size, own_new29 w _ 2, fun h5 B5 hB5 => by obtain ⟨_, B6, e6, h6⟩ := I.s5 h5; rw [e6] at hB5; cases hB5; have := (h6 n6).2.lt; omega⟩⟩), (by rw [f1, t107]; exact I.s1), (by rw [f2, t108]; exact I.s2), (by rw [f3, n3]; exact fun h => by cases h), (by rw [f4, t110]; exact I.s4), (by rw [f5, f4, t111, f6]; exact fun h => (by obtain ⟨q4, B6, e6, h6⟩ := I.s5 h; exact ⟨q4, B6, e6, fun q => ⟨(h6 q).1, cells_kept (h6 q).2 al (h6 q).2.lt⟩⟩)), (by rw [f6, n6]; exact fun h => by cases h), (by rw [f7, t113]; exact I.s7), (by rw [f8, n8]; exact fun h => by cases h)⟩
    · have ho2 : some _ = some o := ho
      obtain rfl := Option.some.inj ho2
      refine wpOp29 ho rfl (go_faddr rfl e9 ?_)
      show Reg a0 W3 nb n fv cf x y (l.setIfInBounds 1 true) (a.put (some 107) (.pointer (some ⟨nb, 2, none⟩))) w
      have f0 : fl (l.setIfInBounds 1 true) 0 = fl l 0 := by rw [FL, if_neg (by decide)]
      have f1 : fl (l.setIfInBounds 1 true) 1 = true := by rw [FL, if_pos rfl]
      have f2 : fl (l.setIfInBounds 1 true) 2 = fl l 2 := by rw [FL, if_neg (by decide)]
      have f3 : fl (l.setIfInBounds 1 true) 3 = fl l 3 := by rw [FL, if_neg (by decide)]
      have f4 : fl (l.setIfInBounds 1 true) 4 = fl l 4 := by rw [FL, if_neg (by decide)]
      have f5 : fl (l.setIfInBounds 1 true) 5 = fl l 5 := by rw [FL, if_neg (by decide)]
      have f6 : fl (l.setIfInBounds 1 true) 6 = fl l 6 := by rw [FL, if_neg (by decide)]
      have f7 : fl (l.setIfInBounds 1 true) 7 = fl l 7 := by rw [FL, if_neg (by decide)]
      have f8 : fl (l.setIfInBounds 1 true) 8 = fl l 8 := by rw [FL, if_neg (by decide)]
      have t106 : (a.put (some 107) (.pointer (some ⟨nb, 2, none⟩))).tmps[106]? = a.tmps[106]? := by rw [TM _ _ (by decide), if_neg (by decide)]
      have t107 : (a.put (some 107) (.pointer (some ⟨nb, 2, none⟩))).tmps[107]? = some (.pointer (some ⟨nb, 2, none⟩)) := by rw [TM _ _ (by decide), if_pos rfl]
      have t108 : (a.put (some 107) (.pointer (some ⟨nb, 2, none⟩))).tmps[108]? = a.tmps[108]? := by rw [TM _ _ (by decide), if_neg (by decide)]
      have t109 : (a.put (some 107) (.pointer (some ⟨nb, 2, none⟩))).tmps[109]? = a.tmps[109]? := by rw [TM _ _ (by decide), if_neg (by decide)]
      have t110 : (a.put (some 107) (.pointer (some ⟨nb, 2, none⟩))).tmps[110]? = a.tmps[110]? := by rw [TM _ _ (by decide), if_neg (by decide)]
      have t111 : (a.put (some 107) (.pointer (some ⟨nb, 2, none⟩))).tmps[111]? = a.tmps[111]? := by rw [TM _ _ (by decide), if_neg (by decide)]
      have t112 : (a.put (some 107) (.pointer (some ⟨nb, 2, none⟩))).tmps[112]? = a.tmps[112]? := by rw [TM _ _ (by decide), if_neg (by decide)]
      have t113 : (a.put (some 107) (.pointer (some ⟨nb, 2, none⟩))).tmps[113]? = a.tmps[113]? := by rw [TM _ _ (by decide), if_neg (by decide)]
      exact ⟨I.dfr, (size29 _ _ _).trans I.sz, fun j hj => by rw [TM _ _ (by decide), if_neg (by omega)]; exact I.frm j hj, (by rw [f8]; exact I.bel), (by rw [f0, f3, f5, t106, t111]; exact I.s0), (fun _ => t107), (by rw [f2, t108]; exact I.s2), (by rw [f3, f0, f2, t109, f6]; exact I.s3), (by rw [f4, t110]; exact I.s4), (by rw [f5, f4, t111, f6]; exact I.s5), (by rw [f6, f3, f5, t112, f8]; exact I.s6), (by rw [f7, t113]; exact I.s7), (by rw [f8, f6]; exact I.s8)⟩
    · have ho2 : some _ = some o := ho
      obtain rfl := Option.some.inj ho2
      have d1 : fl l 1 = true := dep ⟨1, Ground.data⟩ (by simp [ops29]) rfl
      have n8 : fl l 8 = false := by
        cases h : fl l 8 with
        | false => rfl
        | true => exact absurd ((I.s3 (I.s6 (I.s8 h).1).1).2.1) (by rw [hfi]; decide)
      have bl := I.bel n8
      refine wpOp29 ho rfl (go_load1 rfl (ev 107 _ (I.s1 d1)) ((bl.cell (p := ⟨nb, 2, none⟩) hVB.lt).trans (hVB.cell 2)) ?_)
      show Reg a0 W3 nb n fv cf x y (l.setIfInBounds 2 true) (a.put (some 108) fv) w
      have f0 : fl (l.setIfInBounds 2 true) 0 = fl l 0 := by rw [FL, if_neg (by decide)]
      have f1 : fl (l.setIfInBounds 2 true) 1 = fl l 1 := by rw [FL, if_neg (by decide)]
      have f2 : fl (l.setIfInBounds 2 true) 2 = true := by rw [FL, if_pos rfl]
      have f3 : fl (l.setIfInBounds 2 true) 3 = fl l 3 := by rw [FL, if_neg (by decide)]
      have f4 : fl (l.setIfInBounds 2 true) 4 = fl l 4 := by rw [FL, if_neg (by decide)]
      have f5 : fl (l.setIfInBounds 2 true) 5 = fl l 5 := by rw [FL, if_neg (by decide)]
      have f6 : fl (l.setIfInBounds 2 true) 6 = fl l 6 := by rw [FL, if_neg (by decide)]
      have f7 : fl (l.setIfInBounds 2 true) 7 = fl l 7 := by rw [FL, if_neg (by decide)]
      have f8 : fl (l.setIfInBounds 2 true) 8 = fl l 8 := by rw [FL, if_neg (by decide)]
      have t106 : (a.put (some 108) fv).tmps[106]? = a.tmps[106]? := by rw [TM _ _ (by decide), if_neg (by decide)]
      have t107 : (a.put (some 108) fv).tmps[107]? = a.tmps[107]? := by rw [TM _ _ (by decide), if_neg (by decide)]
      have t108 : (a.put (some 108) fv).tmps[108]? = some fv := by rw [TM _ _ (by decide), if_pos rfl]
      have t109 : (a.put (some 108) fv).tmps[109]? = a.tmps[109]? := by rw [TM _ _ (by decide), if_neg (by decide)]
      have t110 : (a.put (some 108) fv).tmps[110]? = a.tmps[110]? := by rw [TM _ _ (by decide), if_neg (by decide)]
      have t111 : (a.put (some 108) fv).tmps[111]? = a.tmps[111]? := by rw [TM _ _ (by decide), if_neg (by decide)]
      have t112 : (a.put (some 108) fv).tmps[112]? = a.tmps[112]? := by rw [TM _ _ (by decide), if_neg (by decide)]
      have t113 : (a.put (some 108) fv).tmps[113]? = a.tmps[113]? := by rw [TM _ _ (by decide), if_neg (by decide)]
      exact ⟨I.dfr, (size29 _ _ _).trans I.sz, fun j hj => by rw [TM _ _ (by decide), if_neg (by omega)]; exact I.frm j hj, (by rw [f8]; exact I.bel), (by rw [f0, f3, f5, t106, t111]; exact I.s0), (by rw [f1, t107]; exact I.s1), (fun _ => t108), (by rw [f3, f0, t109, f6]; exact fun h => (by obtain ⟨q0, _, q⟩ := I.s3 h; exact ⟨q0, f2, q⟩)), (by rw [f4, t110]; exact I.s4), (by rw [f5, f4, t111, f6]; exact I.s5), (by rw [f6, f3, f5, t112, f8]; exact I.s6), (by rw [f7, t113]; exact I.s7), (by rw [f8, f6]; exact I.s8)⟩
    · have ho2 : some _ = some o := ho
      obtain rfl := Option.some.inj ho2
      have d0 : fl l 0 = true := dep ⟨0, Ground.data⟩ (by simp [ops29]) rfl
      have d2 : fl l 2 = true := dep ⟨2, Ground.data⟩ (by simp [ops29]) rfl
      have n6 : fl l 6 = false := by
        cases h : fl l 6 with
        | false => rfl
        | true => exact absurd ((I.s6 h).1) (by rw [hfi]; decide)
      have n8 : fl l 8 = false := by
        cases h : fl l 8 with
        | false => rfl
        | true => exact absurd ((I.s6 (I.s8 h).1).1) (by rw [hfi]; decide)
      have bl := I.bel n8
      obtain ⟨B, eB, hr⟩ := I.s0 d0
      obtain ⟨q1, q2, q3⟩ := hr hfi
      have e6 := ev 106 _ eB
      have e8 := ev 108 _ (I.s2 d2)
      rcases Joins.ownsRow_forms hrow with ⟨hfv, hn0⟩ | ⟨g, cap, hfv⟩
      · obtain rfl : n = 0 := hn0
        have hcf : cf = [] := List.length_eq_zero_iff.1 (by have := hrow.1; omega)
        refine wpOp29 ho rfl (go_append0 rfl e6 (by rw [e8, hfv]) ?_)
        show Reg a0 W3 nb 0 fv cf x y (l.setIfInBounds 3 true) (a.put (some 109) (sl B 0 0)) w
        have f0 : fl (l.setIfInBounds 3 true) 0 = fl l 0 := by rw [FL, if_neg (by decide)]
        have f1 : fl (l.setIfInBounds 3 true) 1 = fl l 1 := by rw [FL, if_neg (by decide)]
        have f2 : fl (l.setIfInBounds 3 true) 2 = fl l 2 := by rw [FL, if_neg (by decide)]
        have f3 : fl (l.setIfInBounds 3 true) 3 = true := by rw [FL, if_pos rfl]
        have f4 : fl (l.setIfInBounds 3 true) 4 = fl l 4 := by rw [FL, if_neg (by decide)]
        have f5 : fl (l.setIfInBounds 3 true) 5 = fl l 5 := by rw [FL, if_neg (by decide)]
        have f6 : fl (l.setIfInBounds 3 true) 6 = fl l 6 := by rw [FL, if_neg (by decide)]
        have f7 : fl (l.setIfInBounds 3 true) 7 = fl l 7 := by rw [FL, if_neg (by decide)]
        have f8 : fl (l.setIfInBounds 3 true) 8 = fl l 8 := by rw [FL, if_neg (by decide)]
        have t106 : (a.put (some 109) (sl B 0 0)).tmps[106]? = a.tmps[106]? := by rw [TM _ _ (by decide), if_neg (by decide)]
        have t107 : (a.put (some 109) (sl B 0 0)).tmps[107]? = a.tmps[107]? := by rw [TM _ _ (by decide), if_neg (by decide)]
        have t108 : (a.put (some 109) (sl B 0 0)).tmps[108]? = a.tmps[108]? := by rw [TM _ _ (by decide), if_neg (by decide)]
        have t109 : (a.put (some 109) (sl B 0 0)).tmps[109]? = some (sl B 0 0) := by rw [TM _ _ (by decide), if_pos rfl]
        have t110 : (a.put (some 109) (sl B 0 0)).tmps[110]? = a.tmps[110]? := by rw [TM _ _ (by decide), if_neg (by decide)]
        have t111 : (a.put (some 109) (sl B 0 0)).tmps[111]? = a.tmps[111]? := by rw [TM _ _ (by decide), if_neg (by decide)]
        have t112 : (a.put (some 109) (sl B 0 0)).tmps[112]? = a.tmps[112]? := by rw [TM _ _ (by decide), if_neg (by decide)]
        have t113 : (a.put (some 109) (sl B 0 0)).tmps[113]? = a.tmps[113]? := by rw [TM _ _ (by decide), if_neg (by decide)]
        exact ⟨I.dfr, (size29 _ _ _).trans I.sz, fun j hj => by rw [TM _ _ (by decide), if_neg (by omega)]; exact I.frm j hj, (by rw [f8]; exact I.bel), (by rw [f0, t106]; exact fun _ => ⟨B, eB, fun h => by rw [f3] at h; cases h⟩), (by rw [f1, t107]; exact I.s1), (by rw [f2, t108]; exact I.s2), (fun _ => ⟨by rw [f0]; exact d0, by rw [f2]; exact d2, B, 0, t109, fun _ => by rw [hcf]; exact rebase29 q2 q1⟩), (by rw [f4, t110]; exact I.s4), (by rw [f5, f4, t111, f6]; exact I.s5), (by rw [f6, n6]; exact fun h => by cases h), (by rw [f7, t113]; exact I.s7), (by rw [f8, n8]; exact fun h => by cases h)⟩
      · refine wpOp29 ho rfl (go_append rfl rfl (sl B 0 0) 0 [] e6 q2 ⟨g, 0, none⟩ n cap cf (by rw [e8, hfv]) hrow.1 ?hc h1 (by omega) ?_)
        case hc =>
          intro j u hj
          have hjl : j < n * 2 := by
            rw [← hrow.1]
            rcases Nat.lt_or_ge j cf.length with q | q
            · exact q
            · rw [List.getElem?_eq_none q] at hj; cases hj
          have ea : (⟨g, 0, none⟩ : Addr).add j = ⟨g, j, none⟩ := by unfold Addr.add; split <;> simp_all
          have hr2 := hrow
          rw [hfv] at hr2
          rw [ea, bl.cell (p := ⟨g, j, none⟩) (hr2.lt g rfl).2, World.ownsRow.cellAt hr2 j hjl]; exact hj
        intro v' w' o1 gr bk
        obtain ⟨g1, c1, rfl, lo1, own1⟩ := after29 (lo := W3.heap.size) o1 bk q1 bl.size
        rw [Nat.zero_add, List.nil_append] at own1
        rw [Nat.zero_add]
        show Reg a0 W3 nb n fv cf x y (l.setIfInBounds 3 true) (a.put (some 109) (sl g1 n c1)) w'
        have f0 : fl (l.setIfInBounds 3 true) 0 = fl l 0 := by rw [FL, if_neg (by decide)]
        have f1 : fl (l.setIfInBounds 3 true) 1 = fl l 1 := by rw [FL, if_neg (by decide)]
        have f2 : fl (l.setIfInBounds 3 true) 2 = fl l 2 := by rw [FL, if_neg (by decide)]
        have f3 : fl (l.setIfInBounds 3 true) 3 = true := by rw [FL, if_pos rfl]
        have f4 : fl (l.setIfInBounds 3 true) 4 = fl l 4 := by rw [FL, if_neg (by decide)]
        have f5 : fl (l.setIfInBounds 3 true) 5 = fl l 5 := by rw [FL, if_neg (by decide)]
        have f6 : fl (l.setIfInBounds 3 true) 6 = fl l 6 := by rw [FL, if_neg (by decide)]
        have f7 : fl (l.setIfInBounds 3 true) 7 = fl l 7 := by rw [FL, if_neg (by decide)]
        have f8 : fl (l.setIfInBounds 3 true) 8 = fl l 8 := by rw [FL, if_neg (by decide)]
        have t106 : (a.put (some 109) (sl g1 n c1)).tmps[106]? = a.tmps[106]? := by rw [TM _ _ (by decide), if_neg (by decide)]
        have t107 : (a.put (some 109) (sl g1 n c1)).tmps[107]? = a.tmps[107]? := by rw [TM _ _ (by decide), if_neg (by decide)]
        have t108 : (a.put (some 109) (sl g1 n c1)).tmps[108]? = a.tmps[108]? := by rw [TM _ _ (by decide), if_neg (by decide)]
        have t109 : (a.put (some 109) (sl g1 n c1)).tmps[109]? = some (sl g1 n c1) := by rw [TM _ _ (by decide), if_pos rfl]
        have t110 : (a.put (some 109) (sl g1 n c1)).tmps[110]? = a.tmps[110]? := by rw [TM _ _ (by decide), if_neg (by decide)]
        have t111 : (a.put (some 109) (sl g1 n c1)).tmps[111]? = a.tmps[111]? := by rw [TM _ _ (by decide), if_neg (by decide)]
        have t112 : (a.put (some 109) (sl g1 n c1)).tmps[112]? = a.tmps[112]? := by rw [TM _ _ (by decide), if_neg (by decide)]
        have t113 : (a.put (some 109) (sl g1 n c1)).tmps[113]? = a.tmps[113]? := by rw [TM _ _ (by decide), if_neg (by decide)]
        exact ⟨I.dfr, (size29 _ _ _).trans I.sz, fun j hj => by rw [TM _ _ (by decide), if_neg (by omega)]; exact I.frm j hj, (fun _ => bl.grown gr bl.size (fun k hk => by cases hk; exact q1)), (by rw [f0, t106]; exact fun _ => ⟨B, eB, fun h => by rw [f3] at h; cases h⟩), (by rw [f1, t107]; exact I.s1), (by rw [f2, t108]; exact I.s2), (fun _ => ⟨by rw [f0]; exact d0, by rw [f2]; exact d2, g1, c1, t109, fun _ => own1⟩), (by rw [f4, t110]; exact I.s4), (by rw [f5, f4, t111, f6]; exact fun h => (by obtain ⟨q4, B6, e7, h6⟩ := I.s5 h; exact ⟨q4, B6, e7, fun q => ⟨(h6 q).1, Cells.grown (h6 q).2 gr (fun e => q3 h B6 e7 (Option.some.inj e))⟩⟩)), (by rw [f6, n6]; exact fun h => by cases h), (by rw [f7, t113]; exact I.s7), (by rw [f8, n8]; exact fun h => by cases h)⟩
    · have ho2 : some _ = some o := ho
      obtain rfl := Option.some.inj ho2
      have n8 : fl l 8 = false := by
        cases h : fl l 8 with
        | false => rfl
        | true => exact absurd ((I.s5 (I.s6 (I.s8 h).1).2.1).1) (by rw [hfi]; decide)
      have bl := I.bel n8
      refine wpOp29 ho rfl (go_load2 rfl e13 ((bl.cell (p := ⟨fb, 0, none⟩) hFB.lt).trans (hFB.cell 0)) ((bl.cell (p := ⟨fb, 1, none⟩) hFB.lt).trans (hFB.cell 1)) ?_)
      show Reg a0 W3 nb n fv cf x y (l.setIfInBounds 4 true) (a.put (some 110) (.agg #[.string x, .string y])) w
      have f0 : fl (l.setIfInBounds 4 true) 0 = fl l 0 := by rw [FL, if_neg (by decide)]
      have f1 : fl (l.setIfInBounds 4 true) 1 = fl l 1 := by rw [FL, if_neg (by decide)]
      have f2 : fl (l.setIfInBounds 4 true) 2 = fl l 2 := by rw [FL, if_neg (by decide)]
      have f3 : fl (l.setIfInBounds 4 true) 3 = fl l 3 := by rw [FL, if_neg (by decide)]
      have f4 : fl (l.setIfInBounds 4 true) 4 = true := by rw [FL, if_pos rfl]
      have f5 : fl (l.setIfInBounds 4 true) 5 = fl l 5 := by rw [FL, if_neg (by decide)]
      have f6 : fl (l.setIfInBounds 4 true) 6 = fl l 6 := by rw [FL, if_neg (by decide)]
      have f7 : fl (l.setIfInBounds 4 true) 7 = fl l 7 := by rw [FL, if_neg (by decide)]
      have f8 : fl (l.setIfInBounds 4 true) 8 = fl l 8 := by rw [FL, if_neg (by decide)]
      have t106 : (a.put (some 110) (.agg #[.string x, .string y])).tmps[106]? = a.tmps[106]? := by rw [TM _ _ (by decide), if_neg (by decide)]
      have t107 : (a.put (some 110) (.agg #[.string x, .string y])).tmps[107]? = a.tmps[107]? := by rw [TM _ _ (by decide), if_neg (by decide)]
      have t108 : (a.put (some 110) (.agg #[.string x, .string y])).tmps[108]? = a.tmps[108]? := by rw [TM _ _ (by decide), if_neg (by decide)]
      have t109 : (a.put (some 110) (.agg #[.string x, .string y])).tmps[109]? = a.tmps[109]? := by rw [TM _ _ (by decide), if_neg (by decide)]
      have t110 : (a.put (some 110) (.agg #[.string x, .string y])).tmps[110]? = some (.agg #[.string x, .string y]) := by rw [TM _ _ (by decide), if_pos rfl]
      have t111 : (a.put (some 110) (.agg #[.string x, .string y])).tmps[111]? = a.tmps[111]? := by rw [TM _ _ (by decide), if_neg (by decide)]
      have t112 : (a.put (some 110) (.agg #[.string x, .string y])).tmps[112]? = a.tmps[112]? := by rw [TM _ _ (by decide), if_neg (by decide)]
      have t113 : (a.put (some 110) (.agg #[.string x, .string y])).tmps[113]? = a.tmps[113]? := by rw [TM _ _ (by decide), if_neg (by decide)]
      exact ⟨I.dfr, (size29 _ _ _).trans I.sz, fun j hj => by rw [TM _ _ (by decide), if_neg (by omega)]; exact I.frm j hj, (by rw [f8]; exact I.bel), (by rw [f0, f3, f5, t106, t111]; exact I.s0), (by rw [f1, t107]; exact I.s1), (by rw [f2, t108]; exact I.s2), (by rw [f3, f0, f2, t109, f6]; exact I.s3), (fun _ => t110), (by rw [f5, t111, f6]; exact fun h => (by obtain ⟨_, q⟩ := I.s5 h; exact ⟨f4, q⟩)), (by rw [f6, f3, f5, t112, f8]; exact I.s6), (by rw [f7, t113]; exact I.s7), (by rw [f8, f6]; exact I.s8)⟩
    · have ho2 : some _ = some o := ho
      obtain rfl := Option.some.inj ho2
      have d4 : fl l 4 = true := dep ⟨4, Ground.data⟩ (by simp [ops29]) rfl
      have n6 : fl l 6 = false := by
        cases h : fl l 6 with
        | false => rfl
        | true => exact absurd ((I.s6 h).2.1) (by rw [hfi]; decide)
      have n8 : fl l 8 = false := by
        cases h : fl l 8 with
        | false => rfl
        | true => exact absurd ((I.s6 (I.s8 h).1).2.1) (by rw [hfi]; decide)
      have bl := I.bel n8
      have al := alloc29 w (.cells #[.string x, .string y] 73)
      refine wpOp29 ho rfl (go_lit1 rfl (ev 110 _ (I.s4 d4)) ?_)
      show Reg a0 W3 nb n fv cf x y (l.setIfInBounds 5 true) (a.put (some 111) (sl w.heap.size 1 1)) (w.alloc (.cells #[.string x, .string y] 73))
      have f0 : fl (l.setIfInBounds 5 true) 0 = fl l 0 := by rw [FL, if_neg (by decide)]
      have f1 : fl (l.setIfInBounds 5 true) 1 = fl l 1 := by rw [FL, if_neg (by decide)]
      have f2 : fl (l.setIfInBounds 5 true) 2 = fl l 2 := by rw [FL, if_neg (by decide)]
      have f3 : fl (l.setIfInBounds 5 true) 3 = fl l 3 := by rw [FL, if_neg (by decide)]
      have f4 : fl (l.setIfInBounds 5 true) 4 = fl l 4 := by rw [FL, if_neg (by decide)]
      have f5 : fl (l.setIfInBounds 5 true) 5 = true := by rw [FL, if_pos rfl]
      have f6 : fl (l.setIfInBounds 5 true) 6 = fl l 6 := by rw [FL, if_neg (by decide)]
      have f7 : fl (l.setIfInBounds 5 true) 7 = fl l 7 := by rw [FL, if_neg (by decide)]
      have f8 : fl (l.setIfInBounds 5 true) 8 = fl l 8 := by rw [FL, if_neg (by decide)]
      have t106 : (a.put (some 111) (sl w.heap.size 1 1)).tmps[106]? = a.tmps[106]? := by rw [TM _ _ (by decide), if_neg (by decide)]
      have t107 : (a.put (some 111) (sl w.heap.size 1 1)).tmps[107]? = a.tmps[107]? := by rw [TM _ _ (by decide), if_neg (by decide)]
      have t108 : (a.put (some 111) (sl w.heap.size 1 1)).tmps[108]? = a.tmps[108]? := by rw [TM _ _ (by decide), if_neg (by decide)]
      have t109 : (a.put (some 111) (sl w.heap.size 1 1)).tmps[109]? = a.tmps[109]? := by rw [TM _ _ (by decide), if_neg (by decide)]
      have t110 : (a.put (some 111) (sl w.heap.size 1 1)).tmps[110]? = a.tmps[110]? := by rw [TM _ _ (by decide), if_neg (by decide)]
      have t111 : (a.put (some 111) (sl w.heap.size 1 1)).tmps[111]? = some (sl w.heap.size 1 1) := by rw [TM _ _ (by decide), if_pos rfl]
      have t112 : (a.put (some 111) (sl w.heap.size 1 1)).tmps[112]? = a.tmps[112]? := by rw [TM _ _ (by decide), if_neg (by decide)]
      have t113 : (a.put (some 111) (sl w.heap.size 1 1)).tmps[113]? = a.tmps[113]? := by rw [TM _ _ (by decide), if_neg (by decide)]
      exact ⟨I.dfr, (size29 _ _ _).trans I.sz, fun j hj => by rw [TM _ _ (by decide), if_neg (by omega)]; exact I.frm j hj, (fun _ => bl.trans (al.mono bl.size)), (by rw [f0, f3, t106, t111]; exact fun h => (by obtain ⟨B, e, hr⟩ := I.s0 h; exact ⟨B, e, fun h3 => (by obtain ⟨q1, q2, q3⟩ := hr h3; exact ⟨q1, own_kept q2 al (Nat.le_refl _), fun _ B5 hB5 => by cases hB5; have := (q2.lt B rfl).2; omega⟩)⟩)), (by rw [f1, t107]; exact I.s1), (by rw [f2, t108]; exact I.s2), (by rw [f3, f0, f2, t109, f6]; exact fun h => (by obtain ⟨q0, q2, g, c, e, hr⟩ := I.s3 h; exact ⟨q0, q2, g, c, e, fun h6 => own_kept (hr h6) al (Nat.le_refl _)⟩)), (by rw [f4, t110]; exact I.s4), (fun _ => ⟨by rw [f4]; exact d4, w.heap.size, t111, fun _ => ⟨bl.size, Cells.new _ _ _⟩⟩), (by rw [f6, n6]; exact fun h => by cases h), (by rw [f7, t113]; exact I.s7), (by rw [f8, n8]; exact fun h => by cases h)⟩
    · have ho2 : some _ = some o := ho
      obtain rfl := Option.some.inj ho2
      have d3 : fl l 3 = true := dep ⟨3, Ground.data⟩ (by simp [ops29]) rfl
      have d5 : fl l 5 = true := dep ⟨5, Ground.data⟩ (by simp [ops29]) rfl
      have n8 : fl l 8 = false := by
        cases h : fl l 8 with
        | false => rfl
        | true => exact absurd ((I.s8 h).1) (by rw [hfi]; decide)
      have bl := I.bel n8
      obtain ⟨d0, d2, g1, c1, e1, ho1⟩ := I.s3 d3
      have own1 := ho1 hfi
      obtain ⟨d4, B5, e5, h5⟩ := I.s5 d5
      obtain ⟨l5, cB5⟩ := h5 hfi
      refine wpOp29 ho rfl (go_append rfl rfl (sl g1 n c1) n cf (ev 109 _ e1) (rowBase own1 (Nat.zero_le _)) ⟨B5, 0, none⟩ 1 1 [.string x, .string y] (ev 111 _ e5) rfl (cells29 cB5) (by intro u hu; simp at hu; rcases hu with rfl | rfl <;> rfl) (by omega) ?_)
      intro v' w' o2 gr bk
      obtain ⟨g2, c2, rfl, lo2, own2⟩ := after29 (lo := W3.heap.size) o2 bk (own1.lt g1 rfl).1 bl.size
      show Reg a0 W3 nb n fv cf x y (l.setIfInBounds 6 true) (a.put (some 112) (sl g2 (n + 1) c2)) w'
      have f0 : fl (l.setIfInBounds 6 true) 0 = fl l 0 := by rw [FL, if_neg (by decide)]
      have f1 : fl (l.setIfInBounds 6 true) 1 = fl l 1 := by rw [FL, if_neg (by decide)]
      have f2 : fl (l.setIfInBounds 6 true) 2 = fl l 2 := by rw [FL, if_neg (by decide)]
      have f3 : fl (l.setIfInBounds 6 true) 3 = fl l 3 := by rw [FL, if_neg (by decide)]
      have f4 : fl (l.setIfInBounds 6 true) 4 = fl l 4 := by rw [FL, if_neg (by decide)]
      have f5 : fl (l.setIfInBounds 6 true) 5 = fl l 5 := by rw [FL, if_neg (by decide)]
      have f6 : fl (l.setIfInBounds 6 true) 6 = true := by rw [FL, if_pos rfl]
      have f7 : fl (l.setIfInBounds 6 true) 7 = fl l 7 := by rw [FL, if_neg (by decide)]
      have f8 : fl (l.setIfInBounds 6 true) 8 = fl l 8 := by rw [FL, if_neg (by decide)]
      have t106 : (a.put (some 112) (sl g2 (n + 1) c2)).tmps[106]? = a.tmps[106]? := by rw [TM _ _ (by decide), if_neg (by decide)]
      have t107 : (a.put (some 112) (sl g2 (n + 1) c2)).tmps[107]? = a.tmps[107]? := by rw [TM _ _ (by decide), if_neg (by decide)]
      have t108 : (a.put (some 112) (sl g2 (n + 1) c2)).tmps[108]? = a.tmps[108]? := by rw [TM _ _ (by decide), if_neg (by decide)]
      have t109 : (a.put (some 112) (sl g2 (n + 1) c2)).tmps[109]? = a.tmps[109]? := by rw [TM _ _ (by decide), if_neg (by decide)]
      have t110 : (a.put (some 112) (sl g2 (n + 1) c2)).tmps[110]? = a.tmps[110]? := by rw [TM _ _ (by decide), if_neg (by decide)]
      have t111 : (a.put (some 112) (sl g2 (n + 1) c2)).tmps[111]? = a.tmps[111]? := by rw [TM _ _ (by decide), if_neg (by decide)]
      have t112 : (a.put (some 112) (sl g2 (n + 1) c2)).tmps[112]? = some (sl g2 (n + 1) c2) := by rw [TM _ _ (by decide), if_pos rfl]
      have t113 : (a.put (some 112) (sl g2 (n + 1) c2)).tmps[113]? = a.tmps[113]? := by rw [TM _ _ (by decide), if_neg (by decide)]
      exact ⟨I.dfr, (size29 _ _ _).trans I.sz, fun j hj => by rw [TM _ _ (by decide), if_neg (by omega)]; exact I.frm j hj, (fun _ => bl.grown gr bl.size (fun k hk => by cases hk; exact (own1.lt g1 rfl).1)), (by rw [f0, t106, f3, d3]; exact fun h => (by obtain ⟨B, e, _⟩ := I.s0 h; exact ⟨B, e, fun q => by cases q⟩)), (by rw [f1, t107]; exact I.s1), (by rw [f2, t108]; exact I.s2), (by rw [f3, f0, f2, t109]; exact fun _ => ⟨d0, d2, g1, c1, e1, fun q => by rw [f6] at q; cases q⟩), (by rw [f4, t110]; exact I.s4), (by rw [f5, f4, t111]; exact fun _ => ⟨d4, B5, e5, fun q => by rw [f6] at q; cases q⟩), (fun _ => ⟨by rw [f3]; exact d3, by rw [f5]; exact d5, g2, c2, t112, fun _ => own2⟩), (by rw [f7, t113]; exact I.s7), (by rw [f8, n8]; exact fun h => by cases h)⟩
    · have ho2 : some _ = some o := ho
      obtain rfl := Option.some.inj ho2
      refine wpOp29 ho rfl (go_faddr rfl e9 ?_)
      show Reg a0 W3 nb n fv cf x y (l.setIfInBounds 7 true) (a.put (some 113) (.pointer (some ⟨nb, 2, none⟩))) w
      have f0 : fl (l.setIfInBounds 7 true) 0 = fl l 0 := by rw [FL, if_neg (by decide)]
      have f1 : fl (l.setIfInBounds 7 true) 1 = fl l 1 := by rw [FL, if_neg (by decide)]
      have f2 : fl (l.setIfInBounds 7 true) 2 = fl l 2 := by rw [FL, if_neg (by decide)]
      have f3 : fl (l.setIfInBounds 7 true) 3 = fl l 3 := by rw [FL, if_neg (by decide)]
      have f4 : fl (l.setIfInBounds 7 true) 4 = fl l 4 := by rw [FL, if_neg (by decide)]
      have f5 : fl (l.setIfInBounds 7 true) 5 = fl l 5 := by rw [FL, if_neg (by decide)]
      have f6 : fl (l.setIfInBounds 7 true) 6 = fl l 6 := by rw [FL, if_neg (by decide)]
      have f7 : fl (l.setIfInBounds 7 true) 7 = true := by rw [FL, if_pos rfl]
      have f8 : fl (l.setIfInBounds 7 true) 8 = fl l 8 := by rw [FL, if_neg (by decide)]
      have t106 : (a.put (some 113) (.pointer (some ⟨nb, 2, none⟩))).tmps[106]? = a.tmps[106]? := by rw [TM _ _ (by decide), if_neg (by decide)]
      have t107 : (a.put (some 113) (.pointer (some ⟨nb, 2, none⟩))).tmps[107]? = a.tmps[107]? := by rw [TM _ _ (by decide), if_neg (by decide)]
      have t108 : (a.put (some 113) (.pointer (some ⟨nb, 2, none⟩))).tmps[108]? = a.tmps[108]? := by rw [TM _ _ (by decide), if_neg (by decide)]
      have t109 : (a.put (some 113) (.pointer (some ⟨nb, 2, none⟩))).tmps[109]? = a.tmps[109]? := by rw [TM _ _ (by decide), if_neg (by decide)]
      have t110 : (a.put (some 113) (.pointer (some ⟨nb, 2, none⟩))).tmps[110]? = a.tmps[110]? := by rw [TM _ _ (by decide), if_neg (by decide)]
      have t111 : (a.put (some 113) (.pointer (some ⟨nb, 2, none⟩))).tmps[111]? = a.tmps[111]? := by rw [TM _ _ (by decide), if_neg (by decide)]
      have t112 : (a.put (some 113) (.pointer (some ⟨nb, 2, none⟩))).tmps[112]? = a.tmps[112]? := by rw [TM _ _ (by decide), if_neg (by decide)]
      have t113 : (a.put (some 113) (.pointer (some ⟨nb, 2, none⟩))).tmps[113]? = some (.pointer (some ⟨nb, 2, none⟩)) := by rw [TM _ _ (by decide), if_pos rfl]
      exact ⟨I.dfr, (size29 _ _ _).trans I.sz, fun j hj => by rw [TM _ _ (by decide), if_neg (by omega)]; exact I.frm j hj, (by rw [f8]; exact I.bel), (by rw [f0, f3, f5, t106, t111]; exact I.s0), (by rw [f1, t107]; exact I.s1), (by rw [f2, t108]; exact I.s2), (by rw [f3, f0, f2, t109, f6]; exact I.s3), (by rw [f4, t110]; exact I.s4), (by rw [f5, f4, t111, f6]; exact I.s5), (by rw [f6, f3, f5, t112, f8]; exact I.s6), (fun _ => t113), (by rw [f8, f6]; exact I.s8)⟩
    · have ho2 : some _ = some o := ho
      obtain rfl := Option.some.inj ho2
      have d7 : fl l 7 = true := dep ⟨7, Ground.data⟩ (by simp [ops29]) rfl
      have d6 : fl l 6 = true := dep ⟨6, Ground.data⟩ (by simp [ops29]) rfl
      have bl := I.bel hfi
      obtain ⟨d3, d5, g2, c2, e2, ho2'⟩ := I.s6 d6
      have own2 := ho2' hfi
      have hv := cells_kept hVB bl hVB.lt
      refine wpOp29 ho rfl (go_store1 rfl (ev 113 _ (I.s7 d7)) (ev 112 _ e2) (hv.cell 2) (hv.frozen 2) ?_)
      show Reg a0 W3 nb n fv cf x y (l.setIfInBounds 8 true) a (w.setCell ⟨nb, 2, none⟩ (sl g2 (n + 1) c2))
      have f0 : fl (l.setIfInBounds 8 true) 0 = fl l 0 := by rw [FL, if_neg (by decide)]
      have f1 : fl (l.setIfInBounds 8 true) 1 = fl l 1 := by rw [FL, if_neg (by decide)]
      have f2 : fl (l.setIfInBounds 8 true) 2 = fl l 2 := by rw [FL, if_neg (by decide)]
      have f3 : fl (l.setIfInBounds 8 true) 3 = fl l 3 := by rw [FL, if_neg (by decide)]
      have f4 : fl (l.setIfInBounds 8 true) 4 = fl l 4 := by rw [FL, if_neg (by decide)]
      have f5 : fl (l.setIfInBounds 8 true) 5 = fl l 5 := by rw [FL, if_neg (by decide)]
      have f6 : fl (l.setIfInBounds 8 true) 6 = fl l 6 := by rw [FL, if_neg (by decide)]
      have f7 : fl (l.setIfInBounds 8 true) 7 = fl l 7 := by rw [FL, if_neg (by decide)]
      have f8 : fl (l.setIfInBounds 8 true) 8 = true := by rw [FL, if_pos rfl]
      exact ⟨I.dfr, I.sz, I.frm, (by rw [f8]; exact fun h => by cases h), (by rw [f0, f3, d3]; exact fun h => (by obtain ⟨B, e, _⟩ := I.s0 h; exact ⟨B, e, fun q => by cases q⟩)), (by rw [f1]; exact I.s1), (by rw [f2]; exact I.s2), (by rw [f3, f0, f2, f6, d6]; exact fun h => (by obtain ⟨q0, q2, g, c, e, _⟩ := I.s3 h; exact ⟨q0, q2, g, c, e, fun q => by cases q⟩)), (by rw [f4]; exact I.s4), (by rw [f5, f4, f6, d6]; exact fun h => (by obtain ⟨q4, B6, e7, _⟩ := I.s5 h; exact ⟨q4, B6, e7, fun q => by cases q⟩)), (by rw [f6, f3, f5, f8]; exact fun _ => ⟨d3, d5, g2, c2, e2, fun q => by cases q⟩), (by rw [f7]; exact I.s7), (fun _ => ⟨by rw [f6]; exact d6, w, g2, c2, bl, own2, rfl⟩)⟩
theorem frame29 (t0 t : Array Value) (hs : t.size = t0.size) (h : ∀ j, (j < 106 ∨ 113 < j) → t[j]? = t0[j]?) :
    ∃ x0 x1 x2 x3 x4 x5 x6 x7, t = (((((((t0.setIfInBounds 106 x0).setIfInBounds 107 x1).setIfInBounds 108 x2).setIfInBounds 109 x3).setIfInBounds 110 x4).setIfInBounds 111 x5).setIfInBounds 112 x6).setIfInBounds 113 x7 := by
  refine ⟨t.getD 106 undef, t.getD 107 undef, t.getD 108 undef, t.getD 109 undef, t.getD 110 undef, t.getD 111 undef, t.getD 112 undef, t.getD 113 undef, ?_⟩
  apply Array.ext_getElem?
  intro j
  simp only [Array.getElem?_setIfInBounds, Array.size_setIfInBounds]
  by_cases hj : j < 106 ∨ 113 < j
  · rw [h j hj]
    rw [if_neg (by omega), if_neg (by omega), if_neg (by omega), if_neg (by omega), if_neg (by omega), if_neg (by omega), if_neg (by omega), if_neg (by omega)]
  · have key : ∀ k : Nat, t[k]? = if k < t0.size then some (t[k]?.getD undef) else none := by
      intro k
      rw [← hs]
      by_cases hk : k < t.size
      · rw [if_pos hk, Array.getElem?_eq_getElem hk]; rfl
      · rw [if_neg hk, Array.getElem?_eq_none (by omega)]
    rcases (by omega : j = 106 ∨ j = 107 ∨ j = 108 ∨ j = 109 ∨ j = 110 ∨ j = 111 ∨ j = 112 ∨ j = 113) with rfl | rfl | rfl | rfl | rfl | rfl | rfl | rfl <;> (simp; exact key _)
/-- The region, its slots spelled out. -/
theorem region29x (a0 : Act) (W3 : World) (nb fb n : Nat) (fv : Value) (cf : List Value) (x y : ByteArray) (Q : Exit → Act → World → Prop) (k0 k1 : Value)
    (h9 : a0.tmps[9]? = some (.pointer (some ⟨nb, 0, none⟩))) (h13 : a0.tmps[13]? = some (.pointer (some ⟨fb, 0, none⟩))) (hsz : 114 ≤ a0.tmps.size)
    (hVB : Cells W3 nb 47 #[k0, k1, fv]) (hFB : Cells W3 fb 73 #[.string x, .string y])
    (hrow : W3.ownsRow 0 73 2 fv n cf) (h1 : ∀ u ∈ cf, u.oneCell' = true) (hn : n ≤ 100000)
    (hQ : ∀ x0 x1 x2 x3 x4 x5 x6 x7 w2 g c, Below W3.heap.size W3 w2 → w2.ownsRow W3.heap.size 73 2 (sl g (n + 1) c) (n + 1) (cf ++ [.string x, .string y]) → Q .normal { tmps := (((((((a0.tmps.setIfInBounds 106 x0).setIfInBounds 107 x1).setIfInBounds 108 x2).setIfInBounds 109 x3).setIfInBounds 110 x4).setIfInBounds 111 x5).setIfInBounds 112 x6).setIfInBounds 113 x7, defers := a0.defers } (w2.setCell ⟨nb, 2, none⟩ (sl g (n + 1) c))) :
    (Code.region 29 ops29 true).wp Tryz.prog Q a0 W3 := by
  refine region29 a0 W3 nb fb n fv cf x y Q k0 k1 h9 h13 hsz hVB hFB hrow h1 hn ?_
  intro a w2 g c d1 d2 d3 b o
  have hx := frame29 a0.tmps a.tmps d2 d3
  have ha : a = { tmps := a.tmps, defers := a0.defers } := by rw [← d1]
  rw [ha]
  generalize a.tmps = tm at *
  refine hx.elim fun x0 hx => hx.elim fun x1 hx => hx.elim fun x2 hx => hx.elim fun x3 hx => hx.elim fun x4 hx => hx.elim fun x5 hx => hx.elim fun x6 hx => hx.elim fun x7 e => ?_
  rw [e]
  exact hQ x0 x1 x2 x3 x4 x5 x6 x7 w2 g c b o
end Go.Proofs.YtiebbgbcojgeoaaGreatDoor
/- An entry's stanza; one more stanza behind those that there are, in any order that is drawn, in a round: by an invariant. -/
namespace Go.Proofs.YtiebbgbcojgeoaaGreatDoor
open Go.RowKit Go.Shelf
attribute [local go_sem] Oper.semAt_some

def cellAt (b i : Nat) (W : World) : Value := match W.cell? ⟨b, i, none⟩ with | some v => v | none => undef
theorem cellAt_eq {b i : Nat} {W : World} (h : (W.cell? ⟨b, i, none⟩).isSome = true) : W.cell? ⟨b, i, none⟩ = some (cellAt b i W) := by
  unfold cellAt
  cases hc : W.cell? ⟨b, i, none⟩ with
  | none => rw [hc] at h; cases h
  | some v => rfl
set_option maxRecDepth 100000 in
theorem ret_stz {fn : Func} {p : Tmp} (h : fn.results = #[.cell p 63]) (tmps : Array Value) (w : World) (b : Nat) (cur : Array Value) (hp : tmps.getD p undef = .pointer (some ⟨b, 0, none⟩))
    (hc : Cells w b 63 cur) (hz : cur.size = 2) : (results fn tmps).run Tryz.prog w = .ok (.agg cur) w := by
  have L := run_loadVar_row (P := Tryz.prog) w b 63 63 cur (0, 0) _ hc Tryz.underlying63 rfl (by rw [hz]; kernel_rfl)
  rw [results_cell1 h, hp]
  show (loadVar _ _).run _ _ = _
  exact L
set_option maxRecDepth 100000 in
set_option maxHeartbeats 4000000 in
theorem stanza7_any (p : Pr) (w : World) (h : FldR w p.2 p.1.1.fields) (hn : p.1.1.fields.length ≤ 1000000) :
    Calls Tryz.prog 73 #[entV p] w fun e w' => ∃ x, e = .returned (.agg #[.int .i64 p.1.2, x]) ∧ w'.ownsRow w.heap.size 73 2 x p.1.1.fields.length (cellsF p.1.1.fields) ∧ Below w.heap.size w w' := by
  obtain ⟨⟨⟨kd, raw, fs⟩, num⟩, fv⟩ := p
  dsimp only at h hn ⊢
  obtain ⟨fa, fc, rfl⟩ := h.form
  unfold entV
  dsimp only
  generalize B raw = rw_ at *
  have hb2 : Below w.heap.size w ((w.alloc (.cells #[.int .i64 kd, .string rw_, .slice fa fs.length fc, .int .i64 num] 100)).alloc (.cells #[.int .i64 0, .slice none 0 0] 63)) := ((Below.refl _ w).alloc (Nat.le_refl _) _).alloc (by simp) _
  have BX := Lib.hid ((Cells.new w 100 #[.int .i64 kd, .string rw_, .slice fa fs.length fc, .int .i64 num]).alloc (.cells #[.int .i64 0, .slice none 0 0] 63))
  have BR := Lib.hid (Cells.new (w.alloc (.cells #[.int .i64 kd, .string rw_, .slice fa fs.length fc, .int .i64 num] 100)) 63 #[.int .i64 0, .slice none 0 0])
  go_enter Tryz.func73, Tryz.ntmps73
  go_wp2_with fail
  obtain ⟨w1, hw1⟩ : ∃ w1, w1 = ((w.alloc (.cells #[.int .i64 kd, .string rw_, .slice fa fs.length fc, .int .i64 num] 100)).alloc (.cells #[.int .i64 0, .slice none 0 0] 63)) := ⟨_, rfl⟩
  have hz1 : w1.heap.size = w.heap.size + 2 := by rw [hw1]; simp
  rw [← hw1] at hb2 BX BR ⊢
  clear hw1
  have hf1 := h.below hb2 (Nat.le_refl _)
  have CL := Lib.hid (fun (W : World) (hB : Below w1.heap.size w1 W) => clone_any fs (.slice fa fs.length fc) W (hf1.1.below hB (Nat.le_refl _)) hf1.2 hn)
  rw [World.size_alloc] at BR
  have HS := Lib.hid (show ∀ W, Below w1.heap.size w1 W → (Below w1.heap.size w1 W ∧ W.cell? ⟨w.heap.size, 2, none⟩ = some (.slice fa fs.length fc) ∧ W.cell? ⟨w.heap.size, 3, none⟩ = some (.int .i64 num) ∧ W.cell? ⟨w.heap.size + 1, 0, none⟩ = some (.int .i64 0) ∧ W.cell? ⟨w.heap.size + 1, 1, none⟩ = some (.slice none 0 0) ∧ W.frozen? ⟨w.heap.size + 1, 0, none⟩ = false ∧ W.frozen? ⟨w.heap.size + 1, 1, none⟩ = false) from fun W hB =>
    have hX := cells_kept BX.out hB (by omega)
    have hY := cells_kept BR.out hB (by omega)
    ⟨hB, hX.cell 2, hX.cell 3, hY.cell 0, hY.cell 1, hY.frozen 0, hY.frozen 1⟩)
  clear h hf1
  obtain ⟨_, q2, q3, r0, r1, s0, s1⟩ := HS.out w1 (Below.refl _ _)
  have HB2 := Lib.hid hb2
  go_region_law (first | (go_simp; go_at_call 64; refine (CL.out _ (Below.refl _ _).drew).mono ?_; rintro e w5 ⟨x, rfl, hx, hb5⟩; obtain ⟨xa, xc, rfl, _⟩ := own_slice hx; obtain ⟨_, q2', q3', r0', r1', s0', s1'⟩ := HS.out w5 ((Below.refl _ w1).drew.trans hb5)))
  all_goals go_wp2_with fail
  all_goals
    have hdz : w1.drew.heap.size = w.heap.size + 2 := hz1
    have hz5 := hb5.size
    have R2 := cells_kept BR.out ((Below.refl _ w1).drew.trans hb5) (by omega)
    have RE := (R2.set 0 (.int .i64 num)).set 1 (.slice xa fs.length xc)
    have e2 : ((#[Value.int .i64 0, Value.slice none 0 0].setIfInBounds 0 (.int .i64 num)).setIfInBounds 1 (.slice xa fs.length xc)) = #[.int .i64 num, .slice xa fs.length xc] := by simp [List.setIfInBounds_toArray, List.set]
    rw [e2] at RE
    have hne : ∀ k, k < w.heap.size + 2 → (Value.slice xa fs.length xc).ownBlock ≠ some k := fun k hk e => by
      have := (hx.lt k e).1
      omega
    refine bodyPost_ret (ret_stz rfl _ _ (w.heap.size + 1) _ rfl RE rfl) rfl ?_
    refine ⟨_, rfl, rowBase (base := w1.drew.heap.size) (row_cell (p := ⟨w.heap.size + 1, 1, none⟩) (row_cell (p := ⟨w.heap.size + 1, 0, none⟩) hx (hne (w.heap.size + 1) (by omega)) _) (hne (w.heap.size + 1) (by omega)) _) (by omega), ?_⟩
    · exact ((HB2.out.drew.trans (hb5.mono (show w.heap.size ≤ w1.drew.heap.size by omega))).setCell (p := ⟨w.heap.size + 1, 0, none⟩) (by show w.heap.size ≤ w.heap.size + 1; omega) _).setCell (p := ⟨w.heap.size + 1, 1, none⟩) (by show w.heap.size ≤ w.heap.size + 1; omega) _

def opsS : Array Oper := #[{ dst := some 11, op := Op.load 60 (Operand.tmp 3), type := 60, pos := "list.go:96", after := #[], guard := none }, { dst := some 12, op := Op.load 100 (Operand.tmp 5), type := 100, pos := "list.go:96", after := #[], guard := none },
  { dst := some 13, op := Op.call { callee := Callee.value (Operand.func 73), args := #[Operand.tmp 12], argTypes := #[100] }, type := 63, pos := "list.go:96", after := #[{ on := 1, ground := Ground.data }], guard := none },
  { dst := some 14, op := Op.buildSlice 60 1 #[(0, Operand.tmp 13)], type := 60, pos := "list.go:96", after := #[{ on := 2, ground := Ground.data }], guard := none },
  { dst := some 15, op := Op.call { callee := Callee.builtin Builtin.append, args := #[Operand.tmp 11, Operand.tmp 14], argTypes := #[60, 60] }, type := 60, pos := "list.go:96", after := #[{ on := 0, ground := Ground.data }, { on := 3, ground := Ground.data }, { on := 2, ground := Ground.chain }], guard := none },
  { dst := none, op := Op.store 60 (Operand.tmp 3) (Operand.tmp 15), type := 0, pos := "list.go:96", after := #[{ on := 4, ground := Ground.data }, { on := 4, ground := Ground.chain }, { on := 0, ground := Ground.phase }, { on := 1, ground := Ground.phase }, { on := 2, ground := Ground.phase }, { on := 3, ground := Ground.phase }, { on := 4, ground := Ground.phase }], guard := none }]
theorem doneS : ∀ b0 b1 b2 b3 b4 b5 : Bool, Region.ready .any opsS #[b0, b1, b2, b3, b4, b5] = [] → b5 = true := by decide +kernel
theorem infoStz : (Tryz.prog.info? 63).map (fun i => (i.zero, i.size, i.bytes)) = some (some (.agg #[.int .i64 0, .slice none 0 0]), 2, 32) := by kernel_rfl
theorem evS {a : Act} {i : Nat} {v : Value} (h : a.tmps[i]? = some v) : a.eval (.tmp i) = v := by
  show a.tmps.getD i undef = v
  rw [Array.getD_eq_getD_getElem?, h]; rfl
theorem putS {a : Act} {d : Nat} {v : Value} (hd : d < a.tmps.size) (j : Nat) : (a.put (some d) v).tmps[j]? = if j = d then some v else a.tmps[j]? := by
  show (a.tmps.setIfInBounds d v)[j]? = _
  rw [Array.getElem?_setIfInBounds]
  by_cases h : d = j
  · subst h; simp [hd]
  · rw [if_neg h, if_neg (Ne.symm h)]
theorem putS_size (a : Act) (d : Nat) (v : Value) : (a.put (some d) v).tmps.size = a.tmps.size := by show (a.tmps.setIfInBounds d v).size = _; simp
/-- Which operations are done: the load of what there is (z), of the others the first c. -/
def flagS (c : Nat) (z : Bool) : Array Bool := #[z, decide (0 < c), decide (1 < c), decide (2 < c), decide (3 < c), decide (4 < c)]
/-- What is known behind the first c of the others. -/
def FactS (W0 : World) (sb lo n : Nat) (p : Pr) (v0 : Value) (xs : List Value) (a : Act) (w : World) : Nat → Prop
  | 0 => Below W0.heap.size W0 w
  | 1 => Below W0.heap.size W0 w ∧ a.tmps[12]? = some (entV p)
  | 2 => Below W0.heap.size W0 w ∧ ∃ x, a.tmps[13]? = some (.agg #[.int .i64 p.1.2, x]) ∧ w.ownsRow W0.heap.size 73 2 x p.1.1.fields.length (cellsF p.1.1.fields)
  | 3 => Below W0.heap.size W0 w ∧ ∃ x b, a.tmps[14]? = some (sl b 1 1) ∧ w.ownsRow W0.heap.size 73 2 x p.1.1.fields.length (cellsF p.1.1.fields) ∧ W0.heap.size ≤ b ∧ Cells w b 63 #[.int .i64 p.1.2, x]
  | 4 => ∃ x g c, a.tmps[15]? = some (sl g (n + 1) c) ∧ w.ownsRow W0.heap.size 73 2 x p.1.1.fields.length (cellsF p.1.1.fields) ∧ w.ownsRow lo 63 2 (sl g (n + 1) c) (n + 1) (xs ++ [.int .i64 p.1.2, x]) ∧ Only (fun r => v0.ownBlock = some r) W0 w
  | _ => ∃ x g c w2, w2.ownsRow W0.heap.size 73 2 x p.1.1.fields.length (cellsF p.1.1.fields) ∧ w2.ownsRow lo 63 2 (sl g (n + 1) c) (n + 1) (xs ++ [.int .i64 p.1.2, x]) ∧ Only (fun r => v0.ownBlock = some r) W0 w2 ∧ w = w2.setCell ⟨sb, 0, none⟩ (sl g (n + 1) c)
theorem FactS.below {W0 : World} {sb lo n : Nat} {p : Pr} {v0 : Value} {xs : List Value} {a : Act} {w : World} {c : Nat} (h : FactS W0 sb lo n p v0 xs a w c) (hc : c ≤ 3) : Below W0.heap.size W0 w := by
  match c, h with
  | 0, h => exact h
  | 1, h => exact h.1
  | 2, h => exact h.1
  | 3, h => exact h.1
  | n + 4, _ => omega
theorem FactS.put {W0 : World} {sb lo n : Nat} {p : Pr} {v0 : Value} {xs : List Value} {a : Act} {w : World} {c : Nat} (h : FactS W0 sb lo n p v0 xs a w c) (hs : 16 ≤ a.tmps.size) (v : Value) : FactS W0 sb lo n p v0 xs (a.put (some 11) v) w c := by
  have T := fun j => putS (a := a) (d := 11) (v := v) (by omega) j
  match c, h with
  | 0, h => exact h
  | 1, h => exact ⟨h.1, by rw [T, if_neg (by decide)]; exact h.2⟩
  | 2, h => obtain ⟨h1, x, h2, h3⟩ := h; exact ⟨h1, x, by rw [T, if_neg (by decide)]; exact h2, h3⟩
  | 3, h => obtain ⟨h1, x, b, h2, h3⟩ := h; exact ⟨h1, x, b, by rw [T, if_neg (by decide)]; exact h2, h3⟩
  | 4, h => obtain ⟨x, g, c, h2, h3⟩ := h; exact ⟨x, g, c, by rw [T, if_neg (by decide)]; exact h2, h3⟩
  | n + 5, h => exact h
structure RegS (a0 : Act) (W0 : World) (sb lo n : Nat) (p : Pr) (v0 : Value) (xs : List Value) (l : Array Bool) (a : Act) (w : World) : Prop where
  dfr : a.defers = a0.defers
  sz : a.tmps.size = a0.tmps.size
  frm : ∀ j, (j < 11 ∨ 15 < j) → a.tmps[j]? = a0.tmps[j]?
  st : ∃ c z, c ≤ 5 ∧ l = flagS c z ∧ (3 < c → z = true) ∧ (z = true → a.tmps[11]? = some v0) ∧ FactS W0 sb lo n p v0 xs a w c
theorem wpOpS {Q : Exit → Act → World → Prop} {K : Act → World → Prop} {a : Act} {w : World} {i : Nat} {o : Oper} (ho : opsS[i]? = some o) (hg : o.guard = none) (h : Oper.wp Tryz.prog o a w K Q) : wpOp Tryz.prog opsS Q i K a w := by
  unfold wpOp
  rw [ho]
  show (if Region.wanted o (yielded opsS a.tmps) = true then _ else _)
  rw [if_pos (by simp [Region.wanted, hg])]
  exact .inl h
theorem opS_load1 {o : Oper} {a : Act} {w : World} {K : Act → World → Prop} {Q : Exit → Act → World → Prop} {x : Operand} {p : Addr} {v : Value} (ho : o.op = Op.load 60 x) (hx : a.eval x = .pointer (some p)) (hc : w.cell? p = some v) (hK : K (a.put o.dst v) w) : Oper.wp Tryz.prog o a w K Q := by
  unfold Oper.wp
  have e : (execOp a.eval o).run Tryz.prog w = .ok (.value v) w := by
    simp only [execOp, ho, hx]
    simp [go_sem, Result.andThen, hc]
  rw [e]; exact hK
theorem opS_load4 {o : Oper} {a : Act} {w : World} {K : Act → World → Prop} {Q : Exit → Act → World → Prop} {x : Operand} {b : Nat} {u0 u1 u2 u3 : Value} (ho : o.op = Op.load 100 x) (hx : a.eval x = .pointer (some ⟨b, 0, none⟩)) (c0 : w.cell? ⟨b, 0, none⟩ = some u0) (c1 : w.cell? ⟨b, 1, none⟩ = some u1) (c2 : w.cell? ⟨b, 2, none⟩ = some u2) (c3 : w.cell? ⟨b, 3, none⟩ = some u3) (hK : K (a.put o.dst (.agg #[u0, u1, u2, u3])) w) : Oper.wp Tryz.prog o a w K Q := by
  unfold Oper.wp
  have e : (execOp a.eval o).run Tryz.prog w = .ok (.value (.agg #[u0, u1, u2, u3])) w := by
    simp only [execOp, ho, hx]
    simp [go_sem, Result.andThen, c0, c1, c2, c3]
  rw [e]; exact hK
theorem opS_call {o : Oper} {a : Act} {w : World} {K : Act → World → Prop} {Q : Exit → Act → World → Prop} {x : Operand} {u : Value} (ho : o.op = Op.call { callee := Callee.value (Operand.func 73), args := #[x], argTypes := #[100] }) (hx : a.eval x = u) {R : Ending → World → Prop}
    (hC : Calls Tryz.prog 73 #[u] w R) (hR : ∀ e w', R e w' → ∃ v, e = .returned v ∧ K (a.put o.dst v) w') : Oper.wp Tryz.prog o a w K Q := by
  unfold Oper.wp
  have e : (execOp a.eval o).run Tryz.prog w = .ok (.enter 73 #[u]) w := by
    have hf : a.eval (.func 73) = .func (.func 73) #[] #[] := rfl
    generalize a.eval = ρ at hx hf ⊢
    have en : ∀ args w, (callFunc 73 args).run Tryz.prog w = .ok (.enter 73 args) w := enters_of (P := Tryz.prog) Tryz.func73 (by kernel_rfl) rfl
    simp only [execOp, ho]
    simp [go_sem, resolve, invoke, hx, hf, en]
  rw [e]
  refine hC.mono ?_
  intro e w' h
  obtain ⟨v, rfl, hK⟩ := hR e w' h
  exact hK
theorem opS_lit {o : Oper} {a : Act} {w : World} {K : Act → World → Prop} {Q : Exit → Act → World → Prop} {x : Operand} {n : Int} {fa : Option Addr} {m c : Nat} (ho : o.op = Op.buildSlice 60 1 #[(0, x)]) (hx : a.eval x = .agg #[.int .i64 n, .slice fa m c]) (hK : K (a.put o.dst (sl w.heap.size 1 1)) (w.alloc (.cells #[.int .i64 n, .slice fa m c] 63))) : Oper.wp Tryz.prog o a w K Q := by
  unfold Oper.wp
  have e : (execOp a.eval o).run Tryz.prog w = .ok (.value (sl w.heap.size 1 1)) (w.alloc (.cells #[.int .i64 n, .slice fa m c] 63)) := by
    simp only [execOp, ho]
    rw [show (Array.map (fun (p : Nat × Operand) => match p with | (i, x) => (i, a.eval x)) #[((0 : Nat), x)]) = #[((0 : Nat), Value.agg #[.int .i64 n, .slice fa m c])] from by rw [← hx]; simp]
    kernel_rfl
  rw [e]; exact hK
theorem opS_store {o : Oper} {a : Act} {w : World} {K : Act → World → Prop} {Q : Exit → Act → World → Prop} {x y : Operand} {p : Addr} {u : Value} {g n c : Nat} (ho : o.op = Op.store 60 x y) (hx : a.eval x = .pointer (some p)) (hy : a.eval y = sl g n c) (hc : w.cell? p = some u) (hf : w.frozen? p = false) (hK : K (a.put o.dst undef) (w.setCell p (sl g n c))) : Oper.wp Tryz.prog o a w K Q := by
  unfold Oper.wp
  have e : (execOp a.eval o).run Tryz.prog w = .ok .skip (w.setCell p (sl g n c)) := by
    simp only [execOp, ho, hx, hy]
    simp [go_sem, Result.andThen, hc, hf, sl]
  rw [e]; exact hK
set_option maxRecDepth 100000 in
set_option maxHeartbeats 4000000 in
theorem region_stz (a0 : Act) (W0 : World) (sb eb lo n : Nat) (p : Pr) (fa : Option Addr) (fc : Nat) (v0 : Value) (xs : List Value) (Q : Exit → Act → World → Prop)
    (h3 : a0.tmps[3]? = some (ptr sb)) (h5 : a0.tmps[5]? = some (ptr eb)) (hsz : 16 ≤ a0.tmps.size) (hSB : Boxed W0 sb 60 v0) (hEB : Cells W0 eb 100 #[.int .i64 p.1.1.kind, .string (B p.1.1.raw), p.2, .int .i64 p.1.2])
    (hfv : p.2 = .slice fa p.1.1.fields.length fc) (hfr : FldR W0 p.2 p.1.1.fields) (hfn : p.1.1.fields.length ≤ 1000000) (hrow : W0.ownsRow lo 63 2 v0 n xs) (hlo : lo ≤ W0.heap.size) (hn : n ≤ 1000000)
    (hQ : ∀ a x g c w2, a.defers = a0.defers → a.tmps.size = a0.tmps.size → (∀ j, (j < 11 ∨ 15 < j) → a.tmps[j]? = a0.tmps[j]?) → w2.ownsRow W0.heap.size 73 2 x p.1.1.fields.length (cellsF p.1.1.fields) → w2.ownsRow lo 63 2 (sl g (n + 1) c) (n + 1) (xs ++ [.int .i64 p.1.2, x]) → Only (fun r => v0.ownBlock = some r) W0 w2 → Q .normal a (w2.setCell ⟨sb, 0, none⟩ (sl g (n + 1) c))) :
    wpAny Tryz.prog .any opsS Q opsS.size (Array.replicate opsS.size false) a0 W0.drew := by
  obtain ⟨i0, hi, hz0, hz1, hz2⟩ := info_parts infoStz
  have hsb : v0.ownBlock ≠ some sb := by
    intro e
    rcases hrow.2 with ⟨rfl, _⟩ | ⟨g, cap, cur, rfl, _, hg, _⟩
    · cases e
    · have : g = sb := Option.some.inj e
      subst this
      have := hg.symm.trans hSB
      simp at this
  refine wpAny_inv (RegS a0 W0 sb lo n p v0 xs) ?step ?done opsS.size _ a0 _ ?start (by simp) (by unfold todo; simp)
  case start => exact ⟨rfl, rfl, fun _ _ => rfl, 0, false, by decide, rfl, fun h => absurd h (by decide), (fun h => by cases h), (Below.refl _ _).drew⟩
  case done =>
    rintro l a w ⟨d, s, f, c, z, hc, rfl, hz, hzv, hF⟩ hl hr
    have h5 := doneS _ _ _ _ _ _ hr
    have : c = 5 := by have := of_decide_eq_true h5; omega
    subst this
    obtain ⟨x, g, c, w2, r1, r2, r3, rfl⟩ := hF
    exact hQ a x g c w2 d s f r1 r2 r3
  case step =>
    rintro l i o a w ⟨d, s, f, c, z, hc, rfl, hz, hzv, hF⟩ hl ho hli he
    have hi6 : i < 6 := by
      rcases Nat.lt_or_ge i 6 with h | h
      · exact h
      · rw [Array.getElem?_eq_none (by exact h)] at ho; cases ho
    have dep : ∀ e ∈ o.after, Region.binds .any e = true → (flagS c z).getD e.on false = true := he
    have hsa : 16 ≤ a.tmps.size := by rw [s]; exact hsz
    have T := fun d v (hd : d < 16) => putS (a := a) (d := d) (v := v) (by omega)
    have e3 := evS ((f 3 (by omega)).trans h3)
    have e5 := evS ((f 5 (by omega)).trans h5)
    rcases (by omega : i = 0 ∨ i = 1 ∨ i = 2 ∨ i = 3 ∨ i = 4 ∨ i = 5) with rfl | rfl | rfl | rfl | rfl | rfl
    · have ho2 : some _ = some o := ho
      obtain rfl := Option.some.inj ho2
      have hz0 : z = false := hli
      subst hz0
      have hc3 : c ≤ 3 := by
        rcases Nat.lt_or_ge 3 c with h | h
        · exact absurd (hz h) (by decide)
        · exact h
      have bl := hF.below hc3
      refine wpOpS ho rfl (opS_load1 rfl e3 ((bl.cell (p := ⟨sb, 0, none⟩) hSB.lt).trans hSB.cell) ?_)
      show RegS a0 W0 sb lo n p v0 xs _ (a.put (some 11) v0) w
      exact ⟨d, (putS_size _ _ _).trans s, fun j hj => by rw [T _ _ (by decide), if_neg (by omega)]; exact f j hj, c, true, hc, rfl, fun _ => rfl, fun _ => by rw [T _ _ (by decide), if_pos rfl], hF.put hsa _⟩
    · have ho2 : some _ = some o := ho
      obtain rfl := Option.some.inj ho2
      have hc0 : c = 0 := by have : decide (0 < c) = false := hli; simpa using this
      subst hc0
      have bl : Below W0.heap.size W0 w := hF
      obtain ⟨b0, b1, b2, b3⟩ := entBox (hEB.below bl hEB.lt)
      refine wpOpS ho rfl (opS_load4 rfl e5 b0 b1 b2 b3 ?_)
      show RegS a0 W0 sb lo n p v0 xs _ (a.put (some 12) (entV p)) w
      exact ⟨d, (putS_size _ _ _).trans s, fun j hj => by rw [T _ _ (by decide), if_neg (by omega)]; exact f j hj, 1, z, by decide, rfl, fun h => absurd h (by decide), fun h => by rw [T _ _ (by decide), if_neg (by decide)]; exact hzv h, bl, by rw [T _ _ (by decide), if_pos rfl]⟩
    · have ho2 : some _ = some o := ho
      obtain rfl := Option.some.inj ho2
      have hc1 : c = 1 := by
        have h1 : decide (1 < c) = false := hli
        have h2 : decide (0 < c) = true := dep ⟨1, Ground.data⟩ (by simp [opsS]) rfl
        simp at h1 h2; omega
      subst hc1
      obtain ⟨bl, e12⟩ := hF
      refine wpOpS ho rfl (opS_call rfl (evS e12) (stanza7_any p w (hfr.below bl (Nat.le_refl _)) hfn) ?_)
      rintro e w' ⟨x, rfl, hx, hb⟩
      refine ⟨_, rfl, ?_⟩
      show RegS a0 W0 sb lo n p v0 xs _ (a.put (some 13) _) w'
      refine ⟨d, (putS_size _ _ _).trans s, fun j hj => by rw [T _ _ (by decide), if_neg (by omega)]; exact f j hj, 2, z, by decide, rfl, fun h => absurd h (by decide), fun h => by rw [T _ _ (by decide), if_neg (by decide)]; exact hzv h, bl.trans (hb.mono bl.size), x, by rw [T _ _ (by decide), if_pos rfl], rowBase hx bl.size⟩
    · have ho2 : some _ = some o := ho
      obtain rfl := Option.some.inj ho2
      have hc2 : c = 2 := by
        have h1 : decide (2 < c) = false := hli
        have h2 : decide (1 < c) = true := dep ⟨2, Ground.data⟩ (by simp [opsS]) rfl
        simp at h1 h2; omega
      subst hc2
      obtain ⟨bl, x, e13, hx⟩ := hF
      obtain ⟨xa, xc, rfl, _⟩ := own_slice hx
      refine wpOpS ho rfl (opS_lit rfl (evS e13) ?_)
      show RegS a0 W0 sb lo n p v0 xs _ (a.put (some 14) (sl w.heap.size 1 1)) _
      exact ⟨d, (putS_size _ _ _).trans s, fun j hj => by rw [T _ _ (by decide), if_neg (by omega)]; exact f j hj, 3, z, by decide, rfl, fun h => absurd h (by decide), fun h => by rw [T _ _ (by decide), if_neg (by decide)]; exact hzv h, bl.alloc bl.size _, _, w.heap.size, by rw [T _ _ (by decide), if_pos rfl], own_kept hx ((Below.refl _ _).alloc (Nat.le_refl _) _) (Nat.le_refl _), bl.size, Cells.new _ _ _⟩
    · have ho2 : some _ = some o := ho
      obtain rfl := Option.some.inj ho2
      have hc3 : c = 3 := by
        have h1 : decide (3 < c) = false := hli
        have h2 : decide (2 < c) = true := dep ⟨3, Ground.data⟩ (by simp [opsS]) rfl
        simp at h1 h2; omega
      subst hc3
      have hzt : z = true := dep ⟨0, Ground.data⟩ (by simp [opsS]) rfl
      subst hzt
      obtain ⟨bl, x, b, e14, hx, hb, hcb⟩ := hF
      have hrw := row_below hrow bl (Nat.le_refl _)
      have e11 := evS (hzv rfl)
      have hone : ∀ u ∈ [Value.int .i64 p.1.2, x], u.oneCell' = true := by
        intro u hu
        simp at hu
        rcases hu with rfl | rfl
        · rfl
        · obtain ⟨xa, xc, rfl, _⟩ := own_slice hx; rfl
      have happ := step_append_own (P := Tryz.prog) (ops := opsS) (o := _) (a := a) (w := w) (K := fun a' w' => RegS a0 W0 sb lo n p v0 xs ((flagS 3 true).setIfInBounds 4 true) a' w') (Q := Q) (E := True) rfl (.tmp 11) (.tmp 14) 60 (show (opsS[4]'(by decide)).op = _ from rfl) 63 i0 _ 2 32 Tryz.underlying60 hi hz0 hz1 hz2 rfl (by decide) v0 n xs e11 (rowBase hrw (Nat.zero_le _)) ⟨b, 0, none⟩ 1 1 [.int .i64 p.1.2, x] (evS e14) rfl (cells29 hcb) hone (by unfold maxLen; omega) (by omega) ?hK
      case hK =>
        intro v' w' ho' hg hbk
        obtain ⟨g', c', rfl⟩ := ownsRow_succ ho'
        have hx' : w'.ownsRow W0.heap.size 73 2 x p.1.1.fields.length (cellsF p.1.1.fields) := by
          refine row_same hx fun k hk => hg.block k (hx.lt k hk).2 (fun e => ?_)
          have h1 := (hx.lt k hk).1
          have h2 := (hrow.lt k e.symm).2
          omega
        have hlo' : w'.ownsRow lo 63 2 (.slice (some ⟨g', 0, none⟩) (n + 1) c') (n + 1) (xs ++ [.int .i64 p.1.2, x]) := by
          rcases ho'.2 with ⟨q, _⟩ | ⟨g2, cap2, cur2, q, _, rest⟩
          · cases q
          · cases q
            refine ⟨ho'.1, .inr ⟨g', c', cur2, rfl, ?_, rest⟩⟩
            rcases hbk with h | h
            · exact (hrow.lt g' h.symm).1
            · have : g' = w.heap.size := Option.some.inj h
              have := bl.size
              omega
        show RegS a0 W0 sb lo n p v0 xs _ (a.put (some 15) (sl g' (n + 1) c')) _
        exact ⟨d, (putS_size _ _ _).trans s, fun j hj => by rw [T _ _ (by decide), if_neg (by omega)]; exact f j hj, 4, true, by decide, rfl, fun _ => rfl, fun _ => by rw [T _ _ (by decide), if_neg (by decide)]; exact hzv rfl, x, g', c', by rw [T _ _ (by decide), if_pos rfl], hx', hlo', (Only.of_below bl (Nat.le_refl _)).grown hg (fun k hk => .inl hk)⟩
      rw [if_pos (show Region.wanted opsS[4] _ = true from rfl)] at happ
      exact wpOpS ho rfl happ
    · have ho2 : some _ = some o := ho
      obtain rfl := Option.some.inj ho2
      have hc4 : c = 4 := by
        have h1 : decide (4 < c) = false := hli
        have h2 : decide (3 < c) = true := dep ⟨4, Ground.data⟩ (by simp [opsS]) rfl
        simp at h1 h2; omega
      subst hc4
      obtain ⟨x, g, c, e15, r1, r2, r3⟩ := hF
      have hbx : Boxed w sb 60 v0 := (r3.same sb hSB.lt hsb).trans hSB
      refine wpOpS ho rfl (opS_store rfl e3 (evS e15) hbx.cell hbx.frozen ?_)
      exact ⟨d, s, f, 5, z, by decide, rfl, fun _ => hz (by decide), hzv, x, g, c, w, r1, r2, r3, rfl⟩
end Go.Proofs.YtiebbgbcojgeoaaGreatDoor
/- Stanzas: by the program, by definition; side by side. -/
namespace Go.Proofs.YtiebbgbcojgeoaaGreatDoor
open Go.RowKit Go.Shelf
attribute [local go_sem] Oper.semAt_some

/-- A stanza: its number, its fields. -/
abbrev Stz := Int × List Fld
def stzCells : List Stz → List Value → List Value
  | s :: l, v :: vs => .int .i64 s.1 :: v :: stzCells l vs
  | _, _ => []
theorem stzCells_snoc : ∀ (l : List Stz) (vs : List Value) (s : Stz) (v : Value), vs.length = l.length → stzCells (l ++ [s]) (vs ++ [v]) = stzCells l vs ++ [.int .i64 s.1, v]
  | [], [], s, v, _ => rfl
  | [], _ :: _, _, _, h => by simp at h
  | a :: l, [], s, v, h => by simp at h
  | a :: l, u :: vs, s, v, h => by
    have := stzCells_snoc l vs s v (by simpa using h)
    simp only [List.cons_append, stzCells, this]
theorem stzCells_at : ∀ (l : List Stz) (vs : List Value) (i : Nat) (s : Stz) (v : Value), l[i]? = some s → vs[i]? = some v → (stzCells l vs)[i * 2]? = some (.int .i64 s.1) ∧ (stzCells l vs)[i * 2 + 1]? = some v
  | [], _, i, s, v, h, _ => by simp at h
  | a :: l, [], i, s, v, _, h => by simp at h
  | a :: l, u :: vs, 0, s, v, h, h' => by simp at h h'; subst h h'; exact ⟨rfl, rfl⟩
  | a :: l, u :: vs, i + 1, s, v, h, h' => by
    obtain ⟨x, y⟩ := stzCells_at l vs i s v (by simpa using h) (by simpa using h')
    have e : stzCells (a :: l) (u :: vs) = .int .i64 a.1 :: u :: stzCells l vs := rfl
    rw [e, show (i + 1) * 2 = i * 2 + 1 + 1 by omega]
    exact ⟨by simpa using x, by simpa using y⟩
/-- The stanzas so far, in new memory from lo on. -/
structure AccZ (lo : Nat) (w wr : World) (v : Value) (fvs : List Value) (rs : List Stz) : Prop where
  row : wr.ownsRow lo 63 2 v rs.length (stzCells rs fvs)
  len : fvs.length = rs.length
  each : ∀ (j : Nat) s x, rs[j]? = some s → fvs[j]? = some x → wr.ownsRow lo 73 2 x s.2.length (cellsF s.2)
  below : Below w.heap.size w wr
theorem AccZ.start (lo : Nat) (w wr : World) (hb : Below w.heap.size w wr) : AccZ lo w wr (.slice none 0 0) [] [] := ⟨⟨rfl, .inl ⟨rfl, rfl⟩⟩, rfl, fun j s x h => by simp at h, hb⟩
theorem AccZ.turned {lo B k : Nat} {w W W' : World} {v : Value} {fvs : List Value} {rs : List Stz} (h : AccZ lo w W v fvs rs) (ht : Turned B k W W') (hB : w.heap.size ≤ B) (hlo : B + k ≤ lo) : AccZ lo w W' v fvs rs :=
  ⟨ht.row h.row (fun b e => .inr (by have := (h.row.lt b e).1; omega)), h.len, fun j s x h1 h2 => ht.row (h.each j s x h1 h2) (fun b e => .inr (by have := ((h.each j s x h1 h2).lt b e).1; omega)), h.below.trans (ht.below hB h.below.size)⟩
theorem AccZ.alloc {lo : Nat} {w W : World} {v : Value} {fvs : List Value} {rs : List Stz} (h : AccZ lo w W v fvs rs) (o : Obj) : AccZ lo w (W.alloc o) v fvs rs :=
  have hb := (Below.refl W.heap.size W).alloc (Nat.le_refl _) o
  ⟨own_kept h.row hb (Nat.le_refl _), h.len, fun j s x h1 h2 => own_kept (h.each j s x h1 h2) hb (Nat.le_refl _), h.below.alloc h.below.size o⟩
theorem stz_ne {W : World} {lo n m : Nat} {v x : Value} {xs ys : List Value} (hv : W.ownsRow lo 63 2 v n xs) (hx : W.ownsRow lo 73 2 x m ys) : ∀ b, x.ownBlock = some b → ¬ v.ownBlock = some b := by
  intro b hb e
  rcases hx.2 with ⟨rfl, _⟩ | ⟨g, cap, cur, rfl, _, hc, _⟩
  · cases hb
  · cases hb
    rcases hv.2 with ⟨rfl, _⟩ | ⟨g', cap', cur', rfl, _, hc', _⟩
    · cases e
    · have : g' = g := Option.some.inj e
      subst this
      rw [hc] at hc'
      injection hc' with hc'
      injection hc' with _ h2 _
      exact absurd h2 (by decide)
theorem AccZ.snoc {lo : Nat} {w W w2 : World} {v : Value} {fvs : List Value} {rs : List Stz} {s : Stz} {x : Value} {g c : Nat} (h : AccZ lo w W v fvs rs) (hlo : w.heap.size ≤ lo) (hx : w2.ownsRow lo 73 2 x s.2.length (cellsF s.2)) (hr : w2.ownsRow lo 63 2 (sl g (rs.length + 1) c) (rs.length + 1) (stzCells rs fvs ++ [.int .i64 s.1, x]))
    (ho : Only (fun r => v.ownBlock = some r) W w2) : AccZ lo w w2 (sl g (rs.length + 1) c) (fvs ++ [x]) (rs ++ [s]) := by
  refine ⟨by rw [List.length_append, stzCells_snoc _ _ _ _ h.len]; exact hr, by simp [h.len], fun j y u hy hu => ?_, h.below.trans (ho.to_below h.below.size (fun r hr e => by have := (h.row.lt r e).1; omega))⟩
  rcases snoc_at hy with ⟨q, hy⟩ | ⟨q, rfl⟩
  · rw [List.getElem?_append_left (by rw [h.len]; exact q)] at hu
    exact row_only (h.each j y u hy hu) ho (stz_ne h.row (h.each j y u hy hu))
  · rw [q, ← h.len, List.getElem?_append_right (Nat.le_refl _)] at hu
    simp at hu
    subst hu; exact hx
/-- The stanzas of entries. -/
def stzL (xs : List (Nat × Pr)) : List Stz := xs.map fun x => (x.2.1.2, x.2.1.1.fields)
theorem stzL_snoc (xs : List (Nat × Pr)) (x : Nat × Pr) : stzL (xs ++ [x]) = stzL xs ++ [(x.2.1.2, x.2.1.1.fields)] := by unfold stzL; simp
theorem AccZ.set {lo : Nat} {w W : World} {v : Value} {fvs : List Value} {rs : List Stz} {b : Nat} (h : AccZ lo w W v fvs rs) (hb : b < lo) (hbw : w.heap.size ≤ b) (u : Value) : AccZ lo w (W.setCell ⟨b, 0, none⟩ u) v fvs rs :=
  ⟨row_cell h.row (fun e => by have := (h.row.lt b e).1; omega) _, h.len, fun j s x h1 h2 => row_cell (h.each j s x h1 h2) (fun e => by have := ((h.each j s x h1 h2).lt b e).1; omega) _, h.below.setCell (p := ⟨b, 0, none⟩) hbw _⟩
set_option maxRecDepth 100000 in
set_option maxHeartbeats 4000000 in
theorem stanzas_gen (ps : List Pr) (v : Value) (q : Option Addr) (w : World) (hl : ∀ W, Below w.heap.size w W → AllR W (.pointer q) v ps) (ok : EntsOk ps) :
    Calls Tryz.prog 27 #[.pointer q] w fun e w' => ∃ u fvs, e = .returned u ∧ AccZ w.heap.size w w' u fvs (stzL (stzP 0 ps)) := by
  obtain ⟨A, cap, hv, hle⟩ := (hl w (Below.refl _ _)).1.empty
  have ALL := Lib.hid (fun W hB => callsIn_wide (n := 8).2 (hl W hB).2)
  have HE := Lib.hid (fun W hB => (hl W hB).1)
  have ST := Lib.hid (fun W => callsIn_wide (n := 8).2 (stz7_any v W A ps.length cap hv))
  have HF := Lib.hid ok.fields
  have hps : ps.length ≤ 1000000 := by have := ok.len; omega
  clear hl hv ok
  refine callsIn_wide (n := 9).1 ?_
  refine callsIn_of_wp_marks Tryz.func27 rfl trivial ?_ rfl
  simp only [Tryz.ntmps27, List.size_toArray, List.length_cons, List.length_nil, Nat.reduceAdd, Nat.reduceSub, Array.replicate_succ, Array.replicate_zero, List.push_toArray, List.append_toArray, List.nil_append, List.cons_append]
  gi_wp2_with fail
  have hb0 : Below w.heap.size w (w.alloc (.cells #[.slice none 0 0] 60)) := (Below.refl _ w).alloc (Nat.le_refl _) _
  refine ⟨trivial, (ALL.out _ hb0).mono ?_⟩
  rintro e w1 ⟨rfl, rfl⟩
  gi_wp2_with fail
  refine ⟨trivial, (ST.out _).mono ?_⟩
  rintro e w1 ⟨rfl, rfl⟩
  gi_wp2_with fail
  obtain ⟨w1, hw1⟩ : ∃ w1, w1 = ((w.alloc (.cells #[.slice none 0 0] 60)).alloc (.cells #[v] 96)) := ⟨_, rfl⟩
  have hz : w1.heap.size = w.heap.size + 2 := by rw [hw1]; simp
  have B0 : Boxed w1 w.heap.size 60 (.slice none 0 0) := by rw [hw1]; exact (Boxed.new w _ _).alloc _
  have B1 : Boxed w1 (w.heap.size + 1) 96 v := by rw [hw1]; exact boxNew2 w _ _ _
  have hb1 : Below w.heap.size w w1 := by rw [hw1]; exact hb0.alloc (by simp) _
  rw [← hw1]
  clear hw1 hb0
  have HH := stz_hands ps v _ w1 B1 hps (HE.out _ hb1)
  refine wp_rangedKA (gf := 100) (lb := #[.pointer (some ⟨w.heap.size + 1, 0, none⟩)]) rfl (enters_of Tryz.func100 (by kernel_rfl) rfl) HH (fun _ => rfl)
    (fun pre W => ∃ u fvs, Boxed W w.heap.size 60 u ∧ AccZ (w.heap.size + 6) w W u fvs (stzL pre) ∧ Boxed W (w.heap.size + 1) 96 v)
    (fun _ _ _ => False)
    (by
      rw [hz]
      rintro pre W W' ⟨u, fvs, h1, h2, h3⟩ ht
      exact ⟨u, fvs, ht.box h1 (.inl (by omega)), h2.turned ht (by omega) (by omega), ht.box h3 (.inl (by omega))⟩)
    (fun _ _ _ _ hs _ => hs)
    ⟨_, [], B0, AccZ.start _ _ _ hb1, B1⟩
    (fun pre W h => by obtain ⟨u, fvs, h1, h2, h3⟩ := h; exact ⟨HE.out _ h2.below, h3⟩)
    (fun a pre x a' W => ∃ Bx, w.heap.size + 6 ≤ Bx ∧ a' = { tmps := ((a.tmps.setIfInBounds 9 (.int .i64 (x.1 : Nat))).setIfInBounds 10 (entV x.2)).setIfInBounds 5 (ptr Bx), defers := [] } ∧ Cells W Bx 100 #[.int .i64 x.2.1.1.kind, .string (B x.2.1.1.raw), x.2.2, .int .i64 x.2.1.2] ∧
      ∃ u fvs, Boxed W w.heap.size 60 u ∧ AccZ (w.heap.size + 6) w W u fvs (stzL pre) ∧ Boxed W (w.heap.size + 1) 96 v)
    ?hM ?assign ?body ?done ?stop
  case hM =>
    rw [hz]
    rintro a pre x a' _ W W' ⟨Bx, h0, h0', h0'', u, fvs, h1, h2, h3⟩ ht
    exact ⟨Bx, h0, h0', (ht.same Bx h0''.lt (.inr (by omega))).trans h0'', u, fvs, ht.box h1 (.inl (by omega)), h2.turned (ht.sub (Nat.le_refl _) (show w.heap.size + 2 + 2 ≤ w.heap.size + 2 + 4 by omega)) (by omega) (by omega), ht.box h3 (.inl (by omega))⟩
  case assign =>
    rw [hz]
    rintro l pre x post W hx hsz ⟨u, fvs, h1, h2, h3⟩
    have hfr : ∃ fa fc, x.2.2 = .slice fa x.2.1.1.fields.length fc := by
      have hm := stzG_mem 0 ps x (by rw [show stzG (fun p : Pr => p.1.1.kind) 0 ps = _ from hx]; simp)
      exact ((HE.out _ h2.below).each x.2 (List.mem_of_getElem? hm.2.1)).form
    obtain ⟨k, ⟨⟨⟨kd, raw, fs⟩, num⟩, fv⟩⟩ := x
    obtain ⟨fa, fc, e⟩ := hfr
    dsimp only at e
    subst e
    clear hx
    dsimp only [entV]
    gi_wp2
    exact ⟨(Stay.refl _ _ W).alloc hsz _, W.heap.size, by omega, rfl, Cells.new _ _ _, u, fvs, h1.alloc _, h2.alloc _, h3.alloc _⟩
  case body =>
    rw [hz]
    rintro l pre x post a' W hx hsz ⟨Bx, hB, rfl, hc, u, fvs, h1, h2, h3⟩
    have hm := stzG_mem 0 ps x (by rw [show stzG (fun p : Pr => p.1.1.kind) 0 ps = _ from hx]; simp)
    have hpx := List.mem_of_getElem? hm.2.1
    have hfr := (HE.out _ h2.below).each x.2 hpx
    obtain ⟨fa, fc, hfv⟩ := hfr.form
    have hnn : (stzL pre).length ≤ 1000000 := by
      have h4 := congrArg List.length hx
      have h5 := stzG_len (κ := fun p : Pr => p.1.1.kind) 0 ps
      unfold stzL
      simp at h4 ⊢
      simp only [stzP] at h4 h5
      omega
    refine wpIn_block (wp_region_round (by decide +kernel) (by rintro ⟨a, w, h⟩; exact h) (by kernel_rfl) ?_)
    refine region_stz _ W w.heap.size Bx (w.heap.size + 6) (stzL pre).length x.2 fa fc u (stzCells (stzL pre) fvs) _ rfl rfl (by simp) h1 hc hfv hfr (HF.out _ hpx) h2.row (by omega) hnn ?_
    intro a y g c w2 _ _ _ r1 r2 r3
    have r1' := rowBase r1 (show w.heap.size + 6 ≤ W.heap.size by omega)
    have acc2 := Lib.hid (h2.snoc (s := (x.2.1.2, x.2.1.1.fields)) (by omega) r1' r2 r3)
    have hne : ¬ u.ownBlock = some w.heap.size := fun e => by have := (h2.row.lt _ e).1; omega
    have hne1 : ¬ u.ownBlock = some (w.heap.size + 1) := fun e => by have := (h2.row.lt _ e).1; omega
    have b1 : Boxed w2 w.heap.size 60 u := (r3.same _ h1.lt hne).trans h1
    have b3 : Boxed w2 (w.heap.size + 1) 96 v := (r3.same _ h3.lt hne1).trans h3
    have hst : Stay (w.heap.size + 2) (2 + 2) W w2 := ⟨r3.size, fun r p1 p2 => r3.same r (by omega) (fun e => by have := (h2.row.lt _ e).1; omega)⟩
    refine ⟨hst.setCell (.inl (by show w.heap.size < _; omega)) _, _, fvs ++ [y], Boxed.set _ b1, ?_, b3.other (by show w.heap.size + 1 ≠ w.heap.size; omega) _⟩
    rw [stzL_snoc]
    exact acc2.out.set (by omega) (Nat.le_refl _) _
  case done =>
    rw [hz]
    rintro W ⟨u, fvs, b0, acc, b1⟩ hK
    obtain ⟨ua, uc, rfl, _⟩ := own_slice acc.row
    have c := b0.cell
    gi_wp2
    refine ⟨by simp, .inl ⟨_, _, rfl, run_takeDeferred hK, ?_⟩⟩
    have kb : Below w.heap.size W (W.putObj (w.heap.size + 2) (.deferred none)) := belowK_b (w := w) (Nat.le_refl _) W _ _ _ (by omega) hK rfl rfl
    have pb := grownBy_putObj' W (w.heap.size + 2) (.deferred none)
    refine ⟨_, results_tmp rfl _ _ _, .slice ua (stzL (stzP 0 ps)).length uc, fvs, rfl, ⟨rowBase (row_same acc.row fun b e => pb.block b (acc.row.lt b e).2 (fun q => ?_)) (by omega), acc.len, fun j s x q1 q2 => rowBase (row_same (acc.each j s x q1 q2) fun b e => pb.block b ((acc.each j s x q1 q2).lt b e).2 (fun q => ?_)) (by omega), acc.below.trans kb⟩⟩
    · have := (acc.row.lt b e).1
      have := Option.some.inj q
      omega
    · have := ((acc.each j s x q1 q2).lt b e).1
      have := Option.some.inj q
      omega
  case stop =>
    intro c pre W _ h _
    exact h.elim
end Go.Proofs.YtiebbgbcojgeoaaGreatDoor
/- slices.Delete, slices.Insert on entries. -/
namespace Go.Proofs.YtiebbgbcojgeoaaGreatDoor
open Go.RowKit Go.Shelf

/-- Values laid over an array from a place on. -/
def layV (cur : Array Value) : Nat → List Value → Array Value
  | _, [] => cur
  | o, v :: r => layV (cur.setIfInBounds o v) (o + 1) r
theorem layV_size : ∀ (vs : List Value) (cur : Array Value) (o : Nat), (layV cur o vs).size = cur.size
  | [], _, _ => rfl
  | v :: r, cur, o => by
    show (layV (cur.setIfInBounds o v) (o + 1) r).size = _
    rw [layV_size r]; simp
theorem layV_at : ∀ (vs : List Value) (cur : Array Value) (o j : Nat), o + vs.length ≤ cur.size → (layV cur o vs)[j]? = if o ≤ j ∧ j < o + vs.length then vs[j - o]? else cur[j]?
  | [], cur, o, j, _ => by
    show cur[j]? = _
    rw [if_neg (by simp only [List.length_nil]; omega)]
  | v :: r, cur, o, j, h => by
    show (layV (cur.setIfInBounds o v) (o + 1) r)[j]? = _
    rw [layV_at r _ _ _ (by simp at h ⊢; omega)]
    simp only [List.length_cons] at h ⊢
    by_cases h1 : o + 1 ≤ j ∧ j < o + 1 + r.length
    · rw [if_pos h1, if_pos (by omega), show j - o = (j - (o + 1)) + 1 by omega, List.getElem?_cons_succ]
    · rw [if_neg h1]
      by_cases h2 : o = j
      · subst h2
        rw [if_pos (by omega), Nat.sub_self, List.getElem?_cons_zero, Array.getElem?_setIfInBounds]
        simp
        omega
      · rw [if_neg (by omega), Array.getElem?_setIfInBounds, if_neg h2]
theorem Cells.lay {W : World} {b : Nat} {t : TypeId} : ∀ (vs : List Value) {cur : Array Value} (o : Nat), Cells W b t cur → Cells (W.setCells b o vs) b t (layV cur o vs)
  | [], _, _, h => h
  | v :: r, cur, o, h => by
    have := Cells.lay (W := W.setCell ⟨b, o, none⟩ v) r (o + 1) (h.set o v)
    exact this
theorem only_lay {S : Nat → Prop} {X Y : World} {b : Nat} (hb : S b ∨ X.heap.size ≤ b) : ∀ (vs : List Value) (o : Nat), Only S X Y → Only S X (Y.setCells b o vs)
  | [], _, h => h
  | v :: r, o, h => by
    have := only_lay (Y := Y.setCell ⟨b, o, none⟩ v) hb r (o + 1) (h.setCell (p := ⟨b, o, none⟩) hb v)
    exact this
theorem infoEnt : (Tryz.prog.info? 100).map (fun i => (i.zero, i.size, i.bytes)) = some (some (.agg #[.int .i64 0, .string ⟨#[]⟩, .slice none 0 0, .int .i64 0]), 4, 56) := by kernel_rfl
theorem run_clear4 (w : World) (b o c : Nat) (ty : TypeId) (hc : ∀ j, j < 4 → (w.cell? ⟨b, o + j, none⟩).isSome = true) (hf : ∀ j, j < 4 → w.frozen? ⟨b, o + j, none⟩ = false) :
    (Builtin.clear_ #[96] ty #[.slice (some ⟨b, o, none⟩) 1 c]).run Tryz.prog w = .ok (.tuple #[]) (w.setCells b o [.int .i64 0, .string ⟨#[]⟩, .slice none 0 0, .int .i64 0]) := by
  obtain ⟨i0, hi, hz0, hz1, hz2⟩ := info_parts infoEnt
  have hst := run_storeCells_cells (P := Tryz.prog) b o [.int .i64 0, .string ⟨#[]⟩, .slice none 0 0, .int .i64 0] 0 w (by simpa using hc) (by simpa using hf) (by intro v hv; simp at hv; rcases hv with rfl | rfl | rfl | rfl <;> rfl)
  simp only [Nat.add_zero] at hst
  have hu : Tryz.prog.underlying 96 = some (.slice 100) := Tryz.underlying96
  have hzv : (zeroValue 100).run Tryz.prog w = .ok (.agg #[.int .i64 0, .string ⟨#[]⟩, .slice none 0 0, .int .i64 0]) w := by simp [zeroValue, typeInfo, hi, hz0]
  have hzc : (Builtin.zeroCells (Value.agg #[.int .i64 0, .string ⟨#[]⟩, .slice none 0 0, .int .i64 0]).cells 1).toList = [.int .i64 0, .string ⟨#[]⟩, .slice none 0 0, .int .i64 0] := by kernel_rfl
  simp only [Builtin.clear_]
  simp [run_underlying hu, hzv, hzc, hst]
/-- append, where its run is known, as one step of a region that draws. -/
theorem step_append_runI {P : Program} {ops : Array Oper} {o : Oper} {a : Act} {w : World} {K : Act → World → Prop} {Q : Exit → Act → World → Prop} {E : Prop}
    (hg : o.guard = none) (d x : Operand) (dT sT : TypeId) (hop : o.op = Op.call { callee := Callee.builtin Builtin.append, args := #[d, x], argTypes := #[dT, sT] })
    (v u : Value) (hd : a.eval d = v) (hx : a.eval x = u) {v' : Value} {w' : World} (hr : (Builtin.append_ #[dT, sT] o.type #[v, u]).run P w = .ok v' w') (hK : K (a.put o.dst v') w') :
    if Region.wanted o (yielded ops a.tmps) = true then Oper.wp P o a w K Q else E := by
  have hw : Region.wanted o (yielded ops a.tmps) = true := by simp [Region.wanted, hg]
  rw [if_pos hw]
  unfold Oper.wp
  simp [execOp, hop, resolve, invoke, builtin, hd, hx, hr, Result.andThen]
  exact hK
set_option maxRecDepth 100000 in
set_option maxHeartbeats 4000000 in
theorem delete7_any (lo g n cap i : Nat) (xs : List Value) (w : World) (hrow : w.ownsRow lo 100 4 (sl g n cap) n xs) (hone : ∀ u ∈ xs, u.oneCell' = true) (hi : i < n) (hn : n ≤ 1000000) :
    Calls Tryz.prog 78 #[sl g n cap, .int .i64 (i : Nat), .int .i64 (i + 1 : Nat)] w fun e w' => e = .returned (sl g (n - 1) cap) ∧ w'.ownsRow lo 100 4 (sl g (n - 1) cap) (n - 1) (xs.take (i * 4) ++ xs.drop ((i + 1) * 4)) ∧ Only (· = g) w w' := by
  obtain ⟨i0, hi0, hz0, hz1, hz2⟩ := info_parts infoEnt
  have hlen := hrow.1
  obtain ⟨cur, hlo, hg, hle, hcm, hcs, htk⟩ : ∃ cur, lo ≤ g ∧ Cells w g 100 cur ∧ n ≤ cap ∧ cap ≤ maxLen ∧ cur.size = cap * 4 ∧ cur.toList.take (n * 4) = xs := by
    rcases hrow.2 with ⟨q, _⟩ | ⟨g', cap', cur, q, a, b, c, d, e, f⟩
    · cases q
    · cases q; exact ⟨cur, a, b, c, d, e, f⟩
  have hat : ∀ j, j < n * 4 → xs[j]? = cur[j]? := fun j hj => by rw [← htk, List.getElem?_take, if_pos hj]; simp
  -- the cells that are moved to the left
  obtain ⟨news, hnews⟩ : ∃ news, news = xs.drop ((i + 1) * 4) := ⟨_, rfl⟩
  have hnl : news.length = (n - (i + 1)) * i0.size := by rw [hz1, hnews, List.length_drop, hlen]; omega
  have hnl4 : news.length = (n - (i + 1)) * 4 := by rw [hnl, hz1]
  have hn1 : ∀ u ∈ news, u.oneCell' = true := fun u hu => hone u (by rw [hnews] at hu; exact List.mem_of_mem_drop hu)
  have hnat : ∀ j u, news[j]? = some u → cur[(i + 1) * 4 + j]? = some u := fun j u hj => by
    have hjl := (List.getElem?_eq_some_iff.1 hj).1
    rw [hnews, List.getElem?_drop] at hj
    rw [← hat _ (by omega)]; exact hj
  obtain ⟨A, hA, hsrc⟩ : ∃ A : Addr, (if cap = i + 1 then some (⟨g, 0, none⟩ : Addr) else some ⟨g, (i + 1) * 4, none⟩) = some A ∧ Hid (∀ j u, news[j]? = some u → w.drew.cell? (A.add j) = some u) := by
    by_cases h : cap = i + 1
    · refine ⟨⟨g, 0, none⟩, by simp [h], fun j u hu => ?_⟩
      have h0 : news.length = 0 := by rw [hnl4]; omega
      rw [List.length_eq_zero_iff.1 h0] at hu
      simp at hu
    · refine ⟨⟨g, (i + 1) * 4, none⟩, by simp [h], fun j u hu => ?_⟩
      rw [Addr.add_lit]
      exact (hg.cell _).trans (hnat j u hu)
  have hc : Hid (∀ j, j < news.length → (w.drew.cell? ⟨g, 0 + i * i0.size + j, none⟩).isSome = true) := fun j hj => by
    show (w.cell? _).isSome = true
    rw [hg.cell, hz1, Array.getElem?_eq_getElem (by omega)]; rfl
  have hf : Hid (∀ j, j < news.length → w.drew.frozen? ⟨g, 0 + i * i0.size + j, none⟩ = false) := fun j hj => hg.frozen _
  have hu : Tryz.prog.underlying 96 = some (.slice 100) := Tryz.underlying96
  obtain ⟨W1, hW1⟩ : ∃ W1, W1 = w.drew.setCells g (i * 4) news := ⟨_, rfl⟩
  have C1 : Cells W1 g 100 (layV cur (i * 4) news) := by rw [hW1]; exact Cells.lay news _ (show Cells w.drew g _ cur from hg)
  have hsz1 : (layV cur (i * 4) news).size = cap * 4 := by rw [layV_size, hcs]
  have CLR := Lib.hid (fun (c : Nat) (ty : TypeId) => run_clear4 W1 g ((n - 1) * 4) c ty (fun j hj => by rw [C1.cell, Array.getElem?_eq_getElem (by omega)]; rfl) (fun j hj => C1.frozen _))
  have hap : Hid (∀ ty, (Builtin.append_ #[96, 96] ty #[.slice (some ⟨g, 0, none⟩) i cap, .slice (some A) (n - (i + 1)) (cap - (i + 1))]).run Tryz.prog w.drew = .ok (.slice (some ⟨g, 0, none⟩) (n - 1) cap) W1) := fun ty => by
    have := run_append_room_cells (w := w.drew) 96 ty 100 i0 hu hi0 g 0 i cap A (n - (i + 1)) (cap - (i + 1)) news hnl hsrc.out hn1 (by omega) hc.out hf.out
    rw [this, hW1, show i + (n - (i + 1)) = n - 1 by omega, hz1, Nat.zero_add]
  have FIN : w.drew.heap.size = w.heap.size := rfl
  have HW := Lib.hid hW1
  have HC1 := Lib.hid C1
  have HL := Lib.hid hlen
  have HNW := Lib.hid hnews
  have HAT := Lib.hid hat
  have HNL := Lib.hid hnl4
  clear hc hf hsrc hnat hn1 hnl hnews hat htk hg C1 hrow hone hW1 hlen hnl4
  unfold sl
  unfold maxLen at hcm
  have hb1 : (i : Int) ≤ (i : Int) + 1 := by omega
  have hb2 : ((i : Int) + 1) ≤ (n : Int) := by omega
  have hb3 : ¬ (n = i) := by omega
  have hic : i ≤ cap := by omega
  have hjc : i + 1 ≤ cap := by omega
  have hjn : i + 1 ≤ n := by omega
  have hb0 : (0 : Int) ≤ (i : Int) + 1 := by omega
  have hlast : ¬ (cap = n - 1) := by omega
  have hn1c : n - 1 ≤ cap := by omega
  have hnn : n - (n - 1) = 1 := by omega
  have hn1n : (((n - 1 : Nat) : Int)) ≤ (n : Int) := by omega
  have hncap : n ≤ cap := hle
  have hb4 : ((i : Int) == (i : Int) + 1) = false := beq_eq_false_iff_ne.2 (by omega)
  go_enter Tryz.func78, Tryz.ntmps78
  go_wp2_with fail
  go_region_law (refine step_append_runI rfl (.tmp 22) (.tmp 25) 96 96 rfl (.slice (some ⟨g, 0, none⟩) i cap) (.slice (some A) (n - (i + 1)) (cap - (i + 1))) (by simp [Act.eval, Act.put]) (by simp [Act.eval, Act.put]) (hap.out _) ?_)
  have hcl := fun (ty : TypeId) => CLR.out (cap - (n - 1)) ty
  go_wp2_with fail
  go_ret
  obtain ⟨W2, hW2⟩ : ∃ W2, W2 = W1.setCells g ((n - 1) * 4) [.int .i64 0, .string ⟨#[]⟩, .slice none 0 0, .int .i64 0] := ⟨_, rfl⟩
  have C2 : Cells W2 g 100 (layV (layV cur (i * 4) news) ((n - 1) * 4) [.int .i64 0, .string ⟨#[]⟩, .slice none 0 0, .int .i64 0]) := by rw [hW2]; exact Cells.lay _ _ HC1.out
  refine ⟨rfl, ?_, ?_⟩
  · rw [← hW2]
    refine ⟨by rw [List.length_append, List.length_take, List.length_drop, HL.out]; omega, .inr ⟨g, cap, _, rfl, hlo, C2, hn1c, by unfold maxLen; omega, by rw [layV_size, layV_size, hcs], ?_⟩⟩
    apply List.ext_getElem?
    intro j
    rw [List.getElem?_take]
    split
    · rename_i hj
      rw [Array.getElem?_toList, layV_at _ _ _ _ (by rw [layV_size, hcs]; simp only [List.length_cons, List.length_nil]; omega), if_neg (by omega), layV_at _ _ _ _ (by rw [HNL.out, hcs]; omega)]
      split
      · rename_i h2
        rw [List.getElem?_append_right (by rw [List.length_take, HL.out]; omega), List.length_take, HL.out, HNW.out, List.getElem?_drop, List.getElem?_drop]
        congr 1; omega
      · rename_i h2
        rw [HNL.out] at h2
        rw [List.getElem?_append_left (by rw [List.length_take, HL.out]; omega), List.getElem?_take, if_pos (by omega), HAT.out j (by omega)]
    · rename_i hj
      rw [List.getElem?_eq_none]
      rw [List.length_append, List.length_take, List.length_drop, HL.out]; omega
  · rw [HW.out]
    exact only_lay (S := (· = g)) (b := g) (.inl rfl) _ _ (only_lay (S := (· = g)) (b := g) (.inl rfl) _ _ (Only.refl _ w).drew)
end Go.Proofs.YtiebbgbcojgeoaaGreatDoor
/- slices.Insert of one entry. -/
namespace Go.Proofs.YtiebbgbcojgeoaaGreatDoor
open Go.RowKit Go.Shelf Go.Lib

/-- copy between rows of elements of some cells. -/
theorem run_copy_cellsN {P : Program} (w : World) (dT sT ty elem : TypeId) (i : TypeInfo) (b o dLen dCap : Nat) (a : Addr) (sLen sCap n : Nat) (cs : List Value)
    (hu : P.underlying dT = some (.slice elem)) (hi : P.info? elem = some i) (hm : Nat.min sLen dLen = n) (hn : cs.length = n * i.size)
    (hsrc : ∀ j v, cs[j]? = some v → w.cell? (a.add j) = some v) (hc : ∀ j, j < cs.length → (w.cell? ⟨b, o + j, none⟩).isSome = true) (hf : ∀ j, j < cs.length → w.frozen? ⟨b, o + j, none⟩ = false) (h1 : ∀ v ∈ cs, v.oneCell' = true) :
    (Builtin.copy_ #[dT, sT] ty #[.slice (some ⟨b, o, none⟩) dLen dCap, .slice (some a) sLen sCap]).run P w = .ok (goInt n) (w.setCells b o cs) := by
  have hl := run_loadCells_list (P := P) w a cs hsrc
  have hst := run_storeCells_cells (P := P) b o cs 0 w (by simpa using hc) (by simpa using hf) h1
  rw [hn] at hl
  simp [Builtin.copy_, run_underlying hu, Builtin.lenOf, Builtin.firstCells, sizeOf, typeInfo, hi, hm, hl, hst]
theorem shape_of {W : World} {b : Nat} {t : TypeId} {cur : Array Value} (h : Cells W b t cur) : W.shape? b = some (t, cur.size) := by
  unfold World.shape?
  rw [show W.heap[b]? = _ from h]
/-- An append onto a slice that is owned, as the walk meets it: where the row lies then is told, too. -/
theorem wpList_append_at {P : Program} {w : World} {ops : Array Oper} {rest : List Oper} {o : Oper} {a : Act} {Q : Exit → Act → World → Prop} (hgd : o.guard = none) (s x : Operand) (t : TypeId)
    (hop : o.op = Op.call { callee := Callee.builtin Builtin.append, args := #[s, x], argTypes := #[t, t] }) (base : Nat)
    (e : TypeId) (i : TypeInfo) (z : Value) (size bytes : Nat) (ht : P.underlying t = some (.slice e)) (hi : P.info? e = some i) (hz : i.zero = some z)
    (hsize : i.size = size) (hby : i.bytes = bytes) (hzs : z.cells.size = size) (hsz : 0 < size)
    (v : Value) (n : Nat) (xs : List Value) (hs : a.eval s = v) (hown : w.ownsRow base e size v n xs)
    (ad : Addr) (m c : Nat) (news : List Value) (hx : a.eval x = .slice (some ad) m c) (hl : news.length = m * size) (hnews : ∀ j u, news[j]? = some u → w.cell? (ad.add j) = some u) (h1 : ∀ u ∈ news, u.oneCell' = true)
    (h63 : n + m ≤ maxLen) (hbytes : (n + m) * bytes ≤ 140737488355328) (hb : base ≤ w.heap.size)
    (h : ∀ v' w', w'.ownsRow base e size v' (n + m) (xs ++ news) → w.grownBy w' v.ownBlock → Hid (v'.ownBlock = v.ownBlock ∨ v'.ownBlock = some w.heap.size) → wpList P ops Q rest (a.put o.dst v') w') : wpList P ops Q (o :: rest) a w := by
  refine wpList_plain hgd fun K hK => ?_
  obtain ⟨v', w', hr, h2, h3, h4, h5⟩ := run_append_own_at (P := P) w base t o.type e i z size bytes ht hi hz hsize hby hzs hsz v n xs hown ad m c news hl hnews h1 h63 hbytes hb
  unfold Oper.wp
  simp [execOp, hop, resolve, invoke, builtin, hs, hx, hr, Result.andThen]
  exact hK _ _ (h v' w' h2 h3 h5)
/-- What Insert comes to. -/
def InsR (lo : Nat) (v : Value) (n i : Nat) (xs ys : List Value) (w : World) (e : Ending) (w' : World) : Prop :=
  ∃ v', e = .returned v' ∧ w'.ownsRow lo 100 4 v' (n + 1) (xs.take (i * 4) ++ (ys ++ xs.drop (i * 4))) ∧ Only (fun r => v.ownBlock = some r) w w' ∧ (v'.ownBlock = v.ownBlock ∨ v'.ownBlock = some w.heap.size)
set_option maxRecDepth 100000 in
set_option maxHeartbeats 4000000 in
theorem insert_end (lo : Nat) (v : Value) (n vb : Nat) (xs ys : List Value) (w : World) (hrow : w.ownsRow lo 100 4 v n xs) (hn : n ≤ 1000000) (hlo : lo ≤ w.heap.size) (hy : ys.length = 4) (hvb : Cells w vb 100 ys.toArray) (hy1 : ∀ u ∈ ys, u.oneCell' = true) :
    Calls Tryz.prog 77 #[v, .int .i64 (n : Nat), sl vb 1 1] w fun e w' => InsR lo v n n xs ys w e w' := by
  obtain ⟨i0, hi, hz0, hz1, hz2⟩ := info_parts infoEnt
  have HV : ∀ j u, ys[j]? = some u → w.cell? ((⟨vb, 0, none⟩ : Addr).add j) = some u := fun j u h => by
    have ea : (⟨vb, 0, none⟩ : Addr).add j = ⟨vb, j, none⟩ := by unfold Addr.add; split <;> simp_all
    rw [ea, hvb.cell j]; simpa using h
  have HV := Lib.hid HV
  have HR := Lib.hid hrow
  have hlen := hrow.1
  have HL := Lib.hid hlen
  have E1 : xs.take (n * 4) = xs := List.take_of_length_le (by omega)
  have E2 : xs.drop (n * 4) = [] := List.drop_of_length_le (by omega)
  have E := Lib.hid (And.intro E1 E2)
  clear E1 E2 hlen
  unfold sl
  rcases Joins.ownsRow_forms hrow with ⟨rfl, rfl⟩ | ⟨g, cap, rfl⟩
  · clear hrow
    go_enter Tryz.func77, Tryz.ntmps77
    go_wp2_with (at_builtin; refine wpList_append_at rfl _ _ 96 rfl lo 100 i0 _ 4 56 Tryz.underlying96 hi hz0 hz1 hz2 rfl (by decide) _ _ _ rfl HR.out ⟨vb, 0, none⟩ 1 1 _ rfl (by rw [hy]) HV.out hy1 ?c3 ?c4 ?c5 ?_)
    case c3 => unfold maxLen; omega
    case c4 => omega
    case c5 => exact hlo
    intro v' w3 hown' hgrow hbk
    obtain ⟨g', cap', rfl⟩ := ownsRow_succ hown'
    go_wp2_with fail
    go_ret
    exact ⟨_, rfl, by rw [E.out.1, E.out.2, List.append_nil]; exact hown', (Only.refl _ _).grown hgrow (fun k hk => .inl hk), hbk.out⟩
  · have hle : n ≤ cap := by
      rcases hrow.2 with ⟨q, _⟩ | ⟨g', cap', cur, q, _, _, h, _⟩
      · cases q
      · cases q; exact h
    clear hrow
    go_enter Tryz.func77, Tryz.ntmps77
    go_wp2_with (at_builtin; refine wpList_append_at rfl _ _ 96 rfl lo 100 i0 _ 4 56 Tryz.underlying96 hi hz0 hz1 hz2 rfl (by decide) _ _ _ rfl HR.out ⟨vb, 0, none⟩ 1 1 _ rfl (by rw [hy]) HV.out hy1 ?c3 ?c4 ?c5 ?_)
    all_goals first | (show n + 1 ≤ maxLen; unfold maxLen; omega) | (show (n + 1) * 56 ≤ 140737488355328; omega) | exact hlo | skip
    all_goals
      intro v' w3 hown' hgrow hbk
      obtain ⟨g', cap', rfl⟩ := ownsRow_succ hown'
      go_wp2_with fail
      go_ret
      exact ⟨_, rfl, by rw [E.out.1, E.out.2, List.append_nil]; exact hown', (Only.refl _ _).grown hgrow (fun k hk => .inl hk), hbk.out⟩
theorem overlaps_no (w : World) (vb g off lb cb : Nat) (cur cur' : Array Value) (hne : vb ≠ g) (hv : Cells w vb 100 cur') (hg : Cells w g 100 cur) (h0 : cur.size ≠ 0) :
    (callFunc 114 #[.slice (some ⟨vb, 0, none⟩) 1 1, .slice (some ⟨g, off, none⟩) lb cb]).run Tryz.prog w = .ok (.value (.bool false)) w := by
  obtain ⟨i0, hi, hz0, hz1, hz2⟩ := info_parts infoEnt
  rw [run_callFunc_extern Tryz.func114 (by kernel_rfl) (by kernel_rfl) (by kernel_rfl) (e := Extern.SlicesOverlaps.overlaps #[96, 96] #[4]) (by kernel_rfl),
    Lib.run_overlaps_apart w 96 4 100 Tryz.underlying96 4 (fun w => by simp [sizeOf, typeInfo, hi, hz1]) ⟨vb, 0, none⟩ ⟨g, off, none⟩ 1 1 lb cb hne 100 100 _ _ (shape_of hv) (shape_of hg) h0 (hv.frozen 0) (hv.frozen _)]
  rfl
set_option maxRecDepth 100000 in
set_option maxHeartbeats 4000000 in
theorem insert_shift (lo g n cap i vb : Nat) (xs ys : List Value) (w : World) (hrow : w.ownsRow lo 100 4 (sl g n cap) n xs) (hone : ∀ u ∈ xs, u.oneCell' = true) (hi : i < n) (hn : n ≤ 1000000) (hroom : n + 1 ≤ cap) (hy : ys.length = 4) (hvb : Cells w vb 100 ys.toArray) (hne : vb ≠ g) (hy1 : ∀ u ∈ ys, u.oneCell' = true) :
    Calls Tryz.prog 77 #[sl g n cap, .int .i64 (i : Nat), sl vb 1 1] w fun e w' => InsR lo (sl g n cap) n i xs ys w e w' := by
  obtain ⟨i0, hi0, hz0, hz1, hz2⟩ := info_parts infoEnt
  have hlen := hrow.1
  obtain ⟨cur, hlo, hg, hle, hcm, hcs, htk⟩ : ∃ cur, lo ≤ g ∧ Cells w g 100 cur ∧ n ≤ cap ∧ cap ≤ maxLen ∧ cur.size = cap * 4 ∧ cur.toList.take (n * 4) = xs := by
    rcases hrow.2 with ⟨q, _⟩ | ⟨g', cap', cur, q, a, b, c, d, e, f⟩
    · cases q
    · cases q; exact ⟨cur, a, b, c, d, e, f⟩
  have hat : ∀ j, j < n * 4 → xs[j]? = cur[j]? := fun j hj => by rw [← htk, List.getElem?_take, if_pos hj]; simp
  have hu : Tryz.prog.underlying 96 = some (.slice 100) := Tryz.underlying96
  -- what is moved to the right
  obtain ⟨news, hnews⟩ : ∃ news, news = xs.drop (i * 4) := ⟨_, rfl⟩
  have hnl : news.length = (n - i) * 4 := by rw [hnews, List.length_drop, hlen]; omega
  have hn1 : ∀ u ∈ news, u.oneCell' = true := fun u hu => hone u (by rw [hnews] at hu; exact List.mem_of_mem_drop hu)
  have hnat : ∀ j u, news[j]? = some u → cur[i * 4 + j]? = some u := fun j u hj => by
    have hjl := (List.getElem?_eq_some_iff.1 hj).1
    rw [hnews, List.getElem?_drop] at hj
    rw [← hat _ (by omega)]; exact hj
  have hcp1 : Hid (∀ ty dc sc, (Builtin.copy_ #[96, 96] ty #[.slice (some ⟨g, (i + 1) * 4, none⟩) (n - i) dc, .slice (some ⟨g, i * 4, none⟩) (n + 1 - i) sc]).run Tryz.prog w.drew =   .ok (goInt ((n - i : Nat) : Int)) (w.drew.setCells g ((i + 1) * 4) news)) := fun ty dc sc =>
    run_copy_cellsN w.drew _ _ ty 100 i0 g ((i + 1) * 4) (n - i) dc ⟨g, i * 4, none⟩ (n + 1 - i) sc (n - i) news hu hi0 (by show min (n + 1 - i) (n - i) = n - i; omega) (by rw [hz1, hnl])
      (fun j u hj => by rw [Addr.add_lit]; exact (hg.cell _).trans (hnat j u hj))
      (fun j hj => by show (w.cell? _).isSome = true; rw [hg.cell, Array.getElem?_eq_getElem (by omega)]; rfl) (fun j hj => hg.frozen _) hn1
  obtain ⟨W1, hW1⟩ : ∃ W1, W1 = w.drew.setCells g ((i + 1) * 4) news := ⟨_, rfl⟩
  have C1 : Cells W1 g 100 (layV cur ((i + 1) * 4) news) := by rw [hW1]; exact Cells.lay news _ (show Cells w.drew g _ cur from hg)
  have hsz1 : (layV cur ((i + 1) * 4) news).size = cap * 4 := by rw [layV_size, hcs]
  have O1 : Only (· = g) w W1 := by rw [hW1]; exact only_lay (S := (· = g)) (b := g) (.inl rfl) _ _ (Only.refl _ w).drew
  have V1 : Cells W1 vb 100 ys.toArray := hvb.only O1 hne
  have hcp2 : Hid (∀ ty dc, (Builtin.copy_ #[96, 96] ty #[.slice (some ⟨g, i * 4, none⟩) (n + 1 - i) dc, .slice (some ⟨vb, 0, none⟩) 1 1]).run Tryz.prog W1 = .ok (goInt 1) (W1.setCells g (i * 4) ys)) := fun ty dc =>
    run_copy_cellsN W1 _ _ ty 100 i0 g (i * 4) (n + 1 - i) dc ⟨vb, 0, none⟩ 1 1 1 ys hu hi0 (by show min 1 (n + 1 - i) = 1; omega) (by rw [hz1, hy])
      (fun j u hj => by
        have ea : (⟨vb, 0, none⟩ : Addr).add j = ⟨vb, j, none⟩ := by unfold Addr.add; split <;> simp_all
        rw [ea, V1.cell j]; simpa using hj)
      (fun j hj => by rw [C1.cell, Array.getElem?_eq_getElem (by omega)]; rfl) (fun j hj => C1.frozen _) hy1
  have OV := Lib.hid (fun lb cb off => overlaps_no w vb g off lb cb cur ys.toArray hne hvb hg (by omega))
  rw [← hW1] at hcp1
  have HL := Lib.hid hlen
  have HNW := Lib.hid hnews
  have HAT := Lib.hid hat
  have HNL := Lib.hid hnl
  have HC1 := Lib.hid C1
  have HO1 := Lib.hid O1
  have HCS := Lib.hid hcs
  have HSZ := Lib.hid hsz1
  clear hnat hn1 hnl hnews hat htk hg C1 hrow hone hW1 hlen V1 hvb hcs hsz1 O1
  unfold sl
  unfold maxLen at hcm
  have hz2 : ¬ ((i : Int) = (n : Int)) := by omega
  have hw1 : IntKind.i64.wrap ((i : Int) + 1) = (i : Int) + 1 := IntWalk.i64_in _ (by omega)
  have hb1 : (0 : Int) ≤ (i : Int) + 1 := by omega
  have hin : i ≤ n := by omega
  have htn : ((i : Int) + 1).toNat = i + 1 := by omega
  have hb2 : ¬ (cap = i + 1) := by omega
  have hb3 : (i : Int) ≤ (n : Int) + 1 := by omega
  have hb4 : ¬ (cap = i) := by omega
  have hov := OV.out
  go_enter Tryz.func77, Tryz.ntmps77
  go_wp2_with (simp only [hov])
  go_region_law (refine step_copy_runI rfl (.tmp 73) (.tmp 76) 96 96 rfl (.slice (some ⟨g, (i + 1) * 4, none⟩) (n - i) (cap - (i + 1))) (.slice (some ⟨g, i * 4, none⟩) (n + 1 - i) (cap - i)) (by simp [Act.eval, Act.put]) (by simp [Act.eval, Act.put]) (hcp1.out _ _ _) ?_)
  have hq := fun ty => hcp2.out ty (cap - i)
  go_wp2_with fail
  go_ret
  obtain ⟨W2, hW2⟩ : ∃ W2, W2 = W1.setCells g (i * 4) ys := ⟨_, rfl⟩
  have C2 : Cells W2 g 100 (layV (layV cur ((i + 1) * 4) news) (i * 4) ys) := by rw [hW2]; exact Cells.lay _ _ HC1.out
  refine ⟨.slice (some ⟨g, 0, none⟩) (n + 1) cap, rfl, ?_, ?_, .inl rfl⟩
  · rw [← hW2]
    have hll : (xs.take (i * 4) ++ (ys ++ xs.drop (i * 4))).length = (n + 1) * 4 := by rw [List.length_append, List.length_append, List.length_take, List.length_drop, HL.out, hy]; omega
    refine ⟨hll, .inr ⟨g, cap, _, rfl, hlo, C2, hroom, by unfold maxLen; omega, by rw [layV_size, HSZ.out], ?_⟩⟩
    apply List.ext_getElem?
    intro j
    rw [List.getElem?_take]
    split
    · rename_i hj
      rw [Array.getElem?_toList, layV_at _ _ _ _ (by rw [HSZ.out, hy]; omega), hy]
      split
      · rename_i h2
        rw [List.getElem?_append_right (by rw [List.length_take, HL.out]; omega), List.length_take, HL.out, List.getElem?_append_left (by omega)]
        congr 1; omega
      · rename_i h2
        rw [layV_at _ _ _ _ (by rw [HNL.out, HCS.out]; omega), HNL.out]
        split
        · rename_i h3
          rw [List.getElem?_append_right (by rw [List.length_take, HL.out]; omega), List.length_take, HL.out, List.getElem?_append_right (by omega), hy, HNW.out, List.getElem?_drop, List.getElem?_drop]
          congr 1; omega
        · rename_i h3
          rw [List.getElem?_append_left (by rw [List.length_take, HL.out]; omega), List.getElem?_take, if_pos (by omega), HAT.out j (by omega)]
    · rename_i hj
      rw [List.getElem?_eq_none (by omega)]
  · refine (only_lay (S := (· = g)) (b := g) (.inl rfl) _ _ HO1.out).mono (fun r _ e => ?_)
    rw [e]; rfl
theorem setCells_heap (b : Nat) : ∀ (vs : List Value) (o : Nat) (W W' : World), W.heap = W'.heap → (W.setCells b o vs).heap = (W'.setCells b o vs).heap
  | [], _, _, _, h => h
  | v :: r, o, W, W', h => setCells_heap b r (o + 1) (W.setCell ⟨b, o, none⟩ v) (W'.setCell ⟨b, o, none⟩ v) (by unfold World.setCell; simp only [h])
theorem os_cells (b : Nat) : ∀ (vs : List Value) (o : Nat) (W : World), (W.setCells b o vs).os = W.os
  | [], _, _ => rfl
  | v :: r, o, W => (os_cells b r (o + 1) (W.setCell ⟨b, o, none⟩ v)).trans rfl
theorem tape_cells (b : Nat) : ∀ (vs : List Value) (o : Nat) (W : World), (W.setCells b o vs).tape = W.tape
  | [], _, _ => rfl
  | v :: r, o, W => (tape_cells b r (o + 1) (W.setCell ⟨b, o, none⟩ v)).trans rfl
theorem output_cells (b : Nat) : ∀ (vs : List Value) (o : Nat) (W : World), (W.setCells b o vs).output = W.output
  | [], _, _ => rfl
  | v :: r, o, W => (output_cells b r (o + 1) (W.setCell ⟨b, o, none⟩ v)).trans rfl
theorem zeroCells_size (Z : Array Value) (k : Nat) : (Builtin.zeroCells Z k).size = k * Z.size := by simp [Builtin.zeroCells]
set_option maxRecDepth 100000 in
set_option maxHeartbeats 4000000 in
theorem insert_grow (lo g n cap i vb : Nat) (xs ys : List Value) (w : World) (hrow : w.ownsRow lo 100 4 (sl g n cap) n xs) (hone : ∀ u ∈ xs, u.oneCell' = true) (hi : i < n) (hn : n ≤ 1000000) (hroom : cap < n + 1) (hlow : lo ≤ w.heap.size) (hy : ys.length = 4) (hvb : Cells w vb 100 ys.toArray) (hy1 : ∀ u ∈ ys, u.oneCell' = true) :
    Calls Tryz.prog 77 #[sl g n cap, .int .i64 (i : Nat), sl vb 1 1] w fun e w' => InsR lo (sl g n cap) n i xs ys w e w' := by
  obtain ⟨i0, hi0, hz0, hz1, hz2⟩ := info_parts infoEnt
  have hlen := hrow.1
  obtain ⟨cur, hlo, hg, hle, hcm, hcs, htk⟩ : ∃ cur, lo ≤ g ∧ Cells w g 100 cur ∧ n ≤ cap ∧ cap ≤ maxLen ∧ cur.size = cap * 4 ∧ cur.toList.take (n * 4) = xs := by
    rcases hrow.2 with ⟨q, _⟩ | ⟨g', cap', cur, q, a, b, c, d, e, f⟩
    · cases q
    · cases q; exact ⟨cur, a, b, c, d, e, f⟩
  obtain rfl : cap = n := by omega
  have hat : ∀ j, j < cap * 4 → xs[j]? = cur[j]? := fun j hj => by rw [← htk, List.getElem?_take, if_pos hj]; simp
  have hu : Tryz.prog.underlying 96 = some (.slice 100) := Tryz.underlying96
  have hgw := hg.lt
  have hvw := hvb.lt
  obtain ⟨Z, hZ⟩ : ∃ Z : Array Value, Z = (Value.agg #[.int .i64 0, .string ⟨#[]⟩, .slice none 0 0, .int .i64 0]).cells := ⟨_, rfl⟩
  have hZs : Z.size = 4 := by rw [hZ]; rfl
  obtain ⟨G, hG⟩ : ∃ G, G = grownCap w (cap + 1) cap 100 := ⟨_, rfl⟩
  obtain ⟨ROW, hROW⟩ : ∃ ROW : Array Value, ROW = (xs.take (i * 4)).toArray ++ Builtin.zeroCells Z (cap + 1 - i) ++ Builtin.zeroCells Z (G - (cap + 1)) := ⟨_, rfl⟩
  have hGn : cap + 1 ≤ G := by rw [hG]; exact grownCap_ge w _ _ _
  have hG63 : G ≤ 9223372036854775807 := by
    have := grownCap_le_maxLen w (cap + 1) cap 100 (by unfold maxLen; omega)
    rw [← hG] at this
    unfold maxLen at this
    omega
  have hrz : Hid (∀ ty, (Builtin.append_ #[96, 3] ty #[.slice (some ⟨g, 0, none⟩) i cap, .int .i64 ((cap : Int) + 1 - (i : Int))]).run Tryz.prog w = .ok (.slice (some ⟨w.heap.size, 0, none⟩) (cap + 1) G) (w.drew.alloc (.cells ROW 100))) := fun ty => by
    have hold : (Builtin.firstCells i0.size i (.slice (some ⟨g, 0, none⟩) i cap)).run Tryz.prog w.drew = .ok (xs.take (i * 4)).toArray w.drew :=
      run_firstCells_some w.drew i0.size i ⟨g, 0, none⟩ i cap (xs.take (i * 4)) (by rw [List.length_take, hlen, hz1]; omega) (fun j v hj => by
        have ea : (⟨g, 0, none⟩ : Addr).add j = ⟨g, j, none⟩ := by unfold Addr.add; split <;> simp_all
        rw [List.getElem?_take] at hj
        split at hj
        · rename_i h2
          rw [ea]
          show w.cell? _ = _
          rw [hg.cell, ← hat j (by omega)]; exact hj
        · cases hj)
    have h := Lib.run_append_grow_zeros w 96 3 ty 100 i0 _ .i64 .i64 hu Tryz.underlying3 hi0 hz0 (some ⟨g, 0, none⟩) i cap (xs.take (i * 4)) hold (cap + 1 - i) (by omega) (by omega) (by omega) (by omega) (by rw [hz2]; omega) (by rw [hz2, show i + (cap + 1 - i) = cap + 1 by omega]; exact growslice_fits (by omega) (by omega))
    rw [show i + (cap + 1 - i) = cap + 1 by omega, ← hG, ← hZ, ← hROW] at h
    rw [show (cap : Int) + 1 - (i : Int) = ((cap + 1 - i : Nat) : Int) by omega]
    exact h
  have hRs : ROW.size = G * 4 := by
    rw [hROW, Array.size_append, Array.size_append, zeroCells_size, zeroCells_size, hZs, List.size_toArray, List.length_take, hlen]
    omega
  have hRat : ∀ j, j < i * 4 → ROW[j]? = xs[j]? := fun j hj => by
    rw [hROW, Array.append_assoc, Array.getElem?_append_left (by rw [List.size_toArray, List.length_take, hlen]; omega), List.getElem?_toArray, List.getElem?_take, if_pos hj]
  obtain ⟨news, hnews⟩ : ∃ news, news = xs.drop (i * 4) := ⟨_, rfl⟩
  have hnl : news.length = (cap - i) * 4 := by rw [hnews, List.length_drop, hlen]; omega
  have hn1 : ∀ u ∈ news, u.oneCell' = true := fun u hu => hone u (by rw [hnews] at hu; exact List.mem_of_mem_drop hu)
  have hnat : ∀ j u, news[j]? = some u → cur[i * 4 + j]? = some u := fun j u hj => by
    have hjl := (List.getElem?_eq_some_iff.1 hj).1
    rw [hnews, List.getElem?_drop] at hj
    rw [← hat _ (by omega)]; exact hj
  obtain ⟨W1, hW1⟩ : ∃ W1, W1 = w.drew.alloc (.cells ROW 100) := ⟨_, rfl⟩
  have C1 : Cells W1 w.heap.size 100 ROW := by rw [hW1]; exact Cells.new w.drew _ _
  have G1 : Cells W1 g 100 cur := by rw [hW1]; exact (show Cells w.drew g _ cur from hg).alloc _
  have V1 : Cells W1 vb 100 ys.toArray := by rw [hW1]; exact (show Cells w.drew vb _ _ from hvb).alloc _
  have hgN : g ≠ w.heap.size := by omega
  have hcpA : Hid (∀ (W : World), W.heap = W1.heap → ∀ ty dc, (Builtin.copy_ #[96, 96] ty #[.slice (some ⟨w.heap.size, i * 4, none⟩) (cap + 1 - i) dc, .slice (some ⟨vb, 0, none⟩) 1 1]).run Tryz.prog W = .ok (goInt 1) (W.setCells w.heap.size (i * 4) ys)) := fun W hW ty dc =>
    have CW : Cells W w.heap.size 100 ROW := by show W.heap[_]? = _; rw [hW]; exact C1
    have VW : Cells W vb 100 ys.toArray := by show W.heap[_]? = _; rw [hW]; exact V1
    run_copy_cellsN W _ _ ty 100 i0 w.heap.size (i * 4) (cap + 1 - i) dc ⟨vb, 0, none⟩ 1 1 1 ys hu hi0 (by show min 1 (cap + 1 - i) = 1; omega) (by rw [hz1, hy])
      (fun j u hj => by
        have ea : (⟨vb, 0, none⟩ : Addr).add j = ⟨vb, j, none⟩ := by unfold Addr.add; split <;> simp_all
        rw [ea, VW.cell j]; simpa using hj)
      (fun j hj => by rw [CW.cell, Array.getElem?_eq_getElem (by omega)]; rfl) (fun j hj => CW.frozen _) hy1
  obtain ⟨W2, hW2⟩ : ∃ W2, W2 = W1.setCells w.heap.size (i * 4) ys := ⟨_, rfl⟩
  have C2 : Cells W2 w.heap.size 100 (layV ROW (i * 4) ys) := by rw [hW2]; exact Cells.lay ys _ C1
  have O2 : Only (· = w.heap.size) W1 W2 := by rw [hW2]; exact only_lay (S := (· = w.heap.size)) (b := w.heap.size) (.inl rfl) _ _ (Only.refl _ _)
  have G2 : Cells W2 g 100 cur := G1.only O2 hgN
  have hs2 : (layV ROW (i * 4) ys).size = G * 4 := by rw [layV_size, hRs]
  have hcpB : Hid (∀ (W : World), W.heap = W2.heap → ∀ ty dc sc, (Builtin.copy_ #[96, 96] ty #[.slice (some ⟨w.heap.size, (i + 1) * 4, none⟩) (cap - i) dc, .slice (some ⟨g, i * 4, none⟩) (cap - i) sc]).run Tryz.prog W = .ok (goInt ((cap - i : Nat) : Int)) (W.setCells w.heap.size ((i + 1) * 4) news)) := fun W hW ty dc sc =>
    have CW : Cells W w.heap.size 100 (layV ROW (i * 4) ys) := by show W.heap[_]? = _; rw [hW]; exact C2
    have GW : Cells W g 100 cur := by show W.heap[_]? = _; rw [hW]; exact G2
    run_copy_cellsN W _ _ ty 100 i0 w.heap.size ((i + 1) * 4) (cap - i) dc ⟨g, i * 4, none⟩ (cap - i) sc (cap - i) news hu hi0 (by show min (cap - i) (cap - i) = cap - i; omega) (by rw [hz1, hnl])
      (fun j u hj => by rw [Addr.add_lit]; exact (GW.cell _).trans (hnat j u hj))
      (fun j hj => by rw [CW.cell, Array.getElem?_eq_getElem (by omega)]; rfl) (fun j hj => CW.frozen _) hn1
  have FIN : Hid (∀ (W' : World), W'.os = w.os → W'.tape = w.tape → W'.output = w.output → W'.heap = (W2.setCells w.heap.size ((i + 1) * 4) news).heap → InsR lo (sl g cap cap) cap i xs ys w (.returned (.slice (some ⟨w.heap.size, 0, none⟩) (cap + 1) G)) W') := by
    intro W' e1 e2 e3 e4
    have C3 : Cells W' w.heap.size 100 (layV (layV ROW (i * 4) ys) ((i + 1) * 4) news) := by show W'.heap[_]? = _; rw [e4]; exact Cells.lay news _ C2
    have O3 : Only (· = w.heap.size) W1 (W2.setCells w.heap.size ((i + 1) * 4) news) := only_lay (S := (· = w.heap.size)) (b := w.heap.size) (.inl rfl) _ _ O2
    refine ⟨_, rfl, ?_, ⟨e1, e2, e3, ?_, ?_⟩, .inr rfl⟩
    · have hll : (xs.take (i * 4) ++ (ys ++ xs.drop (i * 4))).length = (cap + 1) * 4 := by rw [List.length_append, List.length_append, List.length_take, List.length_drop, hlen, hy]; omega
      refine ⟨hll, .inr ⟨w.heap.size, G, _, rfl, hlow, C3, hGn, by unfold maxLen; omega, by rw [layV_size, hs2], ?_⟩⟩
      apply List.ext_getElem?
      intro j
      rw [List.getElem?_take]
      split
      · rename_i hj
        rw [Array.getElem?_toList, layV_at _ _ _ _ (by rw [hs2, hnl]; omega), hnl]
        split
        · rename_i h2
          rw [List.getElem?_append_right (by rw [List.length_take, hlen]; omega), List.length_take, hlen, List.getElem?_append_right (by omega), hy, hnews, List.getElem?_drop, List.getElem?_drop]
          congr 1; omega
        · rename_i h2
          rw [layV_at _ _ _ _ (by rw [hRs, hy]; omega), hy]
          split
          · rename_i h3
            rw [List.getElem?_append_right (by rw [List.length_take, hlen]; omega), List.length_take, hlen, List.getElem?_append_left (by omega)]
            congr 1; omega
          · rename_i h3
            rw [List.getElem?_append_left (by rw [List.length_take, hlen]; omega), List.getElem?_take, if_pos (by omega), hRat j (by omega)]
      · rename_i hj
        rw [List.getElem?_eq_none (by omega)]
    · have := O3.size
      rw [e4]
      have h1 : W1.heap.size = w.heap.size + 1 := by rw [hW1]; show (w.drew.alloc _).heap.size = _; rw [World.size_alloc]; rfl
      omega
    · intro r hr _
      have h1 : W1.heap.size = w.heap.size + 1 := by rw [hW1]; show (w.drew.alloc _).heap.size = _; rw [World.size_alloc]; rfl
      rw [e4, O3.same r (by omega) (by omega), hW1]
      exact Below.heap_alloc w.drew _ r hr
  have HW1 := Lib.hid hW1
  have HW2 := Lib.hid hW2
  clear hnat hn1 hnl hnews hat htk hg C1 hrow hone hW1 hlen V1 hvb hcs G1 C2 O2 G2 hs2 hRs hRat hROW hZ hZs hG hW2
  unfold sl
  unfold maxLen at hcm
  have hz2 : ¬ ((i : Int) = (cap : Int)) := by omega
  have hw1 : IntKind.i64.wrap ((i : Int) + 1) = (i : Int) + 1 := IntWalk.i64_in _ (by omega)
  have hb1 : (0 : Int) ≤ (i : Int) + 1 := by omega
  have hin : i ≤ cap := by omega
  have htn : ((i : Int) + 1).toNat = i + 1 := by omega
  have hb3 : (i : Int) ≤ (cap : Int) := by omega
  have hGi : ¬ (G = i) := by omega
  have hGim : ¬ (G = i + 1) := by omega
  have hci : ¬ (cap = i) := by omega
  go_enter Tryz.func77, Tryz.ntmps77
  have hA1 : ((w.alloc (.cells ROW 100)).drew).heap = W1.heap := by rw [HW1.out]; rfl
  have hqA := fun ty => hcpA.out _ hA1 ty (G - i)
  have hB1 : (((w.alloc (.cells ROW 100)).drew.setCells w.heap.size (i * 4) ys).drew).heap = W2.heap := by
    rw [HW2.out]
    exact setCells_heap _ _ _ _ _ hA1
  go_wp2_with (at_builtin; refine Lib.wpList_append_run _ rfl _ _ _ _ rfl _ _ rfl rfl _ _ (hrz.out _) ?_)
  go_region_law (refine step_copy_runI rfl (.tmp 50) (.tmp 53) 96 96 rfl (.slice (some ⟨w.heap.size, (i + 1) * 4, none⟩) (cap - i) (G - (i + 1))) (.slice (some ⟨g, i * 4, none⟩) (cap - i) (cap - i)) (by simp [Act.eval, Act.put]) (by simp [Act.eval, Act.put]) (hcpB.out _ hB1 3 _ _) ?_)
  go_wp2_with fail
  go_ret
  exact FIN.out _ (by rw [os_cells]; show (((w.alloc (.cells ROW 100)).drew.setCells w.heap.size (i * 4) ys)).os = _; rw [os_cells]; rfl) (by rw [tape_cells]; show (((w.alloc (.cells ROW 100)).drew.setCells w.heap.size (i * 4) ys)).tape = _; rw [tape_cells]; rfl) (by rw [output_cells]; show (((w.alloc (.cells ROW 100)).drew.setCells w.heap.size (i * 4) ys)).output = _; rw [output_cells]; rfl) (setCells_heap _ _ _ _ _ hB1)
/-- Insert of one entry, whatever the row. -/
theorem insert7_any (lo : Nat) (v : Value) (n i vb : Nat) (xs ys : List Value) (w : World) (hrow : w.ownsRow lo 100 4 v n xs) (hone : ∀ u ∈ xs, u.oneCell' = true) (hi : i ≤ n) (hn : n ≤ 1000000) (hlow : lo ≤ w.heap.size) (hy : ys.length = 4) (hvb : Cells w vb 100 ys.toArray) (hne : v.ownBlock ≠ some vb) (hy1 : ∀ u ∈ ys, u.oneCell' = true) :
    Calls Tryz.prog 77 #[v, .int .i64 (i : Nat), sl vb 1 1] w fun e w' => InsR lo v n i xs ys w e w' := by
  rcases Nat.lt_or_ge i n with h | h
  · obtain ⟨g, cap, rfl⟩ := Joins.ownsRow_form hrow (by omega)
    rcases Nat.lt_or_ge cap (n + 1) with h2 | h2
    · exact insert_grow lo g n cap i vb xs ys w hrow hone h hn h2 hlow hy hvb hy1
    · exact insert_shift lo g n cap i vb xs ys w hrow hone h hn h2 hy hvb (fun e => hne (by rw [e]; rfl)) hy1
  · obtain rfl : i = n := by omega
    exact insert_end lo v i vb xs ys w hrow hn hlow hy hvb hy1
end Go.Proofs.YtiebbgbcojgeoaaGreatDoor
/- A list that may be written: enter, Of. -/
namespace Go.Proofs.YtiebbgbcojgeoaaGreatDoor
open Go.RowKit Go.Shelf
attribute [local go_sem] Oper.semAt_some errV_0

theorem Flds.only {w w' : World} {v : Value} {fs : List Fld} {S : Nat → Prop} (h : Flds w v fs) (g : Only S w w') (hs : fs ≠ [] → ∀ b, v.ownBlock = some b → ¬ S b) : Flds w' v fs := by
  obtain ⟨A, cap, hv, hle, hc⟩ := h
  refine ⟨A, cap, hv, hle, fun i s hi => ?_⟩
  obtain ⟨b, off, hA, hlt, c0, c1⟩ := hc i s hi
  have hb : w'.heap[b]? = w.heap[b]? := g.same b hlt (hs (fun e => by rw [e] at hi; simp at hi) b (by rw [hv, hA]; rfl))
  exact ⟨b, off, hA, Nat.lt_of_lt_of_le hlt g.size, (World.cell?_of_block (w := w) (a := ⟨b, off + i * 2, none⟩) hb).trans c0, (World.cell?_of_block (w := w) (a := ⟨b, off + i * 2 + 1, none⟩) hb).trans c1⟩
theorem FldR.only {w w' : World} {v : Value} {fs : List Fld} {S : Nat → Prop} (h : FldR w v fs) (g : Only S w w') (hs : fs ≠ [] → ∀ b, v.ownBlock = some b → ¬ S b) : FldR w' v fs := ⟨h.1.only g hs, h.2⟩
theorem Flds.lt {w : World} {v : Value} {fs : List Fld} (h : Flds w v fs) (hne : fs ≠ []) : ∀ b, v.ownBlock = some b → b < w.heap.size := by
  obtain ⟨A, cap, hv, hle, hc⟩ := h
  intro b hb
  cases fs with
  | nil => exact absurd rfl hne
  | cons f r =>
    obtain ⟨b', off, hA, hlt, _⟩ := hc 0 f rfl
    rw [hv, hA] at hb
    cases hb; exact hlt
/-- A list in memory that may be written: the fields of its entries lie in neither of its two blocks. -/
structure LA (w : World) (lb : Nat) (ev : Value) (ps : List Pr) (nx : Int) : Prop where
  lr : LR w lb ev ps nx
  apart : ∀ p ∈ ps, p.1.1.fields ≠ [] → ∀ b, p.2.ownBlock = some b → b ≠ lb ∧ ev.ownBlock ≠ some b
theorem LR.row_ne {w : World} {lb : Nat} {ev : Value} {ps : List Pr} {nx : Int} (h : LR w lb ev ps nx) : ev.ownBlock ≠ some lb := by
  intro e
  rcases h.ents.row.2 with ⟨q, _⟩ | ⟨g, cap, cur, q, _, hg, _⟩
  · rw [q] at e; cases e
  · rw [q] at e
    have : g = lb := Option.some.inj e
    subst this
    have := hg.symm.trans h.head
    simp at this
theorem LA.below {w w' : World} {lb : Nat} {ev : Value} {ps : List Pr} {nx : Int} {n : Nat} (h : LA w lb ev ps nx) (hb : Below n w w') (hn : w.heap.size ≤ n) : LA w' lb ev ps nx := ⟨h.lr.below hb hn, h.apart⟩
def numE (it : It) (nx : Int) : Int := if it.kind = 3 then nx else 0
def nextE (it : It) (nx : Int) : Int := if it.kind = 3 then nx + 1 else nx
set_option maxRecDepth 100000 in
theorem ret_ent {fn : Func} {p : Tmp} (h : fn.results = #[.cell p 100]) (tmps : Array Value) (w : World) (b : Nat) (cur : Array Value) (hp : tmps.getD p undef = .pointer (some ⟨b, 0, none⟩))
    (hc : Cells w b 100 cur) (hz : cur.size = 4) : (results fn tmps).run Tryz.prog w = .ok (.agg cur) w := by
  have L := run_loadVar_row (P := Tryz.prog) w b 100 100 cur (0, 0) _ hc Tryz.underlying100 rfl (by rw [hz]; kernel_rfl)
  rw [results_cell1 h, hp]
  show (loadVar _ _).run _ _ = _
  exact L
theorem set4 (c0 c1 c2 c3 v0 v1 v2 v3 : Value) : ((((#[c0, c1, c2, c3].setIfInBounds 0 v0).setIfInBounds 1 v1).setIfInBounds 2 v2).setIfInBounds 3 v3) = #[v0, v1, v2, v3] := by
  simp [List.setIfInBounds_toArray, List.set]
set_option maxRecDepth 100000 in
set_option maxHeartbeats 1000000 in
theorem enter7_any (it : It) (fa : Option Addr) (fn fc lb : Nat) (ev : Value) (nx : Int) (w : World) (hc : Cells w lb 98 #[ev, .int .i64 (nx - 1)]) (hn : -1000000 ≤ nx ∧ nx ≤ 1000000) :
    Calls Tryz.prog 51 #[ptr lb, .agg #[.int .i64 it.kind, .string (B it.raw), .slice fa fn fc]] w fun e w' => e = .returned (.agg #[.int .i64 it.kind, .string (B it.raw), .slice fa fn fc, .int .i64 (numE it nx)]) ∧ Cells w' lb 98 #[ev, .int .i64 (nextE it nx - 1)] ∧ Only (· = lb) w w' := by
  obtain ⟨kd, raw, fs⟩ := it
  unfold numE nextE
  dsimp only
  generalize B raw = rw_ at *
  have hll := hc.lt
  have BX := Lib.hid ((Cells.new w 47 #[.int .i64 kd, .string rw_, .slice fa fn fc]).alloc (.cells #[.int .i64 0, .string ⟨#[]⟩, .slice none 0 0, .int .i64 0] 100))
  have BR := Lib.hid (Cells.new (w.alloc (.cells #[.int .i64 kd, .string rw_, .slice fa fn fc] 47)) 100 #[.int .i64 0, .string ⟨#[]⟩, .slice none 0 0, .int .i64 0])
  have HC := Lib.hid ((hc.alloc (.cells #[.int .i64 kd, .string rw_, .slice fa fn fc] 47)).alloc (.cells #[.int .i64 0, .string ⟨#[]⟩, .slice none 0 0, .int .i64 0] 100))
  have O0 := Lib.hid ((((Only.refl (· = lb) w).alloc (.cells #[.int .i64 kd, .string rw_, .slice fa fn fc] 47))).alloc (.cells #[.int .i64 0, .string ⟨#[]⟩, .slice none 0 0, .int .i64 0] 100))
  by_cases hk : kd = 3
  · subst hk
    rw [if_pos rfl, if_pos rfl]
    have c1 : w.cell? ⟨lb, 1, none⟩ = some (.int .i64 (nx - 1)) := hc.cell 1
    have f1 := hc.frozen 1
    have hw : IntKind.i64.wrap (nx - 1 + 1) = nx := by rw [show nx - 1 + 1 = nx by omega]; exact IntWalk.i64_in _ (by omega)
    have hw2 : nx - 1 + 1 = nx := by omega
    have HC0 := Lib.hid hc
    clear hc
    unfold ptr
    go_enter Tryz.func51, Tryz.ntmps51
    go_wp2_with fail
    obtain ⟨w2, hw2⟩ : ∃ w2, w2 = ((w.setCell ⟨lb, 1, none⟩ (.int .i64 nx)).alloc (.cells #[.int .i64 3, .string rw_, .slice fa fn fc] 47)).alloc (.cells #[.int .i64 0, .string ⟨#[]⟩, .slice none 0 0, .int .i64 0] 100) := ⟨_, rfl⟩
    have CL : Cells w2 lb 98 #[ev, .int .i64 nx] := by
      have := (((HC0.out.set 1 (.int .i64 nx)).alloc (.cells #[.int .i64 3, .string rw_, .slice fa fn fc] 47)).alloc (.cells #[.int .i64 0, .string ⟨#[]⟩, .slice none 0 0, .int .i64 0] 100))
      rw [hw2]
      simpa [List.setIfInBounds_toArray, List.set] using this
    have CI : Cells w2 w.heap.size 47 #[.int .i64 3, .string rw_, .slice fa fn fc] := by
      have := (Cells.new (w.setCell ⟨lb, 1, none⟩ (.int .i64 nx)) 47 #[.int .i64 3, .string rw_, .slice fa fn fc]).alloc (.cells #[.int .i64 0, .string ⟨#[]⟩, .slice none 0 0, .int .i64 0] 100)
      rw [hw2]
      simpa [World.setCell] using this
    have CR : Cells w2 (w.heap.size + 1) 100 #[.int .i64 0, .string ⟨#[]⟩, .slice none 0 0, .int .i64 0] := by
      have := Cells.new ((w.setCell ⟨lb, 1, none⟩ (.int .i64 nx)).alloc (.cells #[.int .i64 3, .string rw_, .slice fa fn fc] 47)) 100 #[.int .i64 0, .string ⟨#[]⟩, .slice none 0 0, .int .i64 0]
      rw [hw2]
      rw [World.size_alloc] at this
      simpa [World.setCell] using this
    have O2 : Only (· = lb) w w2 := by rw [hw2]; exact (((Only.refl (· = lb) w).cellS 1 _).alloc _).alloc _
    rw [← hw2]
    clear hw2 c1 f1
    have g1 : w2.cell? ⟨lb, 1, none⟩ = some (.int .i64 nx) := CL.cell 1
    have i0 : w2.cell? ⟨w.heap.size, 0, none⟩ = some (.int .i64 3) := CI.cell 0
    have i1 : w2.cell? ⟨w.heap.size, 1, none⟩ = some (.string rw_) := CI.cell 1
    have i2 : w2.cell? ⟨w.heap.size, 2, none⟩ = some (.slice fa fn fc) := CI.cell 2
    have r0 : w2.cell? ⟨w.heap.size + 1, 0, none⟩ = some (.int .i64 0) := CR.cell 0
    have r1 : w2.cell? ⟨w.heap.size + 1, 1, none⟩ = some (.string ⟨#[]⟩) := CR.cell 1
    have r2 : w2.cell? ⟨w.heap.size + 1, 2, none⟩ = some (.slice none 0 0) := CR.cell 2
    have r3 : w2.cell? ⟨w.heap.size + 1, 3, none⟩ = some (.int .i64 0) := CR.cell 3
    have s0 := CR.frozen 0
    have s1 := CR.frozen 1
    have s2 := CR.frozen 2
    have s3 := CR.frozen 3
    have HCL := Lib.hid CL
    have HCR := Lib.hid CR
    have HO2 := Lib.hid O2
    clear CL CI CR O2
    go_region_law (skip)
    all_goals go_wp2_with fail
    all_goals
      have RE := (((HCR.out.drew.set 0 (.int .i64 3)).set 1 (.string rw_)).set 2 (.slice fa fn fc)).set 3 (.int .i64 nx)
      rw [set4] at RE
      refine bodyPost_ret (ret_ent rfl _ _ (w.heap.size + 1) _ rfl RE rfl) rfl ?_
      refine ⟨rfl, ?_, ?_⟩
      · have := ((((HCL.out.drew.other (p := ⟨w.heap.size + 1, 0, none⟩) (by show lb ≠ w.heap.size + 1; omega) (.int .i64 3)).other (p := ⟨w.heap.size + 1, 1, none⟩) (by show lb ≠ w.heap.size + 1; omega) (.string rw_)).other (p := ⟨w.heap.size + 1, 2, none⟩) (by show lb ≠ w.heap.size + 1; omega) (.slice fa fn fc)).other (p := ⟨w.heap.size + 1, 3, none⟩) (by show lb ≠ w.heap.size + 1; omega) (.int .i64 nx))
        rw [show nx + 1 - 1 = nx by omega]
        exact this
      · exact ((((HO2.out.drew.setCell (p := ⟨w.heap.size + 1, 0, none⟩) (.inr (by show w.heap.size ≤ w.heap.size + 1; omega)) _).setCell (p := ⟨w.heap.size + 1, 1, none⟩) (.inr (by show w.heap.size ≤ w.heap.size + 1; omega)) _).setCell (p := ⟨w.heap.size + 1, 2, none⟩) (.inr (by show w.heap.size ≤ w.heap.size + 1; omega)) _).setCell (p := ⟨w.heap.size + 1, 3, none⟩) (.inr (by show w.heap.size ≤ w.heap.size + 1; omega)) _)
  · rw [if_neg hk, if_neg hk]
    have hk' : ((kd : Int) == 3) = false := beq_eq_false_iff_ne.2 hk
    have HC0 := Lib.hid hc
    clear hc
    unfold ptr
    go_enter Tryz.func51, Tryz.ntmps51
    go_wp2_with fail
    have RE := Cells.new (w.alloc (.cells #[.int .i64 kd, .string rw_, .slice fa fn fc] 47)) 100 #[.int .i64 kd, .string rw_, .slice fa fn fc, .int .i64 0]
    rw [World.size_alloc] at RE
    refine bodyPost_ret (ret_ent rfl _ _ (w.heap.size + 1) _ rfl RE rfl) rfl ?_
    exact ⟨rfl, (HC0.out.alloc _).alloc _, ((Only.refl (· = lb) w).alloc _).alloc _⟩
end Go.Proofs.YtiebbgbcojgeoaaGreatDoor
/- What Parse comes to, by cases; parts of rows of items. -/
namespace Go.Proofs.YtiebbgbcojgeoaaGreatDoor
open Go.RowKit Go.Shelf

theorem parseNo {w w' : World} {t : List UInt8} {e : Ending} {a n : Nat} (h : Parsed w t e w') (hp : parseL t = .error (a, n)) : Below w.heap.size w w' ∧ ∃ v, e = .returned (.tuple #[.slice none 0 0, v]) ∧ FaultAt w.heap.size w' v a n := by
  obtain ⟨h1, h2⟩ := h
  rw [hp] at h2
  exact ⟨h1, h2⟩
theorem parseYes {w w' : World} {t : List UInt8} {e : Ending} {its : List It} (h : Parsed w t e w') (hp : parseL t = .ok its) : Below w.heap.size w w' ∧ ∃ v, e = .returned (.tuple #[v, .nilIface]) ∧ Its w' v its ∧ NilI w' v its := by
  obtain ⟨h1, h2⟩ := h
  rw [hp] at h2
  exact ⟨h1, h2⟩
theorem Its.part {w : World} {A : Option Addr} {n cap : Nat} {its : List It} (h : Its w (.slice A n cap) its) (k : Nat) (hk : k ≤ its.length) : Its w (.slice A k cap) (its.take k) := by
  obtain ⟨A', cap', e, hle, hc⟩ := h
  cases e
  have hl : (its.take k).length = k := by rw [List.length_take]; omega
  refine ⟨A, cap, by rw [hl], by omega, fun i it hi => hc i it ?_⟩
  rw [List.getElem?_take] at hi
  split at hi
  · exact hi
  · cases hi
theorem Its.rest {w : World} {b off n cap : Nat} {its : List It} (h : Its w (.slice (some ⟨b, off, none⟩) n cap) its) (k : Nat) (hk : k ≤ its.length) : Its w (.slice (some ⟨b, off + k * 3, none⟩) (its.length - k) (cap - k)) (its.drop k) := by
  obtain ⟨A', cap', e, hle, hc⟩ := h
  cases e
  refine ⟨_, cap - k, by rw [List.length_drop], by rw [List.length_drop]; omega, fun i it hi => ?_⟩
  rw [List.getElem?_drop] at hi
  obtain ⟨b', off', fv, e, h1, h2, h3, h4, h5⟩ := hc _ it hi
  cases e
  refine ⟨b, off + k * 3, fv, rfl, h1, ?_, ?_, ?_, h5⟩
  · rw [show off + k * 3 + i * 3 = off + (k + i) * 3 by omega]; exact h2
  · rw [show off + k * 3 + i * 3 + 1 = off + (k + i) * 3 + 1 by omega]; exact h3
  · rw [show off + k * 3 + i * 3 + 1 + 1 = off + (k + i) * 3 + 1 + 1 by omega]; exact h4
theorem Its.empty (w : World) (A : Option Addr) (cap : Nat) : Its w (.slice A 0 cap) [] := ⟨A, cap, rfl, Nat.zero_le _, fun i it h => by simp at h⟩
theorem ItsIn.here {w : World} {v : Value} {its : List It} (h : ItsIn w v its) {i : Nat} {it : It} (hi : its[i]? = some it) : ∃ b off cap fa fc, v = .slice (some ⟨b, off, none⟩) its.length cap ∧ b < w.heap.size ∧ w.cell? ⟨b, off + i * 3, none⟩ = some (.int .i64 it.kind) ∧ w.cell? ⟨b, off + i * 3 + 1, none⟩ = some (.string (B it.raw)) ∧ w.cell? ⟨b, off + i * 3 + 1 + 1, none⟩ = some (.slice fa it.fields.length fc) ∧ FldsIn w (.slice fa it.fields.length fc) it.fields := by
  obtain ⟨A, cap, rfl, hle, hc⟩ := h.is_
  obtain ⟨b, off, fv, rfl, hlt, c0, c1, c2, hf⟩ := hc i it hi
  obtain ⟨b', off', n, cap', fv', e, c2', hin⟩ := h.each i it hi
  cases e
  have e2 : fv = fv' := Option.some.inj (c2.symm.trans c2')
  subst e2
  obtain ⟨fa, fc, rfl, _, _⟩ := id hf
  exact ⟨b, off, cap, fa, fc, rfl, hlt, c0, c1, c2, hin⟩
end Go.Proofs.YtiebbgbcojgeoaaGreatDoor
/- Of. -/
namespace Go.Proofs.YtiebbgbcojgeoaaGreatDoor
open Go.RowKit Go.Shelf
attribute [local go_sem] Oper.semAt_some errV_0

/-- What Of comes to. -/
def OfR (w : World) (t : List UInt8) (e : Ending) (w' : World) : Prop :=
  Below w.heap.size w w' ∧ match parseL t with
    | .error (a, n) => ∃ u, e = .returned (.tuple #[.pointer none, u]) ∧ FaultAt w.heap.size w' u a n
    | .ok its => ∃ lb ev ps, e = .returned (.tuple #[ptr lb, .nilIface]) ∧ w.heap.size ≤ lb ∧ (∀ b, ev.ownBlock = some b → w.heap.size ≤ b) ∧ LA w' lb ev ps (fromL its).next ∧ ps.map Prod.fst = (fromL its).es
theorem OfR.no {w w' : World} {t : List UInt8} {e : Ending} {a n : Nat} (h : OfR w t e w') (hp : parseL t = .error (a, n)) : Below w.heap.size w w' ∧ ∃ u, e = .returned (.tuple #[.pointer none, u]) ∧ FaultAt w.heap.size w' u a n := by
  obtain ⟨h1, h2⟩ := h
  rw [hp] at h2
  exact ⟨h1, h2⟩
theorem OfR.yes {w w' : World} {t : List UInt8} {e : Ending} {its : List It} (h : OfR w t e w') (hp : parseL t = .ok its) : Below w.heap.size w w' ∧ ∃ lb ev ps, e = .returned (.tuple #[ptr lb, .nilIface]) ∧ w.heap.size ≤ lb ∧ (∀ b, ev.ownBlock = some b → w.heap.size ≤ b) ∧ LA w' lb ev ps (fromL its).next ∧ ps.map Prod.fst = (fromL its).es := by
  obtain ⟨h1, h2⟩ := h
  rw [hp] at h2
  exact ⟨h1, h2⟩
/-- The entries so far, their row in new memory. -/
structure AccE (w wr : World) (lb : Nat) (ev : Value) (ps : List Pr) (nx : Int) : Prop where
  head : Cells wr lb 98 #[ev, .int .i64 (nx - 1)]
  row : wr.ownsRow w.heap.size 100 4 ev ps.length (entCells ps)
  each : ∀ p ∈ ps, FldR w p.2 p.1.1.fields
  below : Below w.heap.size w wr
  lb : w.heap.size ≤ lb
theorem AccE.la {w wr : World} {lb : Nat} {ev : Value} {ps : List Pr} {nx : Int} (h : AccE w wr lb ev ps nx) : LA wr lb ev ps nx :=
  ⟨⟨h.head, ⟨rowBase h.row (Nat.zero_le _), fun p hp => (h.each p hp).below h.below (Nat.le_refl _)⟩⟩, fun p hp hne b hb => by
    have h1 := (h.each p hp).1.lt hne b hb
    refine ⟨by have := h.lb; omega, fun e => ?_⟩
    have := (h.row.lt b e).1
    omega⟩
theorem AccE.ne {w wr : World} {lb : Nat} {ev : Value} {ps : List Pr} {nx : Int} (h : AccE w wr lb ev ps nx) : ev.ownBlock ≠ some lb := h.la.lr.row_ne
theorem AccE.alloc {w wr : World} {lb : Nat} {ev : Value} {ps : List Pr} {nx : Int} (h : AccE w wr lb ev ps nx) (o : Obj) : AccE w (wr.alloc o) lb ev ps nx :=
  ⟨h.head.alloc o, h.row.alloc o, h.each, h.below.alloc h.below.size o, h.lb⟩
theorem AccE.snoc {w wa w5 w6 : World} {lb : Nat} {ev v' : Value} {ps : List Pr} {nx nx' : Int} {p : Pr} (h : AccE w wa lb ev ps nx) (h5 : Cells w5 lb 98 #[ev, .int .i64 (nx' - 1)]) (o5 : Only (· = lb) wa w5) (hp : FldR w p.2 p.1.1.fields)
    (ho : w6.ownsRow 0 100 4 v' (ps.length + 1) (entCells ps ++ entCell p)) (h6 : Cells w6 lb 98 #[ev, .int .i64 (nx' - 1)]) (hk : v'.ownBlock = ev.ownBlock ∨ ∃ k, v'.ownBlock = some k ∧ w5.heap.size ≤ k ∧ k < w6.heap.size) (o6 : Only (fun r => some r = ev.ownBlock) w5 w6) :
    AccE w (w6.setCell ⟨lb, 0, none⟩ v') lb v' (ps ++ [p]) nx' := by
  have hne : v'.ownBlock ≠ some lb := by
    intro e
    rcases hk with hk | ⟨k, hk, h1, _⟩
    · rw [hk] at e; exact h.ne e
    · rw [hk] at e
      have : k = lb := Option.some.inj e
      have := h5.lt
      omega
  have hz := h.below.size
  have hz5 := o5.size
  have hrow : w6.ownsRow w.heap.size 100 4 v' (ps.length + 1) (entCells ps ++ entCell p) := by
    rcases ho.2 with ⟨q, _⟩ | ⟨g2, cap2, cur2, q, _, rest⟩
    · exact ⟨ho.1, .inl ⟨q, by omega⟩⟩
    · refine ⟨ho.1, .inr ⟨g2, cap2, cur2, q, ?_, rest⟩⟩
      rcases hk with hk | ⟨k, hk, h1, _⟩
      · exact (h.row.lt g2 (by rw [← hk, q]; rfl)).1
      · rw [q] at hk
        have : g2 = k := Option.some.inj hk
        omega
  refine ⟨?_, ?_, ?_, ?_, h.lb⟩
  · have := h6.set 0 v'
    simpa [List.setIfInBounds_toArray, List.set] using this
  · rw [List.length_append, entCells_snoc]
    exact row_cell hrow hne _
  · intro q hq
    rcases List.mem_append.1 hq with hq | hq
    · exact h.each q hq
    · rw [List.mem_singleton.1 hq]; exact hp
  · have b5 : Below w.heap.size w w5 := h.below.trans (o5.to_below hz (fun r hr e => by have := h.lb; omega))
    have b6 : Below w.heap.size w5 w6 := o6.to_below (by omega) (fun r hr e => by
      have := (h.row.lt r e.symm).1
      omega)
    exact (b5.trans b6).setCell (p := ⟨lb, 0, none⟩) h.lb _
set_option maxRecDepth 100000 in
set_option maxHeartbeats 2000000 in
theorem of_any (s : ByteArray) (hs : s.size ≤ 60000) (w : World) : Calls Tryz.prog 12 #[.string s] w fun e w' => OfR w s.data.toList e w' := by
  obtain ⟨i0, hi, hz0, hz1, hz2⟩ := info_parts infoEnt
  have PA := Lib.hid (parse_any s hs w)
  cases hp : parseL s.data.toList with
  | error an =>
    obtain ⟨a, n⟩ := an
    unfold OfR
    rw [hp]
    dsimp only
    have HP := Lib.hid hp
    clear hp
    go_enter Tryz.func12, Tryz.ntmps12
    go_wp2_with fail
    refine PA.out.mono ?_
    rintro e w1 hpd
    obtain ⟨b1, u, rfl, hf⟩ := parseNo hpd HP.out
    obtain ⟨q, hq, rfl, hqc⟩ := id hf
    go_wp2_with fail
    go_ret2
    exact ⟨b1, _, rfl, hf⟩
  | ok its =>
    unfold OfR
    rw [hp]
    dsimp only
    have HP := Lib.hid hp
    have hlen : its.length ≤ 60000 := by
      have h1 := (parse_join hp).2.1
      rw [← Lib.size_eq] at h1
      omega
    clear hp
    go_enter Tryz.func12, Tryz.ntmps12
    go_wp2_with fail
    refine PA.out.mono ?_
    rintro e w1 hpd
    obtain ⟨b1, v, rfl, hits, hnil⟩ := parseYes hpd HP.out
    have hz := b1.size
    obtain ⟨A, cap, rfl, hle, hcs⟩ := id hits
    have HI := Lib.hid hits
    have HN := Lib.hid hnil
    have HC := Lib.hid hcs
    have B1 := Lib.hid b1
    clear hits hnil hcs b1 hpd PA
    go_wp2_with fail
    have acc0 : AccE w1 (w1.alloc (.cells #[.slice none 0 0, .int .i64 0] 98)) w1.heap.size (.slice none 0 0) [] 1 :=
      ⟨Cells.new _ _ _, ⟨rfl, .inl ⟨rfl, rfl⟩⟩, (fun p h => by cases h), (Below.refl _ _).alloc (Nat.le_refl _) _, Nat.le_refl _⟩
    go_loopw [21] (fun i wr => ∃ (k : Nat) (ev : Value) (ps : List Pr), k ≤ its.length ∧ i = .int .i64 k ∧ AccE w1 wr w1.heap.size ev ps (fromNext 1 (its.take k)) ∧ ps.map Prod.fst = fromOn 1 (its.take k)) (fun i _ => its.length - (intOf i).toNat)
    case atStart => exact ⟨0, _, [], Nat.zero_le _, rfl, acc0, rfl⟩
    case round =>
      obtain ⟨k, ev, ps, hk, rfl, hacc, hps⟩ := hrel
      by_cases hlt : k < its.length
      · obtain ⟨it, hit⟩ : ∃ it, its[k]? = some it := ⟨_, List.getElem?_eq_getElem hlt⟩
        obtain ⟨b, off, fv, e0, hbb, c0, c1, c2, hfl⟩ := HC.out k it hit
        cases e0
        obtain ⟨fa, fc, rfl, _, _⟩ := id hfl
        have hfr : FldR w1 (.slice fa it.fields.length fc) it.fields := ⟨hfl, fun n c e => by
          cases e
          exact HN.out k b off _ _ _ _ rfl hlt c2⟩
        have hb := hacc.below
        have hlb := hb.size
        replace c0 := (hb.cell (p := ⟨b, off + k * 3, none⟩) hbb).trans c0
        replace c1 := (hb.cell (p := ⟨b, off + k * 3 + 1, none⟩) hbb).trans c1
        replace c2 := (hb.cell (p := ⟨b, off + k * 3 + 1 + 1, none⟩) hbb).trans c2
        have hkl : ps.length = k := by
          have := congrArg List.length hps
          rw [List.length_map, from_len, List.length_take] at this
          omega
        subst hkl
        have hnx := from_next 1 (its.take ps.length)
        rw [List.length_take] at hnx
        have FS := Lib.hid (from_snoc 1 (its.take ps.length) it)
        have TK := Lib.hid (show its.take (ps.length + 1) = its.take ps.length ++ [it] by rw [List.take_add_one, hit]; rfl)
        have ACC := Lib.hid hacc
        have HPS := Lib.hid hps
        have hllt := hacc.head.lt
        obtain ⟨ea, ec, rfl, hec⟩ := own_slice hacc.row
        generalize hnx0 : fromNext 1 (its.take ps.length) = nx at *
        have HNX := Lib.hid hnx0
        have hnb : -1000000 ≤ nx ∧ nx ≤ 1000000 := ⟨by omega, by omega⟩
        clear hacc hps hit hfl hnx0
        go_wp2_with fail
        obtain ⟨wa, hwa⟩ : ∃ wa, wa = wr.alloc (.cells #[.int .i64 it.kind, .string (B it.raw), .slice fa it.fields.length fc] 47) := ⟨_, rfl⟩
        have CI : Cells wa wr.heap.size 47 #[.int .i64 it.kind, .string (B it.raw), .slice fa it.fields.length fc] := by rw [hwa]; exact Cells.new _ _ _
        have ACA := Lib.hid (show AccE w1 wa w1.heap.size (.slice ea ps.length ec) ps nx by rw [hwa]; exact ACC.out.alloc _)
        have hza : wa.heap.size = wr.heap.size + 1 := by rw [hwa]; simp
        rw [← hwa]
        clear hwa c0 c1 c2
        have g0 : wa.cell? ⟨w1.heap.size, 0, none⟩ = some (.slice ea ps.length ec) := ACA.out.head.cell 0
        have i0' : wa.cell? ⟨wr.heap.size, 0, none⟩ = some (.int .i64 it.kind) := CI.cell 0
        have i1' : wa.cell? ⟨wr.heap.size, 1, none⟩ = some (.string (B it.raw)) := CI.cell 1
        have i2' : wa.cell? ⟨wr.heap.size, 2, none⟩ = some (.slice fa it.fields.length fc) := CI.cell 2
        have EN := Lib.hid (enter7_any it fa it.fields.length fc w1.heap.size (.slice ea ps.length ec) nx wa.drew ACA.out.head.drew hnb)
        have HCI := Lib.hid CI
        have HO := Lib.hid (show wa.drew.ownsRow 0 100 4 (.slice ea ps.length ec) ps.length (entCells ps) from rowBase ACA.out.row (Nat.zero_le _))
        have HNE := Lib.hid ACA.out.ne
        clear CI
        go_region_law (first
          | (go_simp; go_at_call 51; refine EN.out.mono ?_; rintro e w5 ⟨rfl, hc5, ho5⟩; have hcl5 : w5.cell? ⟨w1.heap.size, 0, none⟩ = some (.slice ea ps.length ec) := hc5.cell 0; have hcl6 : ∀ o, (w5.alloc o).cell? ⟨w1.heap.size, 0, none⟩ = some (.slice ea ps.length ec) := fun o => (hc5.alloc o).cell 0; have ho5' := Lib.hid ho5; have hr5 := Lib.hid (row_only HO.out ho5 (fun b hb e => HNE.out (by rw [hb]; exact congrArg some e))))
          | (refine step_append_own rfl (.tmp 29) (.tmp 33) 96 rfl 100 i0 _ 4 56 Tryz.underlying96 hi hz0 hz1 hz2 rfl (by decide) (.slice ea ps.length ec) ps.length (entCells ps) (by simp [Act.eval]) (by exact hr5.out.alloc _) ⟨w5.heap.size, 0, none⟩ 1 1 [.int .i64 it.kind, .string (B it.raw), .slice fa it.fields.length fc, .int .i64 (numE it nx)] (by simp [Act.eval]) rfl (cells_new_add w5 100 [.int .i64 it.kind, .string (B it.raw), .slice fa it.fields.length fc, .int .i64 (numE it nx)]) (by intro u hu; simp at hu; rcases hu with rfl | rfl | rfl | rfl <;> rfl) (by unfold maxLen; omega) (by omega) ?_; intro v' w' ho hgr hbk; obtain ⟨⟨g', cap', rfl⟩, hg', hbx, hkk, hon⟩ := appended hc5 hr5.out HNE.out ((Below.refl _ w5).alloc (Nat.le_refl _) _) ho hgr hbk; have k0 : w'.cell? ⟨w1.heap.size, 0, none⟩ = some (.slice ea ps.length ec) := hg'.cell 0; have kf0 := hg'.frozen 0))
        all_goals go_wp2_with fail
        all_goals
          have acc2 := (show AccE w1 wa.drew w1.heap.size (.slice ea ps.length ec) ps nx from ⟨ACA.out.head, ACA.out.row, ACA.out.each, ACA.out.below.drew, ACA.out.lb⟩).snoc (p := ((it, numE it nx), .slice fa it.fields.length fc)) hc5 ho5'.out hfr ho hg' hkk hon
          go_roundw
          case rel =>
            refine ⟨ps.length + 1, .slice (some ⟨g', 0, none⟩) (ps.length + 1) cap', ps ++ [((it, numE it nx), .slice fa it.fields.length fc)], hlt, by go_num, ?_, ?_⟩
            · rw [TK.out, FS.out.2]; exact acc2
            · rw [TK.out, FS.out.1, List.map_append, HPS.out]; rfl
          case measure => simp [intOf]; omega
      · obtain rfl : k = its.length := by omega
        rw [List.take_length] at hacc hps
        have hla := hacc.la
        have B2 := Lib.hid (B1.out.trans (hacc.below.mono hz))
        have hrow := hacc.row
        clear HC HI HN
        go_wp2_with fail
        go_ret2
        exact ⟨B2.out, _, ev, ps, rfl, hz, fun b hb => Nat.le_trans hz (hrow.lt b hb).1, hla, hps⟩
end Go.Proofs.YtiebbgbcojgeoaaGreatDoor
/- Replace, Delete. -/
namespace Go.Proofs.YtiebbgbcojgeoaaGreatDoor
open Go.RowKit Go.Shelf
attribute [local go_sem] Oper.semAt_some errV_0

/-- An error's number, and the place. -/
def ErrZ (lo : Nat) (w : World) (u : Value) (a : Int) (n : Nat) : Prop := n ≤ 11 ∧ ((u = errV n ∧ a = -9) ∨ ∃ k : Nat, FaultAt lo w u k n ∧ a = k ∧ n ≠ 0)
theorem ErrZ.of {lo : Nat} {w : World} {u : Value} {fs : List Fld} (h : ChkV lo w u fs) : ErrZ lo w u (chkAt fs) (chkN fs) := by
  unfold ChkV at h
  unfold chkAt
  refine ⟨chkN_le fs, ?_⟩
  split at h
  · rename_i hb
    rw [if_pos hb]; exact .inl ⟨h, rfl⟩
  · rename_i hb
    rw [if_neg hb]
    have h2 : chkN fs = foldN fs := by
      unfold bare at hb
      unfold chkN
      rw [if_neg (fun e => hb (.inl e)), if_neg (fun e => hb (.inr (.inl e)))]
    refine .inr ⟨_, by rw [h2]; exact h, rfl, fun e => hb (.inr (.inr (by omega)))⟩
theorem ErrZ.none (lo : Nat) (w : World) : ErrZ lo w .nilIface (-9) 0 := ⟨by decide, .inl ⟨rfl, rfl⟩⟩
theorem ErrZ.err (lo : Nat) (w : World) (n : Nat) (h : n ≤ 11) : ErrZ lo w (errV n) (-9) n := ⟨h, .inl ⟨rfl, rfl⟩⟩
theorem num_z {lo : Nat} {w : World} {u : Value} {a : Int} {n : Nat} (h : ErrZ lo w u a n) : Calls Tryz.prog 14 #[u] w fun e w' => e = .returned (.int .i64 (n : Nat)) ∧ w = w' := by
  obtain ⟨hn, ⟨rfl, rfl⟩ | ⟨k, hf, rfl, h0⟩⟩ := h
  · exact num_any n (by omega) w
  · exact num_fault hf h0 (by omega)
theorem at_z {lo : Nat} {w : World} {u : Value} {a : Int} {n : Nat} (h : ErrZ lo w u a n) : Calls Tryz.prog 15 #[u] w fun e w' => e = .returned (.int .i64 a) ∧ w = w' := by
  obtain ⟨hn, ⟨rfl, rfl⟩ | ⟨k, hf, rfl, h0⟩⟩ := h
  · rcases Nat.eq_zero_or_pos n with rfl | hp
    · rw [errV_0]; exact at_nil w
    · rw [errV_pos n hp]; exact at_err _ w
  · exact at_fault hf
theorem ErrZ.below {lo : Nat} {w w' : World} {u : Value} {a : Int} {n N : Nat} (h : ErrZ lo w u a n) (hb : Below N w w') (hN : w.heap.size ≤ N) : ErrZ lo w' u a n := by
  obtain ⟨hn, h | ⟨k, hf, h⟩⟩ := h
  · exact ⟨hn, .inl h⟩
  · exact ⟨hn, .inr ⟨k, hf.below hb hN, h⟩⟩
theorem ErrZ.only {lo : Nat} {w w' : World} {u : Value} {a : Int} {n : Nat} {S : Nat → Prop} (h : ErrZ lo w u a n) (g : Only S w w') (hS : ∀ r, lo ≤ r → ¬ S r) : ErrZ lo w' u a n := by
  obtain ⟨hn, h | ⟨k, ⟨q, hq, e, hc⟩, h⟩⟩ := h
  · exact ⟨hn, .inl h⟩
  · exact ⟨hn, .inr ⟨k, ⟨q, hq, e, hc.only g (hS q hq)⟩, h⟩⟩
/-- What an edit comes to, the place being found already. -/
def replaceW (k : Option Nat) (l : LS) (fs : List Fld) : Did :=
  match k with
  | none => ⟨l, -9, 7, 0⟩
  | some k => if chkN fs = 0 then ⟨⟨setE l.es k (itemOf fs), l.next⟩, -9, 0, 0⟩ else ⟨l, chkAt fs, chkN fs, 0⟩
def deleteW (k : Option Nat) (l : LS) : Did :=
  match k with
  | none => ⟨l, -9, 7, 0⟩
  | some k => ⟨⟨cutE l.es k, l.next⟩, -9, 0, 0⟩
def insertW (k : Option Nat) (full : Bool) (l : LS) (fs : List Fld) : Did :=
  match k with
  | none => ⟨l, -9, 7, 0⟩
  | some k => if chkN fs = 0 then (if full = true then ⟨l, -9, 11, 0⟩ else ⟨⟨putE l.es k (itemOf fs, l.next), l.next + 1⟩, -9, 0, l.next⟩) else ⟨l, chkAt fs, chkN fs, 0⟩
theorem replaceW_yes {k : Nat} {l : LS} {fs : List Fld} (h : chkN fs = 0) : replaceW (some k) l fs = ⟨⟨setE l.es k (itemOf fs), l.next⟩, -9, 0, 0⟩ := if_pos h
theorem replaceW_no {k : Nat} {l : LS} {fs : List Fld} (h : chkN fs ≠ 0) : replaceW (some k) l fs = ⟨l, chkAt fs, chkN fs, 0⟩ := if_neg h
theorem insertW_no {k : Nat} {full : Bool} {l : LS} {fs : List Fld} (h : chkN fs ≠ 0) : insertW (some k) full l fs = ⟨l, chkAt fs, chkN fs, 0⟩ := if_neg h
theorem insertW_full {k : Nat} {l : LS} {fs : List Fld} (h : chkN fs = 0) : insertW (some k) true l fs = ⟨l, -9, 11, 0⟩ := by unfold insertW; dsimp only; rw [if_pos h, if_pos rfl]
theorem insertW_yes {k : Nat} {l : LS} {fs : List Fld} (h : chkN fs = 0) : insertW (some k) false l fs = ⟨⟨putE l.es k (itemOf fs, l.next), l.next + 1⟩, -9, 0, l.next⟩ := by unfold insertW; dsimp only; rw [if_pos h, if_neg (by decide)]
theorem replaceR_W (l : LS) (id : Int) (fs : List Fld) : replaceR l id fs = replaceW (findR l.es id) l fs := rfl
theorem deleteR_W (l : LS) (id : Int) : deleteR l id = deleteW (findR l.es id) l := rfl
theorem insertR_W (l : LS) (id : Int) (fs : List Fld) : insertR l id fs = insertW (gapR l.es id) (decide (400 ≤ lenR l.es)) l fs := by
  unfold insertR insertW
  cases gapR l.es id with
  | none => rfl
  | some k => simp
theorem findP_E (ps : List Pr) (id : Int) : findP ps id = findE (ps.map Prod.fst) id := by
  unfold findP findE stzs stzOn
  rw [← stzG_map (κ := fun e : En => e.1.kind) Prod.fst, List.find?_map, Option.map_map]
  rfl
/-- What an edit leaves of a list in memory: u is the error. -/
structure WrR (w : World) (lb : Nat) (ev : Value) (ps : List Pr) (d : Did) (u : Value) (w' : World) (ev' : Value) (ps' : List Pr) : Prop where
  la : LA w' lb ev' ps' d.ls.next
  es : ps'.map Prod.fst = d.ls.es
  only : Only (fun r => r = lb ∨ ev.ownBlock = some r) w w'
  blk : ev'.ownBlock = ev.ownBlock ∨ ∃ b, ev'.ownBlock = some b ∧ w.heap.size ≤ b
  err : ErrZ w.heap.size w' u d.at_ d.bad
  mem : ∀ p ∈ ps', p ∈ ps ∨ ∀ b, p.2.ownBlock = some b → w.heap.size ≤ b
theorem setE_map (ps : List Pr) (k : Nat) (p : Pr) (it : It) (x : Value) (h : ps[k]? = some p) : (ps.set k ((it, p.1.2), x)).map Prod.fst = setE (ps.map Prod.fst) k it := by
  unfold setE
  apply List.ext_getElem?
  intro j
  rw [List.getElem?_map, List.getElem?_set, List.getElem?_modify, List.getElem?_map]
  by_cases hj : k = j
  · subst hj
    rw [if_pos rfl, h, if_pos (List.getElem?_eq_some_iff.1 h).1]
    simp
  · rw [if_neg hj]
    cases ps[j]? with
    | none => rfl
    | some y => simp [hj]
theorem entCells_set (ps : List Pr) (k : Nat) (q : Pr) (h : k < ps.length) : entCells (ps.set k q) = (entCells ps).take (k * 4) ++ (entCell q ++ (entCells ps).drop ((k + 1) * 4)) := by
  rw [List.set_eq_take_append_cons_drop, if_pos h, entCells_append, show entCells (q :: ps.drop (k + 1)) = entCell q ++ entCells (ps.drop (k + 1)) from rfl, entCells_take, entCells_drop]
theorem entCells_ones {w : World} {v : Value} {ps : List Pr} (h : EntsR w v ps) : ∀ u ∈ entCells ps, u.oneCell' = true :=
  entCells_one fun p hp => by obtain ⟨A, c, e⟩ := (h.each p hp).form; rw [e]; rfl
/-- Fields are held to what is asked of them. -/
structure Fine7 (fs : List Fld) : Prop where
  len : fs.length ≤ 1000
  each : ∀ f ∈ fs, f.1.length ≤ 100000 ∧ f.2.length ≤ 100000
set_option maxRecDepth 100000 in
set_option maxHeartbeats 2000000 in
theorem delete_list (lb : Nat) (ev : Value) (ps : List Pr) (nx id : Int) (w : World) (h : LA w lb ev ps nx) (hps : ps.length ≤ 1000000) :
    Calls Tryz.prog 35 #[ptr lb, .int .i64 id] w fun e w' => ∃ u ev' ps', e = .returned u ∧ WrR w lb ev ps (deleteW (findP ps id) ⟨ps.map Prod.fst, nx⟩) u w' ev' ps' := by
  have FD := Lib.hid (find_any lb ev ps nx id w h.lr hps)
  have H := Lib.hid h
  clear h
  unfold ptr at *
  cases hf : findP ps id with
  | none =>
    rw [hf] at FD
    unfold foundV at FD
    dsimp only at FD
    go_enter Tryz.func35, Tryz.ntmps35
    go_wp2_with fail
    refine FD.out.mono ?_
    rintro e w1 ⟨rfl, b1⟩
    go_wp2_with fail
    go_ret
    exact ⟨_, ev, ps, rfl, H.out.below b1 (Nat.le_refl _), rfl, Only.of_below b1 (Nat.le_refl _), .inl rfl, ErrZ.err _ _ 7 (by decide), fun p hp => .inl hp⟩
  | some k =>
    obtain ⟨p, hp, _, _⟩ := findP_lt hf
    rw [hf] at FD
    unfold foundV at FD
    dsimp only at FD
    have hk := (List.getElem?_eq_some_iff.1 hp).1
    clear hf hp
    go_enter Tryz.func35, Tryz.ntmps35
    go_wp2_with fail
    refine FD.out.mono ?_
    rintro e w1 ⟨rfl, b1⟩
    have H1 := H.out.below b1 (Nat.le_refl _)
    obtain ⟨g, cap, rfl⟩ := Joins.ownsRow_form H1.lr.ents.row (by omega)
    have DL := Lib.hid (delete7_any 0 g ps.length cap k (entCells ps) w1 H1.lr.ents.row (entCells_ones H1.lr.ents) hk hps)
    have c0 : w1.cell? ⟨lb, 0, none⟩ = some (.slice (some ⟨g, 0, none⟩) ps.length cap) := H1.lr.head.cell 0
    have hgl : g ≠ lb := fun e => H1.lr.row_ne (by rw [e]; rfl)
    have LH := Lib.hid H1
    have B1 := Lib.hid b1
    have hz := b1.size
    clear FD H1 b1
    unfold sl at DL
    have hwr : IntKind.i64.wrap ((k : Int) + 1) = (k : Int) + 1 := IntWalk.i64_in _ (by omega)
    go_wp2_with fail
    refine DL.out.mono ?_
    rintro e w2 ⟨rfl, hr2, o2⟩
    have h2 := LH.out.lr.head.only o2 (fun e => hgl e.symm)
    have d0 : w2.cell? ⟨lb, 0, none⟩ = some (.slice (some ⟨g, 0, none⟩) ps.length cap) := h2.cell 0
    have f0 := h2.frozen 0
    have HH2 := Lib.hid h2
    have HR2 := Lib.hid hr2
    have HO2 := Lib.hid o2
    clear DL h2 hr2 o2
    go_wp2_with fail
    go_ret
    have hcm : (cutE (ps.map Prod.fst) k) = (ps.take k ++ ps.drop (k + 1)).map Prod.fst := by unfold cutE; rw [List.map_append, List.map_take, List.map_drop]
    have hlen : (ps.take k ++ ps.drop (k + 1)).length = ps.length - 1 := by rw [List.length_append, List.length_take, List.length_drop]; omega
    have hmem : ∀ q ∈ ps.take k ++ ps.drop (k + 1), q ∈ ps := fun q hq => by
      rcases List.mem_append.1 hq with h | h
      · exact List.mem_of_mem_take h
      · exact List.mem_of_mem_drop h
    have o3 : Only (fun r => r = lb ∨ (Value.slice (some ⟨g, 0, none⟩) ps.length cap).ownBlock = some r) w1 (w2.setCell ⟨lb, 0, none⟩ (.slice (some ⟨g, 0, none⟩) (ps.length - 1) cap)) :=
      (HO2.out.mono (fun r _ e => .inr (by rw [e]; rfl))).setCell (p := ⟨lb, 0, none⟩) (.inl (.inl rfl)) _
    refine ⟨_, .slice (some ⟨g, 0, none⟩) (ps.length - 1) cap, ps.take k ++ ps.drop (k + 1), rfl, ⟨⟨?_, ⟨?_, ?_⟩⟩, ?_⟩, hcm.symm, (Only.of_below B1.out (Nat.le_refl _)).trans o3 (fun r hr e => e), .inl rfl, ErrZ.none _ _, fun q hq => .inl (hmem q hq)⟩
    · have := HH2.out.set 0 (.slice (some ⟨g, 0, none⟩) (ps.length - 1) cap)
      show Cells _ lb 98 #[_, .int .i64 (nx - 1)]
      simpa [List.setIfInBounds_toArray, List.set] using this
    · rw [hlen, entCells_append, entCells_take, entCells_drop]
      exact row_cell (p := ⟨lb, 0, none⟩) HR2.out (fun e => hgl (Option.some.inj e)) _
    · intro q hq
      refine (LH.out.lr.ents.each q (hmem q hq)).only o3 (fun hne b hb e => ?_)
      obtain ⟨a1, a2⟩ := LH.out.apart q (hmem q hq) hne b hb
      rcases e with e | e
      · exact a1 e
      · exact a2 e
    · intro q hq hne b hb
      exact LH.out.apart q (hmem q hq) hne b hb
theorem LA.replace {w : World} {lb g cap : Nat} {ps : List Pr} {nx : Int} {k : Nat} {p : Pr} {it : It} {x : Value} (h : LA w lb (.slice (some ⟨g, 0, none⟩) ps.length cap) ps nx) (hp : ps[k]? = some p) (hx : FldR w x it.fields) (hxb : it.fields ≠ [] → ∀ b, x.ownBlock = some b → b ≠ lb ∧ b ≠ g) :
    LA (((w.setCell ⟨g, k * 4, none⟩ (.int .i64 it.kind)).setCell ⟨g, k * 4 + 1, none⟩ (.string (B it.raw))).setCell ⟨g, k * 4 + 1 + 1, none⟩ x) lb (.slice (some ⟨g, 0, none⟩) ps.length cap) (ps.set k ((it, p.1.2), x)) nx ∧
      Only (· = g) w (((w.setCell ⟨g, k * 4, none⟩ (.int .i64 it.kind)).setCell ⟨g, k * 4 + 1, none⟩ (.string (B it.raw))).setCell ⟨g, k * 4 + 1 + 1, none⟩ x) := by
  have hk := (List.getElem?_eq_some_iff.1 hp).1
  have hgl : g ≠ lb := fun e => h.lr.row_ne (by rw [e]; rfl)
  have o : Only (· = g) w (((w.setCell ⟨g, k * 4, none⟩ (.int .i64 it.kind)).setCell ⟨g, k * 4 + 1, none⟩ (.string (B it.raw))).setCell ⟨g, k * 4 + 1 + 1, none⟩ x) :=
    (((Only.refl (· = g) w).cellS _ _).cellS _ _).cellS _ _
  obtain ⟨hl, h2⟩ := h.lr.ents.row
  obtain ⟨cur, hg, hle, hcm, hcs, htk⟩ : ∃ cur, Cells w g 100 cur ∧ ps.length ≤ cap ∧ cap ≤ maxLen ∧ cur.size = cap * 4 ∧ cur.toList.take (ps.length * 4) = entCells ps := by
    rcases h2 with ⟨q, _⟩ | ⟨g', cap', cur, q, a, b, c, d, e, f⟩
    · cases q
    · cases q; exact ⟨cur, b, c, d, e, f⟩
  have hat : ∀ j, j < ps.length * 4 → (entCells ps)[j]? = cur[j]? := fun j hj => by rw [← htk, List.getElem?_take, if_pos hj]; simp
  have C3 : Cells (((w.setCell ⟨g, k * 4, none⟩ (.int .i64 it.kind)).setCell ⟨g, k * 4 + 1, none⟩ (.string (B it.raw))).setCell ⟨g, k * 4 + 1 + 1, none⟩ x) g 100 (layV cur (k * 4) [.int .i64 it.kind, .string (B it.raw), x]) :=
    Cells.lay [.int .i64 it.kind, .string (B it.raw), x] (k * 4) hg
  have hid := entCells_at ps k p hp 3 (.int .i64 p.1.2) rfl
  refine ⟨⟨⟨h.lr.head.only o (fun e => hgl e.symm), ⟨?_, fun q hq => ?_⟩⟩, fun q hq hne b hb => ?_⟩, o⟩
  · rw [List.length_set, entCells_set ps k _ hk]
    have hll : ((entCells ps).take (k * 4) ++ (entCell ((it, p.1.2), x) ++ (entCells ps).drop ((k + 1) * 4))).length = ps.length * 4 := by
      rw [List.length_append, List.length_append, List.length_take, List.length_drop, hl]
      show _ + (4 + _) = _
      omega
    refine ⟨hll, .inr ⟨g, cap, _, rfl, Nat.zero_le _, C3, hle, hcm, by rw [layV_size, hcs], ?_⟩⟩
    apply List.ext_getElem?
    intro j
    rw [List.getElem?_take]
    split
    · rename_i hj
      rw [Array.getElem?_toList, layV_at _ _ _ _ (by rw [hcs]; simp only [List.length_cons, List.length_nil]; omega)]
      simp only [List.length_cons, List.length_nil]
      split
      · rename_i h3
        rw [List.getElem?_append_right (by rw [List.length_take, hl]; omega), List.length_take, hl, show min (k * 4) (ps.length * 4) = k * 4 by omega, List.getElem?_append_left (by show _ < 4; omega)]
        rcases (by omega : j - k * 4 = 0 ∨ j - k * 4 = 1 ∨ j - k * 4 = 2) with e | e | e <;> rw [e] <;> rfl
      · rename_i h3
        rw [← hat j hj]
        rcases Nat.lt_or_ge j (k * 4) with h4 | h4
        · rw [List.getElem?_append_left (by rw [List.length_take, hl]; omega), List.getElem?_take, if_pos h4]
        · rw [List.getElem?_append_right (by rw [List.length_take, hl]; omega), List.length_take, hl, show min (k * 4) (ps.length * 4) = k * 4 by omega]
          rcases Nat.lt_or_ge j (k * 4 + 4) with h5 | h5
          · have e : j = k * 4 + 3 := by omega
            subst e
            rw [show k * 4 + 3 - k * 4 = 3 by omega, hid]; rfl
          · rw [List.getElem?_append_right (by show 4 ≤ _; omega), List.getElem?_drop]
            show _ = (entCells ps)[(k + 1) * 4 + (j - k * 4 - 4)]?
            congr 1; omega
    · rename_i hj
      rw [List.getElem?_eq_none (by omega)]
  · rcases List.mem_or_eq_of_mem_set hq with hq | rfl
    · exact (h.lr.ents.each q hq).only o (fun hne b hb e => (h.apart q hq hne b hb).2 (by rw [e]; rfl))
    · exact hx.only o (fun hne b hb e => (hxb hne b hb).2 e)
  · rcases List.mem_or_eq_of_mem_set hq with hq | rfl
    · exact h.apart q hq hne b hb
    · obtain ⟨a1, a2⟩ := hxb hne b hb
      exact ⟨a1, fun e => a2 (Option.some.inj e).symm⟩
set_option maxRecDepth 100000 in
set_option maxHeartbeats 2000000 in
theorem replace_list (lb : Nat) (ev : Value) (ps : List Pr) (nx id : Int) (fs : List Fld) (v : Value) (w : World) (h : LA w lb ev ps nx) (hps : ps.length ≤ 1000000) (hs : FldR w v fs) (hfs : Fine7 fs) :
    Calls Tryz.prog 34 #[ptr lb, .int .i64 id, v] w fun e w' => ∃ u ev' ps', e = .returned u ∧ WrR w lb ev ps (replaceW (findP ps id) ⟨ps.map Prod.fst, nx⟩ fs) u w' ev' ps' := by
  have FD := Lib.hid (find_any lb ev ps nx id w h.lr hps)
  have H := Lib.hid h
  have HS := Lib.hid hs
  obtain ⟨va, vc, rfl⟩ := hs.form
  clear h hs
  unfold ptr at *
  cases hf : findP ps id with
  | none =>
    rw [hf] at FD
    unfold foundV at FD
    dsimp only at FD
    go_enter Tryz.func34, Tryz.ntmps34
    go_wp2_with fail
    refine FD.out.mono ?_
    rintro e w1 ⟨rfl, b1⟩
    go_wp2_with fail
    go_ret
    exact ⟨_, ev, ps, rfl, H.out.below b1 (Nat.le_refl _), rfl, Only.of_below b1 (Nat.le_refl _), .inl rfl, ErrZ.err _ _ 7 (by decide), fun p hp => .inl hp⟩
  | some k =>
    obtain ⟨p, hp, _, _⟩ := findP_lt hf
    rw [hf] at FD
    unfold foundV at FD
    dsimp only at FD
    have hk := (List.getElem?_eq_some_iff.1 hp).1
    have HP := Lib.hid hp
    clear hf hp
    go_enter Tryz.func34, Tryz.ntmps34
    go_wp2_with fail
    refine FD.out.mono ?_
    rintro e w1 ⟨rfl, b1⟩
    have hs1 := HS.out.below b1 (Nat.le_refl _)
    have IT := Lib.hid (item_any fs _ w1 hs1.1 hs1.2 (by have := hfs.len; omega) hfs.each)
    have B1 := Lib.hid b1
    have hz := b1.size
    clear FD b1 hs1
    go_wp2_with fail
    refine IT.out.mono ?_
    rintro e w2 ⟨u, x, hR⟩
    have B2 := Lib.hid (B1.out.trans (hR.below.mono hz))
    have hz2 := hR.below.size
    have CK := Lib.hid (hR.chk.mono hz)
    obtain rfl := hR.ret
    by_cases h0 : chkN fs = 0
    · have hu := hR.chk.zero h0
      subst hu
      have hx := Lib.hid (hR.own h0)
      obtain ⟨xa, xc, rfl, _⟩ := own_slice (hR.own h0)
      have hki : kindI fs = 3 := if_pos h0
      have hst : stzT fs = foldG fs := if_pos h0
      rw [hki, hst]
      have H2 := H.out.below B2.out (Nat.le_refl _)
      obtain ⟨g, cap, rfl⟩ := Joins.ownsRow_form H2.lr.ents.row (by omega)
      obtain ⟨g', cap', pa, pc, e1, hle, hgl2, e2, d0, d1, d2, d3⟩ := H2.lr.ents.here HP.out
      cases e1
      rw [e2] at d2
      have hgl : g ≠ lb := fun e => H2.lr.row_ne (by rw [e]; rfl)
      have hgw : g < w.heap.size := (H.out.lr.ents.row.lt g rfl).2
      have c0 : w2.cell? ⟨lb, 0, none⟩ = some (.slice (some ⟨g, 0, none⟩) ps.length cap) := H2.lr.head.cell 0
      have LH := Lib.hid H2
      clear hR IT H2 e2
      go_wp2_with fail
      obtain ⟨w3, hw3⟩ : ∃ w3, w3 = w2.alloc (.cells #[.int .i64 3, .string (B (foldG fs)), .slice xa fs.length xc] 47) := ⟨_, rfl⟩
      have L3 := Lib.hid (show LA w3 lb (.slice (some ⟨g, 0, none⟩) ps.length cap) ps nx by rw [hw3]; exact LH.out.below ((Below.refl _ _).alloc (Nat.le_refl _) _) (Nat.le_refl _))
      have CI : Cells w3 w2.heap.size 47 #[.int .i64 3, .string (B (foldG fs)), .slice xa fs.length xc] := by rw [hw3]; exact Cells.new _ _ _
      have X3 := Lib.hid (show w3.ownsRow w1.heap.size 73 2 (.slice xa fs.length xc) fs.length (cellsF fs) by rw [hw3]; exact hx.out.alloc _)
      have B3 := Lib.hid (show Below w.heap.size w w3 by rw [hw3]; exact B2.out.alloc B2.out.size _)
      rw [← hw3]
      clear hw3 c0 d0 d1 d2 d3 LH B2 hx
      obtain ⟨g', cap', pa', pc', e1, _, hgl3, e2, d0, d1, d2, d3⟩ := L3.out.lr.ents.here HP.out
      cases e1
      rw [e2] at d2
      obtain ⟨cur, hcur⟩ : ∃ cur, Cells w3 g 100 cur := by
        rcases L3.out.lr.ents.row.2 with ⟨q, _⟩ | ⟨g'', cap'', cur, q, _, c, _⟩
        · cases q
        · cases q; exact ⟨cur, c⟩
      have f0 := hcur.frozen (k * 4)
      have f1 := hcur.frozen (k * 4 + 1)
      have f2 := hcur.frozen (k * 4 + 1 + 1)
      have c0 : w3.cell? ⟨lb, 0, none⟩ = some (.slice (some ⟨g, 0, none⟩) ps.length cap) := L3.out.lr.head.cell 0
      have i0 : w3.cell? ⟨w2.heap.size, 0, none⟩ = some (.int .i64 3) := CI.cell 0
      have i1 : w3.cell? ⟨w2.heap.size, 1, none⟩ = some (.string (B (foldG fs))) := CI.cell 1
      have i2 : w3.cell? ⟨w2.heap.size, 2, none⟩ = some (.slice xa fs.length xc) := CI.cell 2
      clear CI hcur e2
      go_region_law (skip)
      all_goals go_wp2_with fail
      all_goals
        go_ret
        rw [replaceW_yes h0]
        have hbl : lb < w.heap.size := H.out.lr.head.lt
        obtain ⟨q1, q2⟩ := (L3.out.below (n := w3.heap.size) (Below.refl _ w3).drew (Nat.le_refl _)).replace (it := itemOf fs) (x := .slice xa fs.length xc) HP.out (FldR.own (show w3.drew.ownsRow w1.heap.size 73 2 (.slice xa fs.length xc) fs.length (cellsF fs) from X3.out)) (fun _ b hb => by
          have := (X3.out.lt b hb).1
          exact ⟨by omega, by omega⟩)
        refine ⟨_, _, _, rfl, q1, ?_, (Only.of_below (B3.out.drew) (Nat.le_refl _)).trans (q2.mono (fun r _ e => (.inr (by rw [e]; rfl) : r = lb ∨ (Value.slice (some ⟨g, 0, none⟩) ps.length cap).ownBlock = some r))) (fun r hr e => e), .inl rfl, ?_, fun q hq => ?_⟩
        · exact setE_map ps k p _ _ HP.out
        · exact ErrZ.none _ _
        · rcases List.mem_or_eq_of_mem_set hq with h | h
          · exact .inl h
          · right; rw [h]; intro b hb; have := (X3.out.lt b hb).1; omega
    · have hxn := hR.none_ h0
      subst hxn
      rcases hR.chk.pos h0 with hu | ⟨q, hu⟩
      all_goals
        subst hu
        have hck := Lib.hid (ErrZ.of (hR.chk.mono hz))
        clear hR IT CK
        go_wp2_with fail
        go_ret
        rw [replaceW_no h0]
        have hba := B2.out.alloc B2.out.size (.cells #[.int .i64 (kindI fs), .string (B (stzT fs)), .slice none 0 0] 47)
        exact ⟨_, ev, ps, rfl, H.out.below hba (Nat.le_refl _), rfl, Only.of_below hba (Nat.le_refl _), .inl rfl, hck.out.below ((Below.refl _ _).alloc (Nat.le_refl _) _) (Nat.le_refl _), fun p hp => .inl hp⟩
end Go.Proofs.YtiebbgbcojgeoaaGreatDoor
/- Insert. -/
namespace Go.Proofs.YtiebbgbcojgeoaaGreatDoor
open Go.RowKit Go.Shelf
attribute [local go_sem] Oper.semAt_some errV_0

theorem gapP_le {ps : List Pr} {id : Int} {k : Nat} (h : gapP ps id = some k) : k ≤ ps.length := by
  unfold gapP at h
  split at h
  · cases h; omega
  · obtain ⟨q, hq, rfl⟩ := Option.map_eq_some_iff.1 h
    obtain ⟨p, hp, _⟩ := findP_lt hq
    have := (List.getElem?_eq_some_iff.1 hp).1
    omega
theorem itemOf_num (fs : List Fld) (nx : Int) : numE (itemOf fs) nx = nx ∧ nextE (itemOf fs) nx = nx + 1 := ⟨rfl, rfl⟩
theorem len_any (lb : Nat) (ev : Value) (ps : List Pr) (nx : Int) (w : World) (h : LR w lb ev ps nx) (hps : ps.length ≤ 1000000) :
    Calls Tryz.prog 31 #[ptr lb] w fun e w' => e = .returned (.int .i64 ((stzP 0 ps).length : Nat)) ∧ Below w.heap.size w w' :=
  len_gen ps ev (some ⟨lb, 0, none⟩) w (fun _ hB => AllR.of (h.below hB (Nat.le_refl _))) hps
theorem putE_map (ps : List Pr) (k : Nat) (e : En) (x : Value) : (ps.take k ++ (e, x) :: ps.drop k).map Prod.fst = putE (ps.map Prod.fst) k e := by
  unfold putE
  rw [List.map_append, List.map_cons, List.map_take, List.map_drop]
/-- The list behind an Insert into its row. -/
theorem LA.insert {w w1 w2 w' : World} {lb : Nat} {ev v' : Value} {ps : List Pr} {nx nx' : Int} {k : Nat} {q : Pr} {lo : Nat} (h : LA w1 lb ev ps nx) (hb1 : Below w.heap.size w w1) (hlb : lb < w.heap.size) (hevb : ∀ b, ev.ownBlock = some b → b < w.heap.size) (hk : k ≤ ps.length)
    (h2 : Cells w2 lb 98 #[ev, .int .i64 (nx' - 1)]) (o12 : Only (· = lb) w1 w2)
    (hq : FldR w2 q.2 q.1.1.fields) (hqb : q.1.1.fields ≠ [] → ∀ b, q.2.ownBlock = some b → w.heap.size ≤ b ∧ b < w2.heap.size)
    (hr : w'.ownsRow lo 100 4 v' (ps.length + 1) ((entCells ps).take (k * 4) ++ (entCell q ++ (entCells ps).drop (k * 4)))) (ho : Only (fun r => ev.ownBlock = some r) w2 w') (hbk : v'.ownBlock = ev.ownBlock ∨ ∃ b, v'.ownBlock = some b ∧ w2.heap.size ≤ b) :
    LA (w'.setCell ⟨lb, 0, none⟩ v') lb v' (ps.take k ++ q :: ps.drop k) nx' ∧ Only (fun r => r = lb ∨ ev.ownBlock = some r) w (w'.setCell ⟨lb, 0, none⟩ v') ∧ (v'.ownBlock = ev.ownBlock ∨ ∃ b, v'.ownBlock = some b ∧ w.heap.size ≤ b) := by
  have hevl := h.lr.row_ne
  have hz1 := hb1.size
  have hz2 := o12.size
  have hne : v'.ownBlock ≠ some lb := by
    rcases hbk with e | ⟨b, e, hb⟩
    · rw [e]; exact hevl
    · rw [e]; intro q; have : b = lb := Option.some.inj q; omega
  have o2 : Only (fun r => r = lb ∨ ev.ownBlock = some r) w1 w' := (o12.mono (fun r _ e => .inl e)).trans ho (fun r _ e => .inr e)
  have o3 : Only (fun r => r = lb ∨ ev.ownBlock = some r) w1 (w'.setCell ⟨lb, 0, none⟩ v') := o2.setCell (p := ⟨lb, 0, none⟩) (.inl (.inl rfl)) _
  have hl' : Cells w' lb 98 #[ev, .int .i64 (nx' - 1)] := h2.only ho hevl
  have hmem : ∀ y ∈ ps.take k ++ q :: ps.drop k, y ∈ ps ∨ y = q := fun y hy => by
    rcases List.mem_append.1 hy with a | a
    · exact .inl (List.mem_of_mem_take a)
    · rcases List.mem_cons.1 a with a | a
      · exact .inr a
      · exact .inl (List.mem_of_mem_drop a)
  have hqn : q.1.1.fields ≠ [] → ∀ b, q.2.ownBlock = some b → b ≠ lb ∧ ev.ownBlock ≠ some b ∧ v'.ownBlock ≠ some b := fun hn b hb => by
    obtain ⟨a1, a2⟩ := hqb hn b hb
    have a3 : ev.ownBlock ≠ some b := fun e => by have := hevb b e; omega
    refine ⟨by omega, a3, ?_⟩
    rcases hbk with e | ⟨b', e, hb'⟩
    · rw [e]; exact a3
    · rw [e]; intro q; have : b' = b := Option.some.inj q; omega
  refine ⟨⟨⟨?_, ⟨?_, ?_⟩⟩, ?_⟩, (Only.of_below hb1 (Nat.le_refl _)).trans o3 (fun r _ e => e), ?_⟩
  · have := hl'.set 0 v'
    simpa [List.setIfInBounds_toArray, List.set] using this
  · have hlen : (ps.take k ++ q :: ps.drop k).length = ps.length + 1 := by rw [List.length_append, List.length_cons, List.length_take, List.length_drop]; omega
    rw [hlen, entCells_append, show entCells (q :: ps.drop k) = entCell q ++ entCells (ps.drop k) from rfl, entCells_take, entCells_drop]
    exact row_cell (p := ⟨lb, 0, none⟩) (rowBase hr (Nat.zero_le _)) hne _
  · intro y hy
    rcases hmem y hy with hy | rfl
    · refine (h.lr.ents.each y hy).only o3 (fun hn b hb e => ?_)
      obtain ⟨a1, a2⟩ := h.apart y hy hn b hb
      rcases e with e | e
      · exact a1 e
      · exact a2 e
    · refine hq.only ((ho.mono (S' := fun r => r = lb ∨ ev.ownBlock = some r) (fun r _ e => .inr e)).setCell (p := ⟨lb, 0, none⟩) (.inl (.inl rfl)) v') (fun hn b hb e => ?_)
      obtain ⟨a1, a2, _⟩ := hqn hn b hb
      rcases e with e | e
      · exact a1 e
      · exact a2 e
  · intro y hy hn b hb
    rcases hmem y hy with hy | rfl
    · obtain ⟨a1, a2⟩ := h.apart y hy hn b hb
      refine ⟨a1, ?_⟩
      have hb1' := (h.lr.ents.each y hy).1.lt hn b hb
      rcases hbk with e | ⟨b', e, hb'⟩
      · rw [e]; exact a2
      · rw [e]; intro q; have : b' = b := Option.some.inj q; omega
    · obtain ⟨a1, _, a3⟩ := hqn hn b hb
      exact ⟨a1, a3⟩
  · rcases hbk with e | ⟨b, e, hb⟩
    · exact .inl e
    · exact .inr ⟨b, e, by omega⟩
set_option maxRecDepth 100000 in
set_option maxHeartbeats 800000 in
theorem insert_list (lb : Nat) (ev : Value) (ps : List Pr) (nx id : Int) (fs : List Fld) (v : Value) (w : World) (h : LA w lb ev ps nx) (hps : ps.length ≤ 10000) (hnx : -1000000 ≤ nx ∧ nx ≤ 1000000) (hs : FldR w v fs) (hfs : Fine7 fs) :
    Calls Tryz.prog 32 #[ptr lb, .int .i64 id, v] w fun e w' => ∃ u ev' ps', e = .returned (.tuple #[.int .i64 (insertW (gapP ps id) (decide ((stzP 0 ps).length = 400)) ⟨ps.map Prod.fst, nx⟩ fs).id, u]) ∧ WrR w lb ev ps (insertW (gapP ps id) (decide ((stzP 0 ps).length = 400)) ⟨ps.map Prod.fst, nx⟩ fs) u w' ev' ps' := by
  have GP := Lib.hid (gap_any lb ev ps nx id w h.lr (by omega))
  have H := Lib.hid h
  have HS := Lib.hid hs
  obtain ⟨va, vc, rfl⟩ := hs.form
  clear h hs
  unfold ptr at *
  generalize hfl : decide ((stzP 0 ps).length = 400) = full
  have HFL := Lib.hid hfl
  clear hfl
  cases hf : gapP ps id with
  | none =>
    rw [hf] at GP
    go_enter Tryz.func32, Tryz.ntmps32
    go_wp2_with fail
    refine GP.out.mono ?_
    rintro e w1 ⟨⟨k, rfl, _⟩, b1⟩
    dsimp only [Option.isSome]
    go_wp2_with fail
    go_ret2
    exact ⟨_, ev, ps, rfl, H.out.below b1 (Nat.le_refl _), rfl, Only.of_below b1 (Nat.le_refl _), .inl rfl, ErrZ.err _ _ 7 (by decide), fun p hp => .inl hp⟩
  | some k =>
    rw [hf] at GP
    have hkl := gapP_le hf
    clear hf
    go_enter Tryz.func32, Tryz.ntmps32
    go_wp2_with fail
    refine GP.out.mono ?_
    rintro e w1 ⟨⟨k', rfl, hk'⟩, b1⟩
    obtain rfl := hk' k rfl
    dsimp only [Option.isSome]
    have hs1 := HS.out.below b1 (Nat.le_refl _)
    have IT := Lib.hid (item_any fs _ w1 hs1.1 hs1.2 (by have := hfs.len; omega) hfs.each)
    have B1 := Lib.hid b1
    have hz := b1.size
    clear GP b1 hs1 hk'
    go_wp2_with fail
    refine IT.out.mono ?_
    rintro e w2 ⟨u, x, hR⟩
    have B2 := Lib.hid (B1.out.trans (hR.below.mono hz))
    have hz2 := hR.below.size
    obtain rfl := hR.ret
    by_cases h0 : chkN fs = 0
    · have hu := hR.chk.zero h0
      subst hu
      have hx := Lib.hid (hR.own h0)
      obtain ⟨xa, xc, rfl, _⟩ := own_slice (hR.own h0)
      have hki : kindI fs = 3 := if_pos h0
      have hst : stzT fs = foldG fs := if_pos h0
      rw [hki, hst]
      clear hR IT
      have hba := B2.out.alloc B2.out.size (.cells #[.int .i64 3, .string (B (foldG fs)), .slice xa fs.length xc] 47)
      have LN := Lib.hid (len_any lb ev ps nx _ (H.out.lr.below hba (Nat.le_refl _)) (by omega))
      unfold ptr at LN
      have HBA := Lib.hid hba
      clear hba
      have hsl := stzG_len (κ := fun p : Pr => p.1.1.kind) 0 ps
      go_wp2_with fail
      refine LN.out.mono ?_
      rintro e w3 ⟨rfl, b3⟩
      have B3 := Lib.hid (HBA.out.trans (b3.mono HBA.out.size))
      have hz3 := b3.size
      rw [World.size_alloc] at hz3
      have CI : Cells w3 w2.heap.size 47 #[.int .i64 3, .string (B (foldG fs)), .slice xa fs.length xc] := (Cells.new w2 _ _).below b3 (by simp)
      have X3 := Lib.hid (own_kept (hx.out.alloc (.cells #[.int .i64 3, .string (B (foldG fs)), .slice xa fs.length xc] 47)) b3 (Nat.le_refl _))
      by_cases h4 : (stzP 0 ps).length = 400
      · obtain rfl : full = true := by rw [← HFL.out]; exact decide_eq_true h4
        have h4' : (((stzP 0 ps).length : Nat) : Int) = 400 := by omega
        clear b3 LN CI
        rw [h4']
        go_wp2_with fail
        go_ret2
        rw [insertW_full h0]
        exact ⟨_, ev, ps, rfl, H.out.below B3.out (Nat.le_refl _), rfl, Only.of_below B3.out (Nat.le_refl _), .inl rfl, ErrZ.err _ _ 11 (by decide), fun p hp => .inl hp⟩
      · obtain rfl : full = false := by rw [← HFL.out]; exact decide_eq_false h4
        have h4' : ((((stzP 0 ps).length : Nat) : Int) == 400) = false := beq_eq_false_iff_ne.2 (by omega)
        have L3 := Lib.hid (H.out.below B3.out (Nat.le_refl _))
        have EN := Lib.hid (enter7_any (itemOf fs) xa fs.length xc lb ev nx w3 L3.out.lr.head hnx)
        rw [(itemOf_num fs nx).1, (itemOf_num fs nx).2] at EN
        unfold itemOf ptr at EN
        dsimp only at EN
        have i0 : w3.cell? ⟨w2.heap.size, 0, none⟩ = some (.int .i64 3) := CI.cell 0
        have i1 : w3.cell? ⟨w2.heap.size, 1, none⟩ = some (.string (B (foldG fs))) := CI.cell 1
        have i2 : w3.cell? ⟨w2.heap.size, 2, none⟩ = some (.slice xa fs.length xc) := CI.cell 2
        clear b3 LN CI
        generalize (stzP 0 ps).length = ll at *
        go_wp2_with fail
        refine EN.out.mono ?_
        rintro e w4 ⟨rfl, hc4, o34⟩
        have EO := Lib.hid (show ∃ A n c, ev = .slice A n c from by obtain ⟨A, c, e, _⟩ := L3.out.lr.ents.empty; exact ⟨A, _, c, e⟩)
        have HC4 := Lib.hid hc4
        have O34 := Lib.hid o34
        clear EN hc4 o34 i0 i1 i2
        go_wp2_with fail
        obtain ⟨wa, hwa⟩ : ∃ wa, wa = w4.alloc (.cells #[.int .i64 3, .string (B (foldG fs)), .slice xa fs.length xc, .int .i64 nx] 100) := ⟨_, rfl⟩
        have L3' := L3.out
        obtain ⟨ea, en, ec, rfl⟩ := EO.out
        have hza : wa.heap.size = w4.heap.size + 1 := by rw [hwa]; simp
        have hz4 := O34.out.size
        have hlb3 := L3'.lr.head.lt
        have CA : Cells wa lb 98 #[.slice ea en ec, .int .i64 (nx + 1 - 1)] := by rw [hwa]; exact HC4.out.alloc _
        have CE : Cells wa w4.heap.size 100 #[.int .i64 3, .string (B (foldG fs)), .slice xa fs.length xc, .int .i64 nx] := by rw [hwa]; exact Cells.new _ _ _
        have O3a : Only (· = lb) w3 wa := by rw [hwa]; exact O34.out.alloc _
        have RA : wa.ownsRow 0 100 4 (.slice ea en ec) ps.length (entCells ps) := row_only L3'.lr.ents.row O3a (fun b hb e => L3'.lr.row_ne (by rw [hb]; exact congrArg some e))
        have XA := Lib.hid (row_only X3.out O3a (fun b hb e => by
          have h1 := (X3.out.lt b hb).1
          have h2 := H.out.lr.head.lt
          omega))
        rw [← hwa]
        clear hwa
        have INS := Lib.hid (insert7_any 0 (.slice ea en ec) ps.length k' wa.heap.size (entCells ps) [.int .i64 3, .string (B (foldG fs)), .slice xa fs.length xc, .int .i64 nx] ((wa.alloc (.cells #[.int .i64 3, .string (B (foldG fs)), .slice xa fs.length xc, .int .i64 nx] 100)).drew) (show ((wa.alloc (.cells #[.int .i64 3, .string (B (foldG fs)), .slice xa fs.length xc, .int .i64 nx] 100)).drew).ownsRow 0 100 4 (.slice ea en ec) ps.length (entCells ps) from RA.alloc _) (entCells_ones L3'.lr.ents) hkl (by omega) (Nat.zero_le _) rfl (show Cells ((wa.alloc (.cells #[.int .i64 3, .string (B (foldG fs)), .slice xa fs.length xc, .int .i64 nx] 100)).drew) wa.heap.size 100 _ from Cells.new wa _ _) (fun e => by have := (RA.lt _ e).2; omega) (by intro u hu; simp at hu; rcases hu with rfl | rfl | rfl | rfl <;> rfl))
        unfold sl InsR at INS
        have c0 : wa.cell? ⟨lb, 0, none⟩ = some (.slice ea en ec) := CA.cell 0
        have c0a : ∀ o, (wa.alloc o).cell? ⟨lb, 0, none⟩ = some (.slice ea en ec) := fun o => (CA.alloc o).cell 0
        have j0 : wa.cell? ⟨w4.heap.size, 0, none⟩ = some (.int .i64 3) := CE.cell 0
        have j1 : wa.cell? ⟨w4.heap.size, 1, none⟩ = some (.string (B (foldG fs))) := CE.cell 1
        have j2 : wa.cell? ⟨w4.heap.size, 2, none⟩ = some (.slice xa fs.length xc) := CE.cell 2
        have j3 : wa.cell? ⟨w4.heap.size, 3, none⟩ = some (.int .i64 nx) := CE.cell 3
        have CAH := Lib.hid CA
        have CEH := Lib.hid CE
        have O3H := Lib.hid O3a
        have hevn := L3'.lr.row_ne
        have HEN := Lib.hid hevn
        have HEV := Lib.hid (show ∀ b, (Value.slice ea en ec).ownBlock = some b → b < w.heap.size from fun b hb => (H.out.lr.ents.row.lt b hb).2)
        have hlbw := H.out.lr.head.lt
        have hzb := B3.out.size
        have HZA := Lib.hid hza
        clear CA CE O3a RA hevn L3' hza
        go_region_law (go_simp; go_at_call 77; refine INS.out.mono ?_; rintro e w6 ⟨v', rfl, hr6, ho6, hbk6⟩; obtain ⟨g6, cap6, rfl⟩ := ownsRow_succ hr6; have hc6 := Lib.hid ((CAH.out.alloc _).drew.only ho6 HEN.out); have hce6 := Lib.hid ((CEH.out.alloc _).drew.only ho6 (fun e => by have := HEV.out _ e; omega)); have k0 : w6.cell? ⟨lb, 0, none⟩ = some (.slice ea en ec) := hc6.out.cell 0; have kf0 := hc6.out.frozen 0; have ho6' := Lib.hid ho6)
        all_goals
          have j6 : (w6.setCell ⟨lb, 0, none⟩ (.slice (some ⟨g6, 0, none⟩) (ps.length + 1) cap6)).cell? ⟨w4.heap.size, 3, none⟩ = some (.int .i64 nx) := (hce6.out.other (p := ⟨lb, 0, none⟩) (by show w4.heap.size ≠ lb; omega) _).cell 3
          go_wp2_with fail
        all_goals
          go_ret2
          rw [insertW_yes h0]
          have hxq : FldR ((wa.alloc (.cells #[.int .i64 3, .string (B (foldG fs)), .slice xa fs.length xc, .int .i64 nx] 100)).drew) (.slice xa fs.length xc) fs := FldR.own ((show wa.drew.ownsRow w1.heap.size 73 2 (.slice xa fs.length xc) fs.length (cellsF fs) from XA.out).alloc _)
          have hzaa : ((wa.alloc (.cells #[.int .i64 3, .string (B (foldG fs)), .slice xa fs.length xc, .int .i64 nx] 100)).drew).heap.size = wa.heap.size + 1 := by show (wa.alloc _).heap.size = _; rw [World.size_alloc]
          obtain ⟨q1, q2, q3⟩ := LA.insert (q := ((itemOf fs, nx), .slice xa fs.length xc)) (nx' := nx + 1) L3.out B3.out hlbw HEV.out hkl ((CAH.out.alloc _).drew) ((O3H.out.alloc _).drew) hxq (fun _ b hb => ⟨by have := (XA.out.lt b hb).1; omega, by have := (XA.out.lt b hb).2; omega⟩) hr6 ho6'.out (hbk6.imp (fun h => h) fun h => ⟨_, h, by omega⟩)
          exact ⟨_, _, _, rfl, q1, putE_map ps k' (itemOf fs, nx) _, q2, q3, ErrZ.none _ _, fun q hq => by
            rcases List.mem_append.1 hq with h | h
            · exact .inl (List.mem_of_mem_take h)
            · rcases List.mem_cons.1 h with h | h
              · right; rw [h]; intro b hb; have := (XA.out.lt b hb).1; omega
              · exact .inl (List.mem_of_mem_drop h)⟩
    · have hxn := hR.none_ h0
      subst hxn
      rcases hR.chk.pos h0 with hu | ⟨q, hu⟩
      all_goals
        subst hu
        have hck := Lib.hid (ErrZ.of (hR.chk.mono hz))
        clear hR IT
        go_wp2_with fail
        go_ret2
        rw [insertW_no h0]
        have hba := B2.out.alloc B2.out.size (.cells #[.int .i64 (kindI fs), .string (B (stzT fs)), .slice none 0 0] 47)
        exact ⟨_, ev, ps, rfl, H.out.below hba (Nat.le_refl _), rfl, Only.of_below hba (Nat.le_refl _), .inl rfl, hck.out.below ((Below.refl _ _).alloc (Nat.le_refl _) _) (Nat.le_refl _), fun p hp => .inl hp⟩
end Go.Proofs.YtiebbgbcojgeoaaGreatDoor
/- Copy; what a list that is nil answers. -/
namespace Go.Proofs.YtiebbgbcojgeoaaGreatDoor
open Go.RowKit Go.Shelf
attribute [local go_sem] Oper.semAt_some errV_0

/-- The copy so far. -/
structure AccC (w wr : World) (lb : Nat) (ev : Value) (ps : List Pr) (nx : Int) : Prop where
  head : Cells wr lb 98 #[ev, .int .i64 (nx - 1)]
  row : wr.ownsRow w.heap.size 100 4 ev ps.length (entCells ps)
  each : ∀ p ∈ ps, wr.ownsRow w.heap.size 73 2 p.2 p.1.1.fields.length (cellsF p.1.1.fields)
  below : Below w.heap.size w wr
  lb : w.heap.size ≤ lb
theorem own_cells_ne {W : World} {lo n b : Nat} {t u : TypeId} {sz : Nat} {v : Value} {xs : List Value} {cs : Array Value} (h : W.ownsRow lo t sz v n xs) (hc : Cells W b u cs) (ht : t ≠ u) : v.ownBlock ≠ some b := by
  intro e
  rcases h.2 with ⟨q, _⟩ | ⟨g, cap, cur, q, _, hg, _⟩
  · rw [q] at e; cases e
  · rw [q] at e
    have : g = b := Option.some.inj e
    subst this
    have := hg.symm.trans hc
    injection this with this
    injection this with _ h2 _
    exact ht h2
theorem own_own_ne {W : World} {lo lo' n m : Nat} {t u : TypeId} {sz sz' : Nat} {v x : Value} {xs ys : List Value} (h : W.ownsRow lo t sz v n xs) (g : W.ownsRow lo' u sz' x m ys) (ht : t ≠ u) : ∀ b, v.ownBlock = some b → x.ownBlock ≠ some b := by
  intro b hb
  rcases h.2 with ⟨q, _⟩ | ⟨g', cap, cur, q, _, hg, _⟩
  · rw [q] at hb; cases hb
  · rw [q] at hb
    obtain rfl : g' = b := Option.some.inj hb
    exact own_cells_ne g hg (fun e => ht e.symm)
theorem AccC.la {w wr : World} {lb : Nat} {ev : Value} {ps : List Pr} {nx : Int} (h : AccC w wr lb ev ps nx) : LA wr lb ev ps nx :=
  ⟨⟨h.head, ⟨rowBase h.row (Nat.zero_le _), fun p hp => FldR.own (h.each p hp)⟩⟩, fun p hp _ b hb =>
    ⟨fun e => own_cells_ne (h.each p hp) h.head (by decide) (by rw [← e]; exact hb), own_own_ne (h.each p hp) h.row (by decide) b hb⟩⟩
theorem AccC.below' {w wr w2 : World} {lb : Nat} {ev : Value} {ps : List Pr} {nx : Int} (h : AccC w wr lb ev ps nx) (hb : Below wr.heap.size wr w2) : AccC w w2 lb ev ps nx :=
  ⟨h.head.below hb h.head.lt, own_kept h.row hb (Nat.le_refl _), fun p hp => own_kept (h.each p hp) hb (Nat.le_refl _), h.below.trans (hb.mono h.below.size), h.lb⟩
theorem AccC.snoc {w w5 w6 : World} {lb : Nat} {ev v' : Value} {ps : List Pr} {nx : Int} {p : Pr} (h : AccC w w5 lb ev ps nx) (hp : w5.ownsRow w.heap.size 73 2 p.2 p.1.1.fields.length (cellsF p.1.1.fields))
    (ho : w6.ownsRow 0 100 4 v' (ps.length + 1) (entCells ps ++ entCell p)) (h6 : Cells w6 lb 98 #[ev, .int .i64 (nx - 1)]) (hk : v'.ownBlock = ev.ownBlock ∨ ∃ k, v'.ownBlock = some k ∧ w5.heap.size ≤ k ∧ k < w6.heap.size) (o6 : Only (fun r => some r = ev.ownBlock) w5 w6) :
    AccC w (w6.setCell ⟨lb, 0, none⟩ v') lb v' (ps ++ [p]) nx := by
  have hne : v'.ownBlock ≠ some lb := own_cells_ne ho h6 (by decide)
  have hz := h.below.size
  have hrow : w6.ownsRow w.heap.size 100 4 v' (ps.length + 1) (entCells ps ++ entCell p) := by
    rcases ho.2 with ⟨q, _⟩ | ⟨g2, cap2, cur2, q, _, rest⟩
    · exact ⟨ho.1, .inl ⟨q, by omega⟩⟩
    · refine ⟨ho.1, .inr ⟨g2, cap2, cur2, q, ?_, rest⟩⟩
      rcases hk with hk | ⟨k, hk, h1, _⟩
      · exact (h.row.lt g2 (by rw [← hk, q]; rfl)).1
      · rw [q] at hk
        have : g2 = k := Option.some.inj hk
        omega
  have keep : ∀ {x : Value} {m : Nat} {ys : List Value}, w5.ownsRow w.heap.size 73 2 x m ys → (w6.setCell ⟨lb, 0, none⟩ v').ownsRow w.heap.size 73 2 x m ys := fun hx =>
    have h6x := row_only hx o6 (fun b hb e => own_own_ne hx h.row (by decide) b hb e.symm)
    row_cell (p := ⟨lb, 0, none⟩) h6x (own_cells_ne h6x h6 (by decide)) _
  refine ⟨?_, ?_, ?_, ?_, h.lb⟩
  · have := h6.set 0 v'
    simpa [List.setIfInBounds_toArray, List.set] using this
  · rw [List.length_append, entCells_snoc]
    exact row_cell (p := ⟨lb, 0, none⟩) hrow hne _
  · intro q hq
    rcases List.mem_append.1 hq with hq | hq
    · exact keep (h.each q hq)
    · rw [List.mem_singleton.1 hq]; exact keep hp
  · have b6 : Below w.heap.size w5 w6 := o6.to_below hz (fun r hr e => by
      have := (h.row.lt r e.symm).1
      omega)
    exact (h.below.trans b6).setCell (p := ⟨lb, 0, none⟩) h.lb _
set_option maxRecDepth 100000 in
set_option maxHeartbeats 1000000 in
theorem copy_list (lb : Nat) (ev : Value) (ps : List Pr) (nx : Int) (w : World) (h : LA w lb ev ps nx) (ok : EntsOk ps) :
    Calls Tryz.prog 28 #[ptr lb] w fun e w' => ∃ lb' ev' ps', e = .returned (ptr lb') ∧ LA w' lb' ev' ps' nx ∧ ps'.map Prod.fst = ps.map Prod.fst ∧ Below w.heap.size w w' ∧ w.heap.size ≤ lb' ∧ (∀ b, ev'.ownBlock = some b → w.heap.size ≤ b) ∧ (∀ p ∈ ps', ∀ b, p.2.ownBlock = some b → w.heap.size ≤ b) := by
  obtain ⟨i0, hi, hz0, hz1, hz2⟩ := info_parts infoEnt
  obtain ⟨A, cap, rfl, hle⟩ := h.lr.ents.empty
  have c0 : w.cell? ⟨lb, 0, none⟩ = some (.slice A ps.length cap) := h.lr.head.cell 0
  have c1 : w.cell? ⟨lb, 1, none⟩ = some (.int .i64 (nx - 1)) := h.lr.head.cell 1
  have hll := h.lr.head.lt
  have H := Lib.hid h
  have hlen := ok.len
  have HF := Lib.hid ok.fields
  have acc0 : AccC w (w.alloc (.cells #[.slice none 0 0, .int .i64 (nx - 1)] 98)) w.heap.size (.slice none 0 0) [] nx :=
    ⟨Cells.new _ _ _, ⟨rfl, .inl ⟨rfl, rfl⟩⟩, (fun p h => by cases h), (Below.refl _ _).alloc (Nat.le_refl _) _, Nat.le_refl _⟩
  have ACC0 := Lib.hid acc0
  clear h ok acc0
  unfold ptr
  go_enter Tryz.func28, Tryz.ntmps28
  go_wp2_with fail
  go_loopw [19] (fun i wr => ∃ (k : Nat) (ev' : Value) (qs : List Pr), k ≤ ps.length ∧ i = .int .i64 k ∧ AccC w wr w.heap.size ev' qs nx ∧ qs.map Prod.fst = (ps.take k).map Prod.fst) (fun i _ => ps.length - (intOf i).toNat)
  case atStart => exact ⟨0, _, [], Nat.zero_le _, rfl, ACC0.out, rfl⟩
  case round =>
    obtain ⟨k, ev', qs, hk, rfl, hacc, hqs⟩ := hrel
    by_cases hlt : k < ps.length
    · obtain ⟨p, hp⟩ : ∃ p, ps[k]? = some p := ⟨_, List.getElem?_eq_getElem hlt⟩
      have hb := hacc.below
      have hE := H.out.lr.ents.below hb (Nat.le_refl _)
      obtain ⟨g, cap', pa, pc, e1, _, hg, e2, d0, d1, d2, d3⟩ := hE.here hp
      cases e1
      have hfr := hE.each p (List.mem_of_getElem? hp)
      have hfn := HF.out p (List.mem_of_getElem? hp)
      rw [e2] at d2
      have TK := Lib.hid (show (ps.take (k + 1)).map Prod.fst = (ps.take k).map Prod.fst ++ [p.1] by rw [List.take_add_one, hp]; simp)
      have hkl : qs.length = k := by
        have := congrArg List.length hqs
        rw [List.length_map, List.length_map, List.length_take] at this
        omega
      subst hkl
      have ACC := Lib.hid hacc
      have HQ := Lib.hid hqs
      have HFR := Lib.hid hfr
      have E2 := Lib.hid e2
      obtain ⟨ea, ec, rfl, hec⟩ := own_slice hacc.row
      clear hacc hqs hE hfr hp e2
      go_wp2_with fail
      obtain ⟨wa, hwa⟩ : ∃ wa, wa = wr.alloc (.cells #[.int .i64 p.1.1.kind, .string (B p.1.1.raw), .slice pa p.1.1.fields.length pc, .int .i64 p.1.2] 100) := ⟨_, rfl⟩
      have hba := (Below.refl wr.heap.size wr).alloc (Nat.le_refl _) (.cells #[.int .i64 p.1.1.kind, .string (B p.1.1.raw), .slice pa p.1.1.fields.length pc, .int .i64 p.1.2] 100)
      rw [← hwa] at hba
      have CE : Cells wa wr.heap.size 100 #[.int .i64 p.1.1.kind, .string (B p.1.1.raw), .slice pa p.1.1.fields.length pc, .int .i64 p.1.2] := by rw [hwa]; exact Cells.new _ _ _
      have hza : wa.heap.size = wr.heap.size + 1 := by rw [hwa]; simp
      rw [← hwa]
      clear hwa d0 d1 d2 d3
      have ACA := Lib.hid (ACC.out.below' hba)
      have g0 : wa.cell? ⟨w.heap.size, 0, none⟩ = some (.slice ea qs.length ec) := ACA.out.head.cell 0
      have j0 : wa.cell? ⟨wr.heap.size, 0, none⟩ = some (.int .i64 p.1.1.kind) := CE.cell 0
      have j1 : wa.cell? ⟨wr.heap.size, 1, none⟩ = some (.string (B p.1.1.raw)) := CE.cell 1
      have j2 : wa.cell? ⟨wr.heap.size, 2, none⟩ = some (.slice pa p.1.1.fields.length pc) := CE.cell 2
      have j3 : wa.cell? ⟨wr.heap.size, 3, none⟩ = some (.int .i64 p.1.2) := CE.cell 3
      have IT0 := item7_any p wa.drew ((HFR.out.below hba (Nat.le_refl _)).below (Below.refl wa.heap.size wa).drew (Nat.le_refl _)) hfn
      unfold entV at IT0
      rw [E2.out] at IT0
      have IT := Lib.hid IT0
      have CEH := Lib.hid CE
      have HZA := Lib.hid hza
      have hwz := ACA.out.below.size
      have ACD := Lib.hid (ACA.out.below' (w2 := wa.drew) (Below.refl _ _).drew)
      have HNE := Lib.hid ACA.out.la.lr.row_ne
      clear CE IT0 hza hba
      go_region_law (first
        | (go_simp; go_at_call 74; refine IT.out.mono ?_; rintro e w5 ⟨x, rfl, hx, b5⟩; obtain ⟨xa, xc, rfl, _⟩ := own_slice hx; have acc5 := Lib.hid (ACD.out.below' b5); have hx5 := Lib.hid hx; have ce5 := Lib.hid (CEH.out.drew.below b5 CEH.out.lt); have q0 : w5.cell? ⟨w.heap.size, 0, none⟩ = some (.slice ea qs.length ec) := acc5.out.head.cell 0; have q3 : w5.cell? ⟨wr.heap.size, 3, none⟩ = some (.int .i64 p.1.2) := ce5.out.cell 3; have q0a : ∀ o, (w5.alloc o).cell? ⟨w.heap.size, 0, none⟩ = some (.slice ea qs.length ec) := fun o => (acc5.out.head.alloc o).cell 0; have hr5 := Lib.hid (rowBase acc5.out.row (Nat.zero_le _)); have hc5 := Lib.hid acc5.out.head; have B5 := Lib.hid b5; clear hx b5)
        | (refine step_append_own rfl (.tmp 27) (.tmp 33) 96 rfl 100 i0 _ 4 56 Tryz.underlying96 hi hz0 hz1 hz2 rfl (by decide) (.slice ea qs.length ec) qs.length (entCells qs) (by simp [Act.eval]) (by exact hr5.out.alloc _) ⟨w5.heap.size, 0, none⟩ 1 1 [.int .i64 p.1.1.kind, .string (B p.1.1.raw), .slice xa p.1.1.fields.length xc, .int .i64 p.1.2] (by simp [Act.eval]) rfl (cells_new_add w5 100 [.int .i64 p.1.1.kind, .string (B p.1.1.raw), .slice xa p.1.1.fields.length xc, .int .i64 p.1.2]) (by intro u hu; simp at hu; rcases hu with rfl | rfl | rfl | rfl <;> rfl) (by unfold maxLen; omega) (by omega) ?_; intro v' w' ho hgr hbk; obtain ⟨⟨g', cap', rfl⟩, hg', hbx, hkk, hon⟩ := appended hc5.out hr5.out HNE.out ((Below.refl _ w5).alloc (Nat.le_refl _) _) ho hgr hbk; have k0 : w'.cell? ⟨w.heap.size, 0, none⟩ = some (.slice ea qs.length ec) := hg'.cell 0; have kf0 := hg'.frozen 0))
      all_goals go_wp2_with fail
      all_goals
        have acc6 := acc5.out.snoc (p := (p.1, .slice xa p.1.1.fields.length xc)) (rowBase hx5.out hwz) ho hg' hkk hon
        go_roundw
        case rel =>
          refine ⟨qs.length + 1, .slice (some ⟨g', 0, none⟩) (qs.length + 1) cap', qs ++ [(p.1, .slice xa p.1.1.fields.length xc)], hlt, by go_num, acc6, ?_⟩
          rw [TK.out, List.map_append, HQ.out]; rfl
        case measure => simp [intOf]; omega
    · obtain rfl : k = ps.length := by omega
      rw [List.take_length] at hqs
      have hla := hacc.la
      have hrow := hacc.row
      have hb := hacc.below
      have hea := hacc.each
      clear H HF ACC0 c0 c1
      go_wp2_with fail
      go_ret
      exact ⟨_, ev', qs, rfl, hla, hqs, hb, Nat.le_refl _, fun b hb => (hrow.lt b hb).1, fun p hp b hb => ((hea p hp).lt b hb).1⟩
end Go.Proofs.YtiebbgbcojgeoaaGreatDoor
/- The document's list in memory: find, Len, Items, Stanzas, Place, Text, Get. -/
namespace Go.Proofs.YtiebbgbcojgeoaaGreatDoor
open Go.RowKit Go.Shelf

/-- The document's entries, readable. -/
structure EntsQ (w : World) (v : Value) (ps : List Pr) : Prop where
  row : w.ownsRow 0 105 4 v ps.length (entCells ps)
  each : ∀ p ∈ ps, Flds w p.2 p.1.1.fields
theorem EntsQ.below {w w' : World} {v : Value} {ps : List Pr} {n : Nat} (h : EntsQ w v ps) (hb : Below n w w') (hn : w.heap.size ≤ n) : EntsQ w' v ps :=
  ⟨own_kept h.row hb hn, fun p hp => (h.each p hp).below hb hn⟩
theorem EntsQ.here {w : World} {v : Value} {ps : List Pr} (h : EntsQ w v ps) {i : Nat} {p : Pr} (hi : ps[i]? = some p) : ∃ g cap A c, v = .slice (some ⟨g, 0, none⟩) ps.length cap ∧ ps.length ≤ cap ∧ g < w.heap.size ∧ p.2 = .slice A p.1.1.fields.length c ∧
    w.cell? ⟨g, i * 4, none⟩ = some (.int .i64 p.1.1.kind) ∧ w.cell? ⟨g, i * 4 + 1, none⟩ = some (.string (B p.1.1.raw)) ∧ w.cell? ⟨g, i * 4 + 1 + 1, none⟩ = some p.2 ∧ w.cell? ⟨g, i * 4 + 1 + 1 + 1, none⟩ = some (.int .i64 p.1.2) := by
  have hlt : i < ps.length := (List.getElem?_eq_some_iff.1 hi).1
  obtain ⟨A, c, hA, _⟩ := h.each p (List.mem_of_getElem? hi)
  have hr := h.row
  rcases h.row.2 with ⟨_, hn⟩ | ⟨g, cap, cur, e, _, hg, hle, _⟩
  · omega
  · rw [e] at hr
    have at_ := entCells_at ps i p hi
    refine ⟨g, cap, A, c, e, hle, (World.ownsRow.lt hr g rfl).2, hA, ?_, ?_, ?_, ?_⟩
    · rw [World.ownsRow.cellAt hr (i * 4) (by omega)]; exact at_ 0 _ rfl
    · rw [World.ownsRow.cellAt hr (i * 4 + 1) (by omega)]; exact at_ 1 _ rfl
    · rw [World.ownsRow.cellAt hr (i * 4 + 1 + 1) (by omega)]; exact at_ 2 _ rfl
    · rw [World.ownsRow.cellAt hr (i * 4 + 1 + 1 + 1) (by omega)]; exact at_ 3 _ rfl
theorem EntsQ.empty {w : World} {v : Value} {ps : List Pr} (h : EntsQ w v ps) : ∃ A cap, v = .slice A ps.length cap ∧ ps.length ≤ cap := by
  rcases h.row.2 with ⟨e, hn⟩ | ⟨g, cap, cur, e, _, hg, hle, _⟩
  · exact ⟨none, 0, by rw [e, hn], by omega⟩
  · exact ⟨_, cap, e, hle⟩
theorem entsQ_none (w : World) : EntsQ w (.slice none 0 0) [] := ⟨⟨rfl, .inl ⟨rfl, rfl⟩⟩, fun p h => by cases h⟩
/-- Where the first entry of a number stands, as the document tells it. -/
def findI (o : Option Nat) : Int := match o with | some k => (k : Nat) | none => -1
theorem findR_take {es : List En} {id : Int} (h : 0 < id) : findR es id = es.findIdx? fun e => e.2 == id := if_pos h
theorem findIdx_none_take {es : List En} {id : Int} {k : Nat} (h : ∀ e ∈ es.take k, e.2 ≠ id) (e : En) (he : es[k]? = some e) (hq : e.2 = id) : (es.findIdx? fun e => e.2 == id) = some k := by
  have hk := (List.getElem?_eq_some_iff.1 he).1
  refine List.findIdx?_eq_some_iff_getElem.2 ⟨hk, ?_, fun j hj => ?_⟩
  · have : es[k] = e := (List.getElem?_eq_some_iff.1 he).2
    rw [this]; simpa using hq
  · have : es[j] ∈ es.take k := by
      refine List.mem_of_getElem? (i := j) ?_
      rw [List.getElem?_take, if_pos hj, List.getElem?_eq_getElem (by omega)]
    simpa using h _ this
set_option maxRecDepth 100000 in
set_option maxHeartbeats 1000000 in
theorem refFind_any (ps : List Pr) (v : Value) (nx id : Int) (w : World) (h : EntsQ w v ps) (hps : ps.length ≤ 1000000) :
    Calls Tryz.prog 65 #[.agg #[v, .int .i64 nx], .int .i64 id] w fun e w' => e = .returned (.int .i64 (findI (findR (ps.map Prod.fst) id))) ∧ Below w.heap.size w w' := by
  obtain ⟨A, cap, rfl, hle⟩ := h.empty
  have HB := Lib.hid ((Below.refl w.heap.size w).alloc (Nat.le_refl _) (.cells #[.slice A ps.length cap, .int .i64 nx] 32))
  have H := Lib.hid (h.below HB.out (Nat.le_refl _))
  clear h
  by_cases hid : 0 < id
  · have FE := Lib.hid (findR_take (es := ps.map Prod.fst) hid)
    go_enter Tryz.func65, Tryz.ntmps65
    go_wp2_with fail
    go_loopw [5] (fun i wr => ∃ k : Nat, k ≤ ps.length ∧ i = .int .i64 k ∧ wr = w.alloc (.cells #[.slice A ps.length cap, .int .i64 nx] 32) ∧ ∀ e ∈ (ps.map Prod.fst).take k, e.2 ≠ id) (fun i _ => ps.length - (intOf i).toNat)
    case atStart => exact ⟨0, Nat.zero_le _, rfl, rfl, fun e h => by simp at h⟩
    case round =>
      obtain ⟨k, hk, rfl, rfl, hn⟩ := hrel
      by_cases hlt : k < ps.length
      · obtain ⟨p, hp⟩ : ∃ p, ps[k]? = some p := ⟨_, List.getElem?_eq_getElem hlt⟩
        obtain ⟨g, cap', pa, pc, e1, _, hg, e2, d0, d1, d2, d3⟩ := H.out.here hp
        cases e1
        have hpe : (ps.map Prod.fst)[k]? = some p.1 := by rw [List.getElem?_map, hp]; rfl
        have HPE := Lib.hid hpe
        have HN := Lib.hid hn
        clear hp hpe hn d0 d1 d2
        by_cases hq : p.1.2 = id
        · rw [hq] at d3
          go_wp2_with fail
          go_ret
          exact ⟨by rw [FE.out, findIdx_none_take HN.out _ HPE.out hq]; rfl, HB.out⟩
        · have hq' : ((p.1.2 : Int) == id) = false := beq_eq_false_iff_ne.2 hq
          go_wp2_with fail
          go_roundw
          case rel =>
            refine ⟨k + 1, hlt, by go_num, trivial, fun e he => ?_⟩
            rw [List.take_add_one, HPE.out] at he
            rcases List.mem_append.1 he with he | he
            · exact HN.out e he
            · simp at he; rw [he]; exact hq
          case measure => simp [intOf]; omega
      · obtain rfl : k = ps.length := by omega
        rw [show (ps.map Prod.fst).take ps.length = ps.map Prod.fst by rw [List.take_of_length_le (by simp)]] at hn
        have HN := Lib.hid hn
        clear hn
        go_wp2_with fail
        go_ret
        exact ⟨by rw [FE.out, List.findIdx?_eq_none_iff.2 (fun e he => by simpa using HN.out e he)]; rfl, HB.out⟩
  · have FE := Lib.hid (show findR (ps.map Prod.fst) id = none from if_neg hid)
    have hid' : decide (0 < id) = false := decide_eq_false hid
    go_enter Tryz.func65, Tryz.ntmps65
    go_wp2_with fail
    refine wp_loop_rounds 1 ?_
    rw [rounds_succ]
    cases ps with
    | nil =>
      simp only [List.length_nil] at *
      go_wp2_with fail
      go_ret
      exact ⟨by rw [FE.out]; rfl, HB.out⟩
    | cons a r =>
      have h0' : (0 : Int) < ((a :: r).length : Int) := by simp only [List.length_cons]; omega
      generalize (a :: r).length = n at *
      go_wp2_with fail
      go_ret
      exact ⟨by rw [FE.out]; rfl, HB.out⟩
theorem lenR_snoc (es : List En) (k : Nat) (e : En) (h : es[k]? = some e) : lenR (es.take (k + 1)) = lenR (es.take k) + if 0 < e.2 then 1 else 0 := by
  unfold lenR
  rw [List.take_add_one, h, Option.toList_some, List.filter_append, List.length_append]
  congr 1
  by_cases hq : 0 < e.2
  · rw [if_pos hq, List.filter_cons, if_pos (by simpa using hq)]; rfl
  · rw [if_neg hq, List.filter_cons, if_neg (by simpa using hq)]; rfl
theorem lenR_le (es : List En) : lenR es ≤ es.length := List.length_filter_le _ _
set_option maxRecDepth 100000 in
set_option maxHeartbeats 1000000 in
theorem refLen_any (ps : List Pr) (v : Value) (nx : Int) (w : World) (h : EntsQ w v ps) (hps : ps.length ≤ 1000000) :
    Calls Tryz.prog 98 #[.agg #[v, .int .i64 nx]] w fun e w' => e = .returned (.int .i64 (lenR (ps.map Prod.fst) : Nat)) ∧ Below w.heap.size w w' := by
  obtain ⟨A, cap, rfl, hle⟩ := h.empty
  have HB := Lib.hid ((Below.refl w.heap.size w).alloc (Nat.le_refl _) (.cells #[.slice A ps.length cap, .int .i64 nx] 32))
  have H := Lib.hid (h.below HB.out (Nat.le_refl _))
  have LE := Lib.hid (fun k => lenR_le ((ps.map Prod.fst).take k))
  clear h
  go_enter Tryz.func98, Tryz.ntmps98
  go_wp2_with fail
  go_loopw [3, 4] (fun c i wr => ∃ k : Nat, k ≤ ps.length ∧ i = .int .i64 k ∧ c = .int .i64 (lenR ((ps.map Prod.fst).take k) : Nat) ∧ wr = w.alloc (.cells #[.slice A ps.length cap, .int .i64 nx] 32)) (fun _ i _ => ps.length - (intOf i).toNat)
  case atStart => exact ⟨0, Nat.zero_le _, rfl, rfl, rfl⟩
  case round =>
    obtain ⟨k, hk, rfl, rfl, rfl⟩ := hrel
    have hle2 := LE.out k
    rw [List.length_take] at hle2
    by_cases hlt : k < ps.length
    · obtain ⟨p, hp⟩ : ∃ p, ps[k]? = some p := ⟨_, List.getElem?_eq_getElem hlt⟩
      obtain ⟨g, cap', pa, pc, e1, _, hg, e2, d0, d1, d2, d3⟩ := H.out.here hp
      cases e1
      have hpe : (ps.map Prod.fst)[k]? = some p.1 := by rw [List.getElem?_map, hp]; rfl
      have SN := Lib.hid (lenR_snoc _ k p.1 hpe)
      clear hp hpe d0 d1 d2
      generalize lenR ((ps.map Prod.fst).take k) = c at *
      by_cases hq : 0 < p.1.2
      · go_wp2_with fail
        go_roundw
        case rel => exact ⟨k + 1, hlt, by go_num, by rw [SN.out, if_pos hq]; go_num, trivial⟩
        case measure => simp [intOf]; omega
      · have hq' : decide (0 < p.1.2) = false := decide_eq_false hq
        go_wp2_with fail
        go_roundw
        case rel => exact ⟨k + 1, hlt, by go_num, by rw [SN.out, if_neg hq]; rfl, trivial⟩
        case measure => simp [intOf]; omega
    · obtain rfl : k = ps.length := by omega
      have E := Lib.hid (show (ps.map Prod.fst).take ps.length = ps.map Prod.fst by rw [List.take_of_length_le (by simp)])
      rw [E.out]
      go_wp2_with fail
      go_ret
      exact ⟨rfl, HB.out⟩
end Go.Proofs.YtiebbgbcojgeoaaGreatDoor
