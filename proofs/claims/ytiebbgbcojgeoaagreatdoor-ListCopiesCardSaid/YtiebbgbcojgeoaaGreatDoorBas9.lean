/- Texts put together: QJ, UG, UH. -/
import Derived.Deep.RegionHeld3
import Derived.Test.YtiebbgbcojgeoaaGreatDoorBas8
set_option linter.unusedVariables false
namespace Go.Proofs.YtiebbgbcojgeoaaGreatDoor
open Go.RowKit Go.Shelf

def fl (l : Array Bool) (j : Nat) : Bool := l.getD j false
theorem fl_set {l : Array Bool} {i : Nat} (hi : i < l.size) (j : Nat) : fl (l.setIfInBounds i true) j = if j = i then true else fl l j := by
  unfold fl
  rw [Array.getD_eq_getD_getElem?, Array.getD_eq_getD_getElem?, Array.getElem?_setIfInBounds]
  by_cases h : i = j
  · subst h; simp [hi]
  · rw [if_neg h, if_neg (Ne.symm h)]
theorem wpOp29 {Q : Exit → Act → World → Prop} {K : Act → World → Prop} {a : Act} {w : World} {i : Nat} {o : Oper} (ho : ops29[i]? = some o) (hg : o.guard = none) (h : Oper.wp Tryz.prog o a w K Q) : wpOp Tryz.prog ops29 Q i K a w := by
  unfold wpOp
  rw [ho]
  show (if Region.wanted o (yielded ops29 a.tmps) = true then _ else _)
  rw [if_pos (by simp [Region.wanted, hg])]
  exact .inl h
set_option maxHeartbeats 1000000 in
theorem go_append0 {o : Oper} {a : Act} {w : World} {K : Act → World → Prop} {Q : Exit → Act → World → Prop} {s x : Operand} {p : Addr} (ho : o.op = Op.call { callee := Callee.builtin Builtin.append, args := #[s, x], argTypes := #[36, 36] }) (hs : a.eval s = .slice (some p) 0 0) (hx : a.eval x = .slice none 0 0) (hK : K (a.put o.dst (.slice (some p) 0 0)) w) : Oper.wp Tryz.prog o a w K Q := by
  have hb : ∀ ty, (Builtin.append_ #[36, 36] ty #[.slice (some p) 0 0, .slice none 0 0]).run Tryz.prog w = .ok (.slice (some p) 0 0) w := fun ty => by kernel_rfl
  unfold Oper.wp
  simp [execOp, ho, resolve, invoke, builtin, hs, hx, hb, Result.andThen]
  exact hK
theorem go_append {o : Oper} {a : Act} {w : World} {K : Act → World → Prop} {Q : Exit → Act → World → Prop} {s x : Operand} (hg : o.guard = none) (ho : o.op = Op.call { callee := Callee.builtin Builtin.append, args := #[s, x], argTypes := #[36, 36] })
    (v : Value) (n : Nat) (xs : List Value) (hs : a.eval s = v) (hown : w.ownsRow 0 73 2 v n xs)
    (ad : Addr) (m c : Nat) (news : List Value) (hx : a.eval x = .slice (some ad) m c) (hl : news.length = m * 2) (hnews : ∀ j u, news[j]? = some u → w.cell? (ad.add j) = some u) (h1 : ∀ u ∈ news, u.oneCell' = true)
    (hn : n + m ≤ 1000000)
    (hK : ∀ v' w', w'.ownsRow 0 73 2 v' (n + m) (xs ++ news) → w.grownBy w' v.ownBlock → (v'.ownBlock = v.ownBlock ∨ v'.ownBlock = some w.heap.size) → K (a.put o.dst v') w') : Oper.wp Tryz.prog o a w K Q := by
  obtain ⟨i0, hi, hz0, hz1, hz2⟩ := info_parts infoFld
  have h := step_append_own (P := Tryz.prog) (ops := ops29) (o := o) (a := a) (w := w) (K := K) (Q := Q) (E := True) hg s x 36 ho 73 i0 _ 2 32 Tryz.underlying36 hi hz0 hz1 hz2 rfl (by decide) v n xs hs hown ad m c news hx hl hnews h1 (by unfold maxLen; omega) (by omega) hK
  rwa [if_pos (by simp [Region.wanted, hg])] at h
theorem after29 {w : World} {lo n a b : Nat} {e : TypeId} {size : Nat} {v : Value} {xs : List Value} (ho : w.ownsRow 0 e size v n xs) (hbk : v.ownBlock = some a ∨ v.ownBlock = some b) (ha : lo ≤ a) (hb : lo ≤ b) : ∃ g c, v = .slice (some ⟨g, 0, none⟩) n c ∧ lo ≤ g ∧ w.ownsRow lo e size (.slice (some ⟨g, 0, none⟩) n c) n xs := by
  rcases ho.2 with ⟨rfl, _⟩ | ⟨g, cap, cur, rfl, h0, rest⟩
  · rcases hbk with h | h <;> cases h
  · have hg : lo ≤ g := by
      rcases hbk with h | h
      · have h2 : g = a := Option.some.inj h
        omega
      · have h2 : g = b := Option.some.inj h
        omega
    exact ⟨g, cap, rfl, hg, ho.1, .inr ⟨g, cap, cur, rfl, hg, rest⟩⟩
theorem own_new29 (w : World) (e : TypeId) (size : Nat) : (w.alloc (.cells #[] e)).ownsRow 0 e size (.slice (some ⟨w.heap.size, 0, none⟩) 0 0) 0 [] :=
  ⟨by simp, .inr ⟨_, 0, #[], rfl, Nat.zero_le _, Cells.new w e #[], Nat.le_refl _, Nat.zero_le _, by simp, by simp⟩⟩
theorem alloc29 (w : World) (o : Obj) : Below w.heap.size w (w.alloc o) := (Below.refl _ _).alloc (Nat.le_refl _) o
theorem cells29 {w : World} {b : Nat} {t : TypeId} {x y : Value} (h : Cells w b t #[x, y]) : ∀ j u, [x, y][j]? = some u → w.cell? ((⟨b, 0, none⟩ : Addr).add j) = some u := by
  intro j u hj
  have ea : (⟨b, 0, none⟩ : Addr).add j = ⟨b, j, none⟩ := by unfold Addr.add; split <;> simp_all
  rw [ea, h.cell j]; simpa using hj
abbrev sl (g n c : Nat) : Value := .slice (some ⟨g, 0, none⟩) n c
/-- What holds while the region is done. -/
structure Reg (a0 : Act) (W3 : World) (nb n : Nat) (fv : Value) (cf : List Value) (x y : ByteArray) (l : Array Bool) (a : Act) (w : World) : Prop where
  dfr : a.defers = a0.defers
  sz : a.tmps.size = a0.tmps.size
  frm : ∀ j, (j < 106 ∨ 113 < j) → a.tmps[j]? = a0.tmps[j]?
  bel : fl l 8 = false → Below W3.heap.size W3 w
  s0 : fl l 0 = true → ∃ B, a.tmps[106]? = some (sl B 0 0) ∧ (fl l 3 = false → W3.heap.size ≤ B ∧ w.ownsRow 0 73 2 (sl B 0 0) 0 [] ∧ (fl l 5 = true → ∀ B5, a.tmps[111]? = some (sl B5 1 1) → B5 ≠ B))
  s1 : fl l 1 = true → a.tmps[107]? = some (.pointer (some ⟨nb, 2, none⟩))
  s2 : fl l 2 = true → a.tmps[108]? = some fv
  s3 : fl l 3 = true → fl l 0 = true ∧ fl l 2 = true ∧ ∃ g c, a.tmps[109]? = some (sl g n c) ∧ (fl l 6 = false → w.ownsRow W3.heap.size 73 2 (sl g n c) n cf)
  s4 : fl l 4 = true → a.tmps[110]? = some (.agg #[.string x, .string y])
  s5 : fl l 5 = true → fl l 4 = true ∧ ∃ B5, a.tmps[111]? = some (sl B5 1 1) ∧ (fl l 6 = false → W3.heap.size ≤ B5 ∧ Cells w B5 73 #[.string x, .string y])
  s6 : fl l 6 = true → fl l 3 = true ∧ fl l 5 = true ∧ ∃ g c, a.tmps[112]? = some (sl g (n + 1) c) ∧ (fl l 8 = false → w.ownsRow W3.heap.size 73 2 (sl g (n + 1) c) (n + 1) (cf ++ [.string x, .string y]))
  s7 : fl l 7 = true → a.tmps[113]? = some (.pointer (some ⟨nb, 2, none⟩))
  s8 : fl l 8 = true → fl l 6 = true ∧ ∃ w2 g c, Below W3.heap.size W3 w2 ∧ w2.ownsRow W3.heap.size 73 2 (sl g (n + 1) c) (n + 1) (cf ++ [.string x, .string y]) ∧ w = w2.setCell ⟨nb, 2, none⟩ (sl g (n + 1) c)
theorem rebase29 {w : World} {lo B : Nat} (h : w.ownsRow 0 73 2 (sl B 0 0) 0 []) (hB : lo ≤ B) : w.ownsRow lo 73 2 (sl B 0 0) 0 [] := by
  refine ⟨h.1, ?_⟩
  rcases h.2 with ⟨e, _⟩ | ⟨g, cap, cur, e, _, rest⟩
  · cases e
  · cases e
    exact .inr ⟨B, 0, cur, rfl, hB, rest⟩
theorem tm29 {a : Act} {d : Nat} {v : Value} (hd : d < a.tmps.size) : ∀ j, (a.put (some d) v).tmps[j]? = if j = d then some v else a.tmps[j]? := put29 hd
set_option maxRecDepth 100000 in
set_option maxHeartbeats 4000000 in
theorem region29 (a0 : Act) (W3 : World) (nb fb n : Nat) (fv : Value) (cf : List Value) (x y : ByteArray) (Q : Exit → Act → World → Prop) (k0 k1 : Value)
    (h9 : a0.tmps[9]? = some (.pointer (some ⟨nb, 0, none⟩))) (h13 : a0.tmps[13]? = some (.pointer (some ⟨fb, 0, none⟩))) (hsz : 114 ≤ a0.tmps.size)
    (hVB : Cells W3 nb 47 #[k0, k1, fv]) (hFB : Cells W3 fb 73 #[.string x, .string y])
    (hrow : W3.ownsRow 0 73 2 fv n cf) (h1 : ∀ u ∈ cf, u.oneCell' = true) (hn : n ≤ 100000)
    (hQ : ∀ a w2 g c, a.defers = a0.defers → a.tmps.size = a0.tmps.size → (∀ j, (j < 106 ∨ 113 < j) → a.tmps[j]? = a0.tmps[j]?) → Below W3.heap.size W3 w2 → w2.ownsRow W3.heap.size 73 2 (sl g (n + 1) c) (n + 1) (cf ++ [.string x, .string y]) → Q .normal a (w2.setCell ⟨nb, 2, none⟩ (sl g (n + 1) c))) :
    (Code.region 29 ops29 true).wp Tryz.prog Q a0 W3 := by
  refine wp_region_inv (by kernel_rfl) (Reg a0 W3 nb n fv cf x y) ?start ?step ?done
  case start =>
    have z : ∀ j, fl (Array.replicate ops29.size false) j = false := by
      intro j
      unfold fl
      rw [Array.getD_eq_getD_getElem?, Array.getElem?_replicate]
      split <;> rfl
    exact ⟨rfl, rfl, fun _ _ => rfl, fun _ => (Below.refl _ _).drew, (fun h => by rw [z] at h; cases h), (fun h => by rw [z] at h; cases h), (fun h => by rw [z] at h; cases h), (fun h => by rw [z] at h; cases h), (fun h => by rw [z] at h; cases h), (fun h => by rw [z] at h; cases h), (fun h => by rw [z] at h; cases h), (fun h => by rw [z] at h; cases h), (fun h => by rw [z] at h; cases h)⟩
  case done =>
    intro l a w I hl hr
    have h8 : fl l 8 = true := by
      have hl9 : l.size = 9 := hl
      have e : l = #[l[0], l[1], l[2], l[3], l[4], l[5], l[6], l[7], l[8]] := by
        apply Array.ext
        · simp [hl9]
        · intro i h1 h2
          rw [hl9] at h1
          rcases (by omega : i = 0 ∨ i = 1 ∨ i = 2 ∨ i = 3 ∨ i = 4 ∨ i = 5 ∨ i = 6 ∨ i = 7 ∨ i = 8) with rfl | rfl | rfl | rfl | rfl | rfl | rfl | rfl | rfl <;> rfl
      rw [e] at hr
      have := done29 _ _ _ _ _ _ _ _ _ hr
      unfold fl
      rw [Array.getD_eq_getD_getElem?, Array.getElem?_eq_getElem (by omega)]
      exact this
    obtain ⟨_, w2, g, c, b, o, rfl⟩ := I.s8 h8
    exact hQ a w2 g c I.dfr I.sz I.frm b o
  case step =>
    intro l i o a w I hl ho hli he
    have hl9 : l.size = 9 := hl
    have hi : i < 9 := by
      rcases Nat.lt_or_ge i 9 with h | h
      · exact h
      · rw [Array.getElem?_eq_none (by exact h)] at ho; cases ho
    have hil : i < l.size := by omega
    have FL := fun j => fl_set hil j
    have TM := fun d v (hd : d < 114) => tm29 (a := a) (d := d) (v := v) (by rw [I.sz]; omega)
    have hfi : fl l i = false := by
      unfold fl
      rw [Array.getD_eq_getD_getElem?, Array.getElem?_eq_getElem hil] at hli ⊢
      exact hli
    have dep : ∀ e ∈ o.after, Region.binds .any e = true → fl l e.on = true := he
    have ev : ∀ j v, a.tmps[j]? = some v → a.eval (.tmp j) = v := fun j v h => ev29 h
    have e9 := ev 9 _ ((I.frm 9 (by omega)).trans h9)
    have e13 := ev 13 _ ((I.frm 13 (by omega)).trans h13)
    rcases (by omega : i = 0 ∨ i = 1 ∨ i = 2 ∨ i = 3 ∨ i = 4 ∨ i = 5 ∨ i = 6 ∨ i = 7 ∨ i = 8) with rfl | rfl | rfl | rfl | rfl | rfl | rfl | rfl | rfl
    · have ho2 : some _ = some o := ho
      obtain rfl := Option.some.inj ho2
      have n3 : fl l 3 = false := by
        cases h : fl l 3 with
        | false => rfl
        | true => exact absurd ((I.s3 h).1) (by rw [hfi]; decide)
      have n6 : fl l 6 = false := by
        cases h : fl l 6 with
        | false => rfl
        | true => exact absurd ((I.s3 (I.s6 h).1).1) (by rw [hfi]; decide)
      have n8 : fl l 8 = false := by
        cases h : fl l 8 with
        | false => rfl
        | true => exact absurd ((I.s3 (I.s6 (I.s8 h).1).1).1) (by rw [hfi]; decide)
      have bl := I.bel n8
      have al := alloc29 w (.cells #[] 73)
      refine wpOp29 ho rfl (go_lit0 rfl ?_)
      show Reg a0 W3 nb n fv cf x y (l.setIfInBounds 0 true) (a.put (some 106) (sl w.heap.size 0 0)) (w.alloc (.cells #[] 73))
      have f0 : fl (l.setIfInBounds 0 true) 0 = true := by rw [FL, if_pos rfl]
      have f1 : fl (l.setIfInBounds 0 true) 1 = fl l 1 := by rw [FL, if_neg (by decide)]
      have f2 : fl (l.setIfInBounds 0 true) 2 = fl l 2 := by rw [FL, if_neg (by decide)]
      have f3 : fl (l.setIfInBounds 0 true) 3 = fl l 3 := by rw [FL, if_neg (by decide)]
      have f4 : fl (l.setIfInBounds 0 true) 4 = fl l 4 := by rw [FL, if_neg (by decide)]
      have f5 : fl (l.setIfInBounds 0 true) 5 = fl l 5 := by rw [FL, if_neg (by decide)]
      have f6 : fl (l.setIfInBounds 0 true) 6 = fl l 6 := by rw [FL, if_neg (by decide)]
      have f7 : fl (l.setIfInBounds 0 true) 7 = fl l 7 := by rw [FL, if_neg (by decide)]
      have f8 : fl (l.setIfInBounds 0 true) 8 = fl l 8 := by rw [FL, if_neg (by decide)]
      have t106 : (a.put (some 106) (sl w.heap.size 0 0)).tmps[106]? = some (sl w.heap.size 0 0) := by rw [TM _ _ (by decide), if_pos rfl]
      have t107 : (a.put (some 106) (sl w.heap.size 0 0)).tmps[107]? = a.tmps[107]? := by rw [TM _ _ (by decide), if_neg (by decide)]
      have t108 : (a.put (some 106) (sl w.heap.size 0 0)).tmps[108]? = a.tmps[108]? := by rw [TM _ _ (by decide), if_neg (by decide)]
      have t109 : (a.put (some 106) (sl w.heap.size 0 0)).tmps[109]? = a.tmps[109]? := by rw [TM _ _ (by decide), if_neg (by decide)]
      have t110 : (a.put (some 106) (sl w.heap.size 0 0)).tmps[110]? = a.tmps[110]? := by rw [TM _ _ (by decide), if_neg (by decide)]
      have t111 : (a.put (some 106) (sl w.heap.size 0 0)).tmps[111]? = a.tmps[111]? := by rw [TM _ _ (by decide), if_neg (by decide)]
      have t112 : (a.put (some 106) (sl w.heap.size 0 0)).tmps[112]? = a.tmps[112]? := by rw [TM _ _ (by decide), if_neg (by decide)]
      have t113 : (a.put (some 106) (sl w.heap.size 0 0)).tmps[113]? = a.tmps[113]? := by rw [TM _ _ (by decide), if_neg (by decide)]
      exact ⟨I.dfr, (size29 _ _ _).trans I.sz, fun j hj => by rw [TM _ _ (by decide), if_neg (by omega)]; exact I.frm j hj, (fun _ => bl.trans (al.mono bl.size)), (fun _ => ⟨w.heap.size, t106, by rw [f3, f5, t111]; exact fun _ => ⟨bl.size, own_new29 w _ 2, fun h5 B5 hB5 => by obtain ⟨_, B6, e6, h6⟩ := I.s5 h5; rw [e6] at hB5; cases hB5; have := (h6 n6).2.lt; omega⟩⟩), (by rw [f1, t107]; exact I.s1), (by rw [f2, t108]; exact I.s2), (by rw [f3, n3]; exact fun h => by cases h), (by rw [f4, t110]; exact I.s4), (by rw [f5, f4, t111, f6]; exact fun h => (by obtain ⟨q4, B6, e6, h6⟩ := I.s5 h; exact ⟨q4, B6, e6, fun q => ⟨(h6 q).1, cells_kept (h6 q).2 al (h6 q).2.lt⟩⟩)), (by rw [f6, n6]; exact fun h => by cases h), (by rw [f7, t113]; exact I.s7), (by rw [f8, n8]; exact fun h => by cases h)⟩
    · have ho2 : some _ = some o := ho
      obtain rfl := Option.some.inj ho2
      refine wpOp29 ho rfl (go_faddr rfl e9 ?_)
      show Reg a0 W3 nb n fv cf x y (l.setIfInBounds 1 true) (a.put (some 107) (.pointer (some ⟨nb, 2, none⟩))) w
      have f0 : fl (l.setIfInBounds 1 true) 0 = fl l 0 := by rw [FL, if_neg (by decide)]
      have f1 : fl (l.setIfInBounds 1 true) 1 = true := by rw [FL, if_pos rfl]
      have f2 : fl (l.setIfInBounds 1 true) 2 = fl l 2 := by rw [FL, if_neg (by decide)]
      have f3 : fl (l.setIfInBounds 1 true) 3 = fl l 3 := by rw [FL, if_neg (by decide)]
      have f4 : fl (l.setIfInBounds 1 true) 4 = fl l 4 := by rw [FL, if_neg (by decide)]
      have f5 : fl (l.setIfInBounds 1 true) 5 = fl l 5 := by rw [FL, if_neg (by decide)]
      have f6 : fl (l.setIfInBounds 1 true) 6 = fl l 6 := by rw [FL, if_neg (by decide)]
      have f7 : fl (l.setIfInBounds 1 true) 7 = fl l 7 := by rw [FL, if_neg (by decide)]
      have f8 : fl (l.setIfInBounds 1 true) 8 = fl l 8 := by rw [FL, if_neg (by decide)]
      have t106 : (a.put (some 107) (.pointer (some ⟨nb, 2, none⟩))).tmps[106]? = a.tmps[106]? := by rw [TM _ _ (by decide), if_neg (by decide)]
      have t107 : (a.put (some 107) (.pointer (some ⟨nb, 2, none⟩))).tmps[107]? = some (.pointer (some ⟨nb, 2, none⟩)) := by rw [TM _ _ (by decide), if_pos rfl]
      have t108 : (a.put (some 107) (.pointer (some ⟨nb, 2, none⟩))).tmps[108]? = a.tmps[108]? := by rw [TM _ _ (by decide), if_neg (by decide)]
      have t109 : (a.put (some 107) (.pointer (some ⟨nb, 2, none⟩))).tmps[109]? = a.tmps[109]? := by rw [TM _ _ (by decide), if_neg (by decide)]
      have t110 : (a.put (some 107) (.pointer (some ⟨nb, 2, none⟩))).tmps[110]? = a.tmps[110]? := by rw [TM _ _ (by decide), if_neg (by decide)]
      have t111 : (a.put (some 107) (.pointer (some ⟨nb, 2, none⟩))).tmps[111]? = a.tmps[111]? := by rw [TM _ _ (by decide), if_neg (by decide)]
      have t112 : (a.put (some 107) (.pointer (some ⟨nb, 2, none⟩))).tmps[112]? = a.tmps[112]? := by rw [TM _ _ (by decide), if_neg (by decide)]
      have t113 : (a.put (some 107) (.pointer (some ⟨nb, 2, none⟩))).tmps[113]? = a.tmps[113]? := by rw [TM _ _ (by decide), if_neg (by decide)]
      exact ⟨I.dfr, (size29 _ _ _).trans I.sz, fun j hj => by rw [TM _ _ (by decide), if_neg (by omega)]; exact I.frm j hj, (by rw [f8]; exact I.bel), (by rw [f0, f3, f5, t106, t111]; exact I.s0), (fun _ => t107), (by rw [f2, t108]; exact I.s2), (by rw [f3, f0, f2, t109, f6]; exact I.s3), (by rw [f4, t110]; exact I.s4), (by rw [f5, f4, t111, f6]; exact I.s5), (by rw [f6, f3, f5, t112, f8]; exact I.s6), (by rw [f7, t113]; exact I.s7), (by rw [f8, f6]; exact I.s8)⟩
    · have ho2 : some _ = some o := ho
      obtain rfl := Option.some.inj ho2
      have d1 : fl l 1 = true := dep ⟨1, Ground.data⟩ (by simp [ops29]) rfl
      have n8 : fl l 8 = false := by
        cases h : fl l 8 with
        | false => rfl
        | true => exact absurd ((I.s3 (I.s6 (I.s8 h).1).1).2.1) (by rw [hfi]; decide)
      have bl := I.bel n8
      refine wpOp29 ho rfl (go_load1 rfl (ev 107 _ (I.s1 d1)) ((bl.cell (p := ⟨nb, 2, none⟩) hVB.lt).trans (hVB.cell 2)) ?_)
      show Reg a0 W3 nb n fv cf x y (l.setIfInBounds 2 true) (a.put (some 108) fv) w
      have f0 : fl (l.setIfInBounds 2 true) 0 = fl l 0 := by rw [FL, if_neg (by decide)]
      have f1 : fl (l.setIfInBounds 2 true) 1 = fl l 1 := by rw [FL, if_neg (by decide)]
      have f2 : fl (l.setIfInBounds 2 true) 2 = true := by rw [FL, if_pos rfl]
      have f3 : fl (l.setIfInBounds 2 true) 3 = fl l 3 := by rw [FL, if_neg (by decide)]
      have f4 : fl (l.setIfInBounds 2 true) 4 = fl l 4 := by rw [FL, if_neg (by decide)]
      have f5 : fl (l.setIfInBounds 2 true) 5 = fl l 5 := by rw [FL, if_neg (by decide)]
      have f6 : fl (l.setIfInBounds 2 true) 6 = fl l 6 := by rw [FL, if_neg (by decide)]
      have f7 : fl (l.setIfInBounds 2 true) 7 = fl l 7 := by rw [FL, if_neg (by decide)]
      have f8 : fl (l.setIfInBounds 2 true) 8 = fl l 8 := by rw [FL, if_neg (by decide)]
      have t106 : (a.put (some 108) fv).tmps[106]? = a.tmps[106]? := by rw [TM _ _ (by decide), if_neg (by decide)]
      have t107 : (a.put (some 108) fv).tmps[107]? = a.tmps[107]? := by rw [TM _ _ (by decide), if_neg (by decide)]
      have t108 : (a.put (some 108) fv).tmps[108]? = some fv := by rw [TM _ _ (by decide), if_pos rfl]
      have t109 : (a.put (some 108) fv).tmps[109]? = a.tmps[109]? := by rw [TM _ _ (by decide), if_neg (by decide)]
      have t110 : (a.put (some 108) fv).tmps[110]? = a.tmps[110]? := by rw [TM _ _ (by decide), if_neg (by decide)]
      have t111 : (a.put (some 108) fv).tmps[111]? = a.tmps[111]? := by rw [TM _ _ (by decide), if_neg (by decide)]
      have t112 : (a.put (some 108) fv).tmps[112]? = a.tmps[112]? := by rw [TM _ _ (by decide), if_neg (by decide)]
      have t113 : (a.put (some 108) fv).tmps[113]? = a.tmps[113]? := by rw [TM _ _ (by decide), if_neg (by decide)]
      exact ⟨I.dfr, (size29 _ _ _).trans I.sz, fun j hj => by rw [TM _ _ (by decide), if_neg (by omega)]; exact I.frm j hj, (by rw [f8]; exact I.bel), (by rw [f0, f3, f5, t106, t111]; exact I.s0), (by rw [f1, t107]; exact I.s1), (fun _ => t108), (by rw [f3, f0, t109, f6]; exact fun h => (by obtain ⟨q0, _, q⟩ := I.s3 h; exact ⟨q0, f2, q⟩)), (by rw [f4, t110]; exact I.s4), (by rw [f5, f4, t111, f6]; exact I.s5), (by rw [f6, f3, f5, t112, f8]; exact I.s6), (by rw [f7, t113]; exact I.s7), (by rw [f8, f6]; exact I.s8)⟩
    · have ho2 : some _ = some o := ho
      obtain rfl := Option.some.inj ho2
      have d0 : fl l 0 = true := dep ⟨0, Ground.data⟩ (by simp [ops29]) rfl
      have d2 : fl l 2 = true := dep ⟨2, Ground.data⟩ (by simp [ops29]) rfl
      have n6 : fl l 6 = false := by
        cases h : fl l 6 with
        | false => rfl
        | true => exact absurd ((I.s6 h).1) (by rw [hfi]; decide)
      have n8 : fl l 8 = false := by
        cases h : fl l 8 with
        | false => rfl
        | true => exact absurd ((I.s6 (I.s8 h).1).1) (by rw [hfi]; decide)
      have bl := I.bel n8
      obtain ⟨B, eB, hr⟩ := I.s0 d0
      obtain ⟨q1, q2, q3⟩ := hr hfi
      have e6 := ev 106 _ eB
      have e8 := ev 108 _ (I.s2 d2)
      rcases Joins.ownsRow_forms hrow with ⟨hfv, hn0⟩ | ⟨g, cap, hfv⟩
      · obtain rfl : n = 0 := hn0
        have hcf : cf = [] := List.length_eq_zero_iff.1 (by have := hrow.1; omega)
        refine wpOp29 ho rfl (go_append0 rfl e6 (by rw [e8, hfv]) ?_)
        show Reg a0 W3 nb 0 fv cf x y (l.setIfInBounds 3 true) (a.put (some 109) (sl B 0 0)) w
        have f0 : fl (l.setIfInBounds 3 true) 0 = fl l 0 := by rw [FL, if_neg (by decide)]
        have f1 : fl (l.setIfInBounds 3 true) 1 = fl l 1 := by rw [FL, if_neg (by decide)]
        have f2 : fl (l.setIfInBounds 3 true) 2 = fl l 2 := by rw [FL, if_neg (by decide)]
        have f3 : fl (l.setIfInBounds 3 true) 3 = true := by rw [FL, if_pos rfl]
        have f4 : fl (l.setIfInBounds 3 true) 4 = fl l 4 := by rw [FL, if_neg (by decide)]
        have f5 : fl (l.setIfInBounds 3 true) 5 = fl l 5 := by rw [FL, if_neg (by decide)]
        have f6 : fl (l.setIfInBounds 3 true) 6 = fl l 6 := by rw [FL, if_neg (by decide)]
        have f7 : fl (l.setIfInBounds 3 true) 7 = fl l 7 := by rw [FL, if_neg (by decide)]
        have f8 : fl (l.setIfInBounds 3 true) 8 = fl l 8 := by rw [FL, if_neg (by decide)]
        have t106 : (a.put (some 109) (sl B 0 0)).tmps[106]? = a.tmps[106]? := by rw [TM _ _ (by decide), if_neg (by decide)]
        have t107 : (a.put (some 109) (sl B 0 0)).tmps[107]? = a.tmps[107]? := by rw [TM _ _ (by decide), if_neg (by decide)]
        have t108 : (a.put (some 109) (sl B 0 0)).tmps[108]? = a.tmps[108]? := by rw [TM _ _ (by decide), if_neg (by decide)]
        have t109 : (a.put (some 109) (sl B 0 0)).tmps[109]? = some (sl B 0 0) := by rw [TM _ _ (by decide), if_pos rfl]
        have t110 : (a.put (some 109) (sl B 0 0)).tmps[110]? = a.tmps[110]? := by rw [TM _ _ (by decide), if_neg (by decide)]
        have t111 : (a.put (some 109) (sl B 0 0)).tmps[111]? = a.tmps[111]? := by rw [TM _ _ (by decide), if_neg (by decide)]
        have t112 : (a.put (some 109) (sl B 0 0)).tmps[112]? = a.tmps[112]? := by rw [TM _ _ (by decide), if_neg (by decide)]
        have t113 : (a.put (some 109) (sl B 0 0)).tmps[113]? = a.tmps[113]? := by rw [TM _ _ (by decide), if_neg (by decide)]
        exact ⟨I.dfr, (size29 _ _ _).trans I.sz, fun j hj => by rw [TM _ _ (by decide), if_neg (by omega)]; exact I.frm j hj, (by rw [f8]; exact I.bel), (by rw [f0, t106]; exact fun _ => ⟨B, eB, fun h => by rw [f3] at h; cases h⟩), (by rw [f1, t107]; exact I.s1), (by rw [f2, t108]; exact I.s2), (fun _ => ⟨by rw [f0]; exact d0, by rw [f2]; exact d2, B, 0, t109, fun _ => by rw [hcf]; exact rebase29 q2 q1⟩), (by rw [f4, t110]; exact I.s4), (by rw [f5, f4, t111, f6]; exact I.s5), (by rw [f6, n6]; exact fun h => by cases h), (by rw [f7, t113]; exact I.s7), (by rw [f8, n8]; exact fun h => by cases h)⟩
      · refine wpOp29 ho rfl (go_append rfl rfl (sl B 0 0) 0 [] e6 q2 ⟨g, 0, none⟩ n cap cf (by rw [e8, hfv]) hrow.1 ?hc h1 (by omega) ?_)
        case hc =>
          intro j u hj
          have hjl : j < n * 2 := by
            rw [← hrow.1]
            rcases Nat.lt_or_ge j cf.length with q | q
            · exact q
            · rw [List.getElem?_eq_none q] at hj; cases hj
          have ea : (⟨g, 0, none⟩ : Addr).add j = ⟨g, j, none⟩ := by unfold Addr.add; split <;> simp_all
          have hr2 := hrow
          rw [hfv] at hr2
          rw [ea, bl.cell (p := ⟨g, j, none⟩) (hr2.lt g rfl).2, World.ownsRow.cellAt hr2 j hjl]; exact hj
        intro v' w' o1 gr bk
        obtain ⟨g1, c1, rfl, lo1, own1⟩ := after29 (lo := W3.heap.size) o1 bk q1 bl.size
        rw [Nat.zero_add, List.nil_append] at own1
        rw [Nat.zero_add]
        show Reg a0 W3 nb n fv cf x y (l.setIfInBounds 3 true) (a.put (some 109) (sl g1 n c1)) w'
        have f0 : fl (l.setIfInBounds 3 true) 0 = fl l 0 := by rw [FL, if_neg (by decide)]
        have f1 : fl (l.setIfInBounds 3 true) 1 = fl l 1 := by rw [FL, if_neg (by decide)]
        have f2 : fl (l.setIfInBounds 3 true) 2 = fl l 2 := by rw [FL, if_neg (by decide)]
        have f3 : fl (l.setIfInBounds 3 true) 3 = true := by rw [FL, if_pos rfl]
        have f4 : fl (l.setIfInBounds 3 true) 4 = fl l 4 := by rw [FL, if_neg (by decide)]
        have f5 : fl (l.setIfInBounds 3 true) 5 = fl l 5 := by rw [FL, if_neg (by decide)]
        have f6 : fl (l.setIfInBounds 3 true) 6 = fl l 6 := by rw [FL, if_neg (by decide)]
        have f7 : fl (l.setIfInBounds 3 true) 7 = fl l 7 := by rw [FL, if_neg (by decide)]
        have f8 : fl (l.setIfInBounds 3 true) 8 = fl l 8 := by rw [FL, if_neg (by decide)]
        have t106 : (a.put (some 109) (sl g1 n c1)).tmps[106]? = a.tmps[106]? := by rw [TM _ _ (by decide), if_neg (by decide)]
        have t107 : (a.put (some 109) (sl g1 n c1)).tmps[107]? = a.tmps[107]? := by rw [TM _ _ (by decide), if_neg (by decide)]
        have t108 : (a.put (some 109) (sl g1 n c1)).tmps[108]? = a.tmps[108]? := by rw [TM _ _ (by decide), if_neg (by decide)]
        have t109 : (a.put (some 109) (sl g1 n c1)).tmps[109]? = some (sl g1 n c1) := by rw [TM _ _ (by decide), if_pos rfl]
        have t110 : (a.put (some 109) (sl g1 n c1)).tmps[110]? = a.tmps[110]? := by rw [TM _ _ (by decide), if_neg (by decide)]
        have t111 : (a.put (some 109) (sl g1 n c1)).tmps[111]? = a.tmps[111]? := by rw [TM _ _ (by decide), if_neg (by decide)]
        have t112 : (a.put (some 109) (sl g1 n c1)).tmps[112]? = a.tmps[112]? := by rw [TM _ _ (by decide), if_neg (by decide)]
        have t113 : (a.put (some 109) (sl g1 n c1)).tmps[113]? = a.tmps[113]? := by rw [TM _ _ (by decide), if_neg (by decide)]
        exact ⟨I.dfr, (size29 _ _ _).trans I.sz, fun j hj => by rw [TM _ _ (by decide), if_neg (by omega)]; exact I.frm j hj, (fun _ => bl.grown gr bl.size (fun k hk => by cases hk; exact q1)), (by rw [f0, t106]; exact fun _ => ⟨B, eB, fun h => by rw [f3] at h; cases h⟩), (by rw [f1, t107]; exact I.s1), (by rw [f2, t108]; exact I.s2), (fun _ => ⟨by rw [f0]; exact d0, by rw [f2]; exact d2, g1, c1, t109, fun _ => own1⟩), (by rw [f4, t110]; exact I.s4), (by rw [f5, f4, t111, f6]; exact fun h => (by obtain ⟨q4, B6, e7, h6⟩ := I.s5 h; exact ⟨q4, B6, e7, fun q => ⟨(h6 q).1, Cells.grown (h6 q).2 gr (fun e => q3 h B6 e7 (Option.some.inj e))⟩⟩)), (by rw [f6, n6]; exact fun h => by cases h), (by rw [f7, t113]; exact I.s7), (by rw [f8, n8]; exact fun h => by cases h)⟩
    · have ho2 : some _ = some o := ho
      obtain rfl := Option.some.inj ho2
      have n8 : fl l 8 = false := by
        cases h : fl l 8 with
        | false => rfl
        | true => exact absurd ((I.s5 (I.s6 (I.s8 h).1).2.1).1) (by rw [hfi]; decide)
      have bl := I.bel n8
      refine wpOp29 ho rfl (go_load2 rfl e13 ((bl.cell (p := ⟨fb, 0, none⟩) hFB.lt).trans (hFB.cell 0)) ((bl.cell (p := ⟨fb, 1, none⟩) hFB.lt).trans (hFB.cell 1)) ?_)
      show Reg a0 W3 nb n fv cf x y (l.setIfInBounds 4 true) (a.put (some 110) (.agg #[.string x, .string y])) w
      have f0 : fl (l.setIfInBounds 4 true) 0 = fl l 0 := by rw [FL, if_neg (by decide)]
      have f1 : fl (l.setIfInBounds 4 true) 1 = fl l 1 := by rw [FL, if_neg (by decide)]
      have f2 : fl (l.setIfInBounds 4 true) 2 = fl l 2 := by rw [FL, if_neg (by decide)]
      have f3 : fl (l.setIfInBounds 4 true) 3 = fl l 3 := by rw [FL, if_neg (by decide)]
      have f4 : fl (l.setIfInBounds 4 true) 4 = true := by rw [FL, if_pos rfl]
      have f5 : fl (l.setIfInBounds 4 true) 5 = fl l 5 := by rw [FL, if_neg (by decide)]
      have f6 : fl (l.setIfInBounds 4 true) 6 = fl l 6 := by rw [FL, if_neg (by decide)]
      have f7 : fl (l.setIfInBounds 4 true) 7 = fl l 7 := by rw [FL, if_neg (by decide)]
      have f8 : fl (l.setIfInBounds 4 true) 8 = fl l 8 := by rw [FL, if_neg (by decide)]
      have t106 : (a.put (some 110) (.agg #[.string x, .string y])).tmps[106]? = a.tmps[106]? := by rw [TM _ _ (by decide), if_neg (by decide)]
      have t107 : (a.put (some 110) (.agg #[.string x, .string y])).tmps[107]? = a.tmps[107]? := by rw [TM _ _ (by decide), if_neg (by decide)]
      have t108 : (a.put (some 110) (.agg #[.string x, .string y])).tmps[108]? = a.tmps[108]? := by rw [TM _ _ (by decide), if_neg (by decide)]
      have t109 : (a.put (some 110) (.agg #[.string x, .string y])).tmps[109]? = a.tmps[109]? := by rw [TM _ _ (by decide), if_neg (by decide)]
      have t110 : (a.put (some 110) (.agg #[.string x, .string y])).tmps[110]? = some (.agg #[.string x, .string y]) := by rw [TM _ _ (by decide), if_pos rfl]
      have t111 : (a.put (some 110) (.agg #[.string x, .string y])).tmps[111]? = a.tmps[111]? := by rw [TM _ _ (by decide), if_neg (by decide)]
      have t112 : (a.put (some 110) (.agg #[.string x, .string y])).tmps[112]? = a.tmps[112]? := by rw [TM _ _ (by decide), if_neg (by decide)]
      have t113 : (a.put (some 110) (.agg #[.string x, .string y])).tmps[113]? = a.tmps[113]? := by rw [TM _ _ (by decide), if_neg (by decide)]
      exact ⟨I.dfr, (size29 _ _ _).trans I.sz, fun j hj => by rw [TM _ _ (by decide), if_neg (by omega)]; exact I.frm j hj, (by rw [f8]; exact I.bel), (by rw [f0, f3, f5, t106, t111]; exact I.s0), (by rw [f1, t107]; exact I.s1), (by rw [f2, t108]; exact I.s2), (by rw [f3, f0, f2, t109, f6]; exact I.s3), (fun _ => t110), (by rw [f5, t111, f6]; exact fun h => (by obtain ⟨_, q⟩ := I.s5 h; exact ⟨f4, q⟩)), (by rw [f6, f3, f5, t112, f8]; exact I.s6), (by rw [f7, t113]; exact I.s7), (by rw [f8, f6]; exact I.s8)⟩
    · have ho2 : some _ = some o := ho
      obtain rfl := Option.some.inj ho2
      have d4 : fl l 4 = true := dep ⟨4, Ground.data⟩ (by simp [ops29]) rfl
      have n6 : fl l 6 = false := by
        cases h : fl l 6 with
        | false => rfl
        | true => exact absurd ((I.s6 h).2.1) (by rw [hfi]; decide)
      have n8 : fl l 8 = false := by
        cases h : fl l 8 with
        | false => rfl
        | true => exact absurd ((I.s6 (I.s8 h).1).2.1) (by rw [hfi]; decide)
      have bl := I.bel n8
      have al := alloc29 w (.cells #[.string x, .string y] 73)
      refine wpOp29 ho rfl (go_lit1 rfl (ev 110 _ (I.s4 d4)) ?_)
      show Reg a0 W3 nb n fv cf x y (l.setIfInBounds 5 true) (a.put (some 111) (sl w.heap.size 1 1)) (w.alloc (.cells #[.string x, .string y] 73))
      have f0 : fl (l.setIfInBounds 5 true) 0 = fl l 0 := by rw [FL, if_neg (by decide)]
      have f1 : fl (l.setIfInBounds 5 true) 1 = fl l 1 := by rw [FL, if_neg (by decide)]
      have f2 : fl (l.setIfInBounds 5 true) 2 = fl l 2 := by rw [FL, if_neg (by decide)]
      have f3 : fl (l.setIfInBounds 5 true) 3 = fl l 3 := by rw [FL, if_neg (by decide)]
      have f4 : fl (l.setIfInBounds 5 true) 4 = fl l 4 := by rw [FL, if_neg (by decide)]
      have f5 : fl (l.setIfInBounds 5 true) 5 = true := by rw [FL, if_pos rfl]
      have f6 : fl (l.setIfInBounds 5 true) 6 = fl l 6 := by rw [FL, if_neg (by decide)]
      have f7 : fl (l.setIfInBounds 5 true) 7 = fl l 7 := by rw [FL, if_neg (by decide)]
      have f8 : fl (l.setIfInBounds 5 true) 8 = fl l 8 := by rw [FL, if_neg (by decide)]
      have t106 : (a.put (some 111) (sl w.heap.size 1 1)).tmps[106]? = a.tmps[106]? := by rw [TM _ _ (by decide), if_neg (by decide)]
      have t107 : (a.put (some 111) (sl w.heap.size 1 1)).tmps[107]? = a.tmps[107]? := by rw [TM _ _ (by decide), if_neg (by decide)]
      have t108 : (a.put (some 111) (sl w.heap.size 1 1)).tmps[108]? = a.tmps[108]? := by rw [TM _ _ (by decide), if_neg (by decide)]
      have t109 : (a.put (some 111) (sl w.heap.size 1 1)).tmps[109]? = a.tmps[109]? := by rw [TM _ _ (by decide), if_neg (by decide)]
      have t110 : (a.put (some 111) (sl w.heap.size 1 1)).tmps[110]? = a.tmps[110]? := by rw [TM _ _ (by decide), if_neg (by decide)]
      have t111 : (a.put (some 111) (sl w.heap.size 1 1)).tmps[111]? = some (sl w.heap.size 1 1) := by rw [TM _ _ (by decide), if_pos rfl]
      have t112 : (a.put (some 111) (sl w.heap.size 1 1)).tmps[112]? = a.tmps[112]? := by rw [TM _ _ (by decide), if_neg (by decide)]
      have t113 : (a.put (some 111) (sl w.heap.size 1 1)).tmps[113]? = a.tmps[113]? := by rw [TM _ _ (by decide), if_neg (by decide)]
      exact ⟨I.dfr, (size29 _ _ _).trans I.sz, fun j hj => by rw [TM _ _ (by decide), if_neg (by omega)]; exact I.frm j hj, (fun _ => bl.trans (al.mono bl.size)), (by rw [f0, f3, t106, t111]; exact fun h => (by obtain ⟨B, e, hr⟩ := I.s0 h; exact ⟨B, e, fun h3 => (by obtain ⟨q1, q2, q3⟩ := hr h3; exact ⟨q1, own_kept q2 al (Nat.le_refl _), fun _ B5 hB5 => by cases hB5; have := (q2.lt B rfl).2; omega⟩)⟩)), (by rw [f1, t107]; exact I.s1), (by rw [f2, t108]; exact I.s2), (by rw [f3, f0, f2, t109, f6]; exact fun h => (by obtain ⟨q0, q2, g, c, e, hr⟩ := I.s3 h; exact ⟨q0, q2, g, c, e, fun h6 => own_kept (hr h6) al (Nat.le_refl _)⟩)), (by rw [f4, t110]; exact I.s4), (fun _ => ⟨by rw [f4]; exact d4, w.heap.size, t111, fun _ => ⟨bl.size, Cells.new _ _ _⟩⟩), (by rw [f6, n6]; exact fun h => by cases h), (by rw [f7, t113]; exact I.s7), (by rw [f8, n8]; exact fun h => by cases h)⟩
    · have ho2 : some _ = some o := ho
      obtain rfl := Option.some.inj ho2
      have d3 : fl l 3 = true := dep ⟨3, Ground.data⟩ (by simp [ops29]) rfl
      have d5 : fl l 5 = true := dep ⟨5, Ground.data⟩ (by simp [ops29]) rfl
      have n8 : fl l 8 = false := by
        cases h : fl l 8 with
        | false => rfl
        | true => exact absurd ((I.s8 h).1) (by rw [hfi]; decide)
      have bl := I.bel n8
      obtain ⟨d0, d2, g1, c1, e1, ho1⟩ := I.s3 d3
      have own1 := ho1 hfi
      obtain ⟨d4, B5, e5, h5⟩ := I.s5 d5
      obtain ⟨l5, cB5⟩ := h5 hfi
      refine wpOp29 ho rfl (go_append rfl rfl (sl g1 n c1) n cf (ev 109 _ e1) (rowBase own1 (Nat.zero_le _)) ⟨B5, 0, none⟩ 1 1 [.string x, .string y] (ev 111 _ e5) rfl (cells29 cB5) (by intro u hu; simp at hu; rcases hu with rfl | rfl <;> rfl) (by omega) ?_)
      intro v' w' o2 gr bk
      obtain ⟨g2, c2, rfl, lo2, own2⟩ := after29 (lo := W3.heap.size) o2 bk (own1.lt g1 rfl).1 bl.size
      show Reg a0 W3 nb n fv cf x y (l.setIfInBounds 6 true) (a.put (some 112) (sl g2 (n + 1) c2)) w'
      have f0 : fl (l.setIfInBounds 6 true) 0 = fl l 0 := by rw [FL, if_neg (by decide)]
      have f1 : fl (l.setIfInBounds 6 true) 1 = fl l 1 := by rw [FL, if_neg (by decide)]
      have f2 : fl (l.setIfInBounds 6 true) 2 = fl l 2 := by rw [FL, if_neg (by decide)]
      have f3 : fl (l.setIfInBounds 6 true) 3 = fl l 3 := by rw [FL, if_neg (by decide)]
      have f4 : fl (l.setIfInBounds 6 true) 4 = fl l 4 := by rw [FL, if_neg (by decide)]
      have f5 : fl (l.setIfInBounds 6 true) 5 = fl l 5 := by rw [FL, if_neg (by decide)]
      have f6 : fl (l.setIfInBounds 6 true) 6 = true := by rw [FL, if_pos rfl]
      have f7 : fl (l.setIfInBounds 6 true) 7 = fl l 7 := by rw [FL, if_neg (by decide)]
      have f8 : fl (l.setIfInBounds 6 true) 8 = fl l 8 := by rw [FL, if_neg (by decide)]
      have t106 : (a.put (some 112) (sl g2 (n + 1) c2)).tmps[106]? = a.tmps[106]? := by rw [TM _ _ (by decide), if_neg (by decide)]
      have t107 : (a.put (some 112) (sl g2 (n + 1) c2)).tmps[107]? = a.tmps[107]? := by rw [TM _ _ (by decide), if_neg (by decide)]
      have t108 : (a.put (some 112) (sl g2 (n + 1) c2)).tmps[108]? = a.tmps[108]? := by rw [TM _ _ (by decide), if_neg (by decide)]
      have t109 : (a.put (some 112) (sl g2 (n + 1) c2)).tmps[109]? = a.tmps[109]? := by rw [TM _ _ (by decide), if_neg (by decide)]
      have t110 : (a.put (some 112) (sl g2 (n + 1) c2)).tmps[110]? = a.tmps[110]? := by rw [TM _ _ (by decide), if_neg (by decide)]
      have t111 : (a.put (some 112) (sl g2 (n + 1) c2)).tmps[111]? = a.tmps[111]? := by rw [TM _ _ (by decide), if_neg (by decide)]
      have t112 : (a.put (some 112) (sl g2 (n + 1) c2)).tmps[112]? = some (sl g2 (n + 1) c2) := by rw [TM _ _ (by decide), if_pos rfl]
      have t113 : (a.put (some 112) (sl g2 (n + 1) c2)).tmps[113]? = a.tmps[113]? := by rw [TM _ _ (by decide), if_neg (by decide)]
      exact ⟨I.dfr, (size29 _ _ _).trans I.sz, fun j hj => by rw [TM _ _ (by decide), if_neg (by omega)]; exact I.frm j hj, (fun _ => bl.grown gr bl.size (fun k hk => by cases hk; exact (own1.lt g1 rfl).1)), (by rw [f0, t106, f3, d3]; exact fun h => (by obtain ⟨B, e, _⟩ := I.s0 h; exact ⟨B, e, fun q => by cases q⟩)), (by rw [f1, t107]; exact I.s1), (by rw [f2, t108]; exact I.s2), (by rw [f3, f0, f2, t109]; exact fun _ => ⟨d0, d2, g1, c1, e1, fun q => by rw [f6] at q; cases q⟩), (by rw [f4, t110]; exact I.s4), (by rw [f5, f4, t111]; exact fun _ => ⟨d4, B5, e5, fun q => by rw [f6] at q; cases q⟩), (fun _ => ⟨by rw [f3]; exact d3, by rw [f5]; exact d5, g2, c2, t112, fun _ => own2⟩), (by rw [f7, t113]; exact I.s7), (by rw [f8, n8]; exact fun h => by cases h)⟩
    · have ho2 : some _ = some o := ho
      obtain rfl := Option.some.inj ho2
      refine wpOp29 ho rfl (go_faddr rfl e9 ?_)
      show Reg a0 W3 nb n fv cf x y (l.setIfInBounds 7 true) (a.put (some 113) (.pointer (some ⟨nb, 2, none⟩))) w
      have f0 : fl (l.setIfInBounds 7 true) 0 = fl l 0 := by rw [FL, if_neg (by decide)]
      have f1 : fl (l.setIfInBounds 7 true) 1 = fl l 1 := by rw [FL, if_neg (by decide)]
      have f2 : fl (l.setIfInBounds 7 true) 2 = fl l 2 := by rw [FL, if_neg (by decide)]
      have f3 : fl (l.setIfInBounds 7 true) 3 = fl l 3 := by rw [FL, if_neg (by decide)]
      have f4 : fl (l.setIfInBounds 7 true) 4 = fl l 4 := by rw [FL, if_neg (by decide)]
      have f5 : fl (l.setIfInBounds 7 true) 5 = fl l 5 := by rw [FL, if_neg (by decide)]
      have f6 : fl (l.setIfInBounds 7 true) 6 = fl l 6 := by rw [FL, if_neg (by decide)]
      have f7 : fl (l.setIfInBounds 7 true) 7 = true := by rw [FL, if_pos rfl]
      have f8 : fl (l.setIfInBounds 7 true) 8 = fl l 8 := by rw [FL, if_neg (by decide)]
      have t106 : (a.put (some 113) (.pointer (some ⟨nb, 2, none⟩))).tmps[106]? = a.tmps[106]? := by rw [TM _ _ (by decide), if_neg (by decide)]
      have t107 : (a.put (some 113) (.pointer (some ⟨nb, 2, none⟩))).tmps[107]? = a.tmps[107]? := by rw [TM _ _ (by decide), if_neg (by decide)]
      have t108 : (a.put (some 113) (.pointer (some ⟨nb, 2, none⟩))).tmps[108]? = a.tmps[108]? := by rw [TM _ _ (by decide), if_neg (by decide)]
      have t109 : (a.put (some 113) (.pointer (some ⟨nb, 2, none⟩))).tmps[109]? = a.tmps[109]? := by rw [TM _ _ (by decide), if_neg (by decide)]
      have t110 : (a.put (some 113) (.pointer (some ⟨nb, 2, none⟩))).tmps[110]? = a.tmps[110]? := by rw [TM _ _ (by decide), if_neg (by decide)]
      have t111 : (a.put (some 113) (.pointer (some ⟨nb, 2, none⟩))).tmps[111]? = a.tmps[111]? := by rw [TM _ _ (by decide), if_neg (by decide)]
      have t112 : (a.put (some 113) (.pointer (some ⟨nb, 2, none⟩))).tmps[112]? = a.tmps[112]? := by rw [TM _ _ (by decide), if_neg (by decide)]
      have t113 : (a.put (some 113) (.pointer (some ⟨nb, 2, none⟩))).tmps[113]? = some (.pointer (some ⟨nb, 2, none⟩)) := by rw [TM _ _ (by decide), if_pos rfl]
      exact ⟨I.dfr, (size29 _ _ _).trans I.sz, fun j hj => by rw [TM _ _ (by decide), if_neg (by omega)]; exact I.frm j hj, (by rw [f8]; exact I.bel), (by rw [f0, f3, f5, t106, t111]; exact I.s0), (by rw [f1, t107]; exact I.s1), (by rw [f2, t108]; exact I.s2), (by rw [f3, f0, f2, t109, f6]; exact I.s3), (by rw [f4, t110]; exact I.s4), (by rw [f5, f4, t111, f6]; exact I.s5), (by rw [f6, f3, f5, t112, f8]; exact I.s6), (fun _ => t113), (by rw [f8, f6]; exact I.s8)⟩
    · have ho2 : some _ = some o := ho
      obtain rfl := Option.some.inj ho2
      have d7 : fl l 7 = true := dep ⟨7, Ground.data⟩ (by simp [ops29]) rfl
      have d6 : fl l 6 = true := dep ⟨6, Ground.data⟩ (by simp [ops29]) rfl
      have bl := I.bel hfi
      obtain ⟨d3, d5, g2, c2, e2, ho2'⟩ := I.s6 d6
      have own2 := ho2' hfi
      have hv := cells_kept hVB bl hVB.lt
      refine wpOp29 ho rfl (go_store1 rfl (ev 113 _ (I.s7 d7)) (ev 112 _ e2) (hv.cell 2) (hv.frozen 2) ?_)
      show Reg a0 W3 nb n fv cf x y (l.setIfInBounds 8 true) a (w.setCell ⟨nb, 2, none⟩ (sl g2 (n + 1) c2))
      have f0 : fl (l.setIfInBounds 8 true) 0 = fl l 0 := by rw [FL, if_neg (by decide)]
      have f1 : fl (l.setIfInBounds 8 true) 1 = fl l 1 := by rw [FL, if_neg (by decide)]
      have f2 : fl (l.setIfInBounds 8 true) 2 = fl l 2 := by rw [FL, if_neg (by decide)]
      have f3 : fl (l.setIfInBounds 8 true) 3 = fl l 3 := by rw [FL, if_neg (by decide)]
      have f4 : fl (l.setIfInBounds 8 true) 4 = fl l 4 := by rw [FL, if_neg (by decide)]
      have f5 : fl (l.setIfInBounds 8 true) 5 = fl l 5 := by rw [FL, if_neg (by decide)]
      have f6 : fl (l.setIfInBounds 8 true) 6 = fl l 6 := by rw [FL, if_neg (by decide)]
      have f7 : fl (l.setIfInBounds 8 true) 7 = fl l 7 := by rw [FL, if_neg (by decide)]
      have f8 : fl (l.setIfInBounds 8 true) 8 = true := by rw [FL, if_pos rfl]
      exact ⟨I.dfr, I.sz, I.frm, (by rw [f8]; exact fun h => by cases h), (by rw [f0, f3, d3]; exact fun h => (by obtain ⟨B, e, _⟩ := I.s0 h; exact ⟨B, e, fun q => by cases q⟩)), (by rw [f1]; exact I.s1), (by rw [f2]; exact I.s2), (by rw [f3, f0, f2, f6, d6]; exact fun h => (by obtain ⟨q0, q2, g, c, e, _⟩ := I.s3 h; exact ⟨q0, q2, g, c, e, fun q => by cases q⟩)), (by rw [f4]; exact I.s4), (by rw [f5, f4, f6, d6]; exact fun h => (by obtain ⟨q4, B6, e7, _⟩ := I.s5 h; exact ⟨q4, B6, e7, fun q => by cases q⟩)), (by rw [f6, f3, f5, f8]; exact fun _ => ⟨d3, d5, g2, c2, e2, fun q => by cases q⟩), (by rw [f7]; exact I.s7), (fun _ => ⟨by rw [f6]; exact d6, w, g2, c2, bl, own2, rfl⟩)⟩
theorem frame29 (t0 t : Array Value) (hs : t.size = t0.size) (h : ∀ j, (j < 106 ∨ 113 < j) → t[j]? = t0[j]?) :
    ∃ x0 x1 x2 x3 x4 x5 x6 x7, t = (((((((t0.setIfInBounds 106 x0).setIfInBounds 107 x1).setIfInBounds 108 x2).setIfInBounds 109 x3).setIfInBounds 110 x4).setIfInBounds 111 x5).setIfInBounds 112 x6).setIfInBounds 113 x7 := by
  refine ⟨t.getD 106 undef, t.getD 107 undef, t.getD 108 undef, t.getD 109 undef, t.getD 110 undef, t.getD 111 undef, t.getD 112 undef, t.getD 113 undef, ?_⟩
  apply Array.ext_getElem?
  intro j
  simp only [Array.getElem?_setIfInBounds, Array.size_setIfInBounds]
  by_cases hj : j < 106 ∨ 113 < j
  · rw [h j hj]
    rw [if_neg (by omega), if_neg (by omega), if_neg (by omega), if_neg (by omega), if_neg (by omega), if_neg (by omega), if_neg (by omega), if_neg (by omega)]
  · have key : ∀ k : Nat, t[k]? = if k < t0.size then some (t[k]?.getD undef) else none := by
      intro k
      rw [← hs]
      by_cases hk : k < t.size
      · rw [if_pos hk, Array.getElem?_eq_getElem hk]; rfl
      · rw [if_neg hk, Array.getElem?_eq_none (by omega)]
    rcases (by omega : j = 106 ∨ j = 107 ∨ j = 108 ∨ j = 109 ∨ j = 110 ∨ j = 111 ∨ j = 112 ∨ j = 113) with rfl | rfl | rfl | rfl | rfl | rfl | rfl | rfl <;> (simp; exact key _)
/-- The region, its slots spelled out. -/
theorem region29x (a0 : Act) (W3 : World) (nb fb n : Nat) (fv : Value) (cf : List Value) (x y : ByteArray) (Q : Exit → Act → World → Prop) (k0 k1 : Value)
    (h9 : a0.tmps[9]? = some (.pointer (some ⟨nb, 0, none⟩))) (h13 : a0.tmps[13]? = some (.pointer (some ⟨fb, 0, none⟩))) (hsz : 114 ≤ a0.tmps.size)
    (hVB : Cells W3 nb 47 #[k0, k1, fv]) (hFB : Cells W3 fb 73 #[.string x, .string y])
    (hrow : W3.ownsRow 0 73 2 fv n cf) (h1 : ∀ u ∈ cf, u.oneCell' = true) (hn : n ≤ 100000)
    (hQ : ∀ x0 x1 x2 x3 x4 x5 x6 x7 w2 g c, Below W3.heap.size W3 w2 → w2.ownsRow W3.heap.size 73 2 (sl g (n + 1) c) (n + 1) (cf ++ [.string x, .string y]) → Q .normal { tmps := (((((((a0.tmps.setIfInBounds 106 x0).setIfInBounds 107 x1).setIfInBounds 108 x2).setIfInBounds 109 x3).setIfInBounds 110 x4).setIfInBounds 111 x5).setIfInBounds 112 x6).setIfInBounds 113 x7, defers := a0.defers } (w2.setCell ⟨nb, 2, none⟩ (sl g (n + 1) c))) :
    (Code.region 29 ops29 true).wp Tryz.prog Q a0 W3 := by
  refine region29 a0 W3 nb fb n fv cf x y Q k0 k1 h9 h13 hsz hVB hFB hrow h1 hn ?_
  intro a w2 g c d1 d2 d3 b o
  have hx := frame29 a0.tmps a.tmps d2 d3
  have ha : a = { tmps := a.tmps, defers := a0.defers } := by rw [← d1]
  rw [ha]
  generalize a.tmps = tm at *
  refine hx.elim fun x0 hx => hx.elim fun x1 hx => hx.elim fun x2 hx => hx.elim fun x3 hx => hx.elim fun x4 hx => hx.elim fun x5 hx => hx.elim fun x6 hx => hx.elim fun x7 e => ?_
  rw [e]
  exact hQ x0 x1 x2 x3 x4 x5 x6 x7 w2 g c b o
end Go.Proofs.YtiebbgbcojgeoaaGreatDoor

namespace Go.Proofs.YtiebbgbcojgeoaaGreatDoor
open Go.RowKit Go.Shelf
attribute [local go_sem] Oper.semAt_some

def cellAt (b i : Nat) (W : World) : Value := match W.cell? ⟨b, i, none⟩ with | some v => v | none => undef
set_option maxRecDepth 100000 in
theorem ret_stz {fn : Func} {p : Tmp} (h : fn.results = #[.cell p 63]) (tmps : Array Value) (w : World) (b : Nat) (cur : Array Value) (hp : tmps.getD p undef = .pointer (some ⟨b, 0, none⟩))
    (hc : Cells w b 63 cur) (hz : cur.size = 2) : (results fn tmps).run Tryz.prog w = .ok (.agg cur) w := by
  have L := run_loadVar_row (P := Tryz.prog) w b 63 63 cur (0, 0) _ hc Tryz.underlying63 rfl (by rw [hz]; kernel_rfl)
  rw [results_cell1 h, hp]
  show (loadVar _ _).run _ _ = _
  exact L
set_option maxRecDepth 100000 in
set_option maxHeartbeats 4000000 in
theorem stanza7_any (p : Pr) (w : World) (h : FldR w p.2 p.1.1.fields) (hn : p.1.1.fields.length ≤ 1000000) :
    Calls Tryz.prog 73 #[entV p] w fun e w' => ∃ x, e = .returned (.agg #[.int .i64 p.1.2, x]) ∧ w'.ownsRow w.heap.size 73 2 x p.1.1.fields.length (cellsF p.1.1.fields) ∧ Below w.heap.size w w' := by
  obtain ⟨⟨⟨kd, raw, fs⟩, num⟩, fv⟩ := p
  dsimp only at h hn ⊢
  obtain ⟨fa, fc, rfl⟩ := h.form
  unfold entV
  dsimp only
  generalize B raw = rw_ at *
  have hb2 : Below w.heap.size w ((w.alloc (.cells #[.int .i64 kd, .string rw_, .slice fa fs.length fc, .int .i64 num] 100)).alloc (.cells #[.int .i64 0, .slice none 0 0] 63)) := ((Below.refl _ w).alloc (Nat.le_refl _) _).alloc (by simp) _
  have BX := Lib.hid ((Cells.new w 100 #[.int .i64 kd, .string rw_, .slice fa fs.length fc, .int .i64 num]).alloc (.cells #[.int .i64 0, .slice none 0 0] 63))
  have BR := Lib.hid (Cells.new (w.alloc (.cells #[.int .i64 kd, .string rw_, .slice fa fs.length fc, .int .i64 num] 100)) 63 #[.int .i64 0, .slice none 0 0])
  go_enter Tryz.func73, Tryz.ntmps73
  go_wp2_with fail
  obtain ⟨w1, hw1⟩ : ∃ w1, w1 = ((w.alloc (.cells #[.int .i64 kd, .string rw_, .slice fa fs.length fc, .int .i64 num] 100)).alloc (.cells #[.int .i64 0, .slice none 0 0] 63)) := ⟨_, rfl⟩
  have hz1 : w1.heap.size = w.heap.size + 2 := by rw [hw1]; simp
  rw [← hw1] at hb2 BX BR ⊢
  clear hw1
  have hf1 := h.below hb2 (Nat.le_refl _)
  have CL := Lib.hid (fun (W : World) (hB : Below w1.heap.size w1 W) => clone_any fs (.slice fa fs.length fc) W (hf1.1.below hB (Nat.le_refl _)) hf1.2 hn)
  rw [World.size_alloc] at BR
  have HS := Lib.hid (show ∀ W, Below w1.heap.size w1 W → (Below w1.heap.size w1 W ∧ W.cell? ⟨w.heap.size, 2, none⟩ = some (.slice fa fs.length fc) ∧ W.cell? ⟨w.heap.size, 3, none⟩ = some (.int .i64 num) ∧ W.cell? ⟨w.heap.size + 1, 0, none⟩ = some (.int .i64 0) ∧ W.cell? ⟨w.heap.size + 1, 1, none⟩ = some (.slice none 0 0) ∧ W.frozen? ⟨w.heap.size + 1, 0, none⟩ = false ∧ W.frozen? ⟨w.heap.size + 1, 1, none⟩ = false) from fun W hB =>
    have hX := cells_kept BX.out hB (by omega)
    have hY := cells_kept BR.out hB (by omega)
    ⟨hB, hX.cell 2, hX.cell 3, hY.cell 0, hY.cell 1, hY.frozen 0, hY.frozen 1⟩)
  clear h hf1
  obtain ⟨_, q2, q3, r0, r1, s0, s1⟩ := HS.out w1 (Below.refl _ _)
  have HB2 := Lib.hid hb2
  go_region_law (first | (go_simp; go_at_call 64; refine (CL.out _ (Below.refl _ _).drew).mono ?_; rintro e w5 ⟨x, rfl, hx, hb5⟩; obtain ⟨xa, xc, rfl, _⟩ := own_slice hx; obtain ⟨_, q2', q3', r0', r1', s0', s1'⟩ := HS.out w5 ((Below.refl _ w1).drew.trans hb5)))
  all_goals go_wp2_with fail
  all_goals
    have hdz : w1.drew.heap.size = w.heap.size + 2 := hz1
    have hz5 := hb5.size
    have R2 := cells_kept BR.out ((Below.refl _ w1).drew.trans hb5) (by omega)
    have RE := (R2.set 0 (.int .i64 num)).set 1 (.slice xa fs.length xc)
    have e2 : ((#[Value.int .i64 0, Value.slice none 0 0].setIfInBounds 0 (.int .i64 num)).setIfInBounds 1 (.slice xa fs.length xc)) = #[.int .i64 num, .slice xa fs.length xc] := by simp [List.setIfInBounds_toArray, List.set]
    rw [e2] at RE
    have hne : ∀ k, k < w.heap.size + 2 → (Value.slice xa fs.length xc).ownBlock ≠ some k := fun k hk e => by
      have := (hx.lt k e).1
      omega
    refine bodyPost_ret (ret_stz rfl _ _ (w.heap.size + 1) _ rfl RE rfl) rfl ?_
    refine ⟨_, rfl, rowBase (base := w1.drew.heap.size) (row_cell (p := ⟨w.heap.size + 1, 1, none⟩) (row_cell (p := ⟨w.heap.size + 1, 0, none⟩) hx (hne (w.heap.size + 1) (by omega)) _) (hne (w.heap.size + 1) (by omega)) _) (by omega), ?_⟩
    · exact ((HB2.out.drew.trans (hb5.mono (show w.heap.size ≤ w1.drew.heap.size by omega))).setCell (p := ⟨w.heap.size + 1, 0, none⟩) (by show w.heap.size ≤ w.heap.size + 1; omega) _).setCell (p := ⟨w.heap.size + 1, 1, none⟩) (by show w.heap.size ≤ w.heap.size + 1; omega) _

def opsS : Array Oper := #[{ dst := some 11, op := Op.load 60 (Operand.tmp 3), type := 60, pos := "list.go:96", after := #[], guard := none }, { dst := some 12, op := Op.load 100 (Operand.tmp 5), type := 100, pos := "list.go:96", after := #[], guard := none },
  { dst := some 13, op := Op.call { callee := Callee.value (Operand.func 73), args := #[Operand.tmp 12], argTypes := #[100] }, type := 63, pos := "list.go:96", after := #[{ on := 1, ground := Ground.data }], guard := none },
  { dst := some 14, op := Op.buildSlice 60 1 #[(0, Operand.tmp 13)], type := 60, pos := "list.go:96", after := #[{ on := 2, ground := Ground.data }], guard := none },
  { dst := some 15, op := Op.call { callee := Callee.builtin Builtin.append, args := #[Operand.tmp 11, Operand.tmp 14], argTypes := #[60, 60] }, type := 60, pos := "list.go:96", after := #[{ on := 0, ground := Ground.data }, { on := 3, ground := Ground.data }, { on := 2, ground := Ground.chain }], guard := none },
  { dst := none, op := Op.store 60 (Operand.tmp 3) (Operand.tmp 15), type := 0, pos := "list.go:96", after := #[{ on := 4, ground := Ground.data }, { on := 4, ground := Ground.chain }, { on := 0, ground := Ground.phase }, { on := 1, ground := Ground.phase }, { on := 2, ground := Ground.phase }, { on := 3, ground := Ground.phase }, { on := 4, ground := Ground.phase }], guard := none }]
theorem doneS : ∀ b0 b1 b2 b3 b4 b5 : Bool, Region.ready .any opsS #[b0, b1, b2, b3, b4, b5] = [] → b5 = true := by decide +kernel
theorem infoStz : (Tryz.prog.info? 63).map (fun i => (i.zero, i.size, i.bytes)) = some (some (.agg #[.int .i64 0, .slice none 0 0]), 2, 32) := by kernel_rfl
theorem evS {a : Act} {i : Nat} {v : Value} (h : a.tmps[i]? = some v) : a.eval (.tmp i) = v := by
  show a.tmps.getD i undef = v
  rw [Array.getD_eq_getD_getElem?, h]; rfl
theorem putS {a : Act} {d : Nat} {v : Value} (hd : d < a.tmps.size) (j : Nat) : (a.put (some d) v).tmps[j]? = if j = d then some v else a.tmps[j]? := by
  show (a.tmps.setIfInBounds d v)[j]? = _
  rw [Array.getElem?_setIfInBounds]
  by_cases h : d = j
  · subst h; simp [hd]
  · rw [if_neg h, if_neg (Ne.symm h)]
theorem putS_size (a : Act) (d : Nat) (v : Value) : (a.put (some d) v).tmps.size = a.tmps.size := by show (a.tmps.setIfInBounds d v).size = _; simp
/-- Which operations are done: the load of what there is (z), of the others the first c. -/
def flagS (c : Nat) (z : Bool) : Array Bool := #[z, decide (0 < c), decide (1 < c), decide (2 < c), decide (3 < c), decide (4 < c)]
/-- What is known behind the first c of the others. -/
def FactS (W0 : World) (sb lo n : Nat) (p : Pr) (v0 : Value) (xs : List Value) (a : Act) (w : World) : Nat → Prop
  | 0 => Below W0.heap.size W0 w
  | 1 => Below W0.heap.size W0 w ∧ a.tmps[12]? = some (entV p)
  | 2 => Below W0.heap.size W0 w ∧ ∃ x, a.tmps[13]? = some (.agg #[.int .i64 p.1.2, x]) ∧ w.ownsRow W0.heap.size 73 2 x p.1.1.fields.length (cellsF p.1.1.fields)
  | 3 => Below W0.heap.size W0 w ∧ ∃ x b, a.tmps[14]? = some (sl b 1 1) ∧ w.ownsRow W0.heap.size 73 2 x p.1.1.fields.length (cellsF p.1.1.fields) ∧ W0.heap.size ≤ b ∧ Cells w b 63 #[.int .i64 p.1.2, x]
  | 4 => ∃ x g c, a.tmps[15]? = some (sl g (n + 1) c) ∧ w.ownsRow W0.heap.size 73 2 x p.1.1.fields.length (cellsF p.1.1.fields) ∧ w.ownsRow lo 63 2 (sl g (n + 1) c) (n + 1) (xs ++ [.int .i64 p.1.2, x]) ∧ Only (fun r => v0.ownBlock = some r) W0 w
  | _ => ∃ x g c w2, w2.ownsRow W0.heap.size 73 2 x p.1.1.fields.length (cellsF p.1.1.fields) ∧ w2.ownsRow lo 63 2 (sl g (n + 1) c) (n + 1) (xs ++ [.int .i64 p.1.2, x]) ∧ Only (fun r => v0.ownBlock = some r) W0 w2 ∧ w = w2.setCell ⟨sb, 0, none⟩ (sl g (n + 1) c)
theorem FactS.below {W0 : World} {sb lo n : Nat} {p : Pr} {v0 : Value} {xs : List Value} {a : Act} {w : World} {c : Nat} (h : FactS W0 sb lo n p v0 xs a w c) (hc : c ≤ 3) : Below W0.heap.size W0 w := by
  match c, h with
  | 0, h => exact h
  | 1, h => exact h.1
  | 2, h => exact h.1
  | 3, h => exact h.1
  | n + 4, _ => omega
theorem FactS.put {W0 : World} {sb lo n : Nat} {p : Pr} {v0 : Value} {xs : List Value} {a : Act} {w : World} {c : Nat} (h : FactS W0 sb lo n p v0 xs a w c) (hs : 16 ≤ a.tmps.size) (v : Value) : FactS W0 sb lo n p v0 xs (a.put (some 11) v) w c := by
  have T := fun j => putS (a := a) (d := 11) (v := v) (by omega) j
  match c, h with
  | 0, h => exact h
  | 1, h => exact ⟨h.1, by rw [T, if_neg (by decide)]; exact h.2⟩
  | 2, h => obtain ⟨h1, x, h2, h3⟩ := h; exact ⟨h1, x, by rw [T, if_neg (by decide)]; exact h2, h3⟩
  | 3, h => obtain ⟨h1, x, b, h2, h3⟩ := h; exact ⟨h1, x, b, by rw [T, if_neg (by decide)]; exact h2, h3⟩
  | 4, h => obtain ⟨x, g, c, h2, h3⟩ := h; exact ⟨x, g, c, by rw [T, if_neg (by decide)]; exact h2, h3⟩
  | n + 5, h => exact h
structure RegS (a0 : Act) (W0 : World) (sb lo n : Nat) (p : Pr) (v0 : Value) (xs : List Value) (l : Array Bool) (a : Act) (w : World) : Prop where
  dfr : a.defers = a0.defers
  sz : a.tmps.size = a0.tmps.size
  frm : ∀ j, (j < 11 ∨ 15 < j) → a.tmps[j]? = a0.tmps[j]?
  st : ∃ c z, c ≤ 5 ∧ l = flagS c z ∧ (3 < c → z = true) ∧ (z = true → a.tmps[11]? = some v0) ∧ FactS W0 sb lo n p v0 xs a w c
theorem wpOpS {Q : Exit → Act → World → Prop} {K : Act → World → Prop} {a : Act} {w : World} {i : Nat} {o : Oper} (ho : opsS[i]? = some o) (hg : o.guard = none) (h : Oper.wp Tryz.prog o a w K Q) : wpOp Tryz.prog opsS Q i K a w := by
  unfold wpOp
  rw [ho]
  show (if Region.wanted o (yielded opsS a.tmps) = true then _ else _)
  rw [if_pos (by simp [Region.wanted, hg])]
  exact .inl h
theorem opS_load1 {o : Oper} {a : Act} {w : World} {K : Act → World → Prop} {Q : Exit → Act → World → Prop} {x : Operand} {p : Addr} {v : Value} (ho : o.op = Op.load 60 x) (hx : a.eval x = .pointer (some p)) (hc : w.cell? p = some v) (hK : K (a.put o.dst v) w) : Oper.wp Tryz.prog o a w K Q := by
  unfold Oper.wp
  have e : (execOp a.eval o).run Tryz.prog w = .ok (.value v) w := by
    simp only [execOp, ho, hx]
    simp [go_sem, Result.andThen, hc]
  rw [e]; exact hK
theorem opS_load4 {o : Oper} {a : Act} {w : World} {K : Act → World → Prop} {Q : Exit → Act → World → Prop} {x : Operand} {b : Nat} {u0 u1 u2 u3 : Value} (ho : o.op = Op.load 100 x) (hx : a.eval x = .pointer (some ⟨b, 0, none⟩)) (c0 : w.cell? ⟨b, 0, none⟩ = some u0) (c1 : w.cell? ⟨b, 1, none⟩ = some u1) (c2 : w.cell? ⟨b, 2, none⟩ = some u2) (c3 : w.cell? ⟨b, 3, none⟩ = some u3) (hK : K (a.put o.dst (.agg #[u0, u1, u2, u3])) w) : Oper.wp Tryz.prog o a w K Q := by
  unfold Oper.wp
  have e : (execOp a.eval o).run Tryz.prog w = .ok (.value (.agg #[u0, u1, u2, u3])) w := by
    simp only [execOp, ho, hx]
    simp [go_sem, Result.andThen, c0, c1, c2, c3]
  rw [e]; exact hK
theorem opS_call {o : Oper} {a : Act} {w : World} {K : Act → World → Prop} {Q : Exit → Act → World → Prop} {x : Operand} {u : Value} (ho : o.op = Op.call { callee := Callee.value (Operand.func 73), args := #[x], argTypes := #[100] }) (hx : a.eval x = u) {R : Ending → World → Prop}
    (hC : Calls Tryz.prog 73 #[u] w R) (hR : ∀ e w', R e w' → ∃ v, e = .returned v ∧ K (a.put o.dst v) w') : Oper.wp Tryz.prog o a w K Q := by
  unfold Oper.wp
  have e : (execOp a.eval o).run Tryz.prog w = .ok (.enter 73 #[u]) w := by
    have hf : a.eval (.func 73) = .func (.func 73) #[] #[] := rfl
    generalize a.eval = ρ at hx hf ⊢
    have en : ∀ args w, (callFunc 73 args).run Tryz.prog w = .ok (.enter 73 args) w := enters_of (P := Tryz.prog) Tryz.func73 (by kernel_rfl) rfl
    simp only [execOp, ho]
    simp [go_sem, resolve, invoke, hx, hf, en]
  rw [e]
  refine hC.mono ?_
  intro e w' h
  obtain ⟨v, rfl, hK⟩ := hR e w' h
  exact hK
theorem opS_lit {o : Oper} {a : Act} {w : World} {K : Act → World → Prop} {Q : Exit → Act → World → Prop} {x : Operand} {n : Int} {fa : Option Addr} {m c : Nat} (ho : o.op = Op.buildSlice 60 1 #[(0, x)]) (hx : a.eval x = .agg #[.int .i64 n, .slice fa m c]) (hK : K (a.put o.dst (sl w.heap.size 1 1)) (w.alloc (.cells #[.int .i64 n, .slice fa m c] 63))) : Oper.wp Tryz.prog o a w K Q := by
  unfold Oper.wp
  have e : (execOp a.eval o).run Tryz.prog w = .ok (.value (sl w.heap.size 1 1)) (w.alloc (.cells #[.int .i64 n, .slice fa m c] 63)) := by
    simp only [execOp, ho]
    rw [show (Array.map (fun (p : Nat × Operand) => match p with | (i, x) => (i, a.eval x)) #[((0 : Nat), x)]) = #[((0 : Nat), Value.agg #[.int .i64 n, .slice fa m c])] from by rw [← hx]; simp]
    kernel_rfl
  rw [e]; exact hK
theorem opS_store {o : Oper} {a : Act} {w : World} {K : Act → World → Prop} {Q : Exit → Act → World → Prop} {x y : Operand} {p : Addr} {u : Value} {g n c : Nat} (ho : o.op = Op.store 60 x y) (hx : a.eval x = .pointer (some p)) (hy : a.eval y = sl g n c) (hc : w.cell? p = some u) (hf : w.frozen? p = false) (hK : K (a.put o.dst undef) (w.setCell p (sl g n c))) : Oper.wp Tryz.prog o a w K Q := by
  unfold Oper.wp
  have e : (execOp a.eval o).run Tryz.prog w = .ok .skip (w.setCell p (sl g n c)) := by
    simp only [execOp, ho, hx, hy]
    simp [go_sem, Result.andThen, hc, hf, sl]
  rw [e]; exact hK
set_option maxRecDepth 100000 in
set_option maxHeartbeats 4000000 in
theorem region_stz (a0 : Act) (W0 : World) (sb eb lo n : Nat) (p : Pr) (fa : Option Addr) (fc : Nat) (v0 : Value) (xs : List Value) (Q : Exit → Act → World → Prop)
    (h3 : a0.tmps[3]? = some (ptr sb)) (h5 : a0.tmps[5]? = some (ptr eb)) (hsz : 16 ≤ a0.tmps.size) (hSB : Boxed W0 sb 60 v0) (hEB : Cells W0 eb 100 #[.int .i64 p.1.1.kind, .string (B p.1.1.raw), p.2, .int .i64 p.1.2])
    (hfv : p.2 = .slice fa p.1.1.fields.length fc) (hfr : FldR W0 p.2 p.1.1.fields) (hfn : p.1.1.fields.length ≤ 1000000) (hrow : W0.ownsRow lo 63 2 v0 n xs) (hlo : lo ≤ W0.heap.size) (hn : n ≤ 1000000)
    (hQ : ∀ a x g c w2, a.defers = a0.defers → a.tmps.size = a0.tmps.size → (∀ j, (j < 11 ∨ 15 < j) → a.tmps[j]? = a0.tmps[j]?) → w2.ownsRow W0.heap.size 73 2 x p.1.1.fields.length (cellsF p.1.1.fields) → w2.ownsRow lo 63 2 (sl g (n + 1) c) (n + 1) (xs ++ [.int .i64 p.1.2, x]) → Only (fun r => v0.ownBlock = some r) W0 w2 → Q .normal a (w2.setCell ⟨sb, 0, none⟩ (sl g (n + 1) c))) :
    wpAny Tryz.prog .any opsS Q opsS.size (Array.replicate opsS.size false) a0 W0.drew := by
  obtain ⟨i0, hi, hz0, hz1, hz2⟩ := info_parts infoStz
  have hsb : v0.ownBlock ≠ some sb := by
    intro e
    rcases hrow.2 with ⟨rfl, _⟩ | ⟨g, cap, cur, rfl, _, hg, _⟩
    · cases e
    · have : g = sb := Option.some.inj e
      subst this
      have := hg.symm.trans hSB
      simp at this
  refine wpAny_inv (RegS a0 W0 sb lo n p v0 xs) ?step ?done opsS.size _ a0 _ ?start (by simp) (by unfold todo; simp)
  case start => exact ⟨rfl, rfl, fun _ _ => rfl, 0, false, by decide, rfl, fun h => absurd h (by decide), (fun h => by cases h), (Below.refl _ _).drew⟩
  case done =>
    rintro l a w ⟨d, s, f, c, z, hc, rfl, hz, hzv, hF⟩ hl hr
    have h5 := doneS _ _ _ _ _ _ hr
    have : c = 5 := by have := of_decide_eq_true h5; omega
    subst this
    obtain ⟨x, g, c, w2, r1, r2, r3, rfl⟩ := hF
    exact hQ a x g c w2 d s f r1 r2 r3
  case step =>
    rintro l i o a w ⟨d, s, f, c, z, hc, rfl, hz, hzv, hF⟩ hl ho hli he
    have hi6 : i < 6 := by
      rcases Nat.lt_or_ge i 6 with h | h
      · exact h
      · rw [Array.getElem?_eq_none (by exact h)] at ho; cases ho
    have dep : ∀ e ∈ o.after, Region.binds .any e = true → (flagS c z).getD e.on false = true := he
    have hsa : 16 ≤ a.tmps.size := by rw [s]; exact hsz
    have T := fun d v (hd : d < 16) => putS (a := a) (d := d) (v := v) (by omega)
    have e3 := evS ((f 3 (by omega)).trans h3)
    have e5 := evS ((f 5 (by omega)).trans h5)
    rcases (by omega : i = 0 ∨ i = 1 ∨ i = 2 ∨ i = 3 ∨ i = 4 ∨ i = 5) with rfl | rfl | rfl | rfl | rfl | rfl
    · have ho2 : some _ = some o := ho
      obtain rfl := Option.some.inj ho2
      have hz0 : z = false := hli
      subst hz0
      have hc3 : c ≤ 3 := by
        rcases Nat.lt_or_ge 3 c with h | h
        · exact absurd (hz h) (by decide)
        · exact h
      have bl := hF.below hc3
      refine wpOpS ho rfl (opS_load1 rfl e3 ((bl.cell (p := ⟨sb, 0, none⟩) hSB.lt).trans hSB.cell) ?_)
      show RegS a0 W0 sb lo n p v0 xs _ (a.put (some 11) v0) w
      exact ⟨d, (putS_size _ _ _).trans s, fun j hj => by rw [T _ _ (by decide), if_neg (by omega)]; exact f j hj, c, true, hc, rfl, fun _ => rfl, fun _ => by rw [T _ _ (by decide), if_pos rfl], hF.put hsa _⟩
    · have ho2 : some _ = some o := ho
      obtain rfl := Option.some.inj ho2
      have hc0 : c = 0 := by have : decide (0 < c) = false := hli; simpa using this
      subst hc0
      have bl : Below W0.heap.size W0 w := hF
      obtain ⟨b0, b1, b2, b3⟩ := entBox (hEB.below bl hEB.lt)
      refine wpOpS ho rfl (opS_load4 rfl e5 b0 b1 b2 b3 ?_)
      show RegS a0 W0 sb lo n p v0 xs _ (a.put (some 12) (entV p)) w
      exact ⟨d, (putS_size _ _ _).trans s, fun j hj => by rw [T _ _ (by decide), if_neg (by omega)]; exact f j hj, 1, z, by decide, rfl, fun h => absurd h (by decide), fun h => by rw [T _ _ (by decide), if_neg (by decide)]; exact hzv h, bl, by rw [T _ _ (by decide), if_pos rfl]⟩
    · have ho2 : some _ = some o := ho
      obtain rfl := Option.some.inj ho2
      have hc1 : c = 1 := by
        have h1 : decide (1 < c) = false := hli
        have h2 : decide (0 < c) = true := dep ⟨1, Ground.data⟩ (by simp [opsS]) rfl
        simp at h1 h2; omega
      subst hc1
      obtain ⟨bl, e12⟩ := hF
      refine wpOpS ho rfl (opS_call rfl (evS e12) (stanza7_any p w (hfr.below bl (Nat.le_refl _)) hfn) ?_)
      rintro e w' ⟨x, rfl, hx, hb⟩
      refine ⟨_, rfl, ?_⟩
      show RegS a0 W0 sb lo n p v0 xs _ (a.put (some 13) _) w'
      refine ⟨d, (putS_size _ _ _).trans s, fun j hj => by rw [T _ _ (by decide), if_neg (by omega)]; exact f j hj, 2, z, by decide, rfl, fun h => absurd h (by decide), fun h => by rw [T _ _ (by decide), if_neg (by decide)]; exact hzv h, bl.trans (hb.mono bl.size), x, by rw [T _ _ (by decide), if_pos rfl], rowBase hx bl.size⟩
    · have ho2 : some _ = some o := ho
      obtain rfl := Option.some.inj ho2
      have hc2 : c = 2 := by
        have h1 : decide (2 < c) = false := hli
        have h2 : decide (1 < c) = true := dep ⟨2, Ground.data⟩ (by simp [opsS]) rfl
        simp at h1 h2; omega
      subst hc2
      obtain ⟨bl, x, e13, hx⟩ := hF
      obtain ⟨xa, xc, rfl, _⟩ := own_slice hx
      refine wpOpS ho rfl (opS_lit rfl (evS e13) ?_)
      show RegS a0 W0 sb lo n p v0 xs _ (a.put (some 14) (sl w.heap.size 1 1)) _
      exact ⟨d, (putS_size _ _ _).trans s, fun j hj => by rw [T _ _ (by decide), if_neg (by omega)]; exact f j hj, 3, z, by decide, rfl, fun h => absurd h (by decide), fun h => by rw [T _ _ (by decide), if_neg (by decide)]; exact hzv h, bl.alloc bl.size _, _, w.heap.size, by rw [T _ _ (by decide), if_pos rfl], own_kept hx ((Below.refl _ _).alloc (Nat.le_refl _) _) (Nat.le_refl _), bl.size, Cells.new _ _ _⟩
    · have ho2 : some _ = some o := ho
      obtain rfl := Option.some.inj ho2
      have hc3 : c = 3 := by
        have h1 : decide (3 < c) = false := hli
        have h2 : decide (2 < c) = true := dep ⟨3, Ground.data⟩ (by simp [opsS]) rfl
        simp at h1 h2; omega
      subst hc3
      have hzt : z = true := dep ⟨0, Ground.data⟩ (by simp [opsS]) rfl
      subst hzt
      obtain ⟨bl, x, b, e14, hx, hb, hcb⟩ := hF
      have hrw := row_below hrow bl (Nat.le_refl _)
      have e11 := evS (hzv rfl)
      have hone : ∀ u ∈ [Value.int .i64 p.1.2, x], u.oneCell' = true := by
        intro u hu
        simp at hu
        rcases hu with rfl | rfl
        · rfl
        · obtain ⟨xa, xc, rfl, _⟩ := own_slice hx; rfl
      have happ := step_append_own (P := Tryz.prog) (ops := opsS) (o := _) (a := a) (w := w) (K := fun a' w' => RegS a0 W0 sb lo n p v0 xs ((flagS 3 true).setIfInBounds 4 true) a' w') (Q := Q) (E := True) rfl (.tmp 11) (.tmp 14) 60 (show (opsS[4]'(by decide)).op = _ from rfl) 63 i0 _ 2 32 Tryz.underlying60 hi hz0 hz1 hz2 rfl (by decide) v0 n xs e11 (rowBase hrw (Nat.zero_le _)) ⟨b, 0, none⟩ 1 1 [.int .i64 p.1.2, x] (evS e14) rfl (cells29 hcb) hone (by unfold maxLen; omega) (by omega) ?hK
      case hK =>
        intro v' w' ho' hg hbk
        obtain ⟨g', c', rfl⟩ := ownsRow_succ ho'
        have hx' : w'.ownsRow W0.heap.size 73 2 x p.1.1.fields.length (cellsF p.1.1.fields) := by
          refine row_same hx fun k hk => hg.block k (hx.lt k hk).2 (fun e => ?_)
          have h1 := (hx.lt k hk).1
          have h2 := (hrow.lt k e.symm).2
          omega
        have hlo' : w'.ownsRow lo 63 2 (.slice (some ⟨g', 0, none⟩) (n + 1) c') (n + 1) (xs ++ [.int .i64 p.1.2, x]) := by
          rcases ho'.2 with ⟨q, _⟩ | ⟨g2, cap2, cur2, q, _, rest⟩
          · cases q
          · cases q
            refine ⟨ho'.1, .inr ⟨g', c', cur2, rfl, ?_, rest⟩⟩
            rcases hbk with h | h
            · exact (hrow.lt g' h.symm).1
            · have : g' = w.heap.size := Option.some.inj h
              have := bl.size
              omega
        show RegS a0 W0 sb lo n p v0 xs _ (a.put (some 15) (sl g' (n + 1) c')) _
        exact ⟨d, (putS_size _ _ _).trans s, fun j hj => by rw [T _ _ (by decide), if_neg (by omega)]; exact f j hj, 4, true, by decide, rfl, fun _ => rfl, fun _ => by rw [T _ _ (by decide), if_neg (by decide)]; exact hzv rfl, x, g', c', by rw [T _ _ (by decide), if_pos rfl], hx', hlo', (Only.of_below bl (Nat.le_refl _)).grown hg (fun k hk => .inl hk)⟩
      rw [if_pos (show Region.wanted opsS[4] _ = true from rfl)] at happ
      exact wpOpS ho rfl happ
    · have ho2 : some _ = some o := ho
      obtain rfl := Option.some.inj ho2
      have hc4 : c = 4 := by
        have h1 : decide (4 < c) = false := hli
        have h2 : decide (3 < c) = true := dep ⟨4, Ground.data⟩ (by simp [opsS]) rfl
        simp at h1 h2; omega
      subst hc4
      obtain ⟨x, g, c, e15, r1, r2, r3⟩ := hF
      have hbx : Boxed w sb 60 v0 := (r3.same sb hSB.lt hsb).trans hSB
      refine wpOpS ho rfl (opS_store rfl e3 (evS e15) hbx.cell hbx.frozen ?_)
      exact ⟨d, s, f, 5, z, by decide, rfl, fun _ => hz (by decide), hzv, x, g, c, w, r1, r2, r3, rfl⟩
end Go.Proofs.YtiebbgbcojgeoaaGreatDoor

namespace Go.Proofs.YtiebbgbcojgeoaaGreatDoor
open Go.RowKit Go.Shelf
attribute [local go_sem] Oper.semAt_some

/-- A stanza: its number, its fields. -/
abbrev Stz := Int × List Fld
def stzCells : List Stz → List Value → List Value
  | s :: l, v :: vs => .int .i64 s.1 :: v :: stzCells l vs
  | _, _ => []
theorem stzCells_snoc : ∀ (l : List Stz) (vs : List Value) (s : Stz) (v : Value), vs.length = l.length → stzCells (l ++ [s]) (vs ++ [v]) = stzCells l vs ++ [.int .i64 s.1, v]
  | [], [], s, v, _ => rfl
  | [], _ :: _, _, _, h => by simp at h
  | a :: l, [], s, v, h => by simp at h
  | a :: l, u :: vs, s, v, h => by
    have := stzCells_snoc l vs s v (by simpa using h)
    simp only [List.cons_append, stzCells, this]
theorem stzCells_at : ∀ (l : List Stz) (vs : List Value) (i : Nat) (s : Stz) (v : Value), l[i]? = some s → vs[i]? = some v → (stzCells l vs)[i * 2]? = some (.int .i64 s.1) ∧ (stzCells l vs)[i * 2 + 1]? = some v
  | [], _, i, s, v, h, _ => by simp at h
  | a :: l, [], i, s, v, _, h => by simp at h
  | a :: l, u :: vs, 0, s, v, h, h' => by simp at h h'; subst h h'; exact ⟨rfl, rfl⟩
  | a :: l, u :: vs, i + 1, s, v, h, h' => by
    obtain ⟨x, y⟩ := stzCells_at l vs i s v (by simpa using h) (by simpa using h')
    have e : stzCells (a :: l) (u :: vs) = .int .i64 a.1 :: u :: stzCells l vs := rfl
    rw [e, show (i + 1) * 2 = i * 2 + 1 + 1 by omega]
    exact ⟨by simpa using x, by simpa using y⟩
/-- The stanzas so far, in new memory from lo on. -/
structure AccZ (lo : Nat) (w wr : World) (v : Value) (fvs : List Value) (rs : List Stz) : Prop where
  row : wr.ownsRow lo 63 2 v rs.length (stzCells rs fvs)
  len : fvs.length = rs.length
  each : ∀ (j : Nat) s x, rs[j]? = some s → fvs[j]? = some x → wr.ownsRow lo 73 2 x s.2.length (cellsF s.2)
  below : Below w.heap.size w wr
theorem AccZ.start (lo : Nat) (w wr : World) (hb : Below w.heap.size w wr) : AccZ lo w wr (.slice none 0 0) [] [] := ⟨⟨rfl, .inl ⟨rfl, rfl⟩⟩, rfl, fun j s x h => by simp at h, hb⟩
theorem AccZ.turned {lo B k : Nat} {w W W' : World} {v : Value} {fvs : List Value} {rs : List Stz} (h : AccZ lo w W v fvs rs) (ht : Turned B k W W') (hB : w.heap.size ≤ B) (hlo : B + k ≤ lo) : AccZ lo w W' v fvs rs :=
  ⟨ht.row h.row (fun b e => .inr (by have := (h.row.lt b e).1; omega)), h.len, fun j s x h1 h2 => ht.row (h.each j s x h1 h2) (fun b e => .inr (by have := ((h.each j s x h1 h2).lt b e).1; omega)), h.below.trans (ht.below hB h.below.size)⟩
theorem AccZ.alloc {lo : Nat} {w W : World} {v : Value} {fvs : List Value} {rs : List Stz} (h : AccZ lo w W v fvs rs) (o : Obj) : AccZ lo w (W.alloc o) v fvs rs :=
  have hb := (Below.refl W.heap.size W).alloc (Nat.le_refl _) o
  ⟨own_kept h.row hb (Nat.le_refl _), h.len, fun j s x h1 h2 => own_kept (h.each j s x h1 h2) hb (Nat.le_refl _), h.below.alloc h.below.size o⟩
theorem stz_ne {W : World} {lo n m : Nat} {v x : Value} {xs ys : List Value} (hv : W.ownsRow lo 63 2 v n xs) (hx : W.ownsRow lo 73 2 x m ys) : ∀ b, x.ownBlock = some b → ¬ v.ownBlock = some b := by
  intro b hb e
  rcases hx.2 with ⟨rfl, _⟩ | ⟨g, cap, cur, rfl, _, hc, _⟩
  · cases hb
  · cases hb
    rcases hv.2 with ⟨rfl, _⟩ | ⟨g', cap', cur', rfl, _, hc', _⟩
    · cases e
    · have : g' = g := Option.some.inj e
      subst this
      rw [hc] at hc'
      injection hc' with hc'
      injection hc' with _ h2 _
      exact absurd h2 (by decide)
theorem AccZ.snoc {lo : Nat} {w W w2 : World} {v : Value} {fvs : List Value} {rs : List Stz} {s : Stz} {x : Value} {g c : Nat} (h : AccZ lo w W v fvs rs) (hlo : w.heap.size ≤ lo) (hx : w2.ownsRow lo 73 2 x s.2.length (cellsF s.2)) (hr : w2.ownsRow lo 63 2 (sl g (rs.length + 1) c) (rs.length + 1) (stzCells rs fvs ++ [.int .i64 s.1, x]))
    (ho : Only (fun r => v.ownBlock = some r) W w2) : AccZ lo w w2 (sl g (rs.length + 1) c) (fvs ++ [x]) (rs ++ [s]) := by
  refine ⟨by rw [List.length_append, stzCells_snoc _ _ _ _ h.len]; exact hr, by simp [h.len], fun j y u hy hu => ?_, h.below.trans (ho.to_below h.below.size (fun r hr e => by have := (h.row.lt r e).1; omega))⟩
  rcases snoc_at hy with ⟨q, hy⟩ | ⟨q, rfl⟩
  · rw [List.getElem?_append_left (by rw [h.len]; exact q)] at hu
    exact row_only (h.each j y u hy hu) ho (stz_ne h.row (h.each j y u hy hu))
  · rw [q, ← h.len, List.getElem?_append_right (Nat.le_refl _)] at hu
    simp at hu
    subst hu; exact hx
/-- The stanzas of entries. -/
def stzL (xs : List (Nat × Pr)) : List Stz := xs.map fun x => (x.2.1.2, x.2.1.1.fields)
theorem stzL_snoc (xs : List (Nat × Pr)) (x : Nat × Pr) : stzL (xs ++ [x]) = stzL xs ++ [(x.2.1.2, x.2.1.1.fields)] := by unfold stzL; simp
theorem AccZ.set {lo : Nat} {w W : World} {v : Value} {fvs : List Value} {rs : List Stz} {b : Nat} (h : AccZ lo w W v fvs rs) (hb : b < lo) (hbw : w.heap.size ≤ b) (u : Value) : AccZ lo w (W.setCell ⟨b, 0, none⟩ u) v fvs rs :=
  ⟨row_cell h.row (fun e => by have := (h.row.lt b e).1; omega) _, h.len, fun j s x h1 h2 => row_cell (h.each j s x h1 h2) (fun e => by have := ((h.each j s x h1 h2).lt b e).1; omega) _, h.below.setCell (p := ⟨b, 0, none⟩) hbw _⟩
set_option maxRecDepth 100000 in
set_option maxHeartbeats 4000000 in
theorem stanzas_gen (ps : List Pr) (v : Value) (q : Option Addr) (w : World) (hl : ∀ W, Below w.heap.size w W → AllR W (.pointer q) v ps) (ok : EntsOk ps) :
    Calls Tryz.prog 27 #[.pointer q] w fun e w' => ∃ u fvs, e = .returned u ∧ AccZ w.heap.size w w' u fvs (stzL (stzP 0 ps)) := by
  obtain ⟨A, cap, hv, hle⟩ := (hl w (Below.refl _ _)).1.empty
  have ALL := Lib.hid (fun W hB => callsIn_wide (n := 8).2 (hl W hB).2)
  have HE := Lib.hid (fun W hB => (hl W hB).1)
  have ST := Lib.hid (fun W => callsIn_wide (n := 8).2 (stz7_any v W A ps.length cap hv))
  have HF := Lib.hid ok.fields
  have hps : ps.length ≤ 1000000 := by have := ok.len; omega
  clear hl hv ok
  refine callsIn_wide (n := 9).1 ?_
  refine callsIn_of_wp_marks Tryz.func27 rfl trivial ?_ rfl
  simp only [Tryz.ntmps27, List.size_toArray, List.length_cons, List.length_nil, Nat.reduceAdd, Nat.reduceSub, Array.replicate_succ, Array.replicate_zero, List.push_toArray, List.append_toArray, List.nil_append, List.cons_append]
  gi_wp2_with fail
  have hb0 : Below w.heap.size w (w.alloc (.cells #[.slice none 0 0] 60)) := (Below.refl _ w).alloc (Nat.le_refl _) _
  refine ⟨trivial, (ALL.out _ hb0).mono ?_⟩
  rintro e w1 ⟨rfl, rfl⟩
  gi_wp2_with fail
  refine ⟨trivial, (ST.out _).mono ?_⟩
  rintro e w1 ⟨rfl, rfl⟩
  gi_wp2_with fail
  obtain ⟨w1, hw1⟩ : ∃ w1, w1 = ((w.alloc (.cells #[.slice none 0 0] 60)).alloc (.cells #[v] 96)) := ⟨_, rfl⟩
  have hz : w1.heap.size = w.heap.size + 2 := by rw [hw1]; simp
  have B0 : Boxed w1 w.heap.size 60 (.slice none 0 0) := by rw [hw1]; exact (Boxed.new w _ _).alloc _
  have B1 : Boxed w1 (w.heap.size + 1) 96 v := by rw [hw1]; exact boxNew2 w _ _ _
  have hb1 : Below w.heap.size w w1 := by rw [hw1]; exact hb0.alloc (by simp) _
  rw [← hw1]
  clear hw1 hb0
  have HH := stz_hands ps v _ w1 B1 hps (HE.out _ hb1)
  refine wp_rangedKA (gf := 100) (lb := #[.pointer (some ⟨w.heap.size + 1, 0, none⟩)]) rfl (enters_of Tryz.func100 (by kernel_rfl) rfl) HH (fun _ => rfl)
    (fun pre W => ∃ u fvs, Boxed W w.heap.size 60 u ∧ AccZ (w.heap.size + 6) w W u fvs (stzL pre) ∧ Boxed W (w.heap.size + 1) 96 v)
    (fun _ _ _ => False)
    (by
      rw [hz]
      rintro pre W W' ⟨u, fvs, h1, h2, h3⟩ ht
      exact ⟨u, fvs, ht.box h1 (.inl (by omega)), h2.turned ht (by omega) (by omega), ht.box h3 (.inl (by omega))⟩)
    (fun _ _ _ _ hs _ => hs)
    ⟨_, [], B0, AccZ.start _ _ _ hb1, B1⟩
    (fun pre W h => by obtain ⟨u, fvs, h1, h2, h3⟩ := h; exact ⟨HE.out _ h2.below, h3⟩)
    (fun a pre x a' W => ∃ Bx, w.heap.size + 6 ≤ Bx ∧ a' = { tmps := ((a.tmps.setIfInBounds 9 (.int .i64 (x.1 : Nat))).setIfInBounds 10 (entV x.2)).setIfInBounds 5 (ptr Bx), defers := [] } ∧ Cells W Bx 100 #[.int .i64 x.2.1.1.kind, .string (B x.2.1.1.raw), x.2.2, .int .i64 x.2.1.2] ∧
      ∃ u fvs, Boxed W w.heap.size 60 u ∧ AccZ (w.heap.size + 6) w W u fvs (stzL pre) ∧ Boxed W (w.heap.size + 1) 96 v)
    ?hM ?assign ?body ?done ?stop
  case hM =>
    rw [hz]
    rintro a pre x a' _ W W' ⟨Bx, h0, h0', h0'', u, fvs, h1, h2, h3⟩ ht
    exact ⟨Bx, h0, h0', (ht.same Bx h0''.lt (.inr (by omega))).trans h0'', u, fvs, ht.box h1 (.inl (by omega)), h2.turned (ht.sub (Nat.le_refl _) (show w.heap.size + 2 + 2 ≤ w.heap.size + 2 + 4 by omega)) (by omega) (by omega), ht.box h3 (.inl (by omega))⟩
  case assign =>
    rw [hz]
    rintro l pre x post W hx hsz ⟨u, fvs, h1, h2, h3⟩
    have hfr : ∃ fa fc, x.2.2 = .slice fa x.2.1.1.fields.length fc := by
      have hm := stzG_mem 0 ps x (by rw [show stzG (fun p : Pr => p.1.1.kind) 0 ps = _ from hx]; simp)
      exact ((HE.out _ h2.below).each x.2 (List.mem_of_getElem? hm.2.1)).form
    obtain ⟨k, ⟨⟨⟨kd, raw, fs⟩, num⟩, fv⟩⟩ := x
    obtain ⟨fa, fc, e⟩ := hfr
    dsimp only at e
    subst e
    clear hx
    dsimp only [entV]
    gi_wp2
    exact ⟨(Stay.refl _ _ W).alloc hsz _, W.heap.size, by omega, rfl, Cells.new _ _ _, u, fvs, h1.alloc _, h2.alloc _, h3.alloc _⟩
  case body =>
    rw [hz]
    rintro l pre x post a' W hx hsz ⟨Bx, hB, rfl, hc, u, fvs, h1, h2, h3⟩
    have hm := stzG_mem 0 ps x (by rw [show stzG (fun p : Pr => p.1.1.kind) 0 ps = _ from hx]; simp)
    have hpx := List.mem_of_getElem? hm.2.1
    have hfr := (HE.out _ h2.below).each x.2 hpx
    obtain ⟨fa, fc, hfv⟩ := hfr.form
    have hnn : (stzL pre).length ≤ 1000000 := by
      have h4 := congrArg List.length hx
      have h5 := stzG_len (κ := fun p : Pr => p.1.1.kind) 0 ps
      unfold stzL
      simp at h4 ⊢
      simp only [stzP] at h4 h5
      omega
    refine wpIn_block (wp_region_round (by decide +kernel) (by rintro ⟨a, w, h⟩; exact h) (by kernel_rfl) ?_)
    refine region_stz _ W w.heap.size Bx (w.heap.size + 6) (stzL pre).length x.2 fa fc u (stzCells (stzL pre) fvs) _ rfl rfl (by simp) h1 hc hfv hfr (HF.out _ hpx) h2.row (by omega) hnn ?_
    intro a y g c w2 _ _ _ r1 r2 r3
    have r1' := rowBase r1 (show w.heap.size + 6 ≤ W.heap.size by omega)
    have acc2 := Lib.hid (h2.snoc (s := (x.2.1.2, x.2.1.1.fields)) (by omega) r1' r2 r3)
    have hne : ¬ u.ownBlock = some w.heap.size := fun e => by have := (h2.row.lt _ e).1; omega
    have hne1 : ¬ u.ownBlock = some (w.heap.size + 1) := fun e => by have := (h2.row.lt _ e).1; omega
    have b1 : Boxed w2 w.heap.size 60 u := (r3.same _ h1.lt hne).trans h1
    have b3 : Boxed w2 (w.heap.size + 1) 96 v := (r3.same _ h3.lt hne1).trans h3
    have hst : Stay (w.heap.size + 2) (2 + 2) W w2 := ⟨r3.size, fun r p1 p2 => r3.same r (by omega) (fun e => by have := (h2.row.lt _ e).1; omega)⟩
    refine ⟨hst.setCell (.inl (by show w.heap.size < _; omega)) _, _, fvs ++ [y], Boxed.set _ b1, ?_, b3.other (by show w.heap.size + 1 ≠ w.heap.size; omega) _⟩
    rw [stzL_snoc]
    exact acc2.out.set (by omega) (Nat.le_refl _) _
  case done =>
    rw [hz]
    rintro W ⟨u, fvs, b0, acc, b1⟩ hK
    obtain ⟨ua, uc, rfl, _⟩ := own_slice acc.row
    have c := b0.cell
    gi_wp2
    refine ⟨by simp, .inl ⟨_, _, rfl, run_takeDeferred hK, ?_⟩⟩
    have kb : Below w.heap.size W (W.putObj (w.heap.size + 2) (.deferred none)) := belowK_b (w := w) (Nat.le_refl _) W _ _ _ (by omega) hK rfl rfl
    have pb := grownBy_putObj' W (w.heap.size + 2) (.deferred none)
    refine ⟨_, results_tmp rfl _ _ _, .slice ua (stzL (stzP 0 ps)).length uc, fvs, rfl, ⟨rowBase (row_same acc.row fun b e => pb.block b (acc.row.lt b e).2 (fun q => ?_)) (by omega), acc.len, fun j s x q1 q2 => rowBase (row_same (acc.each j s x q1 q2) fun b e => pb.block b ((acc.each j s x q1 q2).lt b e).2 (fun q => ?_)) (by omega), acc.below.trans kb⟩⟩
    · have := (acc.row.lt b e).1
      have := Option.some.inj q
      omega
    · have := ((acc.each j s x q1 q2).lt b e).1
      have := Option.some.inj q
      omega
  case stop =>
    intro c pre W _ h _
    exact h.elim
end Go.Proofs.YtiebbgbcojgeoaaGreatDoor

