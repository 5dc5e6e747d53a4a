/- Texts put together: UG, UH, IQ, JN. -/
import Derived.Deep.RegionHeld3
import Derived.Test.YtiebbgbcojgeoaaBas4
import Derived.Test.YtiebbgbcojgeoaaBas6
set_option linter.unusedVariables false
namespace Go.Proofs.Ytiebbgbcojgeoaa
open Go.RowKit Go.Shelf
attribute [local go_sem] Oper.semAt_some

def cellAt (b i : Nat) (W : World) : Value := match W.cell? ⟨b, i, none⟩ with | some v => v | none => undef
set_option maxRecDepth 100000 in
theorem ret_stz {fn : Func} {p : Tmp} (h : fn.results = #[.cell p 69]) (tmps : Array Value) (w : World) (b : Nat) (cur : Array Value) (hp : tmps.getD p undef = .pointer (some ⟨b, 0, none⟩))
    (hc : Cells w b 69 cur) (hz : cur.size = 2) : (results fn tmps).run Try.prog w = .ok (.agg cur) w := by
  have L := run_loadVar_row (P := Try.prog) w b 69 69 cur (0, 0) _ hc Try.underlying69 rfl (by rw [hz]; kernel_rfl)
  rw [results_cell1 h, hp]
  show (loadVar _ _).run _ _ = _
  exact L
set_option maxRecDepth 100000 in
set_option maxHeartbeats 4000000 in
theorem stanza7_any (p : Pr) (w : World) (h : FldR w p.2 p.1.1.fields) (hn : p.1.1.fields.length ≤ 1000000) :
    Calls Try.prog 49 #[entV p] w fun e w' => ∃ x, e = .returned (.agg #[.int .i64 p.1.2, x]) ∧ w'.ownsRow w.heap.size 45 2 x p.1.1.fields.length (cellsF p.1.1.fields) ∧ Below w.heap.size w w' := by
  obtain ⟨⟨⟨kd, raw, fs⟩, num⟩, fv⟩ := p
  dsimp only at h hn ⊢
  obtain ⟨fa, fc, rfl⟩ := h.form
  unfold entV
  dsimp only
  generalize B raw = rw_ at *
  have hb2 : Below w.heap.size w ((w.alloc (.cells #[.int .i64 kd, .string rw_, .slice fa fs.length fc, .int .i64 num] 111)).alloc (.cells #[.int .i64 0, .slice none 0 0] 69)) := ((Below.refl _ w).alloc (Nat.le_refl _) _).alloc (by simp) _
  have BX := Lib.hid ((Cells.new w 111 #[.int .i64 kd, .string rw_, .slice fa fs.length fc, .int .i64 num]).alloc (.cells #[.int .i64 0, .slice none 0 0] 69))
  have BR := Lib.hid (Cells.new (w.alloc (.cells #[.int .i64 kd, .string rw_, .slice fa fs.length fc, .int .i64 num] 111)) 69 #[.int .i64 0, .slice none 0 0])
  go_enter Try.func49, Try.ntmps49
  go_wp2_with fail
  obtain ⟨w1, hw1⟩ : ∃ w1, w1 = ((w.alloc (.cells #[.int .i64 kd, .string rw_, .slice fa fs.length fc, .int .i64 num] 111)).alloc (.cells #[.int .i64 0, .slice none 0 0] 69)) := ⟨_, rfl⟩
  have hz1 : w1.heap.size = w.heap.size + 2 := by rw [hw1]; simp
  rw [← hw1] at hb2 BX BR ⊢
  clear hw1
  have hf1 := h.below hb2 (Nat.le_refl _)
  have CL := Lib.hid (fun (W : World) (hB : Below w1.heap.size w1 W) => clone_any fs (.slice fa fs.length fc) W (hf1.1.below hB (Nat.le_refl _)) hf1.2 hn)
  rw [World.size_alloc] at BR
  have HS := Lib.hid (show ∀ W, Below w1.heap.size w1 W → (Below w1.heap.size w1 W ∧ W.cell? ⟨w.heap.size, 2, none⟩ = some (.slice fa fs.length fc) ∧ W.cell? ⟨w.heap.size, 3, none⟩ = some (.int .i64 num) ∧ W.cell? ⟨w.heap.size + 1, 0, none⟩ = some (.int .i64 0) ∧ W.cell? ⟨w.heap.size + 1, 1, none⟩ = some (.slice none 0 0) ∧ W.frozen? ⟨w.heap.size + 1, 0, none⟩ = false ∧ W.frozen? ⟨w.heap.size + 1, 1, none⟩ = false) from fun W hB =>
    have hX := cells_kept BX.out hB (by omega)
    have hY := cells_kept BR.out hB (by omega)
    ⟨hB, hX.cell 2, hX.cell 3, hY.cell 0, hY.cell 1, hY.frozen 0, hY.frozen 1⟩)
  clear h hf1
  obtain ⟨_, q2, q3, r0, r1, s0, s1⟩ := HS.out w1 (Below.refl _ _)
  have HB2 := Lib.hid hb2
  go_region_law (first | (go_simp; go_at_call 61; refine (CL.out _ (Below.refl _ _).drew).mono ?_; rintro e w5 ⟨x, rfl, hx, hb5⟩; obtain ⟨xa, xc, rfl, _⟩ := own_slice hx; obtain ⟨_, q2', q3', r0', r1', s0', s1'⟩ := HS.out w5 ((Below.refl _ w1).drew.trans hb5)))
  all_goals go_wp2_with fail
  all_goals
    have hdz : w1.drew.heap.size = w.heap.size + 2 := hz1
    have hz5 := hb5.size
    have R2 := cells_kept BR.out ((Below.refl _ w1).drew.trans hb5) (by omega)
    have RE := (R2.set 0 (.int .i64 num)).set 1 (.slice xa fs.length xc)
    have e2 : ((#[Value.int .i64 0, Value.slice none 0 0].setIfInBounds 0 (.int .i64 num)).setIfInBounds 1 (.slice xa fs.length xc)) = #[.int .i64 num, .slice xa fs.length xc] := by simp [List.setIfInBounds_toArray, List.set]
    rw [e2] at RE
    have hne : ∀ k, k < w.heap.size + 2 → (Value.slice xa fs.length xc).ownBlock ≠ some k := fun k hk e => by
      have := (hx.lt k e).1
      omega
    refine bodyPost_ret (ret_stz rfl _ _ (w.heap.size + 1) _ rfl RE rfl) rfl ?_
    refine ⟨_, rfl, rowBase (base := w1.drew.heap.size) (row_cell (p := ⟨w.heap.size + 1, 1, none⟩) (row_cell (p := ⟨w.heap.size + 1, 0, none⟩) hx (hne (w.heap.size + 1) (by omega)) _) (hne (w.heap.size + 1) (by omega)) _) (by omega), ?_⟩
    · exact ((HB2.out.drew.trans (hb5.mono (show w.heap.size ≤ w1.drew.heap.size by omega))).setCell (p := ⟨w.heap.size + 1, 0, none⟩) (by show w.heap.size ≤ w.heap.size + 1; omega) _).setCell (p := ⟨w.heap.size + 1, 1, none⟩) (by show w.heap.size ≤ w.heap.size + 1; omega) _

def opsS : Array Oper := #[{ dst := some 11, op := Op.load 29 (Operand.tmp 3), type := 29, pos := "list.go:96", after := #[], guard := none }, { dst := some 12, op := Op.load 111 (Operand.tmp 5), type := 111, pos := "list.go:96", after := #[], guard := none },
  { dst := some 13, op := Op.call { callee := Callee.value (Operand.func 49), args := #[Operand.tmp 12], argTypes := #[111] }, type := 69, pos := "list.go:96", after := #[{ on := 1, ground := Ground.data }], guard := none },
  { dst := some 14, op := Op.buildSlice 29 1 #[(0, Operand.tmp 13)], type := 29, pos := "list.go:96", after := #[{ on := 2, ground := Ground.data }], guard := none },
  { dst := some 15, op := Op.call { callee := Callee.builtin Builtin.append, args := #[Operand.tmp 11, Operand.tmp 14], argTypes := #[29, 29] }, type := 29, pos := "list.go:96", after := #[{ on := 0, ground := Ground.data }, { on := 3, ground := Ground.data }, { on := 2, ground := Ground.chain }], guard := none },
  { dst := none, op := Op.store 29 (Operand.tmp 3) (Operand.tmp 15), type := 0, pos := "list.go:96", after := #[{ on := 4, ground := Ground.data }, { on := 4, ground := Ground.chain }, { on := 0, ground := Ground.phase }, { on := 1, ground := Ground.phase }, { on := 2, ground := Ground.phase }, { on := 3, ground := Ground.phase }, { on := 4, ground := Ground.phase }], guard := none }]
theorem doneS : ∀ b0 b1 b2 b3 b4 b5 : Bool, Region.ready .any opsS #[b0, b1, b2, b3, b4, b5] = [] → b5 = true := by decide +kernel
theorem infoStz : (Try.prog.info? 69).map (fun i => (i.zero, i.size, i.bytes)) = some (some (.agg #[.int .i64 0, .slice none 0 0]), 2, 32) := by kernel_rfl
theorem evS {a : Act} {i : Nat} {v : Value} (h : a.tmps[i]? = some v) : a.eval (.tmp i) = v := by
  show a.tmps.getD i undef = v
  rw [Array.getD_eq_getD_getElem?, h]; rfl
theorem putS {a : Act} {d : Nat} {v : Value} (hd : d < a.tmps.size) (j : Nat) : (a.put (some d) v).tmps[j]? = if j = d then some v else a.tmps[j]? := by
  show (a.tmps.setIfInBounds d v)[j]? = _
  rw [Array.getElem?_setIfInBounds]
  by_cases h : d = j
  · subst h; simp [hd]
  · rw [if_neg h, if_neg (Ne.symm h)]
theorem putS_size (a : Act) (d : Nat) (v : Value) : (a.put (some d) v).tmps.size = a.tmps.size := by show (a.tmps.setIfInBounds d v).size = _; simp
/-- Which operations are done: the load of what there is (z), of the others the first c. -/
def flagS (c : Nat) (z : Bool) : Array Bool := #[z, decide (0 < c), decide (1 < c), decide (2 < c), decide (3 < c), decide (4 < c)]
/-- What is known behind the first c of the others. -/
def FactS (W0 : World) (sb lo n : Nat) (p : Pr) (v0 : Value) (xs : List Value) (a : Act) (w : World) : Nat → Prop
  | 0 => Below W0.heap.size W0 w
  | 1 => Below W0.heap.size W0 w ∧ a.tmps[12]? = some (entV p)
  | 2 => Below W0.heap.size W0 w ∧ ∃ x, a.tmps[13]? = some (.agg #[.int .i64 p.1.2, x]) ∧ w.ownsRow W0.heap.size 45 2 x p.1.1.fields.length (cellsF p.1.1.fields)
  | 3 => Below W0.heap.size W0 w ∧ ∃ x b, a.tmps[14]? = some (sl b 1 1) ∧ w.ownsRow W0.heap.size 45 2 x p.1.1.fields.length (cellsF p.1.1.fields) ∧ W0.heap.size ≤ b ∧ Cells w b 69 #[.int .i64 p.1.2, x]
  | 4 => ∃ x g c, a.tmps[15]? = some (sl g (n + 1) c) ∧ w.ownsRow W0.heap.size 45 2 x p.1.1.fields.length (cellsF p.1.1.fields) ∧ w.ownsRow lo 69 2 (sl g (n + 1) c) (n + 1) (xs ++ [.int .i64 p.1.2, x]) ∧ Only (fun r => v0.ownBlock = some r) W0 w
  | _ => ∃ x g c w2, w2.ownsRow W0.heap.size 45 2 x p.1.1.fields.length (cellsF p.1.1.fields) ∧ w2.ownsRow lo 69 2 (sl g (n + 1) c) (n + 1) (xs ++ [.int .i64 p.1.2, x]) ∧ Only (fun r => v0.ownBlock = some r) W0 w2 ∧ w = w2.setCell ⟨sb, 0, none⟩ (sl g (n + 1) c)
theorem FactS.below {W0 : World} {sb lo n : Nat} {p : Pr} {v0 : Value} {xs : List Value} {a : Act} {w : World} {c : Nat} (h : FactS W0 sb lo n p v0 xs a w c) (hc : c ≤ 3) : Below W0.heap.size W0 w := by
  match c, h with
  | 0, h => exact h
  | 1, h => exact h.1
  | 2, h => exact h.1
  | 3, h => exact h.1
  | n + 4, _ => omega
theorem FactS.put {W0 : World} {sb lo n : Nat} {p : Pr} {v0 : Value} {xs : List Value} {a : Act} {w : World} {c : Nat} (h : FactS W0 sb lo n p v0 xs a w c) (hs : 16 ≤ a.tmps.size) (v : Value) : FactS W0 sb lo n p v0 xs (a.put (some 11) v) w c := by
  have T := fun j => putS (a := a) (d := 11) (v := v) (by omega) j
  match c, h with
  | 0, h => exact h
  | 1, h => exact ⟨h.1, by rw [T, if_neg (by decide)]; exact h.2⟩
  | 2, h => obtain ⟨h1, x, h2, h3⟩ := h; exact ⟨h1, x, by rw [T, if_neg (by decide)]; exact h2, h3⟩
  | 3, h => obtain ⟨h1, x, b, h2, h3⟩ := h; exact ⟨h1, x, b, by rw [T, if_neg (by decide)]; exact h2, h3⟩
  | 4, h => obtain ⟨x, g, c, h2, h3⟩ := h; exact ⟨x, g, c, by rw [T, if_neg (by decide)]; exact h2, h3⟩
  | n + 5, h => exact h
structure RegS (a0 : Act) (W0 : World) (sb lo n : Nat) (p : Pr) (v0 : Value) (xs : List Value) (l : Array Bool) (a : Act) (w : World) : Prop where
  dfr : a.defers = a0.defers
  sz : a.tmps.size = a0.tmps.size
  frm : ∀ j, (j < 11 ∨ 15 < j) → a.tmps[j]? = a0.tmps[j]?
  st : ∃ c z, c ≤ 5 ∧ l = flagS c z ∧ (3 < c → z = true) ∧ (z = true → a.tmps[11]? = some v0) ∧ FactS W0 sb lo n p v0 xs a w c
theorem wpOpS {Q : Exit → Act → World → Prop} {K : Act → World → Prop} {a : Act} {w : World} {i : Nat} {o : Oper} (ho : opsS[i]? = some o) (hg : o.guard = none) (h : Oper.wp Try.prog o a w K Q) : wpOp Try.prog opsS Q i K a w := by
  unfold wpOp
  rw [ho]
  show (if Region.wanted o (yielded opsS a.tmps) = true then _ else _)
  rw [if_pos (by simp [Region.wanted, hg])]
  exact .inl h
theorem opS_load1 {o : Oper} {a : Act} {w : World} {K : Act → World → Prop} {Q : Exit → Act → World → Prop} {x : Operand} {p : Addr} {v : Value} (ho : o.op = Op.load 29 x) (hx : a.eval x = .pointer (some p)) (hc : w.cell? p = some v) (hK : K (a.put o.dst v) w) : Oper.wp Try.prog o a w K Q := by
  unfold Oper.wp
  have e : (execOp a.eval o).run Try.prog w = .ok (.value v) w := by
    simp only [execOp, ho, hx]
    simp [go_sem, Result.andThen, hc]
  rw [e]; exact hK
theorem opS_load4 {o : Oper} {a : Act} {w : World} {K : Act → World → Prop} {Q : Exit → Act → World → Prop} {x : Operand} {b : Nat} {u0 u1 u2 u3 : Value} (ho : o.op = Op.load 111 x) (hx : a.eval x = .pointer (some ⟨b, 0, none⟩)) (c0 : w.cell? ⟨b, 0, none⟩ = some u0) (c1 : w.cell? ⟨b, 1, none⟩ = some u1) (c2 : w.cell? ⟨b, 2, none⟩ = some u2) (c3 : w.cell? ⟨b, 3, none⟩ = some u3) (hK : K (a.put o.dst (.agg #[u0, u1, u2, u3])) w) : Oper.wp Try.prog o a w K Q := by
  unfold Oper.wp
  have e : (execOp a.eval o).run Try.prog w = .ok (.value (.agg #[u0, u1, u2, u3])) w := by
    simp only [execOp, ho, hx]
    simp [go_sem, Result.andThen, c0, c1, c2, c3]
  rw [e]; exact hK
theorem opS_call {o : Oper} {a : Act} {w : World} {K : Act → World → Prop} {Q : Exit → Act → World → Prop} {x : Operand} {u : Value} (ho : o.op = Op.call { callee := Callee.value (Operand.func 49), args := #[x], argTypes := #[111] }) (hx : a.eval x = u) {R : Ending → World → Prop}
    (hC : Calls Try.prog 49 #[u] w R) (hR : ∀ e w', R e w' → ∃ v, e = .returned v ∧ K (a.put o.dst v) w') : Oper.wp Try.prog o a w K Q := by
  unfold Oper.wp
  have e : (execOp a.eval o).run Try.prog w = .ok (.enter 49 #[u]) w := by
    have hf : a.eval (.func 49) = .func (.func 49) #[] #[] := rfl
    generalize a.eval = ρ at hx hf ⊢
    have en : ∀ args w, (callFunc 49 args).run Try.prog w = .ok (.enter 49 args) w := enters_of (P := Try.prog) Try.func49 (by kernel_rfl) rfl
    simp only [execOp, ho]
    simp [go_sem, resolve, invoke, hx, hf, en]
  rw [e]
  refine hC.mono ?_
  intro e w' h
  obtain ⟨v, rfl, hK⟩ := hR e w' h
  exact hK
theorem opS_lit {o : Oper} {a : Act} {w : World} {K : Act → World → Prop} {Q : Exit → Act → World → Prop} {x : Operand} {n : Int} {fa : Option Addr} {m c : Nat} (ho : o.op = Op.buildSlice 29 1 #[(0, x)]) (hx : a.eval x = .agg #[.int .i64 n, .slice fa m c]) (hK : K (a.put o.dst (sl w.heap.size 1 1)) (w.alloc (.cells #[.int .i64 n, .slice fa m c] 69))) : Oper.wp Try.prog o a w K Q := by
  unfold Oper.wp
  have e : (execOp a.eval o).run Try.prog w = .ok (.value (sl w.heap.size 1 1)) (w.alloc (.cells #[.int .i64 n, .slice fa m c] 69)) := by
    simp only [execOp, ho]
    rw [show (Array.map (fun (p : Nat × Operand) => match p with | (i, x) => (i, a.eval x)) #[((0 : Nat), x)]) = #[((0 : Nat), Value.agg #[.int .i64 n, .slice fa m c])] from by rw [← hx]; simp]
    kernel_rfl
  rw [e]; exact hK
theorem opS_store {o : Oper} {a : Act} {w : World} {K : Act → World → Prop} {Q : Exit → Act → World → Prop} {x y : Operand} {p : Addr} {u : Value} {g n c : Nat} (ho : o.op = Op.store 29 x y) (hx : a.eval x = .pointer (some p)) (hy : a.eval y = sl g n c) (hc : w.cell? p = some u) (hf : w.frozen? p = false) (hK : K (a.put o.dst undef) (w.setCell p (sl g n c))) : Oper.wp Try.prog o a w K Q := by
  unfold Oper.wp
  have e : (execOp a.eval o).run Try.prog w = .ok .skip (w.setCell p (sl g n c)) := by
    simp only [execOp, ho, hx, hy]
    simp [go_sem, Result.andThen, hc, hf, sl]
  rw [e]; exact hK
set_option maxRecDepth 100000 in
set_option maxHeartbeats 4000000 in
theorem region_stz (a0 : Act) (W0 : World) (sb eb lo n : Nat) (p : Pr) (fa : Option Addr) (fc : Nat) (v0 : Value) (xs : List Value) (Q : Exit → Act → World → Prop)
    (h3 : a0.tmps[3]? = some (ptr sb)) (h5 : a0.tmps[5]? = some (ptr eb)) (hsz : 16 ≤ a0.tmps.size) (hSB : Boxed W0 sb 29 v0) (hEB : Cells W0 eb 111 #[.int .i64 p.1.1.kind, .string (B p.1.1.raw), p.2, .int .i64 p.1.2])
    (hfv : p.2 = .slice fa p.1.1.fields.length fc) (hfr : FldR W0 p.2 p.1.1.fields) (hfn : p.1.1.fields.length ≤ 1000000) (hrow : W0.ownsRow lo 69 2 v0 n xs) (hlo : lo ≤ W0.heap.size) (hn : n ≤ 1000000)
    (hQ : ∀ a x g c w2, a.defers = a0.defers → a.tmps.size = a0.tmps.size → (∀ j, (j < 11 ∨ 15 < j) → a.tmps[j]? = a0.tmps[j]?) → w2.ownsRow W0.heap.size 45 2 x p.1.1.fields.length (cellsF p.1.1.fields) → w2.ownsRow lo 69 2 (sl g (n + 1) c) (n + 1) (xs ++ [.int .i64 p.1.2, x]) → Only (fun r => v0.ownBlock = some r) W0 w2 → Q .normal a (w2.setCell ⟨sb, 0, none⟩ (sl g (n + 1) c))) :
    wpAny Try.prog .any opsS Q opsS.size (Array.replicate opsS.size false) a0 W0.drew := by
  obtain ⟨i0, hi, hz0, hz1, hz2⟩ := info_parts infoStz
  have hsb : v0.ownBlock ≠ some sb := by
    intro e
    rcases hrow.2 with ⟨rfl, _⟩ | ⟨g, cap, cur, rfl, _, hg, _⟩
    · cases e
    · have : g = sb := Option.some.inj e
      subst this
      have := hg.symm.trans hSB
      simp at this
  refine wpAny_inv (RegS a0 W0 sb lo n p v0 xs) ?step ?done opsS.size _ a0 _ ?start (by simp) (by unfold todo; simp)
  case start => exact ⟨rfl, rfl, fun _ _ => rfl, 0, false, by decide, rfl, fun h => absurd h (by decide), (fun h => by cases h), (Below.refl _ _).drew⟩
  case done =>
    rintro l a w ⟨d, s, f, c, z, hc, rfl, hz, hzv, hF⟩ hl hr
    have h5 := doneS _ _ _ _ _ _ hr
    have : c = 5 := by have := of_decide_eq_true h5; omega
    subst this
    obtain ⟨x, g, c, w2, r1, r2, r3, rfl⟩ := hF
    exact hQ a x g c w2 d s f r1 r2 r3
  case step =>
    rintro l i o a w ⟨d, s, f, c, z, hc, rfl, hz, hzv, hF⟩ hl ho hli he
    have hi6 : i < 6 := by
      rcases Nat.lt_or_ge i 6 with h | h
      · exact h
      · rw [Array.getElem?_eq_none (by exact h)] at ho; cases ho
    have dep : ∀ e ∈ o.after, Region.binds .any e = true → (flagS c z).getD e.on false = true := he
    have hsa : 16 ≤ a.tmps.size := by rw [s]; exact hsz
    have T := fun d v (hd : d < 16) => putS (a := a) (d := d) (v := v) (by omega)
    have e3 := evS ((f 3 (by omega)).trans h3)
    have e5 := evS ((f 5 (by omega)).trans h5)
    rcases (by omega : i = 0 ∨ i = 1 ∨ i = 2 ∨ i = 3 ∨ i = 4 ∨ i = 5) with rfl | rfl | rfl | rfl | rfl | rfl
    · have ho2 : some _ = some o := ho
      obtain rfl := Option.some.inj ho2
      have hz0 : z = false := hli
      subst hz0
      have hc3 : c ≤ 3 := by
        rcases Nat.lt_or_ge 3 c with h | h
        · exact absurd (hz h) (by decide)
        · exact h
      have bl := hF.below hc3
      refine wpOpS ho rfl (opS_load1 rfl e3 ((bl.cell (p := ⟨sb, 0, none⟩) hSB.lt).trans hSB.cell) ?_)
      show RegS a0 W0 sb lo n p v0 xs _ (a.put (some 11) v0) w
      exact ⟨d, (putS_size _ _ _).trans s, fun j hj => by rw [T _ _ (by decide), if_neg (by omega)]; exact f j hj, c, true, hc, rfl, fun _ => rfl, fun _ => by rw [T _ _ (by decide), if_pos rfl], hF.put hsa _⟩
    · have ho2 : some _ = some o := ho
      obtain rfl := Option.some.inj ho2
      have hc0 : c = 0 := by have : decide (0 < c) = false := hli; simpa using this
      subst hc0
      have bl : Below W0.heap.size W0 w := hF
      obtain ⟨b0, b1, b2, b3⟩ := entBox (hEB.below bl hEB.lt)
      refine wpOpS ho rfl (opS_load4 rfl e5 b0 b1 b2 b3 ?_)
      show RegS a0 W0 sb lo n p v0 xs _ (a.put (some 12) (entV p)) w
      exact ⟨d, (putS_size _ _ _).trans s, fun j hj => by rw [T _ _ (by decide), if_neg (by omega)]; exact f j hj, 1, z, by decide, rfl, fun h => absurd h (by decide), fun h => by rw [T _ _ (by decide), if_neg (by decide)]; exact hzv h, bl, by rw [T _ _ (by decide), if_pos rfl]⟩
    · have ho2 : some _ = some o := ho
      obtain rfl := Option.some.inj ho2
      have hc1 : c = 1 := by
        have h1 : decide (1 < c) = false := hli
        have h2 : decide (0 < c) = true := dep ⟨1, Ground.data⟩ (by simp [opsS]) rfl
        simp at h1 h2; omega
      subst hc1
      obtain ⟨bl, e12⟩ := hF
      refine wpOpS ho rfl (opS_call rfl (evS e12) (stanza7_any p w (hfr.below bl (Nat.le_refl _)) hfn) ?_)
      rintro e w' ⟨x, rfl, hx, hb⟩
      refine ⟨_, rfl, ?_⟩
      show RegS a0 W0 sb lo n p v0 xs _ (a.put (some 13) _) w'
      refine ⟨d, (putS_size _ _ _).trans s, fun j hj => by rw [T _ _ (by decide), if_neg (by omega)]; exact f j hj, 2, z, by decide, rfl, fun h => absurd h (by decide), fun h => by rw [T _ _ (by decide), if_neg (by decide)]; exact hzv h, bl.trans (hb.mono bl.size), x, by rw [T _ _ (by decide), if_pos rfl], rowBase hx bl.size⟩
    · have ho2 : some _ = some o := ho
      obtain rfl := Option.some.inj ho2
      have hc2 : c = 2 := by
        have h1 : decide (2 < c) = false := hli
        have h2 : decide (1 < c) = true := dep ⟨2, Ground.data⟩ (by simp [opsS]) rfl
        simp at h1 h2; omega
      subst hc2
      obtain ⟨bl, x, e13, hx⟩ := hF
      obtain ⟨xa, xc, rfl, _⟩ := own_slice hx
      refine wpOpS ho rfl (opS_lit rfl (evS e13) ?_)
      show RegS a0 W0 sb lo n p v0 xs _ (a.put (some 14) (sl w.heap.size 1 1)) _
      exact ⟨d, (putS_size _ _ _).trans s, fun j hj => by rw [T _ _ (by decide), if_neg (by omega)]; exact f j hj, 3, z, by decide, rfl, fun h => absurd h (by decide), fun h => by rw [T _ _ (by decide), if_neg (by decide)]; exact hzv h, bl.alloc bl.size _, _, w.heap.size, by rw [T _ _ (by decide), if_pos rfl], own_kept hx ((Below.refl _ _).alloc (Nat.le_refl _) _) (Nat.le_refl _), bl.size, Cells.new _ _ _⟩
    · have ho2 : some _ = some o := ho
      obtain rfl := Option.some.inj ho2
      have hc3 : c = 3 := by
        have h1 : decide (3 < c) = false := hli
        have h2 : decide (2 < c) = true := dep ⟨3, Ground.data⟩ (by simp [opsS]) rfl
        simp at h1 h2; omega
      subst hc3
      have hzt : z = true := dep ⟨0, Ground.data⟩ (by simp [opsS]) rfl
      subst hzt
      obtain ⟨bl, x, b, e14, hx, hb, hcb⟩ := hF
      have hrw := row_below hrow bl (Nat.le_refl _)
      have e11 := evS (hzv rfl)
      have hone : ∀ u ∈ [Value.int .i64 p.1.2, x], u.oneCell' = true := by
        intro u hu
        simp at hu
        rcases hu with rfl | rfl
        · rfl
        · obtain ⟨xa, xc, rfl, _⟩ := own_slice hx; rfl
      have happ := step_append_own (P := Try.prog) (ops := opsS) (o := _) (a := a) (w := w) (K := fun a' w' => RegS a0 W0 sb lo n p v0 xs ((flagS 3 true).setIfInBounds 4 true) a' w') (Q := Q) (E := True) rfl (.tmp 11) (.tmp 14) 29 (show (opsS[4]'(by decide)).op = _ from rfl) 69 i0 _ 2 32 Try.underlying29 hi hz0 hz1 hz2 rfl (by decide) v0 n xs e11 (rowBase hrw (Nat.zero_le _)) ⟨b, 0, none⟩ 1 1 [.int .i64 p.1.2, x] (evS e14) rfl (cells29 hcb) hone (by unfold maxLen; omega) (by omega) ?hK
      case hK =>
        intro v' w' ho' hg hbk
        obtain ⟨g', c', rfl⟩ := ownsRow_succ ho'
        have hx' : w'.ownsRow W0.heap.size 45 2 x p.1.1.fields.length (cellsF p.1.1.fields) := by
          refine row_same hx fun k hk => hg.block k (hx.lt k hk).2 (fun e => ?_)
          have h1 := (hx.lt k hk).1
          have h2 := (hrow.lt k e.symm).2
          omega
        have hlo' : w'.ownsRow lo 69 2 (.slice (some ⟨g', 0, none⟩) (n + 1) c') (n + 1) (xs ++ [.int .i64 p.1.2, x]) := by
          rcases ho'.2 with ⟨q, _⟩ | ⟨g2, cap2, cur2, q, _, rest⟩
          · cases q
          · cases q
            refine ⟨ho'.1, .inr ⟨g', c', cur2, rfl, ?_, rest⟩⟩
            rcases hbk with h | h
            · exact (hrow.lt g' h.symm).1
            · have : g' = w.heap.size := Option.some.inj h
              have := bl.size
              omega
        show RegS a0 W0 sb lo n p v0 xs _ (a.put (some 15) (sl g' (n + 1) c')) _
        exact ⟨d, (putS_size _ _ _).trans s, fun j hj => by rw [T _ _ (by decide), if_neg (by omega)]; exact f j hj, 4, true, by decide, rfl, fun _ => rfl, fun _ => by rw [T _ _ (by decide), if_neg (by decide)]; exact hzv rfl, x, g', c', by rw [T _ _ (by decide), if_pos rfl], hx', hlo', (Only.of_below bl (Nat.le_refl _)).grown hg (fun k hk => .inl hk)⟩
      rw [if_pos (show Region.wanted opsS[4] _ = true from rfl)] at happ
      exact wpOpS ho rfl happ
    · have ho2 : some _ = some o := ho
      obtain rfl := Option.some.inj ho2
      have hc4 : c = 4 := by
        have h1 : decide (4 < c) = false := hli
        have h2 : decide (3 < c) = true := dep ⟨4, Ground.data⟩ (by simp [opsS]) rfl
        simp at h1 h2; omega
      subst hc4
      obtain ⟨x, g, c, e15, r1, r2, r3⟩ := hF
      have hbx : Boxed w sb 29 v0 := (r3.same sb hSB.lt hsb).trans hSB
      refine wpOpS ho rfl (opS_store rfl e3 (evS e15) hbx.cell hbx.frozen ?_)
      exact ⟨d, s, f, 5, z, by decide, rfl, fun _ => hz (by decide), hzv, x, g, c, w, r1, r2, r3, rfl⟩
end Go.Proofs.Ytiebbgbcojgeoaa

namespace Go.Proofs.Ytiebbgbcojgeoaa
open Go.RowKit Go.Shelf
attribute [local go_sem] Oper.semAt_some

/-- A stanza: its number, its fields. -/
abbrev Stz := Int × List Fld
def stzCells : List Stz → List Value → List Value
  | s :: l, v :: vs => .int .i64 s.1 :: v :: stzCells l vs
  | _, _ => []
theorem stzCells_snoc : ∀ (l : List Stz) (vs : List Value) (s : Stz) (v : Value), vs.length = l.length → stzCells (l ++ [s]) (vs ++ [v]) = stzCells l vs ++ [.int .i64 s.1, v]
  | [], [], s, v, _ => rfl
  | [], _ :: _, _, _, h => by simp at h
  | a :: l, [], s, v, h => by simp at h
  | a :: l, u :: vs, s, v, h => by
    have := stzCells_snoc l vs s v (by simpa using h)
    simp only [List.cons_append, stzCells, this]
theorem stzCells_at : ∀ (l : List Stz) (vs : List Value) (i : Nat) (s : Stz) (v : Value), l[i]? = some s → vs[i]? = some v → (stzCells l vs)[i * 2]? = some (.int .i64 s.1) ∧ (stzCells l vs)[i * 2 + 1]? = some v
  | [], _, i, s, v, h, _ => by simp at h
  | a :: l, [], i, s, v, _, h => by simp at h
  | a :: l, u :: vs, 0, s, v, h, h' => by simp at h h'; subst h h'; exact ⟨rfl, rfl⟩
  | a :: l, u :: vs, i + 1, s, v, h, h' => by
    obtain ⟨x, y⟩ := stzCells_at l vs i s v (by simpa using h) (by simpa using h')
    have e : stzCells (a :: l) (u :: vs) = .int .i64 a.1 :: u :: stzCells l vs := rfl
    rw [e, show (i + 1) * 2 = i * 2 + 1 + 1 by omega]
    exact ⟨by simpa using x, by simpa using y⟩
/-- The stanzas so far, in new memory from lo on. -/
structure AccZ (lo : Nat) (w wr : World) (v : Value) (fvs : List Value) (rs : List Stz) : Prop where
  row : wr.ownsRow lo 69 2 v rs.length (stzCells rs fvs)
  len : fvs.length = rs.length
  each : ∀ (j : Nat) s x, rs[j]? = some s → fvs[j]? = some x → wr.ownsRow lo 45 2 x s.2.length (cellsF s.2)
  below : Below w.heap.size w wr
theorem AccZ.start (lo : Nat) (w wr : World) (hb : Below w.heap.size w wr) : AccZ lo w wr (.slice none 0 0) [] [] := ⟨⟨rfl, .inl ⟨rfl, rfl⟩⟩, rfl, fun j s x h => by simp at h, hb⟩
theorem AccZ.turned {lo B k : Nat} {w W W' : World} {v : Value} {fvs : List Value} {rs : List Stz} (h : AccZ lo w W v fvs rs) (ht : Turned B k W W') (hB : w.heap.size ≤ B) (hlo : B + k ≤ lo) : AccZ lo w W' v fvs rs :=
  ⟨ht.row h.row (fun b e => .inr (by have := (h.row.lt b e).1; omega)), h.len, fun j s x h1 h2 => ht.row (h.each j s x h1 h2) (fun b e => .inr (by have := ((h.each j s x h1 h2).lt b e).1; omega)), h.below.trans (ht.below hB h.below.size)⟩
theorem AccZ.alloc {lo : Nat} {w W : World} {v : Value} {fvs : List Value} {rs : List Stz} (h : AccZ lo w W v fvs rs) (o : Obj) : AccZ lo w (W.alloc o) v fvs rs :=
  have hb := (Below.refl W.heap.size W).alloc (Nat.le_refl _) o
  ⟨own_kept h.row hb (Nat.le_refl _), h.len, fun j s x h1 h2 => own_kept (h.each j s x h1 h2) hb (Nat.le_refl _), h.below.alloc h.below.size o⟩
theorem stz_ne {W : World} {lo n m : Nat} {v x : Value} {xs ys : List Value} (hv : W.ownsRow lo 69 2 v n xs) (hx : W.ownsRow lo 45 2 x m ys) : ∀ b, x.ownBlock = some b → ¬ v.ownBlock = some b := by
  intro b hb e
  rcases hx.2 with ⟨rfl, _⟩ | ⟨g, cap, cur, rfl, _, hc, _⟩
  · cases hb
  · cases hb
    rcases hv.2 with ⟨rfl, _⟩ | ⟨g', cap', cur', rfl, _, hc', _⟩
    · cases e
    · have : g' = g := Option.some.inj e
      subst this
      rw [hc] at hc'
      injection hc' with hc'
      injection hc' with _ h2 _
      exact absurd h2 (by decide)
theorem AccZ.snoc {lo : Nat} {w W w2 : World} {v : Value} {fvs : List Value} {rs : List Stz} {s : Stz} {x : Value} {g c : Nat} (h : AccZ lo w W v fvs rs) (hlo : w.heap.size ≤ lo) (hx : w2.ownsRow lo 45 2 x s.2.length (cellsF s.2)) (hr : w2.ownsRow lo 69 2 (sl g (rs.length + 1) c) (rs.length + 1) (stzCells rs fvs ++ [.int .i64 s.1, x]))
    (ho : Only (fun r => v.ownBlock = some r) W w2) : AccZ lo w w2 (sl g (rs.length + 1) c) (fvs ++ [x]) (rs ++ [s]) := by
  refine ⟨by rw [List.length_append, stzCells_snoc _ _ _ _ h.len]; exact hr, by simp [h.len], fun j y u hy hu => ?_, h.below.trans (ho.to_below h.below.size (fun r hr e => by have := (h.row.lt r e).1; omega))⟩
  rcases snoc_at hy with ⟨q, hy⟩ | ⟨q, rfl⟩
  · rw [List.getElem?_append_left (by rw [h.len]; exact q)] at hu
    exact row_only (h.each j y u hy hu) ho (stz_ne h.row (h.each j y u hy hu))
  · rw [q, ← h.len, List.getElem?_append_right (Nat.le_refl _)] at hu
    simp at hu
    subst hu; exact hx
/-- The stanzas of entries. -/
def stzL (xs : List (Nat × Pr)) : List Stz := xs.map fun x => (x.2.1.2, x.2.1.1.fields)
theorem stzL_snoc (xs : List (Nat × Pr)) (x : Nat × Pr) : stzL (xs ++ [x]) = stzL xs ++ [(x.2.1.2, x.2.1.1.fields)] := by unfold stzL; simp
theorem AccZ.set {lo : Nat} {w W : World} {v : Value} {fvs : List Value} {rs : List Stz} {b : Nat} (h : AccZ lo w W v fvs rs) (hb : b < lo) (hbw : w.heap.size ≤ b) (u : Value) : AccZ lo w (W.setCell ⟨b, 0, none⟩ u) v fvs rs :=
  ⟨row_cell h.row (fun e => by have := (h.row.lt b e).1; omega) _, h.len, fun j s x h1 h2 => row_cell (h.each j s x h1 h2) (fun e => by have := ((h.each j s x h1 h2).lt b e).1; omega) _, h.below.setCell (p := ⟨b, 0, none⟩) hbw _⟩
set_option maxRecDepth 100000 in
set_option maxHeartbeats 4000000 in
theorem stanzas_gen (ps : List Pr) (v : Value) (q : Option Addr) (w : World) (hl : ∀ W, Below w.heap.size w W → AllR W (.pointer q) v ps) (ok : EntsOk ps) :
    Calls Try.prog 35 #[.pointer q] w fun e w' => ∃ u fvs, e = .returned u ∧ AccZ w.heap.size w w' u fvs (stzL (stzP 0 ps)) := by
  obtain ⟨A, cap, hv, hle⟩ := (hl w (Below.refl _ _)).1.empty
  have ALL := Lib.hid (fun W hB => callsIn_wide (n := 8).2 (hl W hB).2)
  have HE := Lib.hid (fun W hB => (hl W hB).1)
  have ST := Lib.hid (fun W => callsIn_wide (n := 8).2 (stz7_any v W A ps.length cap hv))
  have HF := Lib.hid ok.fields
  have hps : ps.length ≤ 1000000 := by have := ok.len; omega
  clear hl hv ok
  refine callsIn_wide (n := 9).1 ?_
  refine callsIn_of_wp_marks Try.func35 rfl trivial ?_ rfl
  simp only [Try.ntmps35, List.size_toArray, List.length_cons, List.length_nil, Nat.reduceAdd, Nat.reduceSub, Array.replicate_succ, Array.replicate_zero, List.push_toArray, List.append_toArray, List.nil_append, List.cons_append]
  gi_wp2_with fail
  have hb0 : Below w.heap.size w (w.alloc (.cells #[.slice none 0 0] 29)) := (Below.refl _ w).alloc (Nat.le_refl _) _
  refine ⟨trivial, (ALL.out _ hb0).mono ?_⟩
  rintro e w1 ⟨rfl, rfl⟩
  gi_wp2_with fail
  refine ⟨trivial, (ST.out _).mono ?_⟩
  rintro e w1 ⟨rfl, rfl⟩
  gi_wp2_with fail
  obtain ⟨w1, hw1⟩ : ∃ w1, w1 = ((w.alloc (.cells #[.slice none 0 0] 29)).alloc (.cells #[v] 106)) := ⟨_, rfl⟩
  have hz : w1.heap.size = w.heap.size + 2 := by rw [hw1]; simp
  have B0 : Boxed w1 w.heap.size 29 (.slice none 0 0) := by rw [hw1]; exact (Boxed.new w _ _).alloc _
  have B1 : Boxed w1 (w.heap.size + 1) 106 v := by rw [hw1]; exact boxNew2 w _ _ _
  have hb1 : Below w.heap.size w w1 := by rw [hw1]; exact hb0.alloc (by simp) _
  rw [← hw1]
  clear hw1 hb0
  have HH := stz_hands ps v _ w1 B1 hps (HE.out _ hb1)
  refine wp_rangedKA (gf := 59) (lb := #[.pointer (some ⟨w.heap.size + 1, 0, none⟩)]) rfl (enters_of Try.func59 (by kernel_rfl) rfl) HH (fun _ => rfl)
    (fun pre W => ∃ u fvs, Boxed W w.heap.size 29 u ∧ AccZ (w.heap.size + 6) w W u fvs (stzL pre) ∧ Boxed W (w.heap.size + 1) 106 v)
    (fun _ _ _ => False)
    (by
      rw [hz]
      rintro pre W W' ⟨u, fvs, h1, h2, h3⟩ ht
      exact ⟨u, fvs, ht.box h1 (.inl (by omega)), h2.turned ht (by omega) (by omega), ht.box h3 (.inl (by omega))⟩)
    (fun _ _ _ _ hs _ => hs)
    ⟨_, [], B0, AccZ.start _ _ _ hb1, B1⟩
    (fun pre W h => by obtain ⟨u, fvs, h1, h2, h3⟩ := h; exact ⟨HE.out _ h2.below, h3⟩)
    (fun a pre x a' W => ∃ Bx, w.heap.size + 6 ≤ Bx ∧ a' = { tmps := ((a.tmps.setIfInBounds 9 (.int .i64 (x.1 : Nat))).setIfInBounds 10 (entV x.2)).setIfInBounds 5 (ptr Bx), defers := [] } ∧ Cells W Bx 111 #[.int .i64 x.2.1.1.kind, .string (B x.2.1.1.raw), x.2.2, .int .i64 x.2.1.2] ∧
      ∃ u fvs, Boxed W w.heap.size 29 u ∧ AccZ (w.heap.size + 6) w W u fvs (stzL pre) ∧ Boxed W (w.heap.size + 1) 106 v)
    ?hM ?assign ?body ?done ?stop
  case hM =>
    rw [hz]
    rintro a pre x a' _ W W' ⟨Bx, h0, h0', h0'', u, fvs, h1, h2, h3⟩ ht
    exact ⟨Bx, h0, h0', (ht.same Bx h0''.lt (.inr (by omega))).trans h0'', u, fvs, ht.box h1 (.inl (by omega)), h2.turned (ht.sub (Nat.le_refl _) (show w.heap.size + 2 + 2 ≤ w.heap.size + 2 + 4 by omega)) (by omega) (by omega), ht.box h3 (.inl (by omega))⟩
  case assign =>
    rw [hz]
    rintro l pre x post W hx hsz ⟨u, fvs, h1, h2, h3⟩
    have hfr : ∃ fa fc, x.2.2 = .slice fa x.2.1.1.fields.length fc := by
      have hm := stzG_mem 0 ps x (by rw [show stzG (fun p : Pr => p.1.1.kind) 0 ps = _ from hx]; simp)
      exact ((HE.out _ h2.below).each x.2 (List.mem_of_getElem? hm.2.1)).form
    obtain ⟨k, ⟨⟨⟨kd, raw, fs⟩, num⟩, fv⟩⟩ := x
    obtain ⟨fa, fc, e⟩ := hfr
    dsimp only at e
    subst e
    clear hx
    dsimp only [entV]
    gi_wp2
    exact ⟨(Stay.refl _ _ W).alloc hsz _, W.heap.size, by omega, rfl, Cells.new _ _ _, u, fvs, h1.alloc _, h2.alloc _, h3.alloc _⟩
  case body =>
    rw [hz]
    rintro l pre x post a' W hx hsz ⟨Bx, hB, rfl, hc, u, fvs, h1, h2, h3⟩
    have hm := stzG_mem 0 ps x (by rw [show stzG (fun p : Pr => p.1.1.kind) 0 ps = _ from hx]; simp)
    have hpx := List.mem_of_getElem? hm.2.1
    have hfr := (HE.out _ h2.below).each x.2 hpx
    obtain ⟨fa, fc, hfv⟩ := hfr.form
    have hnn : (stzL pre).length ≤ 1000000 := by
      have h4 := congrArg List.length hx
      have h5 := stzG_len (κ := fun p : Pr => p.1.1.kind) 0 ps
      unfold stzL
      simp at h4 ⊢
      simp only [stzP] at h4 h5
      omega
    refine wpIn_block (wp_region_round (by decide +kernel) (by rintro ⟨a, w, h⟩; exact h) (by kernel_rfl) ?_)
    refine region_stz _ W w.heap.size Bx (w.heap.size + 6) (stzL pre).length x.2 fa fc u (stzCells (stzL pre) fvs) _ rfl rfl (by simp) h1 hc hfv hfr (HF.out _ hpx) h2.row (by omega) hnn ?_
    intro a y g c w2 _ _ _ r1 r2 r3
    have r1' := rowBase r1 (show w.heap.size + 6 ≤ W.heap.size by omega)
    have acc2 := Lib.hid (h2.snoc (s := (x.2.1.2, x.2.1.1.fields)) (by omega) r1' r2 r3)
    have hne : ¬ u.ownBlock = some w.heap.size := fun e => by have := (h2.row.lt _ e).1; omega
    have hne1 : ¬ u.ownBlock = some (w.heap.size + 1) := fun e => by have := (h2.row.lt _ e).1; omega
    have b1 : Boxed w2 w.heap.size 29 u := (r3.same _ h1.lt hne).trans h1
    have b3 : Boxed w2 (w.heap.size + 1) 106 v := (r3.same _ h3.lt hne1).trans h3
    have hst : Stay (w.heap.size + 2) (2 + 2) W w2 := ⟨r3.size, fun r p1 p2 => r3.same r (by omega) (fun e => by have := (h2.row.lt _ e).1; omega)⟩
    refine ⟨hst.setCell (.inl (by show w.heap.size < _; omega)) _, _, fvs ++ [y], Boxed.set _ b1, ?_, b3.other (by show w.heap.size + 1 ≠ w.heap.size; omega) _⟩
    rw [stzL_snoc]
    exact acc2.out.set (by omega) (Nat.le_refl _) _
  case done =>
    rw [hz]
    rintro W ⟨u, fvs, b0, acc, b1⟩ hK
    obtain ⟨ua, uc, rfl, _⟩ := own_slice acc.row
    have c := b0.cell
    gi_wp2
    refine ⟨by simp, .inl ⟨_, _, rfl, run_takeDeferred hK, ?_⟩⟩
    have kb : Below w.heap.size W (W.putObj (w.heap.size + 2) (.deferred none)) := belowK_b (w := w) (Nat.le_refl _) W _ _ _ (by omega) hK rfl rfl
    have pb := grownBy_putObj' W (w.heap.size + 2) (.deferred none)
    refine ⟨_, results_tmp rfl _ _ _, .slice ua (stzL (stzP 0 ps)).length uc, fvs, rfl, ⟨rowBase (row_same acc.row fun b e => pb.block b (acc.row.lt b e).2 (fun q => ?_)) (by omega), acc.len, fun j s x q1 q2 => rowBase (row_same (acc.each j s x q1 q2) fun b e => pb.block b ((acc.each j s x q1 q2).lt b e).2 (fun q => ?_)) (by omega), acc.below.trans kb⟩⟩
    · have := (acc.row.lt b e).1
      have := Option.some.inj q
      omega
    · have := ((acc.each j s x q1 q2).lt b e).1
      have := Option.some.inj q
      omega
  case stop =>
    intro c pre W _ h _
    exact h.elim
end Go.Proofs.Ytiebbgbcojgeoaa

namespace Go.Proofs.Ytiebbgbcojgeoaa
open Go.RowKit Go.Maps Go.Sort Go.Shelf

theorem numF_append (a b : List Sz) : numF (a ++ b) = numF a + numF b := by unfold numF; rw [List.map_append, List.sum_append]
theorem numF_take (rs : List Sz) (j : Nat) : numF (rs.take j) ≤ numF rs := by
  have h := numF_append (rs.take j) (rs.drop j)
  rw [List.take_append_drop] at h
  omega
theorem take_nodup {rs : List Sz} (nd : (rs.map Prod.fst).Nodup) {j : Nat} {s : Sz} (h : rs[j]? = some s) : idsOf (rs.take j) s.1 = false := by
  rw [Bool.eq_false_iff]
  intro e
  rw [idsOf_iff] at e
  have h2 : rs.take (j + 1) = rs.take j ++ [s] := by rw [List.take_add_one, h]; rfl
  have h3 : ((rs.take (j + 1)).map Prod.fst).Nodup := nd.sublist ((List.take_sublist _ _).map _)
  rw [h2, List.map_append] at h3
  exact (List.nodup_append.1 h3).2.2 _ e _ (List.mem_singleton.2 rfl) rfl
set_option maxRecDepth 100000 in
set_option maxHeartbeats 4000000 in
theorem ofI_any (q : Option Addr) (rs : List Stz) (w : World) (hS : ∀ W, Below w.heap.size w W → Calls Try.prog 35 #[.pointer q] W fun e w' => ∃ u fvs, e = .returned u ∧ AccZ W.heap.size W w' u fvs rs)
    (hid : ∀ s ∈ rs, (Lit.int .i64 s.1).wf = true) (nd : (rs.map Prod.fst).Nodup) (hf : ∀ s ∈ rs, ∀ f ∈ s.2, f.1.length ≤ maxLen ∧ f.2.length ≤ maxLen) (hn : rs.length + 2 * numF rs ≤ 800000) :
    Calls Try.prog 17 #[.pointer q] w fun e w' => ∃ x kb yb T, e = .returned (.pointer (some ⟨x, 0, none⟩)) ∧ IdxL w.heap.size w' T x kb yb (rs.length + 2 * numF rs) rs ∧ Below w.heap.size w w' := by
  have NW := Lib.hid (new_L w)
  have HS := Lib.hid hS
  have HF := Lib.hid hf
  have HD := Lib.hid nd
  have HI := Lib.hid hid
  have HN : Hid (∀ j, j ≤ rs.length → j + 2 * numF (rs.take j) ≤ 800000) := fun j hj => by have := numF_take rs j; omega
  have hrl : rs.length ≤ 800000 := by omega
  clear hS hf nd hid
  go_enter Try.func17, Try.ntmps17
  go_wp2_with fail
  refine NW.out.mono ?_
  rintro e w1 ⟨rfl, T, hi, hb⟩
  obtain ⟨x, hx⟩ : ∃ x, x = w.heap.size + 2 := ⟨_, rfl⟩
  rw [← hx] at hi ⊢
  have HI1 := Lib.hid hi
  have HB1 := Lib.hid hb
  have ST := Lib.hid (HS.out w1 hb)
  clear hi hb hx NW
  go_wp2_with fail
  refine ST.out.mono ?_
  rintro e w2 ⟨u, fvs, rfl, acc⟩
  obtain ⟨ua, uc, rfl, huc⟩ := own_slice acc.row
  have I2 := HI1.out.bareT.below acc.below (Nat.le_refl _)
  obtain ⟨T2, hT2⟩ : ∃ T2, T2 = bareT T w1.heap.size := ⟨_, rfl⟩
  rw [← hT2] at I2
  have HT2 : Hid (∀ c, w1.heap.size ≤ c → T2 c = (0, [], [])) := fun c hc => by rw [hT2]; exact bareT_ge hc
  have HI2 := Lib.hid I2
  have HB2 := Lib.hid (HB1.out.trans (acc.below.mono HB1.out.size))
  have HA := Lib.hid acc
  clear I2 acc ST hT2 HI1
  go_wp2_with fail
  go_loopw [10] (fun i wr => ∃ (j : Nat) (T' : Nat → Tag), j ≤ rs.length ∧ i = .int .i64 j ∧ (∀ c, c < w2.heap.size → T' c = T2 c) ∧ IdxL w.heap.size wr T' x w.heap.size (w.heap.size + 1) (j + 2 * numF (rs.take j)) (rs.take j) ∧ Only (OfIdx T2) w2 wr) (fun i _ => rs.length - (intOf i).toNat)
  case atStart => exact ⟨0, T2, Nat.zero_le _, rfl, fun _ _ => rfl, HI2.out, Only.refl _ _⟩
  case round =>
    obtain ⟨j, T', hj, rfl, ht, hi, ho⟩ := hrel
    by_cases hlt : j < rs.length
    · obtain ⟨s, hs⟩ : ∃ s, rs[j]? = some s := ⟨_, List.getElem?_eq_getElem hlt⟩
      obtain ⟨fx, hfx⟩ : ∃ y, fvs[j]? = some y := ⟨_, List.getElem?_eq_getElem (by rw [HA.out.len]; exact hlt)⟩
      have nb : ∀ {e size n xs} {v : Value}, w2.ownsRow w1.heap.size e size v n xs → ∀ b, v.ownBlock = some b → ¬ OfIdx T2 b := fun hrow b hb hq => by
        unfold OfIdx at hq
        rw [HT2.out b (hrow.lt b hb).1] at hq
        exact hq rfl
      have hrow := row_only HA.out.row ho (nb HA.out.row)
      have hx1 := HA.out.each j s fx hs hfx
      obtain ⟨xa, xc, rfl, _⟩ := own_slice hx1
      obtain ⟨g, cg, hug⟩ := Joins.ownsRow_form hrow (by omega)
      obtain ⟨z0, z1⟩ := stzCells_at rs fvs j s _ hs hfx
      rw [hug] at hrow
      have c0 : wr.cell? ⟨g, j * 2, none⟩ = some (.int .i64 s.1) := by rw [World.ownsRow.cellAt hrow (j * 2) (by omega), z0]
      have c1 : wr.cell? ⟨g, j * 2 + 1, none⟩ = some (.slice xa s.2.length xc) := by rw [World.ownsRow.cellAt hrow (j * 2 + 1) (by omega), z1]
      injection hug with q1 _ q3
      subst q1 q3
      obtain ⟨wa, hwa⟩ : ∃ wa, wa = wr.alloc (.cells #[.int .i64 s.1, .slice xa s.2.length xc] 69) := ⟨_, rfl⟩
      have hba : Below wr.heap.size wr wa := by rw [hwa]; exact (Below.refl _ _).alloc (Nat.le_refl _) _
      have ia := hi.bareT.below hba (Nat.le_refl _)
      have hmem := List.mem_of_getElem? hs
      have hsz := ho.size
      have tb : ∀ c, c < w2.heap.size → bareT T' wr.heap.size c = T2 c := fun c hc => (bareT_lt (by omega)).trans (ht c hc)
      have tr : ∀ W, Only (OfIdx (bareT T' wr.heap.size)) wa W → Only (OfIdx T2) w2 W := fun W hW => (ho.below hba hsz).trans hW fun r hr e => by unfold OfIdx at e ⊢; rwa [tb r hr] at e
      have h2 : rs.take (j + 1) = rs.take j ++ [(s.1, s.2)] := by rw [List.take_add_one, hs]; rfl
      have hnj := HN.out (j + 1) hlt
      have hnf : numF (rs.take (j + 1)) = numF (rs.take j) + s.2.length := by rw [h2, numF_append]; simp [numF]
      have KN := know_any ia.at_ s.1 (HI.out s hmem) (.slice xa s.2.length xc) s.2 (fun W hW => flds_of_own (row_only hx1 (tr W hW) (nb hx1))) (by omega) (fun k v => fOf_out _ k v _ (take_nodup HD.out hs)) (HF.out s hmem) ia.size
      have e1 := idsOf_snoc (rs.take j) s.1 s.2
      have e2 := fOf_snoc (rs.take j) s.1 s.2
      rw [← h2] at e1 e2
      rw [e1, e2] at KN
      have HK := Lib.hid KN
      have FIN : Hid (∀ w5 T5, (∀ c, c < wa.heap.size → T5 c = bareT T' wr.heap.size c) → IdxAt w5 T5 w.heap.size x w.heap.size (w.heap.size + 1) (j + 2 * numF (rs.take j) + 1 + 2 * s.2.length) (idsOf (rs.take (j + 1))) (fOf (rs.take (j + 1))) → Only (OfIdx (bareT T' wr.heap.size)) wa w5 →
          (∀ c, c < w2.heap.size → T5 c = T2 c) ∧ IdxL w.heap.size w5 T5 x w.heap.size (w.heap.size + 1) (j + 1 + 2 * numF (rs.take (j + 1))) (rs.take (j + 1)) ∧ Only (OfIdx T2) w2 w5) := fun w5 T5 ht5 hi5 ho5 => by
        have hws : w2.heap.size ≤ wa.heap.size := Nat.le_trans hsz hba.size
        have e3 : ∀ c, c < w2.heap.size → T5 c = T2 c := fun c hc => (ht5 c (by omega)).trans (tb c hc)
        refine ⟨e3, ⟨hi5.mono (by omega), fun c hc => ?_, Nat.le_trans ia.size ho5.size, by omega⟩, tr _ ho5⟩
        have hw2 : w.heap.size ≤ w2.heap.size := HI2.out.size
        rw [e3 c (by omega)]; exact HI2.out.low c hc
      clear KN e1 e2 hnf hnj h2 tr tb ia hba hi ho ht hx1 hrow z0 z1 hs hfx nb hmem
      subst hwa
      go_wp2_with fail
      refine HK.out.mono ?_
      rintro e w5 ⟨rfl, T5, q1, q2, q3⟩
      obtain ⟨p1, p2, p3⟩ := FIN.out w5 T5 q1 q2 q3
      have P := Lib.hid (And.intro p1 (And.intro p2 p3))
      clear q1 q2 q3 p1 p2 p3 HK FIN
      go_wp2_with fail
      exact ⟨⟨j + 1, T5, hlt, by go_num, P.out.1, P.out.2.1, P.out.2.2⟩, by simp [intOf]; omega⟩
    · obtain rfl : j = rs.length := by omega
      rw [List.take_length] at hi
      have HL := Lib.hid hi
      have HBW := Lib.hid (HB2.out.trans (HI2.out.only (T' := T2) ho))
      clear hi ho ht
      go_wp2_with fail
      go_ret
      exact ⟨_, _, _, _, rfl, HL.out, HBW.out⟩
end Go.Proofs.Ytiebbgbcojgeoaa

namespace Go.Proofs.Ytiebbgbcojgeoaa
open Go.RowKit Go.Maps Go.Sort Go.Shelf
attribute [local go_sem] Oper.semAt_some

theorem entsOkZ : EntsOk [] := ⟨by decide, (fun p h => by cases h), (fun p h => by cases h), (fun p h => by cases h)⟩
theorem stz_nil (W : World) : Calls Try.prog 35 #[.pointer none] W fun e w' => ∃ u fvs, e = .returned u ∧ AccZ W.heap.size W w' u fvs [] :=
  stanzas_gen [] (.slice none 0 0) none W (fun W _ => AllR.none W) entsOkZ
theorem ofN (w : World) : Calls Try.prog 17 #[.pointer none] w fun e w' => ∃ x kb yb T, e = .returned (.pointer (some ⟨x, 0, none⟩)) ∧ IdxL w.heap.size w' T x kb yb 0 [] ∧ Below w.heap.size w w' :=
  ofI_any none [] w (fun W _ => stz_nil W) (fun s h => by cases h) List.nodup_nil (fun s h => by cases h) (by decide)
theorem flds_none (W : World) : Flds W (.slice none 0 0) [] := ⟨none, 0, rfl, Nat.le_refl _, fun i f h => by cases h⟩
set_option maxRecDepth 100000 in
set_option maxHeartbeats 8000000 in
theorem noneLaw (id : Int) (hw : (Lit.int .i64 id).wf = true) (k lo hi : ByteArray) (w : World) :
    Calls Try.prog 4 #[.int .i64 id, .agg #[.string k, .string lo, .string hi]] w fun e w' => e = .returned (.bool true) ∧ Below w.heap.size w w' := by
  obtain ⟨wa, hwa⟩ : ∃ wa, wa = w.alloc (.cells #[.string k, .string lo, .string hi] 24) := ⟨_, rfl⟩
  have hba : Below w.heap.size w wa := by rw [hwa]; exact (Below.refl _ _).alloc (Nat.le_refl _) _
  have HC : Hid (Cells wa w.heap.size 24 #[.string k, .string lo, .string hi]) := by show Cells _ _ _ _; rw [hwa]; exact Cells.new w _ _
  have FACT : Hid (∀ W, Below wa.heap.size wa W → W.cell? ⟨w.heap.size, 0, none⟩ = some (.string k) ∧ W.cell? ⟨w.heap.size, 1, none⟩ = some (.string lo) ∧ W.cell? ⟨w.heap.size, 2, none⟩ = some (.string hi)) := fun W hW => by
    have hc : Cells W w.heap.size 24 #[.string k, .string lo, .string hi] := (hW.block _ HC.out.lt).trans HC.out
    exact ⟨hc.cell 0, hc.cell 1, hc.cell 2⟩
  have HBA := Lib.hid hba
  have HWA := Lib.hid hwa
  have AL := Lib.hid (idxAlive wa)
  clear hwa hba
  go_enter Try.func4, Try.ntmps4
  go_wp2_with fail
  rw [← HWA.out]
  refine AL.out.mono ?_
  rintro e w0 ⟨rfl, b0⟩
  have B0 := Lib.hid b0
  clear b0 AL
  go_wp2_with fail
  refine (ofN w0).mono ?_
  rintro e w1 ⟨y, kb, yb, T, rfl, hi1, b1⟩
  have B1 := Lib.hid (B0.out.trans (b1.mono B0.out.size))
  have I1 := Lib.hid hi1
  clear b1 hi1
  go_wp2_with fail
  refine (put_nil w1 id _).mono ?_
  rintro e w2 ⟨rfl, hw2⟩
  have B2 := Lib.hid (show Below wa.heap.size wa w2 by rw [hw2]; exact B1.out)
  have I2 := Lib.hid (show IdxL w0.heap.size w2 T y kb yb 0 [] by rw [hw2]; exact I1.out)
  clear hw2
  obtain ⟨q0_2, q1_2, q2_2⟩ := FACT.out w2 B2.out
  go_wp2_with fail
  clear B1 I1 
  refine (is_one 1 (by decide) 1 w2).mono ?_
  rintro e w3 ⟨rfl, hw3⟩
  have B3 := Lib.hid (show Below wa.heap.size wa w3 by rw [← hw3]; exact B2.out)
  have I3 := Lib.hid (show IdxL w0.heap.size w3 T y kb yb 0 [] by rw [← hw3]; exact I2.out)
  clear hw3
  obtain ⟨q0_3, q1_3, q2_3⟩ := FACT.out w3 B3.out
  go_wp2_with fail
  clear B2 I2 q0_2 q1_2 q2_2
  refine (drop_nil w3 id).mono ?_
  rintro e w4 ⟨rfl, hw4⟩
  have B4 := Lib.hid (show Below wa.heap.size wa w4 by rw [hw4]; exact B3.out)
  have I4 := Lib.hid (show IdxL w0.heap.size w4 T y kb yb 0 [] by rw [hw4]; exact I3.out)
  clear hw4
  obtain ⟨q0_4, q1_4, q2_4⟩ := FACT.out w4 B4.out
  go_wp2_with fail
  clear B3 I3 q0_3 q1_3 q2_3
  refine (with_nil k w4).mono ?_
  rintro e w5 ⟨rfl, b5⟩
  have B5 := Lib.hid (B4.out.trans (b5.mono B4.out.size))
  have I5 := Lib.hid (I4.out.below b5 (Nat.le_refl _))
  clear b5
  obtain ⟨q0_5, q1_5, q2_5⟩ := FACT.out w5 B5.out
  go_wp2_with fail
  clear B4 I4 q0_4 q1_4 q2_4
  refine (equal_nil k lo w5).mono ?_
  rintro e w6 ⟨rfl, b6⟩
  have B6 := Lib.hid (B5.out.trans (b6.mono B5.out.size))
  have I6 := Lib.hid (I5.out.below b6 (Nat.le_refl _))
  clear b6
  obtain ⟨q0_6, q1_6, q2_6⟩ := FACT.out w6 B6.out
  go_wp2_with fail
  clear B5 I5 q0_5 q1_5 q2_5
  refine (between_nil k lo hi w6).mono ?_
  rintro e w7 ⟨rfl, b7⟩
  have B7 := Lib.hid (B6.out.trans (b7.mono B6.out.size))
  have I7 := Lib.hid (I6.out.below b7 (Nat.le_refl _))
  clear b7
  obtain ⟨q0_7, q1_7, q2_7⟩ := FACT.out w7 B7.out
  go_wp2_with fail
  clear B6 I6 q0_6 q1_6 q2_6
  refine (keys_nil w7).mono ?_
  rintro e w8 ⟨rfl, hw8⟩
  have B8 := Lib.hid (show Below wa.heap.size wa w8 by rw [hw8]; exact B7.out)
  have I8 := Lib.hid (show IdxL w0.heap.size w8 T y kb yb 0 [] by rw [hw8]; exact I7.out)
  clear hw8
  obtain ⟨q0_8, q1_8, q2_8⟩ := FACT.out w8 B8.out
  go_wp2_with fail
  clear B7 I7 q0_7 q1_7 q2_7
  refine (values_nil k w8).mono ?_
  rintro e w9 ⟨rfl, b9⟩
  have B9 := Lib.hid (B8.out.trans (b9.mono B8.out.size))
  have I9 := Lib.hid (I8.out.below b9 (Nat.le_refl _))
  clear b9
  obtain ⟨q0_9, q1_9, q2_9⟩ := FACT.out w9 B9.out
  go_wp2_with fail
  clear B8 I8 q0_8 q1_8 q2_8
  refine (count_nil k lo w9).mono ?_
  rintro e w10 ⟨rfl, b10⟩
  have B10 := Lib.hid (B9.out.trans (b10.mono B9.out.size))
  have I10 := Lib.hid (I9.out.below b10 (Nat.le_refl _))
  clear b10
  obtain ⟨q0_10, q1_10, q2_10⟩ := FACT.out w10 B10.out
  go_wp2_with fail
  clear B9 I9 q0_9 q1_9 q2_9
  refine (len_nil w10).mono ?_
  rintro e w11 ⟨rfl, hw11⟩
  have B11 := Lib.hid (show Below wa.heap.size wa w11 by rw [hw11]; exact B10.out)
  have I11 := Lib.hid (show IdxL w0.heap.size w11 T y kb yb 0 [] by rw [hw11]; exact I10.out)
  clear hw11
  obtain ⟨q0_11, q1_11, q2_11⟩ := FACT.out w11 B11.out
  go_wp2_with fail
  clear B10 I10 q0_10 q1_10 q2_10
  have LN := Lib.hid (len_idx I11.out.at_ (by decide))
  refine LN.out.mono ?_
  rintro e w12 ⟨ss, rfl, nd, mm, hw12⟩
  have e0 : ss = [] := List.eq_nil_iff_forall_not_mem.2 fun i hi => by have := (mm i).1 hi; cases this
  subst e0
  have B12 := Lib.hid (show Below wa.heap.size wa w12 by rw [hw12]; exact B11.out)
  have I12 := Lib.hid (show IdxL w0.heap.size w12 T y kb yb 0 [] by rw [hw12]; exact I11.out)
  clear hw12 nd mm LN B11 I11 q0_11 q1_11 q2_11
  go_wp2_with fail
  have PT := Lib.hid (put_L I12.out 1 (by decide) (by decide) (.slice none 0 0) [] (fun W _ => flds_none W) (by decide) (fun f h => by cases h))
  refine PT.out.mono ?_
  rintro e w13 ⟨rfl, T', _, hi', ho⟩
  have HB := Lib.hid (HBA.out.trans ((B12.out.trans ((I12.out.only (T' := T) ho).mono B0.out.size)).mono HBA.out.size))
  clear hi' ho PT
  go_wp2_with fail
  go_ret
  exact ⟨rfl, HB.out⟩
open Go.Maps Go.ChangeShapes Go.Joins Go.WideShapes in
set_option maxRecDepth 100000 in
theorem noneCall {H : Type} {enc : TypeId × Value → H} (id : Int) (v : Value) (d : DataW H) (p : List MemPlace) (W : World) (hw : (Lit.int .i64 id).wf = true) {b0 : Nat} (hval : Value.okWide Try.prog W .any b0 24 v) {base : Nat} {sp : Nat → Bool} {held : Bool} (h : DataW.Trod enc Try.prog W base sp held 24 v d p) :
    Calls Try.prog 4 #[.int .i64 id, v] W fun e w' => e = .returned (.bool true) ∧ Below W.heap.size W w' := by
  obtain ⟨c0, c1, c2, y0, y1, y2, n, rfl, _, _, h0, h1, h2⟩ := open_agg3 Try.underlying24 (by kernel_rfl) (by kernel_rfl) hval h
  obtain ⟨s0, e0, _, w0⟩ := DataW.trod_string Try.underlying9 h0
  obtain ⟨s1, e1, _, w1⟩ := DataW.trod_string Try.underlying9 h1
  obtain ⟨s2, e2, _, w2⟩ := DataW.trod_string Try.underlying9 h2
  simp at e0 e1 e2
  subst e0 e1 e2
  exact noneLaw id hw s0 s1 s2 W
end Go.Proofs.Ytiebbgbcojgeoaa

