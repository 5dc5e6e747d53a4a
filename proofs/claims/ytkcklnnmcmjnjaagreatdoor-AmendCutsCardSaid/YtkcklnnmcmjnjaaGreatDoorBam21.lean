/- Texts put together: EJ, RO, JB, EM, AI. -/
import Derived.StillTail
import Derived.Test.YtkcklnnmcmjnjaaGreatDoorBam2
import Derived.Test.YtkcklnnmcmjnjaaGreatDoorBam4
import Derived.Test.YtkcklnnmcmjnjaaGreatDoorBam19
import Derived.Test.YtkcklnnmcmjnjaaGreatDoorBam20
set_option linter.unusedVariables false
namespace Go.Proofs.YtkcklnnmcmjnjaaGreatDoor
open Go.RowKit

theorem todo_set {l : Array Bool} {i : Nat} (hi : i < l.size) (hl : l.getD i true = false) : todo (l.setIfInBounds i true) + 1 = todo l := by
  have hlf : l[i] = false := by simpa [Array.getD, hi] using hl
  have key : ∀ (xs : List Bool) (j : Nat) (hj : j < xs.length), xs[j] = false → ((xs.set j true).filter (fun b => !b)).length + 1 = (xs.filter (fun b => !b)).length := by
    intro xs
    induction xs with
    | nil => intro j hj; simp at hj
    | cons x xs ih2 =>
      intro j hj hx
      cases j with
      | zero => simp at hx; subst hx; simp
      | succ j =>
        have := ih2 j (by simpa using hj) (by simpa using hx)
        cases x <;> simp at this ⊢ <;> omega
  have h2 := key l.toList i (by simpa using hi) (by simpa using hlf)
  unfold todo
  have e : (l.setIfInBounds i true).toList = l.toList.set i true := by simp
  rw [e]; exact h2
theorem todo_head {l : Array Bool} {n g : Nat} (hs : l.size = n + g) (h1 : ∀ i, i < n → l.getD i true = true) (h2 : ∀ t, n ≤ t → t < l.size → l.getD t true = false) : l = (List.replicate n true ++ List.replicate g false).toArray := by
  apply Array.ext
  · simp [hs]
  · intro i hi _
    have e : l[i] = l.getD i true := by simp [Array.getD, hi]
    rw [e]
    by_cases h : i < n
    · rw [h1 i h]; simp [h]
    · rw [h2 i (by omega) hi]; simp [List.getElem_append, h]
theorem wpAny_mono_tail {P : Program} {l0 : List Oper} {Q : Exit → Act → World → Prop} (n g : Nat) (hng : n + g = l0.length) (hg : 0 < g) (a0 : Act) (w0 : World) (dst : Nat → Option Nat) (L : List (Value → World → Prop)) (M : AllM L)
    (hs : Region.sinkB .any l0.toArray n = true) (hc : Region.chainB .any l0.toArray n = true) (hq : Region.seqB .any l0.toArray g n (List.replicate n true ++ List.replicate g false).toArray = true)
    (hd : ∀ i o, i < n → l0[i]? = some o → o.dst = dst i) (inj : ∀ i k d, i < n → k < n → dst i = some d → dst k = some d → i = k) (dlt : ∀ i d, i < n → dst i = some d → d < a0.tmps.size)
    (hlow : ∀ i o e, l0[i]? = some o → e ∈ o.after → Region.binds .any e = true → e.on < i)
    (step : ∀ i o a w, i < n → l0[i]? = some o → a.tmps.size = a0.tmps.size → (∀ j, (∀ k, k < n → dst k ≠ some j) → a.tmps[j]? = a0.tmps[j]?) → (∀ e ∈ o.after, Region.binds .any e = true → ∀ d, dst e.on = some d → ∃ v, a.tmps[d]? = some v ∧ pvL L e.on v w) → Below w0.heap.size w0 w →
      (Region.wanted o (yielded l0.toArray a.tmps) = true ∧ ∀ K : Act → World → Prop, (∀ v w', Below w.heap.size w w' → pvL L i v w' → K (a.put (dst i) v) w') → Oper.wp P o a w K Q) ∨ (Region.wanted o (yielded l0.toArray a.tmps) = false ∧ pvL L i undef w))
    (tail : ∀ a w, a.defers = a0.defers → a.tmps.size = a0.tmps.size → (∀ j, (∀ k, k < n → dst k ≠ some j) → a.tmps[j]? = a0.tmps[j]?) → (∀ i d, i < n → dst i = some d → ∃ v, a.tmps[d]? = some v ∧ pvL L i v w) → Below w0.heap.size w0 w → wpList P l0.toArray Q (l0.drop n) a w) :
    wpAny P .any l0.toArray Q l0.toArray.size (Array.replicate l0.toArray.size false) a0 w0 := by
  have key : ∀ (m : Nat) (l : Array Bool) (a : Act) (w : World), HeadInv .any l0.toArray n l → MTab a0 w0 n dst (pvL L) (fun x y => Below x.heap.size x y) l a w → todo l = m → wpAny P .any l0.toArray Q m l a w := by
    intro m
    induction m with
    | zero =>
      intro l a w inv I ht
      exfalso
      have hn : n < l.size := by rw [inv.size]; simp; omega
      have h1 := todo_set hn (inv.tail n (Nat.le_refl _) (by simp; omega))
      omega
    | succ m ih =>
      intro l a w inv I ht
      by_cases hh : ∃ i, i < n ∧ l.getD i true = false
      · obtain ⟨i0, hi0, hl0⟩ := hh
        have hwait := tail_waits hs hc (by simp; omega) inv (n - i0) i0 rfl hi0 hl0
        refine ⟨fun hr => ?_, fun i hi => ?_⟩
        · exfalso
          have hall := all_done (ops := l0.toArray) inv.size (fun i o e ho he hb => hlow i o e (by simpa using ho) he hb) hr i0 (by simp; omega)
          have hi0' : i0 < l.size := by rw [inv.size]; simp; omega
          have e1 : l.getD i0 false = l.getD i0 true := by simp [Array.getD, hi0']
          rw [e1, hl0] at hall; cases hall
        · have hin : i < n := by
            rcases Nat.lt_or_ge i n with q | q
            · exact q
            · exact absurd hi (hwait i q)
          obtain ⟨o, ho, hli, he⟩ := ready_spec hi
          have ho' : l0[i]? = some o := by simpa using ho
          have hil : i < l.size := by rw [inv.size]; simp; omega
          have dep : ∀ e ∈ o.after, Region.binds .any e = true → ∀ d, dst e.on = some d → ∃ v, a.tmps[d]? = some v ∧ pvL L e.on v w := fun e h1 h2 d h3 => I.val e.on d (he e h1 h2) h3
          have nxt : ∀ v w', Below w.heap.size w w' → pvL L i v w' → wpAny P .any l0.toArray Q m (l.setIfInBounds i true) (a.put (dst i) v) w' := by
            intro v w' hR hP
            refine ih _ _ _ (inv.set hi hin) ?_ (by have := todo_set hil hli; omega)
            have hwd : Below w0.heap.size w0 w' := I.wd.trans (hR.mono I.wd.size)
            cases hdi : dst i with
            | none =>
              refine ⟨I.dfr, I.sz, I.frm, fun k d hk hkd => ?_, hwd⟩
              rw [getD_set l i hil] at hk
              by_cases q : k = i
              · rw [q, hdi] at hkd; cases hkd
              · rw [if_neg q] at hk
                obtain ⟨u, h1, h2⟩ := I.val k d hk hkd
                exact ⟨u, h1, pvL_mono M hR h2⟩
            | some d0 =>
              have hd0 := dlt i d0 hin hdi
              have T : ∀ j, (a.put (some d0) v).tmps[j]? = if j = d0 then some v else a.tmps[j]? := fun j => by
                show (a.tmps.setIfInBounds d0 v)[j]? = _
                rw [Array.getElem?_setIfInBounds]
                by_cases h : d0 = j
                · subst h; simp [I.sz, hd0]
                · rw [if_neg h, if_neg (Ne.symm h)]
              refine ⟨I.dfr, ?_, fun j hj => ?_, fun k d hk hkd => ?_, hwd⟩
              · show (a.tmps.setIfInBounds d0 v).size = _
                simp [I.sz]
              · rw [T, if_neg (fun e => hj i hin (by rw [hdi, e]))]; exact I.frm j hj
              · rw [T]
                rw [getD_set l i hil] at hk
                by_cases q : k = i
                · subst q
                  rw [hdi] at hkd
                  rw [if_pos (Option.some.inj hkd).symm]
                  exact ⟨v, rfl, hP⟩
                · rw [if_neg q] at hk
                  have hkl : k < l.size := by
                    rcases Nat.lt_or_ge k l.size with z | z
                    · exact z
                    · rw [Array.getD_eq_getD_getElem?, Array.getElem?_eq_none (by omega)] at hk; cases hk
                  have hkn : k < n := by
                    rcases Nat.lt_or_ge k n with z | z
                    · exact z
                    · have h1 := inv.tail k z (by rw [← inv.size]; exact hkl)
                      have e1 : l.getD k false = l.getD k true := by simp [Array.getD, hkl]
                      rw [e1, h1] at hk; cases hk
                  rw [if_neg (fun e => q (inj k i d hkn hin hkd (by rw [hdi, e])))]
                  obtain ⟨u, h1, h2⟩ := I.val k d hk hkd
                  exact ⟨u, h1, pvL_mono M hR h2⟩
          unfold wpOp
          rw [ho]
          dsimp only
          rcases step i o a w hin ho' I.sz I.frm dep I.wd with ⟨h1, h2⟩ | ⟨h1, h2⟩
          · rw [if_pos h1]
            exact .inl (h2 _ nxt)
          · rw [if_neg (by rw [h1]; decide), hd i o hin ho']
            exact nxt undef w (Below.refl _ _) h2
      · have h1 : ∀ i, i < n → l.getD i true = true := fun i hi => by
          cases q : l.getD i true with
          | true => rfl
          | false => exact absurd ⟨i, hi, q⟩ hh
        have hls : l.size = n + g := by rw [inv.size]; simp; omega
        have el := todo_head hls h1 (fun t h2 h3 => inv.tail t h2 (by rw [← inv.size]; exact h3))
        have hd1 : ∀ i, i < n → l.getD i false = true := fun i hi => by
          have e1 : l.getD i false = l.getD i true := by
            have : i < l.size := by omega
            simp [Array.getD, this]
          rw [e1]; exact h1 i hi
        have hgl : (l0.drop n).length = g := by simp; omega
        have hm : m + 1 = g := by
          rw [← ht, el]
          unfold todo
          simp [List.filter_append]
        have := wpAny_of_seq (P := P) (md := .any) (ops := l0.toArray) (Q' := Q) (l0.drop n) n l a w (fun j => by simp [List.getElem?_drop]) (by rw [hgl, el]; exact hq)
          (tail a w I.dfr I.sz I.frm (fun i d hi h => I.val i d (hd1 i hi) h) I.wd)
        rw [hgl] at this
        rw [hm]; exact this
  refine key l0.toArray.size (Array.replicate l0.toArray.size false) a0 w0 ?_ ?_ (by unfold todo; simp)
  · exact ⟨by simp, fun j oj _ hl => (by rw [getD_replicate_false] at hl; cases hl), fun t _ ht => getD_in (by simpa using ht) (getD_replicate_false _ _)⟩
  · have e : ∀ i, (Array.replicate l0.toArray.size false).getD i false = false := fun i => getD_replicate_false _ i
    exact ⟨rfl, rfl, fun _ _ => rfl, (fun i d h => absurd ((e i).symm.trans h) (by decide)), Below.refl _ _⟩
end Go.Proofs.YtkcklnnmcmjnjaaGreatDoor

namespace Go.Proofs.YtkcklnnmcmjnjaaGreatDoor
open Go.RowKit Go.Shelf
attribute [local go_sem] Oper.semAt_some

theorem evT {a : Act} {i : Nat} {v : Value} (h : a.tmps[i]? = some v) : a.eval (.tmp i) = v := by
  show a.tmps.getD i undef = v
  rw [Array.getD_eq_getD_getElem?, h]; rfl
theorem wantN {ops : Array Oper} {o : Oper} {a : Act} (h : o.guard = none) : Region.wanted o (yielded ops a.tmps) = true := by
  unfold Region.wanted; rw [h]
theorem wantG {ops : Array Oper} {o : Oper} {a : Act} {i d : Nat} {b : Bool} (hg : o.guard = some (i, b)) (hd : ((ops[i]?).bind (·.dst)) = some d) (h : a.tmps[d]? = some (.bool b)) : Region.wanted o (yielded ops a.tmps) = true := by
  have y : yielded ops a.tmps i = some b := by
    unfold yielded
    rw [hd]
    show (match a.tmps[d]? with | some (.bool b) => some b | _ => none) = _
    rw [h]
  unfold Region.wanted
  rw [hg]
  show (yielded ops a.tmps i == some b) = true
  rw [y]; simp
theorem act_set : ∀ (L : List (Nat × Value)) (s t : Array Value), s.size = t.size → (∀ p ∈ L, s[p.1]? = some p.2) → (∀ j, j ∉ L.map Prod.fst → s[j]? = t[j]?) → s = L.foldl (fun u p => u.setIfInBounds p.1 p.2) t
  | [], s, t, _, _, h => Array.ext_getElem? (fun j => h j (by simp))
  | p :: L, s, t, hs, h1, h2 => by
    rw [List.foldl_cons]
    refine act_set L s _ (by simpa using hs) (fun q hq => h1 q (List.mem_cons_of_mem _ hq)) (fun j hj => ?_)
    rw [Array.getElem?_setIfInBounds]
    have hp := h1 p List.mem_cons_self
    by_cases q : p.1 = j
    · have : p.1 < t.size := by rw [← hs]; exact (Array.getElem?_eq_some_iff.1 hp).1
      rw [if_pos q, if_pos this, ← q]; exact hp
    · rw [if_neg q]
      exact h2 j (by rw [List.map_cons]; intro hm; rcases List.mem_cons.1 hm with e | e; exact q e.symm; exact hj e)
theorem act_set' {a a0 : Act} (L : List (Nat × Value)) (hd : a.defers = a0.defers) (hs : a.tmps.size = a0.tmps.size) (h1 : ∀ p ∈ L, a.tmps[p.1]? = some p.2) (h2 : ∀ j, j ∉ L.map Prod.fst → a.tmps[j]? = a0.tmps[j]?) : a = { a0 with tmps := L.foldl (fun u p => u.setIfInBounds p.1 p.2) a0.tmps } := by
  have := act_set L a.tmps a0.tmps hs h1 h2
  obtain ⟨t, d⟩ := a
  obtain ⟨t0, d0⟩ := a0
  simp only at this hd ⊢
  subst this hd
  rfl
section
variable {o : Oper} {a : Act} {w : World} {K : Act → World → Prop} {Q : Exit → Act → World → Prop}
theorem mo_run {v : Value} (e : (execOp a.eval o).run Tryz.prog w = .ok (.value v) w) (hK : K (a.put o.dst v) w) : Oper.wp Tryz.prog o a w K Q := by
  unfold Oper.wp
  rw [e]; exact hK
theorem mo_move {x : Operand} {v : Value} (ho : o.op = Op.move x) (hx : a.eval x = v) (hK : K (a.put o.dst v) w) : Oper.wp Tryz.prog o a w K Q :=
  mo_run (by simp only [execOp, ho, hx]; simp [go_sem]) hK
theorem mo_pick {c x y : Operand} {b : Bool} {v u z : Value} (ho : o.op = Op.pick c x y) (hc : a.eval c = .bool b) (hx : a.eval x = v) (hy : a.eval y = u) (hz : z = if b = true then v else u) (hK : K (a.put o.dst z) w) : Oper.wp Tryz.prog o a w K Q := by
  subst hz
  exact mo_run (by simp only [execOp, ho, hc, hx, hy]; cases b <;> simp [go_sem]) hK
theorem mo_neqI {x y : Operand} {m n : Int} (ho : o.op = Op.binOp BinOp.neq 3 x y 3) (hx : a.eval x = .int .i64 m) (hy : a.eval y = .int .i64 n) (hK : K (a.put o.dst (.bool (m != n))) w) : Oper.wp Tryz.prog o a w K Q :=
  mo_run (by simp only [execOp, ho, hx, hy]; simp [go_sem]) hK
theorem mo_neqS {x y : Operand} {m n : ByteArray} (ho : o.op = Op.binOp BinOp.neq 9 x y 9) (hx : a.eval x = .string m) (hy : a.eval y = .string n) (hK : K (a.put o.dst (.bool (m.toList != n.toList))) w) : Oper.wp Tryz.prog o a w K Q :=
  mo_run (by simp only [execOp, ho, hx, hy]; simp [go_sem, bne]) hK
theorem mo_field {x : Operand} {T : TypeId} {k b i j : Nat} (hf : (Instr.fieldAt T (.pointer (some ⟨b, i, none⟩)) k).run Tryz.prog w = .ok (.pointer (some ⟨b, j, none⟩)) w) (ho : o.op = Op.fieldAddr T x k) (hx : a.eval x = .pointer (some ⟨b, i, none⟩)) (hK : K (a.put o.dst (.pointer (some ⟨b, j, none⟩))) w) : Oper.wp Tryz.prog o a w K Q :=
  mo_run (by simp only [execOp, ho, hx]; simp [hf]) hK
theorem mo_load {x : Operand} {T : TypeId} {b i : Nat} {u : Value} (hl : (Instr.loadAt T (.pointer (some ⟨b, i, none⟩))).run Tryz.prog w = .ok u w) (ho : o.op = Op.load T x) (hx : a.eval x = .pointer (some ⟨b, i, none⟩)) (hK : K (a.put o.dst u) w) : Oper.wp Tryz.prog o a w K Q :=
  mo_run (by simp only [execOp, ho, hx]; simp [hl]) hK
end
section
variable {o : Oper} {a : Act} {w : World} {K : Act → World → Prop} {Q : Exit → Act → World → Prop} {T : Value → World → Prop}
theorem mo_call1 {x : Operand} {u : Value} (F : Nat) {T1 : TypeId} (ho : o.op = Op.call { callee := Callee.value (Operand.func F), args := #[x], argTypes := #[T1] }) (hx : a.eval x = u)
    (en : ∀ args w, (callFunc F args).run Tryz.prog w = .ok (.enter F args) w) (hC : Calls Tryz.prog F #[u] w fun e w' => ∃ v, e = .returned v ∧ T v w') (hK : ∀ v w', T v w' → K (a.put o.dst v) w') : Oper.wp Tryz.prog o a w K Q := by
  unfold Oper.wp
  have e : (execOp a.eval o).run Tryz.prog w = .ok (.enter F #[u]) w := by
    have hf : a.eval (.func F) = .func (.func F) #[] #[] := rfl
    generalize a.eval = ρ at hx hf ⊢
    simp only [execOp, ho]
    simp [go_sem, resolve, invoke, hx, hf, en]
  rw [e]
  refine hC.mono ?_
  rintro e w' ⟨v, rfl, h⟩
  exact hK v w' h
theorem mo_call2 {x y : Operand} {u z : Value} (F : Nat) {T1 T2 : TypeId} (ho : o.op = Op.call { callee := Callee.value (Operand.func F), args := #[x, y], argTypes := #[T1, T2] }) (hx : a.eval x = u) (hy : a.eval y = z)
    (en : ∀ args w, (callFunc F args).run Tryz.prog w = .ok (.enter F args) w) (hC : Calls Tryz.prog F #[u, z] w fun e w' => ∃ v, e = .returned v ∧ T v w') (hK : ∀ v w', T v w' → K (a.put o.dst v) w') : Oper.wp Tryz.prog o a w K Q := by
  unfold Oper.wp
  have e : (execOp a.eval o).run Tryz.prog w = .ok (.enter F #[u, z]) w := by
    have hf : a.eval (.func F) = .func (.func F) #[] #[] := rfl
    generalize a.eval = ρ at hx hy hf ⊢
    simp only [execOp, ho]
    simp [go_sem, resolve, invoke, hx, hy, hf, en]
  rw [e]
  refine hC.mono ?_
  rintro e w' ⟨v, rfl, h⟩
  exact hK v w' h
end
end Go.Proofs.YtkcklnnmcmjnjaaGreatDoor

namespace Go.Proofs.YtkcklnnmcmjnjaaGreatDoor
open Go.RowKit Go.Shelf
attribute [local go_sem] Oper.semAt_some
section
variable {o : Oper} {a : Act} {w : World} {K : Act → World → Prop} {Q : Exit → Act → World → Prop}
theorem mo_index {x y : Operand} {T : TypeId} {u z p : Value} (hr : (Instr.indexAt T u z).run Tryz.prog w = .ok p w) (ho : o.op = Op.indexAddr T x y) (hx : a.eval x = u) (hy : a.eval y = z) (hK : K (a.put o.dst p) w) : Oper.wp Tryz.prog o a w K Q :=
  mo_run (by simp only [execOp, ho, hx, hy]; simp [hr]) hK
theorem mo_loadv {x : Operand} {T : TypeId} {p u : Value} (hl : (Instr.loadAt T p).run Tryz.prog w = .ok u w) (ho : o.op = Op.load T x) (hx : a.eval x = p) (hK : K (a.put o.dst u) w) : Oper.wp Tryz.prog o a w K Q :=
  mo_run (by simp only [execOp, ho, hx]; simp [hl]) hK
end
end Go.Proofs.YtkcklnnmcmjnjaaGreatDoor

namespace Go.Proofs.YtkcklnnmcmjnjaaGreatDoor
open Go.RowKit Go.Shelf
attribute [local go_sem] Oper.semAt_some

section
variable {o : Oper} {a : Act} {w : World} {K : Act → World → Prop} {Q : Exit → Act → World → Prop}
theorem mo_runW {v : Value} {w' : World} (e : (execOp a.eval o).run Tryz.prog w = .ok (.value v) w') (hK : K (a.put o.dst v) w') : Oper.wp Tryz.prog o a w K Q := by
  unfold Oper.wp
  rw [e]; exact hK
theorem mo_lit3 {x : Operand} {k i : Int} {fa : Option Addr} {fn fc : Nat} (ho : o.op = Op.buildSlice 22 1 #[(0, x)]) (hx : a.eval x = .agg #[.int .i64 k, .int .i64 i, .slice fa fn fc])
    (hK : K (a.put o.dst (.slice (some ⟨w.heap.size, 0, none⟩) 1 1)) (w.alloc (.cells #[.int .i64 k, .int .i64 i, .slice fa fn fc] 33))) : Oper.wp Tryz.prog o a w K Q := by
  refine mo_runW ?_ hK
  simp only [execOp, ho]
  rw [show (Array.map (fun (p : Nat × Operand) => match p with | (i, x) => (i, a.eval x)) #[((0 : Nat), x)]) = #[((0 : Nat), Value.agg #[.int .i64 k, .int .i64 i, .slice fa fn fc])] from by rw [← hx]; simp]
  kernel_rfl
theorem mo_build3 {x y z : Operand} {k i : Int} {fa : Option Addr} {fn fc : Nat} (ho : o.op = Op.build 33 #[(0, x), (1, y), (2, z)]) (hx : a.eval x = .int .i64 k) (hy : a.eval y = .int .i64 i) (hz : a.eval z = .slice fa fn fc)
    (hK : K (a.put o.dst (.agg #[.int .i64 k, .int .i64 i, .slice fa fn fc])) w) : Oper.wp Tryz.prog o a w K Q := by
  refine mo_runW ?_ hK
  simp only [execOp, ho]
  rw [show (Array.map (fun (p : Nat × Operand) => match p with | (i, x) => (i, a.eval x)) #[((0 : Nat), x), (1, y), (2, z)]) = #[((0 : Nat), Value.int .i64 k), (1, .int .i64 i), (2, .slice fa fn fc)] from by rw [← hx, ← hy, ← hz]; simp]
  kernel_rfl
end
end Go.Proofs.YtkcklnnmcmjnjaaGreatDoor

namespace Go.Proofs.YtkcklnnmcmjnjaaGreatDoor
open Go.RowKit Go.Shelf

section
variable {K : Act → World → Prop} {Q : Exit → Act → World → Prop} {o : Oper} {a : Act} {w : World}
theorem mo_slice2 {x y z : Operand} {s : ByteArray} {i j : Nat} (ho : o.op = Op.slice 9 x (some y) (some z) none) (hx : a.eval x = .string s) (hy : a.eval y = .int .i64 (i : Nat)) (hz : a.eval z = .int .i64 (j : Nat)) (hij : i ≤ j) (hj : j ≤ s.size) (hK : K (a.put o.dst (.string (s.extract i j))) w) : Oper.wp Tryz.prog o a w K Q := by
  refine mo_runW ?_ hK
  have h2 : (i : Int) ≤ (j : Int) := by omega
  have h3 : (j : Int) ≤ (s.size : Int) := by omega
  generalize a.eval = ρ at hx hy hz ⊢
  simp only [execOp, ho]
  simp [go_sem, hx, hy, hz, Result.andThen, h2, h3]
theorem mo_slice1 {x y : Operand} {s : ByteArray} {i : Nat} (ho : o.op = Op.slice 9 x (some y) none none) (hx : a.eval x = .string s) (hy : a.eval y = .int .i64 (i : Nat)) (hij : i ≤ s.size) (hK : K (a.put o.dst (.string (s.extract i s.size))) w) : Oper.wp Tryz.prog o a w K Q := by
  refine mo_runW ?_ hK
  have h2 : (i : Int) ≤ (s.size : Int) := by omega
  generalize a.eval = ρ at hx hy ⊢
  simp only [execOp, ho]
  simp [go_sem, hx, hy, Result.andThen, h2]
end

def ops_rd6 : List Oper := [
  { dst := some 19, op := Op.load 22 (Operand.tmp 3), type := 22, pos := "amend.go:74", after := #[], guard := none },
  { dst := some 20, op := Op.load 9 (Operand.tmp 1), type := 9, pos := "amend.go:74", after := #[], guard := none },
  { dst := some 21, op := Op.load 3 (Operand.tmp 4), type := 3, pos := "amend.go:74", after := #[], guard := none },
  { dst := some 22, op := Op.fieldAddr 146 (Operand.tmp 5) 1, type := 0, pos := "amend.go:74", after := #[], guard := none },
  { dst := some 23, op := Op.load 3 (Operand.tmp 22), type := 3, pos := "amend.go:74", after := #[{ on := 3, ground := Ground.data }], guard := none },
  { dst := some 24, op := Op.slice 9 (Operand.tmp 20) (some (Operand.tmp 21)) (some (Operand.tmp 23)) none, type := 9, pos := "amend.go:74", after := #[{ on := 1, ground := Ground.data }, { on := 2, ground := Ground.data }, { on := 4, ground := Ground.data }], guard := none },
  { dst := some 25, op := Op.call { callee := Callee.value (Operand.func 108), args := #[Operand.tmp 24], argTypes := #[9] }, type := 33, pos := "amend.go:74", after := #[{ on := 5, ground := Ground.data }], guard := none },
  { dst := some 26, op := Op.buildSlice 22 1 #[(0, Operand.tmp 25)], type := 22, pos := "amend.go:74", after := #[{ on := 6, ground := Ground.data }], guard := none },
  { dst := some 27, op := Op.call { callee := Callee.builtin Builtin.append, args := #[Operand.tmp 19, Operand.tmp 26], argTypes := #[22, 22] }, type := 22, pos := "amend.go:74", after := #[{ on := 0, ground := Ground.data }, { on := 7, ground := Ground.data }, { on := 6, ground := Ground.chain }], guard := none },
  { dst := none, op := Op.store 22 (Operand.tmp 3) (Operand.tmp 27), type := 0, pos := "amend.go:74", after := #[{ on := 8, ground := Ground.data }, { on := 8, ground := Ground.chain }, { on := 0, ground := Ground.phase }, { on := 1, ground := Ground.phase }, { on := 2, ground := Ground.phase }, { on := 3, ground := Ground.phase }, { on := 4, ground := Ground.phase }, { on := 5, ground := Ground.phase }, { on := 6, ground := Ground.phase }, { on := 7, ground := Ground.phase }, { on := 8, ground := Ground.phase }], guard := none }]
def dst_rd6 (i : Nat) : Option Nat := (ops_rd6[i]?).bind (·.dst)
theorem inj_rd6 : ∀ i, i < 8 → ∀ k, k < 8 → dst_rd6 i ≠ none → dst_rd6 i = dst_rd6 k → i = k := by decide +kernel
theorem lt_rd6 : ∀ i, i < 8 → (dst_rd6 i).getD 0 < 37 := by decide +kernel
theorem low_rd6 : ∀ i : Fin 10, ∀ e ∈ (ops_rd6[i.1]'(by exact i.2)).after, Region.binds .any e = true → e.on < i.1 := by decide +kernel
def pv_rd6 (bb tb nb eb lo : Nat) (bv : Value) (s : ByteArray) (beg at_ : Nat) (PL : Value → World → Prop) : List (Value → World → Prop) := [
  fun v w => v = bv,
  fun v w => v = .string s,
  fun v w => v = .int .i64 (beg : Nat),
  fun v w => v = .pointer (some ⟨eb, 1, none⟩),
  fun v w => v = .int .i64 (at_ : Nat),
  fun v w => v = .string (s.extract beg at_),
  fun v w => PL v w,
  fun v w => ∃ b u cs, v = .slice (some ⟨b, 0, none⟩) 1 1 ∧ PL u w ∧ lo ≤ b ∧ u = .agg cs ∧ Cells w b 33 cs]
set_option maxRecDepth 100000 in
set_option maxHeartbeats 4000000 in
theorem region_rd6 (a0 : Act) (w0 : World) (bb tb nb eb lo : Nat) (bv : Value) (s : ByteArray) (beg at_ : Nat) (PL : Value → World → Prop) (Q : Exit → Act → World → Prop)
    (hsz : a0.tmps.size = 37) (h3 : a0.tmps[3]? = some (.pointer (some ⟨bb, 0, none⟩))) (h1 : a0.tmps[1]? = some (.pointer (some ⟨tb, 0, none⟩))) (h4 : a0.tmps[4]? = some (.pointer (some ⟨nb, 0, none⟩))) (h5 : a0.tmps[5]? = some (.pointer (some ⟨eb, 0, none⟩)))
    (hS : ∀ W, Below w0.heap.size w0 W → W.cell? ⟨bb, 0, none⟩ = some bv ∧ W.cell? ⟨tb, 0, none⟩ = some (.string s) ∧ W.cell? ⟨nb, 0, none⟩ = some (.int .i64 (beg : Nat)) ∧ W.cell? ⟨eb, 1, none⟩ = some (.int .i64 (at_ : Nat))) (hlo : lo ≤ w0.heap.size)
    (hle : beg ≤ at_ ∧ at_ ≤ s.size)
    (hPM : ∀ v x y, Below x.heap.size x y → PL v x → PL v y) (hPF : ∀ v w, PL v w → ∃ k i fa fn fc, v = .agg #[.int .i64 k, .int .i64 i, .slice fa fn fc])
    (hC6 : ∀ (W : World) (_ : Below w0.heap.size w0 W), Calls Tryz.prog 108 #[.string (s.extract beg at_)] W fun e w => ∃ v, e = .returned v ∧ (PL v w) ∧ Below W.heap.size W w)
    (hQ : ∀ (y0 y1 y2 y3 y4 y5 y6 y7 : Value) (w : World), Below w0.heap.size w0 w → ((fun (v : Value) (w : World) => v = bv) y0 w) → ((fun (v : Value) (w : World) => ∃ b u cs, v = .slice (some ⟨b, 0, none⟩) 1 1 ∧ PL u w ∧ lo ≤ b ∧ u = .agg cs ∧ Cells w b 33 cs) y7 w) → wpList Tryz.prog ops_rd6.toArray Q [{ dst := some 27, op := Op.call { callee := Callee.builtin Builtin.append, args := #[Operand.tmp 19, Operand.tmp 26], argTypes := #[22, 22] }, type := 22, pos := "amend.go:74", after := #[{ on := 0, ground := Ground.data }, { on := 7, ground := Ground.data }, { on := 6, ground := Ground.chain }], guard := none }, { dst := none, op := Op.store 22 (Operand.tmp 3) (Operand.tmp 27), type := 0, pos := "amend.go:74", after := #[{ on := 8, ground := Ground.data }, { on := 8, ground := Ground.chain }, { on := 0, ground := Ground.phase }, { on := 1, ground := Ground.phase }, { on := 2, ground := Ground.phase }, { on := 3, ground := Ground.phase }, { on := 4, ground := Ground.phase }, { on := 5, ground := Ground.phase }, { on := 6, ground := Ground.phase }, { on := 7, ground := Ground.phase }, { on := 8, ground := Ground.phase }], guard := none }] { a0 with tmps := [(19, y0), (20, y1), (21, y2), (22, y3), (23, y4), (24, y5), (25, y6), (26, y7)].foldl (fun u p => u.setIfInBounds p.1 p.2) a0.tmps } w) :
    wpAny Tryz.prog .any ops_rd6.toArray Q ops_rd6.toArray.size (Array.replicate ops_rd6.toArray.size false) a0 w0 := by
  have M : AllM (pv_rd6 bb tb nb eb lo bv s beg at_ PL) := ⟨fun v x y hb h => h, fun v x y hb h => h, fun v x y hb h => h, fun v x y hb h => h, fun v x y hb h => h, fun v x y hb h => h, fun v x y hb h => hPM v x y hb h, fun v x y hb h => by obtain ⟨b, u, cs, e, h1, h2, h3, h4⟩ := h; exact ⟨b, u, cs, e, hPM u x y hb h1, h2, h3, cells_kept h4 hb h4.lt⟩, trivial⟩
  refine wpAny_mono_tail 8 2 (by kernel_rfl) (by decide) a0 w0 dst_rd6 (pv_rd6 bb tb nb eb lo bv s beg at_ PL) M (by kernel_rfl) (by kernel_rfl) (by kernel_rfl)
    (fun i o _ ho => by unfold dst_rd6; rw [ho]; rfl)
    (fun i k d hi hk h1 h2 => inj_rd6 i hi k hk (by rw [h1]; intro q; cases q) (by rw [h1, h2]))
    (fun i d hi h => by have := lt_rd6 i hi; rw [h] at this; rw [hsz]; exact this)
    (fun i o e ho he hb => by
      obtain ⟨hi, rfl⟩ := List.getElem?_eq_some_iff.1 ho
      exact low_rd6 ⟨i, hi⟩ e he hb)
    ?step ?fin
  case fin =>
    intro a w hd hs hf hv hR
    obtain ⟨y0, hy0, pv0⟩ := hv 0 19 (by decide) rfl
    obtain ⟨y1, hy1, pv1⟩ := hv 1 20 (by decide) rfl
    obtain ⟨y2, hy2, pv2⟩ := hv 2 21 (by decide) rfl
    obtain ⟨y3, hy3, pv3⟩ := hv 3 22 (by decide) rfl
    obtain ⟨y4, hy4, pv4⟩ := hv 4 23 (by decide) rfl
    obtain ⟨y5, hy5, pv5⟩ := hv 5 24 (by decide) rfl
    obtain ⟨y6, hy6, pv6⟩ := hv 6 25 (by decide) rfl
    obtain ⟨y7, hy7, pv7⟩ := hv 7 26 (by decide) rfl
    rw [act_set' (a := a) (a0 := a0) [(19, y0), (20, y1), (21, y2), (22, y3), (23, y4), (24, y5), (25, y6), (26, y7)] hd hs (by
      intro p hp
      simp only [List.mem_cons, List.not_mem_nil, or_false] at hp
      rcases hp with rfl | rfl | rfl | rfl | rfl | rfl | rfl | rfl
      · exact hy0
      · exact hy1
      · exact hy2
      · exact hy3
      · exact hy4
      · exact hy5
      · exact hy6
      · exact hy7
      ) (fun j hj => hf j (fun k hk q => hj (by
        have : ∀ k, k < 8 → (dst_rd6 k).all (fun d => [19, 20, 21, 22, 23, 24, 25, 26].contains d) = true := by decide +kernel
        have h1 := this k hk
        rw [q] at h1
        simpa using h1)))]
    exact hQ y0 y1 y2 y3 y4 y5 y6 y7 w hR pv0 pv7
  case step =>
    intro i o a w hi ho hs hf dep hR
    have e3 := evT ((hf 3 (by decide +kernel)).trans h3)
    have e1 := evT ((hf 1 (by decide +kernel)).trans h1)
    have e4 := evT ((hf 4 (by decide +kernel)).trans h4)
    have e5 := evT ((hf 5 (by decide +kernel)).trans h5)
    rcases (by omega : i = 0 ∨ i = 1 ∨ i = 2 ∨ i = 3 ∨ i = 4 ∨ i = 5 ∨ i = 6 ∨ i = 7) with rfl | rfl | rfl | rfl | rfl | rfl | rfl | rfl
    · have ho2 : some _ = some o := ho
      obtain rfl := Option.some.inj ho2
      exact .inl ⟨wantN rfl, fun K hK => mo_load (by simp [go_sem, (hS w hR).1]) rfl e3 (hK _ _ (Below.refl _ _) rfl)⟩
    · have ho2 : some _ = some o := ho
      obtain rfl := Option.some.inj ho2
      exact .inl ⟨wantN rfl, fun K hK => mo_load (by simp [go_sem, (hS w hR).2.1]) rfl e1 (hK _ _ (Below.refl _ _) rfl)⟩
    · have ho2 : some _ = some o := ho
      obtain rfl := Option.some.inj ho2
      exact .inl ⟨wantN rfl, fun K hK => mo_load (by simp [go_sem, (hS w hR).2.2.1]) rfl e4 (hK _ _ (Below.refl _ _) rfl)⟩
    · have ho2 : some _ = some o := ho
      obtain rfl := Option.some.inj ho2
      exact .inl ⟨wantN rfl, fun K hK => mo_field (by simp [go_sem]) rfl e5 (hK _ _ (Below.refl _ _) rfl)⟩
    · have ho2 : some _ = some o := ho
      obtain rfl := Option.some.inj ho2
      obtain ⟨_, hv3, rfl⟩ : ∃ v, a.tmps[22]? = some v ∧ (fun (v : Value) (w : World) => v = .pointer (some ⟨eb, 1, none⟩)) v w := dep ⟨3, Ground.data⟩ (by first | simp | simp [ops_rd6]) rfl 22 rfl
      exact .inl ⟨wantN rfl, fun K hK => mo_load (by simp [go_sem, (hS w hR).2.2.2]) rfl (evT hv3) (hK _ _ (Below.refl _ _) rfl)⟩
    · have ho2 : some _ = some o := ho
      obtain rfl := Option.some.inj ho2
      obtain ⟨_, hv1, rfl⟩ : ∃ v, a.tmps[20]? = some v ∧ (fun (v : Value) (w : World) => v = .string s) v w := dep ⟨1, Ground.data⟩ (by first | simp | simp [ops_rd6]) rfl 20 rfl
      obtain ⟨_, hv2, rfl⟩ : ∃ v, a.tmps[21]? = some v ∧ (fun (v : Value) (w : World) => v = .int .i64 (beg : Nat)) v w := dep ⟨2, Ground.data⟩ (by first | simp | simp [ops_rd6]) rfl 21 rfl
      obtain ⟨_, hv4, rfl⟩ : ∃ v, a.tmps[23]? = some v ∧ (fun (v : Value) (w : World) => v = .int .i64 (at_ : Nat)) v w := dep ⟨4, Ground.data⟩ (by first | simp | simp [ops_rd6]) rfl 23 rfl
      exact .inl ⟨wantN rfl, fun K hK => mo_slice2 rfl (evT hv1) (evT hv2) (evT hv4) hle.1 hle.2 (hK _ _ (Below.refl _ _) rfl)⟩
    · have ho2 : some _ = some o := ho
      obtain rfl := Option.some.inj ho2
      obtain ⟨_, hv5, rfl⟩ : ∃ v, a.tmps[24]? = some v ∧ (fun (v : Value) (w : World) => v = .string (s.extract beg at_)) v w := dep ⟨5, Ground.data⟩ (by first | simp | simp [ops_rd6]) rfl 24 rfl
      exact .inl ⟨wantN rfl, fun K hK => mo_call1 108 rfl (evT hv5) (enters_of (P := Tryz.prog) Tryz.func108 (by kernel_rfl) rfl) (hC6 w hR) (fun v w' h => hK v w' h.2 h.1)⟩
    · have ho2 : some _ = some o := ho
      obtain rfl := Option.some.inj ho2
      obtain ⟨z6, hv6, pv6⟩ : ∃ v, a.tmps[25]? = some v ∧ (fun (v : Value) (w : World) => PL v w) v w := dep ⟨6, Ground.data⟩ (by first | simp | simp [ops_rd6]) rfl 25 rfl
      exact .inl ⟨wantN rfl, fun K hK => by obtain ⟨k1, i1, fa1, fn1, fc1, rfl⟩ := hPF _ _ pv6; exact mo_lit3 rfl (evT hv6) (hK _ _ ((Below.refl _ _).alloc (Nat.le_refl _) _) ⟨w.heap.size, _, _, rfl, hPM _ _ _ ((Below.refl _ _).alloc (Nat.le_refl _) _) pv6, Nat.le_trans hlo hR.size, rfl, Cells.new _ _ _⟩)⟩
def ops_rd8 : List Oper := [
  { dst := some 30, op := Op.load 22 (Operand.tmp 3), type := 22, pos := "amend.go:78", after := #[], guard := none },
  { dst := some 31, op := Op.load 9 (Operand.tmp 1), type := 9, pos := "amend.go:78", after := #[], guard := none },
  { dst := some 32, op := Op.load 3 (Operand.tmp 4), type := 3, pos := "amend.go:78", after := #[], guard := none },
  { dst := some 33, op := Op.slice 9 (Operand.tmp 31) (some (Operand.tmp 32)) none none, type := 9, pos := "amend.go:78", after := #[{ on := 1, ground := Ground.data }, { on := 2, ground := Ground.data }], guard := none },
  { dst := some 34, op := Op.call { callee := Callee.value (Operand.func 108), args := #[Operand.tmp 33], argTypes := #[9] }, type := 33, pos := "amend.go:78", after := #[{ on := 3, ground := Ground.data }], guard := none },
  { dst := some 35, op := Op.buildSlice 22 1 #[(0, Operand.tmp 34)], type := 22, pos := "amend.go:78", after := #[{ on := 4, ground := Ground.data }], guard := none },
  { dst := some 36, op := Op.call { callee := Callee.builtin Builtin.append, args := #[Operand.tmp 30, Operand.tmp 35], argTypes := #[22, 22] }, type := 22, pos := "amend.go:78", after := #[{ on := 0, ground := Ground.data }, { on := 5, ground := Ground.data }, { on := 4, ground := Ground.chain }], guard := none },
  { dst := some 2, op := Op.assign (Operand.tmp 36), type := 22, pos := "amend.go:78", after := #[{ on := 6, ground := Ground.data }, { on := 6, ground := Ground.chain }, { on := 0, ground := Ground.phase }, { on := 1, ground := Ground.phase }, { on := 2, ground := Ground.phase }, { on := 3, ground := Ground.phase }, { on := 4, ground := Ground.phase }, { on := 5, ground := Ground.phase }, { on := 6, ground := Ground.phase }], guard := none }]
def dst_rd8 (i : Nat) : Option Nat := (ops_rd8[i]?).bind (·.dst)
theorem inj_rd8 : ∀ i, i < 6 → ∀ k, k < 6 → dst_rd8 i ≠ none → dst_rd8 i = dst_rd8 k → i = k := by decide +kernel
theorem lt_rd8 : ∀ i, i < 6 → (dst_rd8 i).getD 0 < 37 := by decide +kernel
theorem low_rd8 : ∀ i : Fin 8, ∀ e ∈ (ops_rd8[i.1]'(by exact i.2)).after, Region.binds .any e = true → e.on < i.1 := by decide +kernel
def pv_rd8 (bb tb nb lo : Nat) (bv : Value) (s : ByteArray) (beg : Nat) (PL : Value → World → Prop) : List (Value → World → Prop) := [
  fun v w => v = bv,
  fun v w => v = .string s,
  fun v w => v = .int .i64 (beg : Nat),
  fun v w => v = .string (s.extract beg s.size),
  fun v w => PL v w,
  fun v w => ∃ b u cs, v = .slice (some ⟨b, 0, none⟩) 1 1 ∧ PL u w ∧ lo ≤ b ∧ u = .agg cs ∧ Cells w b 33 cs]
set_option maxRecDepth 100000 in
set_option maxHeartbeats 4000000 in
theorem region_rd8 (a0 : Act) (w0 : World) (bb tb nb lo : Nat) (bv : Value) (s : ByteArray) (beg : Nat) (PL : Value → World → Prop) (Q : Exit → Act → World → Prop)
    (hsz : a0.tmps.size = 37) (h3 : a0.tmps[3]? = some (.pointer (some ⟨bb, 0, none⟩))) (h1 : a0.tmps[1]? = some (.pointer (some ⟨tb, 0, none⟩))) (h4 : a0.tmps[4]? = some (.pointer (some ⟨nb, 0, none⟩)))
    (hS : ∀ W, Below w0.heap.size w0 W → W.cell? ⟨bb, 0, none⟩ = some bv ∧ W.cell? ⟨tb, 0, none⟩ = some (.string s) ∧ W.cell? ⟨nb, 0, none⟩ = some (.int .i64 (beg : Nat)) ∧ True) (hlo : lo ≤ w0.heap.size)
    (hle : beg ≤ s.size)
    (hPM : ∀ v x y, Below x.heap.size x y → PL v x → PL v y) (hPF : ∀ v w, PL v w → ∃ k i fa fn fc, v = .agg #[.int .i64 k, .int .i64 i, .slice fa fn fc])
    (hC4 : ∀ (W : World) (_ : Below w0.heap.size w0 W), Calls Tryz.prog 108 #[.string (s.extract beg s.size)] W fun e w => ∃ v, e = .returned v ∧ (PL v w) ∧ Below W.heap.size W w)
    (hQ : ∀ (y0 y1 y2 y3 y4 y5 : Value) (w : World), Below w0.heap.size w0 w → ((fun (v : Value) (w : World) => v = bv) y0 w) → ((fun (v : Value) (w : World) => ∃ b u cs, v = .slice (some ⟨b, 0, none⟩) 1 1 ∧ PL u w ∧ lo ≤ b ∧ u = .agg cs ∧ Cells w b 33 cs) y5 w) → wpList Tryz.prog ops_rd8.toArray Q [{ dst := some 36, op := Op.call { callee := Callee.builtin Builtin.append, args := #[Operand.tmp 30, Operand.tmp 35], argTypes := #[22, 22] }, type := 22, pos := "amend.go:78", after := #[{ on := 0, ground := Ground.data }, { on := 5, ground := Ground.data }, { on := 4, ground := Ground.chain }], guard := none }, { dst := some 2, op := Op.assign (Operand.tmp 36), type := 22, pos := "amend.go:78", after := #[{ on := 6, ground := Ground.data }, { on := 6, ground := Ground.chain }, { on := 0, ground := Ground.phase }, { on := 1, ground := Ground.phase }, { on := 2, ground := Ground.phase }, { on := 3, ground := Ground.phase }, { on := 4, ground := Ground.phase }, { on := 5, ground := Ground.phase }, { on := 6, ground := Ground.phase }], guard := none }] { a0 with tmps := [(30, y0), (31, y1), (32, y2), (33, y3), (34, y4), (35, y5)].foldl (fun u p => u.setIfInBounds p.1 p.2) a0.tmps } w) :
    wpAny Tryz.prog .any ops_rd8.toArray Q ops_rd8.toArray.size (Array.replicate ops_rd8.toArray.size false) a0 w0 := by
  have M : AllM (pv_rd8 bb tb nb lo bv s beg PL) := ⟨fun v x y hb h => h, fun v x y hb h => h, fun v x y hb h => h, fun v x y hb h => h, fun v x y hb h => hPM v x y hb h, fun v x y hb h => by obtain ⟨b, u, cs, e, h1, h2, h3, h4⟩ := h; exact ⟨b, u, cs, e, hPM u x y hb h1, h2, h3, cells_kept h4 hb h4.lt⟩, trivial⟩
  refine wpAny_mono_tail 6 2 (by kernel_rfl) (by decide) a0 w0 dst_rd8 (pv_rd8 bb tb nb lo bv s beg PL) M (by kernel_rfl) (by kernel_rfl) (by kernel_rfl)
    (fun i o _ ho => by unfold dst_rd8; rw [ho]; rfl)
    (fun i k d hi hk h1 h2 => inj_rd8 i hi k hk (by rw [h1]; intro q; cases q) (by rw [h1, h2]))
    (fun i d hi h => by have := lt_rd8 i hi; rw [h] at this; rw [hsz]; exact this)
    (fun i o e ho he hb => by
      obtain ⟨hi, rfl⟩ := List.getElem?_eq_some_iff.1 ho
      exact low_rd8 ⟨i, hi⟩ e he hb)
    ?step ?fin
  case fin =>
    intro a w hd hs hf hv hR
    obtain ⟨y0, hy0, pv0⟩ := hv 0 30 (by decide) rfl
    obtain ⟨y1, hy1, pv1⟩ := hv 1 31 (by decide) rfl
    obtain ⟨y2, hy2, pv2⟩ := hv 2 32 (by decide) rfl
    obtain ⟨y3, hy3, pv3⟩ := hv 3 33 (by decide) rfl
    obtain ⟨y4, hy4, pv4⟩ := hv 4 34 (by decide) rfl
    obtain ⟨y5, hy5, pv5⟩ := hv 5 35 (by decide) rfl
    rw [act_set' (a := a) (a0 := a0) [(30, y0), (31, y1), (32, y2), (33, y3), (34, y4), (35, y5)] hd hs (by
      intro p hp
      simp only [List.mem_cons, List.not_mem_nil, or_false] at hp
      rcases hp with rfl | rfl | rfl | rfl | rfl | rfl
      · exact hy0
      · exact hy1
      · exact hy2
      · exact hy3
      · exact hy4
      · exact hy5
      ) (fun j hj => hf j (fun k hk q => hj (by
        have : ∀ k, k < 6 → (dst_rd8 k).all (fun d => [30, 31, 32, 33, 34, 35].contains d) = true := by decide +kernel
        have h1 := this k hk
        rw [q] at h1
        simpa using h1)))]
    exact hQ y0 y1 y2 y3 y4 y5 w hR pv0 pv5
  case step =>
    intro i o a w hi ho hs hf dep hR
    have e3 := evT ((hf 3 (by decide +kernel)).trans h3)
    have e1 := evT ((hf 1 (by decide +kernel)).trans h1)
    have e4 := evT ((hf 4 (by decide +kernel)).trans h4)
    rcases (by omega : i = 0 ∨ i = 1 ∨ i = 2 ∨ i = 3 ∨ i = 4 ∨ i = 5) with rfl | rfl | rfl | rfl | rfl | rfl
    · have ho2 : some _ = some o := ho
      obtain rfl := Option.some.inj ho2
      exact .inl ⟨wantN rfl, fun K hK => mo_load (by simp [go_sem, (hS w hR).1]) rfl e3 (hK _ _ (Below.refl _ _) rfl)⟩
    · have ho2 : some _ = some o := ho
      obtain rfl := Option.some.inj ho2
      exact .inl ⟨wantN rfl, fun K hK => mo_load (by simp [go_sem, (hS w hR).2.1]) rfl e1 (hK _ _ (Below.refl _ _) rfl)⟩
    · have ho2 : some _ = some o := ho
      obtain rfl := Option.some.inj ho2
      exact .inl ⟨wantN rfl, fun K hK => mo_load (by simp [go_sem, (hS w hR).2.2.1]) rfl e4 (hK _ _ (Below.refl _ _) rfl)⟩
    · have ho2 : some _ = some o := ho
      obtain rfl := Option.some.inj ho2
      obtain ⟨_, hv1, rfl⟩ : ∃ v, a.tmps[31]? = some v ∧ (fun (v : Value) (w : World) => v = .string s) v w := dep ⟨1, Ground.data⟩ (by first | simp | simp [ops_rd8]) rfl 31 rfl
      obtain ⟨_, hv2, rfl⟩ : ∃ v, a.tmps[32]? = some v ∧ (fun (v : Value) (w : World) => v = .int .i64 (beg : Nat)) v w := dep ⟨2, Ground.data⟩ (by first | simp | simp [ops_rd8]) rfl 32 rfl
      exact .inl ⟨wantN rfl, fun K hK => mo_slice1 rfl (evT hv1) (evT hv2) hle (hK _ _ (Below.refl _ _) rfl)⟩
    · have ho2 : some _ = some o := ho
      obtain rfl := Option.some.inj ho2
      obtain ⟨_, hv3, rfl⟩ : ∃ v, a.tmps[33]? = some v ∧ (fun (v : Value) (w : World) => v = .string (s.extract beg s.size)) v w := dep ⟨3, Ground.data⟩ (by first | simp | simp [ops_rd8]) rfl 33 rfl
      exact .inl ⟨wantN rfl, fun K hK => mo_call1 108 rfl (evT hv3) (enters_of (P := Tryz.prog) Tryz.func108 (by kernel_rfl) rfl) (hC4 w hR) (fun v w' h => hK v w' h.2 h.1)⟩
    · have ho2 : some _ = some o := ho
      obtain rfl := Option.some.inj ho2
      obtain ⟨z4, hv4, pv4⟩ : ∃ v, a.tmps[34]? = some v ∧ (fun (v : Value) (w : World) => PL v w) v w := dep ⟨4, Ground.data⟩ (by first | simp | simp [ops_rd8]) rfl 34 rfl
      exact .inl ⟨wantN rfl, fun K hK => by obtain ⟨k1, i1, fa1, fn1, fc1, rfl⟩ := hPF _ _ pv4; exact mo_lit3 rfl (evT hv4) (hK _ _ ((Below.refl _ _).alloc (Nat.le_refl _) _) ⟨w.heap.size, _, _, rfl, hPM _ _ _ ((Below.refl _ _).alloc (Nat.le_refl _) _) pv4, Nat.le_trans hlo hR.size, rfl, Cells.new _ _ _⟩)⟩
end Go.Proofs.YtkcklnnmcmjnjaaGreatDoor

