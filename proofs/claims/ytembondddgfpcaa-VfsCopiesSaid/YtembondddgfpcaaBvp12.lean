/- Texts put together: RT, RM, EJ, YT, YU. -/
import Derived.StillTail
import Derived.Test.YtembondddgfpcaaBvp7
import Derived.Test.YtembondddgfpcaaBvp11
set_option linter.unusedVariables false
namespace Go.Proofs.Ytembondddgfpcaa
open Go.RowKit

theorem getD_set (l : Array Bool) (i : Nat) (hi : i < l.size) (j : Nat) : (l.setIfInBounds i true).getD j false = if j = i then true else l.getD j false := by
  rw [Array.getD_eq_getD_getElem?, Array.getD_eq_getD_getElem?, Array.getElem?_setIfInBounds]
  by_cases h : i = j
  · subst h; simp [hi]
  · rw [if_neg h, if_neg (Ne.symm h)]
theorem all_done {ops : Array Oper} {l : Array Bool} (hs : l.size = ops.size) (hlow : ∀ i o e, ops[i]? = some o → e ∈ o.after → Region.binds .any e = true → e.on < i) (hr : Region.ready .any ops l = []) : ∀ i, i < ops.size → l.getD i false = true := by
  intro i
  induction i using Nat.strongRecOn with
  | _ i ih =>
    intro hi
    cases hl : l.getD i false with
    | true => rfl
    | false =>
      exfalso
      have ho : ops[i]? = some ops[i] := Array.getElem?_eq_getElem hi
      have : i ∈ Region.ready .any ops l := by
        unfold Region.ready
        rw [List.mem_filter]
        refine ⟨List.mem_range.2 hi, ?_⟩
        have hl2 : l.getD i true = false := by
          have hil : i < l.size := by omega
          simp [Array.getD, hil] at hl ⊢; exact hl
        simp only [ho, Option.map_some, Option.getD_some, Bool.and_eq_true, Bool.not_eq_true']
        refine ⟨hl2, Array.all_eq_true_iff_forall_mem.2 fun e he => ?_⟩
        cases hb : Region.binds .any e with
        | false => simp
        | true =>
          have h1 := hlow i _ e ho he hb
          simp [ih e.on h1 (by omega)]
      rw [hr] at this
      cases this
end Go.Proofs.Ytembondddgfpcaa

namespace Go.Proofs.Ytembondddgfpcaa
open Go.RowKit

structure MTab (a0 : Act) (w0 : World) (n : Nat) (dst : Nat → Option Nat) (Pv : Nat → Value → World → Prop) (R : World → World → Prop) (l : Array Bool) (a : Act) (w : World) : Prop where
  dfr : a.defers = a0.defers
  sz : a.tmps.size = a0.tmps.size
  frm : ∀ j, (∀ k, k < n → dst k ≠ some j) → a.tmps[j]? = a0.tmps[j]?
  val : ∀ i d, l.getD i false = true → dst i = some d → ∃ v, a.tmps[d]? = some v ∧ Pv i v w
  wd : R w0 w
/-- What holds of each operation's value: by a list. -/
def pvL (L : List (Value → World → Prop)) (i : Nat) (v : Value) (w : World) : Prop := match L[i]? with | some P => P v w | none => True
def AllM : List (Value → World → Prop) → Prop
  | [] => True
  | P :: r => (∀ v x y, Below x.heap.size x y → P v x → P v y) ∧ AllM r
theorem pvL_mono : ∀ {L : List (Value → World → Prop)} (_ : AllM L) {i : Nat} {v : Value} {x y : World}, Below x.heap.size x y → pvL L i v x → pvL L i v y
  | [], _, i, v, x, y, _, _ => trivial
  | P :: r, h, 0, v, x, y, hb, hp => h.1 v x y hb hp
  | P :: r, h, i + 1, v, x, y, hb, hp => pvL_mono (L := r) h.2 (i := i) hb hp
end Go.Proofs.Ytembondddgfpcaa

namespace Go.Proofs.Ytembondddgfpcaa
open Go.RowKit

theorem todo_set {l : Array Bool} {i : Nat} (hi : i < l.size) (hl : l.getD i true = false) : todo (l.setIfInBounds i true) + 1 = todo l := by
  have hlf : l[i] = false := by simpa [Array.getD, hi] using hl
  have key : ∀ (xs : List Bool) (j : Nat) (hj : j < xs.length), xs[j] = false → ((xs.set j true).filter (fun b => !b)).length + 1 = (xs.filter (fun b => !b)).length := by
    intro xs
    induction xs with
    | nil => intro j hj; simp at hj
    | cons x xs ih2 =>
      intro j hj hx
      cases j with
      | zero => simp at hx; subst hx; simp
      | succ j =>
        have := ih2 j (by simpa using hj) (by simpa using hx)
        cases x <;> simp at this ⊢ <;> omega
  have h2 := key l.toList i (by simpa using hi) (by simpa using hlf)
  unfold todo
  have e : (l.setIfInBounds i true).toList = l.toList.set i true := by simp
  rw [e]; exact h2
theorem todo_head {l : Array Bool} {n g : Nat} (hs : l.size = n + g) (h1 : ∀ i, i < n → l.getD i true = true) (h2 : ∀ t, n ≤ t → t < l.size → l.getD t true = false) : l = (List.replicate n true ++ List.replicate g false).toArray := by
  apply Array.ext
  · simp [hs]
  · intro i hi _
    have e : l[i] = l.getD i true := by simp [Array.getD, hi]
    rw [e]
    by_cases h : i < n
    · rw [h1 i h]; simp [h]
    · rw [h2 i (by omega) hi]; simp [List.getElem_append, h]
theorem wpAny_mono_tail {P : Program} {l0 : List Oper} {Q : Exit → Act → World → Prop} (n g : Nat) (hng : n + g = l0.length) (hg : 0 < g) (a0 : Act) (w0 : World) (dst : Nat → Option Nat) (L : List (Value → World → Prop)) (M : AllM L)
    (hs : Region.sinkB .any l0.toArray n = true) (hc : Region.chainB .any l0.toArray n = true) (hq : Region.seqB .any l0.toArray g n (List.replicate n true ++ List.replicate g false).toArray = true)
    (hd : ∀ i o, i < n → l0[i]? = some o → o.dst = dst i) (inj : ∀ i k d, i < n → k < n → dst i = some d → dst k = some d → i = k) (dlt : ∀ i d, i < n → dst i = some d → d < a0.tmps.size)
    (hlow : ∀ i o e, l0[i]? = some o → e ∈ o.after → Region.binds .any e = true → e.on < i)
    (step : ∀ i o a w, i < n → l0[i]? = some o → a.tmps.size = a0.tmps.size → (∀ j, (∀ k, k < n → dst k ≠ some j) → a.tmps[j]? = a0.tmps[j]?) → (∀ e ∈ o.after, Region.binds .any e = true → ∀ d, dst e.on = some d → ∃ v, a.tmps[d]? = some v ∧ pvL L e.on v w) → Below w0.heap.size w0 w →
      (Region.wanted o (yielded l0.toArray a.tmps) = true ∧ ∀ K : Act → World → Prop, (∀ v w', Below w.heap.size w w' → pvL L i v w' → K (a.put (dst i) v) w') → Oper.wp P o a w K Q) ∨ (Region.wanted o (yielded l0.toArray a.tmps) = false ∧ pvL L i undef w))
    (tail : ∀ a w, a.defers = a0.defers → a.tmps.size = a0.tmps.size → (∀ j, (∀ k, k < n → dst k ≠ some j) → a.tmps[j]? = a0.tmps[j]?) → (∀ i d, i < n → dst i = some d → ∃ v, a.tmps[d]? = some v ∧ pvL L i v w) → Below w0.heap.size w0 w → wpList P l0.toArray Q (l0.drop n) a w) :
    wpAny P .any l0.toArray Q l0.toArray.size (Array.replicate l0.toArray.size false) a0 w0 := by
  have key : ∀ (m : Nat) (l : Array Bool) (a : Act) (w : World), HeadInv .any l0.toArray n l → MTab a0 w0 n dst (pvL L) (fun x y => Below x.heap.size x y) l a w → todo l = m → wpAny P .any l0.toArray Q m l a w := by
    intro m
    induction m with
    | zero =>
      intro l a w inv I ht
      exfalso
      have hn : n < l.size := by rw [inv.size]; simp; omega
      have h1 := todo_set hn (inv.tail n (Nat.le_refl _) (by simp; omega))
      omega
    | succ m ih =>
      intro l a w inv I ht
      by_cases hh : ∃ i, i < n ∧ l.getD i true = false
      · obtain ⟨i0, hi0, hl0⟩ := hh
        have hwait := tail_waits hs hc (by simp; omega) inv (n - i0) i0 rfl hi0 hl0
        refine ⟨fun hr => ?_, fun i hi => ?_⟩
        · exfalso
          have hall := all_done (ops := l0.toArray) inv.size (fun i o e ho he hb => hlow i o e (by simpa using ho) he hb) hr i0 (by simp; omega)
          have hi0' : i0 < l.size := by rw [inv.size]; simp; omega
          have e1 : l.getD i0 false = l.getD i0 true := by simp [Array.getD, hi0']
          rw [e1, hl0] at hall; cases hall
        · have hin : i < n := by
            rcases Nat.lt_or_ge i n with q | q
            · exact q
            · exact absurd hi (hwait i q)
          obtain ⟨o, ho, hli, he⟩ := ready_spec hi
          have ho' : l0[i]? = some o := by simpa using ho
          have hil : i < l.size := by rw [inv.size]; simp; omega
          have dep : ∀ e ∈ o.after, Region.binds .any e = true → ∀ d, dst e.on = some d → ∃ v, a.tmps[d]? = some v ∧ pvL L e.on v w := fun e h1 h2 d h3 => I.val e.on d (he e h1 h2) h3
          have nxt : ∀ v w', Below w.heap.size w w' → pvL L i v w' → wpAny P .any l0.toArray Q m (l.setIfInBounds i true) (a.put (dst i) v) w' := by
            intro v w' hR hP
            refine ih _ _ _ (inv.set hi hin) ?_ (by have := todo_set hil hli; omega)
            have hwd : Below w0.heap.size w0 w' := I.wd.trans (hR.mono I.wd.size)
            cases hdi : dst i with
            | none =>
              refine ⟨I.dfr, I.sz, I.frm, fun k d hk hkd => ?_, hwd⟩
              rw [getD_set l i hil] at hk
              by_cases q : k = i
              · rw [q, hdi] at hkd; cases hkd
              · rw [if_neg q] at hk
                obtain ⟨u, h1, h2⟩ := I.val k d hk hkd
                exact ⟨u, h1, pvL_mono M hR h2⟩
            | some d0 =>
              have hd0 := dlt i d0 hin hdi
              have T : ∀ j, (a.put (some d0) v).tmps[j]? = if j = d0 then some v else a.tmps[j]? := fun j => by
                show (a.tmps.setIfInBounds d0 v)[j]? = _
                rw [Array.getElem?_setIfInBounds]
                by_cases h : d0 = j
                · subst h; simp [I.sz, hd0]
                · rw [if_neg h, if_neg (Ne.symm h)]
              refine ⟨I.dfr, ?_, fun j hj => ?_, fun k d hk hkd => ?_, hwd⟩
              · show (a.tmps.setIfInBounds d0 v).size = _
                simp [I.sz]
              · rw [T, if_neg (fun e => hj i hin (by rw [hdi, e]))]; exact I.frm j hj
              · rw [T]
                rw [getD_set l i hil] at hk
                by_cases q : k = i
                · subst q
                  rw [hdi] at hkd
                  rw [if_pos (Option.some.inj hkd).symm]
                  exact ⟨v, rfl, hP⟩
                · rw [if_neg q] at hk
                  have hkl : k < l.size := by
                    rcases Nat.lt_or_ge k l.size with z | z
                    · exact z
                    · rw [Array.getD_eq_getD_getElem?, Array.getElem?_eq_none (by omega)] at hk; cases hk
                  have hkn : k < n := by
                    rcases Nat.lt_or_ge k n with z | z
                    · exact z
                    · have h1 := inv.tail k z (by rw [← inv.size]; exact hkl)
                      have e1 : l.getD k false = l.getD k true := by simp [Array.getD, hkl]
                      rw [e1, h1] at hk; cases hk
                  rw [if_neg (fun e => q (inj k i d hkn hin hkd (by rw [hdi, e])))]
                  obtain ⟨u, h1, h2⟩ := I.val k d hk hkd
                  exact ⟨u, h1, pvL_mono M hR h2⟩
          unfold wpOp
          rw [ho]
          dsimp only
          rcases step i o a w hin ho' I.sz I.frm dep I.wd with ⟨h1, h2⟩ | ⟨h1, h2⟩
          · rw [if_pos h1]
            exact .inl (h2 _ nxt)
          · rw [if_neg (by rw [h1]; decide), hd i o hin ho']
            exact nxt undef w (Below.refl _ _) h2
      · have h1 : ∀ i, i < n → l.getD i true = true := fun i hi => by
          cases q : l.getD i true with
          | true => rfl
          | false => exact absurd ⟨i, hi, q⟩ hh
        have hls : l.size = n + g := by rw [inv.size]; simp; omega
        have el := todo_head hls h1 (fun t h2 h3 => inv.tail t h2 (by rw [← inv.size]; exact h3))
        have hd1 : ∀ i, i < n → l.getD i false = true := fun i hi => by
          have e1 : l.getD i false = l.getD i true := by
            have : i < l.size := by omega
            simp [Array.getD, this]
          rw [e1]; exact h1 i hi
        have hgl : (l0.drop n).length = g := by simp; omega
        have hm : m + 1 = g := by
          rw [← ht, el]
          unfold todo
          simp [List.filter_append]
        have := wpAny_of_seq (P := P) (md := .any) (ops := l0.toArray) (Q' := Q) (l0.drop n) n l a w (fun j => by simp [List.getElem?_drop]) (by rw [hgl, el]; exact hq)
          (tail a w I.dfr I.sz I.frm (fun i d hi h => I.val i d (hd1 i hi) h) I.wd)
        rw [hgl] at this
        rw [hm]; exact this
  refine key l0.toArray.size (Array.replicate l0.toArray.size false) a0 w0 ?_ ?_ (by unfold todo; simp)
  · exact ⟨by simp, fun j oj _ hl => (by rw [getD_replicate_false] at hl; cases hl), fun t _ ht => getD_in (by simpa using ht) (getD_replicate_false _ _)⟩
  · have e : ∀ i, (Array.replicate l0.toArray.size false).getD i false = false := fun i => getD_replicate_false _ i
    exact ⟨rfl, rfl, fun _ _ => rfl, (fun i d h => absurd ((e i).symm.trans h) (by decide)), Below.refl _ _⟩
end Go.Proofs.Ytembondddgfpcaa

namespace Go.Proofs.Ytembondddgfpcaa
namespace Vm
open Go.RowKit Go.Shelf Go.Maps
attribute [local go_sem] Oper.semAt_some
theorem evT {a : Act} {i : Nat} {v : Value} (h : a.tmps[i]? = some v) : a.eval (.tmp i) = v := by
  show a.tmps.getD i undef = v
  rw [Array.getD_eq_getD_getElem?, h]; rfl
theorem wantN {ops : Array Oper} {o : Oper} {a : Act} (h : o.guard = none) : Region.wanted o (yielded ops a.tmps) = true := by
  unfold Region.wanted; rw [h]
theorem act_set : ∀ (L : List (Nat × Value)) (s t : Array Value), s.size = t.size → (∀ p ∈ L, s[p.1]? = some p.2) → (∀ j, j ∉ L.map Prod.fst → s[j]? = t[j]?) → s = L.foldl (fun u p => u.setIfInBounds p.1 p.2) t
  | [], s, t, _, _, h => Array.ext_getElem? (fun j => h j (by simp))
  | p :: L, s, t, hs, h1, h2 => by
    rw [List.foldl_cons]
    refine act_set L s _ (by simpa using hs) (fun q hq => h1 q (List.mem_cons_of_mem _ hq)) (fun j hj => ?_)
    rw [Array.getElem?_setIfInBounds]
    have hp := h1 p List.mem_cons_self
    by_cases q : p.1 = j
    · have : p.1 < t.size := by rw [← hs]; exact (Array.getElem?_eq_some_iff.1 hp).1
      rw [if_pos q, if_pos this, ← q]; exact hp
    · rw [if_neg q]
      exact h2 j (by rw [List.map_cons]; intro hm; rcases List.mem_cons.1 hm with e | e; exact q e.symm; exact hj e)
theorem act_set' {a a0 : Act} (L : List (Nat × Value)) (hd : a.defers = a0.defers) (hs : a.tmps.size = a0.tmps.size) (h1 : ∀ p ∈ L, a.tmps[p.1]? = some p.2) (h2 : ∀ j, j ∉ L.map Prod.fst → a.tmps[j]? = a0.tmps[j]?) : a = { a0 with tmps := L.foldl (fun u p => u.setIfInBounds p.1 p.2) a0.tmps } := by
  have := act_set L a.tmps a0.tmps hs h1 h2
  obtain ⟨t, d⟩ := a
  obtain ⟨t0, d0⟩ := a0
  simp only at this hd ⊢
  subst this hd
  rfl
section
variable {o : Oper} {a : Act} {w : World} {K : Act → World → Prop} {Q : Exit → Act → World → Prop}
theorem mo_run {v : Value} (e : (execOp a.eval o).run Try.prog w = .ok (.value v) w) (hK : K (a.put o.dst v) w) : Oper.wp Try.prog o a w K Q := by
  unfold Oper.wp
  rw [e]; exact hK
theorem mo_move {x : Operand} {v : Value} (ho : o.op = Op.move x) (hx : a.eval x = v) (hK : K (a.put o.dst v) w) : Oper.wp Try.prog o a w K Q :=
  mo_run (by simp only [execOp, ho, hx]; simp [go_sem]) hK
theorem mo_field {x : Operand} {T : TypeId} {k b i j : Nat} (hf : (Instr.fieldAt T (.pointer (some ⟨b, i, none⟩)) k).run Try.prog w = .ok (.pointer (some ⟨b, j, none⟩)) w) (ho : o.op = Op.fieldAddr T x k) (hx : a.eval x = .pointer (some ⟨b, i, none⟩)) (hK : K (a.put o.dst (.pointer (some ⟨b, j, none⟩))) w) : Oper.wp Try.prog o a w K Q :=
  mo_run (by simp only [execOp, ho, hx]; simp [hf]) hK
theorem mo_load {x : Operand} {T : TypeId} {b i : Nat} {u : Value} (hl : (Instr.loadAt T (.pointer (some ⟨b, i, none⟩))).run Try.prog w = .ok u w) (ho : o.op = Op.load T x) (hx : a.eval x = .pointer (some ⟨b, i, none⟩)) (hK : K (a.put o.dst u) w) : Oper.wp Try.prog o a w K Q :=
  mo_run (by simp only [execOp, ho, hx]; simp [hl]) hK
section
variable {T : Value → World → Prop}
theorem mo_call1 {x : Operand} {u : Value} (F : Nat) {T1 : TypeId} (ho : o.op = Op.call { callee := Callee.value (Operand.func F), args := #[x], argTypes := #[T1] }) (hx : a.eval x = u)
    (en : ∀ args w, (callFunc F args).run Try.prog w = .ok (.enter F args) w) (hC : Calls Try.prog F #[u] w fun e w' => ∃ v, e = .returned v ∧ T v w') (hK : ∀ v w', T v w' → K (a.put o.dst v) w') : Oper.wp Try.prog o a w K Q := by
  unfold Oper.wp
  have e : (execOp a.eval o).run Try.prog w = .ok (.enter F #[u]) w := by
    have hf : a.eval (.func F) = .func (.func F) #[] #[] := rfl
    generalize a.eval = ρ at hx hf ⊢
    simp only [execOp, ho]
    simp [go_sem, resolve, invoke, hx, hf, en]
  rw [e]
  refine hC.mono ?_
  rintro e w' ⟨v, rfl, h⟩
  exact hK v w' h
theorem mo_call2 {x y : Operand} {u z : Value} (F : Nat) {T1 T2 : TypeId} (ho : o.op = Op.call { callee := Callee.value (Operand.func F), args := #[x, y], argTypes := #[T1, T2] }) (hx : a.eval x = u) (hy : a.eval y = z)
    (en : ∀ args w, (callFunc F args).run Try.prog w = .ok (.enter F args) w) (hC : Calls Try.prog F #[u, z] w fun e w' => ∃ v, e = .returned v ∧ T v w') (hK : ∀ v w', T v w' → K (a.put o.dst v) w') : Oper.wp Try.prog o a w K Q := by
  unfold Oper.wp
  have e : (execOp a.eval o).run Try.prog w = .ok (.enter F #[u, z]) w := by
    have hf : a.eval (.func F) = .func (.func F) #[] #[] := rfl
    generalize a.eval = ρ at hx hy hf ⊢
    simp only [execOp, ho]
    simp [go_sem, resolve, invoke, hx, hy, hf, en]
  rw [e]
  refine hC.mono ?_
  rintro e w' ⟨v, rfl, h⟩
  exact hK v w' h
end
theorem mo_index {x y : Operand} {T : TypeId} {u z p : Value} (hr : (Instr.indexAt T u z).run Try.prog w = .ok p w) (ho : o.op = Op.indexAddr T x y) (hx : a.eval x = u) (hy : a.eval y = z) (hK : K (a.put o.dst p) w) : Oper.wp Try.prog o a w K Q :=
  mo_run (by simp only [execOp, ho, hx, hy]; simp [hr]) hK
theorem idx_file {b n c i : Nat} (hi : i < n) : (Instr.indexAt 32 (.slice (some ⟨b, 0, none⟩) n c) (.int .i64 (i : Nat))).run Try.prog w = .ok (.pointer (some ⟨b, i * 2, none⟩)) w := by
  have h1 : (i : Int) < (n : Int) := by omega
  simp [go_sem, h1]
theorem mo_file {x : Operand} {s : ByteArray} (ho : o.op = Op.build 87 #[(0, x)]) (hx : a.eval x = .string s) (hK : K (a.put o.dst (.agg #[.string s, .slice none 0 0])) w) : Oper.wp Try.prog o a w K Q := by
  refine mo_run ?_ hK
  simp only [execOp, ho]
  rw [show (Array.map (fun (p : Nat × Operand) => match p with | (i, x) => (i, a.eval x)) #[((0 : Nat), x)]) = #[((0 : Nat), Value.string s)] from by rw [← hx]; simp]
  kernel_rfl
theorem mo_wait {x : Operand} {n : Int} (ho : o.op = Op.build 127 #[(1, x), (2, Operand.const (Value.bool true))]) (hx : a.eval x = .int .i64 n) (hK : K (a.put o.dst (.agg #[.int .u8 0, .int .i64 n, .bool true])) w) : Oper.wp Try.prog o a w K Q := by
  refine mo_run ?_ hK
  simp only [execOp, ho]
  rw [show (Array.map (fun (p : Nat × Operand) => match p with | (i, x) => (i, a.eval x)) #[((1 : Nat), x), (2, Operand.const (Value.bool true))]) = #[((1 : Nat), Value.int .i64 n), (2, Value.bool true)] from by rw [← hx]; simp; rfl]
  kernel_rfl
end
def ops_sync7 : List Oper := [
  { dst := some 27, op := Op.load 37 (Operand.tmp 2), type := 37, pos := "ref.go:260", after := #[], guard := none },
  { dst := some 28, op := Op.move (Operand.tmp 6), type := 3, pos := "ref.go:260", after := #[], guard := none },
  { dst := some 29, op := Op.fieldAddr 37 (Operand.tmp 2) 1, type := 0, pos := "ref.go:260", after := #[], guard := none },
  { dst := some 30, op := Op.load 32 (Operand.tmp 29), type := 32, pos := "ref.go:260", after := #[{ on := 2, ground := Ground.data }], guard := none },
  { dst := some 31, op := Op.move (Operand.tmp 6), type := 3, pos := "ref.go:260", after := #[], guard := none },
  { dst := some 32, op := Op.indexAddr 32 (Operand.tmp 30) (Operand.tmp 31), type := 0, pos := "ref.go:260", after := #[{ on := 3, ground := Ground.data }, { on := 4, ground := Ground.data }], guard := none },
  { dst := some 33, op := Op.load 87 (Operand.tmp 32), type := 87, pos := "ref.go:260", after := #[{ on := 5, ground := Ground.data }], guard := none },
  { dst := some 34, op := Op.call { callee := Callee.value (Operand.func 61), args := #[Operand.tmp 33], argTypes := #[87] }, type := 9, pos := "ref.go:260", after := #[{ on := 6, ground := Ground.data }], guard := none },
  { dst := some 35, op := Op.build 87 #[(0, Operand.tmp 34)], type := 87, pos := "ref.go:260", after := #[{ on := 7, ground := Ground.data }], guard := none },
  { dst := some 36, op := Op.call { callee := Callee.value (Operand.func 60), args := #[Operand.tmp 27, Operand.tmp 28, Operand.tmp 35], argTypes := #[37, 3, 87] }, type := 37, pos := "ref.go:260", after := #[{ on := 0, ground := Ground.data }, { on := 1, ground := Ground.data }, { on := 8, ground := Ground.data }, { on := 7, ground := Ground.chain }], guard := none },
  { dst := none, op := Op.store 37 (Operand.tmp 2) (Operand.tmp 36), type := 0, pos := "ref.go:260", after := #[{ on := 9, ground := Ground.data }, { on := 9, ground := Ground.chain }, { on := 0, ground := Ground.phase }, { on := 1, ground := Ground.phase }, { on := 2, ground := Ground.phase }, { on := 3, ground := Ground.phase }, { on := 4, ground := Ground.phase }, { on := 5, ground := Ground.phase }, { on := 6, ground := Ground.phase }, { on := 7, ground := Ground.phase }, { on := 8, ground := Ground.phase }, { on := 9, ground := Ground.phase }], guard := none }]
def dst_sync7 (i : Nat) : Option Nat := (ops_sync7[i]?).bind (·.dst)
theorem inj_sync7 : ∀ i, i < 9 → ∀ k, k < 9 → dst_sync7 i ≠ none → dst_sync7 i = dst_sync7 k → i = k := by decide +kernel
theorem lt_sync7 : ∀ i, i < 9 → (dst_sync7 i).getD 0 < 41 := by decide +kernel
theorem low_sync7 : ∀ i : Fin 11, ∀ e ∈ (ops_sync7[i.1]'(by exact i.2)).after, Region.binds .any e = true → e.on < i.1 := by decide +kernel
def pv_sync7 (b gb i : Nat) (r u l : Int) (q g : Bool) (fn fc sn sc mn mc an ac : Nat) (sa ma aa : Option Addr) (z : ByteArray) (wa : Option Addr) (wn wc : Nat) (se : ByteArray) : List (Value → World → Prop) := [
  fun v w => v = .agg #[.int .i64 r, .slice (some ⟨gb, 0, none⟩) fn fc, .slice sa sn sc, .slice ma mn mc, .int .i64 u, .int .i64 l, .bool q, .bool g, .slice aa an ac],
  fun v w => v = .int .i64 (i : Nat),
  fun v w => v = .pointer (some ⟨b, 1, none⟩),
  fun v w => v = .slice (some ⟨gb, 0, none⟩) fn fc,
  fun v w => v = .int .i64 (i : Nat),
  fun v w => v = .pointer (some ⟨gb, i * 2, none⟩),
  fun v w => v = .agg #[.string z, .slice wa wn wc],
  fun v w => v = .string se,
  fun v w => v = .agg #[.string se, .slice none 0 0]]
set_option maxRecDepth 100000 in
set_option maxHeartbeats 4000000 in
theorem region_sync7 (a0 : Act) (w0 : World) (b gb i : Nat) (r u l : Int) (q g : Bool) (fn fc sn sc mn mc an ac : Nat) (sa ma aa : Option Addr) (z : ByteArray) (wa : Option Addr) (wn wc : Nat) (se : ByteArray) (Q : Exit → Act → World → Prop)
    (hsz : a0.tmps.size = 41) (h2 : a0.tmps[2]? = some (.pointer (some ⟨b, 0, none⟩))) (h6 : a0.tmps[6]? = some (.int .i64 (i : Nat)))
    (hD : ∀ W, Below w0.heap.size w0 W → W.cell? ⟨b, 0, none⟩ = some (.int .i64 r) ∧ W.cell? ⟨b, 1, none⟩ = some (.slice (some ⟨gb, 0, none⟩) fn fc) ∧ W.cell? ⟨b, 2, none⟩ = some (.slice sa sn sc) ∧ W.cell? ⟨b, 3, none⟩ = some (.slice ma mn mc) ∧ W.cell? ⟨b, 4, none⟩ = some (.int .i64 u) ∧ W.cell? ⟨b, 5, none⟩ = some (.int .i64 l) ∧ W.cell? ⟨b, 6, none⟩ = some (.bool q) ∧ W.cell? ⟨b, 7, none⟩ = some (.bool g) ∧ W.cell? ⟨b, 8, none⟩ = some (.slice aa an ac))
    (hE : ∀ W, Below w0.heap.size w0 W → W.cell? ⟨gb, i * 2, none⟩ = some (.string z) ∧ W.cell? ⟨gb, i * 2 + 1, none⟩ = some (.slice wa wn wc)) (hi0 : i < fn)
    (hC7 : ∀ (W : World) (_ : Below w0.heap.size w0 W), Calls Try.prog 61 #[.agg #[.string z, .slice wa wn wc]] W fun e w => ∃ v, e = .returned v ∧ (v = .string se) ∧ Below W.heap.size W w)
    (hQ : ∀ (y0 y1 y2 y3 y4 y5 y6 y7 y8 : Value) (w : World), Below w0.heap.size w0 w → ((fun (v : Value) (w : World) => v = .agg #[.int .i64 r, .slice (some ⟨gb, 0, none⟩) fn fc, .slice sa sn sc, .slice ma mn mc, .int .i64 u, .int .i64 l, .bool q, .bool g, .slice aa an ac]) y0 w) → ((fun (v : Value) (w : World) => v = .int .i64 (i : Nat)) y1 w) → ((fun (v : Value) (w : World) => v = .agg #[.string se, .slice none 0 0]) y8 w) → wpList Try.prog ops_sync7.toArray Q [{ dst := some 36, op := Op.call { callee := Callee.value (Operand.func 60), args := #[Operand.tmp 27, Operand.tmp 28, Operand.tmp 35], argTypes := #[37, 3, 87] }, type := 37, pos := "ref.go:260", after := #[{ on := 0, ground := Ground.data }, { on := 1, ground := Ground.data }, { on := 8, ground := Ground.data }, { on := 7, ground := Ground.chain }], guard := none }, { dst := none, op := Op.store 37 (Operand.tmp 2) (Operand.tmp 36), type := 0, pos := "ref.go:260", after := #[{ on := 9, ground := Ground.data }, { on := 9, ground := Ground.chain }, { on := 0, ground := Ground.phase }, { on := 1, ground := Ground.phase }, { on := 2, ground := Ground.phase }, { on := 3, ground := Ground.phase }, { on := 4, ground := Ground.phase }, { on := 5, ground := Ground.phase }, { on := 6, ground := Ground.phase }, { on := 7, ground := Ground.phase }, { on := 8, ground := Ground.phase }, { on := 9, ground := Ground.phase }], guard := none }] { a0 with tmps := [(27, y0), (28, y1), (29, y2), (30, y3), (31, y4), (32, y5), (33, y6), (34, y7), (35, y8)].foldl (fun u p => u.setIfInBounds p.1 p.2) a0.tmps } w) :
    wpAny Try.prog .any ops_sync7.toArray Q ops_sync7.toArray.size (Array.replicate ops_sync7.toArray.size false) a0 w0 := by
  have M : AllM (pv_sync7 b gb i r u l q g fn fc sn sc mn mc an ac sa ma aa z wa wn wc se) := ⟨fun v x y hb h => h, fun v x y hb h => h, fun v x y hb h => h, fun v x y hb h => h, fun v x y hb h => h, fun v x y hb h => h, fun v x y hb h => h, fun v x y hb h => h, fun v x y hb h => h, trivial⟩
  refine wpAny_mono_tail 9 2 (by kernel_rfl) (by decide) a0 w0 dst_sync7 (pv_sync7 b gb i r u l q g fn fc sn sc mn mc an ac sa ma aa z wa wn wc se) M (by kernel_rfl) (by kernel_rfl) (by kernel_rfl)
    (fun i o _ ho => by unfold dst_sync7; rw [ho]; rfl)
    (fun i k d hi hk h1 h2 => inj_sync7 i hi k hk (by rw [h1]; intro q; cases q) (by rw [h1, h2]))
    (fun i d hi h => by have := lt_sync7 i hi; rw [h] at this; rw [hsz]; exact this)
    (fun i o e ho he hb => by
      obtain ⟨hi, rfl⟩ := List.getElem?_eq_some_iff.1 ho
      exact low_sync7 ⟨i, hi⟩ e he hb)
    ?step ?fin
  case fin =>
    intro a w hd hs hf hv hR
    obtain ⟨y0, hy0, pv0⟩ := hv 0 27 (by decide) rfl
    obtain ⟨y1, hy1, pv1⟩ := hv 1 28 (by decide) rfl
    obtain ⟨y2, hy2, pv2⟩ := hv 2 29 (by decide) rfl
    obtain ⟨y3, hy3, pv3⟩ := hv 3 30 (by decide) rfl
    obtain ⟨y4, hy4, pv4⟩ := hv 4 31 (by decide) rfl
    obtain ⟨y5, hy5, pv5⟩ := hv 5 32 (by decide) rfl
    obtain ⟨y6, hy6, pv6⟩ := hv 6 33 (by decide) rfl
    obtain ⟨y7, hy7, pv7⟩ := hv 7 34 (by decide) rfl
    obtain ⟨y8, hy8, pv8⟩ := hv 8 35 (by decide) rfl
    rw [act_set' (a := a) (a0 := a0) [(27, y0), (28, y1), (29, y2), (30, y3), (31, y4), (32, y5), (33, y6), (34, y7), (35, y8)] hd hs (by
      intro p hp
      simp only [List.mem_cons, List.not_mem_nil, or_false] at hp
      rcases hp with rfl | rfl | rfl | rfl | rfl | rfl | rfl | rfl | rfl
      · exact hy0
      · exact hy1
      · exact hy2
      · exact hy3
      · exact hy4
      · exact hy5
      · exact hy6
      · exact hy7
      · exact hy8
      ) (fun j hj => hf j (fun k hk q => hj (by
        have : ∀ k, k < 9 → (dst_sync7 k).all (fun d => [27, 28, 29, 30, 31, 32, 33, 34, 35].contains d) = true := by decide +kernel
        have h1 := this k hk
        rw [q] at h1
        simpa using h1)))]
    exact hQ y0 y1 y2 y3 y4 y5 y6 y7 y8 w hR pv0 pv1 pv8
  case step =>
    intro i o a w hi ho hs hf dep hR
    have e2 := evT ((hf 2 (by decide +kernel)).trans h2)
    have e6 := evT ((hf 6 (by decide +kernel)).trans h6)
    rcases (by omega : i = 0 ∨ i = 1 ∨ i = 2 ∨ i = 3 ∨ i = 4 ∨ i = 5 ∨ i = 6 ∨ i = 7 ∨ i = 8) with rfl | rfl | rfl | rfl | rfl | rfl | rfl | rfl | rfl
    · have ho2 : some _ = some o := ho
      obtain rfl := Option.some.inj ho2
      exact .inl ⟨wantN rfl, fun K hK => mo_load (by obtain ⟨c0, c1, c2, c3, c4, c5, c6, c7, c8⟩ := hD w hR; simp [go_sem, c0, c1, c2, c3, c4, c5, c6, c7, c8]) rfl e2 (hK _ _ (Below.refl _ _) rfl)⟩
    · have ho2 : some _ = some o := ho
      obtain rfl := Option.some.inj ho2
      exact .inl ⟨wantN rfl, fun K hK => mo_move rfl e6 (hK _ _ (Below.refl _ _) rfl)⟩
    · have ho2 : some _ = some o := ho
      obtain rfl := Option.some.inj ho2
      exact .inl ⟨wantN rfl, fun K hK => mo_field (by simp [go_sem]) rfl e2 (hK _ _ (Below.refl _ _) rfl)⟩
    · have ho2 : some _ = some o := ho
      obtain rfl := Option.some.inj ho2
      obtain ⟨_, hv2, rfl⟩ : ∃ v, a.tmps[29]? = some v ∧ (fun (v : Value) (w : World) => v = .pointer (some ⟨b, 1, none⟩)) v w := dep ⟨2, Ground.data⟩ (by first | simp | simp [ops_sync7]) rfl 29 rfl
      exact .inl ⟨wantN rfl, fun K hK => mo_load (by simp [go_sem, (hD w hR).2.1]) rfl (evT hv2) (hK _ _ (Below.refl _ _) rfl)⟩
    · have ho2 : some _ = some o := ho
      obtain rfl := Option.some.inj ho2
      exact .inl ⟨wantN rfl, fun K hK => mo_move rfl e6 (hK _ _ (Below.refl _ _) rfl)⟩
    · have ho2 : some _ = some o := ho
      obtain rfl := Option.some.inj ho2
      obtain ⟨_, hv3, rfl⟩ : ∃ v, a.tmps[30]? = some v ∧ (fun (v : Value) (w : World) => v = .slice (some ⟨gb, 0, none⟩) fn fc) v w := dep ⟨3, Ground.data⟩ (by first | simp | simp [ops_sync7]) rfl 30 rfl
      obtain ⟨_, hv4, rfl⟩ : ∃ v, a.tmps[31]? = some v ∧ (fun (v : Value) (w : World) => v = .int .i64 (i : Nat)) v w := dep ⟨4, Ground.data⟩ (by first | simp | simp [ops_sync7]) rfl 31 rfl
      exact .inl ⟨wantN rfl, fun K hK => mo_index (idx_file hi0) rfl (evT hv3) (evT hv4) (hK _ _ (Below.refl _ _) rfl)⟩
    · have ho2 : some _ = some o := ho
      obtain rfl := Option.some.inj ho2
      obtain ⟨_, hv5, rfl⟩ : ∃ v, a.tmps[32]? = some v ∧ (fun (v : Value) (w : World) => v = .pointer (some ⟨gb, i * 2, none⟩)) v w := dep ⟨5, Ground.data⟩ (by first | simp | simp [ops_sync7]) rfl 32 rfl
      exact .inl ⟨wantN rfl, fun K hK => mo_load (by obtain ⟨c0, c1⟩ := hE w hR; simp [go_sem, c0, c1]) rfl (evT hv5) (hK _ _ (Below.refl _ _) rfl)⟩
    · have ho2 : some _ = some o := ho
      obtain rfl := Option.some.inj ho2
      obtain ⟨_, hv6, rfl⟩ : ∃ v, a.tmps[33]? = some v ∧ (fun (v : Value) (w : World) => v = .agg #[.string z, .slice wa wn wc]) v w := dep ⟨6, Ground.data⟩ (by first | simp | simp [ops_sync7]) rfl 33 rfl
      exact .inl ⟨wantN rfl, fun K hK => mo_call1 61 rfl (evT hv6) (enters_of (P := Try.prog) Try.func61 (by kernel_rfl) rfl) (hC7 w hR) (fun v w' h => hK v w' h.2 h.1)⟩
    · have ho2 : some _ = some o := ho
      obtain rfl := Option.some.inj ho2
      obtain ⟨_, hv7, rfl⟩ : ∃ v, a.tmps[34]? = some v ∧ (fun (v : Value) (w : World) => v = .string se) v w := dep ⟨7, Ground.data⟩ (by first | simp | simp [ops_sync7]) rfl 34 rfl
      exact .inl ⟨wantN rfl, fun K hK => mo_file rfl (evT hv7) (hK _ _ (Below.refl _ _) rfl)⟩
def ops_cut9 : List Oper := [
  { dst := some 43, op := Op.load 37 (Operand.tmp 3), type := 37, pos := "ref.go:246", after := #[], guard := none },
  { dst := some 44, op := Op.move (Operand.tmp 8), type := 3, pos := "ref.go:246", after := #[], guard := none },
  { dst := some 45, op := Op.fieldAddr 37 (Operand.tmp 3) 1, type := 0, pos := "ref.go:246", after := #[], guard := none },
  { dst := some 46, op := Op.load 32 (Operand.tmp 45), type := 32, pos := "ref.go:246", after := #[{ on := 2, ground := Ground.data }], guard := none },
  { dst := some 47, op := Op.move (Operand.tmp 8), type := 3, pos := "ref.go:246", after := #[], guard := none },
  { dst := some 48, op := Op.indexAddr 32 (Operand.tmp 46) (Operand.tmp 47), type := 0, pos := "ref.go:246", after := #[{ on := 3, ground := Ground.data }, { on := 4, ground := Ground.data }], guard := none },
  { dst := some 49, op := Op.load 87 (Operand.tmp 48), type := 87, pos := "ref.go:246", after := #[{ on := 5, ground := Ground.data }], guard := none },
  { dst := some 50, op := Op.move (Operand.tmp 2), type := 3, pos := "ref.go:246", after := #[], guard := none },
  { dst := some 51, op := Op.build 127 #[(1, Operand.tmp 50), (2, Operand.const (Value.bool true))], type := 127, pos := "ref.go:246", after := #[{ on := 7, ground := Ground.data }], guard := none },
  { dst := some 52, op := Op.call { callee := Callee.value (Operand.func 62), args := #[Operand.tmp 49, Operand.tmp 51], argTypes := #[87, 127] }, type := 87, pos := "ref.go:246", after := #[{ on := 6, ground := Ground.data }, { on := 8, ground := Ground.data }], guard := none },
  { dst := some 53, op := Op.call { callee := Callee.value (Operand.func 60), args := #[Operand.tmp 43, Operand.tmp 44, Operand.tmp 52], argTypes := #[37, 3, 87] }, type := 37, pos := "ref.go:246", after := #[{ on := 0, ground := Ground.data }, { on := 1, ground := Ground.data }, { on := 9, ground := Ground.data }, { on := 9, ground := Ground.chain }], guard := none },
  { dst := none, op := Op.store 37 (Operand.tmp 3) (Operand.tmp 53), type := 0, pos := "ref.go:246", after := #[{ on := 10, ground := Ground.data }, { on := 10, ground := Ground.chain }, { on := 0, ground := Ground.phase }, { on := 1, ground := Ground.phase }, { on := 2, ground := Ground.phase }, { on := 3, ground := Ground.phase }, { on := 4, ground := Ground.phase }, { on := 5, ground := Ground.phase }, { on := 6, ground := Ground.phase }, { on := 7, ground := Ground.phase }, { on := 8, ground := Ground.phase }, { on := 9, ground := Ground.phase }, { on := 10, ground := Ground.phase }], guard := none }]
def dst_cut9 (i : Nat) : Option Nat := (ops_cut9[i]?).bind (·.dst)
theorem inj_cut9 : ∀ i, i < 10 → ∀ k, k < 10 → dst_cut9 i ≠ none → dst_cut9 i = dst_cut9 k → i = k := by decide +kernel
theorem lt_cut9 : ∀ i, i < 10 → (dst_cut9 i).getD 0 < 59 := by decide +kernel
theorem low_cut9 : ∀ i : Fin 12, ∀ e ∈ (ops_cut9[i.1]'(by exact i.2)).after, Region.binds .any e = true → e.on < i.1 := by decide +kernel
def pv_cut9 (b gb i : Nat) (r u l : Int) (q g : Bool) (fn fc sn sc mn mc an ac : Nat) (sa ma aa : Option Addr) (z : ByteArray) (wa : Option Addr) (wn wc : Nat) (n : Int) (L : List Value) : List (Value → World → Prop) := [
  fun v w => v = .agg #[.int .i64 r, .slice (some ⟨gb, 0, none⟩) fn fc, .slice sa sn sc, .slice ma mn mc, .int .i64 u, .int .i64 l, .bool q, .bool g, .slice aa an ac],
  fun v w => v = .int .i64 (i : Nat),
  fun v w => v = .pointer (some ⟨b, 1, none⟩),
  fun v w => v = .slice (some ⟨gb, 0, none⟩) fn fc,
  fun v w => v = .int .i64 (i : Nat),
  fun v w => v = .pointer (some ⟨gb, i * 2, none⟩),
  fun v w => v = .agg #[.string z, .slice wa wn wc],
  fun v w => v = .int .i64 n,
  fun v w => v = .agg #[.int .u8 0, .int .i64 n, .bool true],
  fun v w => ∃ c k, v = .agg #[.string z, .slice (some ⟨c, 0, none⟩) (wn + 1) k] ∧ w.ownsRow 0 127 3 (.slice (some ⟨c, 0, none⟩) (wn + 1) k) (wn + 1) L]
set_option maxRecDepth 100000 in
set_option maxHeartbeats 4000000 in
theorem region_cut9 (a0 : Act) (w0 : World) (b gb i : Nat) (r u l : Int) (q g : Bool) (fn fc sn sc mn mc an ac : Nat) (sa ma aa : Option Addr) (z : ByteArray) (wa : Option Addr) (wn wc : Nat) (n : Int) (L : List Value) (Q : Exit → Act → World → Prop)
    (hsz : a0.tmps.size = 59) (h3 : a0.tmps[3]? = some (.pointer (some ⟨b, 0, none⟩))) (h8 : a0.tmps[8]? = some (.int .i64 (i : Nat))) (h2 : a0.tmps[2]? = some (.int .i64 n))
    (hD : ∀ W, Below w0.heap.size w0 W → W.cell? ⟨b, 0, none⟩ = some (.int .i64 r) ∧ W.cell? ⟨b, 1, none⟩ = some (.slice (some ⟨gb, 0, none⟩) fn fc) ∧ W.cell? ⟨b, 2, none⟩ = some (.slice sa sn sc) ∧ W.cell? ⟨b, 3, none⟩ = some (.slice ma mn mc) ∧ W.cell? ⟨b, 4, none⟩ = some (.int .i64 u) ∧ W.cell? ⟨b, 5, none⟩ = some (.int .i64 l) ∧ W.cell? ⟨b, 6, none⟩ = some (.bool q) ∧ W.cell? ⟨b, 7, none⟩ = some (.bool g) ∧ W.cell? ⟨b, 8, none⟩ = some (.slice aa an ac))
    (hE : ∀ W, Below w0.heap.size w0 W → W.cell? ⟨gb, i * 2, none⟩ = some (.string z) ∧ W.cell? ⟨gb, i * 2 + 1, none⟩ = some (.slice wa wn wc)) (hi0 : i < fn)
    (hC9 : ∀ (W : World) (_ : Below w0.heap.size w0 W), Calls Try.prog 62 #[.agg #[.string z, .slice wa wn wc], .agg #[.int .u8 0, .int .i64 n, .bool true]] W fun e w => ∃ v, e = .returned v ∧ (∃ c k, v = .agg #[.string z, .slice (some ⟨c, 0, none⟩) (wn + 1) k] ∧ w.ownsRow 0 127 3 (.slice (some ⟨c, 0, none⟩) (wn + 1) k) (wn + 1) L) ∧ Below W.heap.size W w)
    (hQ : ∀ (y0 y1 y2 y3 y4 y5 y6 y7 y8 y9 : Value) (w : World), Below w0.heap.size w0 w → ((fun (v : Value) (w : World) => v = .agg #[.int .i64 r, .slice (some ⟨gb, 0, none⟩) fn fc, .slice sa sn sc, .slice ma mn mc, .int .i64 u, .int .i64 l, .bool q, .bool g, .slice aa an ac]) y0 w) → ((fun (v : Value) (w : World) => v = .int .i64 (i : Nat)) y1 w) → ((fun (v : Value) (w : World) => ∃ c k, v = .agg #[.string z, .slice (some ⟨c, 0, none⟩) (wn + 1) k] ∧ w.ownsRow 0 127 3 (.slice (some ⟨c, 0, none⟩) (wn + 1) k) (wn + 1) L) y9 w) → wpList Try.prog ops_cut9.toArray Q [{ dst := some 53, op := Op.call { callee := Callee.value (Operand.func 60), args := #[Operand.tmp 43, Operand.tmp 44, Operand.tmp 52], argTypes := #[37, 3, 87] }, type := 37, pos := "ref.go:246", after := #[{ on := 0, ground := Ground.data }, { on := 1, ground := Ground.data }, { on := 9, ground := Ground.data }, { on := 9, ground := Ground.chain }], guard := none }, { dst := none, op := Op.store 37 (Operand.tmp 3) (Operand.tmp 53), type := 0, pos := "ref.go:246", after := #[{ on := 10, ground := Ground.data }, { on := 10, ground := Ground.chain }, { on := 0, ground := Ground.phase }, { on := 1, ground := Ground.phase }, { on := 2, ground := Ground.phase }, { on := 3, ground := Ground.phase }, { on := 4, ground := Ground.phase }, { on := 5, ground := Ground.phase }, { on := 6, ground := Ground.phase }, { on := 7, ground := Ground.phase }, { on := 8, ground := Ground.phase }, { on := 9, ground := Ground.phase }, { on := 10, ground := Ground.phase }], guard := none }] { a0 with tmps := [(43, y0), (44, y1), (45, y2), (46, y3), (47, y4), (48, y5), (49, y6), (50, y7), (51, y8), (52, y9)].foldl (fun u p => u.setIfInBounds p.1 p.2) a0.tmps } w) :
    wpAny Try.prog .any ops_cut9.toArray Q ops_cut9.toArray.size (Array.replicate ops_cut9.toArray.size false) a0 w0 := by
  have M : AllM (pv_cut9 b gb i r u l q g fn fc sn sc mn mc an ac sa ma aa z wa wn wc n L) := ⟨fun v x y hb h => h, fun v x y hb h => h, fun v x y hb h => h, fun v x y hb h => h, fun v x y hb h => h, fun v x y hb h => h, fun v x y hb h => h, fun v x y hb h => h, fun v x y hb h => h, fun v x y hb h => by obtain ⟨c, k, e, h1⟩ := h; exact ⟨c, k, e, row_below h1 hb (Nat.le_refl _)⟩, trivial⟩
  refine wpAny_mono_tail 10 2 (by kernel_rfl) (by decide) a0 w0 dst_cut9 (pv_cut9 b gb i r u l q g fn fc sn sc mn mc an ac sa ma aa z wa wn wc n L) M (by kernel_rfl) (by kernel_rfl) (by kernel_rfl)
    (fun i o _ ho => by unfold dst_cut9; rw [ho]; rfl)
    (fun i k d hi hk h1 h2 => inj_cut9 i hi k hk (by rw [h1]; intro q; cases q) (by rw [h1, h2]))
    (fun i d hi h => by have := lt_cut9 i hi; rw [h] at this; rw [hsz]; exact this)
    (fun i o e ho he hb => by
      obtain ⟨hi, rfl⟩ := List.getElem?_eq_some_iff.1 ho
      exact low_cut9 ⟨i, hi⟩ e he hb)
    ?step ?fin
  case fin =>
    intro a w hd hs hf hv hR
    obtain ⟨y0, hy0, pv0⟩ := hv 0 43 (by decide) rfl
    obtain ⟨y1, hy1, pv1⟩ := hv 1 44 (by decide) rfl
    obtain ⟨y2, hy2, pv2⟩ := hv 2 45 (by decide) rfl
    obtain ⟨y3, hy3, pv3⟩ := hv 3 46 (by decide) rfl
    obtain ⟨y4, hy4, pv4⟩ := hv 4 47 (by decide) rfl
    obtain ⟨y5, hy5, pv5⟩ := hv 5 48 (by decide) rfl
    obtain ⟨y6, hy6, pv6⟩ := hv 6 49 (by decide) rfl
    obtain ⟨y7, hy7, pv7⟩ := hv 7 50 (by decide) rfl
    obtain ⟨y8, hy8, pv8⟩ := hv 8 51 (by decide) rfl
    obtain ⟨y9, hy9, pv9⟩ := hv 9 52 (by decide) rfl
    rw [act_set' (a := a) (a0 := a0) [(43, y0), (44, y1), (45, y2), (46, y3), (47, y4), (48, y5), (49, y6), (50, y7), (51, y8), (52, y9)] hd hs (by
      intro p hp
      simp only [List.mem_cons, List.not_mem_nil, or_false] at hp
      rcases hp with rfl | rfl | rfl | rfl | rfl | rfl | rfl | rfl | rfl | rfl
      · exact hy0
      · exact hy1
      · exact hy2
      · exact hy3
      · exact hy4
      · exact hy5
      · exact hy6
      · exact hy7
      · exact hy8
      · exact hy9
      ) (fun j hj => hf j (fun k hk q => hj (by
        have : ∀ k, k < 10 → (dst_cut9 k).all (fun d => [43, 44, 45, 46, 47, 48, 49, 50, 51, 52].contains d) = true := by decide +kernel
        have h1 := this k hk
        rw [q] at h1
        simpa using h1)))]
    exact hQ y0 y1 y2 y3 y4 y5 y6 y7 y8 y9 w hR pv0 pv1 pv9
  case step =>
    intro i o a w hi ho hs hf dep hR
    have e3 := evT ((hf 3 (by decide +kernel)).trans h3)
    have e8 := evT ((hf 8 (by decide +kernel)).trans h8)
    have e2 := evT ((hf 2 (by decide +kernel)).trans h2)
    rcases (by omega : i = 0 ∨ i = 1 ∨ i = 2 ∨ i = 3 ∨ i = 4 ∨ i = 5 ∨ i = 6 ∨ i = 7 ∨ i = 8 ∨ i = 9) with rfl | rfl | rfl | rfl | rfl | rfl | rfl | rfl | rfl | rfl
    · have ho2 : some _ = some o := ho
      obtain rfl := Option.some.inj ho2
      exact .inl ⟨wantN rfl, fun K hK => mo_load (by obtain ⟨c0, c1, c2, c3, c4, c5, c6, c7, c8⟩ := hD w hR; simp [go_sem, c0, c1, c2, c3, c4, c5, c6, c7, c8]) rfl e3 (hK _ _ (Below.refl _ _) rfl)⟩
    · have ho2 : some _ = some o := ho
      obtain rfl := Option.some.inj ho2
      exact .inl ⟨wantN rfl, fun K hK => mo_move rfl e8 (hK _ _ (Below.refl _ _) rfl)⟩
    · have ho2 : some _ = some o := ho
      obtain rfl := Option.some.inj ho2
      exact .inl ⟨wantN rfl, fun K hK => mo_field (by simp [go_sem]) rfl e3 (hK _ _ (Below.refl _ _) rfl)⟩
    · have ho2 : some _ = some o := ho
      obtain rfl := Option.some.inj ho2
      obtain ⟨_, hv2, rfl⟩ : ∃ v, a.tmps[45]? = some v ∧ (fun (v : Value) (w : World) => v = .pointer (some ⟨b, 1, none⟩)) v w := dep ⟨2, Ground.data⟩ (by first | simp | simp [ops_cut9]) rfl 45 rfl
      exact .inl ⟨wantN rfl, fun K hK => mo_load (by simp [go_sem, (hD w hR).2.1]) rfl (evT hv2) (hK _ _ (Below.refl _ _) rfl)⟩
    · have ho2 : some _ = some o := ho
      obtain rfl := Option.some.inj ho2
      exact .inl ⟨wantN rfl, fun K hK => mo_move rfl e8 (hK _ _ (Below.refl _ _) rfl)⟩
    · have ho2 : some _ = some o := ho
      obtain rfl := Option.some.inj ho2
      obtain ⟨_, hv3, rfl⟩ : ∃ v, a.tmps[46]? = some v ∧ (fun (v : Value) (w : World) => v = .slice (some ⟨gb, 0, none⟩) fn fc) v w := dep ⟨3, Ground.data⟩ (by first | simp | simp [ops_cut9]) rfl 46 rfl
      obtain ⟨_, hv4, rfl⟩ : ∃ v, a.tmps[47]? = some v ∧ (fun (v : Value) (w : World) => v = .int .i64 (i : Nat)) v w := dep ⟨4, Ground.data⟩ (by first | simp | simp [ops_cut9]) rfl 47 rfl
      exact .inl ⟨wantN rfl, fun K hK => mo_index (idx_file hi0) rfl (evT hv3) (evT hv4) (hK _ _ (Below.refl _ _) rfl)⟩
    · have ho2 : some _ = some o := ho
      obtain rfl := Option.some.inj ho2
      obtain ⟨_, hv5, rfl⟩ : ∃ v, a.tmps[48]? = some v ∧ (fun (v : Value) (w : World) => v = .pointer (some ⟨gb, i * 2, none⟩)) v w := dep ⟨5, Ground.data⟩ (by first | simp | simp [ops_cut9]) rfl 48 rfl
      exact .inl ⟨wantN rfl, fun K hK => mo_load (by obtain ⟨c0, c1⟩ := hE w hR; simp [go_sem, c0, c1]) rfl (evT hv5) (hK _ _ (Below.refl _ _) rfl)⟩
    · have ho2 : some _ = some o := ho
      obtain rfl := Option.some.inj ho2
      exact .inl ⟨wantN rfl, fun K hK => mo_move rfl e2 (hK _ _ (Below.refl _ _) rfl)⟩
    · have ho2 : some _ = some o := ho
      obtain rfl := Option.some.inj ho2
      obtain ⟨_, hv7, rfl⟩ : ∃ v, a.tmps[50]? = some v ∧ (fun (v : Value) (w : World) => v = .int .i64 n) v w := dep ⟨7, Ground.data⟩ (by first | simp | simp [ops_cut9]) rfl 50 rfl
      exact .inl ⟨wantN rfl, fun K hK => mo_wait rfl (evT hv7) (hK _ _ (Below.refl _ _) rfl)⟩
    · have ho2 : some _ = some o := ho
      obtain rfl := Option.some.inj ho2
      obtain ⟨_, hv6, rfl⟩ : ∃ v, a.tmps[49]? = some v ∧ (fun (v : Value) (w : World) => v = .agg #[.string z, .slice wa wn wc]) v w := dep ⟨6, Ground.data⟩ (by first | simp | simp [ops_cut9]) rfl 49 rfl
      obtain ⟨_, hv8, rfl⟩ : ∃ v, a.tmps[51]? = some v ∧ (fun (v : Value) (w : World) => v = .agg #[.int .u8 0, .int .i64 n, .bool true]) v w := dep ⟨8, Ground.data⟩ (by first | simp | simp [ops_cut9]) rfl 51 rfl
      exact .inl ⟨wantN rfl, fun K hK => mo_call2 62 rfl (evT hv6) (evT hv8) (enters_of (P := Try.prog) Try.func62 (by kernel_rfl) rfl) (hC9 w hR) (fun v w' h => hK v w' h.2 h.1)⟩
end Vm
end Go.Proofs.Ytembondddgfpcaa

namespace Go.Proofs.Ytembondddgfpcaa
open Go.RowKit Go.Maps
attribute [local go_sem] World.cell?_alloc_some

theorem files_mod {l : List (FileM × Value)} {fs : List FileM} (e : l.map (·.1) = fs) {i : Nat} (h : i < l.length) (g : FileM → FileM) (v : Value) : (l.set i (g l[i].1, v)).map (·.1) = modM fs i g := by
  subst e
  unfold modM
  rw [dif_pos (by simpa using h), List.map_set]
  simp
theorem OpW.drew {w W : World} {M : RefM} {f s m a : Tri} (h : OpW w W M f s m a) : OpW w W.drew M f s m a := h.below ((Below.refl _ _).drew)
theorem RefAt.filed {w : World} {M : RefM} {f s m a f' : Tri} (h : RefAt w M f s m a) {l : List (FileM × Value)} {fs : List FileM} (e : l.map (·.1) = fs) (g : FilesRow w (sliceV f') l) : RefAt w { M with files := fs } f' s m a := ⟨⟨l, e, g⟩, h.sure, h.moves, h.acts⟩
set_option maxRecDepth 100000 in
set_option maxHeartbeats 8000000 in
theorem refsync_any {M : RefM} {f s m a : Tri} (hF : Fit' M) (z : ByteArray) (hz : z.size ≤ 1000) (w : World) (h : RefAt w M f s m a) :
    Calls Try.prog 32 #[slices f s m a M.room M.units M.left M.armed M.gone, .string z] w (ResR w (syncM M z).1 (syncM M z).2) := by
  have O := Lib.hid (OpW.start h)
  have A := Lib.hid (fun (W : World) (hb : Below w.heap.size w W) => asked_call hF.fit z hz W (h.below hb (Nat.le_refl _)))
  have FH := Lib.hid hF
  have hcode := asked_codes M [z] z
  have hlt := fun hq => hF.fit.asked_lt (zs := [z]) (z := z) hq
  obtain ⟨f1, f2, f3⟩ := f
  obtain ⟨s1, s2, s3⟩ := s
  obtain ⟨m1, m2, m3⟩ := m
  obtain ⟨a1, a2, a3⟩ := a
  unfold syncM
  unfold askedI at A
  generalize hq : askedM M [z] z = q at *
  obtain ⟨q1, q2⟩ := q
  dsimp only at A hcode hlt ⊢
  by_cases h0 : q2 = 0
  · subst h0
    have hq1 := hlt rfl
    simp only [if_true, ne_eq, not_true_eq_false, if_false] at A ⊢
    clear hcode hlt hq
    obtain ⟨l, hl, hfr⟩ := h.files
    have hql : q1 < l.length := by rw [← hl] at hq1; simpa using hq1
    unfold sliceV at hfr
    dsimp only at hfr
    obtain ⟨gb, cap, ⟨⟩, _⟩ := Joins.ownsRow_form hfr.1 (by omega)
    have SM := Lib.hid (FH.out.fit.files l[q1].1 (by rw [← hl]; exact List.mem_map.2 ⟨l[q1], List.getElem_mem hql, rfl⟩))
    obtain ⟨⟨t1, t2, t3⟩, ht, htn⟩ := row_tri (hfr.2 _ (List.getElem_mem hql))
    have htn : t2 = l[q1].1.waits.length := htn
    subst htn
    have HFR := Lib.hid hfr
    have HT := Lib.hid ht
    have HL := Lib.hid hl
    have hln : l.length ≤ 100000 := by have := FH.out.files; rw [← hl] at this; simpa using this
    clear h hF hfr ht hl hq1
    cases hc : canM M with
    | true =>
      have U := Lib.hid (refunit_yes hc (some ⟨gb, 0, none⟩, l.length, f3) (s1, s2, s3) (m1, m2, m3) (a1, a2, a3) FH.out.fit.units FH.out.fit.left)
      clear hc
      have WI := fun (W : World) (h1 : FilesRow W (.slice (some ⟨gb, 0, none⟩) l.length f3) l) => refwith_any (doneM M).room (doneM M).units (doneM M).left (doneM M).armed (doneM M).gone (some ⟨gb, 0, none⟩, l.length, f3) (s1, s2, s3) (m1, m2, m3) (a1, a2, a3) l q1 ⟨bs l[q1].1.seen, []⟩ (none, 0, 0) W h1 ⟨rfl, .inl ⟨rfl, rfl⟩⟩ hql hln
      have DI := Lib.hid (fun (ff : Tri) (W : World) => refdid_any (doneM M).room (doneM M).units (doneM M).left (doneM M).armed (doneM M).gone ff (s1, s2, s3) (m1, m2, m3) (a1, a2, a3) M.acts ⟨4, z, ⟨#[]⟩, ⟨#[]⟩, 0⟩ W)
      unfold slices refA at A U ⊢
      unfold slices refA at DI
      unfold slices refA sliceV at WI
      dsimp only at WI
      have WI := Lib.hid WI
      go_enter Try.func32, Try.ntmps32
      go_wp2_with fail
      refine (A.out _ O.out.bel).mono ?_
      rintro e w1 ⟨rfl, hb1⟩
      have O1 := Lib.hid (O.out.below hb1)
      clear hb1 O  A
      obtain ⟨b0, b1, b2, b3, b4, b5, b6, b7, b8⟩ := cells9 O1.out.cells
      have bl := O1.out.c0.lt
      go_wp2_with fail
      refine (U.out _).mono ?_
      rintro e w2 ⟨rfl, hb2⟩
      have O2 := Lib.hid (O1.out.below hb2)
      clear hb2 O1 b0 b1 b2 b3 b4 b5 b6 b7 b8 bl U
      obtain ⟨b0, b1, b2, b3, b4, b5, b6, b7, b8⟩ := cells9 O2.out.cells
      have bl := O2.out.c0.lt
      have g0 := O2.out.c0.frozen 0
      have g1 := O2.out.c0.frozen 1
      have g2 := O2.out.c0.frozen 2
      have g3 := O2.out.c0.frozen 3
      have g4 := O2.out.c0.frozen 4
      have g5 := O2.out.c0.frozen 5
      have g6 := O2.out.c0.frozen 6
      have g7 := O2.out.c0.frozen 7
      have g8 := O2.out.c0.frozen 8
      have O2s := Lib.hid (O2.out.set O2.out.at_.done)
      clear O2
      go_upto_region 7 with fail
      obtain ⟨W3, hW3⟩ : ∃ W, setBox w2 w.heap.size (.int .i64 (doneM M).room) (.slice (some ⟨gb, 0, none⟩) l.length f3) (.slice s1 s2 s3) (.slice m1 m2 m3) (.int .i64 (doneM M).units) (.int .i64 (doneM M).left) (.bool (doneM M).armed) (.bool (doneM M).gone) (.slice a1 a2 a3) = W := ⟨_, rfl⟩
      have P := O2s.out
      try dsimp only at P
      rw [hW3] at P
      unfold setBox at hW3
      rw [hW3]
      have P := Lib.hid P.drew
      clear hW3 O2s b0 b1 b2 b3 b4 b5 b6 b7 b8 bl g0 g1 g2 g3 g4 g5 g6 g7 g8
      refine wp_region_any (by kernel_rfl) ?_
      have HFW := HFR.out.below P.out.bel (Nat.le_refl _)
      have HFW := Lib.hid HFW
      obtain ⟨c0, c1⟩ := filesM_at l q1 hql
      rw [HT.out] at c1
      unfold sliceV at c1
      have c0 := Lib.hid c0
      have c1 := Lib.hid c1
      refine Vm.region_sync7 _ W3.drew w.heap.size gb q1 (doneM M).room (doneM M).units (doneM M).left (doneM M).armed (doneM M).gone l.length f3 s2 s3 m2 m3 a2 a3 s1 m1 a1 l[q1].1.sure t1 l[q1].1.waits.length t3 (bs l[q1].1.seen) _ rfl rfl rfl ?hD ?hE hql ?hC7 ?hQ
      case hD => exact fun W hb => cells9 (P.out.below hb).cells
      case hE => exact fun W hb => ⟨row_at (HFW.out.below hb (Nat.le_refl _)).1 c0.out, row_at (HFW.out.below hb (Nat.le_refl _)).1 c1.out⟩
      case hC7 =>
        intro W hb
        have S := refseen_any l[q1].1 l[q1].2 W ((HFW.out.below hb (Nat.le_refl _)).2 _ (List.getElem_mem hql)) SM.out
        rw [HT.out] at S
        refine S.mono ?_
        rintro e w' ⟨rfl, hb'⟩
        exact ⟨_, rfl, rfl, hb'⟩
      case hQ =>
        intro y0 y1 y2 y3 y4 y5 y6 y7 y8 W4 hb4 hy0 hy1 hy8
        try dsimp only at hy0 hy1 hy8
        subst hy0 hy1 hy8
        have Q4 := Lib.hid (P.out.below hb4)
        have HF4 := Lib.hid (HFW.out.below hb4 (Nat.le_refl _))
        clear P HFW c0 c1 hb4
        simp only [List.foldl, List.setIfInBounds_toArray, List.set_cons_zero, List.set_cons_succ]
        obtain ⟨b0, b1, b2, b3, b4, b5, b6, b7, b8⟩ := cells9 Q4.out.cells
        have bl := Q4.out.c0.lt
        have g0 := Q4.out.c0.frozen 0
        have g1 := Q4.out.c0.frozen 1
        have g2 := Q4.out.c0.frozen 2
        have g3 := Q4.out.c0.frozen 3
        have g4 := Q4.out.c0.frozen 4
        have g5 := Q4.out.c0.frozen 5
        have g6 := Q4.out.c0.frozen 6
        have g7 := Q4.out.c0.frozen 7
        have g8 := Q4.out.c0.frozen 8
        go_wp2_with fail
        refine (WI.out _ HF4.out).mono ?_
        rintro e w5 ⟨⟨⟨p1, p2, p3⟩, rfl, hfr5⟩, hb5⟩
        have O5 := Lib.hid (Q4.out.below hb5)
        have RA := Lib.hid (O5.out.at_.filed (f' := (p1, p2, p3)) (fs := modM M.files q1 fun f => ⟨⟨f.seen.toArray⟩, []⟩) (files_mod HL.out hql (fun f => ⟨⟨f.seen.toArray⟩, []⟩) _) hfr5)
        clear hb5 Q4 b0 b1 b2 b3 b4 b5 b6 b7 b8 bl g0 g1 g2 g3 g4 g5 g6 g7 g8 WI hfr5 HF4
        obtain ⟨b0, b1, b2, b3, b4, b5, b6, b7, b8⟩ := cells9 O5.out.cells
        have bl := O5.out.c0.lt
        have g0 := O5.out.c0.frozen 0
        have g1 := O5.out.c0.frozen 1
        have g2 := O5.out.c0.frozen 2
        have g3 := O5.out.c0.frozen 3
        have g4 := O5.out.c0.frozen 4
        have g5 := O5.out.c0.frozen 5
        have g6 := O5.out.c0.frozen 6
        have g7 := O5.out.c0.frozen 7
        have g8 := O5.out.c0.frozen 8
        try dsimp only
        have O5s := Lib.hid (O5.out.set RA.out)
        clear O5
        clear RA
        go_wp2_with fail
        refine (DI.out (p1, p2, p3) _ O5s.out.at_.acts FH.out.acts).mono ?_
        rintro e w6 ⟨⟨db, dc, rfl, down⟩, hb6⟩
        have O6 := Lib.hid (O5s.out.below hb6)
        have R2 := Lib.hid ((O6.out.at_).did (x := ⟨4, z, ⟨#[]⟩, ⟨#[]⟩, 0⟩) (a' := slT db (M.acts.length + 1) dc) (by rw [snoc_len]; exact down))
        clear hb6 O5s b0 b1 b2 b3 b4 b5 b6 b7 b8 bl g0 g1 g2 g3 g4 g5 g6 g7 g8 down DI
        obtain ⟨b0, b1, b2, b3, b4, b5, b6, b7, b8⟩ := cells9 O6.out.cells
        have bl := O6.out.c0.lt
        obtain ⟨x0, x1, x2, x3, x4, x5, x6, x7, x8, xl, y0, y1, y2, y3, y4, y5, y6, y7, y8⟩ := Box9.of O6.out.c1
        go_wp2
        refine bodyPost_ret (ret_box rfl _ _ (w.heap.size + 1) _ rfl (setBox_to O6.out.c1 _ _ _ _ _ _ _ _ _) rfl) rfl ?_
        exact O6.out.res' R2.out _
    | false =>
      have U := Lib.hid (refunit_no hc (some ⟨gb, 0, none⟩, l.length, f3) (s1, s2, s3) (m1, m2, m3) (a1, a2, a3) FH.out.fit.units FH.out.fit.left)
      clear hc
      unfold slices refA at A U ⊢
      go_enter Try.func32, Try.ntmps32
      go_wp2_with fail
      refine (A.out _ O.out.bel).mono ?_
      rintro e w1 ⟨rfl, hb1⟩
      have O1 := Lib.hid (O.out.below hb1)
      clear hb1 O  A
      obtain ⟨b0, b1, b2, b3, b4, b5, b6, b7, b8⟩ := cells9 O1.out.cells
      have bl := O1.out.c0.lt
      go_wp2_with fail
      refine (U.out _).mono ?_
      rintro e w2 ⟨rfl, hb2⟩
      have O2 := Lib.hid (O1.out.below hb2)
      clear hb2 O1 b0 b1 b2 b3 b4 b5 b6 b7 b8 bl U
      obtain ⟨b0, b1, b2, b3, b4, b5, b6, b7, b8⟩ := cells9 O2.out.cells
      have bl := O2.out.c0.lt
      have g0 := O2.out.c0.frozen 0
      have g1 := O2.out.c0.frozen 1
      have g2 := O2.out.c0.frozen 2
      have g3 := O2.out.c0.frozen 3
      have g4 := O2.out.c0.frozen 4
      have g5 := O2.out.c0.frozen 5
      have g6 := O2.out.c0.frozen 6
      have g7 := O2.out.c0.frozen 7
      have g8 := O2.out.c0.frozen 8
      obtain ⟨x0, x1, x2, x3, x4, x5, x6, x7, x8, xl, y0, y1, y2, y3, y4, y5, y6, y7, y8⟩ := Box9.of O2.out.c1
      have O2s := Lib.hid (O2.out.set O2.out.at_.gone)
      clear O2
      go_wp2
      refine bodyPost_ret (ret_box rfl _ _ (w.heap.size + 1) _ rfl (setBox_to O2s.out.c1 _ _ _ _ _ _ _ _ _) rfl) rfl ?_
      exact O2s.out.res _
  · simp only [ne_eq, h0, not_false_eq_true, if_true, if_false] at A ⊢
    have hne : ((q2 : Int) == 0) = false := by rw [beq_eq_false_iff_ne]; omega
    clear h hF hlt hq
    unfold slices refA at A ⊢
    go_enter Try.func32, Try.ntmps32
    go_wp2_with fail
    refine (A.out _ O.out.bel).mono ?_
    rintro e w1 ⟨rfl, hb1⟩
    have O1 := Lib.hid (O.out.below hb1)
    clear hb1 O  A
    obtain ⟨b0, b1, b2, b3, b4, b5, b6, b7, b8⟩ := cells9 O1.out.cells
    have bl := O1.out.c0.lt
    obtain ⟨x0, x1, x2, x3, x4, x5, x6, x7, x8, xl, y0, y1, y2, y3, y4, y5, y6, y7, y8⟩ := Box9.of O1.out.c1
    go_wp2
    refine bodyPost_ret (ret_box rfl _ _ (w.heap.size + 1) _ rfl (setBox_to O1.out.c1 _ _ _ _ _ _ _ _ _) rfl) rfl ?_
    exact O1.out.res _
end Go.Proofs.Ytembondddgfpcaa

