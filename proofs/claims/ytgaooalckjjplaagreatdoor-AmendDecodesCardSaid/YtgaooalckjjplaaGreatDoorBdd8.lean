/- Texts put together: EY, RM, RO, JB, EJ, AQ, EM, EV, ES, HA, EZ, AW. -/
import Derived.StillTail
import Derived.WideShapes
import Derived.Lib.SliceRun
import Derived.Test.YtgaooalckjjplaaGreatDoorBfa1
import Derived.Test.YtgaooalckjjplaaGreatDoorBfa2
import Derived.Test.YtgaooalckjjplaaGreatDoorBfa3
import Derived.Test.YtgaooalckjjplaaGreatDoorBfa4
import Derived.Test.YtgaooalckjjplaaGreatDoorBfa5
import Derived.Test.YtgaooalckjjplaaGreatDoorBfa7
import Derived.Test.YtgaooalckjjplaaGreatDoorBfa8
import Derived.Test.YtgaooalckjjplaaGreatDoorBfa9
import Derived.Test.YtgaooalckjjplaaGreatDoorBfa10
import Derived.Test.YtgaooalckjjplaaGreatDoorBfa11
import Derived.Test.YtgaooalckjjplaaGreatDoorBfa12
import Derived.Test.YtgaooalckjjplaaGreatDoorBfa13
import Derived.Test.YtgaooalckjjplaaGreatDoorBfa14
import Derived.Test.YtgaooalckjjplaaGreatDoorBfa15
import Derived.Test.YtgaooalckjjplaaGreatDoorBfa16
import Derived.Test.YtgaooalckjjplaaGreatDoorBfa17
import Derived.Test.YtgaooalckjjplaaGreatDoorBdd1
import Derived.Test.YtgaooalckjjplaaGreatDoorBdd2
import Derived.Test.YtgaooalckjjplaaGreatDoorBdd3
import Derived.Test.YtgaooalckjjplaaGreatDoorBdd4
import Derived.Test.YtgaooalckjjplaaGreatDoorBdd5
set_option linter.unusedVariables false
namespace Go.Proofs.YtgaooalckjjplaaGreatDoor
open Go.RowKit Go.Shelf
attribute [local go_sem] Oper.semAt_some

/-- A bool that says whether something is so. -/
def Tells (p : Prop) (e : Ending) : Prop := ∃ b : Bool, e = .returned (.bool b) ∧ (b = true ↔ p)
end Go.Proofs.YtgaooalckjjplaaGreatDoor

namespace Go.Proofs.YtgaooalckjjplaaGreatDoor
open Go.RowKit

structure MTab (a0 : Act) (w0 : World) (n : Nat) (dst : Nat → Option Nat) (Pv : Nat → Value → World → Prop) (R : World → World → Prop) (l : Array Bool) (a : Act) (w : World) : Prop where
  dfr : a.defers = a0.defers
  sz : a.tmps.size = a0.tmps.size
  frm : ∀ j, (∀ k, k < n → dst k ≠ some j) → a.tmps[j]? = a0.tmps[j]?
  val : ∀ i d, l.getD i false = true → dst i = some d → ∃ v, a.tmps[d]? = some v ∧ Pv i v w
  wd : R w0 w
/-- What holds of each operation's value: by a list. -/
def pvL (L : List (Value → World → Prop)) (i : Nat) (v : Value) (w : World) : Prop := match L[i]? with | some P => P v w | none => True
def AllM : List (Value → World → Prop) → Prop
  | [] => True
  | P :: r => (∀ v x y, Below x.heap.size x y → P v x → P v y) ∧ AllM r
theorem pvL_mono : ∀ {L : List (Value → World → Prop)} (_ : AllM L) {i : Nat} {v : Value} {x y : World}, Below x.heap.size x y → pvL L i v x → pvL L i v y
  | [], _, i, v, x, y, _, _ => trivial
  | P :: r, h, 0, v, x, y, hb, hp => h.1 v x y hb hp
  | P :: r, h, i + 1, v, x, y, hb, hp => pvL_mono (L := r) h.2 (i := i) hb hp
end Go.Proofs.YtgaooalckjjplaaGreatDoor

namespace Go.Proofs.YtgaooalckjjplaaGreatDoor
open Go.RowKit Go.Shelf
attribute [local go_sem] Oper.semAt_some

theorem evT {a : Act} {i : Nat} {v : Value} (h : a.tmps[i]? = some v) : a.eval (.tmp i) = v := by
  show a.tmps.getD i undef = v
  rw [Array.getD_eq_getD_getElem?, h]; rfl
theorem wantN {ops : Array Oper} {o : Oper} {a : Act} (h : o.guard = none) : Region.wanted o (yielded ops a.tmps) = true := by
  unfold Region.wanted; rw [h]
theorem act_set : ∀ (L : List (Nat × Value)) (s t : Array Value), s.size = t.size → (∀ p ∈ L, s[p.1]? = some p.2) → (∀ j, j ∉ L.map Prod.fst → s[j]? = t[j]?) → s = L.foldl (fun u p => u.setIfInBounds p.1 p.2) t
  | [], s, t, _, _, h => Array.ext_getElem? (fun j => h j (by simp))
  | p :: L, s, t, hs, h1, h2 => by
    rw [List.foldl_cons]
    refine act_set L s _ (by simpa using hs) (fun q hq => h1 q (List.mem_cons_of_mem _ hq)) (fun j hj => ?_)
    rw [Array.getElem?_setIfInBounds]
    have hp := h1 p List.mem_cons_self
    by_cases q : p.1 = j
    · have : p.1 < t.size := by rw [← hs]; exact (Array.getElem?_eq_some_iff.1 hp).1
      rw [if_pos q, if_pos this, ← q]; exact hp
    · rw [if_neg q]
      exact h2 j (by rw [List.map_cons]; intro hm; rcases List.mem_cons.1 hm with e | e; exact q e.symm; exact hj e)
theorem act_set' {a a0 : Act} (L : List (Nat × Value)) (hd : a.defers = a0.defers) (hs : a.tmps.size = a0.tmps.size) (h1 : ∀ p ∈ L, a.tmps[p.1]? = some p.2) (h2 : ∀ j, j ∉ L.map Prod.fst → a.tmps[j]? = a0.tmps[j]?) : a = { a0 with tmps := L.foldl (fun u p => u.setIfInBounds p.1 p.2) a0.tmps } := by
  have := act_set L a.tmps a0.tmps hs h1 h2
  obtain ⟨t, d⟩ := a
  obtain ⟨t0, d0⟩ := a0
  simp only at this hd ⊢
  subst this hd
  rfl
section
variable {o : Oper} {a : Act} {w : World} {K : Act → World → Prop} {Q : Exit → Act → World → Prop}
theorem mo_run {v : Value} (e : (execOp a.eval o).run Tryz.prog w = .ok (.value v) w) (hK : K (a.put o.dst v) w) : Oper.wp Tryz.prog o a w K Q := by
  unfold Oper.wp
  rw [e]; exact hK
theorem mo_move {x : Operand} {v : Value} (ho : o.op = Op.move x) (hx : a.eval x = v) (hK : K (a.put o.dst v) w) : Oper.wp Tryz.prog o a w K Q :=
  mo_run (by simp only [execOp, ho, hx]; simp [go_sem]) hK
theorem mo_field {x : Operand} {T : TypeId} {k b i j : Nat} (hf : (Instr.fieldAt T (.pointer (some ⟨b, i, none⟩)) k).run Tryz.prog w = .ok (.pointer (some ⟨b, j, none⟩)) w) (ho : o.op = Op.fieldAddr T x k) (hx : a.eval x = .pointer (some ⟨b, i, none⟩)) (hK : K (a.put o.dst (.pointer (some ⟨b, j, none⟩))) w) : Oper.wp Tryz.prog o a w K Q :=
  mo_run (by simp only [execOp, ho, hx]; simp [hf]) hK
theorem mo_load {x : Operand} {T : TypeId} {b i : Nat} {u : Value} (hl : (Instr.loadAt T (.pointer (some ⟨b, i, none⟩))).run Tryz.prog w = .ok u w) (ho : o.op = Op.load T x) (hx : a.eval x = .pointer (some ⟨b, i, none⟩)) (hK : K (a.put o.dst u) w) : Oper.wp Tryz.prog o a w K Q :=
  mo_run (by simp only [execOp, ho, hx]; simp [hl]) hK
end
section
variable {o : Oper} {a : Act} {w : World} {K : Act → World → Prop} {Q : Exit → Act → World → Prop} {T : Value → World → Prop}
theorem mo_call1 {x : Operand} {u : Value} (F : Nat) {T1 : TypeId} (ho : o.op = Op.call { callee := Callee.value (Operand.func F), args := #[x], argTypes := #[T1] }) (hx : a.eval x = u)
    (en : ∀ args w, (callFunc F args).run Tryz.prog w = .ok (.enter F args) w) (hC : Calls Tryz.prog F #[u] w fun e w' => ∃ v, e = .returned v ∧ T v w') (hK : ∀ v w', T v w' → K (a.put o.dst v) w') : Oper.wp Tryz.prog o a w K Q := by
  unfold Oper.wp
  have e : (execOp a.eval o).run Tryz.prog w = .ok (.enter F #[u]) w := by
    have hf : a.eval (.func F) = .func (.func F) #[] #[] := rfl
    generalize a.eval = ρ at hx hf ⊢
    simp only [execOp, ho]
    simp [go_sem, resolve, invoke, hx, hf, en]
  rw [e]
  refine hC.mono ?_
  rintro e w' ⟨v, rfl, h⟩
  exact hK v w' h
theorem mo_call2 {x y : Operand} {u z : Value} (F : Nat) {T1 T2 : TypeId} (ho : o.op = Op.call { callee := Callee.value (Operand.func F), args := #[x, y], argTypes := #[T1, T2] }) (hx : a.eval x = u) (hy : a.eval y = z)
    (en : ∀ args w, (callFunc F args).run Tryz.prog w = .ok (.enter F args) w) (hC : Calls Tryz.prog F #[u, z] w fun e w' => ∃ v, e = .returned v ∧ T v w') (hK : ∀ v w', T v w' → K (a.put o.dst v) w') : Oper.wp Tryz.prog o a w K Q := by
  unfold Oper.wp
  have e : (execOp a.eval o).run Tryz.prog w = .ok (.enter F #[u, z]) w := by
    have hf : a.eval (.func F) = .func (.func F) #[] #[] := rfl
    generalize a.eval = ρ at hx hy hf ⊢
    simp only [execOp, ho]
    simp [go_sem, resolve, invoke, hx, hy, hf, en]
  rw [e]
  refine hC.mono ?_
  rintro e w' ⟨v, rfl, h⟩
  exact hK v w' h
end
end Go.Proofs.YtgaooalckjjplaaGreatDoor

namespace Go.Proofs.YtgaooalckjjplaaGreatDoor
open Go.RowKit Go.Shelf
attribute [local go_sem] Oper.semAt_some
section
variable {o : Oper} {a : Act} {w : World} {K : Act → World → Prop} {Q : Exit → Act → World → Prop}
theorem mo_index {x y : Operand} {T : TypeId} {u z p : Value} (hr : (Instr.indexAt T u z).run Tryz.prog w = .ok p w) (ho : o.op = Op.indexAddr T x y) (hx : a.eval x = u) (hy : a.eval y = z) (hK : K (a.put o.dst p) w) : Oper.wp Tryz.prog o a w K Q :=
  mo_run (by simp only [execOp, ho, hx, hy]; simp [hr]) hK
theorem mo_loadv {x : Operand} {T : TypeId} {p u : Value} (hl : (Instr.loadAt T p).run Tryz.prog w = .ok u w) (ho : o.op = Op.load T x) (hx : a.eval x = p) (hK : K (a.put o.dst u) w) : Oper.wp Tryz.prog o a w K Q :=
  mo_run (by simp only [execOp, ho, hx]; simp [hl]) hK
end
end Go.Proofs.YtgaooalckjjplaaGreatDoor

namespace Go.Proofs.YtgaooalckjjplaaGreatDoor
open Go.RowKit

theorem todo_set {l : Array Bool} {i : Nat} (hi : i < l.size) (hl : l.getD i true = false) : todo (l.setIfInBounds i true) + 1 = todo l := by
  have hlf : l[i] = false := by simpa [Array.getD, hi] using hl
  have key : ∀ (xs : List Bool) (j : Nat) (hj : j < xs.length), xs[j] = false → ((xs.set j true).filter (fun b => !b)).length + 1 = (xs.filter (fun b => !b)).length := by
    intro xs
    induction xs with
    | nil => intro j hj; simp at hj
    | cons x xs ih2 =>
      intro j hj hx
      cases j with
      | zero => simp at hx; subst hx; simp
      | succ j =>
        have := ih2 j (by simpa using hj) (by simpa using hx)
        cases x <;> simp at this ⊢ <;> omega
  have h2 := key l.toList i (by simpa using hi) (by simpa using hlf)
  unfold todo
  have e : (l.setIfInBounds i true).toList = l.toList.set i true := by simp
  rw [e]; exact h2
theorem todo_head {l : Array Bool} {n g : Nat} (hs : l.size = n + g) (h1 : ∀ i, i < n → l.getD i true = true) (h2 : ∀ t, n ≤ t → t < l.size → l.getD t true = false) : l = (List.replicate n true ++ List.replicate g false).toArray := by
  apply Array.ext
  · simp [hs]
  · intro i hi _
    have e : l[i] = l.getD i true := by simp [Array.getD, hi]
    rw [e]
    by_cases h : i < n
    · rw [h1 i h]; simp [h]
    · rw [h2 i (by omega) hi]; simp [List.getElem_append, h]
theorem wpAny_mono_tail {P : Program} {l0 : List Oper} {Q : Exit → Act → World → Prop} (n g : Nat) (hng : n + g = l0.length) (hg : 0 < g) (a0 : Act) (w0 : World) (dst : Nat → Option Nat) (L : List (Value → World → Prop)) (M : AllM L)
    (hs : Region.sinkB .any l0.toArray n = true) (hc : Region.chainB .any l0.toArray n = true) (hq : Region.seqB .any l0.toArray g n (List.replicate n true ++ List.replicate g false).toArray = true)
    (hd : ∀ i o, i < n → l0[i]? = some o → o.dst = dst i) (inj : ∀ i k d, i < n → k < n → dst i = some d → dst k = some d → i = k) (dlt : ∀ i d, i < n → dst i = some d → d < a0.tmps.size)
    (hlow : ∀ i o e, l0[i]? = some o → e ∈ o.after → Region.binds .any e = true → e.on < i)
    (step : ∀ i o a w, i < n → l0[i]? = some o → a.tmps.size = a0.tmps.size → (∀ j, (∀ k, k < n → dst k ≠ some j) → a.tmps[j]? = a0.tmps[j]?) → (∀ e ∈ o.after, Region.binds .any e = true → ∀ d, dst e.on = some d → ∃ v, a.tmps[d]? = some v ∧ pvL L e.on v w) → Below w0.heap.size w0 w →
      (Region.wanted o (yielded l0.toArray a.tmps) = true ∧ ∀ K : Act → World → Prop, (∀ v w', Below w.heap.size w w' → pvL L i v w' → K (a.put (dst i) v) w') → Oper.wp P o a w K Q) ∨ (Region.wanted o (yielded l0.toArray a.tmps) = false ∧ pvL L i undef w))
    (tail : ∀ a w, a.defers = a0.defers → a.tmps.size = a0.tmps.size → (∀ j, (∀ k, k < n → dst k ≠ some j) → a.tmps[j]? = a0.tmps[j]?) → (∀ i d, i < n → dst i = some d → ∃ v, a.tmps[d]? = some v ∧ pvL L i v w) → Below w0.heap.size w0 w → wpList P l0.toArray Q (l0.drop n) a w) :
    wpAny P .any l0.toArray Q l0.toArray.size (Array.replicate l0.toArray.size false) a0 w0 := by
  have key : ∀ (m : Nat) (l : Array Bool) (a : Act) (w : World), HeadInv .any l0.toArray n l → MTab a0 w0 n dst (pvL L) (fun x y => Below x.heap.size x y) l a w → todo l = m → wpAny P .any l0.toArray Q m l a w := by
    intro m
    induction m with
    | zero =>
      intro l a w inv I ht
      exfalso
      have hn : n < l.size := by rw [inv.size]; simp; omega
      have h1 := todo_set hn (inv.tail n (Nat.le_refl _) (by simp; omega))
      omega
    | succ m ih =>
      intro l a w inv I ht
      by_cases hh : ∃ i, i < n ∧ l.getD i true = false
      · obtain ⟨i0, hi0, hl0⟩ := hh
        have hwait := tail_waits hs hc (by simp; omega) inv (n - i0) i0 rfl hi0 hl0
        refine ⟨fun hr => ?_, fun i hi => ?_⟩
        · exfalso
          have hall := all_done (ops := l0.toArray) inv.size (fun i o e ho he hb => hlow i o e (by simpa using ho) he hb) hr i0 (by simp; omega)
          have hi0' : i0 < l.size := by rw [inv.size]; simp; omega
          have e1 : l.getD i0 false = l.getD i0 true := by simp [Array.getD, hi0']
          rw [e1, hl0] at hall; cases hall
        · have hin : i < n := by
            rcases Nat.lt_or_ge i n with q | q
            · exact q
            · exact absurd hi (hwait i q)
          obtain ⟨o, ho, hli, he⟩ := ready_spec hi
          have ho' : l0[i]? = some o := by simpa using ho
          have hil : i < l.size := by rw [inv.size]; simp; omega
          have dep : ∀ e ∈ o.after, Region.binds .any e = true → ∀ d, dst e.on = some d → ∃ v, a.tmps[d]? = some v ∧ pvL L e.on v w := fun e h1 h2 d h3 => I.val e.on d (he e h1 h2) h3
          have nxt : ∀ v w', Below w.heap.size w w' → pvL L i v w' → wpAny P .any l0.toArray Q m (l.setIfInBounds i true) (a.put (dst i) v) w' := by
            intro v w' hR hP
            refine ih _ _ _ (inv.set hi hin) ?_ (by have := todo_set hil hli; omega)
            have hwd : Below w0.heap.size w0 w' := I.wd.trans (hR.mono I.wd.size)
            cases hdi : dst i with
            | none =>
              refine ⟨I.dfr, I.sz, I.frm, fun k d hk hkd => ?_, hwd⟩
              rw [getD_set l i hil] at hk
              by_cases q : k = i
              · rw [q, hdi] at hkd; cases hkd
              · rw [if_neg q] at hk
                obtain ⟨u, h1, h2⟩ := I.val k d hk hkd
                exact ⟨u, h1, pvL_mono M hR h2⟩
            | some d0 =>
              have hd0 := dlt i d0 hin hdi
              have T : ∀ j, (a.put (some d0) v).tmps[j]? = if j = d0 then some v else a.tmps[j]? := fun j => by
                show (a.tmps.setIfInBounds d0 v)[j]? = _
                rw [Array.getElem?_setIfInBounds]
                by_cases h : d0 = j
                · subst h; simp [I.sz, hd0]
                · rw [if_neg h, if_neg (Ne.symm h)]
              refine ⟨I.dfr, ?_, fun j hj => ?_, fun k d hk hkd => ?_, hwd⟩
              · show (a.tmps.setIfInBounds d0 v).size = _
                simp [I.sz]
              · rw [T, if_neg (fun e => hj i hin (by rw [hdi, e]))]; exact I.frm j hj
              · rw [T]
                rw [getD_set l i hil] at hk
                by_cases q : k = i
                · subst q
                  rw [hdi] at hkd
                  rw [if_pos (Option.some.inj hkd).symm]
                  exact ⟨v, rfl, hP⟩
                · rw [if_neg q] at hk
                  have hkl : k < l.size := by
                    rcases Nat.lt_or_ge k l.size with z | z
                    · exact z
                    · rw [Array.getD_eq_getD_getElem?, Array.getElem?_eq_none (by omega)] at hk; cases hk
                  have hkn : k < n := by
                    rcases Nat.lt_or_ge k n with z | z
                    · exact z
                    · have h1 := inv.tail k z (by rw [← inv.size]; exact hkl)
                      have e1 : l.getD k false = l.getD k true := by simp [Array.getD, hkl]
                      rw [e1, h1] at hk; cases hk
                  rw [if_neg (fun e => q (inj k i d hkn hin hkd (by rw [hdi, e])))]
                  obtain ⟨u, h1, h2⟩ := I.val k d hk hkd
                  exact ⟨u, h1, pvL_mono M hR h2⟩
          unfold wpOp
          rw [ho]
          dsimp only
          rcases step i o a w hin ho' I.sz I.frm dep I.wd with ⟨h1, h2⟩ | ⟨h1, h2⟩
          · rw [if_pos h1]
            exact .inl (h2 _ nxt)
          · rw [if_neg (by rw [h1]; decide), hd i o hin ho']
            exact nxt undef w (Below.refl _ _) h2
      · have h1 : ∀ i, i < n → l.getD i true = true := fun i hi => by
          cases q : l.getD i true with
          | true => rfl
          | false => exact absurd ⟨i, hi, q⟩ hh
        have hls : l.size = n + g := by rw [inv.size]; simp; omega
        have el := todo_head hls h1 (fun t h2 h3 => inv.tail t h2 (by rw [← inv.size]; exact h3))
        have hd1 : ∀ i, i < n → l.getD i false = true := fun i hi => by
          have e1 : l.getD i false = l.getD i true := by
            have : i < l.size := by omega
            simp [Array.getD, this]
          rw [e1]; exact h1 i hi
        have hgl : (l0.drop n).length = g := by simp; omega
        have hm : m + 1 = g := by
          rw [← ht, el]
          unfold todo
          simp [List.filter_append]
        have := wpAny_of_seq (P := P) (md := .any) (ops := l0.toArray) (Q' := Q) (l0.drop n) n l a w (fun j => by simp [List.getElem?_drop]) (by rw [hgl, el]; exact hq)
          (tail a w I.dfr I.sz I.frm (fun i d hi h => I.val i d (hd1 i hi) h) I.wd)
        rw [hgl] at this
        rw [hm]; exact this
  refine key l0.toArray.size (Array.replicate l0.toArray.size false) a0 w0 ?_ ?_ (by unfold todo; simp)
  · exact ⟨by simp, fun j oj _ hl => (by rw [getD_replicate_false] at hl; cases hl), fun t _ ht => getD_in (by simpa using ht) (getD_replicate_false _ _)⟩
  · have e : ∀ i, (Array.replicate l0.toArray.size false).getD i false = false := fun i => getD_replicate_false _ i
    exact ⟨rfl, rfl, fun _ _ => rfl, (fun i d h => absurd ((e i).symm.trans h) (by decide)), Below.refl _ _⟩
end Go.Proofs.YtgaooalckjjplaaGreatDoor

namespace Go.Proofs.YtgaooalckjjplaaGreatDoor
open Go.RowKit Go.Shelf

section
variable {K : Act → World → Prop} {Q : Exit → Act → World → Prop} {o : Oper} {a : Act} {w : World}
theorem mo_addS {x y : Operand} {m n : ByteArray} (ho : o.op = Op.binOp BinOp.add 9 x y 9) (hx : a.eval x = .string m) (hy : a.eval y = .string n) (hm : m.size ≤ 1000000000) (hn : n.size ≤ 1000000000) (hK : K (a.put o.dst (.string (m ++ n))) w) : Oper.wp Tryz.prog o a w K Q :=
  mo_run (by
    generalize a.eval = ρ at hx hy ⊢
    have h1 : m.size + n.size ≤ 9223372036854775807 := by omega
    simp only [execOp, ho, hx, hy]
    simp [go_sem, h1]) hK
end
theorem idx_eds {b off n c i : Nat} {w : World} (h : i < n) : (Instr.indexAt 22 (.slice (some ⟨b, off, none⟩) n c) (.int .i64 (i : Nat))).run Tryz.prog w = .ok (.pointer (some ⟨b, off + i * 3, none⟩)) w := by
  have h1 : (i : Int) < (n : Int) := by omega
  have h2 : (0 : Int) ≤ (i : Int) := by omega
  simp [go_sem, h1, h2]

def ops_re5 : List Oper := [
  { dst := some 11, op := Op.move (Operand.tmp 3), type := 9, pos := "ref.go:69", after := #[], guard := none },
  { dst := some 12, op := Op.move (Operand.tmp 0), type := 22, pos := "ref.go:69", after := #[], guard := none },
  { dst := some 13, op := Op.move (Operand.tmp 4), type := 3, pos := "ref.go:69", after := #[], guard := none },
  { dst := some 14, op := Op.indexAddr 22 (Operand.tmp 12) (Operand.tmp 13), type := 0, pos := "ref.go:69", after := #[{ on := 1, ground := Ground.data }, { on := 2, ground := Ground.data }], guard := none },
  { dst := some 15, op := Op.load 64 (Operand.tmp 14), type := 64, pos := "ref.go:69", after := #[{ on := 3, ground := Ground.data }], guard := none },
  { dst := some 16, op := Op.call { callee := Callee.value (Operand.func 49), args := #[Operand.tmp 15], argTypes := #[64] }, type := 9, pos := "ref.go:69", after := #[{ on := 4, ground := Ground.data }], guard := none },
  { dst := some 17, op := Op.binOp BinOp.add 9 (Operand.tmp 11) (Operand.tmp 16) 9, type := 9, pos := "ref.go:69", after := #[{ on := 0, ground := Ground.data }, { on := 5, ground := Ground.data }], guard := none },
  { dst := some 18, op := Op.binOp BinOp.add 9 (Operand.tmp 17) (Operand.const (Value.string { data := #[10] })) 9, type := 9, pos := "ref.go:69", after := #[{ on := 6, ground := Ground.data }], guard := none },
  { dst := some 19, op := Op.move (Operand.tmp 0), type := 22, pos := "ref.go:69", after := #[], guard := none },
  { dst := some 20, op := Op.move (Operand.tmp 4), type := 3, pos := "ref.go:69", after := #[], guard := none },
  { dst := some 21, op := Op.indexAddr 22 (Operand.tmp 19) (Operand.tmp 20), type := 0, pos := "ref.go:69", after := #[{ on := 8, ground := Ground.data }, { on := 9, ground := Ground.data }], guard := none },
  { dst := some 22, op := Op.fieldAddr 64 (Operand.tmp 21) 2, type := 0, pos := "ref.go:69", after := #[{ on := 10, ground := Ground.data }], guard := none },
  { dst := some 23, op := Op.load 46 (Operand.tmp 22), type := 46, pos := "ref.go:69", after := #[{ on := 11, ground := Ground.data }], guard := none },
  { dst := some 24, op := Op.call { callee := Callee.value (Operand.func 97), args := #[Operand.tmp 23], argTypes := #[46] }, type := 9, pos := "ref.go:69", after := #[{ on := 12, ground := Ground.data }, { on := 5, ground := Ground.chain }], guard := none },
  { dst := some 25, op := Op.call { callee := Callee.value (Operand.func 96), args := #[Operand.tmp 24, Operand.const (Value.string { data := #[32, 32] })], argTypes := #[9, 9] }, type := 9, pos := "ref.go:69", after := #[{ on := 13, ground := Ground.data }, { on := 13, ground := Ground.chain }], guard := none },
  { dst := some 26, op := Op.binOp BinOp.add 9 (Operand.tmp 18) (Operand.tmp 25) 9, type := 9, pos := "ref.go:69", after := #[{ on := 7, ground := Ground.data }, { on := 14, ground := Ground.data }], guard := none },
  { dst := some 3, op := Op.assign (Operand.tmp 26), type := 9, pos := "ref.go:69", after := #[{ on := 15, ground := Ground.data }, { on := 14, ground := Ground.chain }, { on := 0, ground := Ground.phase }, { on := 1, ground := Ground.phase }, { on := 2, ground := Ground.phase }, { on := 3, ground := Ground.phase }, { on := 4, ground := Ground.phase }, { on := 5, ground := Ground.phase }, { on := 6, ground := Ground.phase }, { on := 7, ground := Ground.phase }, { on := 8, ground := Ground.phase }, { on := 9, ground := Ground.phase }, { on := 10, ground := Ground.phase }, { on := 11, ground := Ground.phase }, { on := 12, ground := Ground.phase }, { on := 13, ground := Ground.phase }, { on := 14, ground := Ground.phase }, { on := 15, ground := Ground.phase }], guard := none }]
def dst_re5 (i : Nat) : Option Nat := (ops_re5[i]?).bind (·.dst)
theorem inj_re5 : ∀ i, i < 16 → ∀ k, k < 16 → dst_re5 i ≠ none → dst_re5 i = dst_re5 k → i = k := by decide +kernel
theorem lt_re5 : ∀ i, i < 16 → (dst_re5 i).getD 0 < 28 := by decide +kernel
theorem low_re5 : ∀ i : Fin 17, ∀ e ∈ (ops_re5[i.1]'(by exact i.2)).after, Region.binds .any e = true → e.on < i.1 := by decide +kernel
def pv_re5 (b off n c j : Nat) (k i : Int) (fv : Value) (acc la fo ind : ByteArray) : List (Value → World → Prop) := [
  fun v w => v = .string acc,
  fun v w => v = .slice (some ⟨b, off, none⟩) n c,
  fun v w => v = .int .i64 (j : Nat),
  fun v w => v = .pointer (some ⟨b, off + j * 3, none⟩),
  fun v w => v = .agg #[.int .i64 k, .int .i64 i, fv],
  fun v w => v = .string la,
  fun v w => v = .string (acc ++ la),
  fun v w => v = .string (acc ++ la ++ ⟨#[10]⟩),
  fun v w => v = .slice (some ⟨b, off, none⟩) n c,
  fun v w => v = .int .i64 (j : Nat),
  fun v w => v = .pointer (some ⟨b, off + j * 3, none⟩),
  fun v w => v = .pointer (some ⟨b, off + j * 3 + 2, none⟩),
  fun v w => v = fv,
  fun v w => v = .string fo,
  fun v w => v = .string ind,
  fun v w => v = .string (acc ++ la ++ ⟨#[10]⟩ ++ ind)]
set_option maxRecDepth 100000 in
set_option maxHeartbeats 4000000 in
theorem region_re5 (a0 : Act) (w0 : World) (b off n c j : Nat) (k i : Int) (fv : Value) (acc la fo ind : ByteArray) (Q : Exit → Act → World → Prop)
    (hsz : a0.tmps.size = 28) (h3 : a0.tmps[3]? = some (.string acc)) (h0 : a0.tmps[0]? = some (.slice (some ⟨b, off, none⟩) n c)) (h4 : a0.tmps[4]? = some (.int .i64 (j : Nat)))
    (hj : j < n) (hE : ∀ W, Below w0.heap.size w0 W → (Instr.loadAt 64 (.pointer (some ⟨b, off + j * 3, none⟩))).run Tryz.prog W = .ok (.agg #[.int .i64 k, .int .i64 i, fv]) W ∧ (Instr.loadAt 46 (.pointer (some ⟨b, off + j * 3 + 2, none⟩))).run Tryz.prog W = .ok fv W)
    (s1 : acc.size ≤ 100000000) (s2 : la.size ≤ 1000000) (s3 : ind.size ≤ 1000000)
    (hC5 : ∀ (W : World) (_ : Below w0.heap.size w0 W), Calls Tryz.prog 49 #[.agg #[.int .i64 k, .int .i64 i, fv]] W fun e w => ∃ v, e = .returned v ∧ (v = .string la) ∧ Below W.heap.size W w)
    (hC13 : ∀ (W : World) (_ : Below w0.heap.size w0 W), Calls Tryz.prog 97 #[fv] W fun e w => ∃ v, e = .returned v ∧ (v = .string fo) ∧ Below W.heap.size W w)
    (hC14 : ∀ (W : World) (_ : Below w0.heap.size w0 W), Calls Tryz.prog 96 #[.string fo, Value.string { data := #[32, 32] }] W fun e w => ∃ v, e = .returned v ∧ (v = .string ind) ∧ Below W.heap.size W w)
    (hQ : ∀ (y0 y1 y2 y3 y4 y5 y6 y7 y8 y9 y10 y11 y12 y13 y14 y15 : Value) (w : World), Below w0.heap.size w0 w → ((fun (v : Value) (w : World) => v = .string (acc ++ la ++ ⟨#[10]⟩ ++ ind)) y15 w) → wpList Tryz.prog ops_re5.toArray Q [{ dst := some 3, op := Op.assign (Operand.tmp 26), type := 9, pos := "ref.go:69", after := #[{ on := 15, ground := Ground.data }, { on := 14, ground := Ground.chain }, { on := 0, ground := Ground.phase }, { on := 1, ground := Ground.phase }, { on := 2, ground := Ground.phase }, { on := 3, ground := Ground.phase }, { on := 4, ground := Ground.phase }, { on := 5, ground := Ground.phase }, { on := 6, ground := Ground.phase }, { on := 7, ground := Ground.phase }, { on := 8, ground := Ground.phase }, { on := 9, ground := Ground.phase }, { on := 10, ground := Ground.phase }, { on := 11, ground := Ground.phase }, { on := 12, ground := Ground.phase }, { on := 13, ground := Ground.phase }, { on := 14, ground := Ground.phase }, { on := 15, ground := Ground.phase }], guard := none }] { a0 with tmps := [(11, y0), (12, y1), (13, y2), (14, y3), (15, y4), (16, y5), (17, y6), (18, y7), (19, y8), (20, y9), (21, y10), (22, y11), (23, y12), (24, y13), (25, y14), (26, y15)].foldl (fun u p => u.setIfInBounds p.1 p.2) a0.tmps } w) :
    wpAny Tryz.prog .any ops_re5.toArray Q ops_re5.toArray.size (Array.replicate ops_re5.toArray.size false) a0 w0 := by
  have M : AllM (pv_re5 b off n c j k i fv acc la fo ind) := ⟨fun v x y hb h => h, fun v x y hb h => h, fun v x y hb h => h, fun v x y hb h => h, fun v x y hb h => h, fun v x y hb h => h, fun v x y hb h => h, fun v x y hb h => h, fun v x y hb h => h, fun v x y hb h => h, fun v x y hb h => h, fun v x y hb h => h, fun v x y hb h => h, fun v x y hb h => h, fun v x y hb h => h, fun v x y hb h => h, trivial⟩
  refine wpAny_mono_tail 16 1 (by kernel_rfl) (by decide) a0 w0 dst_re5 (pv_re5 b off n c j k i fv acc la fo ind) M (by kernel_rfl) (by kernel_rfl) (by kernel_rfl)
    (fun i o _ ho => by unfold dst_re5; rw [ho]; rfl)
    (fun i k d hi hk h1 h2 => inj_re5 i hi k hk (by rw [h1]; intro q; cases q) (by rw [h1, h2]))
    (fun i d hi h => by have := lt_re5 i hi; rw [h] at this; rw [hsz]; exact this)
    (fun i o e ho he hb => by
      obtain ⟨hi, rfl⟩ := List.getElem?_eq_some_iff.1 ho
      exact low_re5 ⟨i, hi⟩ e he hb)
    ?step ?fin
  case fin =>
    intro a w hd hs hf hv hR
    obtain ⟨y0, hy0, pv0⟩ := hv 0 11 (by decide) rfl
    obtain ⟨y1, hy1, pv1⟩ := hv 1 12 (by decide) rfl
    obtain ⟨y2, hy2, pv2⟩ := hv 2 13 (by decide) rfl
    obtain ⟨y3, hy3, pv3⟩ := hv 3 14 (by decide) rfl
    obtain ⟨y4, hy4, pv4⟩ := hv 4 15 (by decide) rfl
    obtain ⟨y5, hy5, pv5⟩ := hv 5 16 (by decide) rfl
    obtain ⟨y6, hy6, pv6⟩ := hv 6 17 (by decide) rfl
    obtain ⟨y7, hy7, pv7⟩ := hv 7 18 (by decide) rfl
    obtain ⟨y8, hy8, pv8⟩ := hv 8 19 (by decide) rfl
    obtain ⟨y9, hy9, pv9⟩ := hv 9 20 (by decide) rfl
    obtain ⟨y10, hy10, pv10⟩ := hv 10 21 (by decide) rfl
    obtain ⟨y11, hy11, pv11⟩ := hv 11 22 (by decide) rfl
    obtain ⟨y12, hy12, pv12⟩ := hv 12 23 (by decide) rfl
    obtain ⟨y13, hy13, pv13⟩ := hv 13 24 (by decide) rfl
    obtain ⟨y14, hy14, pv14⟩ := hv 14 25 (by decide) rfl
    obtain ⟨y15, hy15, pv15⟩ := hv 15 26 (by decide) rfl
    rw [act_set' (a := a) (a0 := a0) [(11, y0), (12, y1), (13, y2), (14, y3), (15, y4), (16, y5), (17, y6), (18, y7), (19, y8), (20, y9), (21, y10), (22, y11), (23, y12), (24, y13), (25, y14), (26, y15)] hd hs (by
      intro p hp
      simp only [List.mem_cons, List.not_mem_nil, or_false] at hp
      rcases hp with rfl | rfl | rfl | rfl | rfl | rfl | rfl | rfl | rfl | rfl | rfl | rfl | rfl | rfl | rfl | rfl
      · exact hy0
      · exact hy1
      · exact hy2
      · exact hy3
      · exact hy4
      · exact hy5
      · exact hy6
      · exact hy7
      · exact hy8
      · exact hy9
      · exact hy10
      · exact hy11
      · exact hy12
      · exact hy13
      · exact hy14
      · exact hy15
      ) (fun j hj => hf j (fun k hk q => hj (by
        have : ∀ k, k < 16 → (dst_re5 k).all (fun d => [11, 12, 13, 14, 15, 16, 17, 18, 19, 20, 21, 22, 23, 24, 25, 26].contains d) = true := by decide +kernel
        have h1 := this k hk
        rw [q] at h1
        simpa using h1)))]
    exact hQ y0 y1 y2 y3 y4 y5 y6 y7 y8 y9 y10 y11 y12 y13 y14 y15 w hR pv15
  case step =>
    intro i o a w hi ho hs hf dep hR
    have e3 := evT ((hf 3 (by decide +kernel)).trans h3)
    have e0 := evT ((hf 0 (by decide +kernel)).trans h0)
    have e4 := evT ((hf 4 (by decide +kernel)).trans h4)
    rcases (by omega : i = 0 ∨ i = 1 ∨ i = 2 ∨ i = 3 ∨ i = 4 ∨ i = 5 ∨ i = 6 ∨ i = 7 ∨ i = 8 ∨ i = 9 ∨ i = 10 ∨ i = 11 ∨ i = 12 ∨ i = 13 ∨ i = 14 ∨ i = 15) with rfl | rfl | rfl | rfl | rfl | rfl | rfl | rfl | rfl | rfl | rfl | rfl | rfl | rfl | rfl | rfl
    · have ho2 : some _ = some o := ho
      obtain rfl := Option.some.inj ho2
      exact .inl ⟨wantN rfl, fun K hK => mo_move rfl e3 (hK _ _ (Below.refl _ _) rfl)⟩
    · have ho2 : some _ = some o := ho
      obtain rfl := Option.some.inj ho2
      exact .inl ⟨wantN rfl, fun K hK => mo_move rfl e0 (hK _ _ (Below.refl _ _) rfl)⟩
    · have ho2 : some _ = some o := ho
      obtain rfl := Option.some.inj ho2
      exact .inl ⟨wantN rfl, fun K hK => mo_move rfl e4 (hK _ _ (Below.refl _ _) rfl)⟩
    · have ho2 : some _ = some o := ho
      obtain rfl := Option.some.inj ho2
      obtain ⟨_, hv1, rfl⟩ : ∃ v, a.tmps[12]? = some v ∧ (fun (v : Value) (w : World) => v = .slice (some ⟨b, off, none⟩) n c) v w := dep ⟨1, Ground.data⟩ (by first | simp | simp [ops_re5]) rfl 12 rfl
      obtain ⟨_, hv2, rfl⟩ : ∃ v, a.tmps[13]? = some v ∧ (fun (v : Value) (w : World) => v = .int .i64 (j : Nat)) v w := dep ⟨2, Ground.data⟩ (by first | simp | simp [ops_re5]) rfl 13 rfl
      exact .inl ⟨wantN rfl, fun K hK => mo_index (idx_eds hj) rfl (evT hv1) (evT hv2) (hK _ _ (Below.refl _ _) rfl)⟩
    · have ho2 : some _ = some o := ho
      obtain rfl := Option.some.inj ho2
      obtain ⟨_, hv3, rfl⟩ : ∃ v, a.tmps[14]? = some v ∧ (fun (v : Value) (w : World) => v = .pointer (some ⟨b, off + j * 3, none⟩)) v w := dep ⟨3, Ground.data⟩ (by first | simp | simp [ops_re5]) rfl 14 rfl
      exact .inl ⟨wantN rfl, fun K hK => mo_loadv (hE w hR).1 rfl (evT hv3) (hK _ _ (Below.refl _ _) rfl)⟩
    · have ho2 : some _ = some o := ho
      obtain rfl := Option.some.inj ho2
      obtain ⟨_, hv4, rfl⟩ : ∃ v, a.tmps[15]? = some v ∧ (fun (v : Value) (w : World) => v = .agg #[.int .i64 k, .int .i64 i, fv]) v w := dep ⟨4, Ground.data⟩ (by first | simp | simp [ops_re5]) rfl 15 rfl
      exact .inl ⟨wantN rfl, fun K hK => mo_call1 49 rfl (evT hv4) (enters_of (P := Tryz.prog) Tryz.func49 (by kernel_rfl) rfl) (hC5 w hR) (fun v w' h => hK v w' h.2 h.1)⟩
    · have ho2 : some _ = some o := ho
      obtain rfl := Option.some.inj ho2
      obtain ⟨_, hv0, rfl⟩ : ∃ v, a.tmps[11]? = some v ∧ (fun (v : Value) (w : World) => v = .string acc) v w := dep ⟨0, Ground.data⟩ (by first | simp | simp [ops_re5]) rfl 11 rfl
      obtain ⟨_, hv5, rfl⟩ : ∃ v, a.tmps[16]? = some v ∧ (fun (v : Value) (w : World) => v = .string la) v w := dep ⟨5, Ground.data⟩ (by first | simp | simp [ops_re5]) rfl 16 rfl
      exact .inl ⟨wantN rfl, fun K hK => mo_addS rfl (evT hv0) (evT hv5) (by omega) (by omega) (hK _ _ (Below.refl _ _) rfl)⟩
    · have ho2 : some _ = some o := ho
      obtain rfl := Option.some.inj ho2
      obtain ⟨_, hv6, rfl⟩ : ∃ v, a.tmps[17]? = some v ∧ (fun (v : Value) (w : World) => v = .string (acc ++ la)) v w := dep ⟨6, Ground.data⟩ (by first | simp | simp [ops_re5]) rfl 17 rfl
      exact .inl ⟨wantN rfl, fun K hK => mo_addS rfl (evT hv6) rfl (by rw [ByteArray.size_append]; omega) (by decide) (hK _ _ (Below.refl _ _) rfl)⟩
    · have ho2 : some _ = some o := ho
      obtain rfl := Option.some.inj ho2
      exact .inl ⟨wantN rfl, fun K hK => mo_move rfl e0 (hK _ _ (Below.refl _ _) rfl)⟩
    · have ho2 : some _ = some o := ho
      obtain rfl := Option.some.inj ho2
      exact .inl ⟨wantN rfl, fun K hK => mo_move rfl e4 (hK _ _ (Below.refl _ _) rfl)⟩
    · have ho2 : some _ = some o := ho
      obtain rfl := Option.some.inj ho2
      obtain ⟨_, hv8, rfl⟩ : ∃ v, a.tmps[19]? = some v ∧ (fun (v : Value) (w : World) => v = .slice (some ⟨b, off, none⟩) n c) v w := dep ⟨8, Ground.data⟩ (by first | simp | simp [ops_re5]) rfl 19 rfl
      obtain ⟨_, hv9, rfl⟩ : ∃ v, a.tmps[20]? = some v ∧ (fun (v : Value) (w : World) => v = .int .i64 (j : Nat)) v w := dep ⟨9, Ground.data⟩ (by first | simp | simp [ops_re5]) rfl 20 rfl
      exact .inl ⟨wantN rfl, fun K hK => mo_index (idx_eds hj) rfl (evT hv8) (evT hv9) (hK _ _ (Below.refl _ _) rfl)⟩
    · have ho2 : some _ = some o := ho
      obtain rfl := Option.some.inj ho2
      obtain ⟨_, hv10, rfl⟩ : ∃ v, a.tmps[21]? = some v ∧ (fun (v : Value) (w : World) => v = .pointer (some ⟨b, off + j * 3, none⟩)) v w := dep ⟨10, Ground.data⟩ (by first | simp | simp [ops_re5]) rfl 21 rfl
      exact .inl ⟨wantN rfl, fun K hK => mo_field (by simp [go_sem]) rfl (evT hv10) (hK _ _ (Below.refl _ _) rfl)⟩
    · have ho2 : some _ = some o := ho
      obtain rfl := Option.some.inj ho2
      obtain ⟨_, hv11, rfl⟩ : ∃ v, a.tmps[22]? = some v ∧ (fun (v : Value) (w : World) => v = .pointer (some ⟨b, off + j * 3 + 2, none⟩)) v w := dep ⟨11, Ground.data⟩ (by first | simp | simp [ops_re5]) rfl 22 rfl
      exact .inl ⟨wantN rfl, fun K hK => mo_loadv (hE w hR).2 rfl (evT hv11) (hK _ _ (Below.refl _ _) rfl)⟩
    · have ho2 : some _ = some o := ho
      obtain rfl := Option.some.inj ho2
      obtain ⟨_, hv12, rfl⟩ : ∃ v, a.tmps[23]? = some v ∧ (fun (v : Value) (w : World) => v = fv) v w := dep ⟨12, Ground.data⟩ (by first | simp | simp [ops_re5]) rfl 23 rfl
      exact .inl ⟨wantN rfl, fun K hK => mo_call1 97 rfl (evT hv12) (enters_of (P := Tryz.prog) Tryz.func97 (by kernel_rfl) rfl) (hC13 w hR) (fun v w' h => hK v w' h.2 h.1)⟩
    · have ho2 : some _ = some o := ho
      obtain rfl := Option.some.inj ho2
      obtain ⟨_, hv13, rfl⟩ : ∃ v, a.tmps[24]? = some v ∧ (fun (v : Value) (w : World) => v = .string fo) v w := dep ⟨13, Ground.data⟩ (by first | simp | simp [ops_re5]) rfl 24 rfl
      exact .inl ⟨wantN rfl, fun K hK => mo_call2 96 rfl (evT hv13) rfl (enters_of (P := Tryz.prog) Tryz.func96 (by kernel_rfl) rfl) (hC14 w hR) (fun v w' h => hK v w' h.2 h.1)⟩
    · have ho2 : some _ = some o := ho
      obtain rfl := Option.some.inj ho2
      obtain ⟨_, hv7, rfl⟩ : ∃ v, a.tmps[18]? = some v ∧ (fun (v : Value) (w : World) => v = .string (acc ++ la ++ ⟨#[10]⟩)) v w := dep ⟨7, Ground.data⟩ (by first | simp | simp [ops_re5]) rfl 18 rfl
      obtain ⟨_, hv14, rfl⟩ : ∃ v, a.tmps[25]? = some v ∧ (fun (v : Value) (w : World) => v = .string ind) v w := dep ⟨14, Ground.data⟩ (by first | simp | simp [ops_re5]) rfl 25 rfl
      exact .inl ⟨wantN rfl, fun K hK => mo_addS rfl (evT hv7) (evT hv14) (by rw [ByteArray.size_append, ByteArray.size_append]; show _ + 1 ≤ _; omega) (by omega) (hK _ _ (Below.refl _ _) rfl)⟩
end Go.Proofs.YtgaooalckjjplaaGreatDoor

namespace Go.Proofs.YtgaooalckjjplaaGreatDoor
open Go.RowKit Go.Shelf
attribute [local go_sem] Oper.semAt_some

section
variable {o : Oper} {a : Act} {w : World} {K : Act → World → Prop} {Q : Exit → Act → World → Prop}
theorem mo_runW {v : Value} {w' : World} (e : (execOp a.eval o).run Tryz.prog w = .ok (.value v) w') (hK : K (a.put o.dst v) w') : Oper.wp Tryz.prog o a w K Q := by
  unfold Oper.wp
  rw [e]; exact hK
theorem mo_lit3 {x : Operand} {k i : Int} {fa : Option Addr} {fn fc : Nat} (ho : o.op = Op.buildSlice 22 1 #[(0, x)]) (hx : a.eval x = .agg #[.int .i64 k, .int .i64 i, .slice fa fn fc])
    (hK : K (a.put o.dst (.slice (some ⟨w.heap.size, 0, none⟩) 1 1)) (w.alloc (.cells #[.int .i64 k, .int .i64 i, .slice fa fn fc] 64))) : Oper.wp Tryz.prog o a w K Q := by
  refine mo_runW ?_ hK
  simp only [execOp, ho]
  rw [show (Array.map (fun (p : Nat × Operand) => match p with | (i, x) => (i, a.eval x)) #[((0 : Nat), x)]) = #[((0 : Nat), Value.agg #[.int .i64 k, .int .i64 i, .slice fa fn fc])] from by rw [← hx]; simp]
  kernel_rfl
end
end Go.Proofs.YtgaooalckjjplaaGreatDoor

namespace Go.Proofs.YtgaooalckjjplaaGreatDoor
open Go.RowKit Go.Shelf
attribute [local go_sem] Oper.semAt_some

theorem edRow_snoc : ∀ (l : List Ed) (vs : List Value) (ed : Ed) (v : Value), vs.length = l.length → edRow (l ++ [ed]) (vs ++ [v]) = edRow l vs ++ [.int .i64 ed.kind, .int .i64 ed.id, v]
  | [], [], ed, v, _ => rfl
  | a :: l, b :: vs, ed, v, h => by
    show _ :: _ :: _ :: edRow (l ++ [ed]) (vs ++ [v]) = _
    rw [edRow_snoc l vs ed v (by simpa using h)]; rfl
  | [], _ :: _, _, _, h => by simp at h
  | _ :: _, [], _, _, h => by simp at h
theorem infoEd9 : (Tryz.prog.info? 64).map (fun i => (i.zero, i.size, i.bytes)) = some (some (.agg #[.int .i64 0, .int .i64 0, .slice none 0 0]), 3, 40) := by kernel_rfl
end Go.Proofs.YtgaooalckjjplaaGreatDoor

namespace Go.Proofs.YtgaooalckjjplaaGreatDoor
open Go.RowKit Go.Shelf
attribute [local go_sem] Oper.semAt_some

set_option maxRecDepth 100000 in
set_option maxHeartbeats 4000000 in
theorem refGood_any (ed : Ed) (fv : Value) (w : World) (h : Flds w fv ed.fields) (hf : Fine7 ed.fields) :
    Calls Tryz.prog 83 #[.agg #[.int .i64 ed.kind, .int .i64 ed.id, fv]] w fun e w' => e = .returned (.int .i64 (goodE ed : Nat)) ∧ Below w.heap.size w w' := by
  obtain ⟨fa, fc, rfl, _, _⟩ := _root_.id h
  obtain ⟨wa, hwa⟩ : ∃ wa, wa = w.alloc (.cells #[.int .i64 ed.kind, .int .i64 ed.id, .slice fa ed.fields.length fc] 64) := ⟨_, rfl⟩
  have hba : Below w.heap.size w wa := by rw [hwa]; exact (Below.refl _ w).alloc (Nat.le_refl _) _
  have HC := Lib.hid (refChk_any ed.fields (.slice fa ed.fields.length fc) wa (h.below hba (Nat.le_refl _)) (by have := hf.len; omega) (fun f hm => by have := hf.each f hm; omega))
  have HB := Lib.hid hba
  have GE := Lib.hid (show goodE ed = if ed.kind = 1 ∨ ed.kind = 3 then chkN ed.fields else if ed.kind = 2 ∧ ed.fields.length = 0 then 0 else 2 from rfl)
  clear hba h
  generalize goodE ed = ge at *
  generalize chkN ed.fields = cn at *
  generalize chkAt ed.fields = ca at *
  generalize ed.fields.length = fl at *
  generalize ed.kind = kk at *
  generalize ed.id = ii at *
  by_cases hlo : kk < 1
  · have hg : ge = 2 := by rw [GE.out, if_neg (by omega), if_neg (by omega)]
    subst hg hwa
    go_enter Tryz.func83, Tryz.ntmps83
    go_wp2_with fail
    go_ret
    exact ⟨rfl, HB.out⟩
  · by_cases hhi : 3 < kk
    · have hg : ge = 2 := by rw [GE.out, if_neg (by omega), if_neg (by omega)]
      subst hg hwa
      go_enter Tryz.func83, Tryz.ntmps83
      go_wp2_with fail
      go_ret
      exact ⟨rfl, HB.out⟩
    · by_cases h2 : kk = 2
      · subst h2
        by_cases h0 : fl = 0
        · have hg : ge = 0 := by rw [GE.out, if_neg (by omega), if_pos ⟨rfl, h0⟩]
          subst hg h0 hwa
          go_enter Tryz.func83, Tryz.ntmps83
          go_wp2_with fail
          go_ret
          exact ⟨rfl, HB.out⟩
        · have hg : ge = 2 := by rw [GE.out, if_neg (by omega), if_neg (by omega)]
          have hp : (0 : Int) < (fl : Int) := by omega
          subst hg hwa
          go_enter Tryz.func83, Tryz.ntmps83
          go_wp2_with fail
          go_ret
          exact ⟨rfl, HB.out⟩
      · have hg : ge = cn := by rw [GE.out, if_pos (by omega)]
        have q2 : (kk == 2) = false := by simpa using h2
        subst hg hwa
        go_enter Tryz.func83, Tryz.ntmps83
        go_wp2_with fail
        refine HC.out.mono ?_
        rintro e w2 ⟨rfl, b2⟩
        have B2 := Lib.hid (HB.out.trans (b2.mono HB.out.size))
        clear b2 HC
        go_wp2_with fail
        go_ret
        exact ⟨rfl, B2.out⟩
set_option maxRecDepth 100000 in
set_option maxHeartbeats 4000000 in
theorem refCheckB_any (eds : List Ed) (v : Value) (w : World) (h : EdV w v eds) (hl : eds.length ≤ 1000000) (hf : Fines eds) :
    Calls Tryz.prog 35 #[v] w fun e w' => e = .returned (.tuple #[.int .i64 (chkB eds).1, .int .i64 (chkB eds).2]) ∧ Below w.heap.size w w' := by
  obtain ⟨A, cap, rfl, hle, hc⟩ := h
  have PC := Lib.hid hc
  have HF := Lib.hid hf
  clear hc hf
  by_cases h0 : eds.length < 1
  · have e0 : chkB eds = (-9, 1) := by unfold chkB; rw [if_pos (by omega)]
    have z0 : eds.length = 0 := by omega
    rw [e0, z0]
    go_enter Tryz.func35, Tryz.ntmps35
    go_wp2_with fail
    go_ret2
    exact ⟨rfl, Below.refl _ _⟩
  have q0 : ¬ ((eds.length : Int) < 1) := by omega
  by_cases h40 : 40 < eds.length
  · have e0 : chkB eds = (-9, 1) := by unfold chkB; rw [if_pos (by omega)]
    rw [e0]
    go_enter Tryz.func35, Tryz.ntmps35
    go_wp2_with fail
    go_ret2
    exact ⟨rfl, Below.refl _ _⟩
  have e1 : chkB eds = chkOn 0 eds := by unfold chkB; rw [if_neg (by omega)]
  rw [e1]
  go_enter Tryz.func35, Tryz.ntmps35
  go_wp2_with fail
  go_loopw [4] (fun i wr => ∃ k : Nat, k ≤ eds.length ∧ i = .int .i64 k ∧ (∀ x ∈ eds.take k, goodE x = 0) ∧ Below w.heap.size w wr) (fun i _ => eds.length - (intOf i).toNat)
  case atStart => exact ⟨0, Nat.zero_le _, rfl, (fun x hx => by simp at hx), Below.refl _ _⟩
  case round =>
    obtain ⟨k, hk, rfl, hsm, hb⟩ := hrel
    by_cases hlt : k < eds.length
    · obtain ⟨ed, hed⟩ : ∃ ed, eds[k]? = some ed := ⟨_, List.getElem?_eq_getElem hlt⟩
      obtain ⟨b, off, fv, rfl, hbb, c0, c1, c2, hfl⟩ := PC.out k ed hed
      obtain ⟨fa, fc, rfl, _, _⟩ := _root_.id hfl.1
      replace c0 := (hb.cell (p := ⟨b, off + k * 3, none⟩) hbb).trans c0
      replace c1 := (hb.cell (p := ⟨b, off + k * 3 + 1, none⟩) hbb).trans c1
      replace c2 := (hb.cell (p := ⟨b, off + k * 3 + 1 + 1, none⟩) hbb).trans c2
      have CK := Lib.hid (refGood_any ed (.slice fa ed.fields.length fc) wr (hfl.1.below hb (Nat.le_refl _)) (HF.out ed (List.mem_of_getElem? hed)))
      have SM : Hid (goodE ed = 0 → ∀ x ∈ eds.take (k + 1), goodE x = 0) := fun hz x hx => by
        rw [take_snoc hed] at hx
        rcases List.mem_append.1 hx with hx | hx
        · exact hsm x hx
        · rw [List.mem_singleton.1 hx]; exact hz
      have AT : Hid (goodE ed ≠ 0 → chkOn 0 eds = (((k : Nat) : Int), goodE ed)) := fun hz => by rw [chkOn_at eds 0 k ed hsm hed hz, Nat.zero_add]
      have HBA := Lib.hid hb
      clear hed hsm hfl hb
      generalize goodE ed = ge at *
      go_wp2_with fail
      refine CK.out.mono ?_
      rintro e w2 ⟨rfl, b2⟩
      have B2 := Lib.hid (HBA.out.trans (b2.mono HBA.out.size))
      clear b2 CK
      by_cases hg0 : ge = 0
      · subst hg0
        have SM1 := Lib.hid (SM.out rfl)
        clear SM AT
        go_wp2_with fail
        go_roundw
        case rel => exact ⟨k + 1, hlt, by go_num, SM1.out, B2.out⟩
        case measure => simp [intOf]; omega
      · have AT1 := Lib.hid (AT.out hg0)
        have qn : ((ge : Int) == 0) = false := by simpa using hg0
        have FIN : Hid (Ending.returned (.tuple #[.int .i64 (k : Nat), .int .i64 (ge : Nat)]) = .returned (.tuple #[.int .i64 (chkOn 0 eds).1, .int .i64 (chkOn 0 eds).2])) := by
          show _ = _
          rw [AT1.out]
        clear SM AT AT1
        go_wp2_with fail
        go_ret2
        exact ⟨FIN.out, B2.out⟩
    · obtain rfl : k = eds.length := by omega
      rw [List.take_length] at hsm
      have FIN : Hid (Ending.returned (.tuple #[.int .i64 (-9), .int .i64 0]) = .returned (.tuple #[.int .i64 (chkOn 0 eds).1, .int .i64 (chkOn 0 eds).2])) := by
        show _ = _
        rw [chkOn_all eds 0 hsm]; rfl
      clear PC hsm
      go_wp2_with fail
      go_ret2
      exact ⟨FIN.out, hb⟩
end Go.Proofs.YtgaooalckjjplaaGreatDoor

namespace Go.Proofs.YtgaooalckjjplaaGreatDoor
open Go.RowKit Go.Shelf
attribute [local go_sem] Oper.semAt_some

set_option maxRecDepth 100000 in
set_option maxHeartbeats 8000000 in
theorem edits_quiet (eds : List Ed) (v v' : Value) (w : World) (h : EdV w v eds) (h' : EdV w v' eds) (hn : eds.length ≤ 1000000) (hf : Fines eds) :
    Calls Tryz.prog 13 #[v, v'] w fun e w' => e = .returned (.bool true) ∧ ∃ m, w' = w.drewN m := by
  obtain ⟨A, cap, rfl, hle, hc⟩ := h
  obtain ⟨A', cap', rfl, hle', hc'⟩ := h'
  have PC := Lib.hid hc
  have PC' := Lib.hid hc'
  have HF := Lib.hid hf
  clear hc hc' hf
  go_enter Tryz.func13, Tryz.ntmps13
  go_wp2_with fail
  go_loopw [13] (fun i wr => ∃ k : Nat, k ≤ eds.length ∧ i = .int .i64 k ∧ ∃ m, wr = w.drewN m) (fun i _ => eds.length - (intOf i).toNat)
  case atStart => exact ⟨0, Nat.zero_le _, rfl, 0, rfl⟩
  case round =>
    obtain ⟨k, hk, rfl, nd, hwr⟩ := hrel
    by_cases hlt : k < eds.length
    · obtain ⟨ed, hed⟩ : ∃ ed, eds[k]? = some ed := ⟨_, List.getElem?_eq_getElem hlt⟩
      obtain ⟨b, off, fv, rfl, hbb, c0, c1, c2, hfl⟩ := PC.out k ed hed
      obtain ⟨b', off', fv', rfl, hbb', c0', c1', c2', hfl'⟩ := PC'.out k ed hed
      have hm := (HF.out ed (List.mem_of_getElem? hed)).len
      have FQ0 : ∀ n, Calls Tryz.prog 17 #[fv, fv'] (wr.drewN n) fun e w' => e = .returned (.bool true) ∧ ∃ m, w' = (wr.drewN n).drewN m := by
        intro n
        rw [hwr]
        exact fields_quiet ed.fields fv fv' ((w.drewN nd).drewN n) hfl.1 hfl'.1 (by omega)
      have FQ := Lib.hid FQ0
      clear FQ0
      replace c0 : wr.cell? ⟨b, off + k * 3, none⟩ = some (.int .i64 ed.kind) := by rw [hwr]; exact c0
      replace c1 : wr.cell? ⟨b, off + k * 3 + 1, none⟩ = some (.int .i64 ed.id) := by rw [hwr]; exact c1
      replace c2 : wr.cell? ⟨b, off + k * 3 + 1 + 1, none⟩ = some fv := by rw [hwr]; exact c2
      replace c0' : wr.cell? ⟨b', off' + k * 3, none⟩ = some (.int .i64 ed.kind) := by rw [hwr]; exact c0'
      replace c1' : wr.cell? ⟨b', off' + k * 3 + 1, none⟩ = some (.int .i64 ed.id) := by rw [hwr]; exact c1'
      replace c2' : wr.cell? ⟨b', off' + k * 3 + 1 + 1, none⟩ = some fv' := by rw [hwr]; exact c2'
      have HW := Lib.hid hwr
      clear hed PC PC' hwr hfl hfl' HF
      generalize ed.id = X at *
      generalize ed.kind = K at *
      go_wp2_with (go_quiet ((go_at_call 17; exact Calls.quiet_of (FQ.out _))))
      go_roundw
      case rel => exact ⟨k + 1, hlt, by go_num, _, by rw [HW.out]; exact World.drewN_drewN _ _ _⟩
      case measure => simp [intOf]; omega
    · obtain rfl : k = eds.length := by omega
      clear PC PC'
      go_wp2_with fail
      go_ret
      exact ⟨rfl, nd, by first | rfl | exact hwr⟩
end Go.Proofs.YtgaooalckjjplaaGreatDoor

namespace Go.Proofs.YtgaooalckjjplaaGreatDoor
open Go.RowKit Go.Shelf
attribute [local go_sem] Oper.semAt_some

theorem Tells.yes {p : Prop} {e : Ending} (h : Tells p e) (hp : p) : e = .returned (.bool true) := by
  obtain ⟨b, rfl, hb⟩ := h
  rw [hb.2 hp]
theorem Tells.no {p : Prop} {e : Ending} (h : Tells p e) (hp : ¬ p) : e = .returned (.bool false) := by
  obtain ⟨b, rfl, hb⟩ := h
  cases b with
  | true => exact absurd (hb.1 rfl) hp
  | false => rfl
end Go.Proofs.YtgaooalckjjplaaGreatDoor

namespace Go.Proofs.YtgaooalckjjplaaGreatDoor
open Go.RowKit Go.Shelf
attribute [local go_sem] Oper.semAt_some

theorem row_put {W : World} {base size n g cap i : Nat} {e : TypeId} {xs : List Value} (h : W.ownsRow base e size (.slice (some ⟨g, 0, none⟩) n cap) n xs) (u : Value) : (W.setCell ⟨g, i, none⟩ u).ownsRow base e size (.slice (some ⟨g, 0, none⟩) n cap) n (xs.set i u) := by
  refine ⟨by rw [List.length_set]; exact h.1, ?_⟩
  rcases h.2 with ⟨q, hn⟩ | ⟨g', cap', cur, q, hb, hc, hle, hm, hs, ht⟩
  · cases q
  · cases q
    refine .inr ⟨g, cap, cur.setIfInBounds i u, rfl, hb, ?_, hle, hm, by simp [hs], ?_⟩
    · show (W.heap.modify g _)[g]? = _
      rw [Array.getElem?_modify]; simp [hc]
    · rw [← ht]; simp [List.take_set]
theorem edRow_set : ∀ (a : List Ed) (f : List Value) (k : Nat) (u : Value), f.length = a.length → (edRow a f).set (k * 3 + 1 + 1) u = edRow a (f.set k u)
  | [], [], _, _, _ => rfl
  | x :: a, y :: f, 0, u, _ => rfl
  | x :: a, y :: f, k + 1, u, h => by
    rw [show (k + 1) * 3 + 1 + 1 = (k * 3 + 1 + 1) + 1 + 1 + 1 by omega]
    have := edRow_set a f k u (by simpa using h)
    show (_ :: _ :: _ :: edRow a f).set _ u = _ :: _ :: _ :: edRow a (f.set k u)
    simp only [List.set_cons_succ, this]
  | [], _ :: _, _, _, h => by simp at h
  | _ :: _, [], _, _, h => by simp at h
end Go.Proofs.YtgaooalckjjplaaGreatDoor

