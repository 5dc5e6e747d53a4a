/- Texts put together: RI, RQ, RK, QI, QJ, UG, UH, UI, UJ, UL, TM, UM, UN, UO, UP, UQ, UR, US, UT, NA, TO, NB, NC, RT, NR, ND, NE, NG, EA, NH, NF, NI, NJ, EB, IM, PL, PM, PV. -/
import Derived.WalkKit
import Derived.Orders
import Derived.Sort.BigQuietIn
import Derived.Shelf.RegionOpen
import Derived.Deep.RegionHeld3
import Derived.Shelf.Spec.SlicesInsertGrow
import Derived.ArgAppend
import Derived.StillTailTactics
import Derived.Test.YtbkeoiefolkjfaaGreatDoorBbk1
import Derived.Test.YtbkeoiefolkjfaaGreatDoorBbk2
import Derived.Test.YtbkeoiefolkjfaaGreatDoorBbk5
import Derived.Test.YtbkeoiefolkjfaaGreatDoorBbk8
import Derived.Test.YtbkeoiefolkjfaaGreatDoorBbk13
import Derived.Test.YtbkeoiefolkjfaaGreatDoorBbk14
set_option linter.unusedVariables false
set_option maxRecDepth 100000
set_option maxHeartbeats 16000000
namespace Go.Proofs.YtbkeoiefolkjfaaGreatDoor
open Go.RowKit
def todo (l : Array Bool) : Nat := (l.toList.filter (fun b => !b)).length
theorem ready_spec {ops : Array Oper} {l : Array Bool} {i : Nat} (h : i ∈ Region.ready .any ops l) :
    ∃ o, ops[i]? = some o /\ l.getD i true = false /\ ∀ e ∈ o.after, Region.binds .any e = true -> l.getD e.on false = true := by
  unfold Region.ready at h
  rw [List.mem_filter] at h
  obtain ⟨hi, h⟩ := h
  rw [List.mem_range] at hi
  have ho : ops[i]? = some ops[i] := Array.getElem?_eq_getElem hi
  rw [ho] at h
  simp only [Option.map_some, Option.getD_some, Bool.and_eq_true, Bool.not_eq_true'] at h
  refine ⟨_, ho, h.1, fun e he hb => ?_⟩
  have := (Array.all_eq_true_iff_forall_mem.1 h.2) e he
  simpa [hb] using this
theorem wpAny_inv {P : Program} {ops : Array Oper} {Q : Exit -> Act -> World -> Prop} (I : Array Bool -> Act -> World -> Prop)
    (step : ∀ l i o a w, I l a w -> l.size = ops.size -> ops[i]? = some o -> l.getD i true = false -> (∀ e ∈ o.after, Region.binds .any e = true -> l.getD e.on false = true) ->
      wpOp P ops Q i (fun a' w' => I (l.setIfInBounds i true) a' w') a w)
    (done : ∀ l a w, I l a w -> l.size = ops.size -> Region.ready .any ops l = [] -> Q .normal a w) :
    ∀ (n : Nat) (l : Array Bool) (a : Act) (w : World), I l a w -> l.size = ops.size -> todo l <= n -> wpAny P .any ops Q n l a w := by
  intro n
  induction n with
  | zero =>
    intro l a w hI hs hn
    have hr : Region.ready .any ops l = [] := by
      cases hq : Region.ready .any ops l with
      | nil => rfl
      | cons i rs =>
      obtain ⟨o, ho, hl, _⟩ := ready_spec (show i ∈ Region.ready .any ops l by rw [hq]; simp)
      exfalso
      have hi : i < l.size := by
        rcases Nat.lt_or_ge i l.size with h | h
        . exact h
        simp [Array.getD, Nat.not_lt.2 h] at hl
      have hm : l[i] ∈ l.toList.filter (fun b => !b) := by
        rw [List.mem_filter]
        refine ⟨by simp, ?_⟩
        simp [Array.getD, hi] at hl
        simp [hl]
      have : 0 < todo l := List.length_pos_of_mem hm
      omega
    exact ⟨hr, done l a w hI hs hr⟩
  | succ n ih =>
  intro l a w hI hs hn
  refine ⟨fun hr => done l a w hI hs hr, fun i hi => ?_⟩
  obtain ⟨o, ho, hl, he⟩ := ready_spec hi
  refine wpOp_mono (fun a' w' hI' => ih _ _ _ hI' (by simpa using hs) ?_) (step l i o a w hI hs ho hl he)
  have hi' : i < l.size := by
    rcases Nat.lt_or_ge i l.size with h | h
    . exact h
    simp [Array.getD, Nat.not_lt.2 h] at hl
  have hlf : l[i] = false := by simpa [Array.getD, hi'] using hl
  have key : ∀ (xs : List Bool) (j : Nat) (hj : j < xs.length), xs[j] = false -> ((xs.set j true).filter (fun b => !b)).length + 1 = (xs.filter (fun b => !b)).length := by
    intro xs
    induction xs with
    | nil => intro j hj; simp at hj
    | cons x xs ih2 =>
    intro j hj hx
    cases j with
    | zero => simp at hx; subst hx; simp
    | succ j =>
    have := ih2 j (by simpa using hj) (by simpa using hx)
    cases x <;> simp at this ⊢ <;> omega
  have h2 := key l.toList i (by simpa using hi') (by simpa using hlf)
  unfold todo at hn ⊢
  have e : (l.setIfInBounds i true).toList = l.toList.set i true := by simp
  rw [e]
  omega
theorem wp_region_inv {P : Program} {id : Nat} {ops : Array Oper} {Q : Exit -> Act -> World -> Prop} {a : Act} {w : World} (hm : P.follows .mixedOrders = true) (I : Array Bool -> Act -> World -> Prop)
    (start : I (Array.replicate ops.size false) a w.drew)
    (step : ∀ l i o a w, I l a w -> l.size = ops.size -> ops[i]? = some o -> l.getD i true = false -> (∀ e ∈ o.after, Region.binds .any e = true -> l.getD e.on false = true) ->
      wpOp P ops Q i (fun a' w' => I (l.setIfInBounds i true) a' w') a w)
    (done : ∀ l a w, I l a w -> l.size = ops.size -> Region.ready .any ops l = [] -> Q .normal a w) :
    (Code.region id ops true).wp P Q a w :=
  wp_region_any hm (wpAny_inv I step done ops.size _ a _ start (by simp) (by
    unfold todo
    simp))
end Go.Proofs.YtbkeoiefolkjfaaGreatDoor
namespace Go.Proofs.YtbkeoiefolkjfaaGreatDoor
open Go.RowKit
def calm (ops : Array Oper) : Bool := ops.all fun o => match o.op with | .defer _ => false | _ => true
theorem calm_of {ops : Array Oper} (h : calm ops = true) {i : Nat} {o : Oper} (ho : ops[i]? = some o) : ∀ c, o.op ≠ .defer c := by
  intro c e
  have hm := Array.mem_of_getElem? ho
  have := (Array.all_eq_true_iff_forall_mem.1 h) o hm
  simp [e] at this
theorem opIn_round {n l : Nat} {P : Program} {o : Oper} {a : Act} {w : World} {next : Act -> World -> Prop} {Q : Exit -> Act -> World -> Prop} (h : ∀ c, o.op ≠ .defer c)
    (g : o.wpIn Fence.wide n P a w next Q) : o.wpIn (Fence.wide.inRound l) n P a w next Q := by
  refine ⟨g.1, ?_⟩
  have g2 := g.2
  rw [Oper.semAt_eq _ _ _ h] at g2 ⊢
  generalize (execOp a.eval o).run P w = r at g2 ⊢
  cases r with
  | ok x w' => cases x <;> exact g2
  | halt x w' => cases x <;> exact g2
theorem opsIn_round {n l : Nat} {P : Program} {md : Region.Mode} {ops : Array Oper} {Q : Exit -> Act -> World -> Prop} (h : calm ops = true) : ∀ (fuel : Nat) (listed : Array Bool) (a : Act) (w : World),
    wpAnyIn Fence.wide n P md ops Q fuel listed a w -> wpAnyIn (Fence.wide.inRound l) n P md ops Q fuel listed a w
  | 0, _, _, _, g => g
  | fuel + 1, listed, a, w, g => by
    refine ⟨g.1, fun i hi => ?_⟩
    have g2 := g.2 i hi
    unfold wpOpIn at g2 ⊢
    cases ho : ops[i]? with
    | none => rw [ho] at g2; exact opsIn_round h fuel _ _ _ g2
    | some o =>
    rw [ho] at g2
    simp only at g2 ⊢
    split at g2
    . rename_i hw
      rw [if_pos hw]
      exact opIn_round (calm_of h ho) (opIn_mono (fun a w => opsIn_round h fuel _ a w) g2)
    rename_i hw
    rw [if_neg hw]
    exact ⟨g2.1, opsIn_round h fuel _ _ _ g2.2⟩
where
  opIn_mono {n : Nat} {P : Program} {o : Oper} {a : Act} {w : World} {K K' : Act -> World -> Prop} {Q : Exit -> Act -> World -> Prop} (h : ∀ a w, K a w -> K' a w) (g : o.wpIn Fence.wide n P a w K Q) : o.wpIn Fence.wide n P a w K' Q := by
    refine ⟨g.1, ?_⟩
    have g2 := g.2
    generalize (Oper.semAt Fence.wide.round a.eval o).run P w = r at g2 ⊢
    cases r with
    | ok x w' =>
      cases x with
      | enter f args => exact ⟨g2.1, g2.2.mono fun e w hh => by cases e <;> first | exact h _ _ hh | exact hh⟩
      | row f args => exact ⟨g2.1, fun c cs hr => by obtain ⟨v, w', hv, hs⟩ := g2.2 c cs hr; exact ⟨v, w', h _ _ hv, hs⟩⟩
      | round l f t x y => exact ⟨g2.1, g2.2.mono fun e w hh => by cases e <;> first | exact h _ _ hh | exact hh⟩
      | value v => exact h _ _ g2
      | skip => exact h _ _ g2
      | defer d => exact h _ _ g2
      | _ => exact g2
    | halt x w' => cases x <;> exact g2
end Go.Proofs.YtbkeoiefolkjfaaGreatDoor
namespace Go.Proofs.YtbkeoiefolkjfaaGreatDoor
open Go.RowKit
theorem rows_wide {n : Nat} {P : Program} {row : String} {args : Array Value} {w : World} {R : Value -> World -> Prop} (h : Rows P row args w R) : RowsIn Fence.wide n P row args w R := by
  intro c cs _
  obtain ⟨v, w', r, s⟩ := h c cs
  exact ⟨v, w', r, stepsIn_wide.2 s⟩
theorem oper_wide {n : Nat} {P : Program} {o : Oper} {a : Act} {w : World} {K : Act -> World -> Prop} {Q : Exit -> Act -> World -> Prop} (h : ∀ c, o.op ≠ .defer c) (g : o.wp P a w K Q) : o.wpIn Fence.wide n P a w K Q := by
  refine ⟨fun _ _ => trivial, ?_⟩
  unfold Oper.wp at g
  rw [Oper.semAt_eq _ _ _ h]
  generalize (execOp a.eval o).run P w = r at g ⊢
  cases r with
  | ok x w' =>
    cases x with
    | enter f args => exact ⟨fun q => by simp [Fence.wide] at q, callsIn_wide.2 g⟩
    | row f args => exact ⟨fun q => by simp [Fence.wide] at q, rows_wide g⟩
    | round l f t x y => exact g.elim
    | value v => exact g
    | skip => exact g
    | defer d => exact g
    | _ => exact g
  | halt x w' => cases x <;> exact g
theorem ops_wide {n : Nat} {P : Program} {md : Region.Mode} {ops : Array Oper} {Q : Exit -> Act -> World -> Prop} (h : calm ops = true) (hno : ¬ LetsOut Q) : ∀ (fuel : Nat) (listed : Array Bool) (a : Act) (w : World),
    wpAny P md ops Q fuel listed a w -> wpAnyIn Fence.wide n P md ops Q fuel listed a w
  | 0, _, _, _, g => g
  | fuel + 1, listed, a, w, g => by
    refine ⟨g.1, fun i hi => ?_⟩
    have g2 := g.2 i hi
    unfold wpOpIn
    unfold wpOp at g2
    cases ho : ops[i]? with
    | none => rw [ho] at g2; exact ops_wide h hno fuel _ _ _ g2
    | some o =>
    rw [ho] at g2
    simp only at g2 ⊢
    split at g2
    . rename_i hw
      rw [if_pos hw]
      exact oper_wide (calm_of h ho) (Oper.wp_mono (fun a w => ops_wide h hno fuel _ a w) (g2.resolve_right fun q => hno q.2))
    rename_i hw
    rw [if_neg hw]
    exact ⟨fun _ _ => trivial, ops_wide h hno fuel _ _ _ g2⟩
theorem wp_region_round {n r : Nat} {P : Program} {id : Nat} {ops : Array Oper} {Q : Exit -> Act -> World -> Prop} {a : Act} {w : World} (hd : calm ops = true) (hno : ¬ LetsOut Q) (hm : P.follows .mixedOrders = true) (h : wpAny P .any ops Q ops.size (Array.replicate ops.size false) a w.drew) :
    (Code.region id ops true).wpIn (Fence.wide.inRound r) n P Q a w :=
  wpIn_region_any hm (opsIn_round hd _ _ _ _ (ops_wide hd hno _ _ _ _ h))
end Go.Proofs.YtbkeoiefolkjfaaGreatDoor
namespace Go.Proofs.YtbkeoiefolkjfaaGreatDoor
open Go.RowKit Go.Shelf
end Go.Proofs.YtbkeoiefolkjfaaGreatDoor
namespace Go.Proofs.YtbkeoiefolkjfaaGreatDoor
open Go.RowKit Go.Shelf
def fl (l : Array Bool) (j : Nat) : Bool := l.getD j false
abbrev sl (g n c : Nat) : Value := .slice (some ⟨g, 0, none⟩) n c
end Go.Proofs.YtbkeoiefolkjfaaGreatDoor
namespace Go.Proofs.YtbkeoiefolkjfaaGreatDoor
open Go.RowKit Go.Shelf
attribute [local go_sem] Oper.semAt_some
end Go.Proofs.YtbkeoiefolkjfaaGreatDoor
namespace Go.Proofs.YtbkeoiefolkjfaaGreatDoor
open Go.RowKit Go.Shelf
attribute [local go_sem] Oper.semAt_some
end Go.Proofs.YtbkeoiefolkjfaaGreatDoor
namespace Go.Proofs.YtbkeoiefolkjfaaGreatDoor
open Go.RowKit Go.Shelf
end Go.Proofs.YtbkeoiefolkjfaaGreatDoor
namespace Go.Proofs.YtbkeoiefolkjfaaGreatDoor
open Go.RowKit Go.Shelf Go.Lib
theorem wpList_append_at {P : Program} {w : World} {ops : Array Oper} {rest : List Oper} {o : Oper} {a : Act} {Q : Exit -> Act -> World -> Prop} (hgd : o.guard = none) (s x : Operand) (t : TypeId)
    (hop : o.op = Op.call { callee := Callee.builtin Builtin.append, args := #[s, x], argTypes := #[t, t] }) (base : Nat)
    (e : TypeId) (i : TypeInfo) (z : Value) (size bytes : Nat) (ht : P.underlying t = some (.slice e)) (hi : P.info? e = some i) (hz : i.zero = some z)
    (hsize : i.size = size) (hby : i.bytes = bytes) (hzs : z.cells.size = size) (hsz : 0 < size)
    (v : Value) (n : Nat) (xs : List Value) (hs : a.eval s = v) (hown : w.ownsRow base e size v n xs)
    (ad : Addr) (m c : Nat) (news : List Value) (hx : a.eval x = .slice (some ad) m c) (hl : news.length = m * size) (hnews : ∀ j u, news[j]? = some u -> w.cell? (ad.add j) = some u) (h1 : ∀ u ∈ news, u.oneCell' = true)
    (h63 : n + m <= maxLen) (hbytes : (n + m) * bytes <= 140737488355328) (hb : base <= w.heap.size)
    (h : ∀ v' w', w'.ownsRow base e size v' (n + m) (xs ++ news) -> w.grownBy w' v.ownBlock -> Hid (v'.ownBlock = v.ownBlock \/ v'.ownBlock = some w.heap.size) -> wpList P ops Q rest (a.put o.dst v') w') : wpList P ops Q (o :: rest) a w := by
  refine wpList_plain hgd fun K hK => ?_
  obtain ⟨v', w', hr, h2, h3, h4, h5⟩ := run_append_own_at (P := P) w base t o.type e i z size bytes ht hi hz hsize hby hzs hsz v n xs hown ad m c news hl hnews h1 h63 hbytes hb
  unfold Oper.wp
  simp [execOp, hop, resolve, invoke, builtin, hs, hx, hr, Result.andThen]
  exact hK _ _ (h v' w' h2 h3 h5)
theorem zeroCells_size (Z : Array Value) (k : Nat) : (Builtin.zeroCells Z k).size = k * Z.size := by simp [Builtin.zeroCells]
end Go.Proofs.YtbkeoiefolkjfaaGreatDoor
namespace Go.Proofs.YtbkeoiefolkjfaaGreatDoor
open Go.RowKit Go.Shelf
attribute [local go_sem] Oper.semAt_some errV_0
end Go.Proofs.YtbkeoiefolkjfaaGreatDoor
namespace Go.Proofs.YtbkeoiefolkjfaaGreatDoor
open Go.RowKit Go.Shelf
theorem parseNo {w w' : World} {t : List UInt8} {e : Ending} {a n : Nat} (h : Parsed w t e w') (hp : parseL t = .error (a, n)) : Below w.heap.size w w' /\ ∃ v, e = .returned (.tuple #[.slice none 0 0, v]) /\ FaultAt w.heap.size w' v a n := by
  obtain ⟨h1, h2⟩ := h
  rw [hp] at h2
  exact ⟨h1, h2⟩
theorem parseYes {w w' : World} {t : List UInt8} {e : Ending} {its : List It} (h : Parsed w t e w') (hp : parseL t = .ok its) : Below w.heap.size w w' /\ ∃ v, e = .returned (.tuple #[v, .nilIface]) /\ Its w' v its /\ NilI w' v its := by
  obtain ⟨h1, h2⟩ := h
  rw [hp] at h2
  exact ⟨h1, h2⟩
theorem Its.empty (w : World) (A : Option Addr) (cap : Nat) : Its w (.slice A 0 cap) [] := ⟨A, cap, rfl, Nat.zero_le _, fun i it h => by simp at h⟩
end Go.Proofs.YtbkeoiefolkjfaaGreatDoor
namespace Go.Proofs.YtbkeoiefolkjfaaGreatDoor
open Go.RowKit Go.Shelf
attribute [local go_sem] Oper.semAt_some errV_0
end Go.Proofs.YtbkeoiefolkjfaaGreatDoor
namespace Go.Proofs.YtbkeoiefolkjfaaGreatDoor
open Go.RowKit Go.Shelf
attribute [local go_sem] Oper.semAt_some errV_0
def ErrZ (lo : Nat) (w : World) (u : Value) (a : Int) (n : Nat) : Prop := n <= 11 /\ ((u = errV n /\ a = -9) \/ ∃ k : Nat, FaultAt lo w u k n /\ a = k /\ n ≠ 0)
theorem ErrZ.of {lo : Nat} {w : World} {u : Value} {fs : List Fld} (h : ChkV lo w u fs) : ErrZ lo w u (chkAt fs) (chkN fs) := by
  unfold ChkV at h
  unfold chkAt
  refine ⟨chkN_le fs, ?_⟩
  split at h
  . rename_i hb
    rw [if_pos hb]; exact .inl ⟨h, rfl⟩
  rename_i hb
  rw [if_neg hb]
  have h2 : chkN fs = foldN fs := by
    unfold bare at hb
    unfold chkN
    rw [if_neg (fun e => hb (.inl e)), if_neg (fun e => hb (.inr (.inl e)))]
  refine .inr ⟨_, by rw [h2]; exact h, rfl, fun e => hb (.inr (.inr (by omega)))⟩
theorem ErrZ.none (lo : Nat) (w : World) : ErrZ lo w .nilIface (-9) 0 := ⟨by decide, .inl ⟨rfl, rfl⟩⟩
theorem ErrZ.err (lo : Nat) (w : World) (n : Nat) (h : n <= 11) : ErrZ lo w (errV n) (-9) n := ⟨h, .inl ⟨rfl, rfl⟩⟩
theorem num_z {lo : Nat} {w : World} {u : Value} {a : Int} {n : Nat} (h : ErrZ lo w u a n) : Calls Tryz.prog 12 #[u] w fun e w' => e = .returned (.int .i64 (n : Nat)) /\ w = w' := by
  obtain ⟨hn, ⟨rfl, rfl⟩ | ⟨k, hf, rfl, h0⟩⟩ := h
  . exact num_any n (by omega) w
  exact num_fault hf h0 (by omega)
theorem at_z {lo : Nat} {w : World} {u : Value} {a : Int} {n : Nat} (h : ErrZ lo w u a n) : Calls Tryz.prog 13 #[u] w fun e w' => e = .returned (.int .i64 a) /\ w = w' := by
  obtain ⟨hn, ⟨rfl, rfl⟩ | ⟨k, hf, rfl, h0⟩⟩ := h
  . rcases Nat.eq_zero_or_pos n with rfl | hp
    . rw [errV_0]; exact at_nil w
    rw [errV_pos n hp]; exact at_err _ w
  exact at_fault hf
theorem ErrZ.below {lo : Nat} {w w' : World} {u : Value} {a : Int} {n N : Nat} (h : ErrZ lo w u a n) (hb : Below N w w') (hN : w.heap.size <= N) : ErrZ lo w' u a n := by
  obtain ⟨hn, h | ⟨k, hf, h⟩⟩ := h
  . exact ⟨hn, .inl h⟩
  exact ⟨hn, .inr ⟨k, hf.below hb hN, h⟩⟩
structure Fine7 (fs : List Fld) : Prop where
  len : fs.length <= 1000
  each : ∀ f ∈ fs, f.1.length <= 100000 /\ f.2.length <= 100000
end Go.Proofs.YtbkeoiefolkjfaaGreatDoor
namespace Go.Proofs.YtbkeoiefolkjfaaGreatDoor
open Go.RowKit Go.Shelf
attribute [local go_sem] Oper.semAt_some errV_0
end Go.Proofs.YtbkeoiefolkjfaaGreatDoor
namespace Go.Proofs.YtbkeoiefolkjfaaGreatDoor
open Go.RowKit Go.Shelf
attribute [local go_sem] Oper.semAt_some errV_0
theorem own_cells_ne {W : World} {lo n b : Nat} {t u : TypeId} {sz : Nat} {v : Value} {xs : List Value} {cs : Array Value} (h : W.ownsRow lo t sz v n xs) (hc : Cells W b u cs) (ht : t ≠ u) : v.ownBlock ≠ some b := by
  intro e
  rcases h.2 with ⟨q, _⟩ | ⟨g, cap, cur, q, _, hg, _⟩
  . rw [q] at e; cases e
  rw [q] at e
  have : g = b := Option.some.inj e
  subst this
  have := hg.symm.trans hc
  injection this with this
  injection this with _ h2 _
  exact ht h2
theorem own_own_ne {W : World} {lo lo' n m : Nat} {t u : TypeId} {sz sz' : Nat} {v x : Value} {xs ys : List Value} (h : W.ownsRow lo t sz v n xs) (g : W.ownsRow lo' u sz' x m ys) (ht : t ≠ u) : ∀ b, v.ownBlock = some b -> x.ownBlock ≠ some b := by
  intro b hb
  rcases h.2 with ⟨q, _⟩ | ⟨g', cap, cur, q, _, hg, _⟩
  . rw [q] at hb; cases hb
  rw [q] at hb
  obtain rfl : g' = b := Option.some.inj hb
  exact own_cells_ne g hg (fun e => ht e.symm)
end Go.Proofs.YtbkeoiefolkjfaaGreatDoor
namespace Go.Proofs.YtbkeoiefolkjfaaGreatDoor
open Go.RowKit Go.Shelf
end Go.Proofs.YtbkeoiefolkjfaaGreatDoor
namespace Go.Proofs.YtbkeoiefolkjfaaGreatDoor
open Go.RowKit Go.Shelf
attribute [local go_sem] Oper.semAt_some
end Go.Proofs.YtbkeoiefolkjfaaGreatDoor
namespace Go.Proofs.YtbkeoiefolkjfaaGreatDoor
open Go.RowKit Go.Shelf
attribute [local go_sem] Oper.semAt_some
end Go.Proofs.YtbkeoiefolkjfaaGreatDoor
namespace Go.Proofs.YtbkeoiefolkjfaaGreatDoor
open Go.RowKit Go.Shelf
attribute [local go_sem] Oper.semAt_some
end Go.Proofs.YtbkeoiefolkjfaaGreatDoor
namespace Go.Proofs.YtbkeoiefolkjfaaGreatDoor
open Go.RowKit Go.Shelf
attribute [local go_sem] Oper.semAt_some
end Go.Proofs.YtbkeoiefolkjfaaGreatDoor
namespace Go.Proofs.YtbkeoiefolkjfaaGreatDoor
open Go.RowKit Go.Shelf
def MineP (w : World) (P : Nat -> Prop) (v : Value) (n : Nat) : Prop :=
  n = 0 /\ (∃ A c, v = .slice A 0 c) \/ ∃ g cap cur, v = .slice (some ⟨g, 0, none⟩) n cap /\ n <= cap /\ P g /\ w.heap[g]? = some (.cells cur 83 (0, 0)) /\ n * 2 <= cur.size
structure Spoils (P : Nat -> Prop) (w w' : World) : Prop where
  os : w'.os = w.os
  tape : w'.tape = w.tape
  output : w'.output = w.output
  size : w.heap.size <= w'.heap.size
  same : ∀ (r : Nat) o, w.heap[r]? = some o -> w'.heap[r]? = some o \/ (P r /\ ∃ cur cur', o = .cells cur 83 (0, 0) /\ w'.heap[r]? = some (.cells cur' 83 (0, 0)) /\ cur'.size = cur.size)
theorem Spoils.refl (P : Nat -> Prop) (w : World) : Spoils P w w := ⟨rfl, rfl, rfl, Nat.le_refl _, fun _ _ h => .inl h⟩
theorem Spoils.trans {P : Nat -> Prop} {a b c : World} (h : Spoils P a b) (g : Spoils P b c) : Spoils P a c := by
  refine ⟨g.os.trans h.os, g.tape.trans h.tape, g.output.trans h.output, Nat.le_trans h.size g.size, fun r o ho => ?_⟩
  rcases h.same r o ho with h1 | ⟨h1, cur, cur', rfl, h2, h3⟩
  . exact g.same r o h1
  rcases g.same r _ h2 with g1 | ⟨_, c1, c2, g1, g2, g3⟩
  . exact .inr ⟨h1, cur, cur', rfl, g1, h3⟩
  injection g1 with g1
  subst g1
  exact .inr ⟨h1, cur, c2, rfl, g2, g3.trans h3⟩
theorem Spoils.set {P : Nat -> Prop} {g : Nat} {w : World} {cur : Array Value} (h : w.heap[g]? = some (.cells cur 83 (0, 0))) (hg : P g) (i : Nat) (u : Value) : Spoils P w (w.setCell ⟨g, i, none⟩ u) := by
  refine ⟨rfl, rfl, rfl, by simp [World.setCell], fun r o ho => ?_⟩
  by_cases e : r = g
  . subst e
    rw [h] at ho
    cases ho
    exact .inr ⟨hg, cur, cur.setIfInBounds i u, rfl, Cells.set (t := 83) h i u, by simp⟩
  exact .inl ((Below.heap_setCell _ _ _ _ e).trans ho)
theorem Spoils.block {P : Nat -> Prop} {w w' : World} (h : Spoils P w w') {r : Nat} (hr : r < w.heap.size) (hP : ¬ P r) : w'.heap[r]? = w.heap[r]? := by
  rcases h.same r _ (Array.getElem?_eq_getElem hr) with e | ⟨e, _⟩
  . rw [e]; exact (Array.getElem?_eq_getElem hr).symm
  exact absurd e hP
theorem Spoils.below {P : Nat -> Prop} {lo : Nat} {w w' : World} (h : Spoils P w w') (hP : ∀ r, P r -> lo <= r) (hl : lo <= w.heap.size) : Below lo w w' :=
  ⟨h.os, h.tape, h.output, h.size, fun r hr => h.block (by omega) (fun q => by have := hP r q; omega)⟩
theorem MineP.spoils {P : Nat -> Prop} {n : Nat} {w w' : World} {v : Value} (h : MineP w P v n) (hs : Spoils P w w') : MineP w' P v n := by
  rcases h with h | ⟨g, cap, cur, e, h0, h1, h2, h3⟩
  . exact .inl h
  rcases hs.same g _ h2 with k | ⟨_, c1, c2, k1, k2, k3⟩
  . exact .inr ⟨g, cap, cur, e, h0, h1, k, h3⟩
  injection k1 with k1
  subst k1
  exact .inr ⟨g, cap, c2, e, h0, h1, k2, by omega⟩
theorem MineP.below {P : Nat -> Prop} {n N : Nat} {w w' : World} {v : Value} (h : MineP w P v n) (hb : Below N w w') (hN : w.heap.size <= N) : MineP w' P v n := by
  rcases h with h | ⟨g, cap, cur, e, h0, h1, h2, h3⟩
  . exact .inl h
  have hg : g < w.heap.size := (Array.getElem?_eq_some_iff.1 h2).1
  exact .inr ⟨g, cap, cur, e, h0, h1, (hb.block g (by omega)).trans h2, h3⟩
theorem Spoils.alloc {P : Nat -> Prop} {w w' : World} (h : Spoils P w w') (o : Obj) : Spoils P w (w'.alloc o) := by
  have hb := (Below.refl w'.heap.size w').alloc (Nat.le_refl _) o
  refine ⟨h.os, h.tape, h.output, Nat.le_trans h.size hb.size, fun r o ho => ?_⟩
  have hr : r < w'.heap.size := Nat.lt_of_lt_of_le (Array.getElem?_eq_some_iff.1 ho).1 h.size
  rw [hb.block r hr]
  exact h.same r o ho
theorem Spoils.kept {P : Nat -> Prop} {w w' : World} {b : Nat} {t : TypeId} {cs : Array Value} (h : Spoils P w w') (hc : Cells w b t cs) (ht : t ≠ 83) : Cells w' b t cs := by
  rcases h.same b _ hc with e | ⟨_, c1, c2, e, _⟩
  . exact e
  injection e with _ e _
  exact absurd e ht
theorem spoilP_any (n : Nat) (P : Nat -> Prop) (v : Value) (w : World) (h : MineP w P v n) (hn : n <= 1000000) :
    Calls Tryz.prog 16 #[v] w fun e w' => e = .returned (.tuple #[]) /\ Spoils P w w' := by
  have HM := Lib.hid h
  rcases h with ⟨rfl, A, c, rfl⟩ | ⟨g, cap, cur, rfl, hle, _, _, _⟩
  . go_enter Tryz.func16, Tryz.ntmps16
    go_wp2_with fail
    refine wp_loop_rounds 1 ?_
    rw [rounds_succ]
    go_wp2_with fail
    go_end0
    exact ⟨rfl, Spoils.refl _ _⟩
  go_enter Tryz.func16, Tryz.ntmps16
  go_wp2_with fail
  go_loopw [5] (fun i wr => ∃ k : Nat, k <= n /\ i = .int .i64 k /\ Spoils P w wr) (fun i _ => n - (intOf i).toNat)
  case atStart => exact ⟨0, Nat.zero_le _, rfl, Spoils.refl _ _⟩
  case round =>
  obtain ⟨k, hk, rfl, hs⟩ := hrel
  by_cases hlt : k < n
  . rcases HM.out.spoils hs with ⟨h0, _⟩ | ⟨g', cap', cur', e, h0, h1, h2, h3⟩
    . omega
    cases e
    have hC : Cells wr g 83 cur' := h2
    obtain ⟨x0, hx0⟩ : ∃ x, cur'[k * 2]? = some x := ⟨_, Array.getElem?_eq_getElem (by omega)⟩
    obtain ⟨x1, hx1⟩ : ∃ x, cur'[k * 2 + 1]? = some x := ⟨_, Array.getElem?_eq_getElem (by omega)⟩
    have c0 : wr.cell? ⟨g, k * 2, none⟩ = some x0 := (hC.cell _).trans hx0
    have c1 : wr.cell? ⟨g, k * 2 + 1, none⟩ = some x1 := (hC.cell _).trans hx1
    have f0 := hC.frozen (k * 2)
    have f1 := hC.frozen (k * 2 + 1)
    have HC := Lib.hid hC
    have HS := Lib.hid hs
    have H1 := Lib.hid h1
    clear HM hs h2 hC hx0 hx1 h1
    go_wp2_with fail
    go_roundw
    case rel =>
      refine ⟨k + 1, hlt, by go_num, HS.out.trans ((Spoils.set HC.out H1.out (k * 2) _).trans (Spoils.set (HC.out.set (k * 2) _) H1.out (k * 2 + 1) _))⟩
    case measure => simp [intOf]; omega
  obtain rfl : k = n := by omega
  clear HM
  go_wp2_with fail
  go_end0
  exact ⟨rfl, hs⟩
end Go.Proofs.YtbkeoiefolkjfaaGreatDoor
namespace Go.Proofs.YtbkeoiefolkjfaaGreatDoor
open Go.RowKit Go.Shelf
end Go.Proofs.YtbkeoiefolkjfaaGreatDoor
namespace Go.Proofs.YtbkeoiefolkjfaaGreatDoor
open Go.RowKit Go.Shelf
attribute [local go_sem] Oper.semAt_some
end Go.Proofs.YtbkeoiefolkjfaaGreatDoor
namespace Go.Proofs.YtbkeoiefolkjfaaGreatDoor
open Go.RowKit
structure Tab (a0 : Act) (n : Nat) (dst : Nat -> Option Nat) (val : Nat -> Value) (s : Nat) (W : Bool -> World) (l : Array Bool) (a : Act) (w : World) : Prop where
  dfr : a.defers = a0.defers
  sz : a.tmps.size = a0.tmps.size
  frm : ∀ j, (∀ k, k < n -> dst k ≠ some j) -> a.tmps[j]? = a0.tmps[j]?
  val : ∀ i d, l.getD i false = true -> dst i = some d -> a.tmps[d]? = some (val i)
  wd : w = W (l.getD s false)
theorem getD_set (l : Array Bool) (i : Nat) (hi : i < l.size) (j : Nat) : (l.setIfInBounds i true).getD j false = if j = i then true else l.getD j false := by
  rw [Array.getD_eq_getD_getElem?, Array.getD_eq_getD_getElem?, Array.getElem?_setIfInBounds]
  by_cases h : i = j
  . subst h; simp [hi]
  rw [if_neg h, if_neg (Ne.symm h)]
theorem lt_of_getD {l : Array Bool} {i : Nat} (h : l.getD i true = false) : i < l.size := by
  rcases Nat.lt_or_ge i l.size with q | q
  . exact q
  simp [Array.getD, Nat.not_lt.2 q] at h
theorem all_done {ops : Array Oper} {l : Array Bool} (hs : l.size = ops.size) (hlow : ∀ i o e, ops[i]? = some o -> e ∈ o.after -> Region.binds .any e = true -> e.on < i) (hr : Region.ready .any ops l = []) : ∀ i, i < ops.size -> l.getD i false = true := by
  intro i
  induction i using Nat.strongRecOn with
  | _ i ih =>
  intro hi
  cases hl : l.getD i false with
  | true => rfl
  | false =>
  exfalso
  have ho : ops[i]? = some ops[i] := Array.getElem?_eq_getElem hi
  have : i ∈ Region.ready .any ops l := by
    unfold Region.ready
    rw [List.mem_filter]
    refine ⟨List.mem_range.2 hi, ?_⟩
    have hl2 : l.getD i true = false := by
      have hil : i < l.size := by omega
      simp [Array.getD, hil] at hl ⊢; exact hl
    simp only [ho, Option.map_some, Option.getD_some, Bool.and_eq_true, Bool.not_eq_true']
    refine ⟨hl2, Array.all_eq_true_iff_forall_mem.2 fun e he => ?_⟩
    cases hb : Region.binds .any e with
    | false => simp
    | true =>
    have h1 := hlow i _ e ho he hb
    simp [ih e.on h1 (by omega)]
  rw [hr] at this
  cases this
end Go.Proofs.YtbkeoiefolkjfaaGreatDoor
namespace Go.Proofs.YtbkeoiefolkjfaaGreatDoor
open Go.RowKit Go.Shelf
attribute [local go_sem] Oper.semAt_some
section
variable {o : Oper} {a : Act} {w : World} {K : Act -> World -> Prop} {Q : Exit -> Act -> World -> Prop}
end
end Go.Proofs.YtbkeoiefolkjfaaGreatDoor
namespace Go.Proofs.YtbkeoiefolkjfaaGreatDoor
open Go.RowKit Go.Shelf
attribute [local go_sem] Oper.semAt_some
end Go.Proofs.YtbkeoiefolkjfaaGreatDoor
namespace Go.Proofs.YtbkeoiefolkjfaaGreatDoor
open Go.RowKit Go.Shelf Go.Maps Go.ChangeShapes Go.Joins Go.WideShapes
attribute [local go_sem] Oper.semAt_some
structure Ed where
  kind : Int
  id : Int
  fields : List Fld
structure EdIn (W : World) (cs : List Value) (ed : Ed) (fv : Value) : Prop where
  cs : cs = [.int .i64 ed.kind, .int .i64 ed.id, fv]
  flds : FldsIn W fv ed.fields
theorem edit_in {H : Type} {enc : TypeId × Value -> H} {W : World} {base : Nat} {sp : Nat -> Bool} {held : Bool} {fuel : Nat} {cs : List Value} {x : DataW H × List MemPlace} (h : DataW.trod enc Tryz.prog W base sp held fuel 40 cs = some x) :
    ∃ ed fv, EdIn W cs ed fv := by
  obtain ⟨xs, m, _, _, hl, hxl, hf⟩ := DataW.trod_struct Tryz.underlying40 h
  have hl2 : cs.length = 3 := hl.trans (by kernel_rfl)
  obtain ⟨c0, c1, c2, rfl⟩ := cells3 hl2
  have k3 : Tryz.prog.cellsOf 3 = 1 := by kernel_rfl
  have k40 : Tryz.prog.cellsOf 38 = 1 := by kernel_rfl
  have hx : ∀ i, i < 3 -> ∃ y, xs[i]? = some y := fun i hi => ⟨_, List.getElem?_eq_getElem (by rw [hxl]; exact hi)⟩
  obtain ⟨y0, e0⟩ := hx 0 (by decide)
  obtain ⟨y1, e1⟩ := hx 1 (by decide)
  obtain ⟨y2, e2⟩ := hx 2 (by decide)
  have q0 : DataW.trod enc Tryz.prog W base sp held m 3 (List.take (Tryz.prog.cellsOf 3) [c0, c1, c2]) = _ := hf 0 _ rfl
  have q1 : DataW.trod enc Tryz.prog W base sp held m 3 (List.take (Tryz.prog.cellsOf 3) [c1, c2]) = _ := hf 1 _ rfl
  have q2 : DataW.trod enc Tryz.prog W base sp held m 38 (List.take (Tryz.prog.cellsOf 38) [c2]) = _ := hf 2 _ rfl
  rw [k3, e0] at q0
  rw [k3, e1] at q1
  rw [k40, e2] at q2
  obtain ⟨kind, f0, _, _⟩ := DataW.trod_int Tryz.underlying3 q0
  obtain ⟨id, f1, _, _⟩ := DataW.trod_int Tryz.underlying3 q1
  obtain ⟨fs, hfs⟩ := flds_in (v := c2) q2
  simp at f0 f1
  subst f0 f1
  exact ⟨⟨kind, id, fs⟩, c2, rfl, hfs⟩
structure EdsIn (w : World) (v : Value) (eds : List Ed) : Prop where
  len : eds.length <= maxLen
  at_ : ∃ A cap, v = .slice A eds.length cap /\ eds.length <= cap /\ ∀ (i : Nat) (ed : Ed), eds[i]? = some ed -> ∃ b off fv, A = some ⟨b, off, none⟩ /\ b < w.heap.size /\ w.cell? ⟨b, off + i * 3, none⟩ = some (.int .i64 ed.kind) /\ w.cell? ⟨b, off + i * 3 + 1, none⟩ = some (.int .i64 ed.id) /\ w.cell? ⟨b, off + i * 3 + 1 + 1, none⟩ = some fv /\ FldsIn w fv ed.fields
theorem edits_in {H : Type} {enc : TypeId × Value -> H} {W : World} {base : Nat} {sp : Nat -> Bool} {held : Bool} {fuel : Nat} {v : Value} {x : DataW H × List MemPlace} (h : DataW.trod enc Tryz.prog W base sp held fuel 37 [v] = some x) :
    ∃ eds, EdsIn W v eds := by
  rcases DataW.trod_slice Tryz.underlying37 h with ⟨e, _⟩ | ⟨a, len, cap, elems, rest, n, _, e, _, _, hl, hm, hlen, hel, _, _⟩
  . obtain rfl : v = .slice none 0 0 := by simpa using e
    exact ⟨[], ⟨Nat.zero_le _, none, 0, rfl, Nat.le_refl _, fun i f h => by simp at h⟩⟩
  obtain rfl : v = .slice (some a) len cap := by simpa using e
  have k3 : Tryz.prog.cellsOf 40 = 3 := by kernel_rfl
  have each : ∀ i, i < len -> ∃ ed : Ed, ∃ b off fv, a = ⟨b, off, none⟩ /\ b < W.heap.size /\ W.cell? ⟨b, off + i * 3, none⟩ = some (.int .i64 ed.kind) /\ W.cell? ⟨b, off + i * 3 + 1, none⟩ = some (.int .i64 ed.id) /\ W.cell? ⟨b, off + i * 3 + 1 + 1, none⟩ = some fv /\ FldsIn W fv ed.fields := by
    intro i hi
    have h1 := hel i hi
    rw [k3, List.getElem?_eq_getElem (by omega)] at h1
    obtain ⟨cs, hc, ht⟩ := Option.bind_eq_some_iff.1 h1
    obtain ⟨ed, fv, rfl, hf⟩ := edit_in ht
    obtain ⟨_, _, hat⟩ := World.cells?_some hc
    have c0 := hat 0 (by decide)
    have c1 := hat 1 (by decide)
    have c2 := hat 2 (by decide)
    obtain ⟨b, off, spot⟩ := a
    have hspot : spot = none := by
      have h2 := hel 0 (by omega)
      rw [k3, List.getElem?_eq_getElem (by omega)] at h2
      obtain ⟨cs', hc', ht'⟩ := Option.bind_eq_some_iff.1 h2
      obtain ⟨ed', fv', rfl, _⟩ := edit_in ht'
      obtain ⟨_, hlen', hat'⟩ := World.cells?_some hc'
      have := World.cell?_spot (hat' 0 (by decide))
      simpa [Addr.add] using this
    subst hspot
    rw [WideShapes.add_plain] at c0 c1 c2
    exact ⟨ed, b, off, fv, rfl, World.block_lt_of_cell? W _ c0, c0, c1, c2, hf⟩
  have : ∃ g : Nat -> Ed, ∀ i, i < len -> ∃ b off fv, a = ⟨b, off, none⟩ /\ b < W.heap.size /\ W.cell? ⟨b, off + i * 3, none⟩ = some (.int .i64 (g i).kind) /\ W.cell? ⟨b, off + i * 3 + 1, none⟩ = some (.int .i64 (g i).id) /\ W.cell? ⟨b, off + i * 3 + 1 + 1, none⟩ = some fv /\ FldsIn W fv (g i).fields := by
    refine ⟨fun i => if h : i < len then (each i h).choose else ⟨0, 0, []⟩, fun i hi => ?_⟩
    simp only [dif_pos hi]
    exact (each i hi).choose_spec
  obtain ⟨g, hg⟩ := this
  have hll : ((List.range len).map g).length = len := by simp
  refine ⟨(List.range len).map g, ⟨by rw [hll]; omega, some a, cap, by rw [hll], by rw [hll]; exact hl, fun i ed hi => ?_⟩⟩
  have hlt : i < len := by
    rcases Nat.lt_or_ge i len with q | q
    . exact q
    rw [List.getElem?_eq_none (by rw [hll]; exact q)] at hi; cases hi
  rw [List.getElem?_map, List.getElem?_range hlt] at hi
  obtain rfl := (Option.some.inj hi).symm
  obtain ⟨b, off, fv, ea, hb, c0, c1, c2, hf⟩ := hg i hlt
  exact ⟨b, off, fv, by rw [ea], hb, c0, c1, c2, hf⟩
theorem FldsIn.kept {w w' : World} {v : Value} {fs : List Fld} {N : Nat} (h : FldsIn w v fs) (hb : Below N w w') (hN : w.heap.size <= N) : FldsIn w' v fs := ⟨h.flds.below hb hN, h.nil, h.len, h.each⟩
theorem EdsIn.below {w w' : World} {v : Value} {eds : List Ed} {N : Nat} (h : EdsIn w v eds) (hb : Below N w w') (hN : w.heap.size <= N) : EdsIn w' v eds := by
  obtain ⟨hl, A, cap, e, hle, hc⟩ := h
  refine ⟨hl, A, cap, e, hle, fun i ed hi => ?_⟩
  obtain ⟨b, off, fv, e1, hbb, c0, c1, c2, hf⟩ := hc i ed hi
  have hbN : b < N := by omega
  exact ⟨b, off, fv, e1, Nat.lt_of_lt_of_le hbb hb.size, (hb.cell (p := ⟨b, off + i * 3, none⟩) hbN).trans c0, (hb.cell (p := ⟨b, off + i * 3 + 1, none⟩) hbN).trans c1, (hb.cell (p := ⟨b, off + i * 3 + 1 + 1, none⟩) hbN).trans c2, hf.kept hb hN⟩
def Light (eds : List Ed) : Prop := eds.length <= 51 /\ ∀ ed ∈ eds, ed.fields.length <= 61 /\ (∀ f ∈ ed.fields, f.1.length <= 6000 /\ f.2.length <= 6000) /\ minF ed.fields <= 6000
def HeavyR (eds : List Ed) (e : Ending) : Prop := ∃ b : Bool, e = .returned (.bool b) /\ (b = false -> Light eds)
theorem Light.fine {eds : List Ed} (h : Light eds) {ed : Ed} (he : ed ∈ eds) : Fine7 ed.fields :=
  ⟨by have := (h.2 ed he).1; omega, fun f hf => by have := (h.2 ed he).2.1 f hf; omega⟩
theorem heavy_any (eds : List Ed) (v : Value) (w : World) (h : EdsIn w v eds) :
    Calls Tryz.prog 19 #[v] w fun e w' => HeavyR eds e /\ Below w.heap.size w w' := by
  have HH := Lib.hid h
  obtain ⟨hm, A, cap, rfl, hle, hc⟩ := h
  have PC := Lib.hid hc
  clear hc
  unfold maxLen at hm
  go_enter Tryz.func19, Tryz.ntmps19
  go_wp2_with fail
  go_loopw [7] (fun i wr => ∃ k : Nat, k <= eds.length /\ k <= 51 /\ i = .int .i64 k /\ (∀ ed ∈ eds.take k, ed.fields.length <= 61 /\ (∀ f ∈ ed.fields, f.1.length <= 6000 /\ f.2.length <= 6000) /\ minF ed.fields <= 6000) /\ Below w.heap.size w wr) (fun i _ => eds.length - (intOf i).toNat)
  case atStart => exact ⟨0, Nat.zero_le _, by decide, rfl, (fun ed h => by simp at h), Below.refl _ _⟩
  case round =>
  obtain ⟨k, hk, hk51, rfl, hsm, hb⟩ := hrel
  by_cases hlt : k < eds.length
  . obtain ⟨ed, hed⟩ : ∃ ed, eds[k]? = some ed := ⟨_, List.getElem?_eq_getElem hlt⟩
    obtain ⟨b, off, fv, rfl, hbb, c0, c1, c2, hf⟩ := PC.out k ed hed
    obtain ⟨fa, fc, rfl, _, _⟩ := _root_.id hf.flds
    replace c0 := (hb.cell (p := ⟨b, off + k * 3, none⟩) hbb).trans c0
    replace c1 := (hb.cell (p := ⟨b, off + k * 3 + 1, none⟩) hbb).trans c1
    replace c2 := (hb.cell (p := ⟨b, off + k * 3 + 1 + 1, none⟩) hbb).trans c2
    have TK := Lib.hid (show eds.take (k + 1) = eds.take k ++ [ed] by rw [List.take_add_one, hed]; rfl)
    have HSM := Lib.hid hsm
    obtain ⟨wa, hwa⟩ : ∃ wa, wa = wr.alloc (.cells #[.int .i64 ed.kind, .int .i64 ed.id, .slice fa ed.fields.length fc] 40) := ⟨_, rfl⟩
    have hba : Below w.heap.size w wa := by rw [hwa]; exact hb.alloc hb.size _
    have MU := Lib.hid (much_any ed.fields (.slice fa ed.fields.length fc) wa (hf.kept hba (Nat.le_refl _)).flds hf.len hf.each)
    have HBA := Lib.hid hba
    clear hed hsm hf hba
    by_cases h50 : 50 < k
    . subst hwa
      go_wp2_with fail
      go_ret
      exact ⟨⟨true, rfl, fun h => by cases h⟩, HBA.out⟩
    subst hwa
    go_wp2_with fail
    refine MU.out.mono ?_
    rintro e w2 ⟨⟨q, rfl, hq⟩, b2⟩
    have HB2 := Lib.hid (HBA.out.trans (b2.mono HBA.out.size))
    have HQ := Lib.hid hq
    clear b2 hq MU
    cases q with
    | true =>
      go_wp2_with fail
      go_ret
      exact ⟨⟨true, rfl, fun h => by cases h⟩, HB2.out⟩
    | false =>
    go_wp2_with fail
    go_roundw
    case rel =>
      refine ⟨k + 1, hlt, by omega, by go_num, fun x hx => ?_, HB2.out⟩
      rw [TK.out] at hx
      rcases List.mem_append.1 hx with hx | hx
      . exact HSM.out x hx
      rw [List.mem_singleton.1 hx]
      obtain ⟨a1, a2, a3⟩ := HQ.out (by first | exact rfl | trivial)
      exact ⟨a1, a2, a3⟩
    case measure => simp [intOf]; omega
  obtain rfl : k = eds.length := by omega
  rw [List.take_length] at hsm
  have HSM := Lib.hid hsm
  clear PC hsm
  go_wp2_with fail
  go_ret
  exact ⟨⟨false, rfl, fun _ => ⟨hk51, HSM.out⟩⟩, hb⟩
end Go.Proofs.YtbkeoiefolkjfaaGreatDoor
namespace Go.Proofs.YtbkeoiefolkjfaaGreatDoor
def nums (es : List En) : List Int := (es.map Prod.snd).filter fun n => decide (0 < n)
end Go.Proofs.YtbkeoiefolkjfaaGreatDoor
namespace Go.Proofs.YtbkeoiefolkjfaaGreatDoor
def goodE (ed : Ed) : Nat := if ed.kind = 1 \/ ed.kind = 3 then chkN ed.fields else if ed.kind = 2 /\ ed.fields.length = 0 then 0 else 2
theorem goodE_le (ed : Ed) : goodE ed <= 11 := by
  unfold goodE
  split
  . exact chkN_le _
  split <;> decide
def chkOn : Nat -> List Ed -> Int × Nat
  | _, [] => (-9, 0)
  | k, ed :: r => if goodE ed = 0 then chkOn (k + 1) r else ((k : Nat), goodE ed)
def chkB (eds : List Ed) : Int × Nat := if eds.length < 1 \/ 40 < eds.length then (-9, 1) else chkOn 0 eds
theorem chkOn_at : ∀ (eds : List Ed) (q k : Nat) (ed : Ed), (∀ x ∈ eds.take k, goodE x = 0) -> eds[k]? = some ed -> goodE ed ≠ 0 -> chkOn q eds = (((q + k : Nat) : Int), goodE ed)
  | [], q, k, ed, _, h, _ => by simp at h
  | a :: r, q, 0, ed, _, h, h0 => by
    simp at h; subst h
    unfold chkOn
    rw [if_neg h0]; rfl
  | a :: r, q, k + 1, ed, hg, h, h0 => by
    have ih := chkOn_at r (q + 1) k ed (fun x hx => hg x (by rw [List.take_succ_cons]; exact List.mem_cons_of_mem _ hx)) (by simpa using h) h0
    unfold chkOn
    rw [if_pos (hg a (by rw [List.take_succ_cons]; exact List.mem_cons_self)), ih, show q + 1 + k = q + (k + 1) by omega]
theorem chkOn_all : ∀ (eds : List Ed) (q : Nat), (∀ x ∈ eds, goodE x = 0) -> chkOn q eds = (-9, 0)
  | [], _, _ => rfl
  | a :: r, q, h => by
    unfold chkOn
    rw [if_pos (h a List.mem_cons_self)]
    exact chkOn_all r (q + 1) (fun x hx => h x (List.mem_cons_of_mem _ hx))
theorem chkOn_good : ∀ (eds : List Ed) (q : Nat), (chkOn q eds).2 = 0 -> ∀ x ∈ eds, goodE x = 0
  | [], _, _, x, hx => by cases hx
  | a :: r, q, h, x, hx => by
    unfold chkOn at h
    split at h
    . rename_i h0
      rcases List.mem_cons.1 hx with rfl | hx
      . exact h0
      exact chkOn_good r (q + 1) h x hx
    rename_i h0; exact absurd h h0
theorem chkB_good {eds : List Ed} (h : (chkB eds).2 = 0) : (1 <= eds.length /\ eds.length <= 40) /\ ∀ x ∈ eds, goodE x = 0 := by
  unfold chkB at h
  split at h
  . cases h
  exact ⟨by omega, chkOn_good eds 0 h⟩
theorem goodE_kind {ed : Ed} (h : goodE ed = 0) : ed.kind = 1 \/ ed.kind = 2 \/ ed.kind = 3 := by
  unfold goodE at h
  split at h
  . rename_i q; omega
  split at h
  . rename_i q; exact .inr (.inl q.1)
  cases h
theorem take_snoc {eds : List Ed} {k : Nat} {ed : Ed} (h : eds[k]? = some ed) : eds.take (k + 1) = eds.take k ++ [ed] := by rw [List.take_add_one, h]; rfl
theorem take_len {eds : List Ed} {k : Nat} {ed : Ed} (h : eds[k]? = some ed) : (eds.take k).length = k := by
  have := (List.getElem?_eq_some_iff.1 h).1
  rw [List.length_take]; omega
end Go.Proofs.YtbkeoiefolkjfaaGreatDoor
namespace Go.Proofs.YtbkeoiefolkjfaaGreatDoor
def cnt3 (its : List It) : Nat := (its.filter fun it => decide (it.kind = 3)).length
theorem cnt3_snoc (its : List It) (it : It) : cnt3 (its ++ [it]) = cnt3 its + if it.kind = 3 then 1 else 0 := by
  unfold cnt3
  rw [List.filter_append, List.length_append]
  congr 1
  by_cases h : it.kind = 3
  . rw [if_pos h, List.filter_cons, if_pos (by simpa using h)]; rfl
  rw [if_neg h, List.filter_cons, if_neg (by simpa using h)]; rfl
def CntP (p : PS) : Prop := cnt3 p.items = p.stanzas
theorem CntP.endField {p : PS} (h : CntP p) : CntP (endFieldP p) := by
  unfold endFieldP
  split
  . exact h
  exact h
theorem CntP.endItem {t : List UInt8} {p : PS} (h : CntP p) (kind e : Nat) (hk : kind ≠ 3) : CntP (endItemP t p kind e) := by
  show cnt3 (p.items ++ [_]) = p.stanzas
  rw [cnt3_snoc, if_neg (by show ((kind : Nat) : Int) ≠ 3; omega), h]; rfl
theorem CntP.endBlock {t : List UInt8} {p : PS} (h : CntP p) (e : Nat) : CntP (endBlockP t p e) := by
  unfold endBlockP
  split
  . exact h
  split
  . exact h.endItem 2 e (by decide)
  show cnt3 (p.items ++ [_]) = p.stanzas + 1
  rw [cnt3_snoc, if_pos (by rfl), h]
theorem CntP.went {p : PS} (h : CntP p) (x : Ln) : CntP (wentP p x) := by
  unfold wentP
  split <;> exact h
theorem CntP.then_ {p : PS} (h : CntP p) (x : Ln) : CntP (thenP p x) := by
  unfold thenP
  split
  . exact (h.went x).endField
  exact h.went x
theorem CntP.put {t : List UInt8} {p : PS} (h : CntP p) (x : Ln) : CntP (putP t p x) := by
  unfold putP
  split
  . exact h
  split
  . exact (h.endBlock x.at_).endItem 1 _ (by decide)
  exact h
theorem CntP.take {t : List UInt8} {p q : PS} {x : Ln} (h : CntP p) (he : takeP t p x = .ok q) : CntP q := by
  obtain ⟨_, _, rfl⟩ := take_parts he
  exact (h.then_ x).put x
theorem CntP.run (t : List UInt8) : ∀ (xs : List Ln) (p q : PS), CntP p -> runP t p xs = .ok q -> CntP q
  | [], p, q, h, he => by cases he; exact h
  | x :: xs, p, q, h, he => by
    unfold runP at he
    cases ht : takeP t p x with
    | error e => rw [ht] at he; cases he
    | ok p1 =>
    rw [ht] at he
    exact CntP.run t xs p1 q (h.take ht) he
theorem parse_cnt {t : List UInt8} {its : List It} (h : parseL t = .ok its) : cnt3 its <= 400 := by
  obtain ⟨p, hr, h0, rfl, g, _⟩ := parse_good h
  have hc : CntP (endBlockP t (endFieldP p) t.length) := ((CntP.run t _ _ _ (by rfl) hr).endField).endBlock _
  rw [show cnt3 _ = _ from hc]
  exact g.st
end Go.Proofs.YtbkeoiefolkjfaaGreatDoor
namespace Go.Proofs.YtbkeoiefolkjfaaGreatDoor
open Go.RowKit Go.Shelf
attribute [local go_sem] Oper.semAt_some
end Go.Proofs.YtbkeoiefolkjfaaGreatDoor
namespace Go.Proofs.YtbkeoiefolkjfaaGreatDoor
end Go.Proofs.YtbkeoiefolkjfaaGreatDoor
namespace Go.Proofs.YtbkeoiefolkjfaaGreatDoor
open Go.RowKit Go.Shelf
end Go.Proofs.YtbkeoiefolkjfaaGreatDoor
namespace Go.Proofs.YtbkeoiefolkjfaaGreatDoor
theorem foldN_of : ∀ (fs : List Fld), (∀ f ∈ fs, checkN f.1 f.2 = 0) -> foldN fs = 0
  | [], _ => rfl
  | f :: r, h => by
    unfold foldN
    rw [if_pos (h f List.mem_cons_self)]
    exact foldN_of r (fun x hx => h x (List.mem_cons_of_mem _ hx))
structure GkP (p : PS) : Prop where
  fl : ∀ f ∈ p.fields, checkN f.1 f.2 = 0
  each : ∀ it ∈ p.items, (∀ f ∈ it.fields, checkN f.1 f.2 = 0) /\ (it.kind = 3 -> it.fields.length ≠ 0)
theorem GkP.endField {p : PS} (h : GkP p) (h0 : endFieldN p = 0) : GkP (endFieldP p) := by
  unfold endFieldP
  split
  . exact h
  rename_i hs
  unfold endFieldN at h0
  rw [if_neg hs] at h0
  have hu : unfoldN p.said = 0 := by
    by_cases q : unfoldN p.said = 0
    . exact q
    rw [if_pos q] at h0; exact h0
  refine ⟨fun f hf => ?_, h.each⟩
  rcases List.mem_append.1 hf with hf | hf
  . exact h.fl f hf
  rw [List.mem_singleton.1 hf]; exact (unfold_zero hu).1
theorem GkP.endItem {t : List UInt8} {p : PS} (h : GkP p) (kind e : Nat) (hk : kind = 3 -> p.fields.length ≠ 0) : GkP (endItemP t p kind e) :=
  ⟨fun f hf => (by cases hf), fun it hi => by
    rcases List.mem_append.1 hi with hi | hi
    . exact h.each it hi
    rw [List.mem_singleton.1 hi]
    exact ⟨h.fl, fun q => hk (by have q' : ((kind : Nat) : Int) = 3 := q; omega)⟩⟩
theorem GkP.endBlock {t : List UInt8} {p : PS} (h : GkP p) (e : Nat) : GkP (endBlockP t p e) := by
  unfold endBlockP
  split
  . exact h
  split
  . exact h.endItem 2 e (fun q => absurd q (by decide))
  rename_i hl
  exact ⟨(h.endItem (t := t) 3 e (fun _ => hl)).fl, (h.endItem (t := t) 3 e (fun _ => hl)).each⟩
theorem GkP.went {p : PS} (h : GkP p) (x : Ln) : GkP (wentP p x) := by
  unfold wentP
  split
  . exact ⟨h.fl, h.each⟩
  exact h
theorem GkP.take {t : List UInt8} {p q : PS} {x : Ln} (h : GkP p) (he : takeP t p x = .ok q) : GkP q := by
  obtain ⟨h1, _, rfl⟩ := take_parts he
  have h2 : GkP (thenP p x) := by
    unfold thenP
    split
    . rename_i q; exact (h.went x).endField (h1 q)
    exact h.went x
  unfold putP
  split
  . exact ⟨h2.fl, h2.each⟩
  split
  . exact ⟨((h2.endBlock x.at_).endItem 1 _ (fun q => absurd q (by decide))).fl, ((h2.endBlock x.at_).endItem 1 _ (fun q => absurd q (by decide))).each⟩
  exact ⟨h2.fl, h2.each⟩
theorem GkP.run (t : List UInt8) : ∀ (xs : List Ln) (p q : PS), GkP p -> runP t p xs = .ok q -> GkP q
  | [], p, q, h, he => by cases he; exact h
  | x :: xs, p, q, h, he => by
    unfold runP at he
    cases ht : takeP t p x with
    | error e => rw [ht] at he; cases he
    | ok p1 =>
    rw [ht] at he
    exact GkP.run t xs p1 q (h.take ht) he
theorem parse_gk {t : List UInt8} {its : List It} (h : parseL t = .ok its) : ∀ it ∈ its, it.kind = 3 -> chkN it.fields = 0 := by
  obtain ⟨p, hr, h0, rfl, g, _⟩ := parse_good h
  have hs : GkP (endBlockP t (endFieldP p) t.length) := ((GkP.run t _ _ _ ⟨(fun f h => by cases h), (fun it h => by cases h)⟩ hr).endField h0).endBlock _
  intro it hi h3
  have h40 : it.fields.length <= 40 := g.each it hi
  obtain ⟨h1, h2⟩ := hs.each it hi
  unfold chkN
  rw [if_neg (h2 h3), if_neg (by omega)]
  exact foldN_of _ h1
end Go.Proofs.YtbkeoiefolkjfaaGreatDoor
namespace Go.Proofs.YtbkeoiefolkjfaaGreatDoor
def wf : List Ln -> Prop
  | [] => True
  | x :: xs => (10 : UInt8) ∉ x.text /\ (x.ended = true \/ (xs = [] /\ x.text ≠ [])) /\ wf xs
def sees (x : Ln) : List UInt8 × Bool := (x.text, x.ended)
theorem head_cleanI (t r : List UInt8) (h : (10 : UInt8) ∉ t) : head (t ++ 10 :: r) = t := by
  unfold head
  induction t with
  | nil => simp
  | cons c t ih =>
  have hc : c ≠ 10 := fun e => h (by rw [e]; exact List.mem_cons_self)
  rw [List.cons_append, List.takeWhile_cons, if_pos (by simp [hc]), ih (fun hm => h (List.mem_cons_of_mem _ hm))]
theorem head_all (t : List UInt8) (h : (10 : UInt8) ∉ t) : head t = t := by
  unfold head
  induction t with
  | nil => rfl
  | cons c t ih =>
  have hc : c ≠ 10 := fun e => h (by rw [e]; exact List.mem_cons_self)
  rw [List.takeWhile_cons, if_pos (by simp [hc]), ih (fun hm => h (List.mem_cons_of_mem _ hm))]
theorem nl_clean (t : List UInt8) (h : (10 : UInt8) ∉ t) : nl t = false := by
  unfold nl
  rw [Bool.eq_false_iff]
  intro hc
  exact h (by simpa using hc)
theorem nl_end (t r : List UInt8) : nl (t ++ 10 :: r) = true := by unfold nl; simp
theorem linesOn_wf : ∀ (xs : List Ln) (no at_ : Nat), wf xs -> (linesOn no at_ (xs.flatMap Ln.bytes)).map sees = xs.map sees
  | [], no, at_, _ => by simp [linesOn_nil]
  | x :: xs, no, at_, ⟨h1, h2, h3⟩ => by
    rcases h2 with he | ⟨rfl, hne⟩
    . have eb : (x :: xs).flatMap Ln.bytes = x.text ++ 10 :: xs.flatMap Ln.bytes := by simp [Ln.bytes, he]
      rw [eb, linesOn_cons _ _ _ (by simp)]
      rw [head_cleanI _ _ h1, nl_end]
      have hu : used (x.text ++ 10 :: xs.flatMap Ln.bytes) = x.text.length + 1 := by
        unfold used; rw [head_cleanI _ _ h1, nl_end]; simp
      have hd : (x.text ++ 10 :: xs.flatMap Ln.bytes).drop (x.text.length + 1) = xs.flatMap Ln.bytes := by
        rw [show x.text ++ 10 :: xs.flatMap Ln.bytes = (x.text ++ [10]) ++ xs.flatMap Ln.bytes by simp]
        exact List.drop_left' (by simp)
      rw [hu, hd, List.map_cons, List.map_cons, linesOn_wf xs _ _ h3]
      simp [sees, he]
    have he : x.ended = false \/ x.ended = true := by cases x.ended <;> simp
    rcases he with he | he
    . have eb : [x].flatMap Ln.bytes = x.text := by simp [Ln.bytes, he]
      rw [eb, linesOn_cons _ _ _ hne, head_all _ h1, nl_clean _ h1]
      have hu : used x.text = x.text.length := by unfold used; rw [head_all _ h1, nl_clean _ h1]; simp
      rw [hu, List.drop_length, linesOn_nil]
      simp [sees, he]
    have eb : [x].flatMap Ln.bytes = x.text ++ 10 :: [] := by simp [Ln.bytes, he]
    rw [eb, linesOn_cons _ _ _ (by simp), head_cleanI _ _ h1, nl_end]
    have hu : used (x.text ++ 10 :: []) = x.text.length + 1 := by unfold used; rw [head_cleanI _ _ h1, nl_end]; simp
    rw [hu]
    have hd : (x.text ++ 10 :: []).drop (x.text.length + 1) = [] := by rw [List.drop_eq_nil_of_le]; simp
    rw [hd, linesOn_nil]
    simp [sees, he]
theorem wf_linesOn : ∀ (n no at_ : Nat) (l : List UInt8), l.length <= n -> wf (linesOn no at_ l)
  | 0, _, _, l, h => by
    have : l = [] := List.length_eq_zero_iff.1 (by omega)
    subst this; rw [linesOn_nil]; trivial
  | n + 1, no, at_, l, h => by
    by_cases hl : l = []
    . subst hl; rw [linesOn_nil]; trivial
    have hp := used_pos l hl
    have hc := linesOn_clean l.length no at_ l (Nat.le_refl _)
    rw [linesOn_cons _ _ _ hl] at hc ⊢
    refine ⟨hc _ List.mem_cons_self, ?_, wf_linesOn n _ _ _ (by simp only [List.length_drop]; omega)⟩
    cases hn : nl l with
    | true => exact .inl rfl
    | false =>
    have hh : head l = l := head_all l (fun hm => by unfold nl at hn; simp at hn; exact hn hm)
    have hu : used l = l.length := by unfold used; rw [hh, hn]; simp
    refine .inr ⟨?_, ?_⟩
    . rw [hu, List.drop_length, linesOn_nil]
    show head l ≠ []
    rw [hh]; exact hl
theorem wf_linesOf (l : List UInt8) : wf (linesOf l) := wf_linesOn _ _ _ _ (Nat.le_refl _)
def ahead (j : List UInt8) (x : Ln) : Ln := { x with text := j ++ x.text }
theorem wf_ahead (j : List UInt8) (hj : (10 : UInt8) ∉ j) : ∀ xs, wf xs -> wf (xs.map (ahead j))
  | [], _ => trivial
  | x :: xs, ⟨h1, h2, h3⟩ => by
    refine ⟨fun hm => ?_, ?_, wf_ahead j hj xs h3⟩
    . rcases List.mem_append.1 hm with h | h
      . exact hj h
      exact h1 h
    rcases h2 with h | ⟨rfl, h⟩
    . exact .inl h
    refine .inr ⟨rfl, fun e => h ?_⟩
    exact (List.append_eq_nil_iff.1 e).2
def dd (p : List UInt8) (ys : List (List UInt8 × Bool)) : List UInt8 × Bool :=
  if ys.all (fun y => p.isPrefixOf y.1) then (ys.flatMap (fun y => y.1.drop p.length ++ if y.2 then [10] else []), true) else ([], false)
theorem dd_ahead (j : List UInt8) (hj : (10 : UInt8) ∉ j) (l : List UInt8) :
    dd j ((linesOf ((linesOf l).flatMap fun x => j ++ x.bytes)).map sees) = (l, true) := by
  have e : (linesOf l).flatMap (fun x => j ++ x.bytes) = ((linesOf l).map (ahead j)).flatMap Ln.bytes := by
    rw [List.flatMap_map]
    congr 1
    funext x
    simp only [Ln.bytes, ahead, List.append_assoc]
    rfl
  rw [e]
  rw [show linesOf (((linesOf l).map (ahead j)).flatMap Ln.bytes) = linesOn 0 0 (((linesOf l).map (ahead j)).flatMap Ln.bytes) from rfl, linesOn_wf _ 0 0 (wf_ahead j hj _ (wf_linesOf l))]
  unfold dd
  rw [if_pos]
  . congr 1
    conv => rhs; rw [<- linesOf_join l]
    rw [List.map_map, List.flatMap_map]
    congr 1
    funext x
    simp [sees, ahead, Ln.bytes]
    rfl
  rw [List.all_eq_true]
  intro y hy
  obtain ⟨x, hx, rfl⟩ := List.mem_map.1 hy
  obtain ⟨x, hx, rfl⟩ := List.mem_map.1 hx
  simp [sees, ahead]
end Go.Proofs.YtbkeoiefolkjfaaGreatDoor
namespace Go.Proofs.YtbkeoiefolkjfaaGreatDoor
open Go.RowKit Go.Shelf
set_option maxRecDepth 1000000
end Go.Proofs.YtbkeoiefolkjfaaGreatDoor
namespace Go.Proofs.YtbkeoiefolkjfaaGreatDoor
open Go.RowKit Go.Shelf
end Go.Proofs.YtbkeoiefolkjfaaGreatDoor
namespace Go.Proofs.YtbkeoiefolkjfaaGreatDoor
open Go.RowKit Go.Shelf Go.ChangeShapes Go.WideShapes
attribute [local go_sem] errV_0
theorem foldN_good : ∀ (fs : List Fld), foldN fs = 0 -> ∀ f ∈ fs, goodKey f.1 = true /\ f.2.length <= 1000
  | [], _, f, hf => by cases hf
  | g :: r, h, f, hf => by
    unfold foldN at h
    split at h
    . rename_i h0
      rcases List.mem_cons.1 hf with rfl | hf
      . exact checkN_zero h0
      exact foldN_good r h f hf
    rename_i h0; exact absurd h h0
end Go.Proofs.YtbkeoiefolkjfaaGreatDoor
