/- Texts put together: ZD, RT, RM, ZK, KA, KB, KC, KD. -/
import Derived.Laws.ResultCell
import Derived.Laws.Rows
import Derived.Deep.DeepCutAuto
import Derived.Deep.RegionLaw
import Derived.Deep.RegionHeld3
import Derived.Test.YtembondddgfpcaaBvp1
import Derived.Test.YtembondddgfpcaaBvp2
import Derived.Test.YtembondddgfpcaaBvp3
import Derived.Test.YtembondddgfpcaaBvp4
import Derived.Test.YtembondddgfpcaaBvp5
import Derived.Test.YtembondddgfpcaaBvp6
import Derived.Test.YtembondddgfpcaaBvp7
import Derived.Test.YtembondddgfpcaaBvp8
import Derived.Test.YtembondddgfpcaaBvp9
import Derived.Test.YtembondddgfpcaaBvp10
import Derived.Test.YtembondddgfpcaaBvp11
import Derived.Test.YtembondddgfpcaaBvp12
import Derived.Test.YtembondddgfpcaaBvp13
import Derived.Test.YtembondddgfpcaaBvp14
import Derived.Test.YtembondddgfpcaaBvp15
import Derived.Test.YtembondddgfpcaaBvp16
import Derived.Test.YtembondddgfpcaaBvp17
set_option linter.unusedVariables false
namespace Go.Proofs.Ytembondddgfpcaa
open Go.RowKit Go.Maps

/-- Something and a number are answered. -/
def Two (W : World) (e : Ending) (w' : World) : Prop := (∃ (cur : Array Value) (n : Int), cur.size = 9 ∧ cur.all (·.oneCell') = true ∧ e = .returned (.tuple #[.agg cur, .int .i64 n])) ∧ Below W.heap.size W w'
end Go.Proofs.Ytembondddgfpcaa

namespace Go.Proofs.Ytembondddgfpcaa
open Go.RowKit

theorem lt_of_getD {l : Array Bool} {i : Nat} (h : l.getD i true = false) : i < l.size := by
  rcases Nat.lt_or_ge i l.size with q | q
  · exact q
  · simp [Array.getD, Nat.not_lt.2 q] at h
end Go.Proofs.Ytembondddgfpcaa

namespace Go.Proofs.Ytembondddgfpcaa
open Go.RowKit

theorem wpAny_mono {P : Program} {ops : Array Oper} {Q : Exit → Act → World → Prop} (a0 : Act) (w0 : World) (dst : Nat → Option Nat) (Pv : Nat → Value → World → Prop) (R : World → World → Prop)
    (R0 : R w0 w0) (RT : ∀ x y, R w0 x → R x y → R w0 y) (PM : ∀ i v x y, R w0 x → R x y → Pv i v x → Pv i v y)
    (hd : ∀ i o, ops[i]? = some o → o.dst = dst i) (inj : ∀ i k d, i < ops.size → k < ops.size → dst i = some d → dst k = some d → i = k) (dlt : ∀ i d, i < ops.size → dst i = some d → d < a0.tmps.size)
    (hlow : ∀ i o e, ops[i]? = some o → e ∈ o.after → Region.binds .any e = true → e.on < i)
    (step : ∀ i o a w, ops[i]? = some o → a.tmps.size = a0.tmps.size → (∀ j, (∀ k, k < ops.size → dst k ≠ some j) → a.tmps[j]? = a0.tmps[j]?) → (∀ e ∈ o.after, Region.binds .any e = true → ∀ d, dst e.on = some d → ∃ v, a.tmps[d]? = some v ∧ Pv e.on v w) → R w0 w →
      (Region.wanted o (yielded ops a.tmps) = true ∧ ∀ K : Act → World → Prop, (∀ v w', R w w' → Pv i v w' → K (a.put (dst i) v) w') → Oper.wp P o a w K Q) ∨ (Region.wanted o (yielded ops a.tmps) = false ∧ Pv i undef w))
    (RR : ∀ w, R w0 w → R w w)
    (hQ : ∀ a w, a.defers = a0.defers → a.tmps.size = a0.tmps.size → (∀ j, (∀ k, k < ops.size → dst k ≠ some j) → a.tmps[j]? = a0.tmps[j]?) → (∀ i d, i < ops.size → dst i = some d → ∃ v, a.tmps[d]? = some v ∧ Pv i v w) → R w0 w → Q .normal a w) :
    wpAny P .any ops Q ops.size (Array.replicate ops.size false) a0 w0 := by
  refine wpAny_inv (MTab a0 w0 ops.size dst Pv R) ?step ?done ops.size _ a0 _ ?start (by simp) (by unfold todo; simp)
  case start =>
    have e : ∀ i, (Array.replicate ops.size false).getD i false = false := fun i => by
      rw [Array.getD_eq_getD_getElem?, Array.getElem?_replicate]; split <;> rfl
    exact ⟨rfl, rfl, fun _ _ => rfl, (fun i d h => absurd ((e i).symm.trans h) (by decide)), R0⟩
  case done =>
    intro l a w I hl hr
    have A := all_done hl hlow hr
    exact hQ a w I.dfr I.sz I.frm (fun i d hi h => I.val i d (A i hi) h) I.wd
  case step =>
    intro l i o a w I hl ho hli he
    have hil := lt_of_getD hli
    have hi : i < ops.size := by omega
    have dep : ∀ e ∈ o.after, Region.binds .any e = true → ∀ d, dst e.on = some d → ∃ v, a.tmps[d]? = some v ∧ Pv e.on v w := fun e h1 h2 d h3 => I.val e.on d (he e h1 h2) h3
    have key : ∀ v w', R w w' → Pv i v w' → MTab a0 w0 ops.size dst Pv R (l.setIfInBounds i true) (a.put (dst i) v) w' := by
      intro v w' hR hP
      have hwd := RT w w' I.wd hR
      cases hdi : dst i with
      | none =>
        refine ⟨I.dfr, I.sz, I.frm, fun k d hk hkd => ?_, hwd⟩
        rw [getD_set l i hil] at hk
        by_cases q : k = i
        · rw [q, hdi] at hkd; cases hkd
        · rw [if_neg q] at hk
          obtain ⟨u, h1, h2⟩ := I.val k d hk hkd
          exact ⟨u, h1, PM k u w w' I.wd hR h2⟩
      | some d0 =>
        have hd0 := dlt i d0 hi hdi
        have T : ∀ j, (a.put (some d0) v).tmps[j]? = if j = d0 then some v else a.tmps[j]? := fun j => by
          show (a.tmps.setIfInBounds d0 v)[j]? = _
          rw [Array.getElem?_setIfInBounds]
          by_cases h : d0 = j
          · subst h; simp [I.sz, hd0]
          · rw [if_neg h, if_neg (Ne.symm h)]
        refine ⟨I.dfr, ?_, fun j hj => ?_, fun k d hk hkd => ?_, hwd⟩
        · show (a.tmps.setIfInBounds d0 v).size = _
          simp [I.sz]
        · rw [T, if_neg (fun e => hj i hi (by rw [hdi, e]))]; exact I.frm j hj
        · rw [T]
          rw [getD_set l i hil] at hk
          by_cases q : k = i
          · subst q
            rw [hdi] at hkd
            rw [if_pos (Option.some.inj hkd).symm]
            exact ⟨v, rfl, hP⟩
          · rw [if_neg q] at hk
            have hkl : k < ops.size := by
              rcases Nat.lt_or_ge k ops.size with z | z
              · exact z
              · rw [Array.getD_eq_getD_getElem?, Array.getElem?_eq_none (by omega)] at hk; cases hk
            rw [if_neg (fun e => q (inj k i d hkl hi hkd (by rw [hdi, e])))]
            obtain ⟨u, h1, h2⟩ := I.val k d hk hkd
            exact ⟨u, h1, PM k u w w' I.wd hR h2⟩
    unfold wpOp
    rw [ho]
    dsimp only
    rcases step i o a w ho I.sz I.frm dep I.wd with ⟨h1, h2⟩ | ⟨h1, h2⟩
    · rw [if_pos h1]
      exact .inl (h2 _ key)
    · rw [if_neg (by rw [h1]; decide), hd i o ho]
      exact key undef w (RR w I.wd) h2
end Go.Proofs.Ytembondddgfpcaa

namespace Go.Proofs.Ytembondddgfpcaa
open Go.RowKit Go.Maps

section
variable {w : World} {T : Nat → Nat} {p n : Nat} {D : ADisk} {t : Int}
end
theorem array9 {cur : Array Value} (h : cur.size = 9) : ∃ c0 c1 c2 c3 c4 c5 c6 c7 c8, cur = #[c0, c1, c2, c3, c4, c5, c6, c7, c8] := by
  obtain ⟨l⟩ := cur
  match l, h with
  | [c0, c1, c2, c3, c4, c5, c6, c7, c8], _ => exact ⟨c0, c1, c2, c3, c4, c5, c6, c7, c8, rfl⟩
/-- The reference's answer, cell by cell. -/
def Two9 (W : World) (e : Ending) (w' : World) : Prop := (∃ (c0 c1 c2 c3 c4 c5 c6 c7 c8 : Value) (n : Int), (#[c0, c1, c2, c3, c4, c5, c6, c7, c8] : Array Value).all (·.oneCell') = true ∧ e = .returned (.tuple #[.agg #[c0, c1, c2, c3, c4, c5, c6, c7, c8], .int .i64 n])) ∧ Below W.heap.size W w'
theorem Two.nine {W : World} {e : Ending} {w' : World} (h : Two W e w') : Two9 W e w' := by
  obtain ⟨⟨cur, n, hz, h1, rfl⟩, hb⟩ := h
  obtain ⟨c0, c1, c2, c3, c4, c5, c6, c7, c8, rfl⟩ := array9 hz
  exact ⟨⟨c0, c1, c2, c3, c4, c5, c6, c7, c8, n, h1, rfl⟩, hb⟩
end Go.Proofs.Ytembondddgfpcaa

namespace Go.Proofs.Ytembondddgfpcaa
open Go.RowKit Go.Maps
attribute [local go_sem] World.cell?_alloc_some

theorem sliceNilC (w : World) : (binOp .eql 66 (.slice none 0 0) (.slice none 0 0)).run Try.prog w = .ok (.bool true) w := by kernel_rfl
theorem sliceSomeC (a : Addr) (n c : Nat) (w : World) : (binOp .eql 66 (.slice (some a) n c) (.slice none 0 0)).run Try.prog w = .ok (.bool false) w := by kernel_rfl
theorem sliceNilF (w : World) : (binOp .eql 69 (.slice none 0 0) (.slice none 0 0)).run Try.prog w = .ok (.bool true) w := by kernel_rfl
theorem sliceSomeF (a : Addr) (n c : Nat) (w : World) : (binOp .eql 69 (.slice (some a) n c) (.slice none 0 0)).run Try.prog w = .ok (.bool false) w := by kernel_rfl
attribute [local go_sem] sliceNilC sliceSomeC sliceNilF sliceSomeF sliceNilA sliceSomeA
set_option maxRecDepth 100000 in
set_option maxHeartbeats 1000000 in
theorem cloneC (v : Value) (n : Nat) (xs : List Value) (w : World) (h : w.ownsRow 0 107 3 v n xs) (h1 : ∀ u ∈ xs, u.oneCell' = true) (hl : n ≤ 1000000) :
    Calls Try.prog 68 #[v] w fun e w' => ∃ v', e = .returned v' ∧ w'.ownsRow w.heap.size 107 3 v' n xs ∧ (v' = .slice none 0 0 ↔ v = .slice none 0 0) ∧ (∃ ao cap, v' = .slice ao n cap) ∧ Below w.heap.size w w' := by
  obtain ⟨i0, hi, hz0, hz1, hz2⟩ := info_parts infoChange
  rcases h.2 with ⟨rfl, h0⟩ | ⟨g, cap, cur, rfl, _⟩
  · go_enter Try.func68, Try.ntmps68
    go_wp2
    go_ret
    exact ⟨.slice none 0 0, rfl, ⟨h.1, .inl ⟨rfl, h0⟩⟩, by simp, ⟨none, 0, by rw [h0]⟩, Below.refl _ _⟩
  · have HO := Lib.hid h
    have H1 := Lib.hid h1
    clear h h1
    go_enter Try.func68, Try.ntmps68
    go_wp2_with (at_builtin; refine wpList_append_own_at _ rfl _ _ 66 rfl w.heap.size 107 i0 _ 3 40 Try.underlying66 hi hz0 hz1 hz2 rfl (by decide) (.slice (some ⟨w.heap.size, 0, none⟩) 0 0) 0 [] rfl (World.ownsRow_made w #[] 0 (Nat.le_refl _) (Nat.zero_le _) rfl) ⟨g, 0, none⟩ n cap xs rfl HO.out.1 (fun j u hu => ?c1) (fun u hu => H1.out u hu) (by unfold maxLen; omega) (by omega) (by simp) ?_)
    case c1 =>
      have e : (⟨g, 0, none⟩ : Addr).add j = ⟨g, j, none⟩ := by unfold Addr.add; split <;> simp_all
      rw [e]
      have hlt : g < w.heap.size := (HO.out.lt g rfl).2
      exact (((Below.refl _ w).alloc (Nat.le_refl _) _).cell (p := ⟨g, j, none⟩) hlt).trans (row_at HO.out hu)
    intro v' w' ho hgr hnil hbk
    have hbel : Below w.heap.size w w' := ((Below.refl _ w).alloc (Nat.le_refl _) _).grown hgr (by simp) (fun k hk => by cases hk; exact Nat.le_refl _)
    obtain ⟨ao, cap2, rfl⟩ : ∃ ao cap2, v' = .slice ao n cap2 := by
      rcases ho.2 with ⟨e, _⟩ | ⟨g', cap', cur', e1, _, r⟩
      · exact absurd e hnil
      · exact ⟨_, _, e1⟩
    have P := Lib.hid (And.intro ho (And.intro hnil hbel))
    clear ho hbel hgr hnil hbk
    go_wp2
    go_ret
    exact ⟨_, rfl, P.out.1, ⟨fun e => absurd e P.out.2.1, fun e => by cases e⟩, ⟨ao, cap2, rfl⟩, P.out.2.2⟩
set_option maxRecDepth 100000 in
set_option maxHeartbeats 1000000 in
theorem cloneF (v : Value) (n : Nat) (xs : List Value) (w : World) (h : w.ownsRow 0 96 3 v n xs) (h1 : ∀ u ∈ xs, u.oneCell' = true) (hl : n ≤ 1000000) :
    Calls Try.prog 43 #[v] w fun e w' => ∃ v', e = .returned v' ∧ w'.ownsRow w.heap.size 96 3 v' n xs ∧ (v' = .slice none 0 0 ↔ v = .slice none 0 0) ∧ (∃ ao cap, v' = .slice ao n cap) ∧ Below w.heap.size w w' := by
  obtain ⟨i0, hi, hz0, hz1, hz2⟩ := info_parts infoFile
  rcases h.2 with ⟨rfl, h0⟩ | ⟨g, cap, cur, rfl, _⟩
  · go_enter Try.func43, Try.ntmps43
    go_wp2
    go_ret
    exact ⟨.slice none 0 0, rfl, ⟨h.1, .inl ⟨rfl, h0⟩⟩, by simp, ⟨none, 0, by rw [h0]⟩, Below.refl _ _⟩
  · have HO := Lib.hid h
    have H1 := Lib.hid h1
    clear h h1
    go_enter Try.func43, Try.ntmps43
    go_wp2_with (at_builtin; refine wpList_append_own_at _ rfl _ _ 69 rfl w.heap.size 96 i0 _ 3 48 Try.underlying69 hi hz0 hz1 hz2 rfl (by decide) (.slice (some ⟨w.heap.size, 0, none⟩) 0 0) 0 [] rfl (World.ownsRow_made w #[] 0 (Nat.le_refl _) (Nat.zero_le _) rfl) ⟨g, 0, none⟩ n cap xs rfl HO.out.1 (fun j u hu => ?c1) (fun u hu => H1.out u hu) (by unfold maxLen; omega) (by omega) (by simp) ?_)
    case c1 =>
      have e : (⟨g, 0, none⟩ : Addr).add j = ⟨g, j, none⟩ := by unfold Addr.add; split <;> simp_all
      rw [e]
      have hlt : g < w.heap.size := (HO.out.lt g rfl).2
      exact (((Below.refl _ w).alloc (Nat.le_refl _) _).cell (p := ⟨g, j, none⟩) hlt).trans (row_at HO.out hu)
    intro v' w' ho hgr hnil hbk
    have hbel : Below w.heap.size w w' := ((Below.refl _ w).alloc (Nat.le_refl _) _).grown hgr (by simp) (fun k hk => by cases hk; exact Nat.le_refl _)
    obtain ⟨ao, cap2, rfl⟩ : ∃ ao cap2, v' = .slice ao n cap2 := by
      rcases ho.2 with ⟨e, _⟩ | ⟨g', cap', cur', e1, _, r⟩
      · exact absurd e hnil
      · exact ⟨_, _, e1⟩
    have P := Lib.hid (And.intro ho (And.intro hnil hbel))
    clear ho hbel hgr hnil hbk
    go_wp2
    go_ret
    exact ⟨_, rfl, P.out.1, ⟨fun e => absurd e P.out.2.1, fun e => by cases e⟩, ⟨ao, cap2, rfl⟩, P.out.2.2⟩
set_option maxRecDepth 100000 in
set_option maxHeartbeats 1000000 in
theorem cloneA (v : Value) (n : Nat) (xs : List Value) (w : World) (h : w.ownsRow 0 89 5 v n xs) (h1 : ∀ u ∈ xs, u.oneCell' = true) (hl : n ≤ 1000000) :
    Calls Try.prog 44 #[v] w fun e w' => ∃ v', e = .returned v' ∧ w'.ownsRow w.heap.size 89 5 v' n xs ∧ (v' = .slice none 0 0 ↔ v = .slice none 0 0) ∧ (∃ ao cap, v' = .slice ao n cap) ∧ Below w.heap.size w w' := by
  obtain ⟨i0, hi, hz0, hz1, hz2⟩ := info_parts infoAct
  rcases h.2 with ⟨rfl, h0⟩ | ⟨g, cap, cur, rfl, _⟩
  · go_enter Try.func44, Try.ntmps44
    go_wp2
    go_ret
    exact ⟨.slice none 0 0, rfl, ⟨h.1, .inl ⟨rfl, h0⟩⟩, by simp, ⟨none, 0, by rw [h0]⟩, Below.refl _ _⟩
  · have HO := Lib.hid h
    have H1 := Lib.hid h1
    clear h h1
    go_enter Try.func44, Try.ntmps44
    go_wp2_with (at_builtin; refine wpList_append_own_at _ rfl _ _ 60 rfl w.heap.size 89 i0 _ 5 64 Try.underlying60 hi hz0 hz1 hz2 rfl (by decide) (.slice (some ⟨w.heap.size, 0, none⟩) 0 0) 0 [] rfl (World.ownsRow_made w #[] 0 (Nat.le_refl _) (Nat.zero_le _) rfl) ⟨g, 0, none⟩ n cap xs rfl HO.out.1 (fun j u hu => ?c1) (fun u hu => H1.out u hu) (by unfold maxLen; omega) (by omega) (by simp) ?_)
    case c1 =>
      have e : (⟨g, 0, none⟩ : Addr).add j = ⟨g, j, none⟩ := by unfold Addr.add; split <;> simp_all
      rw [e]
      have hlt : g < w.heap.size := (HO.out.lt g rfl).2
      exact (((Below.refl _ w).alloc (Nat.le_refl _) _).cell (p := ⟨g, j, none⟩) hlt).trans (row_at HO.out hu)
    intro v' w' ho hgr hnil hbk
    have hbel : Below w.heap.size w w' := ((Below.refl _ w).alloc (Nat.le_refl _) _).grown hgr (by simp) (fun k hk => by cases hk; exact Nat.le_refl _)
    obtain ⟨ao, cap2, rfl⟩ : ∃ ao cap2, v' = .slice ao n cap2 := by
      rcases ho.2 with ⟨e, _⟩ | ⟨g', cap', cur', e1, _, r⟩
      · exact absurd e hnil
      · exact ⟨_, _, e1⟩
    have P := Lib.hid (And.intro ho (And.intro hnil hbel))
    clear ho hbel hgr hnil hbk
    go_wp2
    go_ret
    exact ⟨_, rfl, P.out.1, ⟨fun e => absurd e P.out.2.1, fun e => by cases e⟩, ⟨ao, cap2, rfl⟩, P.out.2.2⟩
theorem maps_clone {n : Nat} {v : Value} {l : Dir} (w : World) (h : MapAt w n v l) :
    Calls Try.prog 67 #[v] w fun e w' => ∃ v', e = .returned v' ∧ MapAt w' n v' l ∧ (v' = .map none ↔ v = .map none) ∧ (∀ b, mapBlock v' = some b → w.heap.size ≤ b ∧ b < w'.heap.size) ∧ (∃ o, v' = .map o) ∧ Below w.heap.size w w' := by
  rcases h with ⟨rfl, hl⟩ | ⟨b, rfl, ho⟩
  · exact (clone_none w).mono fun e w' ⟨he, hw⟩ => ⟨.map none, he, .inl ⟨rfl, hl⟩, Iff.rfl, (fun b hb => by cases hb), ⟨_, rfl⟩, by rw [← hw]; exact Below.refl _ _⟩
  · refine (clone_some b n l w ho).mono fun e w' ⟨he, h1, h2, h3⟩ => ⟨.map (some w.heap.size), he, .inr ⟨_, rfl, h1⟩, ⟨fun e => (by cases e), fun e => (by cases e)⟩, fun b hb => ?_, ⟨_, rfl⟩, h2⟩
    injection hb with hb
    subst hb
    omega
end Go.Proofs.Ytembondddgfpcaa

namespace Go.Proofs.Ytembondddgfpcaa
open Go.RowKit Go.Maps
attribute [local go_sem] World.cell?_alloc_some
attribute [local go_sem ↓] Go.wp_at_zero Go.wp_at_succ

theorem own_lo {w : World} {lo lo' n size : Nat} {e : TypeId} {v : Value} {xs : List Value} (h : w.ownsRow lo e size v n xs) (hle : lo' ≤ lo) : w.ownsRow lo' e size v n xs :=
  ⟨h.1, h.2.imp id fun ⟨g, cap, cur, e, hlo, r⟩ => ⟨g, cap, cur, e, Nat.le_trans hle hlo, r⟩⟩
theorem own_from {w : World} {lo n size : Nat} {e : TypeId} {v : Value} {xs : List Value} (h : w.ownsRow lo e size v n xs) : ∀ b, v.ownBlock = some b → lo ≤ b ∧ b < w.heap.size := by
  intro b hb
  obtain ⟨c, hc⟩ := row_obj h hb
  refine ⟨?_, (Array.getElem?_eq_some_iff.1 hc).1⟩
  rcases h.2 with ⟨q, _⟩ | ⟨g, cap, cur, q, hlo, _⟩
  · rw [q] at hb; cases hb
  · rw [q] at hb
    have e : g = b := by injection hb
    subst e
    exact hlo
theorem cells3d {w : World} {b : Nat} {t : TypeId} {v0 v1 v2 : Value} (h : Cells w b t #[v0, v1, v2]) : w.cell? ⟨b, 0, none⟩ = some v0 ∧ w.cell? ⟨b, 1, none⟩ = some v1 ∧ w.cell? ⟨b, 2, none⟩ = some v2 := ⟨h.cell 0, h.cell 1, h.cell 2⟩
def setBox3 (w : World) (b : Nat) (v0 v1 v2 : Value) : World := ((w.setCell ⟨b, 0, none⟩ v0).setCell ⟨b, 1, none⟩ v1).setCell ⟨b, 2, none⟩ v2
theorem setBox3_to {w : World} {b : Nat} {t : TypeId} {c0 c1 c2 : Value} (h : Cells w b t #[c0, c1, c2]) (v0 v1 v2 : Value) : Cells (setBox3 w b v0 v1 v2) b t #[v0, v1, v2] := by
  have h2 := ((h.set 0 v0).set 1 v1).set 2 v2
  have e : ((#[c0, c1, c2].setIfInBounds 0 v0).setIfInBounds 1 v1).setIfInBounds 2 v2 = #[v0, v1, v2] := by simp [List.setIfInBounds_toArray, List.set]
  rw [e] at h2
  exact h2
theorem setBox3_below {B : Nat} {a w : World} {b : Nat} (h : Below B a w) (hb : B ≤ b) (v0 v1 v2 : Value) : Below B a (setBox3 w b v0 v1 v2) :=
  ((h.setCell hb v0).setCell hb v1).setCell hb v2
theorem setBox3_block {w : World} {b c : Nat} (h : c ≠ b) (v0 v1 v2 : Value) : (setBox3 w b v0 v1 v2).heap[c]? = w.heap[c]? := by
  have s : ∀ (W : World) (i : Nat) (v : Value), (W.setCell ⟨b, i, none⟩ v).heap[c]? = W.heap[c]? := fun W i v => Below.heap_setCell W _ v c h
  unfold setBox3
  rw [s, s, s]
/-- What a directory's copy is. -/
structure Dup (n : Nat) (w : World) (D : ADisk) (V : Vals) (v5 v6 v7 : Value) : Prop where
  m5 : MapAt w D.sure.length v5 D.sure
  m6 : MapAt w D.seen.length v6 D.seen
  r7 : w.ownsRow n 107 3 v7 D.waits.length (changesCells D.waits)
  nil5 : v5 = .map none ↔ V.v5 = .map none
  nil6 : v6 = .map none ↔ V.v6 = .map none
  nil7 : v7 = .slice none 0 0 ↔ V.v7 = .slice none 0 0
  lo5 : ∀ b, mapBlock v5 = some b → n ≤ b
  lo6 : ∀ b, mapBlock v6 = some b → n ≤ b
  ne : ∀ b, mapBlock v5 = some b → mapBlock v6 ≠ some b
theorem Dup.same {n : Nat} {w w' : World} {D : ADisk} {V : Vals} {v5 v6 v7 : Value} (h : Dup n w D V v5 v6 v7) (hs : ∀ b, n ≤ b → b < w.heap.size → w'.heap[b]? = w.heap[b]?) : Dup n w' D V v5 v6 v7 :=
  ⟨h.m5.same fun b hb => hs b (h.lo5 b hb) (h.m5.lt b hb), h.m6.same fun b hb => hs b (h.lo6 b hb) (h.m6.lt b hb), row_same h.r7 fun b hb => hs b (own_from h.r7 b hb).1 (own_from h.r7 b hb).2, h.nil5, h.nil6, h.nil7, h.lo5, h.lo6, h.ne⟩
theorem changes_one : ∀ (cs : List ChangeA), ∀ u ∈ changesCells cs, u.oneCell' = true := by
  intro cs u hu
  unfold changesCells at hu
  obtain ⟨c, _, hc⟩ := List.mem_flatMap.1 hu
  unfold ChangeA.cells at hc
  simp at hc
  rcases hc with rfl | rfl | rfl <;> rfl
set_option maxRecDepth 100000 in
theorem ret_boxD {fn : Func} {p : Tmp} (h : fn.results = #[.cell p 68]) (tmps : Array Value) (w : World) (b : Nat) (cur : Array Value) (hp : tmps.getD p undef = .pointer (some ⟨b, 0, none⟩))
    (hc : Cells w b 68 cur) (hz : cur.size = 3) : (results fn tmps).run Try.prog w = .ok (.agg cur) w := by
  have L := run_loadVar_row (P := Try.prog) w b 68 68 cur (0, 0) _ hc Try.underlying68 rfl (by rw [hz]; kernel_rfl)
  rw [results_cell1 h, hp]
  show (loadVar _ _).run _ _ = _
  exact L
theorem dup_of {w1 w5 w6 w7 : World} {n : Nat} {D : ADisk} {V : Vals} {v5 v6 v7 : Value} (h1 : n < w1.heap.size) (k5 : w1.heap.size ≤ w5.heap.size)
    (P5 : MapAt w5 D.sure.length v5 D.sure ∧ (v5 = .map none ↔ V.v5 = .map none) ∧ ∀ b, mapBlock v5 = some b → w1.heap.size ≤ b ∧ b < w5.heap.size)
    (P6 : MapAt w6 D.seen.length v6 D.seen ∧ (v6 = .map none ↔ V.v6 = .map none) ∧ (∀ b, mapBlock v6 = some b → w5.heap.size ≤ b ∧ b < w6.heap.size) ∧ Below w5.heap.size w5 w6)
    (P7 : w7.ownsRow w6.heap.size 107 3 v7 D.waits.length (changesCells D.waits) ∧ (v7 = .slice none 0 0 ↔ V.v7 = .slice none 0 0) ∧ Below w6.heap.size w6 w7) (a b c : Value) : Dup n (setBox3 w7 n a b c) D V v5 v6 v7 := by
  obtain ⟨m5, n5, l5⟩ := P5
  obtain ⟨m6, n6, l6, b6⟩ := P6
  obtain ⟨r7, n7, b7⟩ := P7
  have s6 := b6.size
  have H : Dup (n + 1) w7 D V v5 v6 v7 := ⟨(m5.below b6 (Nat.le_refl _)).below b7 (Nat.le_refl _), m6.below b7 (Nat.le_refl _), own_lo r7 (by omega), n5, n6, n7, fun b hb => by have := (l5 b hb).1; omega, fun b hb => by have := (l6 b hb).1; omega, fun b h h' => by have := (l5 b h).2; have := (l6 b h').1; omega⟩
  have H2 := H.same (w' := setBox3 w7 n a b c) (fun d h _ => setBox3_block (by omega) _ _ _)
  exact ⟨H2.m5, H2.m6, own_lo H2.r7 (by omega), H2.nil5, H2.nil6, H2.nil7, fun b hb => by have := H2.lo5 b hb; omega, fun b hb => by have := H2.lo6 b hb; omega, H2.ne⟩
set_option maxRecDepth 100000 in
set_option maxHeartbeats 4000000 in
theorem dcopy {w : World} {T : Nat → Nat} {p : Nat} {D : ADisk} {V : Vals} (h : DiskV w T p D V) (hl : D.waits.length ≤ 1000000) :
    Calls Try.prog 42 #[.pointer (some ⟨p, 5, none⟩)] w fun e w' => ∃ v5 v6 v7, e = .returned (.agg #[v5, v6, v7]) ∧ Dup w.heap.size w' D V v5 v6 v7 ∧ Below w.heap.size w w' := by
  have hpl : p < w.heap.size := h.low p (by rw [h.tp]; decide)
  have hB1 := (Below.refl w.heap.size w).alloc (Nat.le_refl _) (.cells #[.map none, .map none, .slice none 0 0] 68)
  have C1 : Cells (w.alloc (.cells #[.map none, .map none, .slice none 0 0] 68)) w.heap.size 68 #[.map none, .map none, .slice none 0 0] := Cells.new _ _ _
  have hsz : (w.alloc (.cells #[.map none, .map none, .slice none 0 0] 68)).heap.size = w.heap.size + 1 := by simp
  obtain ⟨w1, hw1⟩ : ∃ z, w.alloc (.cells #[.map none, .map none, .slice none 0 0] 68) = z := ⟨_, rfl⟩
  rw [hw1] at hB1 C1 hsz
  have h1 := h.below hB1
  have HV := Lib.hid (fun W' (hb : Below w1.heap.size w1 W') => h1.below hb)
  have HW := Lib.hid (fun W' (hb : Below w.heap.size w W') => h.below hb)
  have HX := Lib.hid (fun W' (hb : Below w1.heap.size w1 W') => C1.below hb C1.lt)
  have HB1 := Lib.hid hB1
  obtain ⟨v5, v6, v7, v8, v9, fvs⟩ := V
  have M5 := Lib.hid (fun W' (hb : Below w1.heap.size w1 W') => maps_clone W' (HV.out W' hb).m5)
  have M6 := Lib.hid (fun W' (hb : Below w1.heap.size w1 W') => maps_clone W' (HV.out W' hb).m6)
  have M7 := Lib.hid (fun W' (hb : Below w1.heap.size w1 W') => cloneC _ _ _ W' (HV.out W' hb).r7 (changes_one D.waits) hl)
  have CD := Lib.hid (fun W' (hb : Below w1.heap.size w1 W') => (show W'.cell? ⟨p, 5, none⟩ = some v5 ∧ W'.cell? ⟨p, 6, none⟩ = some v6 ∧ W'.cell? ⟨p, 7, none⟩ = some v7 from ⟨(HV.out W' hb).cells.cell 5, (HV.out W' hb).cells.cell 6, (HV.out W' hb).cells.cell 7⟩))
  have CW := Lib.hid (fun W' (hb : Below w.heap.size w W') => (show W'.cell? ⟨p, 5, none⟩ = some v5 ∧ W'.cell? ⟨p, 6, none⟩ = some v6 ∧ W'.cell? ⟨p, 7, none⟩ = some v7 from ⟨(HW.out W' hb).cells.cell 5, (HW.out W' hb).cells.cell 6, (HW.out W' hb).cells.cell 7⟩))
  obtain ⟨c5, c6, c7⟩ := CD.out w1 (Below.refl _ _)
  have HS := Lib.hid hsz
  have hne : p ≠ w.heap.size := by omega
  clear h h1 hB1 C1 hl hsz
  go_enter Try.func42, Try.ntmps42
  go_wp2_with fail
  clear hw1
  refine wp_region_held_drew (S := fun W => W.cell? ⟨p, 5, none⟩ = some v5 ∧ W.cell? ⟨p, 6, none⟩ = some v6 ∧ W.cell? ⟨p, 7, none⟩ = some v7) (by kernel_rfl) (CW.out _ HB1.out.drew) (fun hH0 => ?_)
  refine wpAnyH_take (i := 0) (oi := { dst := some 3, op := Op.move (Operand.tmp 0), type := 135, pos := "directory.go:48", after := #[], guard := none }) (v := ?_) rfl (by kernel_rfl) (by kernel_rfl) (by kernel_rfl) (fun _ _ _ h => h) (Or.inl ⟨by rfl, ?_⟩) (by assumption) ?_
  rotate_left
  · intro w hSw; obtain ⟨g5, g6, g7⟩ := hSw; go_simp; (try with_reducible rfl)
  (try simp only [Act.put, List.setIfInBounds_toArray, List.set_cons_zero, List.set_cons_succ])
  refine wpAnyH_take (i := 1) (oi := { dst := some 4, op := Op.nilCheck (Operand.tmp 3), type := 0, pos := "directory.go:48", after := #[{ on := 0, ground := Ground.data }], guard := none }) (v := ?_) rfl (by kernel_rfl) (by kernel_rfl) (by kernel_rfl) (fun _ _ _ h => h) (Or.inl ⟨by rfl, ?_⟩) (by assumption) ?_
  rotate_left
  · intro w hSw; obtain ⟨g5, g6, g7⟩ := hSw; go_simp; (try with_reducible rfl)
  (try simp only [Act.put, List.setIfInBounds_toArray, List.set_cons_zero, List.set_cons_succ])
  refine wpAnyH_take (i := 2) (oi := { dst := some 5, op := Op.fieldAddr 68 (Operand.tmp 4) 0, type := 0, pos := "directory.go:48", after := #[{ on := 1, ground := Ground.data }], guard := none }) (v := ?_) rfl (by kernel_rfl) (by kernel_rfl) (by kernel_rfl) (fun _ _ _ h => h) (Or.inl ⟨by rfl, ?_⟩) (by assumption) ?_
  rotate_left
  · intro w hSw; obtain ⟨g5, g6, g7⟩ := hSw; go_simp; (try with_reducible rfl)
  (try simp only [Act.put, List.setIfInBounds_toArray, List.set_cons_zero, List.set_cons_succ])
  refine wpAnyH_take (i := 3) (oi := { dst := some 6, op := Op.load 65 (Operand.tmp 5), type := 65, pos := "directory.go:48", after := #[{ on := 2, ground := Ground.data }], guard := none }) (v := ?_) rfl (by kernel_rfl) (by kernel_rfl) (by kernel_rfl) (fun _ _ _ h => h) (Or.inl ⟨by rfl, ?_⟩) (by assumption) ?_
  rotate_left
  · intro w hSw; obtain ⟨g5, g6, g7⟩ := hSw; go_simp; (try with_reducible rfl)
  (try simp only [Act.put, List.setIfInBounds_toArray, List.set_cons_zero, List.set_cons_succ])
  refine wpAnyH_take (i := 5) (oi := { dst := some 8, op := Op.move (Operand.tmp 0), type := 135, pos := "directory.go:48", after := #[], guard := none }) (v := ?_) rfl (by kernel_rfl) (by kernel_rfl) (by kernel_rfl) (fun _ _ _ h => h) (Or.inl ⟨by rfl, ?_⟩) (by assumption) ?_
  rotate_left
  · intro w hSw; obtain ⟨g5, g6, g7⟩ := hSw; go_simp; (try with_reducible rfl)
  (try simp only [Act.put, List.setIfInBounds_toArray, List.set_cons_zero, List.set_cons_succ])
  refine wpAnyH_take (i := 6) (oi := { dst := some 9, op := Op.nilCheck (Operand.tmp 8), type := 0, pos := "directory.go:48", after := #[{ on := 5, ground := Ground.data }], guard := none }) (v := ?_) rfl (by kernel_rfl) (by kernel_rfl) (by kernel_rfl) (fun _ _ _ h => h) (Or.inl ⟨by rfl, ?_⟩) (by assumption) ?_
  rotate_left
  · intro w hSw; obtain ⟨g5, g6, g7⟩ := hSw; go_simp; (try with_reducible rfl)
  (try simp only [Act.put, List.setIfInBounds_toArray, List.set_cons_zero, List.set_cons_succ])
  refine wpAnyH_take (i := 7) (oi := { dst := some 10, op := Op.fieldAddr 68 (Operand.tmp 9) 1, type := 0, pos := "directory.go:48", after := #[{ on := 6, ground := Ground.data }], guard := none }) (v := ?_) rfl (by kernel_rfl) (by kernel_rfl) (by kernel_rfl) (fun _ _ _ h => h) (Or.inl ⟨by rfl, ?_⟩) (by assumption) ?_
  rotate_left
  · intro w hSw; obtain ⟨g5, g6, g7⟩ := hSw; go_simp; (try with_reducible rfl)
  (try simp only [Act.put, List.setIfInBounds_toArray, List.set_cons_zero, List.set_cons_succ])
  refine wpAnyH_take (i := 8) (oi := { dst := some 11, op := Op.load 65 (Operand.tmp 10), type := 65, pos := "directory.go:48", after := #[{ on := 7, ground := Ground.data }], guard := none }) (v := ?_) rfl (by kernel_rfl) (by kernel_rfl) (by kernel_rfl) (fun _ _ _ h => h) (Or.inl ⟨by rfl, ?_⟩) (by assumption) ?_
  rotate_left
  · intro w hSw; obtain ⟨g5, g6, g7⟩ := hSw; go_simp; (try with_reducible rfl)
  (try simp only [Act.put, List.setIfInBounds_toArray, List.set_cons_zero, List.set_cons_succ])
  refine wpAnyH_take (i := 10) (oi := { dst := some 13, op := Op.move (Operand.tmp 0), type := 135, pos := "directory.go:48", after := #[], guard := none }) (v := ?_) rfl (by kernel_rfl) (by kernel_rfl) (by kernel_rfl) (fun _ _ _ h => h) (Or.inl ⟨by rfl, ?_⟩) (by assumption) ?_
  rotate_left
  · intro w hSw; obtain ⟨g5, g6, g7⟩ := hSw; go_simp; (try with_reducible rfl)
  (try simp only [Act.put, List.setIfInBounds_toArray, List.set_cons_zero, List.set_cons_succ])
  refine wpAnyH_take (i := 11) (oi := { dst := some 14, op := Op.nilCheck (Operand.tmp 13), type := 0, pos := "directory.go:48", after := #[{ on := 10, ground := Ground.data }], guard := none }) (v := ?_) rfl (by kernel_rfl) (by kernel_rfl) (by kernel_rfl) (fun _ _ _ h => h) (Or.inl ⟨by rfl, ?_⟩) (by assumption) ?_
  rotate_left
  · intro w hSw; obtain ⟨g5, g6, g7⟩ := hSw; go_simp; (try with_reducible rfl)
  (try simp only [Act.put, List.setIfInBounds_toArray, List.set_cons_zero, List.set_cons_succ])
  refine wpAnyH_take (i := 12) (oi := { dst := some 15, op := Op.fieldAddr 68 (Operand.tmp 14) 2, type := 0, pos := "directory.go:48", after := #[{ on := 11, ground := Ground.data }], guard := none }) (v := ?_) rfl (by kernel_rfl) (by kernel_rfl) (by kernel_rfl) (fun _ _ _ h => h) (Or.inl ⟨by rfl, ?_⟩) (by assumption) ?_
  rotate_left
  · intro w hSw; obtain ⟨g5, g6, g7⟩ := hSw; go_simp; (try with_reducible rfl)
  (try simp only [Act.put, List.setIfInBounds_toArray, List.set_cons_zero, List.set_cons_succ])
  refine wpAnyH_take (i := 13) (oi := { dst := some 16, op := Op.load 66 (Operand.tmp 15), type := 66, pos := "directory.go:48", after := #[{ on := 12, ground := Ground.data }], guard := none }) (v := ?_) rfl (by kernel_rfl) (by kernel_rfl) (by kernel_rfl) (fun _ _ _ h => h) (Or.inl ⟨by rfl, ?_⟩) (by assumption) ?_
  rotate_left
  · intro w hSw; obtain ⟨g5, g6, g7⟩ := hSw; go_simp; (try with_reducible rfl)
  (try simp only [Act.put, List.setIfInBounds_toArray, List.set_cons_zero, List.set_cons_succ])
  refine wpAnyH_ready (rs := [4]) (by kernel_rfl) (by simp) ?_
  refine AllReadyH.cons (o := { dst := some 7, op := Op.call { callee := Callee.value (Operand.func 67), args := #[Operand.tmp 6], argTypes := #[65] }, type := 65, pos := "directory.go:49", after := #[{ on := 3, ground := Ground.data }], guard := none }) rfl (fun K hK => ?_) AllReadyH.nil
  go_simp
  go_at_call 67
  refine (M5.out _ (Below.refl _ _).drew).mono ?_
  rintro e w5 ⟨x5, rfl, m5, nil5, lo5, ⟨o5, rfl⟩, hb5⟩
  have k5 := Lib.hid ((Below.refl w1.heap.size w1).drew.trans hb5)
  have P5 := Lib.hid (And.intro m5 (And.intro nil5 lo5))
  clear m5 nil5 lo5 hb5
  refine hK.out _ _ (CW.out _ (HB1.out.trans (k5.out.mono HB1.out.size))) (fun hH1 => ?_)
  clear hK K hH0
  (try simp only [Act.put, List.setIfInBounds_toArray, List.set_cons_zero, List.set_cons_succ])
  refine wpAnyH_ready (rs := [9]) (by kernel_rfl) (by simp) ?_
  refine AllReadyH.cons (o := { dst := some 12, op := Op.call { callee := Callee.value (Operand.func 67), args := #[Operand.tmp 11], argTypes := #[65] }, type := 65, pos := "directory.go:50", after := #[{ on := 8, ground := Ground.data }, { on := 4, ground := Ground.chain }], guard := none }) rfl (fun K hK => ?_) AllReadyH.nil
  go_simp
  go_at_call 67
  refine (M6.out _ k5.out).mono ?_
  rintro e w6 ⟨x6, rfl, m6, nil6, lo6, ⟨o6, rfl⟩, hb6⟩
  have k6 := Lib.hid (k5.out.trans (hb6.mono k5.out.size))
  have P6 := Lib.hid (And.intro m6 (And.intro nil6 (And.intro lo6 hb6)))
  clear m6 nil6 lo6 hb6
  refine hK.out _ _ (CW.out _ (HB1.out.trans (k6.out.mono HB1.out.size))) (fun hH2 => ?_)
  clear hK K hH1
  (try simp only [Act.put, List.setIfInBounds_toArray, List.set_cons_zero, List.set_cons_succ])
  refine wpAnyH_ready (rs := [14]) (by kernel_rfl) (by simp) ?_
  refine AllReadyH.cons (o := { dst := some 17, op := Op.call { callee := Callee.value (Operand.func 68), args := #[Operand.tmp 16], argTypes := #[66] }, type := 66, pos := "directory.go:51", after := #[{ on := 13, ground := Ground.data }, { on := 9, ground := Ground.chain }], guard := none }) rfl (fun K hK => ?_) AllReadyH.nil
  go_simp
  go_at_call 68
  refine (M7.out _ k6.out).mono ?_
  rintro e w7 ⟨x7, rfl, r7, nil7, ⟨ao7, cap7, rfl⟩, hb7⟩
  have k7 := Lib.hid (k6.out.trans (hb7.mono k6.out.size))
  have P7 := Lib.hid (And.intro r7 (And.intro nil7 hb7))
  clear r7 nil7 hb7
  refine hK.out _ _ (CW.out _ (HB1.out.trans (k7.out.mono HB1.out.size))) (fun hH3 => ?_)
  clear hK K hH2
  (try simp only [Act.put, List.setIfInBounds_toArray, List.set_cons_zero, List.set_cons_succ])
  refine wpAnyH_take (i := 15) (oi := { dst := some 18, op := Op.build 68 #[(0, Operand.tmp 7), (1, Operand.tmp 12), (2, Operand.tmp 17)], type := 68, pos := "directory.go:48", after := #[{ on := 4, ground := Ground.data }, { on := 9, ground := Ground.data }, { on := 14, ground := Ground.data }], guard := none }) (v := ?_) rfl (by kernel_rfl) (by kernel_rfl) (by kernel_rfl) (fun _ _ _ h => h) (Or.inl ⟨by rfl, ?_⟩) (by assumption) ?_
  rotate_left
  · intro w hSw; obtain ⟨g5, g6, g7⟩ := hSw; go_simp; (try with_reducible rfl)
  (try simp only [Act.put, List.setIfInBounds_toArray, List.set_cons_zero, List.set_cons_succ])
  refine wpAnyH_ready (rs := [16]) (by kernel_rfl) (by simp) ?_
  refine AllReadyH.cons (o := { dst := none, op := Op.store 68 (Operand.tmp 2) (Operand.tmp 18), type := 0, pos := "directory.go:48", after := #[{ on := 15, ground := Ground.data }, { on := 14, ground := Ground.chain }, { on := 0, ground := Ground.phase }, { on := 1, ground := Ground.phase }, { on := 2, ground := Ground.phase }, { on := 3, ground := Ground.phase }, { on := 4, ground := Ground.phase }, { on := 5, ground := Ground.phase }, { on := 6, ground := Ground.phase }, { on := 7, ground := Ground.phase }, { on := 8, ground := Ground.phase }, { on := 9, ground := Ground.phase }, { on := 10, ground := Ground.phase }, { on := 11, ground := Ground.phase }, { on := 12, ground := Ground.phase }, { on := 13, ground := Ground.phase }, { on := 14, ground := Ground.phase }, { on := 15, ground := Ground.phase }], guard := none }) rfl (fun K hK => ?_) AllReadyH.nil
  have B7 := HX.out w7 k7.out
  obtain ⟨y0, y1, y2⟩ := cells3d B7
  have yl := B7.lt
  have f0 := B7.frozen 0; have f1 := B7.frozen 1; have f2 := B7.frozen 2
  have Z7 := Lib.hid (setBox3_to B7 (.map o5) (.map o6) (.slice ao7 D.waits.length cap7))
  have KZ := Lib.hid (setBox3_below (B := w.heap.size) (b := w.heap.size) (HB1.out.trans (k7.out.mono HB1.out.size)) (Nat.le_refl _) (.map o5) (.map o6) (.slice ao7 D.waits.length cap7))
  clear B7 hH3
  go_simp
  refine hK.out _ _ (CW.out _ KZ.out) (fun hH4 => ?_)
  clear hK K hH4 y0 y1 y2 yl f0 f1 f2
  (try simp only [Act.put, List.setIfInBounds_toArray, List.set_cons_zero, List.set_cons_succ])
  refine wpAnyH_done (by kernel_rfl) ?_ _
  (try simp only [Act.put, List.setIfInBounds_toArray, List.set_cons_zero, List.set_cons_succ])
  go_wp2
  refine bodyPost_ret (ret_boxD rfl _ _ w.heap.size _ rfl Z7.out rfl) rfl ?_
  refine ⟨_, _, _, rfl, ?_, KZ.out⟩
  exact dup_of (by have := HS.out; omega) k5.out.size P5.out P6.out P7.out _ _ _
end Go.Proofs.Ytembondddgfpcaa

namespace Go.Proofs.Ytembondddgfpcaa
open Go.RowKit Go.Maps

theorem files_set1 : ∀ (fs : List FileA) (vs : List Value) (i : Nat) (v' : Value), i < fs.length → i < vs.length → filesCells fs (vs.set i v') = (filesCells fs vs).set (i * 3 + 1) v'
  | [], _, i, _, h, _ => by simp at h
  | f :: fs, [], i, _, _, h' => by simp at h'
  | f :: fs, v :: vs, 0, v', _, _ => rfl
  | f :: fs, v :: vs, i + 1, v', h, h' => by
    have ih := files_set1 fs vs i v' (by simpa using h) (by simpa using h')
    show fileCells f v ++ filesCells fs (vs.set i v') = (fileCells f v ++ filesCells fs vs).set _ _
    rw [ih, List.set_append_right _ _ (by simp [fileCells]; omega)]
    congr 2
    simp [fileCells]; omega
theorem fresh_same {W : World} {lo n size : Nat} {e : TypeId} {v : Value} {xs : List Value} (hr : W.ownsRow lo e size v n xs) : sameOr lo W.heap.size none v.ownBlock := by
  cases h : v.ownBlock with
  | none => exact .inl rfl
  | some b => exact .inr ⟨b, rfl, own_from hr b h⟩
/-- The copy when its first k files have rows of their own. -/
structure MidV (n k : Nat) (w : World) (T : Nat → Nat) (p : Nat) (D : ADisk) (V : Vals) : Prop where
  cells : Cells w p 71 (diskCells D.units D.armed D.left D.gone D.room V.v5 V.v6 V.v7 V.v8 V.v9)
  tp : T p = 1
  m5 : MapAt w D.sure.length V.v5 D.sure
  t5 : tagged T (mapBlock V.v5) 2
  m6 : MapAt w D.seen.length V.v6 D.seen
  t6 : tagged T (mapBlock V.v6) 3
  nil56 : V.v5 = .map none ↔ V.v6 = .map none
  nilw : V.v5 = .map none → D.waits = [] ∧ V.v7 = .slice none 0 0
  r7 : w.ownsRow 0 107 3 V.v7 D.waits.length (changesCells D.waits)
  t7 : tagged T V.v7.ownBlock 4
  r8 : w.ownsRow 0 96 3 V.v8 D.files.length (filesCells D.files V.fvs)
  t8 : tagged T V.v8.ownBlock 5
  nf : V.fvs.length = D.files.length
  rf : ∀ i (h : i < D.files.length) (h' : i < V.fvs.length), i < k → w.ownsRow 0 89 5 V.fvs[i] D.files[i].waits.length (actsCells D.files[i].waits) ∧ tagged T V.fvs[i].ownBlock (7 + i)
  low : ∀ b, T b ≠ 0 → b < w.heap.size
  from_ : ∀ b, T b ≠ 0 → n ≤ b
theorem MidV.fcopied {n k : Nat} {w W : World} {T : Nat → Nat} {p : Nat} {D : ADisk} {V : Vals} (h : MidV n k w T p D V) (hk : k < D.files.length) (hn : n ≤ w.heap.size) (hb : Below w.heap.size w W) {g cap : Nat} (e8 : V.v8 = .slice (some ⟨g, 0, none⟩) D.files.length cap) {v' : Value}
    (hr : W.ownsRow w.heap.size 89 5 v' D.files[k].waits.length (actsCells D.files[k].waits)) : ∃ T', MidV n (k + 1) (W.setCell ⟨g, k * 3 + 1, none⟩ v') T' p D { V with fvs := V.fvs.set k v' } := by
  have tg : T g = 5 := h.t8 g (by rw [e8]; rfl)
  have hg := h.low g (by rw [tg]; decide)
  have hz : (W.setCell ⟨g, k * 3 + 1, none⟩ v').heap.size = W.heap.size := by simp [World.setCell]
  have hs : ∀ b, T b ≠ 0 → T b ≠ 5 → (W.setCell ⟨g, k * 3 + 1, none⟩ v').heap[b]? = w.heap[b]? := fun b h0 h5 =>
    (Below.heap_setCell W ⟨g, k * 3 + 1, none⟩ v' b (fun e => h5 (by rw [show b = g from e]; exact tg))).trans (hb.block b (h.low b h0))
  have s : ∀ {o : Option Nat} {t : Nat}, tagged T o t → t ≠ 0 → t ≠ 5 → ∀ b, o = some b → (W.setCell ⟨g, k * 3 + 1, none⟩ v').heap[b]? = w.heap[b]? := fun ht h0 h5 b hb => hs b (by rw [ht b hb]; exact h0) (by rw [ht b hb]; exact h5)
  have hl : ∀ {o : Option Nat} {t : Nat}, tagged T o t → t ≠ 0 → ∀ b, o = some b → b < w.heap.size := fun ht hne b hb => h.low b (by rw [ht b hb]; exact hne)
  have ks := fresh_same hr
  have nt : tagged T (none : Option Nat) (7 + k) := fun b hb => by cases hb
  have hgv : v'.ownBlock ≠ some g := fun e => by have := (own_from hr g e).1; omega
  have hnf := h.nf
  obtain ⟨g', cap', cur, e, hc, h1, h2, h3, h4⟩ := row_cells h.r8 (by omega)
  rw [e8] at e
  injection e with ea _ ec
  injection ea with ea
  injection ea with ea
  subst ea
  subst ec
  have hc' := (hc.below hb hg).set (k * 3 + 1) v'
  refine ⟨retag T w.heap.size v'.ownBlock (7 + k), ?_, by rw [retag_old h.cells.lt]; exact h.tp, h.m5.same (s h.t5 (by decide) (by decide)), retag_other h.t5 (hl h.t5 (by decide)), h.m6.same (s h.t6 (by decide) (by decide)), retag_other h.t6 (hl h.t6 (by decide)), h.nil56, h.nilw,
    row_same h.r7 (s h.t7 (by decide) (by decide)), retag_other h.t7 (hl h.t7 (by decide)), ?_, retag_other h.t8 (hl h.t8 (by decide)), by simp [hnf], fun j h1 h2 hj => ?_, fun b hbz => ?_, fun b hbz => ?_⟩
  · exact (hs p (by rw [h.tp]; decide) (by rw [h.tp]; decide)).trans h.cells
  · show (W.setCell ⟨g, k * 3 + 1, none⟩ v').ownsRow 0 _ 3 V.v8 D.files.length (filesCells D.files (V.fvs.set k v'))
    rw [e8]
    refine row_of_cells hc' h1 h2 (by simp [h3]) ?_ ?_
    · rw [files_set1 _ _ _ _ hk (by omega), ← h4]
      simp only [Array.toList_setIfInBounds, List.take_set]
    · rw [filesCells_length _ _ (by simp [hnf])]
  · simp only [List.length_set] at h2
    by_cases hij : k = j
    · subst hij
      simp only [List.getElem_set_self]
      exact ⟨row_cell (own_lo hr (Nat.zero_le _)) hgv _, retag_same ks nt⟩
    · simp only [List.getElem_set_ne hij]
      have := h.rf j h1 h2 (by omega)
      exact ⟨row_same this.1 (s this.2 (by omega) (by omega)), retag_other this.2 (hl this.2 (by omega))⟩
  · rw [hz]
    exact retag_zero h.low hb.size ks (fun k hk => by cases hk) b hbz
  · unfold retag at hbz
    split at hbz
    · rename_i q; omega
    · exact h.from_ b hbz
theorem MidV.done {n : Nat} {w W : World} {T : Nat → Nat} {p : Nat} {D : ADisk} {V : Vals} (h : MidV n D.files.length w T p D V) (hn : n ≤ w.heap.size) (hb : Below w.heap.size w W) {v' : Value}
    (hr : W.ownsRow w.heap.size 89 5 v' D.acts.length (actsCells D.acts)) : ∃ T', DiskAt (W.setCell ⟨p, 9, none⟩ v') T' p D ∧ ∀ b, T' b ≠ 0 → n ≤ b := by
  have hp := h.cells.lt
  have hz : (W.setCell ⟨p, 9, none⟩ v').heap.size = W.heap.size := by simp [World.setCell]
  have hs : ∀ b, T b ≠ 0 → T b ≠ 1 → (W.setCell ⟨p, 9, none⟩ v').heap[b]? = w.heap[b]? := fun b h0 h5 =>
    (Below.heap_setCell W ⟨p, 9, none⟩ v' b (fun e => h5 (by rw [show b = p from e]; exact h.tp))).trans (hb.block b (h.low b h0))
  have s : ∀ {o : Option Nat} {t : Nat}, tagged T o t → t ≠ 0 → t ≠ 1 → ∀ b, o = some b → (W.setCell ⟨p, 9, none⟩ v').heap[b]? = w.heap[b]? := fun ht h0 h5 b hb => hs b (by rw [ht b hb]; exact h0) (by rw [ht b hb]; exact h5)
  have hl : ∀ {o : Option Nat} {t : Nat}, tagged T o t → t ≠ 0 → ∀ b, o = some b → b < w.heap.size := fun ht hne b hb => h.low b (by rw [ht b hb]; exact hne)
  have ks := fresh_same hr
  have nt : tagged T (none : Option Nat) 6 := fun b hb => by cases hb
  have hgv : v'.ownBlock ≠ some p := fun e => by have := (own_from hr p e).1; omega
  refine ⟨retag T w.heap.size v'.ownBlock 6, ⟨{ V with v9 := v' }, ?_, by rw [retag_old hp]; exact h.tp, h.m5.same (s h.t5 (by decide) (by decide)), retag_other h.t5 (hl h.t5 (by decide)), h.m6.same (s h.t6 (by decide) (by decide)), retag_other h.t6 (hl h.t6 (by decide)), h.nil56, h.nilw,
    row_same h.r7 (s h.t7 (by decide) (by decide)), retag_other h.t7 (hl h.t7 (by decide)), row_same h.r8 (s h.t8 (by decide) (by decide)), retag_other h.t8 (hl h.t8 (by decide)), row_cell (own_lo hr (Nat.zero_le _)) hgv _, retag_same ks nt, h.nf, fun j h1 h2 => ?_, fun b hbz => ?_⟩, fun b hbz => ?_⟩
  · have hc' := (h.cells.below hb hp).set 9 v'
    simpa [diskCells] using hc'
  · have := h.rf j h1 h2 h1
    exact ⟨row_same this.1 (s this.2 (by omega) (by omega)), retag_other this.2 (hl this.2 (by omega))⟩
  · rw [hz]
    exact retag_zero h.low hb.size ks (fun k hk => by cases hk) b hbz
  · unfold retag at hbz
    split at hbz
    · rename_i q; omega
    · exact h.from_ b hbz
/-- The tags when no file is copied yet. -/
def tag0 (p : Nat) (v5 v6 v7 v8 : Value) : Nat → Nat := fun b => if b = p then 1 else if mapBlock v5 = some b then 2 else if mapBlock v6 = some b then 3 else if v7.ownBlock = some b then 4 else if v8.ownBlock = some b then 5 else 0
theorem MidV.start {n : Nat} {w w3 : World} {p : Nat} {D : ADisk} {V : Vals} {v5 v6 v7 v8 : Value} (hp : n ≤ p) (hd : Dup (p + 1) w3 D V v5 v6 v7) (hd' : Dup (p + 1) w D V v5 v6 v7) (h8 : p < w3.heap.size) (h56 : V.v5 = .map none ↔ V.v6 = .map none) (hw : V.v5 = .map none → D.waits = [] ∧ V.v7 = .slice none 0 0)
    (hr : w.ownsRow w3.heap.size 96 3 v8 D.files.length (filesCells D.files V.fvs)) (hnf : V.fvs.length = D.files.length)
    (hc : Cells w p 71 (diskCells D.units D.armed D.left D.gone D.room v5 v6 v7 v8 V.v9)) : MidV n 0 w (tag0 p v5 v6 v7 v8) p D ⟨v5, v6, v7, v8, V.v9, V.fvs⟩ := by
  have f8 := own_from hr
  have f7 := own_from hd.r7
  have ty5 : ∀ b, mapBlock v5 = some b → v7.ownBlock ≠ some b := fun b h h' => by
    obtain ⟨_, _, q⟩ := map_obj hd.m5 h
    obtain ⟨_, q'⟩ := row_obj hd.r7 h'
    rw [q] at q'; injection q' with q'; cases q'
  have ty6 : ∀ b, mapBlock v6 = some b → v7.ownBlock ≠ some b := fun b h h' => by
    obtain ⟨_, _, q⟩ := map_obj hd.m6 h
    obtain ⟨_, q'⟩ := row_obj hd.r7 h'
    rw [q] at q'; injection q' with q'; cases q'
  have n5 : ∀ b, mapBlock v5 = some b → b ≠ p := fun b h => by have := hd.lo5 b h; omega
  have n6 : ∀ b, mapBlock v6 = some b → b ≠ p := fun b h => by have := hd.lo6 b h; omega
  have n7 : ∀ b, v7.ownBlock = some b → b ≠ p := fun b h => by have := (f7 b h).1; omega
  have n8 : ∀ b, v8.ownBlock = some b → b ≠ p := fun b h => by have := (f8 b h).1; omega
  refine ⟨hc, by unfold tag0; rw [if_pos rfl], hd'.m5, fun b hb => ?_, hd'.m6, fun b hb => ?_, hd'.nil5.trans (h56.trans hd'.nil6.symm), fun e => ⟨(hw (hd'.nil5.1 e)).1, hd'.nil7.2 (hw (hd'.nil5.1 e)).2⟩, own_lo hd'.r7 (Nat.zero_le _), fun b hb => ?_, own_lo hr (Nat.zero_le _), fun b hb => ?_, hnf, fun i _ _ hi => absurd hi (Nat.not_lt_zero _), fun b hb => ?_, fun b hb => ?_⟩
  · unfold tag0; rw [if_neg (n5 b hb), if_pos hb]
  · unfold tag0; rw [if_neg (n6 b hb), if_neg (fun h => hd.ne b h hb), if_pos hb]
  · unfold tag0; rw [if_neg (n7 b hb), if_neg (fun h => ty5 b h hb), if_neg (fun h => ty6 b h hb), if_pos hb]
  · have k8 := (f8 b hb).1
    unfold tag0; rw [if_neg (n8 b hb), if_neg (fun h => by have := hd.m5.lt b h; omega), if_neg (fun h => by have := hd.m6.lt b h; omega), if_neg (fun h => by have := (f7 b h).2; omega), if_pos hb]
  · unfold tag0 at hb
    split at hb
    · rename_i q; rw [q]; exact hc.lt
    split at hb
    · rename_i q; exact hd'.m5.lt b q
    split at hb
    · rename_i q; exact hd'.m6.lt b q
    split at hb
    · rename_i q; exact (own_from hd'.r7 b q).2
    split at hb
    · rename_i q; exact (f8 b q).2
    · exact absurd rfl hb
  · unfold tag0 at hb
    split at hb
    · omega
    split at hb
    · rename_i q; have := hd'.lo5 b q; omega
    split at hb
    · rename_i q; have := hd'.lo6 b q; omega
    split at hb
    · rename_i q; have := (own_from hd'.r7 b q).1; omega
    split at hb
    · rename_i q; have := (f8 b q).1; omega
    · exact absurd rfl hb
end Go.Proofs.Ytembondddgfpcaa

namespace Go.Proofs.Ytembondddgfpcaa
open Go.RowKit Go.Maps
attribute [local go_sem] World.cell?_alloc_some
attribute [local go_sem ↓] Go.wp_at_zero Go.wp_at_succ

theorem map_shape {w : World} {n : Nat} {v : Value} {l : Dir} (h : MapAt w n v l) : ∃ o, v = .map o := by
  rcases h with ⟨e, _⟩ | ⟨b, e, _⟩
  · exact ⟨_, e⟩
  · exact ⟨_, e⟩
theorem files_one : ∀ (fs : List FileA) (vs : List Value), (∀ v ∈ vs, v.oneCell' = true) → ∀ u ∈ filesCells fs vs, u.oneCell' = true
  | [], _, _, u, h => by cases h
  | _ :: _, [], _, u, h => by cases h
  | f :: fs, v :: vs, hv, u, h => by
    rcases List.mem_append.1 h with h | h
    · unfold fileCells at h
      simp at h
      rcases h with rfl | rfl | rfl
      · rfl
      · exact hv _ (by simp)
      · rfl
    · exact files_one fs vs (fun v h => hv v (by simp [h])) u h
theorem DiskV.ones {w : World} {T : Nat → Nat} {p : Nat} {D : ADisk} {V : Vals} (h : DiskV w T p D V) : ∀ v ∈ V.fvs, v.oneCell' = true := by
  intro v hv
  obtain ⟨i, hi, rfl⟩ := List.getElem_of_mem hv
  rcases (h.rf i (by rw [← h.nf]; exact hi) hi).1.2 with ⟨e, _⟩ | ⟨g, cap, cur, e, _⟩ <;> rw [e] <;> rfl
set_option maxRecDepth 100000 in
set_option maxHeartbeats 4000000 in
theorem copy_any {w : World} {T : Nat → Nat} {p : Nat} {D : ADisk} {V : Vals} (h : DiskV w T p D V) (hw : D.waits.length ≤ 1000000) (hf : D.files.length ≤ 1000000) (hfw : ∀ f ∈ D.files, f.waits.length ≤ 1000000) (ha : D.acts.length ≤ 1000000) :
    Calls Try.prog 11 #[.pointer (some ⟨p, 0, none⟩)] w fun e w' => ∃ q T2, e = .returned (.pointer (some ⟨q, 0, none⟩)) ∧ DiskAt w' T2 q D ∧ (∀ b, T2 b ≠ 0 → w.heap.size ≤ b) ∧ Below w.heap.size w w' := by
  have hpl : p < w.heap.size := h.low p (by rw [h.tp]; decide)
  obtain ⟨a0, a1, a2, a3, a4, a5, a6, a7, a8, a9⟩ : w.cell? ⟨p, 0, none⟩ = some (.int .i64 D.units) ∧ w.cell? ⟨p, 1, none⟩ = some (.bool D.armed) ∧ w.cell? ⟨p, 2, none⟩ = some (.int .i64 D.left) ∧ w.cell? ⟨p, 3, none⟩ = some (.bool D.gone) ∧ w.cell? ⟨p, 4, none⟩ = some (.int .i64 D.room) ∧ w.cell? ⟨p, 5, none⟩ = some V.v5 ∧ w.cell? ⟨p, 6, none⟩ = some V.v6 ∧ w.cell? ⟨p, 7, none⟩ = some V.v7 ∧ w.cell? ⟨p, 8, none⟩ = some V.v8 ∧ w.cell? ⟨p, 9, none⟩ = some V.v9 :=
    ⟨h.cells.cell 0, h.cells.cell 1, h.cells.cell 2, h.cells.cell 3, h.cells.cell 4, h.cells.cell 5, h.cells.cell 6, h.cells.cell 7, h.cells.cell 8, h.cells.cell 9⟩
  obtain ⟨v5, v6, v7, v8, v9, fvs⟩ := V
  obtain ⟨o5, e5⟩ := map_shape h.m5
  obtain ⟨o6, e6⟩ := map_shape h.m6
  obtain ⟨s7, p7, e7, g7⟩ := row_shape h.r7
  obtain ⟨s8, p8, e8, g8⟩ := row_shape h.r8
  obtain ⟨s9, p9, e9, g9⟩ := row_shape h.r9
  dsimp only at *
  subst e5 e6 e7 e8 e9
  have H := Lib.hid h
  clear h
  go_enter Try.func11, Try.ntmps11
  go_wp2_with fail
  obtain ⟨w1, hw1⟩ : ∃ z, w.alloc (.cells #[.int .i64 D.units, .bool D.armed, .int .i64 D.left, .bool D.gone, .int .i64 D.room, .map o5, .map o6, .slice s7 D.waits.length p7, .slice s8 D.files.length p8, .slice s9 D.acts.length p9] 71) = z := ⟨_, rfl⟩
  rw [hw1]
  have hb1 : Below w.heap.size w w1 := by rw [← hw1]; exact (Below.refl _ _).alloc (Nat.le_refl _) _
  have C1 : Cells w1 w.heap.size 71 #[.int .i64 D.units, .bool D.armed, .int .i64 D.left, .bool D.gone, .int .i64 D.room, .map o5, .map o6, .slice s7 D.waits.length p7, .slice s8 D.files.length p8, .slice s9 D.acts.length p9] := by rw [← hw1]; exact Cells.new _ _ _
  have hs1 : w1.heap.size = w.heap.size + 1 := by rw [← hw1]; simp
  clear hw1 a0 a1 a2 a3 a4 a5 a6 a7 a8 a9
  refine (dcopy (H.out.below hb1) hw).mono ?_
  rintro e w2 ⟨v5, v6, v7, rfl, hd, hb2⟩
  obtain ⟨x5, rfl⟩ := map_shape hd.m5
  obtain ⟨x6, rfl⟩ := map_shape hd.m6
  obtain ⟨t7, y7, rfl, _⟩ := row_shape (own_lo hd.r7 (Nat.zero_le _))
  have hbw2 : Below w.heap.size w w2 := hb1.trans (hb2.mono hb1.size)
  have C2 := C1.below hb2 (by omega)
  have hz3 : (((w2.setCell ⟨w.heap.size, 5, none⟩ (.map x5)).setCell ⟨w.heap.size, 6, none⟩ (.map x6)).setCell ⟨w.heap.size, 7, none⟩ (.slice t7 D.waits.length y7)).heap.size = w2.heap.size := by simp [World.setCell]
  have C3 : Cells (((w2.setCell ⟨w.heap.size, 5, none⟩ (.map x5)).setCell ⟨w.heap.size, 6, none⟩ (.map x6)).setCell ⟨w.heap.size, 7, none⟩ (.slice t7 D.waits.length y7)) w.heap.size 71 #[.int .i64 D.units, .bool D.armed, .int .i64 D.left, .bool D.gone, .int .i64 D.room, .map x5, .map x6, .slice t7 D.waits.length y7, .slice s8 D.files.length p8, .slice s9 D.acts.length p9] := by
    have := ((C2.set 5 (.map x5)).set 6 (.map x6)).set 7 (.slice t7 D.waits.length y7)
    simpa using this
  have hb3 : Below w.heap.size w (((w2.setCell ⟨w.heap.size, 5, none⟩ (.map x5)).setCell ⟨w.heap.size, 6, none⟩ (.map x6)).setCell ⟨w.heap.size, 7, none⟩ (.slice t7 D.waits.length y7)) := ((hbw2.setCell (Nat.le_refl _) _).setCell (Nat.le_refl _) _).setCell (Nat.le_refl _) _
  rw [hs1] at hd
  have hd3 := hd.same (w' := (((w2.setCell ⟨w.heap.size, 5, none⟩ (.map x5)).setCell ⟨w.heap.size, 6, none⟩ (.map x6)).setCell ⟨w.heap.size, 7, none⟩ (.slice t7 D.waits.length y7))) (fun b h1 h2 => by
    rw [Below.heap_setCell _ _ _ _ (show b ≠ w.heap.size by omega), Below.heap_setCell _ _ _ _ (show b ≠ w.heap.size by omega), Below.heap_setCell _ _ _ _ (show b ≠ w.heap.size by omega)])
  obtain ⟨w3, hw3⟩ : ∃ z, (((w2.setCell ⟨w.heap.size, 5, none⟩ (.map x5)).setCell ⟨w.heap.size, 6, none⟩ (.map x6)).setCell ⟨w.heap.size, 7, none⟩ (.slice t7 D.waits.length y7)) = z := ⟨_, rfl⟩
  rw [hw3] at C3 hb3 hd3 hz3
  have HW3 := Lib.hid hw3
  have h2l := C2.lt
  have y5 := C2.cell 5; have y6 := C2.cell 6; have y7' := C2.cell 7
  have f5 := C2.frozen 5; have f6 := C2.frozen 6; have f7 := C2.frozen 7
  have hne : p ≠ w.heap.size := by omega
  have b8 : w2.cell? ⟨p, 8, none⟩ = some (.slice s8 D.files.length p8) := (H.out.below hbw2).cells.cell 8
  have C3 := Lib.hid C3
  have HB3 := Lib.hid hb3
  have D3 := Lib.hid hd3
  have Z3 := Lib.hid hz3
  clear hb1 C1 hs1 hd hb2 hbw2 C2 hz3 hb3 hd3 hw3
  go_wp2_with fail
  rw [HW3.out]
  clear HW3 y5 y6 y7' f5 f6 f7 b8
  refine (cloneF _ _ _ w3 (H.out.below HB3.out).r8 (files_one _ _ H.out.ones) hf).mono ?_
  rintro e w4 ⟨v8', rfl, hr4, _, ⟨t8, c8, rfl⟩, hb4⟩
  have C4 := C3.out.below hb4 C3.out.lt
  have h3l : w.heap.size < w3.heap.size := C3.out.lt
  have hq8 : (Value.slice t8 D.files.length c8).ownBlock ≠ some w.heap.size := fun e => by have := (own_from hr4 _ e).1; omega
  have hr5 := row_cell hr4 (p := ⟨w.heap.size, 8, none⟩) hq8 (.slice t8 D.files.length c8)
  have C5 := C4.set 8 (.slice t8 D.files.length c8)
  have hb5 : Below w.heap.size w (w4.setCell ⟨w.heap.size, 8, none⟩ (.slice t8 D.files.length c8)) := (HB3.out.trans (hb4.mono HB3.out.size)).setCell (Nat.le_refl _) _
  have hd5 := D3.out.same (w' := w4.setCell ⟨w.heap.size, 8, none⟩ (.slice t8 D.files.length c8)) (fun b h1 h2 => by
    rw [Below.heap_setCell _ _ _ _ (show b ≠ w.heap.size by omega)]; exact hb4.block b h2)
  have M5 : MidV w.heap.size 0 (w4.setCell ⟨w.heap.size, 8, none⟩ (.slice t8 D.files.length c8)) _ w.heap.size D ⟨.map x5, .map x6, .slice t7 D.waits.length y7, .slice t8 D.files.length c8, .slice s9 D.acts.length p9, fvs⟩ :=
    MidV.start (Nat.le_refl _) D3.out hd5 h3l H.out.nil56 H.out.nilw hr5 H.out.nf (by simpa [diskCells] using C5)
  obtain ⟨w5, hw5⟩ : ∃ z, w4.setCell ⟨w.heap.size, 8, none⟩ (.slice t8 D.files.length c8) = z := ⟨_, rfl⟩
  have y8 : w4.cell? ⟨w.heap.size, 8, none⟩ = some (.slice s8 D.files.length p8) := C4.cell 8
  have f8 := C4.frozen 8
  have h4l := C4.lt
  obtain ⟨T5, hT5⟩ : ∃ z, tag0 w.heap.size (.map x5) (.map x6) (.slice t7 D.waits.length y7) (.slice t8 D.files.length c8) = z := ⟨_, rfl⟩
  rw [hT5, hw5] at M5
  rw [hw5] at hb5
  have y8' : w5.cell? ⟨w.heap.size, 8, none⟩ = some (.slice t8 D.files.length c8) := M5.cells.cell 8
  have G8 : Hid (0 < D.files.length → ∃ g, t8 = some ⟨g, 0, none⟩) := fun h0 => by
    obtain ⟨ao, cap, e, hg⟩ := row_shape M5.r8
    injection e with e1 e2 e3
    subst e1
    obtain ⟨g, e, _⟩ := hg h0
    exact ⟨g, e⟩
  have M5 := Lib.hid M5
  have HB5 := Lib.hid hb5
  have HW5 := Lib.hid hw5
  clear hr4 hb4 C4 hq8 hr5 C5 hb5 hd5 hT5 hw5 C3 HB3 D3 Z3 h3l
  go_wp2_with fail
  rw [HW5.out]
  clear HW5 y8 f8 h4l y8'
  go_loopw [24] (fun i wr => ∃ (k : Nat) (T' : Nat → Nat) (ys : List Value), k ≤ D.files.length ∧ i = .int .i64 k ∧ MidV w.heap.size k wr T' w.heap.size D ⟨.map x5, .map x6, .slice t7 D.waits.length y7, .slice t8 D.files.length c8, .slice s9 D.acts.length p9, ys⟩ ∧ Below w.heap.size w wr) (fun i _ => D.files.length - (intOf i).toNat)
  case atStart => exact ⟨0, _, _, Nat.zero_le _, rfl, M5.out, HB5.out⟩
  case round =>
    obtain ⟨k, T', ys, hk, rfl, hM, hb⟩ := hrel
    by_cases hlt : k < D.files.length
    · obtain ⟨g, rfl, _⟩ := g8 (by omega)
      obtain ⟨gn, rfl⟩ := G8.out (by omega)
      have hV := H.out.below hb
      have hnf := hV.nf
      dsimp only at hnf
      have hkf : k < fvs.length := by omega
      have hyf := hM.nf
      dsimp only at hyf
      have hky : k < ys.length := by omega
      obtain ⟨_, q1, _⟩ := files_at D.files fvs k hlt hkf
      obtain ⟨_, r1, _⟩ := files_at D.files ys k hlt hky
      have q1 := row_at hV.r8 q1
      have r1 := row_at hM.r8 r1
      have hrk := (hV.rf k hlt hkf).1
      obtain ⟨sk, pk, ek, _⟩ := row_shape hrk
      obtain ⟨sy, py, ey⟩ : ∃ sy py, ys[k] = sy ∧ py = sy := ⟨_, _, rfl, rfl⟩
      dsimp only at hrk ek
      rw [ek] at q1 hrk
      obtain ⟨g1, cap1, cur1, e1, hc1, _⟩ := row_cells hM.r8 (by omega)
      dsimp only at e1
      injection e1 with e1 _ e1c
      injection e1 with e1
      injection e1 with e1
      subst e1
      have fr := hc1.frozen (k * 3 + 1)
      have gl := hc1.lt
      have a8 : wr.cell? ⟨p, 8, none⟩ = some (.slice (some ⟨g, 0, none⟩) D.files.length p8) := hV.cells.cell 8
      have z8 : wr.cell? ⟨w.heap.size, 8, none⟩ = some (.slice (some ⟨gn, 0, none⟩) D.files.length c8) := hM.cells.cell 8
      have CL := Lib.hid (fun W' (hb' : Below wr.heap.size wr W') => cloneA _ _ _ W' (row_below hrk hb' (Nat.le_refl _)) (acts_one _) (hfw _ (List.getElem_mem hlt)))
      have KP : Hid (∀ W', Below wr.heap.size wr W' → W'.cell? ⟨p, 8, none⟩ = some (.slice (some ⟨g, 0, none⟩) D.files.length p8) ∧ W'.cell? ⟨w.heap.size, 8, none⟩ = some (.slice (some ⟨gn, 0, none⟩) D.files.length c8) ∧ W'.cell? ⟨gn, k * 3 + 1, none⟩ = some ys[k] ∧ W'.frozen? ⟨gn, k * 3 + 1, none⟩ = false ∧ gn < W'.heap.size) := fun W' hb' =>
        ⟨(hV.below hb').cells.cell 8, (hM.cells.below hb' hM.cells.lt).cell 8, row_at (row_below hM.r8 hb' (Nat.le_refl _)) (files_at D.files ys k hlt hky).2.1, (hc1.below hb' gl).frozen (k * 3 + 1), Nat.lt_of_lt_of_le gl hb'.size⟩
      have HM := Lib.hid hM
      have HB := Lib.hid hb
      clear hM hb hV hrk hc1 e1c
      go_wp2_with fail
      go_region_law (first
        | (go_simp; go_at_call 44; refine (CL.out _ (Below.refl _ _).drew).mono ?_; rintro e w6 ⟨v6, rfl, hr6, _, ⟨ao6, cap6, rfl⟩, hb6⟩; have k6 := Lib.hid ((Below.refl wr.heap.size wr).drew.trans hb6); obtain ⟨k0, k1, k2, k3, k4⟩ := KP.out w6 k6.out; have HR6 := Lib.hid hr6; clear hr6 hb6))
      all_goals
        obtain ⟨T6, hM6⟩ := HM.out.fcopied (v' := .slice ao6 D.files[k].waits.length cap6) hlt HB.out.size k6.out rfl HR6.out
        have hb6 : Below w.heap.size w (w6.setCell ⟨gn, k * 3 + 1, none⟩ (.slice ao6 D.files[k].waits.length cap6)) :=
          (HB.out.trans (k6.out.mono HB.out.size)).setCell (HM.out.from_ gn (by rw [HM.out.t8 gn rfl]; decide)) _
        have hM6 := Lib.hid hM6
        have HB6 := Lib.hid hb6
        clear hb6 CL KP HM HB k6 HR6 k0 k1 k2 k3 k4 q1 r1 fr gl a8 z8
        go_wp2_with fail
        go_roundw
        case rel => exact ⟨k + 1, T6, _, hlt, by go_num, hM6.out, HB6.out⟩
        case measure => simp [intOf]; omega
    · obtain rfl : k = D.files.length := by omega
      have hV := H.out.below hb
      have a9 : wr.cell? ⟨p, 9, none⟩ = some (.slice s9 D.acts.length p9) := hV.cells.cell 9
      have z9 : wr.cell? ⟨w.heap.size, 9, none⟩ = some (.slice s9 D.acts.length p9) := hM.cells.cell 9
      have CL := Lib.hid (cloneA _ _ _ wr hV.r9 (acts_one _) ha)
      have HM := Lib.hid hM
      have HB := Lib.hid hb
      clear hM hb hV
      go_wp2_with fail
      refine CL.out.mono ?_
      rintro e w6 ⟨v6, rfl, hr6, _, ⟨ao6, cap6, rfl⟩, hb6⟩
      obtain ⟨T6, hD6, hf6⟩ := HM.out.done HB.out.size hb6 hr6
      have C6 := HM.out.cells.below hb6 HM.out.cells.lt
      have y9 : w6.cell? ⟨w.heap.size, 9, none⟩ = some (.slice s9 D.acts.length p9) := C6.cell 9
      have f9 := C6.frozen 9
      have l9 := C6.lt
      have hb7 : Below w.heap.size w (w6.setCell ⟨w.heap.size, 9, none⟩ (.slice ao6 D.acts.length cap6)) := (HB.out.trans (hb6.mono HB.out.size)).setCell (Nat.le_refl _) _
      have hD6 := Lib.hid hD6
      have HB7 := Lib.hid hb7
      clear hr6 hb6 C6 hb7 CL HM HB
      go_wp2_with fail
      go_ret
      exact ⟨_, T6, rfl, hD6.out, hf6, HB7.out⟩
end Go.Proofs.Ytembondddgfpcaa

