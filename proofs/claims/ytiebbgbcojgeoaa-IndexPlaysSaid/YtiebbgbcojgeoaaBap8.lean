/- Texts put together: PZ, TF, FO, TB, TC, FP, FQ, FR, TD, TE, TL, UA, UK, UB, UC, UD, UE, TG, TJ, UF, RI, RQ, RK, QI, QJ, UG, UH. -/
import Derived.Deep.DeepCutAuto
import Derived.Deep.RegionHeld3
import Derived.WalkKit
import Derived.Orders
import Derived.Sort.BigQuietIn
import Derived.Shelf.RegionOpen
import Derived.Test.YtiebbgbcojgeoaaBap3
import Derived.Test.YtiebbgbcojgeoaaBap6
import Derived.Test.YtiebbgbcojgeoaaBap7
set_option linter.unusedVariables false
namespace Go.Proofs.Ytiebbgbcojgeoaa
open Go.RowKit Go.Shelf Go.Maps Go.ChangeShapes Go.Joins Go.WideShapes

theorem cells3 {cs : List Value} (h : cs.length = 3) : ∃ c0 c1 c2, cs = [c0, c1, c2] := by
  match cs, h with
  | [c0, c1, c2], _ => exact ⟨_, _, _, rfl⟩
theorem its_of_own {w : World} {base : Nat} {v : Value} {its : List It} {fvs : List Value} (h : w.ownsRow base 109 3 v its.length (itemsCells its fvs)) (hl : fvs.length = its.length) (he : ∀ (j : Nat) it x, its[j]? = some it → fvs[j]? = some x → Flds w x it.fields) : Its w v its := by
  rcases Joins.ownsRow_forms h with ⟨e, hn⟩ | ⟨g, cap, e⟩
  · have : its = [] := List.length_eq_zero_iff.1 hn
    rw [e, this]
    exact ⟨none, 0, rfl, Nat.le_refl _, fun i it hi => by simp at hi⟩
  · refine ⟨some ⟨g, 0, none⟩, cap, e, (by rcases h.2 with ⟨q, _⟩ | ⟨g', cap', cur, q, _, _, q2, _⟩; · rw [e] at q; cases q
                                           · rw [e] at q; cases q; exact q2), fun i it hi => ?_⟩
    have hlt : i < its.length := by
      rcases Nat.lt_or_ge i its.length with q | q
      · exact q
      · rw [List.getElem?_eq_none q] at hi; cases hi
    obtain ⟨fv, hfv⟩ : ∃ fv, fvs[i]? = some fv := ⟨_, List.getElem?_eq_getElem (by rw [hl]; exact hlt)⟩
    obtain ⟨a0, a1, a2⟩ := itemsCells_at _ _ i it fv hi hfv
    rw [e] at h
    refine ⟨g, 0, fv, rfl, (World.ownsRow.lt h g rfl).2, ?_, ?_, ?_, he i it fv hi hfv⟩
    · rw [Nat.zero_add, World.ownsRow.cellAt h (i * 3) (by omega)]; exact a0
    · rw [Nat.zero_add, World.ownsRow.cellAt h (i * 3 + 1) (by omega)]; exact a1
    · rw [Nat.zero_add, World.ownsRow.cellAt h (i * 3 + 1 + 1) (by omega)]; exact a2
set_option maxRecDepth 100000 in
set_option maxHeartbeats 4000000 in
theorem copies_own (fs : List Fld) (v : Value) (w : World) (hs : Flds w v fs) (hnil : ∀ n c, v = .slice none n c → c = 0) (hn : fs.length ≤ 1000000) :
    Calls Try.prog 10 #[v] w fun e w' => ∃ v', e = .returned v' ∧ w'.ownsRow w.heap.size 45 2 v' fs.length (cellsF fs) ∧ Below w.heap.size w w' := by
  obtain ⟨A, cap, rfl, hle, hc⟩ := hs
  obtain ⟨i0, hi, hz0, hz1, hz2⟩ := info_parts infoFld
  have hoN : (w.alloc (.cells #[] 45)).ownsRow w.heap.size 45 2 (.slice (some ⟨w.heap.size, 0, none⟩) 0 0) 0 [] := World.ownsRow_lit w #[] 0 (Nat.le_refl _) (by decide) rfl
  have hba := (Below.refl w.heap.size w).alloc (Nat.le_refl _) (.cells #[] 45)
  cases A with
  | none =>
    have he : fs = [] := by
      cases fs with
      | nil => rfl
      | cons a r => obtain ⟨b, off, e, _⟩ := hc 0 a rfl; cases e
    have hc0 := hnil _ _ rfl
    subst hc0
    subst he
    simp only [List.length_nil]
    go_enter Try.func10, Try.ntmps10
    go_wp2_with (at_builtin; refine wpList_append_own_none rfl _ _ 30 rfl w.heap.size 45 i0 2 Try.underlying30 hi _ 0 [] rfl hoN rfl ?_)
    go_ret
    exact ⟨_, rfl, hoN, hba⟩
  | some ad =>
    have HC := Lib.hid (rcellsF_at (cap := cap) hc (.cells #[] 45))
    have hone : ∀ u ∈ cellsF fs, u.oneCell' = true := by
      intro u hu
      unfold cellsF at hu
      simp at hu
      obtain ⟨a, b, _, h | h⟩ := hu <;> subst h <;> rfl
    have HL := cellsF_len fs
    clear hc
    generalize cellsF fs = cf at *
    go_enter Try.func10, Try.ntmps10
    go_wp2_with (at_builtin; refine wpList_append_own _ rfl _ _ 30 rfl w.heap.size 45 i0 _ 2 32 Try.underlying30 hi hz0 hz1 hz2 rfl (by decide) _ 0 [] rfl hoN ad fs.length cap cf rfl HL HC.out hone ?c3 ?c4 ?c5 ?_)
    case c3 => unfold maxLen; omega
    case c4 => omega
    case c5 => simp
    intro v' w3 hown' hgrow _
    have hb3 : Below w.heap.size w w3 := hba.grown hgrow (by simp) (fun j ej => (World.ownsRow.lt hoN j ej).1)
    go_wp2_with fail
    go_ret
    exact ⟨_, rfl, hown', hb3⟩
/-- The copies so far. -/
structure AccM (w wr : World) (v : Value) (fvs : List Value) (its : List It) : Prop where
  row : wr.ownsRow w.heap.size 109 3 v its.length (itemsCells its fvs)
  len : fvs.length = its.length
  each : ∀ (j : Nat) it x, its[j]? = some it → fvs[j]? = some x → wr.ownsRow w.heap.size 45 2 x it.fields.length (cellsF it.fields)
  below : Below w.heap.size w wr
theorem AccM.its {w wr : World} {v : Value} {fvs : List Value} {its : List It} (h : AccM w wr v fvs its) : Its wr v its :=
  its_of_own h.row h.len fun j it x h1 h2 => flds_of_own (h.each j it x h1 h2)
theorem AccM.nil {w wr : World} {v : Value} {fvs : List Value} {its : List It} (h : AccM w wr v fvs its) : NilI wr v its := by
  intro i b off n cap m c e hlt hcell
  obtain ⟨it, hi⟩ : ∃ it, its[i]? = some it := ⟨_, List.getElem?_eq_getElem hlt⟩
  obtain ⟨fv, hfv⟩ : ∃ fv, fvs[i]? = some fv := ⟨_, List.getElem?_eq_getElem (by rw [h.len]; exact hlt)⟩
  obtain ⟨_, _, a2⟩ := itemsCells_at _ _ i it fv hi hfv
  have hr := h.row
  rcases Joins.ownsRow_forms hr with ⟨e', hn⟩ | ⟨g, cap', e'⟩
  · omega
  · rw [e'] at e hr
    cases e
    rw [Nat.zero_add, World.ownsRow.cellAt hr (i * 3 + 1 + 1) (by omega), a2] at hcell
    cases hcell
    rcases (h.each i it _ hi hfv).2 with ⟨q, _⟩ | ⟨g', cap', cur, q, _⟩
    · cases q; rfl
    · cases q
theorem AccM.kept {w wr w2 : World} {v : Value} {fvs : List Value} {its : List It} (h : AccM w wr v fvs its) (hb : Below wr.heap.size wr w2) : AccM w w2 v fvs its :=
  ⟨own_kept h.row hb (Nat.le_refl _), h.len, fun j it x h1 h2 => own_kept (h.each j it x h1 h2) hb (Nat.le_refl _), h.below.trans (hb.mono h.below.size)⟩
theorem row42 {W w3 : World} {lo : Nat} {v x : Value} {n m : Nat} {xs ys : List Value} (hv : W.ownsRow lo 109 3 v n xs) (hx : W.ownsRow lo 45 2 x m ys) (hg : W.grownBy w3 v.ownBlock) : w3.ownsRow lo 45 2 x m ys := by
  refine row_same hx fun b hb => hg.block b (hx.lt b hb).2 (fun e => ?_)
  rcases hx.2 with ⟨rfl, _⟩ | ⟨g, cap, cur, rfl, _, hc, _⟩
  · cases hb
  · cases hb
    rcases hv.2 with ⟨rfl, _⟩ | ⟨g', cap', cur', rfl, _, hc', _⟩
    · cases e
    · have : g = g' := Option.some.inj e
      subst this
      rw [hc] at hc'
      injection hc' with hc'
      injection hc' with _ h2 _
      exact absurd h2 (by decide)
theorem AccM.snoc {w W w3 : World} {v v' x : Value} {fvs : List Value} {its : List It} {it : It} (h : AccM w W v fvs its) (hx : W.ownsRow w.heap.size 45 2 x it.fields.length (cellsF it.fields)) (ho : w3.ownsRow w.heap.size 109 3 v' (its.length + 1) (itemsCells its fvs ++ [.int .i64 it.kind, .string (B it.raw), x])) (o : Obj) (hg : (W.alloc o).grownBy w3 v.ownBlock) : AccM w w3 v' (fvs ++ [x]) (its ++ [it]) := by
  have h' := h.kept ((Below.refl W.heap.size W).alloc (Nat.le_refl _) o)
  have hx' := own_kept hx ((Below.refl W.heap.size W).alloc (Nat.le_refl _) o) (Nat.le_refl _)
  refine ⟨by rw [List.length_append, itemsCells_snoc _ _ _ _ h.len]; exact ho, by simp [h.len], fun j y s hy hs => ?_, h'.below.grown hg h'.below.size (fun k e => (h.row.lt k e).1)⟩
  rcases snoc_at hy with ⟨q, hy⟩ | ⟨q, rfl⟩
  · rw [List.getElem?_append_left (by rw [h.len]; exact q)] at hs
    exact row42 h'.row (h'.each j y s hy hs) hg
  · rw [q, ← h.len, List.getElem?_append_right (Nat.le_refl _)] at hs
    simp at hs
    subst hs; exact row42 h'.row hx' hg
end Go.Proofs.Ytiebbgbcojgeoaa

namespace Go.Proofs.Ytiebbgbcojgeoaa
open Go.RowKit Go.Shelf

/-- The items so far, of which each one's fields lie where they lay. -/
structure AccI (w wr : World) (v : Value) (fvs : List Value) (its : List It) : Prop where
  row : wr.ownsRow w.heap.size 109 3 v its.length (itemsCells its fvs)
  len : fvs.length = its.length
  each : ∀ (j : Nat) it x, its[j]? = some it → fvs[j]? = some x → Flds w x it.fields
  below : Below w.heap.size w wr
theorem AccI.start (w : World) : AccI w w (.slice none 0 0) [] [] := ⟨⟨rfl, .inl ⟨rfl, rfl⟩⟩, rfl, fun j it x h => by simp at h, Below.refl _ _⟩
theorem AccM.start (w : World) : AccM w w (.slice none 0 0) [] [] := ⟨⟨rfl, .inl ⟨rfl, rfl⟩⟩, rfl, fun j it x h => by simp at h, Below.refl _ _⟩
theorem AccI.its {w wr : World} {v : Value} {fvs : List Value} {its : List It} (h : AccI w wr v fvs its) : Its wr v its :=
  its_of_own h.row h.len fun j it x h1 h2 => (h.each j it x h1 h2).below h.below (Nat.le_refl _)
theorem AccI.kept {w wr w2 : World} {v : Value} {fvs : List Value} {its : List It} (h : AccI w wr v fvs its) (hb : Below wr.heap.size wr w2) : AccI w w2 v fvs its :=
  ⟨own_kept h.row hb (Nat.le_refl _), h.len, h.each, h.below.trans (hb.mono h.below.size)⟩
theorem AccI.snoc {w W w3 : World} {v v' x : Value} {fvs : List Value} {its : List It} {it : It} (h : AccI w W v fvs its) (hx : Flds w x it.fields) (ho : w3.ownsRow w.heap.size 109 3 v' (its.length + 1) (itemsCells its fvs ++ [.int .i64 it.kind, .string (B it.raw), x])) (o : Obj) (hg : (W.alloc o).grownBy w3 v.ownBlock) : AccI w w3 v' (fvs ++ [x]) (its ++ [it]) := by
  have h' := h.kept ((Below.refl W.heap.size W).alloc (Nat.le_refl _) o)
  refine ⟨by rw [List.length_append, itemsCells_snoc _ _ _ _ h.len]; exact ho, by simp [h.len], fun j y s hy hs => ?_, h'.below.grown hg h'.below.size (fun k e => (h.row.lt k e).1)⟩
  rcases snoc_at hy with ⟨q, hy⟩ | ⟨q, rfl⟩
  · rw [List.getElem?_append_left (by rw [h.len]; exact q)] at hs
    exact h.each j y s hy hs
  · rw [q, ← h.len, List.getElem?_append_right (Nat.le_refl _)] at hs
    simp at hs
    subst hs; exact hx
end Go.Proofs.Ytiebbgbcojgeoaa

namespace Go.Proofs.Ytiebbgbcojgeoaa
open Go.RowKit Go.Shelf

attribute [local go_sem] errV_0
end Go.Proofs.Ytiebbgbcojgeoaa

namespace Go.Proofs.Ytiebbgbcojgeoaa
open Go.RowKit Go.Shelf

/-- The first field that isn't good. -/
def badAt : List Fld → Nat
  | [] => 0
  | f :: r => if checkN f.1 f.2 = 0 then badAt r + 1 else 0
def chkN (fs : List Fld) : Nat := if fs.length = 0 then 2 else if 40 < fs.length then 11 else foldN fs
def bare (fs : List Fld) : Prop := fs.length = 0 ∨ 40 < fs.length ∨ foldN fs = 0
instance (fs : List Fld) : Decidable (bare fs) := by unfold bare; infer_instance
def chkAt (fs : List Fld) : Int := if bare fs then -9 else (badAt fs : Nat)
/-- Check's answer, in memory. -/
def ChkV (lo : Nat) (w : World) (u : Value) (fs : List Fld) : Prop := if bare fs then u = errV (chkN fs) else FaultAt lo w u (badAt fs) (foldN fs)
theorem chkN_le (fs : List Fld) : chkN fs ≤ 11 := by
  unfold chkN
  have := foldN_le fs
  split
  · decide
  · split
    · decide
    · omega
theorem chkN_zero {fs : List Fld} (h : chkN fs = 0) : fs.length ≠ 0 ∧ fs.length ≤ 40 ∧ foldN fs = 0 := by
  unfold chkN at h
  split at h
  · cases h
  · split at h
    · cases h
    · exact ⟨by assumption, by omega, h⟩
theorem ChkV.zero {lo : Nat} {w : World} {u : Value} {fs : List Fld} (h : ChkV lo w u fs) (h0 : chkN fs = 0) : u = .nilIface := by
  obtain ⟨_, _, c⟩ := chkN_zero h0
  unfold ChkV at h
  rw [if_pos (.inr (.inr c)), h0] at h
  exact h
theorem ChkV.pos {lo : Nat} {w : World} {u : Value} {fs : List Fld} (h : ChkV lo w u fs) (h0 : chkN fs ≠ 0) : u = .iface 50 (.int .i64 (chkN fs : Nat)) ∨ ∃ q, u = .iface 77 (.pointer q) := by
  unfold ChkV at h
  split at h
  · rw [errV_pos _ (by omega)] at h; exact .inl h
  · obtain ⟨q, _, e, _⟩ := h; exact .inr ⟨_, e⟩
theorem ChkV.below {lo : Nat} {w w' : World} {u : Value} {fs : List Fld} {N : Nat} (h : ChkV lo w u fs) (hb : Below N w w') (hN : w.heap.size ≤ N) : ChkV lo w' u fs := by
  unfold ChkV at h ⊢
  split
  · rename_i hx; rw [if_pos hx] at h; exact h
  · rename_i hx; rw [if_neg hx] at h; exact h.below hb hN
theorem ChkV.mono {lo lo' : Nat} {w : World} {u : Value} {fs : List Fld} (h : ChkV lo w u fs) (hl : lo' ≤ lo) : ChkV lo' w u fs := by
  unfold ChkV at h ⊢
  split
  · rename_i hx; rw [if_pos hx] at h; exact h
  · rename_i hx; rw [if_neg hx] at h; exact h.mono hl
theorem ChkV.set {lo : Nat} {w : World} {u : Value} {fs : List Fld} (h : ChkV lo w u fs) (p : Addr) (hp : p.block < lo) (x : Value) : ChkV lo (w.setCell p x) u fs := by
  unfold ChkV at h ⊢
  split
  · rename_i hx; rw [if_pos hx] at h; exact h
  · rename_i hx
    rw [if_neg hx] at h
    obtain ⟨q, hq, e, hc⟩ := h
    exact ⟨q, hq, e, Cells.other hc (by omega) _⟩
attribute [local go_sem] errV_0
end Go.Proofs.Ytiebbgbcojgeoaa

namespace Go.Proofs.Ytiebbgbcojgeoaa
open Go.RowKit Go.Shelf

attribute [local go_sem] errV_0
end Go.Proofs.Ytiebbgbcojgeoaa

namespace Go.Proofs.Ytiebbgbcojgeoaa
open Go.RowKit Go.Shelf

theorem OwnS.grow {w5 : World} {base g' cap' : Nat} {ls : List ByteArray} {y : ByteArray} {n : Nat} (h : w5.ownsRow base 9 1 (.slice (some ⟨g', 0, none⟩) (n + 1) cap') (n + 1) (ls.map Value.string ++ [Value.string y])) (hl : ls.length = n) : OwnS w5 base (.slice (some ⟨g', 0, none⟩) (n + 1) cap') (ls ++ [y]) := by
  unfold OwnS
  rw [List.length_append, List.map_append, hl]; exact h
theorem OwnS.form {w : World} {base : Nat} {v : Value} {ls : List ByteArray} (h : OwnS w base v ls) (hn : 0 < ls.length) : ∃ g cap, v = .slice (some ⟨g, 0, none⟩) ls.length cap ∧ base ≤ g ∧ g < w.heap.size := by
  obtain ⟨g, cap, e⟩ := Joins.ownsRow_form h hn
  have := World.ownsRow.lt h g (by rw [e]; rfl)
  exact ⟨g, cap, e, this⟩
theorem OwnS.cell {w : World} {base g cap n : Nat} {ls : List ByteArray} (h : OwnS w base (.slice (some ⟨g, 0, none⟩) n cap) ls) (hn : ls.length = n) (j : Nat) (x : ByteArray) (hx : ls[j]? = some x) : w.cell? ⟨g, j, none⟩ = some (.string x) := by
  subst hn
  have hj : j < ls.length := by
    rcases Nat.lt_or_ge j ls.length with q | q
    · exact q
    · rw [List.getElem?_eq_none q] at hx; cases hx
  rw [World.ownsRow.cellAt h j (by omega), List.getElem?_map, hx]; rfl

end Go.Proofs.Ytiebbgbcojgeoaa

namespace Go.Proofs.Ytiebbgbcojgeoaa
open Go.RowKit Go.Shelf

end Go.Proofs.Ytiebbgbcojgeoaa

namespace Go.Proofs.Ytiebbgbcojgeoaa
open Go.RowKit Go.Shelf

end Go.Proofs.Ytiebbgbcojgeoaa

namespace Go.Proofs.Ytiebbgbcojgeoaa
open Go.RowKit Go.Shelf

attribute [local go_sem] errV_0
end Go.Proofs.Ytiebbgbcojgeoaa

namespace Go.Proofs.Ytiebbgbcojgeoaa
open Go.RowKit Go.Shelf

def joinT (rs : List (List Fld)) : List UInt8 := joinNl (rs.map foldG)
/-- The first stanza that is wrong. -/
def badR (rs : List (List Fld)) : Option (List Fld) := rs.find? fun r => chkN r != 0
/-- Text's answer. -/
def TextR (w : World) (rs : List (List Fld)) (e : Ending) (w' : World) : Prop :=
  Below w.heap.size w w' ∧ match badR rs with
    | some r => ∃ u, e = .returned (.tuple #[.string (B []), u]) ∧ ChkV w.heap.size w' u r ∧ chkN r ≠ 0
    | none => e = .returned (.tuple #[.string (B (joinT rs)), .nilIface]) ∧ ∀ r ∈ rs, chkN r = 0
theorem TextR.no {w w' : World} {rs : List (List Fld)} {u : Value} {r : List Fld} (h : badR rs = some r) (hb : Below w.heap.size w w') (hu : ChkV w.heap.size w' u r) (h0 : chkN r ≠ 0) : TextR w rs (.returned (.tuple #[.string (B []), u])) w' :=
  ⟨hb, by rw [h]; exact ⟨u, rfl, hu, h0⟩⟩
attribute [local go_sem] errV_0
end Go.Proofs.Ytiebbgbcojgeoaa

namespace Go.Proofs.Ytiebbgbcojgeoaa

end Go.Proofs.Ytiebbgbcojgeoaa

namespace Go.Proofs.Ytiebbgbcojgeoaa

/-- An entry: an item and its number. -/
abbrev En := It × Int
/-- A list: its entries, the next number. -/
structure LS where
  es : List En
  next : Int
section
variable {α : Type} {κ : α → Int}
end
/-- Stanzas have numbers, other items 0. -/
def WF (es : List En) : Prop := ∀ e ∈ es, (e.1.kind = 3 ∧ 0 < e.2) ∨ (e.1.kind ≠ 3 ∧ e.2 = 0)
def setE (es : List En) (k : Nat) (it : It) : List En := es.modify k fun e => (it, e.2)
def putE (es : List En) (k : Nat) (e : En) : List En := es.take k ++ e :: es.drop k
theorem WF.set {es : List En} (h : WF es) (k : Nat) (it : It) (hk : it.kind = 3) (e : En) (he : es[k]? = some e) (hn : e.1.kind = 3) : WF (setE es k it) := by
  intro x hx
  obtain ⟨j, hj⟩ := List.mem_iff_getElem?.1 hx
  unfold setE at hj
  rw [List.getElem?_modify] at hj
  rcases hjj : es[j]? with _ | y
  · rw [hjj] at hj; simp at hj
  · rw [hjj] at hj
    simp only [Option.map_eq_map, Option.map_some, Option.some.injEq] at hj
    have hy := h y (List.mem_of_getElem? hjj)
    by_cases e1 : k = j
    · rw [if_pos e1] at hj
      subst hj
      subst e1
      rw [he] at hjj
      cases hjj
      rcases h e (List.mem_of_getElem? he) with q | q
      · exact .inl ⟨hk, q.2⟩
      · exact absurd hn q.1
    · rw [if_neg e1] at hj
      subst hj; exact hy
theorem WF.put {es : List En} (h : WF es) (k : Nat) {e : En} (he : (e.1.kind = 3 ∧ 0 < e.2)) : WF (putE es k e) := by
  intro x hx
  rcases List.mem_append.1 hx with q | q
  · exact h x (List.mem_of_mem_take q)
  · rcases List.mem_cons.1 q with rfl | q
    · exact .inl he
    · exact h x (List.mem_of_mem_drop q)
/-- A list as it comes of a text. -/
def fromOn : Int → List It → List En
  | _, [] => []
  | n, it :: r => if it.kind = 3 then (it, n) :: fromOn (n + 1) r else (it, 0) :: fromOn n r
def fromNext : Int → List It → Int
  | n, [] => n
  | n, it :: r => if it.kind = 3 then fromNext (n + 1) r else fromNext n r
def fromL (its : List It) : LS := ⟨fromOn 1 its, fromNext 1 its⟩
end Go.Proofs.Ytiebbgbcojgeoaa

namespace Go.Proofs.Ytiebbgbcojgeoaa
open Go.RowKit Go.Shelf

variable {P : Program}

end Go.Proofs.Ytiebbgbcojgeoaa

namespace Go.Proofs.Ytiebbgbcojgeoaa
open Go.RowKit Go.Shelf

/-- An entry and its fields' slice. -/
abbrev Pr := En × Value
def entCell (p : Pr) : List Value := [.int .i64 p.1.1.kind, .string (B p.1.1.raw), p.2, .int .i64 p.1.2]
def entCells (ps : List Pr) : List Value := ps.flatMap entCell
theorem entCells_snoc (ps : List Pr) (p : Pr) : entCells (ps ++ [p]) = entCells ps ++ entCell p := by unfold entCells; simp
theorem entCells_append (ps qs : List Pr) : entCells (ps ++ qs) = entCells ps ++ entCells qs := by unfold entCells; simp
theorem entCells_take : ∀ (ps : List Pr) (k : Nat), entCells (ps.take k) = (entCells ps).take (k * 4)
  | [], k => by simp [entCells]
  | p :: r, 0 => by simp [entCells]
  | p :: r, k + 1 => by
    have ih := entCells_take r k
    have e : entCells (p :: r) = entCell p ++ entCells r := rfl
    rw [List.take_succ_cons, e, show entCells (p :: r.take k) = entCell p ++ entCells (r.take k) from rfl, ih, List.take_append]
    have hl : (entCell p).length = 4 := rfl
    rw [hl, List.take_of_length_le (l := entCell p) (by rw [hl]; omega), show (k + 1) * 4 - 4 = k * 4 by omega]
theorem entCells_drop : ∀ (ps : List Pr) (k : Nat), entCells (ps.drop k) = (entCells ps).drop (k * 4)
  | [], k => by simp [entCells]
  | p :: r, 0 => by simp
  | p :: r, k + 1 => by
    have ih := entCells_drop r k
    have e : entCells (p :: r) = entCell p ++ entCells r := rfl
    have hl : (entCell p).length = 4 := rfl
    rw [List.drop_succ_cons, e, ih, List.drop_append, hl, List.drop_of_length_le (l := entCell p) (by rw [hl]; omega), show (k + 1) * 4 - 4 = k * 4 by omega, List.nil_append]
theorem entCells_at : ∀ (ps : List Pr) (i : Nat) (p : Pr), ps[i]? = some p → ∀ j u, (entCell p)[j]? = some u → (entCells ps)[i * 4 + j]? = some u
  | [], i, p, h => by simp at h
  | q :: r, 0, p, h => by
    simp at h; subst h
    intro j u hj
    have e : entCells (q :: r) = entCell q ++ entCells r := rfl
    rw [e, Nat.zero_mul, Nat.zero_add, List.getElem?_append_left (by have := (List.getElem?_eq_some_iff.1 hj).1; exact this)]
    exact hj
  | q :: r, i + 1, p, h => by
    intro j u hj
    have ih := entCells_at r i p (by simpa using h) j u hj
    have e : entCells (q :: r) = entCell q ++ entCells r := rfl
    have hl : (entCell q).length = 4 := rfl
    rw [e, List.getElem?_append_right (by rw [hl]; omega), hl, show (i + 1) * 4 + j - 4 = i * 4 + j by omega]
    exact ih
/-- Fields that can be copied. -/
def FldR (w : World) (v : Value) (fs : List Fld) : Prop := Flds w v fs ∧ ∀ n c, v = .slice none n c → c = 0
theorem FldR.below {w w' : World} {v : Value} {fs : List Fld} {n : Nat} (h : FldR w v fs) (hb : Below n w w') (hn : w.heap.size ≤ n) : FldR w' v fs := ⟨h.1.below hb hn, h.2⟩
theorem FldR.form {w : World} {v : Value} {fs : List Fld} (h : FldR w v fs) : ∃ A c, v = .slice A fs.length c := by
  obtain ⟨A, c, e, _⟩ := h.1
  exact ⟨A, c, e⟩
theorem FldR.own {w : World} {base : Nat} {v : Value} {fs : List Fld} (h : w.ownsRow base 45 2 v fs.length (cellsF fs)) : FldR w v fs :=
  ⟨flds_of_own h, fun n c e => by
    rcases h.2 with ⟨q, _⟩ | ⟨g, cap, cur, q, _⟩
    · rw [q] at e; cases e; rfl
    · rw [q] at e; cases e⟩
/-- The entries, readable. -/
structure EntsR (w : World) (v : Value) (ps : List Pr) : Prop where
  row : w.ownsRow 0 111 4 v ps.length (entCells ps)
  each : ∀ p ∈ ps, FldR w p.2 p.1.1.fields
theorem EntsR.below {w w' : World} {v : Value} {ps : List Pr} {n : Nat} (h : EntsR w v ps) (hb : Below n w w') (hn : w.heap.size ≤ n) : EntsR w' v ps :=
  ⟨own_kept h.row hb hn, fun p hp => (h.each p hp).below hb hn⟩
theorem EntsR.empty {w : World} {v : Value} {ps : List Pr} (h : EntsR w v ps) : ∃ A cap, v = .slice A ps.length cap ∧ ps.length ≤ cap := by
  rcases h.row.2 with ⟨e, hn⟩ | ⟨g, cap, cur, e, _, hg, hle, _⟩
  · exact ⟨none, 0, by rw [e, hn], by omega⟩
  · exact ⟨_, cap, e, hle⟩
/-- An entry as a value. -/
def entV (p : Pr) : Value := .agg #[.int .i64 p.1.1.kind, .string (B p.1.1.raw), p.2, .int .i64 p.1.2]
end Go.Proofs.Ytiebbgbcojgeoaa

namespace Go.Proofs.Ytiebbgbcojgeoaa
open Go.RowKit Go.Shelf
attribute [local go_sem] Oper.semAt_some

end Go.Proofs.Ytiebbgbcojgeoaa

namespace Go.Proofs.Ytiebbgbcojgeoaa
open Go.RowKit Go.Shelf
attribute [local go_sem] Oper.semAt_some

/-- A list in memory, readable: its block, its entries' slice. -/
structure LR (w : World) (lb : Nat) (ev : Value) (ps : List Pr) (nx : Int) : Prop where
  head : Cells w lb 122 #[ev, .int .i64 (nx - 1)]
  ents : EntsR w ev ps
theorem LR.below {w w' : World} {lb : Nat} {ev : Value} {ps : List Pr} {nx : Int} {n : Nat} (h : LR w lb ev ps nx) (hb : Below n w w') (hn : w.heap.size ≤ n) : LR w' lb ev ps nx :=
  ⟨h.head.below hb (Nat.lt_of_lt_of_le h.head.lt hn), h.ents.below hb hn⟩
abbrev ptr (b : Nat) : Value := .pointer (some ⟨b, 0, none⟩)
theorem all_any (lb : Nat) (ev : Value) (ps : List Pr) (nx : Int) (w : World) (h : LR w lb ev ps nx) :
    Calls Try.prog 48 #[ptr lb] w fun e w' => e = .returned ev ∧ w = w' := by
  obtain ⟨A, cap, rfl, hle⟩ := h.ents.empty
  have c0 : w.cell? ⟨lb, 0, none⟩ = some (.slice A ps.length cap) := h.head.cell 0
  clear h
  unfold ptr
  go_enter Try.func48, Try.ntmps48
  go_wp2_with fail
  go_ret
  exact ⟨rfl, rfl⟩
theorem all_none (w : World) : Calls Try.prog 48 #[.pointer none] w fun e w' => e = .returned (.slice none 0 0) ∧ w = w' := by
  go_enter Try.func48, Try.ntmps48
  go_wp2_with fail
  go_ret
  exact ⟨rfl, rfl⟩
theorem entsNone (w : World) : EntsR w (.slice none 0 0) [] := ⟨⟨rfl, .inl ⟨rfl, rfl⟩⟩, fun p h => by cases h⟩
/-- What all answers: of a list, or of none. -/
def AllR (w : World) (l v : Value) (ps : List Pr) : Prop := EntsR w v ps ∧ Calls Try.prog 48 #[l] w fun e w' => e = .returned v ∧ w = w'
theorem AllR.of {w : World} {lb : Nat} {ev : Value} {ps : List Pr} {nx : Int} (h : LR w lb ev ps nx) : AllR w (ptr lb) ev ps := ⟨h.ents, all_any lb ev ps nx w h⟩
theorem AllR.none (w : World) : AllR w (.pointer none) (.slice none 0 0) [] := ⟨entsNone w, all_none w⟩
end Go.Proofs.Ytiebbgbcojgeoaa

namespace Go.Proofs.Ytiebbgbcojgeoaa
open Go.RowKit Go.Shelf
attribute [local go_sem] Oper.semAt_some

end Go.Proofs.Ytiebbgbcojgeoaa

namespace Go.Proofs.Ytiebbgbcojgeoaa
open Go.RowKit Go.Shelf

theorem AccM.set {w W : World} {v : Value} {fvs : List Value} {its : List It} {b : Nat} {cs : Array Value} (h : AccM w W v fvs its) (i : Nat) (hc : Cells W b 109 cs) (hne : v.ownBlock ≠ some b) (hb : w.heap.size ≤ b) (x : Value) : AccM w (W.setCell ⟨b, i, none⟩ x) v fvs its := by
  refine ⟨row_cell (p := ⟨b, i, none⟩) h.row hne x, h.len, fun j y s hy hs => row_cell (p := ⟨b, i, none⟩) (h.each j y s hy hs) (fun e => ?_) x, h.below.setCell (p := ⟨b, i, none⟩) hb x⟩
  rcases (h.each j y s hy hs).2 with ⟨rfl, _⟩ | ⟨g, cap, cur, rfl, _, hg, _⟩
  · cases e
  · cases e
    have h4 := hc
    unfold Cells at h4
    rw [h4] at hg
    injection hg with hg
    injection hg with _ h2 _
    exact absurd h2 (by decide)
theorem row_ne {W : World} {base n : Nat} {e : TypeId} {sz : Nat} {v : Value} {xs : List Value} (h : W.ownsRow base e sz v n xs) : v.ownBlock ≠ some W.heap.size := fun q => by have := (h.lt _ q).2; omega
end Go.Proofs.Ytiebbgbcojgeoaa

namespace Go.Proofs.Ytiebbgbcojgeoaa
open Go.RowKit Go.Shelf

end Go.Proofs.Ytiebbgbcojgeoaa

namespace Go.Proofs.Ytiebbgbcojgeoaa
open Go.RowKit Go.Shelf
attribute [local go_sem] Oper.semAt_some

end Go.Proofs.Ytiebbgbcojgeoaa

namespace Go.Proofs.Ytiebbgbcojgeoaa
open Go.RowKit
end Go.Proofs.Ytiebbgbcojgeoaa

namespace Go.Proofs.Ytiebbgbcojgeoaa
open Go.RowKit

end Go.Proofs.Ytiebbgbcojgeoaa

namespace Go.Proofs.Ytiebbgbcojgeoaa
open Go.RowKit

end Go.Proofs.Ytiebbgbcojgeoaa

namespace Go.Proofs.Ytiebbgbcojgeoaa
open Go.RowKit Go.Shelf

end Go.Proofs.Ytiebbgbcojgeoaa

namespace Go.Proofs.Ytiebbgbcojgeoaa
open Go.RowKit Go.Shelf

def fl (l : Array Bool) (j : Nat) : Bool := l.getD j false
abbrev sl (g n c : Nat) : Value := .slice (some ⟨g, 0, none⟩) n c
end Go.Proofs.Ytiebbgbcojgeoaa

namespace Go.Proofs.Ytiebbgbcojgeoaa
open Go.RowKit Go.Shelf
attribute [local go_sem] Oper.semAt_some

def cellAt (b i : Nat) (W : World) : Value := match W.cell? ⟨b, i, none⟩ with | some v => v | none => undef
theorem putS {a : Act} {d : Nat} {v : Value} (hd : d < a.tmps.size) (j : Nat) : (a.put (some d) v).tmps[j]? = if j = d then some v else a.tmps[j]? := by
  show (a.tmps.setIfInBounds d v)[j]? = _
  rw [Array.getElem?_setIfInBounds]
  by_cases h : d = j
  · subst h; simp [hd]
  · rw [if_neg h, if_neg (Ne.symm h)]
/-- What is known behind the first c of the others. -/
def FactS (W0 : World) (sb lo n : Nat) (p : Pr) (v0 : Value) (xs : List Value) (a : Act) (w : World) : Nat → Prop
  | 0 => Below W0.heap.size W0 w
  | 1 => Below W0.heap.size W0 w ∧ a.tmps[12]? = some (entV p)
  | 2 => Below W0.heap.size W0 w ∧ ∃ x, a.tmps[13]? = some (.agg #[.int .i64 p.1.2, x]) ∧ w.ownsRow W0.heap.size 45 2 x p.1.1.fields.length (cellsF p.1.1.fields)
  | 3 => Below W0.heap.size W0 w ∧ ∃ x b, a.tmps[14]? = some (sl b 1 1) ∧ w.ownsRow W0.heap.size 45 2 x p.1.1.fields.length (cellsF p.1.1.fields) ∧ W0.heap.size ≤ b ∧ Cells w b 69 #[.int .i64 p.1.2, x]
  | 4 => ∃ x g c, a.tmps[15]? = some (sl g (n + 1) c) ∧ w.ownsRow W0.heap.size 45 2 x p.1.1.fields.length (cellsF p.1.1.fields) ∧ w.ownsRow lo 69 2 (sl g (n + 1) c) (n + 1) (xs ++ [.int .i64 p.1.2, x]) ∧ Only (fun r => v0.ownBlock = some r) W0 w
  | _ => ∃ x g c w2, w2.ownsRow W0.heap.size 45 2 x p.1.1.fields.length (cellsF p.1.1.fields) ∧ w2.ownsRow lo 69 2 (sl g (n + 1) c) (n + 1) (xs ++ [.int .i64 p.1.2, x]) ∧ Only (fun r => v0.ownBlock = some r) W0 w2 ∧ w = w2.setCell ⟨sb, 0, none⟩ (sl g (n + 1) c)
theorem FactS.below {W0 : World} {sb lo n : Nat} {p : Pr} {v0 : Value} {xs : List Value} {a : Act} {w : World} {c : Nat} (h : FactS W0 sb lo n p v0 xs a w c) (hc : c ≤ 3) : Below W0.heap.size W0 w := by
  match c, h with
  | 0, h => exact h
  | 1, h => exact h.1
  | 2, h => exact h.1
  | 3, h => exact h.1
  | n + 4, _ => omega
theorem FactS.put {W0 : World} {sb lo n : Nat} {p : Pr} {v0 : Value} {xs : List Value} {a : Act} {w : World} {c : Nat} (h : FactS W0 sb lo n p v0 xs a w c) (hs : 16 ≤ a.tmps.size) (v : Value) : FactS W0 sb lo n p v0 xs (a.put (some 11) v) w c := by
  have T := fun j => putS (a := a) (d := 11) (v := v) (by omega) j
  match c, h with
  | 0, h => exact h
  | 1, h => exact ⟨h.1, by rw [T, if_neg (by decide)]; exact h.2⟩
  | 2, h => obtain ⟨h1, x, h2, h3⟩ := h; exact ⟨h1, x, by rw [T, if_neg (by decide)]; exact h2, h3⟩
  | 3, h => obtain ⟨h1, x, b, h2, h3⟩ := h; exact ⟨h1, x, b, by rw [T, if_neg (by decide)]; exact h2, h3⟩
  | 4, h => obtain ⟨x, g, c, h2, h3⟩ := h; exact ⟨x, g, c, by rw [T, if_neg (by decide)]; exact h2, h3⟩
  | n + 5, h => exact h
end Go.Proofs.Ytiebbgbcojgeoaa

namespace Go.Proofs.Ytiebbgbcojgeoaa
open Go.RowKit Go.Shelf
attribute [local go_sem] Oper.semAt_some

/-- A stanza: its number, its fields. -/
abbrev Stz := Int × List Fld
def stzCells : List Stz → List Value → List Value
  | s :: l, v :: vs => .int .i64 s.1 :: v :: stzCells l vs
  | _, _ => []
theorem stzCells_snoc : ∀ (l : List Stz) (vs : List Value) (s : Stz) (v : Value), vs.length = l.length → stzCells (l ++ [s]) (vs ++ [v]) = stzCells l vs ++ [.int .i64 s.1, v]
  | [], [], s, v, _ => rfl
  | [], _ :: _, _, _, h => by simp at h
  | a :: l, [], s, v, h => by simp at h
  | a :: l, u :: vs, s, v, h => by
    have := stzCells_snoc l vs s v (by simpa using h)
    simp only [List.cons_append, stzCells, this]
/-- The stanzas so far, in new memory from lo on. -/
structure AccZ (lo : Nat) (w wr : World) (v : Value) (fvs : List Value) (rs : List Stz) : Prop where
  row : wr.ownsRow lo 69 2 v rs.length (stzCells rs fvs)
  len : fvs.length = rs.length
  each : ∀ (j : Nat) s x, rs[j]? = some s → fvs[j]? = some x → wr.ownsRow lo 45 2 x s.2.length (cellsF s.2)
  below : Below w.heap.size w wr
theorem AccZ.start (lo : Nat) (w wr : World) (hb : Below w.heap.size w wr) : AccZ lo w wr (.slice none 0 0) [] [] := ⟨⟨rfl, .inl ⟨rfl, rfl⟩⟩, rfl, fun j s x h => by simp at h, hb⟩
theorem AccZ.turned {lo B k : Nat} {w W W' : World} {v : Value} {fvs : List Value} {rs : List Stz} (h : AccZ lo w W v fvs rs) (ht : Turned B k W W') (hB : w.heap.size ≤ B) (hlo : B + k ≤ lo) : AccZ lo w W' v fvs rs :=
  ⟨ht.row h.row (fun b e => .inr (by have := (h.row.lt b e).1; omega)), h.len, fun j s x h1 h2 => ht.row (h.each j s x h1 h2) (fun b e => .inr (by have := ((h.each j s x h1 h2).lt b e).1; omega)), h.below.trans (ht.below hB h.below.size)⟩
theorem AccZ.alloc {lo : Nat} {w W : World} {v : Value} {fvs : List Value} {rs : List Stz} (h : AccZ lo w W v fvs rs) (o : Obj) : AccZ lo w (W.alloc o) v fvs rs :=
  have hb := (Below.refl W.heap.size W).alloc (Nat.le_refl _) o
  ⟨own_kept h.row hb (Nat.le_refl _), h.len, fun j s x h1 h2 => own_kept (h.each j s x h1 h2) hb (Nat.le_refl _), h.below.alloc h.below.size o⟩
theorem stz_ne {W : World} {lo n m : Nat} {v x : Value} {xs ys : List Value} (hv : W.ownsRow lo 69 2 v n xs) (hx : W.ownsRow lo 45 2 x m ys) : ∀ b, x.ownBlock = some b → ¬ v.ownBlock = some b := by
  intro b hb e
  rcases hx.2 with ⟨rfl, _⟩ | ⟨g, cap, cur, rfl, _, hc, _⟩
  · cases hb
  · cases hb
    rcases hv.2 with ⟨rfl, _⟩ | ⟨g', cap', cur', rfl, _, hc', _⟩
    · cases e
    · have : g' = g := Option.some.inj e
      subst this
      rw [hc] at hc'
      injection hc' with hc'
      injection hc' with _ h2 _
      exact absurd h2 (by decide)
theorem AccZ.snoc {lo : Nat} {w W w2 : World} {v : Value} {fvs : List Value} {rs : List Stz} {s : Stz} {x : Value} {g c : Nat} (h : AccZ lo w W v fvs rs) (hlo : w.heap.size ≤ lo) (hx : w2.ownsRow lo 45 2 x s.2.length (cellsF s.2)) (hr : w2.ownsRow lo 69 2 (sl g (rs.length + 1) c) (rs.length + 1) (stzCells rs fvs ++ [.int .i64 s.1, x]))
    (ho : Only (fun r => v.ownBlock = some r) W w2) : AccZ lo w w2 (sl g (rs.length + 1) c) (fvs ++ [x]) (rs ++ [s]) := by
  refine ⟨by rw [List.length_append, stzCells_snoc _ _ _ _ h.len]; exact hr, by simp [h.len], fun j y u hy hu => ?_, h.below.trans (ho.to_below h.below.size (fun r hr e => by have := (h.row.lt r e).1; omega))⟩
  rcases snoc_at hy with ⟨q, hy⟩ | ⟨q, rfl⟩
  · rw [List.getElem?_append_left (by rw [h.len]; exact q)] at hu
    exact row_only (h.each j y u hy hu) ho (stz_ne h.row (h.each j y u hy hu))
  · rw [q, ← h.len, List.getElem?_append_right (Nat.le_refl _)] at hu
    simp at hu
    subst hu; exact hx
theorem AccZ.set {lo : Nat} {w W : World} {v : Value} {fvs : List Value} {rs : List Stz} {b : Nat} (h : AccZ lo w W v fvs rs) (hb : b < lo) (hbw : w.heap.size ≤ b) (u : Value) : AccZ lo w (W.setCell ⟨b, 0, none⟩ u) v fvs rs :=
  ⟨row_cell h.row (fun e => by have := (h.row.lt b e).1; omega) _, h.len, fun j s x h1 h2 => row_cell (h.each j s x h1 h2) (fun e => by have := ((h.each j s x h1 h2).lt b e).1; omega) _, h.below.setCell (p := ⟨b, 0, none⟩) hbw _⟩
end Go.Proofs.Ytiebbgbcojgeoaa

