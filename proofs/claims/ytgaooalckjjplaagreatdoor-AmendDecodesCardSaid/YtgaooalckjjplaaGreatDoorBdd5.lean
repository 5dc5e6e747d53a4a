/- Texts put together: IM, AC, EE, AE, AM, BD, BE. -/
import Derived.Lib.Strings
import Derived.Below
import Derived.WideShapes
import Derived.Test.YtgaooalckjjplaaGreatDoorBfa1
import Derived.Test.YtgaooalckjjplaaGreatDoorBfa2
import Derived.Test.YtgaooalckjjplaaGreatDoorBfa3
import Derived.Test.YtgaooalckjjplaaGreatDoorBfa4
import Derived.Test.YtgaooalckjjplaaGreatDoorBfa5
import Derived.Test.YtgaooalckjjplaaGreatDoorBfa7
import Derived.Test.YtgaooalckjjplaaGreatDoorBfa8
import Derived.Test.YtgaooalckjjplaaGreatDoorBfa9
import Derived.Test.YtgaooalckjjplaaGreatDoorBfa10
import Derived.Test.YtgaooalckjjplaaGreatDoorBfa11
import Derived.Test.YtgaooalckjjplaaGreatDoorBfa12
import Derived.Test.YtgaooalckjjplaaGreatDoorBfa13
import Derived.Test.YtgaooalckjjplaaGreatDoorBfa14
import Derived.Test.YtgaooalckjjplaaGreatDoorBfa15
import Derived.Test.YtgaooalckjjplaaGreatDoorBfa16
import Derived.Test.YtgaooalckjjplaaGreatDoorBdd1
import Derived.Test.YtgaooalckjjplaaGreatDoorBdd2
import Derived.Test.YtgaooalckjjplaaGreatDoorBdd3
import Derived.Test.YtgaooalckjjplaaGreatDoorBdd4
set_option linter.unusedVariables false
namespace Go.Proofs.YtgaooalckjjplaaGreatDoor
def sees (x : Ln) : List UInt8 × Bool := (x.text, x.ended)

theorem head_cleanI (t r : List UInt8) (h : (10 : UInt8) ∉ t) : head (t ++ 10 :: r) = t := by
  unfold head
  induction t with
  | nil => simp
  | cons c t ih =>
    have hc : c ≠ 10 := fun e => h (by rw [e]; exact List.mem_cons_self)
    rw [List.cons_append, List.takeWhile_cons, if_pos (by simp [hc]), ih (fun hm => h (List.mem_cons_of_mem _ hm))]
theorem head_all (t : List UInt8) (h : (10 : UInt8) ∉ t) : head t = t := by
  unfold head
  induction t with
  | nil => rfl
  | cons c t ih =>
    have hc : c ≠ 10 := fun e => h (by rw [e]; exact List.mem_cons_self)
    rw [List.takeWhile_cons, if_pos (by simp [hc]), ih (fun hm => h (List.mem_cons_of_mem _ hm))]
theorem nl_clean (t : List UInt8) (h : (10 : UInt8) ∉ t) : nl t = false := by
  unfold nl
  rw [Bool.eq_false_iff]
  intro hc
  exact h (by simpa using hc)
theorem nl_end (t r : List UInt8) : nl (t ++ 10 :: r) = true := by unfold nl; simp

/-- Lines again. -/
theorem linesOn_wf : ∀ (xs : List Ln) (no at_ : Nat), wf xs → (linesOn no at_ (xs.flatMap Ln.bytes)).map sees = xs.map sees
  | [], no, at_, _ => by simp [linesOn_nil]
  | x :: xs, no, at_, ⟨h1, h2, h3⟩ => by
    rcases h2 with he | ⟨rfl, hne⟩
    · have eb : (x :: xs).flatMap Ln.bytes = x.text ++ 10 :: xs.flatMap Ln.bytes := by simp [Ln.bytes, he]
      rw [eb, linesOn_cons _ _ _ (by simp)]
      rw [head_cleanI _ _ h1, nl_end]
      have hu : used (x.text ++ 10 :: xs.flatMap Ln.bytes) = x.text.length + 1 := by
        unfold used; rw [head_cleanI _ _ h1, nl_end]; simp
      have hd : (x.text ++ 10 :: xs.flatMap Ln.bytes).drop (x.text.length + 1) = xs.flatMap Ln.bytes := by
        rw [show x.text ++ 10 :: xs.flatMap Ln.bytes = (x.text ++ [10]) ++ xs.flatMap Ln.bytes by simp]
        exact List.drop_left' (by simp)
      rw [hu, hd, List.map_cons, List.map_cons, linesOn_wf xs _ _ h3]
      simp [sees, he]
    · have he : x.ended = false ∨ x.ended = true := by cases x.ended <;> simp
      rcases he with he | he
      · have eb : [x].flatMap Ln.bytes = x.text := by simp [Ln.bytes, he]
        rw [eb, linesOn_cons _ _ _ hne, head_all _ h1, nl_clean _ h1]
        have hu : used x.text = x.text.length := by unfold used; rw [head_all _ h1, nl_clean _ h1]; simp
        rw [hu, List.drop_length, linesOn_nil]
        simp [sees, he]
      · have eb : [x].flatMap Ln.bytes = x.text ++ 10 :: [] := by simp [Ln.bytes, he]
        rw [eb, linesOn_cons _ _ _ (by simp), head_cleanI _ _ h1, nl_end]
        have hu : used (x.text ++ 10 :: []) = x.text.length + 1 := by unfold used; rw [head_cleanI _ _ h1, nl_end]; simp
        rw [hu]
        have hd : (x.text ++ 10 :: []).drop (x.text.length + 1) = [] := by rw [List.drop_eq_nil_of_le]; simp
        rw [hd, linesOn_nil]
        simp [sees, he]
theorem wf_linesOn : ∀ (n no at_ : Nat) (l : List UInt8), l.length ≤ n → wf (linesOn no at_ l)
  | 0, _, _, l, h => by
    have : l = [] := List.length_eq_zero_iff.1 (by omega)
    subst this; rw [linesOn_nil]; trivial
  | n + 1, no, at_, l, h => by
    by_cases hl : l = []
    · subst hl; rw [linesOn_nil]; trivial
    · have hp := used_pos l hl
      have hc := linesOn_clean l.length no at_ l (Nat.le_refl _)
      rw [linesOn_cons _ _ _ hl] at hc ⊢
      refine ⟨hc _ List.mem_cons_self, ?_, wf_linesOn n _ _ _ (by simp only [List.length_drop]; omega)⟩
      cases hn : nl l with
      | true => exact .inl rfl
      | false =>
        have hh : head l = l := head_all l (fun hm => by unfold nl at hn; simp at hn; exact hn hm)
        have hu : used l = l.length := by unfold used; rw [hh, hn]; simp
        refine .inr ⟨?_, ?_⟩
        · rw [hu, List.drop_length, linesOn_nil]
        · show head l ≠ []
          rw [hh]; exact hl
theorem wf_linesOf (l : List UInt8) : wf (linesOf l) := wf_linesOn _ _ _ _ (Nat.le_refl _)

theorem wf_ahead (j : List UInt8) (hj : (10 : UInt8) ∉ j) : ∀ xs, wf xs → wf (xs.map (ahead j))
  | [], _ => trivial
  | x :: xs, ⟨h1, h2, h3⟩ => by
    refine ⟨fun hm => ?_, ?_, wf_ahead j hj xs h3⟩
    · rcases List.mem_append.1 hm with h | h
      · exact hj h
      · exact h1 h
    · rcases h2 with h | ⟨rfl, h⟩
      · exact .inl h
      · refine .inr ⟨rfl, fun e => h ?_⟩
        exact (List.append_eq_nil_iff.1 e).2
/-- A text without another one ahead of each line; false: it isn't there. -/
def dd (p : List UInt8) (ys : List (List UInt8 × Bool)) : List UInt8 × Bool :=
  if ys.all (fun y => p.isPrefixOf y.1) then (ys.flatMap (fun y => y.1.drop p.length ++ if y.2 then [10] else []), true) else ([], false)
theorem dd_ahead (j : List UInt8) (hj : (10 : UInt8) ∉ j) (l : List UInt8) :
    dd j ((linesOf ((linesOf l).flatMap fun x => j ++ x.bytes)).map sees) = (l, true) := by
  have e : (linesOf l).flatMap (fun x => j ++ x.bytes) = ((linesOf l).map (ahead j)).flatMap Ln.bytes := by
    rw [List.flatMap_map]
    congr 1
    funext x
    simp only [Ln.bytes, ahead, List.append_assoc]
    rfl
  rw [e]
  rw [show linesOf (((linesOf l).map (ahead j)).flatMap Ln.bytes) = linesOn 0 0 (((linesOf l).map (ahead j)).flatMap Ln.bytes) from rfl, linesOn_wf _ 0 0 (wf_ahead j hj _ (wf_linesOf l))]
  unfold dd
  rw [if_pos]
  · congr 1
    conv => rhs; rw [← linesOf_join l]
    rw [List.map_map, List.flatMap_map]
    congr 1
    funext x
    simp [sees, ahead, Ln.bytes]
    rfl
  · rw [List.all_eq_true]
    intro y hy
    obtain ⟨x, hx, rfl⟩ := List.mem_map.1 hy
    obtain ⟨x, hx, rfl⟩ := List.mem_map.1 hx
    simp [sees, ahead]
end Go.Proofs.YtgaooalckjjplaaGreatDoor

namespace Go.Proofs.YtgaooalckjjplaaGreatDoor

def kindOf (l : List UInt8) : Int := if l = wordL 1 then 1 else if l = wordL 2 then 2 else if l = wordL 3 then 3 else 0
theorem kindOf_word {k : Int} (h : k = 1 ∨ k = 2 ∨ k = 3) : kindOf (wordL k) = k := by
  rcases h with rfl | rfl | rfl <;> decide
def unfoldF (t : List UInt8) : List Fld := match parseL (dd [32, 32] ((linesOf t).map sees)).1 with | .error _ => [] | .ok its => (recs its).flatten
def lineS (t : List UInt8) : List UInt8 := t.takeWhile (· != 10)
def restD (t : List UInt8) : List UInt8 := t.drop ((lineS t).length + 1)
def nameS (t : List UInt8) : List UInt8 := (Lib.trimPrefix (lineS t) [32]).takeWhile (· != 32)
def figS (t : List UInt8) : List UInt8 := (Lib.trimPrefix (lineS t) [32]).drop ((nameS t).length + 1)
/-- The edit that a piece of a text says. -/
def saidE (t : List UInt8) : Ed := ⟨kindOf (nameS t), atoiV (figS t), unfoldF (restD t)⟩
theorem takeW (c : UInt8) (a b : List UInt8) (h : c ∉ a) : (a ++ c :: b).takeWhile (· != c) = a := by
  induction a with
  | nil => simp
  | cons x r ih =>
    have hx : (x != c) = true := by
      have : c ≠ x := fun e => h (e ▸ List.mem_cons_self)
      simp; exact fun e => this e.symm
    rw [List.cons_append, List.takeWhile_cons, if_pos hx, ih (fun hm => h (List.mem_cons_of_mem _ hm))]
theorem dropW (c : UInt8) (a b : List UInt8) : (a ++ c :: b).drop (a.length + 1) = b := by
  rw [show a ++ c :: b = (a ++ [c]) ++ b by simp]
  exact List.drop_left' (by simp)
/-- What good fields' indented lines say. -/
theorem unfold_good {fs : List Fld} (h : GoodF fs) : unfoldF (textL ((linesFs fs).map ind2)) = fs := by
  unfold unfoldF
  have e := dd_ahead [32, 32] (by decide) (textL (linesFs fs))
  rw [ind_text _ h.clean] at e
  rw [e]
  show (match parseL (textL (linesFs fs)) with | .error _ => [] | .ok its => (recs its).flatten) = fs
  by_cases h0 : fs = []
  · subst h0; rfl
  · have p := parse_between [⟨3, textL (linesFs fs), fs⟩] (by show 1 ≤ 400; decide) (fun it hit => by rw [List.mem_singleton.1 hit]; exact blk_fields fs h.each h0 h.len)
    have e1 : (apartL [(⟨3, textL (linesFs fs), fs⟩ : It)]) = [⟨3, textL (linesFs fs), fs⟩] := rfl
    rw [e1] at p
    have e2 : ([(⟨3, textL (linesFs fs), fs⟩ : It)].flatMap It.raw) = textL (linesFs fs) := by simp
    rw [e2] at p
    rw [p]
    show (recs [(⟨3, textL (linesFs fs), fs⟩ : It)]).flatten = fs
    simp [recs]
theorem said_good {ed : Ed} (h : GoodF ed.fields) (hk : ed.kind = 1 ∨ ed.kind = 2 ∨ ed.kind = 3) (hi : I64 ed.id) : saidE (edT ed) = ed := by
  have e : edT ed = lineA ed.kind ed.id ++ 10 :: textL ((linesFs ed.fields).map ind2) := by
    show textL (_ :: _) = _
    unfold textL; simp
  have e1 : lineS (edT ed) = lineA ed.kind ed.id := by rw [e]; exact takeW 10 _ _ (lineA_clean _ _)
  have e2 : restD (edT ed) = textL ((linesFs ed.fields).map ind2) := by unfold restD; rw [e1, e]; exact dropW 10 _ _
  have e3 : lineA ed.kind ed.id = 32 :: (wordL ed.kind ++ 32 :: Lib.itoa ed.id) := by unfold lineA; rw [if_pos hk]
  have e4 : Lib.trimPrefix (lineS (edT ed)) [32] = wordL ed.kind ++ 32 :: Lib.itoa ed.id := by
    rw [e1, e3]; simp [Lib.trimPrefix, Lib.hasPrefix]
  have e5 : nameS (edT ed) = wordL ed.kind := by unfold nameS; rw [e4]; exact takeW 32 _ _ (wordL_no (by decide))
  have e6 : figS (edT ed) = Lib.itoa ed.id := by unfold figS; rw [e4, e5]; exact dropW 32 _ _
  unfold saidE
  rw [e5, e6, e2, kindOf_word hk, atoiV_itoa hi, unfold_good h]
/-- The pieces of a text: the program's cuts. -/
def piecesOn (t : List UInt8) : Nat → List Ln → List (List UInt8)
  | b, [] => [t.drop b]
  | b, x :: r => if b < x.at_ ∧ Lib.hasPrefix x.text [32, 32] = false then (t.drop b).take (x.at_ - b) :: piecesOn t x.at_ r else piecesOn t b r
def readL (t : List UInt8) : List Ed := (piecesOn t 0 (linesOf t)).map saidE
theorem pieces_ind (t : List UInt8) (b : Nat) : ∀ (ls : List (List UInt8)) (no c : Nat) (ys : List Ln), piecesOn t b (num no c (ls.map ind2) ++ ys) = piecesOn t b ys
  | [], _, _, _ => rfl
  | l :: r, no, c, ys => by
    show piecesOn t b (⟨no, c, ind2 l, true⟩ :: (num (no + 1) (c + (ind2 l).length + 1) (r.map ind2) ++ ys)) = _
    rw [piecesOn, if_neg (by intro h; exact absurd h.2 (by simp [Lib.hasPrefix, ind2]))]
    exact pieces_ind t b r _ _ ys
theorem lineA_two {k id : Int} (hk : k = 1 ∨ k = 2 ∨ k = 3) : Lib.hasPrefix (lineA k id) [32, 32] = false := by
  unfold lineA
  rw [if_pos hk]
  rcases hk with rfl | rfl | rfl <;> rfl
theorem pieces_eds (t : List UInt8) : ∀ (r : List Ed) (pre cur : List UInt8) (no : Nat), t = pre ++ (cur ++ batchT r) → cur ≠ [] → (∀ ed ∈ r, ed.kind = 1 ∨ ed.kind = 2 ∨ ed.kind = 3) →
    piecesOn t pre.length (num no (pre.length + cur.length) (batchLs r)) = cur :: r.map edT
  | [], pre, cur, no, h, hc, _ => by
    show [t.drop pre.length] = [cur]
    rw [h, List.drop_left' rfl, batchT_nil, List.append_nil]
  | e :: r, pre, cur, no, h, hc, hk => by
    have hpos : 0 < cur.length := List.length_pos_iff.2 hc
    have e1 : batchLs (e :: r) = lineA e.kind e.id :: ((linesFs e.fields).map ind2 ++ batchLs r) := by
      unfold batchLs; rw [List.flatMap_cons]; rfl
    rw [e1]
    show piecesOn t pre.length (⟨no, pre.length + cur.length, lineA e.kind e.id, true⟩ :: num (no + 1) (pre.length + cur.length + (lineA e.kind e.id).length + 1) ((linesFs e.fields).map ind2 ++ batchLs r)) = _
    rw [piecesOn, if_pos ⟨by show pre.length < pre.length + cur.length; omega, lineA_two (hk e List.mem_cons_self)⟩]
    rw [num_append, pieces_ind]
    have ih := pieces_eds t r (pre ++ cur) (edT e) (no + 1 + ((linesFs e.fields).map ind2).length) (by rw [h, batchT_cons]; simp) (by unfold edT edLs textL; simp) (fun x hx => hk x (List.mem_cons_of_mem _ hx))
    have el : (edT e).length = (lineA e.kind e.id).length + 1 + (textL ((linesFs e.fields).map ind2)).length := by unfold edT edLs textL; simp; omega
    rw [List.length_append] at ih
    rw [show pre.length + cur.length + (lineA e.kind e.id).length + 1 + (textL ((linesFs e.fields).map ind2)).length = pre.length + cur.length + (edT e).length by omega]
    rw [show (⟨no, pre.length + cur.length, lineA e.kind e.id, true⟩ : Ln).at_ = pre.length + cur.length from rfl, ih, List.map_cons]
    congr 1
    rw [h, List.drop_left' rfl, show pre.length + cur.length - pre.length = cur.length by omega, List.take_left' rfl]
/-- A good batch's text is read to it. -/
theorem read_batch {eds : List Ed} (h0 : eds ≠ []) (hg : ∀ ed ∈ eds, goodE ed = 0) (hi : ∀ ed ∈ eds, I64 ed.id) : readL (batchT eds) = eds := by
  cases eds with
  | nil => exact absurd rfl h0
  | cons e r =>
    unfold readL
    rw [show linesOf (batchT (e :: r)) = num 0 0 (batchLs (e :: r)) from linesOn_num _ 0 0 (batchLs_clean hg)]
    have e1 : batchLs (e :: r) = lineA e.kind e.id :: ((linesFs e.fields).map ind2 ++ batchLs r) := by
      unfold batchLs; rw [List.flatMap_cons]; rfl
    have e2 : piecesOn (batchT (e :: r)) 0 (num 0 0 (batchLs (e :: r))) = (e :: r).map edT := by
      rw [e1]
      show piecesOn _ 0 (⟨0, 0, lineA e.kind e.id, true⟩ :: num 1 (0 + (lineA e.kind e.id).length + 1) ((linesFs e.fields).map ind2 ++ batchLs r)) = _
      rw [piecesOn, if_neg (by intro h; exact absurd h.1 (Nat.lt_irrefl _)), num_append, pieces_ind]
      have ih := pieces_eds (batchT (e :: r)) r [] (edT e) (1 + ((linesFs e.fields).map ind2).length) (by rw [batchT_cons]; rfl) (by unfold edT edLs textL; simp) (fun x hx => goodE_kind (hg x (List.mem_cons_of_mem _ hx)))
      have el : (edT e).length = (lineA e.kind e.id).length + 1 + (textL ((linesFs e.fields).map ind2)).length := by unfold edT edLs textL; simp; omega
      rw [el] at ih
      simp only [List.length_nil] at ih
      rw [show 0 + ((lineA e.kind e.id).length + 1 + (textL ((linesFs e.fields).map ind2)).length) = 0 + (lineA e.kind e.id).length + 1 + (textL ((linesFs e.fields).map ind2)).length by omega] at ih
      exact ih
    rw [e2, List.map_map]
    conv => rhs; rw [← List.map_id (e :: r)]
    exact List.map_congr_left fun x hx => said_good (goodE_F (hg x hx)) (goodE_kind (hg x hx)) (hi x hx)
/-- The batch whose text this is. -/
def decL (t : List UInt8) : Option (List Ed) := if t.length ≤ 50000 ∧ (chkB (readL t)).2 = 0 ∧ batchT (readL t) = t then some (readL t) else none
theorem atoiV_I64 (l : List UInt8) : I64 (atoiV l) := by
  unfold atoiV
  cases h : Lib.atoiAll l with
  | ok v =>
    show I64 v
    unfold Lib.atoiAll at h
    split at h
    · cases h
    · simp only at h
      split at h
      · cases h
      · cases h
      · split at h
        · cases h
        · split at h
          · cases h
          · injection h with h
            subst h
            split
            · exact ⟨by omega, by omega⟩
            · exact ⟨by omega, by omega⟩
  | range =>
    show I64 (Lib.atoiSat l)
    unfold Lib.atoiSat
    split
    · exact ⟨by decide, by decide⟩
    · exact ⟨by decide, by decide⟩
  | _ => exact (⟨by decide, by decide⟩ : I64 0)
theorem read_I64 (t : List UInt8) : ∀ ed ∈ readL t, I64 ed.id := by
  intro ed hed
  obtain ⟨p, _, rfl⟩ := List.mem_map.1 hed
  exact atoiV_I64 _
theorem decL_iff {t : List UInt8} {eds : List Ed} : decL t = some eds ↔ t.length ≤ 50000 ∧ (chkB eds).2 = 0 ∧ (∀ ed ∈ eds, I64 ed.id) ∧ batchT eds = t := by
  unfold decL
  constructor
  · intro h
    split at h
    · rename_i q
      injection h with h
      subst h
      exact ⟨q.1, q.2.1, read_I64 t, q.2.2⟩
    · cases h
  · rintro ⟨h1, h2, h3, rfl⟩
    obtain ⟨⟨a, b⟩, c⟩ := chkB_good h2
    have e := read_batch (by intro e; rw [e] at a; simp at a) c h3
    rw [if_pos ⟨h1, by rw [e]; exact h2, by rw [e]⟩, e]
end Go.Proofs.YtgaooalckjjplaaGreatDoor

namespace Go.Proofs.YtgaooalckjjplaaGreatDoor
open Go.RowKit Go.Extern.Stop Go.Stop Go.Extern

abbrev hPP : Value := .pointer (some ⟨9, 208, none⟩)
end Go.Proofs.YtgaooalckjjplaaGreatDoor

namespace Go.Proofs.YtgaooalckjjplaaGreatDoor
open Go.RowKit Go.Shelf
attribute [local go_sem] Oper.semAt_some

theorem bsameA (a b : List UInt8) : ((B a).toList == (B b).toList) = decide (a = b) := by rw [Lib.toList_data, Lib.toList_data, B_data, B_data, Bool.eq_iff_iff]; simp
end Go.Proofs.YtgaooalckjjplaaGreatDoor

namespace Go.Proofs.YtgaooalckjjplaaGreatDoor
open Go.RowKit Go.Shelf
attribute [local go_sem] Oper.semAt_some

set_option maxRecDepth 100000 in
set_option maxHeartbeats 4000000 in
theorem unsigned_any (u : Nat) (hu : u < 18446744073709551616) (w : World) : Calls Tryz.prog 138 #[.int .u64 u] w fun e w' => e = .returned (.string (B (Lib.decDigits u))) ∧ w' = w := by
  induction u using Nat.strongRecOn generalizing w with
  | _ u ih =>
    by_cases h : u < 10
    · rw [Lib.decDigits_one h]
      clear ih hu
      obtain rfl | rfl | rfl | rfl | rfl | rfl | rfl | rfl | rfl | rfl : u = 0 ∨ u = 1 ∨ u = 2 ∨ u = 3 ∨ u = 4 ∨ u = 5 ∨ u = 6 ∨ u = 7 ∨ u = 8 ∨ u = 9 := by omega
      all_goals
        go_enter Tryz.func138, Tryz.ntmps138
        go_wp2_with fail
        go_ret
        exact ⟨by kernel_rfl, rfl⟩
    · have q : ¬ (u : Int) < 10 := by omega
      have I1 := Lib.hid (ih (u / 10) (by omega) (by omega))
      have I2 := Lib.hid (ih (u % 10) (by omega) (by omega))
      rw [Int.natCast_ediv] at I1
      rw [Int.natCast_emod] at I2
      have E : Hid (B (Lib.decDigits (u / 10)) ++ B (Lib.decDigits (u % 10)) = B (Lib.decDigits u)) := by
        show _ = _
        rw [B_append, Lib.decDigits_one (i := u % 10) (by omega)]
        congr 1
        conv => rhs; rw [Lib.decDigits, dif_neg h]
      have S1 : (B (Lib.decDigits (u / 10))).size ≤ 30 := by
        rw [B_size, Lib.decDigits_length]
        have := Lib.nDigits_le20 (u / 10) (by omega)
        omega
      have S2 : (B (Lib.decDigits (u % 10))).size ≤ 30 := by rw [B_size, Lib.decDigits_one (by omega)]; exact (by decide : 1 ≤ 30)
      clear ih
      generalize B (Lib.decDigits (u / 10)) = x at *
      generalize B (Lib.decDigits (u % 10)) = y at *
      go_enter Tryz.func138, Tryz.ntmps138
      go_wp2_with fail
      refine (I1.out _).mono ?_
      rintro e w1 ⟨rfl, rfl⟩
      go_wp2_with fail
      refine (I2.out _).mono ?_
      rintro e w1 ⟨rfl, rfl⟩
      go_wp2_with fail
      go_ret
      exact ⟨by rw [← E.out]; rfl, rfl⟩
set_option maxRecDepth 100000 in
set_option maxHeartbeats 4000000 in
theorem figures_any (n : Int) (hn : I64 n) (w : World) : Calls Tryz.prog 95 #[.int .i64 n] w fun e w' => e = .returned (.string (B (Lib.itoa n))) ∧ w' = w := by
  obtain ⟨h0, h1⟩ := hn
  by_cases h : n < 0
  · obtain ⟨u, rfl⟩ : ∃ u : Nat, n = -((u : Int) + 1) := ⟨(-n - 1).toNat, by omega⟩
    have q : -((u : Int) + 1) < 0 := by omega
    have w1 : IntKind.i64.wrap (-((u : Int) + 1) + 1) = -(u : Int) := by rw [show -((u : Int) + 1) + 1 = -(u : Int) by omega]; exact IntWalk.i64_in _ (by omega)
    have w2 : IntKind.i64.wrap (u : Int) = (u : Int) := IntWalk.i64_in _ (by omega)
    have w3 : IntKind.u64.wrap (u : Int) = (u : Int) := by rw [IntKind.wrap_u64]; omega
    have w4 : IntKind.u64.wrap ((u : Int) + 1) = (u : Int) + 1 := by rw [IntKind.wrap_u64]; omega
    have I1 := Lib.hid (unsigned_any (u + 1) (by omega) w)
    rw [Int.natCast_add, show ((1 : Nat) : Int) = 1 from rfl] at I1
    have E : Hid ((⟨#[45]⟩ : ByteArray) ++ B (Lib.decDigits (u + 1)) = B (Lib.itoa (-((u : Int) + 1)))) := by
      show _ = _
      rw [show -((u : Int) + 1) = -((u + 1 : Nat) : Int) by omega, Lib.itoa_neg _ (by omega), show (⟨#[45]⟩ : ByteArray) = B [45] from rfl, B_append]; rfl
    have S1 : (B (Lib.decDigits (u + 1))).size ≤ 30 := by
      rw [B_size, Lib.decDigits_length]
      have := Lib.nDigits_le20 (u + 1) (by omega)
      omega
    generalize B (Lib.decDigits (u + 1)) = x at *
    go_enter Tryz.func95, Tryz.ntmps95
    go_wp2_with fail
    refine I1.out.mono ?_
    rintro e w1 ⟨rfl, rfl⟩
    go_wp2_with fail
    go_ret
    exact ⟨by rw [← E.out]; rfl, rfl⟩
  · obtain ⟨u, rfl⟩ : ∃ u : Nat, n = (u : Int) := ⟨n.toNat, by omega⟩
    have w3 : IntKind.u64.wrap (u : Int) = (u : Int) := by rw [IntKind.wrap_u64]; omega
    have I1 := Lib.hid (unsigned_any u (by omega) w)
    rw [Lib.itoa_nonneg]
    generalize B (Lib.decDigits u) = x at *
    go_enter Tryz.func95, Tryz.ntmps95
    go_wp2_with fail
    refine I1.out.mono ?_
    rintro e w1 ⟨rfl, rfl⟩
    go_wp2_with fail
    go_ret
    exact ⟨rfl, rfl⟩
set_option maxRecDepth 100000 in
set_option maxHeartbeats 4000000 in
theorem refLineA_any (k i : Int) (fv : Value) (hi : I64 i) (w : World) :
    Calls Tryz.prog 49 #[.agg #[.int .i64 k, .int .i64 i, fv]] w fun e w' => e = .returned (.string (B (lineA k i))) ∧ Below w.heap.size w w' := by
  have HB := Lib.hid (show Below w.heap.size w (w.alloc (.cells #[.int .i64 k, .int .i64 i, fv] 64)) from (Below.refl _ w).alloc (Nat.le_refl _) _)
  have FG := Lib.hid (fun W => figures_any i hi W)
  have hil := Lib.itoa_length_le i hi.1 hi.2
  have S1 : (B (Lib.itoa i)).size ≤ 21 := by rw [B_size]; exact hil
  have E : Hid (∀ kk : Int, (kk = 1 ∨ kk = 2 ∨ kk = 3) → B (32 :: (wordL kk ++ [32])) ++ B (Lib.itoa i) = B (lineA kk i)) := by
    intro kk hk
    rw [B_append]; unfold lineA; rw [if_pos hk]; congr 1; simp
  generalize B (Lib.itoa i) = x at *
  by_cases h1 : k = 1
  · subst h1
    have E1 := Lib.hid (E.out 1 (.inl rfl))
    clear E
    go_enter Tryz.func49, Tryz.ntmps49
    go_wp2_with fail
    refine (FG.out _).mono ?_
    rintro e w1 ⟨rfl, rfl⟩
    go_wp2_with fail
    go_ret
    exact ⟨by rw [← E1.out]; rfl, HB.out⟩
  · have q1 : (k == 1) = false := by simpa using h1
    by_cases h2 : k = 2
    · subst h2
      have E1 := Lib.hid (E.out 2 (.inr (.inl rfl)))
      clear E
      go_enter Tryz.func49, Tryz.ntmps49
      go_wp2_with fail
      refine (FG.out _).mono ?_
      rintro e w1 ⟨rfl, rfl⟩
      go_wp2_with fail
      go_ret
      exact ⟨by rw [← E1.out]; rfl, HB.out⟩
    · have q2 : (k == 2) = false := by simpa using h2
      by_cases h3 : k = 3
      · subst h3
        have E1 := Lib.hid (E.out 3 (.inr (.inr rfl)))
        clear E
        go_enter Tryz.func49, Tryz.ntmps49
        go_wp2_with fail
        refine (FG.out _).mono ?_
        rintro e w1 ⟨rfl, rfl⟩
        go_wp2_with fail
        go_ret
        exact ⟨by rw [← E1.out]; rfl, HB.out⟩
      · have q3 : (k == 3) = false := by simpa using h3
        have E1 : lineA k i = [] := by unfold lineA; rw [if_neg (by omega)]
        rw [E1]
        clear E E1
        go_enter Tryz.func49, Tryz.ntmps49
        go_wp2_with fail
        go_ret
        exact ⟨rfl, HB.out⟩
end Go.Proofs.YtgaooalckjjplaaGreatDoor

namespace Go.Proofs.YtgaooalckjjplaaGreatDoor
open Go.RowKit Go.Shelf
attribute [local go_sem] Oper.semAt_some

/-- The number that shortest figures are; none: they aren't. -/
def numL (l : List UInt8) : Option Int := if -9223372036854775808 ≤ atoiV l ∧ atoiV l ≤ 9223372036854775807 ∧ Lib.itoa (atoiV l) = l then some (atoiV l) else none
theorem numL_some {l : List UInt8} {i : Int} : numL l = some i ↔ I64 i ∧ Lib.itoa i = l := by
  unfold numL
  constructor
  · intro h
    split at h
    · rename_i q
      injection h with h
      subst h
      exact ⟨⟨q.1, q.2.1⟩, q.2.2⟩
    · cases h
  · rintro ⟨h1, rfl⟩
    rw [atoiV_itoa h1, if_pos ⟨h1.1, h1.2, rfl⟩]
theorem numL_none {l : List UInt8} (h : ∀ i, I64 i → Lib.itoa i ≠ l) : numL l = none := by
  cases e : numL l with
  | none => rfl
  | some i => exact absurd (numL_some.1 e).2 (h i (numL_some.1 e).1)
def numEnd (l : List UInt8) : Ending := .returned (.tuple #[.int .i64 ((numL l).getD 0), .bool (numL l).isSome])
theorem numEnd_no {l : List UInt8} (h : ∀ i, I64 i → Lib.itoa i ≠ l) : numEnd l = .returned (.tuple #[.int .i64 0, .bool false]) := by unfold numEnd; rw [numL_none h]; rfl
theorem numEnd_yes {l : List UInt8} {i : Int} (h : I64 i) (e : Lib.itoa i = l) : numEnd l = .returned (.tuple #[.int .i64 i, .bool true]) := by unfold numEnd; rw [numL_some.2 ⟨h, e⟩]; rfl
theorem dec_pos (u : Nat) (h : u < 18446744073709551616) : 1 ≤ (Lib.decDigits u).length ∧ (Lib.decDigits u).length ≤ 20 := by
  refine ⟨?_, by rw [Lib.decDigits_length]; exact Lib.nDigits_le20 u h⟩
  rcases Nat.eq_zero_or_pos (Lib.decDigits u).length with q | q
  · exact absurd (List.length_eq_zero_iff.1 q) (dec_ne u)
  · exact q
theorem itoa_len {i : Int} (h : I64 i) : 1 ≤ (Lib.itoa i).length ∧ (Lib.itoa i).length ≤ 20 := by
  obtain ⟨h0, h1⟩ := h
  have hnd : ∀ u : Nat, u ≤ 9223372036854775808 → (Lib.decDigits u).length ≤ 19 := fun u hu => by
    rcases Nat.lt_or_ge 19 (Lib.decDigits u).length with q | q
    · exfalso
      rw [Lib.decDigits_length] at q
      have : ∀ n u : Nat, n < Lib.nDigits u → 10 ^ n ≤ u ∨ n = 0 := by
        intro n
        induction n with
        | zero => exact fun _ _ => .inr rfl
        | succ n ih =>
          intro u hq
          rw [Lib.nDigits] at hq
          split at hq
          · omega
          · rcases ih (u / 10) (by omega) with z | z
            · left; rw [Nat.pow_succ]; omega
            · subst z; left; omega
      rcases this 19 u q with z | z
      · have : (10 : Nat) ^ 19 = 10000000000000000000 := by decide
        omega
      · omega
    · exact q
  unfold Lib.itoa
  split
  · rw [List.length_cons]
    have := hnd i.natAbs (by omega)
    omega
  · exact ⟨(dec_pos _ (by omega)).1, (dec_pos _ (by omega)).2⟩
theorem wrapI (z : Int) : I64 (wrap64 z) := by unfold I64 wrap64; omega
/-- What shortest figures are made of: a sign, digits. -/
theorem itoa_parts {i : Int} (hi : I64 i) {l : List UInt8} (h : Lib.itoa i = l) (a : Nat) (ha : a = if l.head? = some 45 then 1 else 0) :
    ∃ u : Nat, u ≤ 9223372036854775808 ∧ l.drop a = Lib.decDigits u ∧ i = (if a = 1 then -(u : Int) else u) := by
  obtain ⟨h0, h1⟩ := hi
  subst h
  by_cases hn : i < 0
  · have e : Lib.itoa i = 45 :: Lib.decDigits i.natAbs := by unfold Lib.itoa; rw [if_pos hn]
    rw [e] at ha ⊢
    rw [if_pos (by rfl)] at ha
    subst ha
    exact ⟨i.natAbs, by omega, rfl, by simp; omega⟩
  · have e : Lib.itoa i = Lib.decDigits i.toNat := by unfold Lib.itoa; rw [if_neg hn]
    have hd : (Lib.decDigits i.toNat).head? ≠ some 45 := fun q => by
      have := dec_digits i.toNat 45 (List.mem_of_mem_head? q)
      simp at this
    rw [e] at ha ⊢
    rw [if_neg hd] at ha
    subst ha
    exact ⟨i.toNat, by omega, rfl, by simp; omega⟩
/-- One digit more. -/
theorem num_step {u : Nat} (hu : u ≤ 9223372036854775808) {ds : List UInt8} (hd : ds = Lib.decDigits u) {j : Nat} {x : UInt8} (hx : ds[j]? = some x) :
    wrap64 (wrap64 (10 * numOn 0 (ds.take j)) - ((x.toNat : Int) - 48)) = numOn 0 (ds.take (j + 1)) := by
  subst hd
  have e : (Lib.decDigits u).take (j + 1) = (Lib.decDigits u).take j ++ [x] := by rw [List.take_add_one, hx]; rfl
  obtain ⟨m', e', hm'⟩ := numOn_take u (j + 1)
  obtain ⟨m, e1, hm⟩ := numOn_take u j
  have hxd := dec_digits u x (List.mem_of_getElem? hx)
  rw [e, numOn_snoc, e1] at e' ⊢
  rw [IntWalk.wrap64_in (10 * -(m : Int)) (by omega), IntWalk.wrap64_in _ (by omega)]
set_option maxRecDepth 100000 in
set_option maxHeartbeats 8000000 in
theorem number_neg (s : ByteArray) (h1 : 1 ≤ s.size) (h20 : s.size ≤ 20) (hq : ((s[0].toNat : Int) == 45) = true) (w : World) :
    Calls Tryz.prog 50 #[.string s] w fun e w' => e = numEnd s.data.toList ∧ w' = w := by
  have h2 : decide ((s.size : Int) < 1) = false := by simp; omega
  have h3 : decide (20 < (s.size : Int)) = false := by simp; omega
  have AT : ∀ (k : Nat) (h : k < s.size), s.data.toList[k]? = some s[k] := fun k h => by
    rw [List.getElem?_eq_getElem (by rw [← Lib.size_eq]; exact h)]; rfl
  have hhd : s.data.toList.head? = some s[0] := by rw [List.head?_eq_getElem?]; exact AT 0 (by omega)
  have hA : 1 = if s.data.toList.head? = some 45 then 1 else 0 := by
    rw [hhd]
    rw [if_pos (by congr 1; apply UInt8.toNat_inj.1; have e3 : (45 : UInt8).toNat = 45 := rfl; have := eq_of_beq hq; omega)]
  have PT : Hid (∀ i, I64 i → Lib.itoa i = s.data.toList → ∃ u : Nat, u ≤ 9223372036854775808 ∧ s.data.toList.drop 1 = Lib.decDigits u ∧ i = (if 1 = 1 then -(u : Int) else u)) := fun i hi e => itoa_parts hi e 1 hA
  have HAT := Lib.hid AT
  have hlen : s.data.toList.length = s.size := (Lib.size_eq s).symm
  clear AT hA hhd
  go_enter Tryz.func50, Tryz.ntmps50
  go_wp2_with fail
  go_loop [5, 6] (fun o i => ∃ (j : Nat) (z : Int), 1 ≤ j ∧ j ≤ s.size ∧ i = .int .i64 j ∧ o = .int .i64 z ∧ I64 z ∧ ((∃ i, I64 i ∧ Lib.itoa i = s.data.toList) → z = numOn 0 ((s.data.toList.drop 1).take (j - 1)))) (fun _ i => s.size - (intOf i).toNat)
  case atStart => exact ⟨1, 0, Nat.le_refl _, by omega, rfl, rfl, ⟨by decide, by decide⟩, fun _ => rfl⟩
  case round =>
    obtain ⟨j, z, hj1, hj, rfl, rfl, hz, hnum⟩ := hrel
    obtain ⟨z0, z1⟩ := _root_.id hz
    by_cases hlt : j < s.size
    · have hb := s[j].toNat_lt
      have hx := HAT.out j hlt
      by_cases hr : ¬ (48 ≤ s[j].toNat ∧ s[j].toNat ≤ 57)
      · have NO := Lib.hid (numEnd_no (l := s.data.toList) (fun i hi e => by
          obtain ⟨u, _, hd, _⟩ := PT.out i hi e
          have hm : s[j] ∈ s.data.toList.drop 1 := List.mem_of_getElem? (i := j - 1) (by rw [List.getElem?_drop, show 1 + (j - 1) = j by omega]; exact hx)
          rw [hd] at hm
          exact hr (dec_digits u _ hm)))
        clear hnum hx hz
        by_cases hc : s[j].toNat < 48
        · have q1 : decide ((s[j].toNat : Int) < 48) = true := by simp; omega
          go_wp2_with fail
          go_ret2
          exact ⟨by rw [NO.out]; rfl, rfl⟩
        · have q1 : decide ((s[j].toNat : Int) < 48) = false := by simp; omega
          have q2 : decide (57 < (s[j].toNat : Int)) = true := by simp; omega
          go_wp2_with fail
          go_ret2
          exact ⟨by rw [NO.out]; rfl, rfl⟩
      · replace hr := Classical.not_not.1 hr
        have q1 : decide ((s[j].toNat : Int) < 48) = false := by simp; omega
        have q2 : decide (57 < (s[j].toNat : Int)) = false := by simp; omega
        have ST : Hid ((∃ i, I64 i ∧ Lib.itoa i = s.data.toList) → wrap64 (wrap64 (10 * z) - ((s[j].toNat : Int) - 48)) = numOn 0 ((s.data.toList.drop 1).take (j + 1 - 1))) := fun hex => by
          obtain ⟨i, hi, e⟩ := _root_.id hex
          obtain ⟨u, hu, hd, _⟩ := PT.out i hi e
          rw [hnum hex, show j + 1 - 1 = (j - 1) + 1 by omega]
          exact num_step hu hd (by rw [List.getElem?_drop, show 1 + (j - 1) = j by omega]; exact hx)
        clear hnum hx
        go_wp2_with fail
        go_round
        case rel => exact ⟨j + 1, _, by omega, hlt, by go_num, rfl, wrapI _, ST.out⟩
        case measure => simp [intOf]; omega
    · obtain rfl : j = s.size := by omega
      obtain ⟨z2, hz2⟩ : ∃ z2, z2 = z := ⟨_, rfl⟩
      have hI : I64 z2 := by rw [hz2]; exact hz
      have UN : ∀ i, I64 i → Lib.itoa i = s.data.toList → z2 = i := fun i hi e => by
        obtain ⟨u, hu, hd, hiu⟩ := PT.out i hi e
        have hn := hnum ⟨i, hi, e⟩
        rw [List.take_of_length_le (by rw [List.length_drop, hlen]; exact Nat.le_refl _), hd, numOn_dec] at hn
        obtain ⟨i0, i1⟩ := hi
        simp at hiu
        omega
      have FG := Lib.hid (figures_any z2 hI w)
      by_cases he : Lib.itoa z2 = s.data.toList
      · have YES := Lib.hid (numEnd_yes hI he)
        have hB : B (Lib.itoa z2) = s := by rw [he]; rfl
        rw [hB] at FG
        clear hnum UN he hB
        have HZ := Lib.hid hz2
        clear hz2
        go_wp2_with fail
        rw [← HZ.out]
        refine FG.out.mono ?_
        rintro e w' ⟨rfl, rfl⟩
        go_wp2_with fail
        go_ret2
        exact ⟨by rw [YES.out]; rfl, rfl⟩
      · have NO := Lib.hid (numEnd_no (l := s.data.toList) (fun i hi e => he (by rw [UN i hi e]; exact e)))
        have hne : ¬ (B (Lib.itoa z2)).toList = s.toList := fun e => he (by rw [Lib.toList_data, Lib.toList_data, B_data] at e; exact e)
        have hnb : ((B (Lib.itoa z2)).toList == s.toList) = false := by simpa using hne
        clear hnum UN he
        have HZ := Lib.hid hz2
        clear hz2
        generalize B (Lib.itoa z2) = V at *
        go_wp2_with fail
        rw [← HZ.out]
        refine FG.out.mono ?_
        rintro e w' ⟨rfl, rfl⟩
        go_wp2_with fail
        go_ret2
        exact ⟨by rw [NO.out]; rfl, rfl⟩
set_option maxRecDepth 100000 in
set_option maxHeartbeats 8000000 in
theorem number_pos (s : ByteArray) (h1 : 1 ≤ s.size) (h20 : s.size ≤ 20) (hq : ((s[0].toNat : Int) == 45) = false) (w : World) :
    Calls Tryz.prog 50 #[.string s] w fun e w' => e = numEnd s.data.toList ∧ w' = w := by
  have h2 : decide ((s.size : Int) < 1) = false := by simp; omega
  have h3 : decide (20 < (s.size : Int)) = false := by simp; omega
  have AT : ∀ (k : Nat) (h : k < s.size), s.data.toList[k]? = some s[k] := fun k h => by
    rw [List.getElem?_eq_getElem (by rw [← Lib.size_eq]; exact h)]; rfl
  have hhd : s.data.toList.head? = some s[0] := by rw [List.head?_eq_getElem?]; exact AT 0 (by omega)
  have hA : 0 = if s.data.toList.head? = some 45 then 1 else 0 := by
    rw [hhd]
    rw [if_neg (fun e => by have e2 := congrArg UInt8.toNat (Option.some.inj e); rw [e2] at hq; simp at hq)]
  have PT : Hid (∀ i, I64 i → Lib.itoa i = s.data.toList → ∃ u : Nat, u ≤ 9223372036854775808 ∧ s.data.toList.drop 0 = Lib.decDigits u ∧ i = (if 0 = 1 then -(u : Int) else u)) := fun i hi e => itoa_parts hi e 0 hA
  have HAT := Lib.hid AT
  have hlen : s.data.toList.length = s.size := (Lib.size_eq s).symm
  clear AT hA hhd
  go_enter Tryz.func50, Tryz.ntmps50
  go_wp2_with fail
  go_loop [5, 6] (fun o i => ∃ (j : Nat) (z : Int), 0 ≤ j ∧ j ≤ s.size ∧ i = .int .i64 j ∧ o = .int .i64 z ∧ I64 z ∧ ((∃ i, I64 i ∧ Lib.itoa i = s.data.toList) → z = numOn 0 ((s.data.toList.drop 0).take (j - 0)))) (fun _ i => s.size - (intOf i).toNat)
  case atStart => exact ⟨0, 0, Nat.le_refl _, by omega, rfl, rfl, ⟨by decide, by decide⟩, fun _ => rfl⟩
  case round =>
    obtain ⟨j, z, hj1, hj, rfl, rfl, hz, hnum⟩ := hrel
    obtain ⟨z0, z1⟩ := _root_.id hz
    by_cases hlt : j < s.size
    · have hb := s[j].toNat_lt
      have hx := HAT.out j hlt
      by_cases hr : ¬ (48 ≤ s[j].toNat ∧ s[j].toNat ≤ 57)
      · have NO := Lib.hid (numEnd_no (l := s.data.toList) (fun i hi e => by
          obtain ⟨u, _, hd, _⟩ := PT.out i hi e
          have hm : s[j] ∈ s.data.toList.drop 0 := List.mem_of_getElem? (i := j - 0) (by rw [List.getElem?_drop, show 0 + (j - 0) = j by omega]; exact hx)
          rw [hd] at hm
          exact hr (dec_digits u _ hm)))
        clear hnum hx hz
        by_cases hc : s[j].toNat < 48
        · have q1 : decide ((s[j].toNat : Int) < 48) = true := by simp; omega
          go_wp2_with fail
          go_ret2
          exact ⟨by rw [NO.out]; rfl, rfl⟩
        · have q1 : decide ((s[j].toNat : Int) < 48) = false := by simp; omega
          have q2 : decide (57 < (s[j].toNat : Int)) = true := by simp; omega
          go_wp2_with fail
          go_ret2
          exact ⟨by rw [NO.out]; rfl, rfl⟩
      · replace hr := Classical.not_not.1 hr
        have q1 : decide ((s[j].toNat : Int) < 48) = false := by simp; omega
        have q2 : decide (57 < (s[j].toNat : Int)) = false := by simp; omega
        have ST : Hid ((∃ i, I64 i ∧ Lib.itoa i = s.data.toList) → wrap64 (wrap64 (10 * z) - ((s[j].toNat : Int) - 48)) = numOn 0 ((s.data.toList.drop 0).take (j + 1 - 0))) := fun hex => by
          obtain ⟨i, hi, e⟩ := _root_.id hex
          obtain ⟨u, hu, hd, _⟩ := PT.out i hi e
          rw [hnum hex, show j + 1 - 0 = (j - 0) + 1 by omega]
          exact num_step hu hd (by rw [List.getElem?_drop, show 0 + (j - 0) = j by omega]; exact hx)
        clear hnum hx
        go_wp2_with fail
        go_round
        case rel => exact ⟨j + 1, _, by omega, hlt, by go_num, rfl, wrapI _, ST.out⟩
        case measure => simp [intOf]; omega
    · obtain rfl : j = s.size := by omega
      obtain ⟨z2, hz2⟩ : ∃ z2, z2 = wrap64 (-z) := ⟨_, rfl⟩
      have hI : I64 z2 := by rw [hz2]; exact wrapI _
      have UN : ∀ i, I64 i → Lib.itoa i = s.data.toList → z2 = i := fun i hi e => by
        obtain ⟨u, hu, hd, hiu⟩ := PT.out i hi e
        have hn := hnum ⟨i, hi, e⟩
        rw [List.take_of_length_le (by rw [List.length_drop, hlen]; exact Nat.le_refl _), hd, numOn_dec] at hn
        obtain ⟨i0, i1⟩ := hi
        simp at hiu
        rw [hz2, IntWalk.wrap64_in _ (by omega)]; omega
      have FG := Lib.hid (figures_any z2 hI w)
      by_cases he : Lib.itoa z2 = s.data.toList
      · have YES := Lib.hid (numEnd_yes hI he)
        have hB : B (Lib.itoa z2) = s := by rw [he]; rfl
        rw [hB] at FG
        clear hnum UN he hB
        have HZ := Lib.hid hz2
        clear hz2
        go_wp2_with fail
        rw [← HZ.out]
        refine FG.out.mono ?_
        rintro e w' ⟨rfl, rfl⟩
        go_wp2_with fail
        go_ret2
        exact ⟨by rw [YES.out]; rfl, rfl⟩
      · have NO := Lib.hid (numEnd_no (l := s.data.toList) (fun i hi e => he (by rw [UN i hi e]; exact e)))
        have hne : ¬ (B (Lib.itoa z2)).toList = s.toList := fun e => he (by rw [Lib.toList_data, Lib.toList_data, B_data] at e; exact e)
        have hnb : ((B (Lib.itoa z2)).toList == s.toList) = false := by simpa using hne
        clear hnum UN he
        have HZ := Lib.hid hz2
        clear hz2
        generalize B (Lib.itoa z2) = V at *
        go_wp2_with fail
        rw [← HZ.out]
        refine FG.out.mono ?_
        rintro e w' ⟨rfl, rfl⟩
        go_wp2_with fail
        go_ret2
        exact ⟨by rw [NO.out]; rfl, rfl⟩
theorem number_any (l : List UInt8) (hl : l.length ≤ 1000000) (w : World) :
    Calls Tryz.prog 50 #[.string (B l)] w fun e w' => e = numEnd l ∧ w' = w := by
  have bs := B_size l
  by_cases h1 : 1 ≤ (B l).size ∧ (B l).size ≤ 20
  · cases hq : (((B l)[0]'(by omega)).toNat : Int) == 45 with
    | true => exact number_neg (B l) h1.1 h1.2 hq w
    | false => exact number_pos (B l) h1.1 h1.2 hq w
  · have NO := Lib.hid (numEnd_no (l := l) (fun i hi e => by
      apply h1
      rw [bs, ← e]
      exact itoa_len hi))
    generalize B l = s at *
    by_cases h0 : s.size < 1
    · have q1 : decide ((s.size : Int) < 1) = true := by simp; omega
      go_enter Tryz.func50, Tryz.ntmps50
      go_wp2_with fail
      go_ret2
      exact ⟨by rw [NO.out]; rfl, rfl⟩
    · have q1 : decide ((s.size : Int) < 1) = false := by simp; omega
      have q2 : decide (20 < (s.size : Int)) = true := by simp; omega
      go_enter Tryz.func50, Tryz.ntmps50
      go_wp2_with fail
      go_ret2
      exact ⟨by rw [NO.out]; rfl, rfl⟩
set_option maxRecDepth 100000 in
set_option maxHeartbeats 1000000 in
theorem begins10_any (l p : List UInt8) (hl : l.length ≤ 1000000) (hp : p.length ≤ 1000) (w : World) :
    Calls Tryz.prog 47 #[.string (B l), .string (B p)] w fun e w' => e = .returned (.bool (Lib.hasPrefix l p)) ∧ w' = w := by
  have bl := B_size l
  have bp := B_size p
  have hx : (B l).extract 0 (B p).size = B (l.take p.length) := by
    apply ByteArray.ext
    apply Array.toList_inj.1
    rw [Lib.extract_data, List.drop_zero, Nat.sub_zero, B_data, B_data, bp]
  by_cases hle : p.length ≤ l.length
  · have q0 : decide (((B p).size : Int) ≤ ((B l).size : Int)) = true := by simp; omega
    have hb : ((B (l.take p.length)).toList == (B p).toList) = Lib.hasPrefix l p := by
      rw [Bool.eq_iff_iff]
      unfold Lib.hasPrefix
      rw [List.isPrefixOf_iff_prefix, List.prefix_iff_eq_take, beq_iff_eq, Lib.toList_data, Lib.toList_data, B_data, B_data]
      exact eq_comm
    generalize Lib.hasPrefix l p = q at *
    generalize B (l.take p.length) = V at *
    generalize B l = X at *
    generalize B p = Y at *
    go_enter Tryz.func47, Tryz.ntmps47
    go_wp2_with fail
    go_ret
    exact ⟨by rw [← hb, ← hx, bp]; rfl, rfl⟩
  · have q0 : decide (((B p).size : Int) ≤ ((B l).size : Int)) = false := by simp; omega
    have hb : Lib.hasPrefix l p = false := by
      cases q : Lib.hasPrefix l p with
      | false => rfl
      | true =>
        unfold Lib.hasPrefix at q
        have := (List.isPrefixOf_iff_prefix.1 q).length_le
        omega
    rw [hb]
    generalize B l = X at *
    generalize B p = Y at *
    go_enter Tryz.func47, Tryz.ntmps47
    go_wp2_with fail
    go_ret
    exact ⟨rfl, rfl⟩
end Go.Proofs.YtgaooalckjjplaaGreatDoor

namespace Go.Proofs.YtgaooalckjjplaaGreatDoor

def addF (eds : List Ed) (f : Fld) : List Ed := match eds.getLast? with | none => eds | some e => eds.dropLast ++ [⟨e.kind, e.id, e.fields ++ [f]⟩]
theorem addF_snoc (p : List Ed) (e : Ed) (f : Fld) : addF (p ++ [e]) f = p ++ [⟨e.kind, e.id, e.fields ++ [f]⟩] := by unfold addF; simp
abbrev StD := List Ed × List (List UInt8)
def flushD (s : StD) : Option StD := if s.2 = [] then some s else if unfoldN s.2 = 0 then some (addF s.1 (unfoldK s.2, unfoldV s.2), []) else none
def preK (k : Int) : List UInt8 := 32 :: (wordL k ++ [32])
def tryK (s : List UInt8) (k : Int) (x : Ed) : Ed := if Lib.hasPrefix s (preK k) then (match numL (s.drop (preK k).length) with | some n => ⟨k, n, []⟩ | none => x) else x
def headD (s : List UInt8) : Ed := tryK s 3 (tryK s 2 (tryK s 1 ⟨0, 0, []⟩))
def lineD (s : StD) (x : List UInt8) : Option StD :=
  if Lib.hasPrefix x [32, 32] then (if s.1 = [] then none else some (s.1, s.2 ++ [x.drop 2]))
  else if (headD x).kind = 0 ∨ 40 ≤ s.1.length then none else some (s.1 ++ [headD x], s.2)
def stepD (s : StD) (x : List UInt8) : Option StD := (if Lib.hasPrefix x [32, 32, 32] then some s else flushD s).bind fun s => lineD s x
def runD : List (List UInt8) → StD → Option StD
  | [], s => some s
  | x :: r, s => (stepD s x).bind (runD r)
theorem runD_append (a b : List (List UInt8)) (s : StD) : runD (a ++ b) s = (runD a s).bind (runD b) := by
  induction a generalizing s with
  | nil => rfl
  | cons x a ih =>
    show (stepD s x).bind (runD (a ++ b)) = ((stepD s x).bind (runD a)).bind (runD b)
    cases stepD s x with
    | none => rfl
    | some t => exact ih t
theorem headD_line {k i : Int} (hk : k = 1 ∨ k = 2 ∨ k = 3) (hi : I64 i) : headD (lineA k i) = ⟨k, i, []⟩ := by
  have hn : numL (Lib.itoa i) = some i := numL_some.2 ⟨hi, rfl⟩
  have own : ∀ x, tryK (lineA k i) k x = ⟨k, i, []⟩ := fun x => by
    unfold tryK
    have e : lineA k i = preK k ++ Lib.itoa i := by unfold lineA preK; rw [if_pos hk]; simp
    have hp : Lib.hasPrefix (lineA k i) (preK k) = true := by unfold Lib.hasPrefix; rw [e]; simp
    rw [if_pos hp, e, List.drop_left, hn]
  have oth : ∀ k' x, (k' = 1 ∨ k' = 2 ∨ k' = 3) → k' ≠ k → tryK (lineA k i) k' x = x := fun k' x hk' hne => by
    unfold tryK
    rw [if_neg]
    unfold Lib.hasPrefix lineA preK
    rw [if_pos hk]
    rcases hk with rfl | rfl | rfl <;> rcases hk' with rfl | rfl | rfl <;> first | exact absurd rfl hne | simp [wordL, List.isPrefixOf]
  unfold headD
  rcases hk with rfl | rfl | rfl
  · rw [oth 3 _ (by decide) (by decide), oth 2 _ (by decide) (by decide), own]
  · rw [oth 3 _ (by decide) (by decide), own]
  · rw [own]
/-- What is under way, ended. -/
def Pend (p : List Ed) (s : StD) : Prop := flushD s = some (p, [])
theorem step_head {p : List Ed} {s : StD} (h : Pend p s) {k i : Int} (hk : k = 1 ∨ k = 2 ∨ k = 3) (hi : I64 i) (hl : p.length < 40) : stepD s (lineA k i) = some (p ++ [⟨k, i, []⟩], []) := by
  unfold stepD
  have h2 := lineA_two (id := i) hk
  have h3 : Lib.hasPrefix (lineA k i) [32, 32, 32] = false := by
    unfold lineA Lib.hasPrefix
    rw [if_pos hk]
    rcases hk with rfl | rfl | rfl <;> simp [wordL, List.isPrefixOf]
  rw [h3]
  show (flushD s).bind _ = _
  rw [h]
  show lineD _ _ = _
  unfold lineD
  rw [h2, headD_line hk hi, if_neg (by simp), if_neg]
  simp only
  omega
theorem step_first {p : List Ed} {s : StD} (h : Pend p s) {x : List UInt8} (hx : x.head? ≠ some 32) (hp : p ≠ []) : stepD s (ind2 x) = some (p, [x]) := by
  unfold stepD
  have h3 : Lib.hasPrefix (ind2 x) [32, 32, 32] = false := by
    unfold ind2 Lib.hasPrefix
    cases x with
    | nil => rfl
    | cons c r =>
      have : c ≠ 32 := fun e => hx (by rw [e]; rfl)
      simp [List.isPrefixOf, Ne.symm this]
  have h2 : Lib.hasPrefix (ind2 x) [32, 32] = true := by unfold ind2 Lib.hasPrefix; simp [List.isPrefixOf]
  rw [h3]
  show (flushD s).bind _ = _
  rw [h]
  show lineD _ _ = _
  unfold lineD
  rw [h2, if_pos rfl, if_neg hp]
  rfl
theorem step_more {s : StD} {x : List UInt8} (hx : x.head? = some 32) (hp : s.1 ≠ []) : stepD s (ind2 x) = some (s.1, s.2 ++ [x]) := by
  unfold stepD
  obtain ⟨r, rfl⟩ : ∃ r, x = 32 :: r := by
    cases x with
    | nil => cases hx
    | cons c r => cases hx; exact ⟨r, rfl⟩
  have h3 : Lib.hasPrefix (ind2 (32 :: r)) [32, 32, 32] = true := by unfold ind2 Lib.hasPrefix; simp [List.isPrefixOf]
  have h2 : Lib.hasPrefix (ind2 (32 :: r)) [32, 32] = true := by unfold ind2 Lib.hasPrefix; simp [List.isPrefixOf]
  rw [h3]
  show lineD _ _ = _
  unfold lineD
  rw [h2, if_pos rfl, if_neg hp]
  rfl
theorem run_more10 : ∀ (r : List (List UInt8)) (s : StD), (∀ x ∈ r, x.head? = some 32) → s.1 ≠ [] → runD (r.map ind2) s = some (s.1, s.2 ++ r)
  | [], s, _, _ => by simp [runD]
  | x :: r, s, h, hp => by
    rw [List.map_cons, runD, step_more (h x List.mem_cons_self) hp]
    show runD _ _ = _
    rw [run_more10 r (s.1, s.2 ++ [x]) (fun y hy => h y (List.mem_cons_of_mem _ hy)) hp]
    simp
theorem further_head (l : List UInt8) : (furtherL l).head? = some 32 := by
  unfold furtherL
  split <;> rfl
theorem first_head {k l : List UInt8} (hk : goodKey k = true) : (firstL k l).head? ≠ some 32 := by
  unfold goodKey at hk
  cases k with
  | nil => simp at hk
  | cons c r =>
    simp only [Bool.and_eq_true] at hk
    obtain ⟨⟨⟨⟨⟨_, _⟩, hb⟩, _⟩, _⟩, _⟩ := hk
    have hc : c ≠ 32 := fun e => by subst e; simp [beginsB, blankB] at hb
    unfold firstL
    split <;> simp [hc]
theorem run_field10 {p : List Ed} {e : Ed} {s : StD} (h : Pend (p ++ [e]) s) {f : Fld} (hk : goodKey f.1 = true) (hv : f.2.length ≤ 1000) :
    ∃ s', runD ((linesL f.1 f.2).map ind2) s = some s' ∧ Pend (p ++ [⟨e.kind, e.id, e.fields ++ [f]⟩]) s' := by
  have hp : p ++ [e] ≠ [] := by simp
  have e0 : linesL f.1 f.2 = firstL f.1 ((partsL f.2).headD []) :: (partsL f.2).tail.map furtherL := rfl
  refine ⟨(p ++ [e], linesL f.1 f.2), ?_, ?_⟩
  · rw [e0, List.map_cons, runD, step_first h (first_head hk) hp]
    show runD _ _ = _
    rw [run_more10 _ (p ++ [e], [firstL f.1 ((partsL f.2).headD [])]) (fun x hx => by obtain ⟨y, _, rfl⟩ := List.mem_map.1 hx; exact further_head y) hp]
    rfl
  · obtain ⟨u1, u2, u3⟩ := lines_unfold hk hv
    unfold Pend flushD
    rw [if_neg (by rw [e0]; simp), if_pos u1, u2, u3, addF_snoc]
theorem run_fields10 : ∀ (fs : List Fld) {p : List Ed} {e : Ed} {s : StD}, Pend (p ++ [e]) s → (∀ f ∈ fs, goodKey f.1 = true ∧ f.2.length ≤ 1000) →
    ∃ s', runD ((linesFs fs).map ind2) s = some s' ∧ Pend (p ++ [⟨e.kind, e.id, e.fields ++ fs⟩]) s'
  | [], p, e, s, h, _ => ⟨s, rfl, by rw [List.append_nil]; exact h⟩
  | f :: fs, p, e, s, h, hg => by
    obtain ⟨hk, hv⟩ := hg f List.mem_cons_self
    obtain ⟨s1, r1, p1⟩ := run_field10 h hk hv
    obtain ⟨s2, r2, p2⟩ := run_fields10 fs p1 (fun x hx => hg x (List.mem_cons_of_mem _ hx))
    refine ⟨s2, ?_, ?_⟩
    · have el : linesFs (f :: fs) = linesL f.1 f.2 ++ linesFs fs := by unfold linesFs; rw [List.flatMap_cons]
      rw [el, List.map_append, runD_append, r1]
      exact r2
    · simpa using p2
theorem run_batch : ∀ (eds p : List Ed) (s : StD), Pend p s → (∀ ed ∈ eds, goodE ed = 0 ∧ I64 ed.id) → p.length + eds.length ≤ 40 → ∃ s', runD (batchLs eds) s = some s' ∧ Pend (p ++ eds) s'
  | [], p, s, h, _, _ => ⟨s, rfl, by rw [List.append_nil]; exact h⟩
  | ed :: r, p, s, h, hg, hl => by
    obtain ⟨g, i⟩ := hg ed List.mem_cons_self
    rw [List.length_cons] at hl
    have h1 := step_head h (goodE_kind g) i (by omega)
    have gf := goodE_F g
    obtain ⟨s2, r2, p2⟩ := run_fields10 ed.fields (p := p) (e := ⟨ed.kind, ed.id, []⟩) (s := (p ++ [⟨ed.kind, ed.id, []⟩], [])) (by unfold Pend flushD; rw [if_pos rfl]) gf.each
    obtain ⟨s3, r3, p3⟩ := run_batch r (p ++ [ed]) s2 (by simpa using p2) (fun x hx => hg x (List.mem_cons_of_mem _ hx)) (by rw [List.length_append]; simp; omega)
    refine ⟨s3, ?_, by simpa using p3⟩
    have el : batchLs (ed :: r) = lineA ed.kind ed.id :: ((linesFs ed.fields).map ind2 ++ batchLs r) := by unfold batchLs; rw [List.flatMap_cons]; rfl
    rw [el, runD, h1]
    show runD _ _ = _
    rw [runD_append, r2]
    exact r3
/-- What the document's Decode gathers of lines, at its end. -/
def endD (ls : List (List UInt8)) : Option (List Ed) := ((runD ls ([], [])).bind flushD).map Prod.fst
theorem endD_batch {eds : List Ed} (hg : ∀ ed ∈ eds, goodE ed = 0 ∧ I64 ed.id) (hl : eds.length ≤ 40) : endD (batchLs eds) = some eds := by
  obtain ⟨s, r, p⟩ := run_batch eds [] ([], []) (by unfold Pend flushD; rw [if_pos rfl]) hg (by simpa using hl)
  unfold endD
  rw [r]
  show (flushD s).map _ = _
  rw [p]
  rfl
end Go.Proofs.YtgaooalckjjplaaGreatDoor

