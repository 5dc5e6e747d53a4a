/- Texts put together: TA, FL, OC, PB, PC, PD, PE. -/
import Derived.OwnWalk
import Derived.Laws.AppendOwn
import Derived.Laws.OwnMore
import Derived.Lib.SmallJoins
import Derived.Deep.RegionLaw
import Derived.RegionTactic
import Derived.BigRegion
import Derived.Deep.DeepCutAuto
import Derived.Test.YtbkeoiefolkjfaaGreatDoorBxa2
import Derived.Test.YtbkeoiefolkjfaaGreatDoorBxa5
import Derived.Test.YtbkeoiefolkjfaaGreatDoorBxa8
set_option linter.unusedVariables false
set_option maxRecDepth 100000
set_option maxHeartbeats 16000000
namespace Go.Proofs.YtbkeoiefolkjfaaGreatDoor
def mv (b st a : Nat) (its : List It) (p : PS) : PS := ⟨b, p.said, its, st, a, p.fields⟩
def ml (no c : Nat) (x : Ln) : Ln := ⟨no, c, x.text, x.ended⟩
theorem mv_went (b st a : Nat) (its : List It) (p : PS) (no c : Nat) (x : Ln) : wentP (mv b st a its p) (ml no c x) = mv b st a its (wentP p x) := by
 unfold wentP
 rw [show goesP (mv b st a its p) (ml no c x) = goesP p x from rfl]
 split <;> rfl
theorem mv_endField (b st a : Nat) (its : List It) (p : PS) : endFieldP (mv b st a its p) = mv b st a its (endFieldP p) := by
 unfold endFieldP
 rw [show (mv b st a its p).said = p.said from rfl]
 split <;> rfl
theorem mv_endFieldN (b st a : Nat) (its : List It) (p : PS) (hst : st <= 399) (h : endFieldN p = 0) : endFieldN (mv b st a its p) = 0 := by
 unfold endFieldN at h ⊢
 rw [show (mv b st a its p).said = p.said from rfl]
 split
 ·rfl
 rename_i hs
 rw [if_neg hs] at h
 split
 ·rename_i hu; rw [if_pos hu] at h; exact absurd h hu
 rename_i hu
 rw [if_neg hu] at h
 have hf : fullP p = false := by
  cases hf : fullP p with
  | false => rfl
  | true => rw [hf] at h; simp at h
 have : fullP (mv b st a its p) = false := by
  unfold fullP at hf ⊢
  rw [show (mv b st a its p).fields = p.fields from rfl, show (mv b st a its p).stanzas = st from rfl]
  split
  ·have : st ≠ 400 := by omega
   simpa using this
  rename_i hz
  rw [if_neg hz] at hf
  exact hf
 rw [this]; rfl
theorem mv_then (b st a : Nat) (its : List It) (p : PS) (no c : Nat) (x : Ln) : thenP (mv b st a its p) (ml no c x) = mv b st a its (thenP p x) := by
 unfold thenP
 rw [show endsP (mv b st a its p) (ml no c x) = endsP p x from rfl, mv_went, mv_endField]
 split <;> rfl
theorem mv_put (t t' : List UInt8) (b st a : Nat) (its : List It) (p : PS) (no c : Nat) (x : Ln) (hk : kindL x.text ≠ 1) : ∃ b', putP t' (mv b st a its p) (ml no c x) = mv b' st a its (putP t p x) := by
 unfold putP
 rw [show (ml no c x).text = x.text from rfl, if_neg hk, if_neg hk]
 split
 ·exact ⟨no, rfl⟩
 exact ⟨b, rfl⟩
theorem mv_take {t t' : List UInt8} {b st a : Nat} {its : List It} {p q : PS} {no c : Nat} {x : Ln} (hst : st <= 399) (hk : kindL x.text ≠ 1) (h : takeP t p x = .ok q) : ∃ b', takeP t' (mv b st a its p) (ml no c x) = .ok (mv b' st a its q) := by
 obtain ⟨h1, h2, rfl⟩ := take_parts h
 obtain ⟨b', hb⟩ := mv_put t t' b st a its (thenP p x) no c x hk
 refine ⟨b', ?_⟩
 have hT := take_of (t := t') (p := mv b st a its p) (x := ml no c x) (by rw [show endsP (mv b st a its p) (ml no c x) = endsP p x from rfl, mv_went]; exact fun he => mv_endFieldN _ _ _ _ _ hst (h1 he)) h2
 rw [hT, mv_then, hb]
def Does (ts said : List (List UInt8)) (fields : List Fld) : Prop :=
 ∀ (t : List UInt8) (b st a no c : Nat) (its : List It), st <= 399 -> ∃ b', runP t ⟨b, [], its, st, a, []⟩ (num no c ts) = .ok ⟨b', said, its, st, a, fields⟩
structure Blk (it : It) : Prop where
 kind : it.kind = if it.fields = [] then 2 else 3
 pos : it.raw ≠ []
 does : ∃ ts said fields, it.raw = textL ts /\ (∀ l ∈ ts, (10 : UInt8) ∉ l) /\ Does ts said fields /\ endFieldN ⟨0, said, [], 0, 0, fields⟩ = 0 /\ (endFieldP ⟨0, said, [], 0, 0, fields⟩).fields = it.fields
theorem Blk.kind1 {it : It} (h : Blk it) : it.kind ≠ 1 := by
 rw [h.kind]; split <;> decide
def apartOn : Bool -> List It -> List It
 | _, [] => []
 | b, x :: r => (if b = true /\ x.kind ≠ 1 then [⟨1, [10], []⟩] else []) ++ x :: apartOn (x.kind != 1) r
def apartL (its : List It) : List It := apartOn false its
theorem linesOn_text : ∀ (ts : List (List UInt8)) (no c : Nat) (l : List UInt8), (∀ x ∈ ts, (10 : UInt8) ∉ x) -> linesOn no c (textL ts ++ l) = num no c ts ++ linesOn (no + ts.length) (c + (textL ts).length) l
 | [], no, c, l, _ => rfl
 | x :: r, no, c, l, h => by
  have e : textL (x :: r) ++ l = x ++ 10 :: (textL r ++ l) := by unfold textL; simp
  have e3 : (textL (x :: r)).length = x.length + 1 + (textL r).length := by unfold textL; simp; omega
  obtain ⟨h1, h2⟩ := head_of x (textL r ++ l) (h x List.mem_cons_self)
  have hu : used (x ++ 10 :: (textL r ++ l)) = x.length + 1 := by unfold used; rw [h1, h2]; rfl
  rw [e, linesOn_cons _ _ _ (by simp), h1, h2, hu]
  have hd : (x ++ 10 :: (textL r ++ l)).drop (x.length + 1) = textL r ++ l := by
   rw [show x ++ 10 :: (textL r ++ l) = (x ++ [10]) ++ (textL r ++ l) by simp]
   exact List.drop_left' (by simp)
  rw [hd, linesOn_text r _ _ l (fun y hy => h y (List.mem_cons_of_mem _ hy)), e3, List.length_cons]
  rw [show no + 1 + r.length = no + (r.length + 1) by omega, show c + (x.length + 1) + (textL r).length = c + (x.length + 1 + (textL r).length) by omega]
  rfl
def finP (t : List UInt8) (r : Res PS) : Res (List It) := match r with | .error e => .error e | .ok q => lastP t q
theorem parse_fin (t : List UInt8) : parseL t = finP t (runP t PS.new (linesOf t)) := rfl
theorem fin_append (t : List UInt8) (p q : PS) (a b : List Ln) (h : runP t p a = .ok q) : finP t (runP t p (a ++ b)) = finP t (runP t q b) := by
 rw [runP_append, h]
theorem Blk.ends {it : It} {said : List (List UInt8)} {fields : List Fld} (hk : it.kind = if it.fields = [] then 2 else 3) (h0 : endFieldN ⟨0, said, [], 0, 0, fields⟩ = 0) (hf : (endFieldP ⟨0, said, [], 0, 0, fields⟩).fields = it.fields)
  (t : List UInt8) (b st a e : Nat) (its : List It) (hst : st <= 399) (hr : (t.take e).drop a = it.raw) (hae : a < e) :
  endFieldN ⟨b, said, its, st, a, fields⟩ = 0 /\ (endBlockP t (endFieldP ⟨b, said, its, st, a, fields⟩) e).items = its ++ [it] /\ (endBlockP t (endFieldP ⟨b, said, its, st, a, fields⟩) e).stanzas <= st + 1 /\ (endBlockP t (endFieldP ⟨b, said, its, st, a, fields⟩) e).said = [] /\ (endBlockP t (endFieldP ⟨b, said, its, st, a, fields⟩) e).fields = [] /\ (endBlockP t (endFieldP ⟨b, said, its, st, a, fields⟩) e).at_ = e := by
 have e0 := mv_endFieldN b st a its ⟨0, said, [], 0, 0, fields⟩ hst h0
 have e1 := mv_endField b st a its ⟨0, said, [], 0, 0, fields⟩
 refine ⟨e0, ?_⟩
 rw [show (⟨b, said, its, st, a, fields⟩ : PS) = mv b st a its ⟨0, said, [], 0, 0, fields⟩ from rfl, e1]
 have es := endField_said ⟨0, said, [], 0, 0, fields⟩
 generalize endFieldP ⟨0, said, [], 0, 0, fields⟩ = p at *
 unfold endBlockP
 rw [show (mv b st a its p).at_ = a from rfl, show (mv b st a its p).fields = p.fields from rfl, hf, if_neg (by omega)]
 split
 ·rename_i hz
  rw [if_pos (List.length_eq_zero_iff.1 hz)] at hk
  refine ⟨?_, by show st <= st + 1; omega, es, rfl, rfl⟩
  show its ++ [⟨(2 : Nat), (t.take e).drop a, p.fields⟩] = _
  rw [hr, hf]
  obtain ⟨k, r, f⟩ := it
  simp only at hk ⊢
  rw [hk]; rfl
 rename_i hz
 rw [if_neg (fun h => hz (by rw [h]; rfl))] at hk
 refine ⟨?_, by show st + 1 <= st + 1; omega, es, rfl, rfl⟩
 show its ++ [⟨(3 : Nat), (t.take e).drop a, p.fields⟩] = _
 rw [hr, hf]
 obtain ⟨k, r, f⟩ := it
 simp only at hk ⊢
 rw [hk]; rfl
theorem fin_blks (t : List UInt8) : ∀ (bs : List It) (x : It) (b st no c : Nat) (its : List It), st + (x :: bs).length <= 400 -> (∀ it ∈ x :: bs, Blk it) -> t.drop c = (apartL (x :: bs)).flatMap It.raw -> c <= t.length ->
  finP t (runP t ⟨b, [], its, st, c, []⟩ (linesOn no c (t.drop c))) = .ok (its ++ apartL (x :: bs))
 | [], x, b, st, no, c, its, hst, hb, ht, hct => by
  have bx := hb x List.mem_cons_self
  have hp := bx.pos
  have hk := bx.kind
  obtain ⟨ts, said, fields, d1, d2, d3, d4, d5⟩ := bx.does
  have ht' : t.drop c = x.raw := by rw [ht]; simp [apartL, apartOn]
  have hlen : c + x.raw.length = t.length := by have := congrArg List.length ht'; simp at this; omega
  have hpos : 0 < x.raw.length := List.length_pos_iff.2 hp
  obtain ⟨b', hr⟩ := d3 t b st c no c its (by simp at hst; omega)
  rw [ht', d1, <- List.append_nil (textL ts), linesOn_text ts no c [] d2, fin_append _ _ _ _ _ hr, linesOn_nil]
  obtain ⟨k1, k2, _⟩ := Blk.ends hk d4 d5 t b' st c t.length its (by simp at hst; omega) (by rw [List.take_length, ht']) (by omega)
  show lastP t _ = _
  unfold lastP
  rw [k1, if_neg (by simp), k2]
  simp [apartL, apartOn]
 | y :: bs, x, b, st, no, c, its, hst, hb, ht, hct => by
  have bx := hb x List.mem_cons_self
  have by_ := hb y (List.mem_cons_of_mem _ List.mem_cons_self)
  have hp := bx.pos
  have hk := bx.kind
  obtain ⟨ts, said, fields, d1, d2, d3, d4, d5⟩ := bx.does
  have hpos : 0 < x.raw.length := List.length_pos_iff.2 hp
  have hap : apartL (x :: y :: bs) = x :: ⟨1, [10], []⟩ :: apartL (y :: bs) := by
   have hx1 : (x.kind != 1) = true := by have := bx.kind1; simpa using this
   show ([] : List It) ++ x :: ((if (x.kind != 1) = true /\ y.kind ≠ 1 then [(⟨1, [10], []⟩ : It)] else []) ++ y :: apartOn (y.kind != 1) bs) = _
   rw [if_pos ⟨hx1, by_.kind1⟩]
   simp [apartL, apartOn]
  rw [hap] at ht ⊢
  have ht' : t.drop c = x.raw ++ (10 :: (apartL (y :: bs)).flatMap It.raw) := by rw [ht]; simp
  generalize hR : (apartL (y :: bs)).flatMap It.raw = R at *
  have hlen : c + x.raw.length + 1 + R.length = t.length := by have := congrArg List.length ht'; simp at this; omega
  simp only [List.length_cons] at hst
  obtain ⟨b', hr⟩ := d3 t b st c no c its (by omega)
  have hde : t.drop (c + x.raw.length + 1) = R := by
   rw [Nat.add_assoc, <- List.drop_drop, ht', show x.raw ++ 10 :: R = (x.raw ++ [10]) ++ R by simp]
   exact List.drop_left' (by simp)
  have htk : (t.take (c + x.raw.length)).drop c = x.raw := by
   rw [List.take_add, ht', List.drop_append_of_le_length (by rw [List.length_take]; omega), List.drop_of_length_le (by rw [List.length_take]; omega)]; simp
  have htb : (t.take (c + x.raw.length + 1)).drop (c + x.raw.length) = [10] := by
   rw [List.take_add, List.drop_append_of_le_length (by rw [List.length_take]; omega), List.drop_of_length_le (by rw [List.length_take]; omega), <- List.drop_drop, ht']
   simp
  have e10 : (10 :: R) = textL [[]] ++ R := rfl
  rw [ht', e10]
  conv => lhs; rw [d1]
  rw [linesOn_text ts no c _ d2, fin_append _ _ _ _ _ hr, linesOn_text [[]] _ _ _ (by intro z hz; rw [List.mem_singleton.1 hz]; simp), <- d1]
  have k1 : kindL [] = 1 := by decide
  obtain ⟨z1, z2, z3, z4, z5, z6⟩ := Blk.ends hk d4 d5 t b' st c (c + x.raw.length) its (by omega) htk (by omega)
  have tk := take_else (t := t) (p := ⟨b', said, its, st, c, fields⟩) (no := no + ts.length) (c := c + x.raw.length) (l := []) (by rw [k1]; decide) (by rw [k1]; decide) z1
  have hput : putP t (endFieldP ⟨b', said, its, st, c, fields⟩) ⟨no + ts.length, c + x.raw.length, [], true⟩ = endItemP t (endBlockP t (endFieldP ⟨b', said, its, st, c, fields⟩) (c + x.raw.length)) 1 (c + x.raw.length + 1) := by
   unfold putP
   rw [if_neg (by show ¬ kindL [] = 4; rw [k1]; decide), if_pos k1]; rfl
  rw [hput] at tk
  generalize endBlockP t (endFieldP ⟨b', said, its, st, c, fields⟩) (c + x.raw.length) = p at *
  have hp2 : endItemP t p 1 (c + x.raw.length + 1) = ⟨p.begin_, [], its ++ [x] ++ [⟨1, [10], []⟩], p.stanzas, c + x.raw.length + 1, []⟩ := by
   unfold endItemP
   rw [z2, z4, z5, z6, htb]; rfl
  rw [hp2] at tk
  have hrun : runP t ⟨b', said, its, st, c, fields⟩ (num (no + ts.length) (c + x.raw.length) [[]]) = .ok ⟨p.begin_, [], its ++ [x] ++ [⟨1, [10], []⟩], p.stanzas, c + x.raw.length + 1, []⟩ := by
   show runP t _ (⟨no + ts.length, c + x.raw.length, [], true⟩ :: []) = _
   rw [run_cons tk]; rfl
  rw [fin_append _ _ _ _ _ hrun]
  have ih := fin_blks t bs y p.begin_ p.stanzas (no + ts.length + 1) (c + x.raw.length + 1) (its ++ [x] ++ [⟨1, [10], []⟩]) (by simp only [List.length_cons]; omega) (fun it hi => hb it (List.mem_cons_of_mem _ hi)) (by rw [hde, hR]) (by omega)
  rw [hde] at ih
  show finP t (runP t _ (linesOn (no + ts.length + 1) (c + x.raw.length + 1) R)) = _
  rw [ih]; simp
theorem parse_between (bs : List It) (hn : bs.length <= 400) (hb : ∀ it ∈ bs, Blk it) : parseL ((apartL bs).flatMap It.raw) = .ok (apartL bs) := by
 cases bs with
 | nil => rfl
 | cons x bs =>
 rw [parse_fin]
 have := fin_blks ((apartL (x :: bs)).flatMap It.raw) bs x 0 0 0 0 [] (by rw [Nat.zero_add]; exact hn) hb rfl (Nat.zero_le _)
 exact this
theorem blk_fields (fs : List Fld) (hg : ∀ f ∈ fs, goodKey f.1 = true /\ f.2.length <= 1000) (h0 : fs ≠ []) (hl : fs.length <= 40) : Blk ⟨3, textL (linesFs fs), fs⟩ := by
 have hclean : ∀ l ∈ linesFs fs, (10 : UInt8) ∉ l := by
  intro l hl
  unfold linesFs at hl
  obtain ⟨f, hf1, hf2⟩ := List.mem_flatMap.1 hl
  exact linesL_clean _ (hg f hf1).1 l hf2
 have hne : textL (linesFs fs) ≠ [] := by
  cases fs with
  | nil => exact absurd rfl h0
  | cons f r =>
  obtain ⟨x, r', e, _⟩ := lines_kinds (v := f.2) (hg f List.mem_cons_self).1
  unfold linesFs
  rw [List.flatMap_cons, e]
  unfold textL; simp
 obtain ⟨q, q1, q2, q3, q4, q5, q6⟩ := run_fields [] fs PS.new 0 0 rfl hg (by show 0 + fs.length <= 40; omega) (by decide)
 have hany : ∀ (t : List UInt8) (b st a no c : Nat) (its : List It), st <= 399 -> ∃ b', runP t ⟨b, [], its, st, a, []⟩ (num no c (linesFs fs)) = .ok ⟨b', q.said, its, st, a, q.fields⟩ := by
  have key : ∀ (ts : List (List UInt8)) (p q : PS) (n0 c0 : Nat), (∀ l ∈ ts, kindL l ≠ 1) -> runP [] p (num n0 c0 ts) = .ok q -> ∀ (t : List UInt8) (b st a no c : Nat) (its : List It), st <= 399 -> ∃ b', runP t (mv b st a its p) (num no c ts) = .ok (mv b' st a its q) := by
   intro ts
   induction ts with
   | nil => intro p q n0 c0 _ h t b st a no c its _; cases h; exact ⟨b, rfl⟩
   | cons l r ih =>
   intro p q n0 c0 hk h t b st a no c its hst
   have h' : (match takeP [] p ⟨n0, c0, l, true⟩ with | .error e => Except.error e | .ok q' => runP [] q' (num (n0 + 1) (c0 + l.length + 1) r)) = .ok q := h
   cases ht : takeP [] p ⟨n0, c0, l, true⟩ with
   | error e => rw [ht] at h'; cases h'
   | ok p1 =>
   rw [ht] at h'
   obtain ⟨b1, hb1⟩ := mv_take (t' := t) (b := b) (st := st) (a := a) (its := its) (no := no) (c := c) hst (by exact hk l List.mem_cons_self) ht
   obtain ⟨b2, hb2⟩ := ih p1 q _ _ (fun y hy => hk y (List.mem_cons_of_mem _ hy)) h' t b1 st a (no + 1) (c + l.length + 1) its hst
   refine ⟨b2, ?_⟩
   show runP t _ (⟨no, c, l, true⟩ :: num (no + 1) (c + l.length + 1) r) = _
   rw [run_cons (by exact hb1)]
   exact hb2
  have hkinds : ∀ l ∈ linesFs fs, kindL l ≠ 1 := by
   intro l hl
   unfold linesFs at hl
   obtain ⟨f, hf1, hf2⟩ := List.mem_flatMap.1 hl
   obtain ⟨x, r, e, kx, kr⟩ := lines_kinds (v := f.2) (hg f hf1).1
   rw [e] at hf2
   rcases List.mem_cons.1 hf2 with rfl | h
   ·rw [kx]; decide
   rw [kr l h]; decide
  intro t b st a no c its hst
  exact key (linesFs fs) PS.new q 0 0 hkinds q1 t b st a no c its hst
 refine ⟨by rw [if_neg h0], hne, linesFs fs, q.said, q.fields, rfl, hclean, hany, mv_endFieldN 0 0 0 [] q (by decide) q2, ?_⟩
 have := mv_endField 0 0 0 [] q
 rw [show (⟨0, q.said, [], 0, 0, q.fields⟩ : PS) = mv 0 0 0 [] q from rfl, this]
 show (endFieldP q).fields = fs
 rw [q3]; rfl
end Go.Proofs.YtbkeoiefolkjfaaGreatDoor
namespace Go.Proofs.YtbkeoiefolkjfaaGreatDoor
open Go.RowKit
def Flds (w : World) (v : Value) (fs : List (List UInt8 × List UInt8)) : Prop :=
 ∃ A cap, v = .slice A fs.length cap /\ fs.length <= cap /\ ∀ (i : Nat) (f : List UInt8 × List UInt8), fs[i]? = some f -> ∃ b off, A = some ⟨b, off, none⟩ /\ b < w.heap.size /\ w.cell? ⟨b, off + i * 2, none⟩ = some (.string (B f.1)) /\ w.cell? ⟨b, off + i * 2 + 1, none⟩ = some (.string (B f.2))
theorem Flds.below {w w' : World} {v : Value} {fs : List (List UInt8 × List UInt8)} {n : Nat} (h : Flds w v fs) (hb : Below n w w') (hn : w.heap.size <= n) : Flds w' v fs := by
 obtain ⟨A, cap, hv, hle, hc⟩ := h
 refine ⟨A, cap, hv, hle, fun i s hs => ?_⟩
 obtain ⟨b, off, hA, hlt, c0, c1⟩ := hc i s hs
 exact ⟨b, off, hA, Nat.lt_of_lt_of_le hlt hb.size, (hb.cell (p := ⟨b, off + i * 2, none⟩) (Nat.lt_of_lt_of_le hlt hn)).trans c0, (hb.cell (p := ⟨b, off + i * 2 + 1, none⟩) (Nat.lt_of_lt_of_le hlt hn)).trans c1⟩
def cellsF (fs : List (List UInt8 × List UInt8)) : List Value := fs.flatMap fun f => [.string (B f.1), .string (B f.2)]
theorem cellsF_len : ∀ fs, (cellsF fs).length = fs.length * 2
 | [] => rfl
 | f :: r => by
  have := cellsF_len r
  show (Value.string (B f.1) :: Value.string (B f.2) :: cellsF r).length = _
  simp only [List.length_cons, this]; omega
theorem cellsF_at : ∀ (fs : List (List UInt8 × List UInt8)) (i : Nat) (f : List UInt8 × List UInt8), fs[i]? = some f -> (cellsF fs)[i * 2]? = some (.string (B f.1)) /\ (cellsF fs)[i * 2 + 1]? = some (.string (B f.2))
 | [], i, f, h => by simp at h
 | a :: r, 0, f, h => by simp at h; subst h; exact ⟨rfl, rfl⟩
 | a :: r, i + 1, f, h => by
  have ih := cellsF_at r i f (by simpa using h)
  have e : cellsF (a :: r) = Value.string (B a.1) :: Value.string (B a.2) :: cellsF r := rfl
  rw [e, show (i + 1) * 2 = i * 2 + 1 + 1 by omega]
  simpa using ih
theorem infoFld : (Tryz.prog.info? 83).map (fun i => (i.zero, i.size, i.bytes)) = some (some (.agg #[.string ⟨#[]⟩, .string ⟨#[]⟩]), 2, 32) := by kernel_rfl
theorem flds_of_own {w : World} {base : Nat} {v : Value} {fs : List (List UInt8 × List UInt8)} (h : w.ownsRow base 83 2 v fs.length (cellsF fs)) : Flds w v fs := by
 rcases Joins.ownsRow_forms h with ⟨rfl, hn⟩ | ⟨g, cap, rfl⟩
 ·have : fs = [] := by cases fs with | nil => rfl | cons _ _ => simp at hn
  subst this
  exact ⟨none, 0, rfl, Nat.le_refl _, fun i f h => by simp at h⟩
 refine ⟨_, cap, rfl, (by rcases h.2 with ⟨q, _⟩ | ⟨g', cap', cur, q, _, _, q2, _⟩; cases q; cases q; exact q2), fun i f hf => ⟨g, 0, rfl, (World.ownsRow.lt h g rfl).2, ?_⟩⟩
 have hi : i < fs.length := by
  rcases Nat.lt_or_ge i fs.length with q | q
  ·exact q
  rw [List.getElem?_eq_none q] at hf; cases hf
 obtain ⟨a, b⟩ := cellsF_at fs i f hf
 rw [Nat.zero_add, World.ownsRow.cellAt h (i * 2) (by omega), World.ownsRow.cellAt h (i * 2 + 1) (by omega)]
 exact ⟨a, b⟩
end Go.Proofs.YtbkeoiefolkjfaaGreatDoor
namespace Go.Proofs.YtbkeoiefolkjfaaGreatDoor
open Go.RowKit
theorem step_append_own {P : Program} {ops : Array Oper} {o : Oper} {a : Act} {w : World} {K : Act -> World -> Prop} {Q : Exit -> Act -> World -> Prop} {E : Prop}
  (hg : o.guard = none) (s x : Operand) (t : TypeId) (hop : o.op = Op.call { callee := Callee.builtin Builtin.append, args := #[s, x], argTypes := #[t, t] })
  (e : TypeId) (i : TypeInfo) (z : Value) (size bytes : Nat) (ht : P.underlying t = some (.slice e)) (hi : P.info? e = some i) (hz : i.zero = some z)
  (hsize : i.size = size) (hby : i.bytes = bytes) (hzs : z.cells.size = size) (hsz : 0 < size)
  (v : Value) (n : Nat) (xs : List Value) (hs : a.eval s = v) (hown : w.ownsRow 0 e size v n xs)
  (ad : Addr) (m c : Nat) (news : List Value) (hx : a.eval x = .slice (some ad) m c) (hl : news.length = m * size) (hnews : ∀ j u, news[j]? = some u -> w.cell? (ad.add j) = some u) (h1 : ∀ u ∈ news, u.oneCell' = true)
  (h63 : n + m <= maxLen) (hbytes : (n + m) * bytes <= 140737488355328)
  (hK : ∀ v' w', w'.ownsRow 0 e size v' (n + m) (xs ++ news) -> w.grownBy w' v.ownBlock -> (v'.ownBlock = v.ownBlock \/ v'.ownBlock = some w.heap.size) -> K (a.put o.dst v') w') :
  if Region.wanted o (yielded ops a.tmps) = true then Oper.wp P o a w K Q else E := by
 have hw : Region.wanted o (yielded ops a.tmps) = true := by simp [Region.wanted, hg]
 rw [if_pos hw]
 obtain ⟨v', w', hr, h2, h3, h4, h5⟩ := run_append_own_at (P := P) w 0 t o.type e i z size bytes ht hi hz hsize hby hzs hsz v n xs hown ad m c news hl hnews h1 h63 hbytes (Nat.zero_le _)
 unfold Oper.wp
 simp [execOp, hop, resolve, invoke, builtin, hs, hx, hr, Result.andThen]
 exact hK v' w' h2 h3 h5
theorem cells_new_add (w : World) (t : TypeId) (cs : List Value) : ∀ j u, cs[j]? = some u -> (w.alloc (.cells cs.toArray t)).cell? ((⟨w.heap.size, 0, none⟩ : Addr).add j) = some u := by
 intro j u hj
 have := (Cells.new w t cs.toArray).cell j
 have e : (⟨w.heap.size, 0, none⟩ : Addr).add j = ⟨w.heap.size, j, none⟩ := by unfold Addr.add; split <;> simp_all
 rw [e, this, List.getElem?_toArray, hj]
theorem slice_of_own {w : World} {base : Nat} {e : TypeId} {size : Nat} {v : Value} {n : Nat} {xs : List Value} (h : w.ownsRow base e size v (n + 1) xs) : ∃ g cap, v = .slice (some ⟨g, 0, none⟩) (n + 1) cap := by
 rcases h.2 with ⟨_, h⟩ | ⟨g, cap, _, h, _⟩
 ·omega
 exact ⟨g, cap, h⟩
theorem appended {w W w' : World} {g : Nat} {t : TypeId} {cur : Array Value} (hg : Cells w g t cur) {vw v' : Value} {n : Nat} {xs A : List Value} {e : TypeId} {size : Nat} (hown : w.ownsRow 0 e size vw n xs) (hne : vw.ownBlock ≠ some g)
  (hb : Below w.heap.size w W) (ho : w'.ownsRow 0 e size v' (n + 1) (xs ++ A)) (hgr : W.grownBy w' vw.ownBlock) (hbk : v'.ownBlock = vw.ownBlock \/ v'.ownBlock = some W.heap.size) :
  (∃ g' cap, v' = .slice (some ⟨g', 0, none⟩) (n + 1) cap) /\ Cells w' g t cur /\ (∀ r, w.heap.size <= r -> r < W.heap.size -> w'.heap[r]? = W.heap[r]?) /\
   (v'.ownBlock = vw.ownBlock \/ ∃ k, v'.ownBlock = some k /\ w.heap.size <= k /\ k < w'.heap.size) /\ Only (fun r => some r = vw.ownBlock) w w' := by
 have hs := hb.size
 refine ⟨slice_of_own ho, (hgr.block g (Nat.lt_of_lt_of_le hg.lt hs) (fun e => hne e.symm)).trans ((hb.block g hg.lt).trans hg), fun r h1 h2 => hgr.block r h2 (fun e => ?_), ?_, ?_⟩
 ·have := (hown.lt r e.symm).2; omega
 ·rcases hbk with h | h
  ·exact .inl h
  exact .inr ⟨_, h, hs, (ho.lt _ h).2⟩
 exact (Only.of_below hb (Nat.le_refl _)).grown hgr (fun k hk => .inl hk.symm)
def tagged (T : Nat -> Nat) (o : Option Nat) (t : Nat) : Prop := ∀ b, o = some b -> T b = t
def retag (T : Nat -> Nat) (lo : Nat) (o : Option Nat) (t : Nat) : Nat -> Nat := fun b => if lo <= b /\ o = some b then t else T b
def sameOr (lo hi : Nat) (a b : Option Nat) : Prop := b = a \/ ∃ k, b = some k /\ lo <= k /\ k < hi
theorem retag_old {T : Nat -> Nat} {lo : Nat} {o : Option Nat} {t b : Nat} (h : b < lo) : retag T lo o t b = T b := by
 unfold retag; rw [if_neg (by omega)]
theorem retag_same {T : Nat -> Nat} {lo hi : Nat} {a b : Option Nat} {t : Nat} (h : sameOr lo hi a b) (ha : tagged T a t) : tagged (retag T lo b t) b t := by
 intro k hk
 unfold retag
 split
 ·rfl
 rename_i hn
 rcases h with h | ⟨j, h, h1, _⟩
 ·exact ha k (by rw [<- h]; exact hk)
 rw [h] at hk; cases hk; exact absurd ⟨h1, h⟩ hn
theorem retag_other {T : Nat -> Nat} {lo : Nat} {o c : Option Nat} {t u : Nat} (hc : tagged T c u) (hl : ∀ k, c = some k -> k < lo) : tagged (retag T lo o t) c u := by
 intro k hk; rw [retag_old (hl k hk)]; exact hc k hk
end Go.Proofs.YtbkeoiefolkjfaaGreatDoor
namespace Go.Proofs.YtbkeoiefolkjfaaGreatDoor
open Go.RowKit
structure PV where
 v1 : Value
 v3 : Value
 v6 : Value
 fvs : List Value
def pCells (p : PS) (text : ByteArray) (v1 v3 v6 : Value) : Array Value := #[.int .i64 p.begin_, v1, .string text, v3, .int .i64 p.stanzas, .int .i64 p.at_, v6]
def itemCells (it : It) (v : Value) : List Value := [.int .i64 it.kind, .string (B it.raw), v]
def itemsCells : List It -> List Value -> List Value
 | it :: l, v :: vs => itemCells it v ++ itemsCells l vs
 | _, _ => []
theorem itemsCells_snoc : ∀ (l : List It) (vs : List Value) (it : It) (v : Value), vs.length = l.length -> itemsCells (l ++ [it]) (vs ++ [v]) = itemsCells l vs ++ itemCells it v
 | [], [], it, v, _ => by simp [itemsCells]
 | [], _ :: _, _, _, h => by simp at h
 | a :: l, [], it, v, h => by simp at h
 | a :: l, u :: vs, it, v, h => by
  have := itemsCells_snoc l vs it v (by simpa using h)
  simp only [List.cons_append, itemsCells, this, List.append_assoc]
theorem itemsCells_at : ∀ (l : List It) (vs : List Value) (i : Nat) (it : It) (v : Value), l[i]? = some it -> vs[i]? = some v -> (itemsCells l vs)[i * 3]? = some (.int .i64 it.kind) /\ (itemsCells l vs)[i * 3 + 1]? = some (.string (B it.raw)) /\ (itemsCells l vs)[i * 3 + 1 + 1]? = some v
 | [], _, i, it, v, h, _ => by simp at h
 | a :: l, [], i, it, v, _, h => by simp at h
 | a :: l, u :: vs, 0, it, v, h, h' => by simp at h h'; subst h h'; exact ⟨rfl, rfl, rfl⟩
 | a :: l, u :: vs, i + 1, it, v, h, h' => by
  obtain ⟨x, y, z⟩ := itemsCells_at l vs i it v (by simpa using h) (by simpa using h')
  have e : itemsCells (a :: l) (u :: vs) = .int .i64 a.kind :: .string (B a.raw) :: u :: itemsCells l vs := rfl
  have k : (i + 1) * 3 = i * 3 + 1 + 1 + 1 := by omega
  have k1 : i * 3 + 1 + 1 + 1 + 1 = (i * 3 + 1) + 1 + 1 + 1 := by omega
  have k2 : i * 3 + 1 + 1 + 1 + 1 + 1 = (i * 3 + 1 + 1) + 1 + 1 + 1 := by omega
  rw [e, k]
  refine ⟨?_, ?_, ?_⟩
  ·rw [List.getElem?_cons_succ, List.getElem?_cons_succ, List.getElem?_cons_succ]; exact x
  ·rw [k1, List.getElem?_cons_succ, List.getElem?_cons_succ, List.getElem?_cons_succ]; exact y
  rw [k2, List.getElem?_cons_succ, List.getElem?_cons_succ, List.getElem?_cons_succ]; exact z
theorem cellsF_snoc (l : List Fld) (f : Fld) : cellsF (l ++ [f]) = cellsF l ++ [.string (B f.1), .string (B f.2)] := by unfold cellsF; simp
def saidCells (l : List (List UInt8)) : List Value := l.map fun x => .string (B x)
structure ParserV (w : World) (T : Nat -> Nat) (R b : Nat) (text : ByteArray) (p : PS) (V : PV) : Prop where
 cells : Cells w b 104 (pCells p text V.v1 V.v3 V.v6)
 tp : T b = 1
 r1 : w.ownsRow 0 9 1 V.v1 p.said.length (saidCells p.said)
 t1 : tagged T V.v1.ownBlock 2
 r3 : w.ownsRow 0 117 3 V.v3 p.items.length (itemsCells p.items V.fvs)
 t3 : tagged T V.v3.ownBlock 3
 r6 : w.ownsRow 0 83 2 V.v6 p.fields.length (cellsF p.fields)
 t6 : tagged T V.v6.ownBlock 4
 nf : V.fvs.length = p.items.length
 rf : ∀ (i : Nat) (it : It) (v : Value), p.items[i]? = some it -> V.fvs[i]? = some v -> w.ownsRow 0 83 2 v it.fields.length (cellsF it.fields) /\ tagged T v.ownBlock 5
 low : ∀ k, T k ≠ 0 -> R <= k /\ k < w.heap.size
def ParserAt (w : World) (T : Nat -> Nat) (R b : Nat) (text : ByteArray) (p : PS) : Prop := ∃ V, ParserV w T R b text p V
structure PStep (w : World) (T : Nat -> Nat) (w' : World) (T' : Nat -> Nat) : Prop where
 only : Only (fun r => T r ≠ 0) w w'
 old : ∀ r, r < w.heap.size -> (T' r = 0 ↔ T r = 0)
theorem PStep.refl (w : World) (T : Nat -> Nat) : PStep w T w T := ⟨Only.refl _ _, fun _ _ => Iff.rfl⟩
theorem PStep.trans {w w1 w2 : World} {T T1 T2 : Nat -> Nat} (h : PStep w T w1 T1) (g : PStep w1 T1 w2 T2) : PStep w T w2 T2 :=
 ⟨h.only.trans g.only (fun r hr hn => fun e => hn ((h.old r hr).2 e)), fun r hr => (g.old r (Nat.lt_of_lt_of_le hr h.only.size)).trans (h.old r hr)⟩
theorem PStep.below {w w' : World} {T : Nat -> Nat} (h : Below w.heap.size w w') : PStep w T w' T := ⟨Only.of_below h (Nat.le_refl _), fun _ _ => Iff.rfl⟩
theorem PStep.drewN {w w' : World} {T T' : Nat -> Nat} (h : PStep w T w' T') (n : Nat) : PStep w T (w'.drewN n) T' := ⟨h.only.drewN n, h.old⟩
theorem ParserV.same {w w' : World} {T : Nat -> Nat} {R b : Nat} {text : ByteArray} {p : PS} {V : PV} (h : ParserV w T R b text p V) (hs : ∀ k, T k ≠ 0 -> w'.heap[k]? = w.heap[k]?) (hz : w.heap.size <= w'.heap.size) : ParserV w' T R b text p V := by
 have s : ∀ {o : Option Nat} {t : Nat}, tagged T o t -> t ≠ 0 -> ∀ k, o = some k -> w'.heap[k]? = w.heap[k]? := fun ht hne k hk => hs k (by rw [ht k hk]; exact hne)
 exact ⟨(hs b (by rw [h.tp]; decide)).trans h.cells, h.tp, row_same h.r1 (s h.t1 (by decide)), h.t1, row_same h.r3 (s h.t3 (by decide)), h.t3, row_same h.r6 (s h.t6 (by decide)), h.t6, h.nf,
  fun i it v h1 h2 => ⟨row_same (h.rf i it v h1 h2).1 (s (h.rf i it v h1 h2).2 (by decide)), (h.rf i it v h1 h2).2⟩, fun k hk => ⟨(h.low k hk).1, Nat.lt_of_lt_of_le (h.low k hk).2 hz⟩⟩
theorem ParserV.below {w w' : World} {T : Nat -> Nat} {R b : Nat} {text : ByteArray} {p : PS} {V : PV} (h : ParserV w T R b text p V) (hb : Below w.heap.size w w') : ParserV w' T R b text p V :=
 h.same (fun k hk => hb.block k (h.low k hk).2) hb.size
theorem ParserAt.below {w w' : World} {T : Nat -> Nat} {R b : Nat} {text : ByteArray} {p : PS} (h : ParserAt w T R b text p) (hb : Below w.heap.size w w') : ParserAt w' T R b text p := by
 obtain ⟨V, h⟩ := h; exact ⟨V, h.below hb⟩
theorem ParserV.lt {w : World} {T : Nat -> Nat} {R b : Nat} {text : ByteArray} {p : PS} {V : PV} (h : ParserV w T R b text p V) : b < w.heap.size := h.cells.lt
theorem ParserV.new (w : World) (text : ByteArray) (R : Nat) (hR : R <= w.heap.size) : ParserV (w.alloc (.cells #[.int .i64 0, .slice none 0 0, .string text, .slice none 0 0, .int .i64 0, .int .i64 0, .slice none 0 0] 104)) (fun k => if k = w.heap.size then 1 else 0) R w.heap.size text PS.new ⟨.slice none 0 0, .slice none 0 0, .slice none 0 0, []⟩ := by
 have tn : ∀ t, tagged (fun k => if k = w.heap.size then 1 else 0) (Value.slice none 0 0).ownBlock t := fun t k h => by cases h
 have rn : ∀ e size, (w.alloc (.cells #[.int .i64 0, .slice none 0 0, .string text, .slice none 0 0, .int .i64 0, .int .i64 0, .slice none 0 0] 104)).ownsRow 0 e size (.slice none 0 0) 0 [] := fun e size => ⟨by simp, .inl ⟨rfl, rfl⟩⟩
 refine ⟨Cells.new _ _ _, if_pos rfl, rn _ _, tn 2, rn _ _, tn 3, rn _ _, tn 4, rfl, (fun i it v h _ => by cases h), fun k hk => ?_⟩
 have : k = w.heap.size := by
  rcases Nat.decEq k w.heap.size with h | h
  ·rw [if_neg h] at hk; exact absurd rfl hk
  exact h
 subst this
 exact ⟨hR, by simp⟩
theorem own_slice {w : World} {base : Nat} {e : TypeId} {size : Nat} {v : Value} {n : Nat} {xs : List Value} (h : w.ownsRow base e size v n xs) : ∃ a cap, v = .slice a n cap /\ n <= cap := by
 rcases h.2 with ⟨rfl, rfl⟩ | ⟨g, cap, cur, rfl, _, _, hle, _⟩
 ·exact ⟨none, 0, rfl, Nat.le_refl _⟩
 exact ⟨_, cap, rfl, hle⟩
theorem under_any {w : World} {T : Nat -> Nat} {R b : Nat} {text : ByteArray} {p : PS} {V : PV} (h : ParserV w T R b text p V) :
  Calls Tryz.prog 101 #[.pointer (some ⟨b, 0, none⟩)] w fun e w' => e = .returned (.bool (!p.said.isEmpty)) /\ w = w' := by
 obtain ⟨a, cap, e1, hc⟩ := own_slice h.r1
 have c1 : w.cell? ⟨b, 1, none⟩ = some (.slice a p.said.length cap) := by rw [<- e1]; exact h.cells.cell 1
 have hl := h.lt
 have hb : (!p.said.isEmpty) = decide (0 < p.said.length) := by cases p.said <;> simp
 rw [hb]
 clear h
 go_enter Tryz.func101, Tryz.ntmps101
 go_wp2
 go_ret
 exact ⟨rfl, rfl⟩
theorem full_any {w : World} {T : Nat -> Nat} {R b : Nat} {text : ByteArray} {p : PS} {V : PV} (h : ParserV w T R b text p V) :
  Calls Tryz.prog 106 #[.pointer (some ⟨b, 0, none⟩)] w fun e w' => e = .returned (.bool (fullP p)) /\ w = w' := by
 obtain ⟨a, cap, e1, hc⟩ := own_slice h.r6
 have c1 : w.cell? ⟨b, 6, none⟩ = some (.slice a p.fields.length cap) := by rw [<- e1]; exact h.cells.cell 6
 have c2 : w.cell? ⟨b, 4, none⟩ = some (.int .i64 p.stanzas) := h.cells.cell 4
 have hl := h.lt
 unfold fullP
 clear h
 by_cases h0 : p.fields.length = 0
 ·rw [if_pos h0]
  rw [h0] at c1
  have e2 : (p.stanzas == 400) = ((p.stanzas : Int) == 400) := by rw [Bool.eq_iff_iff]; simp; omega
  rw [e2]
  go_enter Tryz.func106, Tryz.ntmps106
  go_wp2
  go_ret
  exact ⟨rfl, rfl⟩
 rw [if_neg h0]
 have e2 : (p.fields.length == 40) = ((p.fields.length : Int) == 40) := by rw [Bool.eq_iff_iff]; simp; omega
 have e3 : ((p.fields.length : Int) == 0) = false := beq_eq_false_iff_ne.2 (by omega)
 rw [e2]
 go_enter Tryz.func106, Tryz.ntmps106
 go_wp2
 go_ret
 exact ⟨rfl, rfl⟩
end Go.Proofs.YtbkeoiefolkjfaaGreatDoor
namespace Go.Proofs.YtbkeoiefolkjfaaGreatDoor
open Go.RowKit
theorem saidCells_snoc (l : List (List UInt8)) (x : List UInt8) : saidCells (l ++ [x]) = saidCells l ++ [.string (B x)] := by unfold saidCells; simp
theorem infoStr0 : (Tryz.prog.info? 9).map (fun i => (i.zero, i.size, i.bytes)) = some (some (.string ⟨#[]⟩), 1, 16) := by kernel_rfl
theorem retag_both {w w' : World} {T : Nat -> Nat} {R : Nat} {a o : Option Nat} {t : Nat} (low : ∀ k, T k ≠ 0 -> R <= k /\ k < w.heap.size) (hs : w.heap.size <= w'.heap.size) (hR : R <= w.heap.size) (h : sameOr w.heap.size w'.heap.size a o) (ha : tagged T a t) (ht : t ≠ 0) :
  ∀ k, retag T w.heap.size o t k ≠ 0 -> R <= k /\ k < w'.heap.size := by
 intro k hk
 unfold retag at hk
 split at hk
 ·rename_i hn
  rcases h with h | ⟨j, h, _, h2⟩
  ·have := low k (by rw [ha k (by rw [<- h]; exact hn.2)]; exact ht); omega
  have := hn.2; rw [h] at this; cases this; omega
 have := low k hk; omega
theorem ParserV.said {w w' : World} {T : Nat -> Nat} {R b : Nat} {text : ByteArray} {p p' : PS} {V : PV} (h : ParserV w T R b text p V) (hR : R <= w.heap.size) (v1' : Value)
  (hc : Cells w' b 104 (pCells p' text v1' V.v3 V.v6)) (hr : w'.ownsRow 0 9 1 v1' p'.said.length (saidCells p'.said)) (hk : sameOr w.heap.size w'.heap.size V.v1.ownBlock v1'.ownBlock)
  (ho : Only (fun r => r = b \/ some r = V.v1.ownBlock) w w') (e1 : p'.items = p.items) (e2 : p'.fields = p.fields) :
  ∃ T', ParserV w' T' R b text p' { V with v1 := v1' } /\ PStep w T w' T' := by
 have hs : ∀ k, T k ≠ 0 -> T k ≠ 1 -> T k ≠ 2 -> w'.heap[k]? = w.heap[k]? := fun k h0 h1 h2 => ho.same k (h.low k h0).2 (by
  rintro (e | e)
  ·exact h1 (by rw [e]; exact h.tp)
  exact h2 (h.t1 k e.symm))
 have s : ∀ {o : Option Nat} {t : Nat}, tagged T o t -> 3 <= t -> ∀ k, o = some k -> w'.heap[k]? = w.heap[k]? := fun ht hne k hk => hs k (by rw [ht k hk]; omega) (by rw [ht k hk]; omega) (by rw [ht k hk]; omega)
 have lo : ∀ {o : Option Nat} {t : Nat}, tagged T o t -> t ≠ 0 -> ∀ k, o = some k -> k < w.heap.size := fun ht hne k hk => (h.low k (by rw [ht k hk]; exact hne)).2
 refine ⟨retag T w.heap.size v1'.ownBlock 2, ⟨hc, by rw [retag_old h.lt]; exact h.tp, hr, retag_same hk h.t1, ?_, retag_other h.t3 (lo h.t3 (by decide)), ?_, retag_other h.t6 (lo h.t6 (by decide)), by rw [e1]; exact h.nf, fun i it v h1 h2 => ?_, retag_both h.low ho.size hR hk h.t1 (by decide)⟩,
  ⟨ho.mono fun r hr' e => ?_, fun r hr' => by rw [retag_old hr']⟩⟩
 ·rw [e1]; exact row_same h.r3 (s h.t3 (by decide))
 ·rw [e2]; exact row_same h.r6 (s h.t6 (by decide))
 ·obtain ⟨a, c⟩ := h.rf i it v (by rw [<- e1]; exact h1) h2
  exact ⟨row_same a (s c (by decide)), retag_other c (lo c (by decide))⟩
 rcases e with e | e
 ·rw [e, h.tp]; decide
 rw [h.t1 r e.symm]; decide
def startP (p : PS) (x : Ln) : PS := { p with begin_ := x.no, said := [x.text] }
theorem start_any {w : World} {T : Nat -> Nat} {R b : Nat} {text : ByteArray} {p : PS} {V : PV} (h : ParserV w T R b text p V) (hR : R <= w.heap.size) (x : Ln) :
  Calls Tryz.prog 103 #[.pointer (some ⟨b, 0, none⟩), .agg #[.int .i64 x.no, .int .i64 x.at_, .string (B x.text), .bool x.ended]] w fun e w' => e = .returned (.tuple #[]) /\ ∃ T', ParserAt w' T' R b text (startP p x) /\ PStep w T w' T' := by
 have hl := h.lt
 have hcell := h.cells
 have k0 : w.cell? ⟨b, 0, none⟩ = some (.int .i64 p.begin_) := hcell.cell 0
 have k1 : w.cell? ⟨b, 1, none⟩ = some V.v1 := hcell.cell 1
 have kf0 := hcell.frozen 0
 have kf1 := hcell.frozen 1
 have HF := Lib.hid (fun w' v1' hc hr hk ho => ParserV.said (p' := startP p x) h hR (w' := w') v1' hc hr hk ho rfl rfl)
 have HC := Lib.hid hcell
 clear h hcell
 go_enter Tryz.func103, Tryz.ntmps103
 go_wp2
 go_region
 all_goals
  go_wp2
  go_end0
  refine ⟨rfl, ?_⟩
  refine Exists.elim (HF.out _ (.slice (some ⟨w.heap.size + 1, 0, none⟩) 1 1) ?c ?r ?k ?o) fun T' g => ⟨T', ⟨_, g.1⟩, g.2⟩
  case c =>
   have hc := ((((HC.out.set 0 (.int .i64 x.no)).set 1 (.slice (some ⟨w.heap.size + 1, 0, none⟩) 1 1)).alloc (.cells #[.int .i64 x.no, .int .i64 x.at_, .string (B x.text), .bool x.ended] 99)).alloc (.cells #[.string (B x.text)] 9)).drew
   simpa [pCells, startP] using hc
  case r =>
   have hz : (((w.setCell ⟨b, 0, none⟩ (.int .i64 x.no)).setCell ⟨b, 1, none⟩ (.slice (some ⟨w.heap.size + 1, 0, none⟩) 1 1)).alloc (.cells #[.int .i64 x.no, .int .i64 x.at_, .string (B x.text), .bool x.ended] 99)).heap.size = w.heap.size + 1 := by simp [World.setCell]
   have := World.ownsRow_lit (base := 0) (((w.setCell ⟨b, 0, none⟩ (.int .i64 x.no)).setCell ⟨b, 1, none⟩ (.slice (some ⟨w.heap.size + 1, 0, none⟩) 1 1)).alloc (.cells #[.int .i64 x.no, .int .i64 x.at_, .string (B x.text), .bool x.ended] 99)) (e := 9) (size := 1) #[.string (B x.text)] 1 (Nat.zero_le _) (by decide) rfl
   rw [hz] at this
   exact row_same this fun _ _ => rfl
  case k => exact .inr ⟨w.heap.size + 1, rfl, by omega, by simp [World.setCell, World.drew]⟩
  case o => exact ((((Only.refl _ w).setCell (p := ⟨b, 0, none⟩) (.inl (.inl rfl)) _).setCell (p := ⟨b, 1, none⟩) (.inl (.inl rfl)) _).alloc _).alloc _ |>.drew
theorem rowBlock_ne {w : World} {T : Nat -> Nat} {b : Nat} {v : Value} {t : Nat} (hb : T b = 1) (ht : tagged T v.ownBlock t) (h : t ≠ 1) : v.ownBlock ≠ some b := fun e => h (by rw [<- ht b e, hb])
def goOnP (p : PS) (x : Ln) : PS := { p with said := p.said ++ [x.text] }
theorem goOn_any {w : World} {T : Nat -> Nat} {R b : Nat} {text : ByteArray} {p : PS} {V : PV} (h : ParserV w T R b text p V) (hR : R <= w.heap.size) (x : Ln) (hn : p.said.length <= 1000000) :
  Calls Tryz.prog 102 #[.pointer (some ⟨b, 0, none⟩), .agg #[.int .i64 x.no, .int .i64 x.at_, .string (B x.text), .bool x.ended]] w fun e w' => e = .returned (.tuple #[]) /\ ∃ T', ParserAt w' T' R b text (goOnP p x) /\ PStep w T w' T' := by
 obtain ⟨i0, hi, hz0, hz1, hz2⟩ := info_parts infoStr0
 have hl := h.lt
 have k1 : w.cell? ⟨b, 1, none⟩ = some V.v1 := h.cells.cell 1
 have HF := Lib.hid (fun w' v1' hc hr hk ho => ParserV.said (p' := goOnP p x) h hR (w' := w') v1' hc hr hk ho rfl rfl)
 have HC := Lib.hid h.cells
 have HO := Lib.hid h.r1
 have HE := Lib.hid (rowBlock_ne (w := w) h.tp h.t1 (by decide))
 clear h
 go_enter Tryz.func102, Tryz.ntmps102
 go_wp2
 go_region_law ((refine step_append_own rfl (.tmp 8) (.tmp 11) 100 rfl 9 i0 _ 1 16 Tryz.underlying100 hi hz0 hz1 hz2 rfl (by decide) V.v1 p.said.length (saidCells p.said) (by simp [Act.eval]) (by exact ((HO.out.alloc _).alloc _).drew) ⟨w.heap.size + 1, 0, none⟩ 1 1 [.string (B x.text)] (by simp [Act.eval]) rfl (by have := cells_new_add (w.alloc (.cells #[.int .i64 x.no, .int .i64 x.at_, .string (B x.text), .bool x.ended] 99)) 9 [.string (B x.text)]; rw [World.size_alloc] at this; exact this) (by intro u hu; simp at hu; subst hu; rfl) (by unfold maxLen; omega) (by omega) ?_); intro v' w' ho hgr hbk; obtain ⟨⟨g', cap', rfl⟩, hg', hbx, hk, hon⟩ := appended HC.out HO.out HE.out ((((Below.refl _ w).alloc (Nat.le_refl _) _).alloc (by simp) _).drew) ho hgr hbk; have k1' : w'.cell? ⟨b, 1, none⟩ = some V.v1 := hg'.cell 1; have kf1' := hg'.frozen 1)
 all_goals
  go_wp2
  go_end0
  have hvg : (Value.slice (some ⟨g', 0, none⟩) (p.said.length + 1) cap').ownBlock ≠ some b := by
   intro e
   rcases hk with h | ⟨k, h, h2, _⟩
   ·exact HE.out (h.symm.trans e)
   rw [h] at e; cases e; omega
  refine ⟨rfl, Exists.elim (HF.out _ (.slice (some ⟨g', 0, none⟩) (p.said.length + 1) cap') ?k1 ?k2 ?k3 ?k4) fun T' g => ⟨T', ⟨_, g.1⟩, g.2⟩⟩
  case k1 =>
   have hc := hg'.set 1 (.slice (some ⟨g', 0, none⟩) (p.said.length + 1) cap')
   simpa [pCells, goOnP] using hc
  case k2 =>
   have hr := row_cell (p := ⟨b, 1, none⟩) ho hvg (.slice (some ⟨g', 0, none⟩) (p.said.length + 1) cap')
   have e1 : (goOnP p x).said.length = p.said.length + 1 := by simp [goOnP]
   have e2 : saidCells (goOnP p x).said = saidCells p.said ++ [.string (B x.text)] := saidCells_snoc _ _
   rw [e1, e2]
   exact hr
  case k3 => unfold sameOr; simpa [World.setCell] using hk
  case k4 => exact (hon.mono (fun r _ h => .inr h)).setCell (p := ⟨b, 1, none⟩) (.inl (.inl rfl)) _
end Go.Proofs.YtbkeoiefolkjfaaGreatDoor
namespace Go.Proofs.YtbkeoiefolkjfaaGreatDoor
open Go.RowKit
theorem infoItem : (Tryz.prog.info? 117).map (fun i => (i.zero, i.size, i.bytes)) = some (some (.agg #[.int .i64 0, .string ⟨#[]⟩, .slice none 0 0]), 3, 48) := by kernel_rfl
theorem cut_text (text : ByteArray) (a e : Nat) : text.extract a e = B ((text.data.toList.take e).drop a) := by
 have h := Lib.extract_data text a e
 have h2 : (text.data.toList.take e).drop a = (text.data.toList.drop a).take (e - a) := by rw [List.drop_take]
 rw [h2, <- h, B_of]
def moved (T : Nat -> Nat) (a c : Nat) : Nat -> Nat := fun k => if T k = a then c else T k
theorem moved_other {T : Nat -> Nat} {a c : Nat} {o : Option Nat} {t : Nat} (h : tagged T o t) (ht : t ≠ a) : tagged (moved T a c) o t := by
 intro k hk; unfold moved; rw [if_neg (by rw [h k hk]; exact ht)]; exact h k hk
theorem moved_it {T : Nat -> Nat} {a c : Nat} {o : Option Nat} (h : tagged T o a) : tagged (moved T a c) o c := by
 intro k hk; unfold moved; rw [if_pos (h k hk)]
theorem moved_zero {T : Nat -> Nat} {a c : Nat} (ha : a ≠ 0) (hc : c ≠ 0) (k : Nat) : moved T a c k = 0 ↔ T k = 0 := by
 unfold moved
 split
 ·rename_i h; rw [h]; exact ⟨fun e => absurd e hc, fun e => absurd e ha⟩
 exact Iff.rfl
theorem ParserV.item {w w' : World} {T : Nat -> Nat} {R b : Nat} {text : ByteArray} {p p' : PS} {V : PV} (h : ParserV w T R b text p V) (hR : R <= w.heap.size) (v3' : Value) (it : It)
  (hc : Cells w' b 104 (pCells p' text V.v1 v3' (.slice none 0 0))) (hr : w'.ownsRow 0 117 3 v3' (p.items.length + 1) (itemsCells p.items V.fvs ++ itemCells it V.v6)) (hk : sameOr w.heap.size w'.heap.size V.v3.ownBlock v3'.ownBlock)
  (ho : Only (fun r => r = b \/ some r = V.v3.ownBlock) w w') (e1 : p'.items = p.items ++ [it]) (e2 : p'.fields = []) (e3 : p'.said = p.said) (e4 : it.fields = p.fields) :
  ∃ T', ParserV w' T' R b text p' { V with v3 := v3', v6 := .slice none 0 0, fvs := V.fvs ++ [V.v6] } /\ PStep w T w' T' := by
 have hs : ∀ k, T k ≠ 0 -> T k ≠ 1 -> T k ≠ 3 -> w'.heap[k]? = w.heap[k]? := fun k h0 h1 h2 => ho.same k (h.low k h0).2 (by
  rintro (e | e)
  ·exact h1 (by rw [e]; exact h.tp)
  exact h2 (h.t3 k e.symm))
 have s : ∀ {o : Option Nat} {t : Nat}, tagged T o t -> t ≠ 0 -> t ≠ 1 -> t ≠ 3 -> ∀ k, o = some k -> w'.heap[k]? = w.heap[k]? := fun ht h0 h1 h3 k hk => hs k (by rw [ht k hk]; exact h0) (by rw [ht k hk]; exact h1) (by rw [ht k hk]; exact h3)
 have lo : ∀ {o : Option Nat} {t : Nat}, tagged T o t -> t ≠ 0 -> ∀ k, o = some k -> k < w.heap.size := fun ht hne k hk => (h.low k (by rw [ht k hk]; exact hne)).2
 have lowM : ∀ k, moved T 4 5 k ≠ 0 -> R <= k /\ k < w.heap.size := fun k hk => h.low k (fun e => hk ((moved_zero (by decide) (by decide) k).2 e))
 refine ⟨retag (moved T 4 5) w.heap.size v3'.ownBlock 3, ⟨hc, ?_, ?_, ?_, ?_, ?_, ?_, ?_, ?_, ?_, ?_⟩, ⟨ho.mono fun r hr' e => ?_, fun r hr' => by rw [retag_old hr']; exact moved_zero (by decide) (by decide) r⟩⟩
 ·rw [retag_old h.lt]; unfold moved; rw [h.tp]; rfl
 ·rw [e3]; exact row_same h.r1 (s h.t1 (by decide) (by decide) (by decide))
 ·exact retag_other (moved_other h.t1 (by decide)) (lo h.t1 (by decide))
 ·rw [e1, List.length_append, itemsCells_snoc _ _ _ _ h.nf]; exact hr
 ·exact retag_same hk (moved_other h.t3 (by decide))
 ·rw [e2]; exact ⟨by simp [cellsF], .inl ⟨rfl, rfl⟩⟩
 ·exact fun k hk => by cases hk
 ·rw [e1, List.length_append, List.length_append, h.nf]; rfl
 ·intro i it' v h1 h2
  rw [e1] at h1
  dsimp only at h2
  rcases Nat.lt_or_ge i p.items.length with q | q
  ·rw [List.getElem?_append_left q] at h1
   rw [List.getElem?_append_left (by rw [h.nf]; exact q)] at h2
   obtain ⟨a, c⟩ := h.rf i it' v h1 h2
   exact ⟨row_same a (s c (by decide) (by decide) (by decide)), retag_other (moved_other c (by decide)) (lo c (by decide))⟩
  rw [List.getElem?_append_right q] at h1
  rw [List.getElem?_append_right (by rw [h.nf]; exact q), h.nf] at h2
  have hz : i - p.items.length = 0 := by
   rcases Nat.eq_zero_or_pos (i - p.items.length) with z | z
   ·exact z
   rw [List.getElem?_eq_none (by simp; omega)] at h1; cases h1
  rw [hz] at h1 h2
  cases h1; cases h2
  rw [e4]
  exact ⟨row_same h.r6 (s h.t6 (by decide) (by decide) (by decide)), retag_other (moved_it h.t6) (lo h.t6 (by decide))⟩
 ·exact retag_both lowM ho.size hR hk (moved_other h.t3 (by decide)) (by decide)
 rcases e with e | e
 ·rw [e, h.tp]; decide
 rw [h.t3 r e.symm]; decide
theorem endItem_any {w : World} {T : Nat -> Nat} {R b : Nat} {text : ByteArray} {p : PS} {V : PV} (h : ParserV w T R b text p V) (hR : R <= w.heap.size) (kind e : Nat) (h1 : p.at_ <= e) (h2 : e <= text.size) (h3 : text.size <= 1000000) (hn : p.items.length <= 1000000) :
  Calls Tryz.prog 104 #[.pointer (some ⟨b, 0, none⟩), .int .i64 kind, .int .i64 e] w fun e' w' => e' = .returned (.tuple #[]) /\ ∃ T', ParserAt w' T' R b text (endItemP text.data.toList p kind e) /\ PStep w T w' T' := by
 obtain ⟨i0, hi, hz0, hz1, hz2⟩ := info_parts infoItem
 obtain ⟨a6, c6, e6, _⟩ := own_slice h.r6
 have hl := h.lt
 have HF := Lib.hid (fun w' v3' hc hr hk ho => ParserV.item (p' := endItemP text.data.toList p kind e) h hR (w' := w') v3' ⟨kind, (text.data.toList.take e).drop p.at_, p.fields⟩ hc hr hk ho rfl rfl rfl rfl)
 have HC := Lib.hid h.cells
 have HO := Lib.hid h.r3
 have HE := Lib.hid (rowBlock_ne (w := w) h.tp h.t3 (by decide))
 have HT := Lib.hid (cut_text text p.at_ e)
 have q3 : w.cell? ⟨b, 3, none⟩ = some V.v3 := h.cells.cell 3
 have q2 : w.cell? ⟨b, 2, none⟩ = some (.string text) := h.cells.cell 2
 have q5 : w.cell? ⟨b, 5, none⟩ = some (.int .i64 p.at_) := h.cells.cell 5
 have q6 : w.cell? ⟨b, 6, none⟩ = some (.slice a6 p.fields.length c6) := by rw [<- e6]; exact h.cells.cell 6
 clear h
 go_enter Tryz.func104, Tryz.ntmps104
 go_wp2
 go_cut [] (fun wx => ∃ g' cap', Cells wx b 104 (pCells p text V.v1 (.slice (some ⟨g', 0, none⟩) (p.items.length + 1) cap') V.v6) /\
  wx.ownsRow 0 117 3 (.slice (some ⟨g', 0, none⟩) (p.items.length + 1) cap') (p.items.length + 1) (itemsCells p.items V.fvs ++ [.int .i64 kind, .string (text.extract p.at_ e), .slice a6 p.fields.length c6]) /\
  sameOr w.heap.size wx.heap.size V.v3.ownBlock (Value.slice (some ⟨g', 0, none⟩) (p.items.length + 1) cap').ownBlock /\ g' ≠ b /\ Only (fun r => r = b \/ some r = V.v3.ownBlock) w wx)
 case first =>
  go_region_law ((refine step_append_own rfl (.tmp 10) (.tmp 27) 61 rfl 117 i0 _ 3 48 Tryz.underlying61 hi hz0 hz1 hz2 rfl (by decide) V.v3 p.items.length (itemsCells p.items V.fvs) (by simp [Act.eval]) (by exact (HO.out.alloc _).drew) ⟨w.heap.size, 0, none⟩ 1 1 [.int .i64 kind, .string (text.extract p.at_ e), .slice a6 p.fields.length c6] (by simp [Act.eval]) rfl (cells_new_add w 117 [.int .i64 kind, .string (text.extract p.at_ e), .slice a6 p.fields.length c6]) (by intro u hu; simp at hu; rcases hu with rfl | rfl | rfl <;> rfl) (by unfold maxLen; omega) (by omega) ?_); intro v' w' ho hgr hbk; obtain ⟨⟨g', cap', rfl⟩, hg', hbx, hk, hon⟩ := appended HC.out HO.out HE.out (((Below.refl _ w).alloc (Nat.le_refl _) _).drew) ho hgr hbk; have k3' : w'.cell? ⟨b, 3, none⟩ = some V.v3 := hg'.cell 3; have kf3' := hg'.frozen 3)
  all_goals
   go_wp2
   go_meet
   have hvg : g' ≠ b := by
    intro e
    rcases hk with h | ⟨k, h, h2, _⟩
    ·exact HE.out (h.symm.trans (by rw [e]; rfl))
    have hh : g' = k := Option.some.inj (show some g' = some k from h)
    omega
   refine ⟨g', cap', ?_, row_cell (p := ⟨b, 3, none⟩) ho (fun e => hvg (by cases e; rfl)) _, ?_, hvg, (hon.mono (fun r _ h => .inr h)).setCell (p := ⟨b, 3, none⟩) (.inl (.inl rfl)) _⟩
   ·simpa [pCells] using hg'.set 3 (.slice (some ⟨g', 0, none⟩) (p.items.length + 1) cap')
   unfold sameOr; simpa [World.setCell] using hk
 case rest =>
 obtain ⟨g', cap', hc, hr, hk, hvg, ho⟩ := hcut
 have k5 : wc.cell? ⟨b, 5, none⟩ = some (.int .i64 p.at_) := hc.cell 5
 have kf5 := hc.frozen 5
 have k6 : wc.cell? ⟨b, 6, none⟩ = some (.slice a6 p.fields.length c6) := by rw [<- e6]; exact hc.cell 6
 have kf6 := hc.frozen 6
 go_wp2
 go_end0
 refine ⟨rfl, Exists.elim (HF.out _ (.slice (some ⟨g', 0, none⟩) (p.items.length + 1) cap') ?k1 ?k2 ?k3 ?k4) fun T' g => ⟨T', ⟨_, g.1⟩, g.2⟩⟩
 case k1 =>
  have := (hc.set 5 (.int .i64 e)).set 6 (.slice none 0 0)
  simpa [pCells, endItemP] using this
 case k2 =>
  have e9 : itemCells ⟨kind, (text.data.toList.take e).drop p.at_, p.fields⟩ V.v6 = [.int .i64 kind, .string (text.extract p.at_ e), .slice a6 p.fields.length c6] := by
   unfold itemCells; rw [HT.out, e6]
  rw [e9]
  exact row_cell (p := ⟨b, 6, none⟩) (row_cell (p := ⟨b, 5, none⟩) hr (fun e => hvg (by cases e; rfl)) _) (fun e => hvg (by cases e; rfl)) _
 case k3 => unfold sameOr at hk ⊢; simpa [World.setCell] using hk
 case k4 => exact (ho.setCell (p := ⟨b, 5, none⟩) (.inl (.inl rfl)) _).setCell (p := ⟨b, 6, none⟩) (.inl (.inl rfl)) _
end Go.Proofs.YtbkeoiefolkjfaaGreatDoor
namespace Go.Proofs.YtbkeoiefolkjfaaGreatDoor
open Go.RowKit
theorem endBlock_any {w : World} {T : Nat -> Nat} {R b : Nat} {text : ByteArray} {p : PS} (h : ParserAt w T R b text p) (hR : R <= w.heap.size) (e : Nat) (h1 : p.at_ <= e) (h2 : e <= text.size) (h3 : text.size <= 1000000) (hn : p.items.length <= 1000000) (hs : p.stanzas <= 1000000) :
  Calls Tryz.prog 55 #[.pointer (some ⟨b, 0, none⟩), .int .i64 e] w fun e' w' => e' = .returned (.tuple #[]) /\ ∃ T', ParserAt w' T' R b text (endBlockP text.data.toList p e) /\ PStep w T w' T' := by
 obtain ⟨V, h⟩ := h
 obtain ⟨a6, c6, e6, _⟩ := own_slice h.r6
 have hl := h.lt
 have q5 : w.cell? ⟨b, 5, none⟩ = some (.int .i64 p.at_) := h.cells.cell 5
 have q6 : w.cell? ⟨b, 6, none⟩ = some (.slice a6 p.fields.length c6) := by rw [<- e6]; exact h.cells.cell 6
 unfold endBlockP
 by_cases he : p.at_ = e
 ·rw [if_pos he]
  have g : ParserAt w T R b text p := ⟨V, h⟩
  have x1 : ((p.at_ : Int) == (e : Int)) = true := by rw [he]; simp
  clear h
  go_enter Tryz.func55, Tryz.ntmps55
  go_wp2
  refine bodyPost_ret (results_none rfl _ _ _) rfl ?_
  exact ⟨rfl, T, g, PStep.refl _ _⟩
 rw [if_neg he]
 have x1 : ((p.at_ : Int) == (e : Int)) = false := beq_eq_false_iff_ne.2 (by omega)
 by_cases hf : p.fields.length = 0
 ·rw [if_pos hf]
  have x2 : ((p.fields.length : Int) == 0) = true := by rw [hf]; rfl
  have EI := Lib.hid (endItem_any h hR 2 e h1 h2 h3 hn)
  clear h
  go_enter Tryz.func55, Tryz.ntmps55
  go_wp2_with fail
  refine EI.out.mono ?_
  rintro e' w1 ⟨rfl, T1, g1, s1⟩
  go_wp2
  go_end0
  exact ⟨rfl, T1, g1, s1⟩
 rw [if_neg hf]
 have x2 : ((p.fields.length : Int) == 0) = false := beq_eq_false_iff_ne.2 (by omega)
 have EI := Lib.hid (endItem_any h hR 3 e h1 h2 h3 hn)
 clear h
 go_enter Tryz.func55, Tryz.ntmps55
 go_wp2_with fail
 refine EI.out.mono ?_
 rintro e' w1 ⟨rfl, T1, ⟨V1, g1⟩, s1⟩
 have hl1 := g1.lt
 have k4 : w1.cell? ⟨b, 4, none⟩ = some (.int .i64 p.stanzas) := g1.cells.cell 4
 have kf4 := g1.cells.frozen 4
 have n1 : IntKind.i64.wrap ((p.stanzas : Int) + 1) = (p.stanzas : Int) + 1 := IntWalk.i64_in _ (by omega)
 go_wp2
 go_end0
 refine ⟨rfl, T1, ⟨V1, ?_⟩, s1.trans ⟨((Only.refl _ _).setCell (p := ⟨b, 4, none⟩) (.inl (by rw [g1.tp]; decide)) _), fun _ _ => Iff.rfl⟩⟩
 have hc : Cells (w1.setCell ⟨b, 4, none⟩ (.int .i64 ((p.stanzas : Int) + 1))) b 104 (pCells { endItemP text.data.toList p 3 e with stanzas := p.stanzas + 1 } text V1.v1 V1.v3 V1.v6) := by
  have := g1.cells.set 4 (.int .i64 ((p.stanzas : Int) + 1))
  simpa [pCells] using this
 have ne : ∀ {o : Option Nat} {t : Nat}, tagged T1 o t -> t ≠ 1 -> o ≠ some b := fun ht h1 e => h1 (by rw [<- ht b e, g1.tp])
 exact ⟨hc, g1.tp, row_cell g1.r1 (ne g1.t1 (by decide)) _, g1.t1, row_cell g1.r3 (ne g1.t3 (by decide)) _, g1.t3, row_cell g1.r6 (ne g1.t6 (by decide)) _, g1.t6, g1.nf,
  fun i it v a c => ⟨row_cell (g1.rf i it v a c).1 (ne (g1.rf i it v a c).2 (by decide)) _, (g1.rf i it v a c).2⟩, fun k hk => by simpa [World.setCell] using g1.low k hk⟩
end Go.Proofs.YtbkeoiefolkjfaaGreatDoor
