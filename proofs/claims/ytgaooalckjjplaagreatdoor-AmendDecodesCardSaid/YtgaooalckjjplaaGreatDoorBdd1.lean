/- Texts put together: AB, LM, KM, FM, PO, PR, TA, FS, FL, S, FB, FC, FD, FE, RH, PI. -/
import Derived.Lib.AtoiAll
import Derived.Lib.ItoaLen
import Derived.Test.YtgaooalckjjplaaGreatDoorChecked
import Derived.WalkKit
import Derived.ProofKit
import Derived.OpenShut
import Derived.Below
import Derived.Lib.Hide
import Derived.Lib.Strings
import Derived.Deep.QuietTactic
import Derived.BigQuiet
import Derived.OwnWalk
import Derived.Laws.AppendOwn
import Derived.Laws.OwnMore
import Derived.Lib.SmallJoins
import Derived.Shelf.Strings.Builder1
import Derived.Shelf.Strings.Builder2
import Derived.Shelf.Strings.OnBuilder
import Derived.Shelf.Strings.Trim
import Derived.Shelf.Small.Utf8
import Derived.Shelf.Small.Strs
import Derived.Shelf.Small.Wraps
import Derived.Shelf.Strings.BuilderF
import Derived.Shelf.Strings.BuilderK
import Derived.Shelf.Utf8.RuneCount
import Derived.Shelf.Strings.Builder2Cap
import Derived.Shelf.Strconv.Atoi
import Derived.Shelf.Strconv.Itoa0
import Derived.Shelf.Strconv.Itoa1
import Derived.Shelf.LaysM
import Derived.Shelf.Strconv.Itoa2
import Derived.Shelf.Strconv.Itoa3
import Derived.Shelf.Strconv.AtoiErrFast
import Derived.Shelf.Strconv.ParseIntEmpty
import Derived.Shelf.Strconv.AtoiFail
import Derived.Shelf.Strconv.Clone
import Derived.Shelf.Strconv.SyntaxError
import Derived.Shelf.LaysC
import Derived.Shelf.Strconv.ToError
import Derived.Shelf.Strconv.Lower
import Derived.Shelf.Strconv.ParseUint10
import Derived.Shelf.Strconv.ParseUint10Empty
import Derived.Shelf.Strconv.ParseUint10Any
import Derived.Shelf.Strconv.ParseInt10
import Derived.Shelf.Strconv.AtoiLong
import Derived.Shelf.Strconv.AtoiInnerAll
import Derived.Shelf.Strconv.RangeError
import Derived.Shelf.Strconv.ToErrorRange
import Derived.Shelf.Strconv.AtoiAll
import Derived.Shelf.Strconv.ErrVarAll
import Derived.Shelf.Strings.Search1
import Derived.Shelf.Strings.Search2
import Derived.Shelf.Strings.Search3
import Derived.Shelf.Strings.Cut
import Derived.Shelf.Strings.Count
import Derived.Shelf.Strings.Shaped
import Derived.Shelf.Strings.Prefix
import Derived.Shelf.Strings.Split
import Derived.Shelf.Strings.SplitShaped
import Derived.Shelf.Unicode.Decode
import Derived.Shelf.Strings.Runes
import Derived.Shelf.Strings.RuneCount
import Derived.Shelf.Strings.AsciiSet
import Derived.Shelf.Strings.Explode
import Derived.Shelf.Bits.Mul64
import Derived.Shelf.Strings.Repeat
import Derived.Shelf.Unicode.DecodeSlow
import Derived.Shelf.Unicode.DecodeAny
import Derived.Shelf.Unicode.DecodeLast
import Derived.Test.YtgaooalckjjplaaGreatDoorProg
import Derived.Lib.IndexBytes
import Derived.Test.YtgaooalckjjplaaGreatDoorBfa1
import Derived.Test.YtgaooalckjjplaaGreatDoorBfa2
import Derived.Test.YtgaooalckjjplaaGreatDoorBfa3
import Derived.Test.YtgaooalckjjplaaGreatDoorBfa4
import Derived.Test.YtgaooalckjjplaaGreatDoorBfa5
import Derived.Test.YtgaooalckjjplaaGreatDoorBfa7
import Derived.Test.YtgaooalckjjplaaGreatDoorBfa8
import Derived.Test.YtgaooalckjjplaaGreatDoorBfa9
import Derived.Test.YtgaooalckjjplaaGreatDoorBfa10
import Derived.Test.YtgaooalckjjplaaGreatDoorBfa11
set_option linter.unusedVariables false
namespace Go.Proofs.YtgaooalckjjplaaGreatDoor
open Go.Lib

/-- The digits' number, below 0 (as the document reckons it). -/
def numOn (n : Int) (l : List UInt8) : Int := l.foldl (fun n c => 10 * n - ((c.toNat : Int) - 48)) n
theorem numOn_snoc (n : Int) (l : List UInt8) (c : UInt8) : numOn n (l ++ [c]) = 10 * numOn n l - ((c.toNat : Int) - 48) := by unfold numOn; rw [List.foldl_append]; rfl
theorem numOn_dec (u : Nat) : numOn 0 (decDigits u) = -(u : Int) := by
  induction u using Nat.strongRecOn with
  | _ u ih =>
    by_cases h : u < 10
    · rw [decDigits_one h]
      show 10 * (0 : Int) - (((UInt8.ofNat (48 + u)).toNat : Int) - 48) = _
      rw [dig_nat h]; omega
    · rw [decDigits, dif_neg h, numOn_snoc, ih (u / 10) (by omega), dig_nat (show u % 10 < 10 by omega)]
      omega
/-- Of a beginning of the digits it is a beginning of the number. -/
theorem numOn_take (u k : Nat) : ∃ m : Nat, numOn 0 ((decDigits u).take k) = -(m : Int) ∧ m ≤ u := by
  induction u using Nat.strongRecOn generalizing k with
  | _ u ih =>
    by_cases hk : (decDigits u).length ≤ k
    · rw [List.take_of_length_le hk]; exact ⟨u, numOn_dec u, Nat.le_refl _⟩
    · by_cases h : u < 10
      · rw [decDigits_one h] at hk ⊢
        have : k = 0 := by simp at hk; omega
        subst this
        exact ⟨0, rfl, Nat.zero_le _⟩
      · rw [decDigits, dif_neg h] at hk ⊢
        rw [List.length_append] at hk
        simp only [List.length_cons, List.length_nil] at hk
        rw [List.take_append_of_le_length (by omega)]
        obtain ⟨m, e, hm⟩ := ih (u / 10) (by omega) k
        exact ⟨m, e, by omega⟩
end Go.Proofs.YtgaooalckjjplaaGreatDoor

namespace Go.Proofs.YtgaooalckjjplaaGreatDoor

/-- Each begins where those ahead of it end, and has its number. -/
theorem linesOn_at : ∀ (n no at_ : Nat) (l : List UInt8), l.length ≤ n → ∀ pre x post, linesOn no at_ l = pre ++ x :: post → x.no = no + pre.length ∧ x.at_ = at_ + (pre.flatMap Ln.bytes).length
  | 0, _, _, l, h, pre, x, post, e => by
    have : l = [] := List.length_eq_zero_iff.1 (by omega)
    subst this
    rw [linesOn_nil] at e
    exact absurd (congrArg List.length e) (by simp)
  | n + 1, no, at_, l, h, pre, x, post, e => by
    by_cases hl : l = []
    · subst hl; rw [linesOn_nil] at e; exact absurd (congrArg List.length e) (by simp)
    · have hp := used_pos l hl
      rw [linesOn_cons _ _ _ hl] at e
      cases pre with
      | nil => simp only [List.nil_append, List.cons.injEq] at e; obtain ⟨rfl, _⟩ := e; simp
      | cons y pre =>
        simp only [List.cons_append, List.cons.injEq] at e
        obtain ⟨rfl, e⟩ := e
        obtain ⟨a, b⟩ := linesOn_at n _ _ _ (by simp only [List.length_drop]; omega) pre x post e
        refine ⟨by rw [a]; simp; omega, ?_⟩
        rw [b, List.flatMap_cons, List.length_append]
        have : (Ln.bytes ⟨no, at_, head l, nl l⟩).length = used l := by
          unfold Ln.bytes used; simp only [List.length_append]; split <;> rfl
        rw [this]; omega
theorem linesOf_at (l : List UInt8) (pre : List Ln) (x : Ln) (post : List Ln) (e : linesOf l = pre ++ x :: post) : x.no = pre.length ∧ x.at_ = (pre.flatMap Ln.bytes).length := by
  have := linesOn_at _ 0 0 l (Nat.le_refl _) pre x post e
  simpa using this
/-- No line end stands in a line. -/
theorem linesOn_clean : ∀ (n no at_ : Nat) (l : List UInt8), l.length ≤ n → ∀ x ∈ linesOn no at_ l, (10 : UInt8) ∉ x.text
  | 0, _, _, l, h, x, hx => by
    have : l = [] := List.length_eq_zero_iff.1 (by omega)
    subst this
    rw [linesOn_nil] at hx; cases hx
  | n + 1, no, at_, l, h, x, hx => by
    by_cases hl : l = []
    · subst hl; rw [linesOn_nil] at hx; cases hx
    · have hp := used_pos l hl
      rw [linesOn_cons _ _ _ hl] at hx
      rcases List.mem_cons.1 hx with rfl | hx
      · intro hm
        have := List.all_takeWhile (p := fun (c : UInt8) => c != 10) (l := l)
        have := List.all_eq_true.1 this 10 hm
        simp at this
      · exact linesOn_clean n _ _ _ (by simp only [List.length_drop]; omega) x hx
end Go.Proofs.YtgaooalckjjplaaGreatDoor

namespace Go.Proofs.YtgaooalckjjplaaGreatDoor

theorem all_blank_cons {l : List UInt8} (h : blankAll l = false) : ∃ c t, l = c :: t := by
  cases l with
  | nil => simp [blankAll] at h
  | cons c t => exact ⟨c, t, rfl⟩
end Go.Proofs.YtgaooalckjjplaaGreatDoor

namespace Go.Proofs.YtgaooalckjjplaaGreatDoor

theorem partsL_snoc_nl : ∀ (l : List UInt8), partsL (l ++ [10]) = partsL l ++ [[]]
  | [] => rfl
  | c :: t => by
    have ih := partsL_snoc_nl t
    rw [List.cons_append]
    unfold partsL
    rw [ih, partsL_cons t]
    split <;> simp
theorem partsL_snoc : ∀ (l : List UInt8) (c : UInt8), c ≠ 10 → ∃ pre p, partsL l = pre ++ [p] ∧ partsL (l ++ [c]) = pre ++ [p ++ [c]]
  | [], c, h => ⟨[], [], rfl, by simp [partsL, h]⟩
  | d :: t, c, h => by
    obtain ⟨pre, p, e1, e2⟩ := partsL_snoc t c h
    rw [List.cons_append]
    unfold partsL
    rw [e1, e2]
    by_cases hd : d = 10
    · rw [if_pos hd, if_pos hd]; exact ⟨[] :: pre, p, rfl, rfl⟩
    · rw [if_neg hd, if_neg hd]
      cases pre with
      | nil => exact ⟨[], d :: p, rfl, rfl⟩
      | cons q r => exact ⟨(d :: q) :: r, p, rfl, rfl⟩
end Go.Proofs.YtgaooalckjjplaaGreatDoor

namespace Go.Proofs.YtgaooalckjjplaaGreatDoor

theorem runs_linesOn : ∀ (n no at_ : Nat) (l : List UInt8), l.length ≤ n → Runs no at_ (linesOn no at_ l)
  | 0, no, at_, l, h => by
    have : l = [] := List.length_eq_zero_iff.1 (by omega)
    subst this; rw [linesOn_nil]; trivial
  | n + 1, no, at_, l, h => by
    by_cases hl : l = []
    · subst hl; rw [linesOn_nil]; trivial
    · have hp := used_pos l hl
      rw [linesOn_cons _ _ _ hl]
      have hb : (Ln.bytes ⟨no, at_, head l, nl l⟩).length = used l := by
        unfold Ln.bytes used; simp only [List.length_append]; split <;> rfl
      refine ⟨rfl, rfl, by rw [hb]; exact hp, ?_⟩
      rw [hb]
      exact runs_linesOn n _ _ _ (by simp only [List.length_drop]; omega)
/-- A run that goes well. -/
theorem run_good (t : List UInt8) : ∀ (xs : List Ln) (no c : Nat) (p q : PS), Runs no c xs → no ≤ c → Inv p c → Good t p → runP t p xs = .ok q → Inv q (c + (xs.flatMap Ln.bytes).length) ∧ Good t q ∧ ∀ x ∈ xs, x.ended = true
  | [], no, c, p, q, _, _, hi, hg, he => by
    cases he
    exact ⟨by simpa using hi, hg, fun x h => by cases h⟩
  | x :: xs, no, c, p, q, hr, hn, hi, hg, he => by
    obtain ⟨r1, r2, r3, r4⟩ := hr
    unfold runP at he
    cases ht : takeP t p x with
    | error e => rw [ht] at he; cases he
    | ok p1 =>
      rw [ht] at he
      dsimp only at he
      rw [← r2] at hi
      obtain ⟨i1, e1⟩ := Inv.take hi (by omega) ht
      have g1 := hg.take hi.at_ ht
      rw [r2] at i1
      obtain ⟨a, b, d⟩ := run_good t xs (no + 1) (c + x.bytes.length) p1 q r4 (by omega) i1 g1 he
      refine ⟨?_, b, fun y hy => ?_⟩
      · rw [List.flatMap_cons, List.length_append, ← Nat.add_assoc]; exact a
      · rcases List.mem_cons.1 hy with rfl | hy
        · exact e1
        · exact d y hy
/-- The items of a good text. -/
theorem parse_good {t : List UInt8} {its : List It} (h : parseL t = .ok its) : ∃ p, runP t PS.new (linesOf t) = .ok p ∧ endFieldN p = 0 ∧ its = (endBlockP t (endFieldP p) t.length).items ∧ Good t (endBlockP t (endFieldP p) t.length) ∧ Inv (endBlockP t (endFieldP p) t.length) t.length ∧ (endFieldP p).at_ ≤ t.length := by
  unfold parseL at h
  cases hr : runP t PS.new (linesOf t) with
  | error e => rw [hr] at h; cases h
  | ok p =>
    rw [hr] at h
    dsimp only at h
    unfold lastP at h
    split at h
    · cases h
    · rename_i h0
      have h0 : endFieldN p = 0 := by simpa using h0
      cases h
      obtain ⟨a, b, _⟩ := run_good t _ 0 0 _ _ (runs_linesOn _ 0 0 t (Nat.le_refl _)) (Nat.le_refl _) Inv.new (Good.new t) hr
      rw [show linesOn 0 0 t = linesOf t from rfl, linesOf_join, Nat.zero_add] at a
      exact ⟨p, rfl, h0, rfl, (b.endField h0).endBlock _ a.endField.at_, a.endField.endBlock t _ a.endField.at_ (Nat.le_refl _), a.endField.at_⟩
theorem parse_join {t : List UInt8} {its : List It} (h : parseL t = .ok its) : its.flatMap It.raw = t ∧ its.length ≤ t.length ∧ ∀ it ∈ its, it.fields.length ≤ 40 ∧ it.raw.length ≤ t.length := by
  obtain ⟨p, _, _, rfl, g, i, hle⟩ := parse_good h
  have ha := endBlock_at t (endFieldP p) t.length hle
  have hj := g.join
  rw [ha, List.take_length] at hj
  refine ⟨hj, by have := i.items; rw [ha] at this; exact this, fun it hi => ⟨g.each it hi, ?_⟩⟩
  obtain ⟨a, b, e⟩ := List.append_of_mem hi
  rw [e, List.flatMap_append, List.flatMap_cons] at hj
  have := congrArg List.length hj
  simp only [List.length_append] at this
  omega
end Go.Proofs.YtgaooalckjjplaaGreatDoor

namespace Go.Proofs.YtgaooalckjjplaaGreatDoor

/-- The number of a field's first line counts for errors alone. -/
def re (p : PS) (n : Nat) : PS := { p with begin_ := n }
end Go.Proofs.YtgaooalckjjplaaGreatDoor

namespace Go.Proofs.YtgaooalckjjplaaGreatDoor

theorem Blk.kind1 {it : It} (h : Blk it) : it.kind ≠ 1 := by
  rw [h.kind]; split <;> decide
def apartL (its : List It) : List It := apartOn false its
theorem linesOn_text : ∀ (ts : List (List UInt8)) (no c : Nat) (l : List UInt8), (∀ x ∈ ts, (10 : UInt8) ∉ x) → linesOn no c (textL ts ++ l) = num no c ts ++ linesOn (no + ts.length) (c + (textL ts).length) l
  | [], no, c, l, _ => rfl
  | x :: r, no, c, l, h => by
    have e : textL (x :: r) ++ l = x ++ 10 :: (textL r ++ l) := by unfold textL; simp
    have e3 : (textL (x :: r)).length = x.length + 1 + (textL r).length := by unfold textL; simp; omega
    obtain ⟨h1, h2⟩ := head_of x (textL r ++ l) (h x List.mem_cons_self)
    have hu : used (x ++ 10 :: (textL r ++ l)) = x.length + 1 := by unfold used; rw [h1, h2]; rfl
    rw [e, linesOn_cons _ _ _ (by simp), h1, h2, hu]
    have hd : (x ++ 10 :: (textL r ++ l)).drop (x.length + 1) = textL r ++ l := by
      rw [show x ++ 10 :: (textL r ++ l) = (x ++ [10]) ++ (textL r ++ l) by simp]
      exact List.drop_left' (by simp)
    rw [hd, linesOn_text r _ _ l (fun y hy => h y (List.mem_cons_of_mem _ hy)), e3, List.length_cons]
    rw [show no + 1 + r.length = no + (r.length + 1) by omega, show c + (x.length + 1) + (textL r).length = c + (x.length + 1 + (textL r).length) by omega]
    rfl
def finP (t : List UInt8) (r : Res PS) : Res (List It) := match r with | .error e => .error e | .ok q => lastP t q
theorem parse_fin (t : List UInt8) : parseL t = finP t (runP t PS.new (linesOf t)) := rfl
theorem fin_append (t : List UInt8) (p q : PS) (a b : List Ln) (h : runP t p a = .ok q) : finP t (runP t p (a ++ b)) = finP t (runP t q b) := by
  rw [runP_append, h]
/-- Blocks, put apart, are parsed to what they are. -/
theorem fin_blks (t : List UInt8) : ∀ (bs : List It) (x : It) (b st no c : Nat) (its : List It), st + (x :: bs).length ≤ 400 → (∀ it ∈ x :: bs, Blk it) → t.drop c = (apartL (x :: bs)).flatMap It.raw → c ≤ t.length →
    finP t (runP t ⟨b, [], its, st, c, []⟩ (linesOn no c (t.drop c))) = .ok (its ++ apartL (x :: bs))
  | [], x, b, st, no, c, its, hst, hb, ht, hct => by
    have bx := hb x List.mem_cons_self
    have hp := bx.pos
    have hk := bx.kind
    obtain ⟨ts, said, fields, d1, d2, d3, d4, d5⟩ := bx.does
    have ht' : t.drop c = x.raw := by rw [ht]; simp [apartL, apartOn]
    have hlen : c + x.raw.length = t.length := by have := congrArg List.length ht'; simp at this; omega
    have hpos : 0 < x.raw.length := List.length_pos_iff.2 hp
    obtain ⟨b', hr⟩ := d3 t b st c no c its (by simp at hst; omega)
    rw [ht', d1, ← List.append_nil (textL ts), linesOn_text ts no c [] d2, fin_append _ _ _ _ _ hr, linesOn_nil]
    obtain ⟨k1, k2, _⟩ := Blk.ends hk d4 d5 t b' st c t.length its (by simp at hst; omega) (by rw [List.take_length, ht']) (by omega)
    show lastP t _ = _
    unfold lastP
    rw [k1, if_neg (by simp), k2]
    simp [apartL, apartOn]
  | y :: bs, x, b, st, no, c, its, hst, hb, ht, hct => by
    have bx := hb x List.mem_cons_self
    have by_ := hb y (List.mem_cons_of_mem _ List.mem_cons_self)
    have hp := bx.pos
    have hk := bx.kind
    obtain ⟨ts, said, fields, d1, d2, d3, d4, d5⟩ := bx.does
    have hpos : 0 < x.raw.length := List.length_pos_iff.2 hp
    have hap : apartL (x :: y :: bs) = x :: ⟨1, [10], []⟩ :: apartL (y :: bs) := by
      have hx1 : (x.kind != 1) = true := by have := bx.kind1; simpa using this
      show ([] : List It) ++ x :: ((if (x.kind != 1) = true ∧ y.kind ≠ 1 then [(⟨1, [10], []⟩ : It)] else []) ++ y :: apartOn (y.kind != 1) bs) = _
      rw [if_pos ⟨hx1, by_.kind1⟩]
      simp [apartL, apartOn]
    rw [hap] at ht ⊢
    have ht' : t.drop c = x.raw ++ (10 :: (apartL (y :: bs)).flatMap It.raw) := by rw [ht]; simp
    generalize hR : (apartL (y :: bs)).flatMap It.raw = R at *
    have hlen : c + x.raw.length + 1 + R.length = t.length := by have := congrArg List.length ht'; simp at this; omega
    simp only [List.length_cons] at hst
    obtain ⟨b', hr⟩ := d3 t b st c no c its (by omega)
    have hde : t.drop (c + x.raw.length + 1) = R := by
      rw [Nat.add_assoc, ← List.drop_drop, ht', show x.raw ++ 10 :: R = (x.raw ++ [10]) ++ R by simp]
      exact List.drop_left' (by simp)
    have htk : (t.take (c + x.raw.length)).drop c = x.raw := by
      rw [List.take_add, ht', List.drop_append_of_le_length (by rw [List.length_take]; omega), List.drop_of_length_le (by rw [List.length_take]; omega)]; simp
    have htb : (t.take (c + x.raw.length + 1)).drop (c + x.raw.length) = [10] := by
      rw [List.take_add, List.drop_append_of_le_length (by rw [List.length_take]; omega), List.drop_of_length_le (by rw [List.length_take]; omega), ← List.drop_drop, ht']
      simp
    have e10 : (10 :: R) = textL [[]] ++ R := rfl
    rw [ht', e10]
    conv => lhs; rw [d1]
    rw [linesOn_text ts no c _ d2, fin_append _ _ _ _ _ hr, linesOn_text [[]] _ _ _ (by intro z hz; rw [List.mem_singleton.1 hz]; simp), ← d1]
    have k1 : kindL [] = 1 := by decide
    obtain ⟨z1, z2, z3, z4, z5, z6⟩ := Blk.ends hk d4 d5 t b' st c (c + x.raw.length) its (by omega) htk (by omega)
    have tk := take_else (t := t) (p := ⟨b', said, its, st, c, fields⟩) (no := no + ts.length) (c := c + x.raw.length) (l := []) (by rw [k1]; decide) (by rw [k1]; decide) z1
    have hput : putP t (endFieldP ⟨b', said, its, st, c, fields⟩) ⟨no + ts.length, c + x.raw.length, [], true⟩ = endItemP t (endBlockP t (endFieldP ⟨b', said, its, st, c, fields⟩) (c + x.raw.length)) 1 (c + x.raw.length + 1) := by
      unfold putP
      rw [if_neg (by show ¬ kindL [] = 4; rw [k1]; decide), if_pos k1]; rfl
    rw [hput] at tk
    generalize endBlockP t (endFieldP ⟨b', said, its, st, c, fields⟩) (c + x.raw.length) = p at *
    have hp2 : endItemP t p 1 (c + x.raw.length + 1) = ⟨p.begin_, [], its ++ [x] ++ [⟨1, [10], []⟩], p.stanzas, c + x.raw.length + 1, []⟩ := by
      unfold endItemP
      rw [z2, z4, z5, z6, htb]; rfl
    rw [hp2] at tk
    have hrun : runP t ⟨b', said, its, st, c, fields⟩ (num (no + ts.length) (c + x.raw.length) [[]]) = .ok ⟨p.begin_, [], its ++ [x] ++ [⟨1, [10], []⟩], p.stanzas, c + x.raw.length + 1, []⟩ := by
      show runP t _ (⟨no + ts.length, c + x.raw.length, [], true⟩ :: []) = _
      rw [run_cons tk]; rfl
    rw [fin_append _ _ _ _ _ hrun]
    have ih := fin_blks t bs y p.begin_ p.stanzas (no + ts.length + 1) (c + x.raw.length + 1) (its ++ [x] ++ [⟨1, [10], []⟩]) (by simp only [List.length_cons]; omega) (fun it hi => hb it (List.mem_cons_of_mem _ hi)) (by rw [hde, hR]) (by omega)
    rw [hde] at ih
    show finP t (runP t _ (linesOn (no + ts.length + 1) (c + x.raw.length + 1) R)) = _
    rw [ih]; simp
theorem parse_between (bs : List It) (hn : bs.length ≤ 400) (hb : ∀ it ∈ bs, Blk it) : parseL ((apartL bs).flatMap It.raw) = .ok (apartL bs) := by
  cases bs with
  | nil => rfl
  | cons x bs =>
    rw [parse_fin]
    have := fin_blks ((apartL (x :: bs)).flatMap It.raw) bs x 0 0 0 0 [] (by rw [Nat.zero_add]; exact hn) hb rfl (Nat.zero_le _)
    exact this
end Go.Proofs.YtgaooalckjjplaaGreatDoor

namespace Go.Proofs.YtgaooalckjjplaaGreatDoor
open Go.RowKit Go.WideShapes Go.ChangeAt Go.ChangeShapes

theorem drewN_below {B : Nat} {a w : World} (h : Below B a w) (n : Nat) : Below B a (w.drewN n) := ⟨h.os, h.tape, h.output, h.size, h.block⟩
theorem of_B (s : ByteArray) : ∃ l, s = B l := ⟨s.data.toList, (B_of s).symm⟩
attribute [local go_sem] errV_0
attribute [local go_sem] assertErr
set_option maxRecDepth 100000 in
set_option maxHeartbeats 1000000 in
theorem num_any (n : Nat) (hn : n ≤ 1000) (w : World) : Calls Tryz.prog 11 #[errV n] w fun e w' => e = .returned (.int .i64 n) ∧ w = w' := by
  by_cases h0 : n = 0
  · subst h0
    go_enter Tryz.func11, Tryz.ntmps11
    go_wp2
    refine wp_loop_rounds 1 ?_
    rw [rounds_succ]
    go_wp2
    go_ret
    exact ⟨rfl, rfl⟩
  · rw [errV_pos n (by omega)]
    have hne : ((n : Int) != 0) = true := by simp; omega
    have hne2 : ((n : Int) == 0) = false := by simp; omega
    clear h0
    go_enter Tryz.func11, Tryz.ntmps11
    go_wp2
    refine wp_loop_rounds 1 ?_
    rw [rounds_succ]
    go_wp2
    go_ret
    exact ⟨rfl, rfl⟩
end Go.Proofs.YtgaooalckjjplaaGreatDoor

namespace Go.Proofs.YtgaooalckjjplaaGreatDoor
open Go.RowKit

theorem cellsF_len : ∀ fs, (cellsF fs).length = fs.length * 2
  | [] => rfl
  | f :: r => by
    have := cellsF_len r
    show (Value.string (B f.1) :: Value.string (B f.2) :: cellsF r).length = _
    simp only [List.length_cons, this]; omega
theorem infoFld : (Tryz.prog.info? 66).map (fun i => (i.zero, i.size, i.bytes)) = some (some (.agg #[.string ⟨#[]⟩, .string ⟨#[]⟩]), 2, 32) := by kernel_rfl
end Go.Proofs.YtgaooalckjjplaaGreatDoor

namespace Go.Proofs
open Go.Shelf
def Tryz.lays103_ren : Go.Shelf.Ren := ⟨fun | 103 => 203 | 210 => 227 | 206 => 114 | n => n, fun | 9 => 9 | 4 => 4 | 24 => 256 | 3 => 3 | n => n, fun | n => n⟩
theorem Tryz.lays103 : Go.Proofs.Lays.n103 Tryz.prog Tryz.lays103_ren := {
  mixed := by kernel_rfl
  f103 := Tryz.func203.trans (congrArg some (by kernel_rfl))
  f206 := Tryz.func114.trans (congrArg some (by kernel_rfl))
  f210 := Tryz.func227.trans (congrArg some (by kernel_rfl))
  t3 := Tryz.underlying3
  a3 := Tryz.isAgg3
  z3 := Tryz.sizeOf3
  v3 := Tryz.zeroValue3
  t4 := Tryz.underlying4
  a4 := Tryz.isAgg4
  z4 := Tryz.sizeOf4
  v4 := Tryz.zeroValue4
  t9 := Tryz.underlying9
  a9 := Tryz.isAgg9
  z9 := Tryz.sizeOf9
  v9 := Tryz.zeroValue9
  t24 := Tryz.underlying256
  a24 := Tryz.isAgg256
  z24 := Tryz.sizeOf256
  v24 := Tryz.zeroValue256 }
open Go.RowKit in
theorem Tryz.strings_CutPrefix (s p : ByteArray) (w : World) :
    Calls Tryz.prog 203 #[.string s, .string p] w fun e w' => e = .returned (.tuple #[.string ⟨(Lib.trimPrefix s.data.toList p.data.toList).toArray⟩, .bool (Lib.hasPrefix s.data.toList p.data.toList)]) ∧ w' = w := Any.strings_CutPrefix Tryz.lays103 s p w
end Go.Proofs

namespace Go.Proofs.YtgaooalckjjplaaGreatDoor
open Go.RowKit Go.Shelf

theorem refBlank_any (c : UInt8) (w : World) :
    Calls Tryz.prog 136 #[.int .u8 (c.toNat : Nat)] w fun e w' => e = .returned (.bool (blankB c)) ∧ w = w' := by
  have hb := c.toNat_lt
  by_cases h1 : c = 32
  · subst h1
    go_enter Tryz.func136, Tryz.ntmps136
    go_wp2
    go_ret
    exact ⟨rfl, rfl⟩
  · have e1 : ((c.toNat : Int) == 32) = false := by
      rw [beq_eq_false_iff_ne]; intro e; apply h1; apply UInt8.toNat_inj.1; have : (32 : UInt8).toNat = 32 := rfl; omega
    have e3 : blankB c = ((c.toNat : Int) == 9) := by
      unfold blankB
      by_cases h2 : c = 9
      · subst h2; rfl
      · have : ((c.toNat : Int) == 9) = false := by
          rw [beq_eq_false_iff_ne]; intro e; apply h2; apply UInt8.toNat_inj.1; have : (9 : UInt8).toNat = 9 := rfl; omega
        rw [this]; simp [h1, h2]
    rw [e3]
    clear e3
    go_enter Tryz.func136, Tryz.ntmps136
    go_wp2
    go_ret
    exact ⟨rfl, rfl⟩
/-- A byte's test in the walk's spelling. -/
theorem byte_eq {c d : UInt8} (n : Int) (hn : (d.toNat : Int) = n) : ((c.toNat : Int) == n) = (c == d) := by
  by_cases h : c = d
  · subst h; simp [hn]
  · have : (c.toNat : Int) ≠ n := by intro e; apply h; apply UInt8.toNat_inj.1; omega
    rw [beq_eq_false_iff_ne.2 this]; simp [h]
theorem has_no (l : List UInt8) (c : UInt8) (k : Nat) (h : ∀ i, i < k → l[i]? ≠ some c) (hk : l.length ≤ k) : hasB l c = false := by
  unfold hasB
  cases hc : l.contains c with
  | false => rfl
  | true =>
    exfalso
    have hm : c ∈ l := by simpa using hc
    obtain ⟨i, hi, e⟩ := List.mem_iff_getElem.1 hm
    exact h i (by omega) (by rw [List.getElem?_eq_getElem hi, e])
theorem has_yes (l : List UInt8) (c : UInt8) (i : Nat) (h : l[i]? = some c) : hasB l c = true := by
  unfold hasB
  have : c ∈ l := List.mem_of_getElem? h
  simpa using this

set_option maxHeartbeats 1000000 in
theorem refKey_any (s : ByteArray) (hs : s.size ≤ 4294967295) (w : World) :
    Calls Tryz.prog 137 #[.string s] w fun e w' => e = .returned (.bool (goodKey s.data.toList)) ∧ w = w' := by
  cases h : s.data.toList with
  | nil =>
    rw [empty_of h]
    go_enter Tryz.func137, Tryz.ntmps137
    go_wp2
    go_ret
    exact ⟨rfl, rfl⟩
  | cons c t =>
    have n3 : 1 ≤ s.size := by rw [Lib.size_eq, h]; simp
    have g0 : s[0] = c := by
      have : s.data.toList[0]? = some c := by rw [h]; rfl
      rw [List.getElem?_eq_getElem (by rw [← Lib.size_eq]; omega)] at this
      exact Option.some.inj this
    have eb : beginsB s.data.toList = blankB c := by rw [h]; rfl
    have eh : hashB s.data.toList = (c == 35) := by rw [h]; rfl
    rw [← h]
    clear h
    have n4 : 1 ≤ s.data.toList.length := by rw [← Lib.size_eq]; exact n3
    have n5 := Lib.size_eq s
    by_cases h1 : s.size ≤ 32
    · have h1' := h1
      rw [n5] at h1'
      have e1 : goodKey s.data.toList = (!blankB c && !(c == 35) && !hasB s.data.toList 58 && !hasB s.data.toList 10) := by
        unfold goodKey; rw [decide_eq_true n4, decide_eq_true h1', eb, eh]; simp
      rw [e1]
      clear e1 eb eh h1' n4
      cases h2 : blankB c with
      | true =>
        clear n5
        go_enter Tryz.func137, Tryz.ntmps137
        go_wp2_with (first | (go_at_call 136; refine (refBlank_any _ _).mono ?_; rw [h2]; rintro e w1 ⟨rfl, rfl⟩))
        go_ret
        exact ⟨rfl, rfl⟩
      | false =>
        have hq := byte_eq (c := c) (d := 35) 35 rfl
        cases h3 : (c == 35) with
        | true =>
          rw [h3] at hq
          clear n5
          go_enter Tryz.func137, Tryz.ntmps137
          go_wp2_with (first | (go_at_call 136; refine (refBlank_any _ _).mono ?_; rw [h2]; rintro e w1 ⟨rfl, rfl⟩))
          go_ret
          exact ⟨rfl, rfl⟩
        | false =>
          rw [h3] at hq
          have N5 := Lib.hid n5
          clear n5
          go_enter Tryz.func137, Tryz.ntmps137
          go_wp2_with (first | (go_at_call 136; refine (refBlank_any _ _).mono ?_; rw [h2]; rintro e w1 ⟨rfl, rfl⟩))
          clear hq g0
          go_loop [3] (fun i => ∃ k : Nat, k ≤ s.size ∧ i = .int .i64 k ∧ ∀ j, j < k → s.data.toList[j]? ≠ some 58 ∧ s.data.toList[j]? ≠ some 10) (fun i => s.size - (intOf i).toNat)
          case atStart => exact ⟨0, Nat.zero_le _, rfl, fun j hj => absurd hj (Nat.not_lt_zero j)⟩
          case round =>
            obtain ⟨k, hk, rfl, hno⟩ := hrel
            by_cases hlt : k < s.size
            · have e : s.data.toList[k]? = some s[k] := by
                rw [List.getElem?_eq_getElem (by rw [← Lib.size_eq]; exact hlt)]; rfl
              have E := Lib.hid e
              have NO := Lib.hid hno
              clear e hno
              have q1 := byte_eq (c := s[k]) (d := 58) 58 rfl
              have q2 := byte_eq (c := s[k]) (d := 10) 10 rfl
              cases h4 : (s[k] == 58) with
              | true =>
                rw [h4] at q1
                have h5 : hasB s.data.toList 58 = true := has_yes _ _ k (by rw [E.out]; simpa using h4)
                have H5 := Lib.hid h5
                clear q2 h5
                go_wp2
                go_ret
                exact ⟨by rw [H5.out]; rfl, rfl⟩
              | false =>
                rw [h4] at q1
                cases h5 : (s[k] == 10) with
                | true =>
                  rw [h5] at q2
                  have h6 : hasB s.data.toList 10 = true := has_yes _ _ k (by rw [E.out]; simpa using h5)
                  have H7 := Lib.hid h6
                  clear h6
                  go_wp2
                  go_ret
                  exact ⟨by rw [H7.out, Bool.not_true, Bool.and_false]; rfl, rfl⟩
                | false =>
                  rw [h5] at q2
                  go_wp2
                  go_round
                  case rel =>
                    refine ⟨k + 1, hlt, by go_num, fun j hj => ?_⟩
                    by_cases hjk : j = k
                    · subst hjk; rw [E.out]; exact ⟨by simpa using h4, by simpa using h5⟩
                    · exact NO.out j (by omega)
                  case measure => simp [intOf]; omega
            · have h58 := has_no s.data.toList 58 k (fun i hi => (hno i hi).1) (by rw [← N5.out]; omega)
              have h10 := has_no s.data.toList 10 k (fun i hi => (hno i hi).2) (by rw [← N5.out]; omega)
              have H58 := Lib.hid h58
              have H10 := Lib.hid h10
              clear hno h58 h10
              go_wp2
              go_ret
              exact ⟨by rw [H58.out, H10.out]; rfl, rfl⟩
    · have e1 : goodKey s.data.toList = false := by
        unfold goodKey; rw [← n5, decide_eq_false h1]; simp
      rw [e1]
      have h1' : 32 < s.size := by omega
      clear n5 n4 e1 eb eh
      go_enter Tryz.func137, Tryz.ntmps137
      go_wp2
      go_ret
      exact ⟨rfl, rfl⟩
end Go.Proofs.YtgaooalckjjplaaGreatDoor

namespace Go.Proofs.YtgaooalckjjplaaGreatDoor
open Go.RowKit Go.Shelf

theorem before_take (l : List UInt8) : ∀ (k : Nat), l[k]? = some 58 → (∀ j, j < k → l[j]? ≠ some 58) → (before l).length = k := by
  induction l with
  | nil => intro k h; simp at h
  | cons a t ih =>
    intro k h hn
    unfold before at ih ⊢
    cases k with
    | zero =>
      have : a = 58 := by simpa using h
      subst this; rfl
    | succ k =>
      have ha : a ≠ 58 := fun e => hn 0 (by omega) (by rw [e]; rfl)
      rw [List.takeWhile_cons, if_pos (by simpa using ha), List.length_cons, ih k (by simpa using h) (fun j hj => by have := hn (j + 1) (by omega); simpa using this)]

set_option maxHeartbeats 1000000 in
/-- Cut by definition, where there is a line end, or no colon, or no good key ahead of it: nothing. -/
theorem refCut_no (s : ByteArray) (hs : s.size ≤ 4294967295) (w : World) (h : hasB s.data.toList 10 = true ∨ hasB s.data.toList 58 = false ∨ goodKey (before s.data.toList) = false) :
    Calls Tryz.prog 94 #[.string s] w fun e w' => e = .returned (.tuple #[.string ⟨#[]⟩, .string ⟨#[]⟩, .bool false]) ∧ Below w.heap.size w w' := by
  have n5 := Lib.size_eq s
  have N5 := Lib.hid n5
  clear n5
  have HH := Lib.hid h
  clear h
  go_enter Tryz.func94, Tryz.ntmps94
  go_wp2_with fail
  go_loop [5] (fun i => ∃ k : Nat, k ≤ s.size ∧ i = .int .i64 k ∧ ∀ j, j < k → s.data.toList[j]? ≠ some 10) (fun i => s.size - (intOf i).toNat)
  case atStart => exact ⟨0, Nat.zero_le _, rfl, fun j hj => absurd hj (Nat.not_lt_zero j)⟩
  case round =>
    obtain ⟨k, hk, rfl, hno⟩ := hrel
    by_cases hlt : k < s.size
    · have e : s.data.toList[k]? = some s[k] := by
        rw [List.getElem?_eq_getElem (by rw [← Lib.size_eq]; exact hlt)]; rfl
      have E := Lib.hid e
      have NO := Lib.hid hno
      clear e hno
      have q2 := byte_eq (c := s[k]) (d := 10) 10 rfl
      cases h5 : (s[k] == 10) with
      | true =>
        rw [h5] at q2
        go_wp2
        go_ret3
        exact ⟨rfl, Below.refl _ _⟩
      | false =>
        rw [h5] at q2
        go_wp2
        go_round
        case rel =>
          refine ⟨k + 1, hlt, by go_num, fun j hj => ?_⟩
          by_cases hjk : j = k
          · subst hjk; rw [E.out]; simpa using h5
          · exact NO.out j (by omega)
        case measure => simp [intOf]; omega
    · have h10 := has_no s.data.toList 10 k hno (by rw [← N5.out]; omega)
      have h2 : hasB s.data.toList 58 = false ∨ goodKey (before s.data.toList) = false := by
        rcases HH.out with h | h
        · rw [h10] at h; cases h
        · exact h
      have H2 := Lib.hid h2
      clear hno h10 h2 HH
      go_wp2_with fail
      go_loop [6] (fun i => ∃ k : Nat, k ≤ s.size ∧ i = .int .i64 k ∧ ∀ j, j < k → s.data.toList[j]? ≠ some 58) (fun i => s.size - (intOf i).toNat)
      case atStart => exact ⟨0, Nat.zero_le _, rfl, fun j hj => absurd hj (Nat.not_lt_zero j)⟩
      case round =>
        obtain ⟨m, hm, rfl, hno⟩ := hrel
        by_cases hlt2 : m < s.size
        · have e : s.data.toList[m]? = some s[m] := by
            rw [List.getElem?_eq_getElem (by rw [← Lib.size_eq]; exact hlt2)]; rfl
          have q2 := byte_eq (c := s[m]) (d := 58) 58 rfl
          cases h5 : (s[m] == 58) with
          | true =>
            rw [h5] at q2
            have e58 : s.data.toList[m]? = some 58 := by rw [e]; simpa using h5
            have hb := before_take s.data.toList m e58 hno
            have hg : goodKey (before s.data.toList) = false := by
              rcases H2.out with h | h
              · rw [has_yes _ _ m e58] at h; cases h
              · exact h
            have K := fun w => refKey_any (preS s) (Nat.le_trans (preS_size s) hs) w
            rw [preS_data, hg] at K
            unfold preS at K
            rw [hb] at K
            clear e hno e58 hb hg
            go_wp2_with (first | (go_at_call 137; refine (K _).mono ?_; rintro e w1 ⟨rfl, rfl⟩))
            go_ret3
            exact ⟨rfl, Below.refl _ _⟩
          | false =>
            rw [h5] at q2
            have E := Lib.hid e
            have NO := Lib.hid hno
            clear e hno
            go_wp2
            go_round
            case rel =>
              refine ⟨m + 1, hlt2, by go_num, fun j hj => ?_⟩
              by_cases hjk : j = m
              · subst hjk; rw [E.out]; simpa using h5
              · exact NO.out j (by omega)
            case measure => simp [intOf]; omega
        · clear hno
          go_wp2
          go_ret3
          exact ⟨rfl, Below.refl _ _⟩

theorem before_lt (l : List UInt8) (h : hasB l 58 = true) : l[(before l).length]? = some 58 ∧ ∀ j, j < (before l).length → l[j]? ≠ some 58 := by
  unfold hasB at h
  have hm : (58 : UInt8) ∈ l := by simpa using h
  clear h
  unfold before
  induction l with
  | nil => cases hm
  | cons a t ih =>
    by_cases ha : a = 58
    · subst ha
      refine ⟨rfl, fun j hj => ?_⟩
      simp at hj
    · have hm' : (58 : UInt8) ∈ t := by
        rcases List.mem_cons.1 hm with h | h
        · exact absurd h.symm ha
        · exact h
      obtain ⟨h1, h2⟩ := ih hm'
      rw [List.takeWhile_cons, if_pos (by simpa using ha), List.length_cons]
      refine ⟨by simpa using h1, fun j hj => ?_⟩
      cases j with
      | zero => simpa using ha
      | succ j => have := h2 j (by omega); simpa using this

set_option maxHeartbeats 1000000 in
theorem refCut_yes (s : ByteArray) (hs : s.size ≤ 4294967295) (w : World) (h1 : hasB s.data.toList 10 = false) (h2 : hasB s.data.toList 58 = true) (h3 : goodKey (before s.data.toList) = true) :
    Calls Tryz.prog 94 #[.string s] w fun e w' => e = .returned (.tuple #[.string (preS s), .string (postS s), .bool true]) ∧ Below w.heap.size w w' := by
  have n5 := Lib.size_eq s
  have N5 := Lib.hid n5
  clear n5
  have H1 := Lib.hid h1
  obtain ⟨b1, b2⟩ := before_lt _ h2
  have hbl : (before s.data.toList).length < s.size := by
    rcases Nat.lt_or_ge (before s.data.toList).length s.size with h | h
    · exact h
    · rw [List.getElem?_eq_none (by rw [← Lib.size_eq]; exact h)] at b1; cases b1
  have B1 := Lib.hid b1
  have B2 := Lib.hid b2
  have K := fun w => refKey_any (preS s) (Nat.le_trans (preS_size s) hs) w
  rw [preS_data, h3] at K
  have HP : Hid (preS s = s.extract 0 (before s.data.toList).length) := rfl
  have HQ : Hid (postS s = s.extract ((before s.data.toList).length + 1) s.size) := rfl
  unfold preS at K
  clear h1 h2 h3 b1 b2
  generalize (before s.data.toList).length = n at *
  go_enter Tryz.func94, Tryz.ntmps94
  go_wp2_with fail
  go_loop [5] (fun i => ∃ k : Nat, k ≤ s.size ∧ i = .int .i64 k) (fun i => s.size - (intOf i).toNat)
  case atStart => exact ⟨0, Nat.zero_le _, rfl⟩
  case round =>
    obtain ⟨k, hk, rfl⟩ := hrel
    by_cases hlt : k < s.size
    · have q2 := byte_eq (c := s[k]) (d := 10) 10 rfl
      have h5 : (s[k] == 10) = false := by
        cases h5 : (s[k] == 10) with
        | false => rfl
        | true =>
          exfalso
          have := has_yes s.data.toList 10 k (by rw [List.getElem?_eq_getElem (by rw [← Lib.size_eq]; exact hlt)]; exact congrArg some (eq_of_beq h5))
          rw [H1.out] at this; cases this
      rw [h5] at q2
      clear h5
      go_wp2
      go_round
      case rel => exact ⟨k + 1, hlt, by go_num⟩
      case measure => simp [intOf]; omega
    · go_wp2_with fail
      go_loop [6] (fun i => ∃ k : Nat, k ≤ n ∧ i = .int .i64 k) (fun i => s.size - (intOf i).toNat)
      case atStart => exact ⟨0, Nat.zero_le _, rfl⟩
      case round =>
        obtain ⟨m, hm, rfl⟩ := hrel
        have hlt2 : m < s.size := by omega
        have e : s.data.toList[m]? = some s[m] := by
          rw [List.getElem?_eq_getElem (by rw [← Lib.size_eq]; exact hlt2)]; rfl
        have q2 := byte_eq (c := s[m]) (d := 58) 58 rfl
        by_cases hmn : m < n
        · have h5 : (s[m] == 58) = false := by
            have := B2.out m hmn
            rw [e] at this
            simpa using this
          rw [h5] at q2
          clear e h5
          go_wp2
          go_round
          case rel => exact ⟨m + 1, by omega, by go_num⟩
          case measure => simp [intOf]; omega
        · obtain rfl : m = n := by omega
          have h5 : (s[m] == 58) = true := by
            have := B1.out
            rw [e] at this
            simpa using this
          rw [h5] at q2
          clear e h5
          have h6 : IntKind.i64.wrap ((m : Int) + 1) = (m : Int) + 1 := IntWalk.i64_in _ (by omega)
          go_wp2_with (first | (go_at_call 137; refine (K _).mono ?_; rintro e w1 ⟨rfl, rfl⟩))
          go_quiet (fail)
          go_wp2
          go_ret3
          exact ⟨by rw [HP.out, HQ.out]; rfl, Below.drewN (Below.refl _ _) _⟩

theorem blankTo_snoc (s : ByteArray) (k : Nat) (h : k < s.size) : blankAll (s.data.toList.take (k + 1)) = (blankAll (s.data.toList.take k) && blankB s[k]) := by
  unfold blankAll
  rw [List.take_succ_eq_append_getElem (by simpa using h), List.all_append]
  simp; rfl

set_option maxHeartbeats 1000000 in
theorem refKind_nl (s : ByteArray) (hs : s.size ≤ 4294967295) (w : World) (h1 : hasB s.data.toList 10 = true) :
    Calls Tryz.prog 93 #[.string s] w fun e w' => e = .returned (.int .i64 5) ∧ Below w.heap.size w w' := by
  have n5 := Lib.size_eq s
  have N5 := Lib.hid n5
  clear n5
  have H1 := Lib.hid h1
  clear h1
  go_enter Tryz.func93, Tryz.ntmps93
  go_wp2_with fail
  go_loop [3, 4] (fun b i => ∃ (k : Nat) (x : Bool), k ≤ s.size ∧ i = .int .i64 k ∧ b = .bool x ∧ ∀ j, j < k → s.data.toList[j]? ≠ some 10) (fun _ i => s.size - (intOf i).toNat)
  case atStart => exact ⟨0, true, Nat.zero_le _, rfl, rfl, fun j hj => absurd hj (Nat.not_lt_zero j)⟩
  case round =>
    obtain ⟨k, x, hk, rfl, rfl, hno⟩ := hrel
    by_cases hlt : k < s.size
    · have e : s.data.toList[k]? = some s[k] := by
        rw [List.getElem?_eq_getElem (by rw [← Lib.size_eq]; exact hlt)]; rfl
      have E := Lib.hid e
      have NO := Lib.hid hno
      clear e hno
      have q2 := byte_eq (c := s[k]) (d := 10) 10 rfl
      cases h5 : (s[k] == 10) with
      | true =>
        rw [h5] at q2
        go_wp2
        go_ret
        exact ⟨rfl, Below.refl _ _⟩
      | false =>
        rw [h5] at q2
        have h6 : ∀ j, j < k + 1 → s.data.toList[j]? ≠ some 10 := fun j hj => by
          by_cases hjk : j = k
          · subst hjk; rw [E.out]; simpa using h5
          · exact NO.out j (by omega)
        have H6 := Lib.hid h6
        clear h6
        cases x
        all_goals
          go_wp2_with (first | (go_at_call 136; refine (refBlank_any _ _).mono ?_; rintro e w1 ⟨rfl, rfl⟩))
          go_round
          case rel => exact ⟨k + 1, _, hlt, by go_num, rfl, H6.out⟩
          case measure => simp [intOf]; omega
    · exfalso
      have := has_no s.data.toList 10 k hno (by rw [← N5.out]; omega)
      rw [H1.out] at this; cases this
end Go.Proofs.YtgaooalckjjplaaGreatDoor

namespace Go.Proofs.YtgaooalckjjplaaGreatDoor
open Go.RowKit Go.Shelf

set_option maxHeartbeats 2000000 in
theorem refKind_else (s : ByteArray) (hs : s.size ≤ 4294967295) (w : World) (h1 : hasB s.data.toList 10 = false) :
    Calls Tryz.prog 93 #[.string s] w fun e w' => e = .returned (.int .i64 (kindL s.data.toList : Nat)) ∧ Below w.heap.size w w' := by
  have n5 := Lib.size_eq s
  have N5 := Lib.hid n5
  clear n5
  have H1 := Lib.hid h1
  clear h1
  go_enter Tryz.func93, Tryz.ntmps93
  go_wp2_with fail
  go_loop [3, 4] (fun b i => ∃ (k : Nat), k ≤ s.size ∧ i = .int .i64 k ∧ b = .bool (blankAll (s.data.toList.take k))) (fun _ i => s.size - (intOf i).toNat)
  case atStart => exact ⟨0, Nat.zero_le _, rfl, rfl⟩
  case round =>
    obtain ⟨k, hk, rfl, rfl⟩ := hrel
    by_cases hlt : k < s.size
    · have q2 := byte_eq (c := s[k]) (d := 10) 10 rfl
      have h5 : (s[k] == 10) = false := by
        cases h5 : (s[k] == 10) with
        | false => rfl
        | true =>
          exfalso
          have := has_yes s.data.toList 10 k (by rw [List.getElem?_eq_getElem (by rw [← Lib.size_eq]; exact hlt)]; exact congrArg some (eq_of_beq h5))
          rw [H1.out] at this; cases this
      rw [h5] at q2
      clear h5
      have HS := Lib.hid (blankTo_snoc s k hlt)
      generalize blankAll (s.data.toList.take k) = x at *
      cases x
      all_goals
        go_wp2_with (first | (go_at_call 136; refine (refBlank_any _ _).mono ?_; rintro e w1 ⟨rfl, rfl⟩))
        go_round
        case rel => exact ⟨k + 1, hlt, by go_num, by rw [HS.out]; rfl⟩
        case measure => simp [intOf]; omega
    · obtain rfl : k = s.size := by omega
      have ht : s.data.toList.take s.size = s.data.toList := by rw [Lib.size_eq]; exact List.take_length
      rw [ht]
      clear ht hlt hk
      cases h2 : blankAll s.data.toList with
      | true =>
        have hk : kindL s.data.toList = 1 := by unfold kindL; rw [H1.out, if_neg (by decide), if_pos h2]
        have HK := Lib.hid hk
        clear hk
        go_wp2
        go_ret
        exact ⟨by rw [HK.out]; rfl, Below.refl _ _⟩
      | false =>
        obtain ⟨c, t, hc⟩ := all_blank_cons h2
        have n3 : 1 ≤ s.size := by rw [N5.out, hc]; simp
        have g0 : s[0] = c := by
          have : s.data.toList[0]? = some c := by rw [hc]; rfl
          rw [List.getElem?_eq_getElem (by rw [← Lib.size_eq]; omega)] at this
          exact Option.some.inj this
        have eb : beginsB s.data.toList = blankB c := by rw [hc]; rfl
        have eh : hashB s.data.toList = (c == 35) := by rw [hc]; rfl
        clear hc
        have q1 := byte_eq (c := c) (d := 35) 35 rfl
        cases h3 : (c == 35) with
        | true =>
          have hk : kindL s.data.toList = 2 := by unfold kindL; rw [H1.out, if_neg (by decide), h2, if_neg (by decide), eh, if_pos h3]
          have HK := Lib.hid hk
          rw [h3] at q1
          clear hk h3 eb eh h2
          go_wp2
          go_ret
          exact ⟨by rw [HK.out]; rfl, Below.refl _ _⟩
        | false =>
          rw [h3] at q1
          cases h4 : blankB c with
          | true =>
            have hk : kindL s.data.toList = 3 := by unfold kindL; rw [H1.out, if_neg (by decide), h2, if_neg (by decide), eh, h3, if_neg (by decide), eb, if_pos h4]
            have HK := Lib.hid hk
            clear hk h3 eb eh h2
            go_wp2_with (first | (go_at_call 136; refine (refBlank_any _ _).mono ?_; rw [h4]; rintro e w1 ⟨rfl, rfl⟩))
            go_ret
            exact ⟨by rw [HK.out]; rfl, Below.refl _ _⟩
          | false =>
            have hk : kindL s.data.toList = if hasB s.data.toList 58 = true ∧ goodKey (before s.data.toList) = true then 4 else 5 := by
              unfold kindL; rw [H1.out, if_neg (by decide), h2, if_neg (by decide), eh, h3, if_neg (by decide), eb, h4, if_neg (by decide)]
            by_cases h6 : hasB s.data.toList 58 = true ∧ goodKey (before s.data.toList) = true
            · rw [if_pos h6] at hk
              have HK := Lib.hid hk
              have C := fun w => refCut_yes s hs w H1.out h6.1 h6.2
              clear hk h3 eb eh h2 h6
              go_wp2_with (first | (go_at_call 136; refine (refBlank_any _ _).mono ?_; rw [h4]; rintro e w1 ⟨rfl, rfl⟩) | (go_at_call 94; refine (C _).mono ?_; rintro e w1 ⟨rfl, b1⟩))
              go_ret
              exact ⟨by rw [HK.out]; rfl, b1⟩
            · rw [if_neg h6] at hk
              have HK := Lib.hid hk
              have h7 : hasB s.data.toList 58 = false ∨ goodKey (before s.data.toList) = false := by
                cases a : hasB s.data.toList 58
                · exact .inl rfl
                · cases b : goodKey (before s.data.toList)
                  · exact .inr rfl
                  · exact absurd ⟨a, b⟩ h6
              have C := fun w => refCut_no s hs w (.inr h7)
              clear hk h3 eb eh h2 h6 h7
              go_wp2_with (first | (go_at_call 136; refine (refBlank_any _ _).mono ?_; rw [h4]; rintro e w1 ⟨rfl, rfl⟩) | (go_at_call 94; refine (C _).mono ?_; rintro e w1 ⟨rfl, b1⟩))
              go_ret
              exact ⟨by rw [HK.out]; rfl, b1⟩
theorem refKind_any (s : ByteArray) (hs : s.size ≤ 4294967295) (w : World) :
    Calls Tryz.prog 93 #[.string s] w fun e w' => e = .returned (.int .i64 (kindL s.data.toList : Nat)) ∧ Below w.heap.size w w' := by
  cases h1 : hasB s.data.toList 10 with
  | true =>
    have hk : kindL s.data.toList = 5 := by unfold kindL; rw [if_pos h1]
    rw [hk]
    exact refKind_nl s hs w h1
  | false => exact refKind_else s hs w h1

end Go.Proofs.YtgaooalckjjplaaGreatDoor

namespace Go.Proofs.YtgaooalckjjplaaGreatDoor
open Go.RowKit Go.Shelf

attribute [local go_sem] errV_0 errV_5 errV_6
set_option maxHeartbeats 1000000 in
theorem refCheck_any (k v : List UInt8) (hk : k.length ≤ 1000000) (hv : v.length ≤ 1000000) (w : World) :
    Calls Tryz.prog 171 #[fieldV k v] w fun e w' => e = .returned (.int .i64 (checkN k v : Nat)) ∧ Below w.heap.size w w' := by
  have K := fun w => refKey_any (B k) (by rw [B_size]; omega) w
  rw [B_data] at K
  have hz := B_size v
  unfold checkN fieldV
  generalize B k = s at *
  cases hg : goodKey k with
  | false =>
    rw [hg] at K
    generalize B v = t at *
    go_enter Tryz.func171, Tryz.ntmps171
    go_wp2_with (go_at_call 137; refine (K _).mono ?_; rintro e w1 ⟨rfl, rfl⟩)
    go_ret
    exact ⟨rfl, (Below.refl _ _).alloc (Nat.le_refl _) _⟩
  | true =>
    rw [hg] at K
    by_cases h : v.length ≤ 1000
    · rw [if_pos rfl, if_pos h]
      rw [← hz] at h
      generalize B v = t at *
      go_enter Tryz.func171, Tryz.ntmps171
      go_wp2_with (go_at_call 137; refine (K _).mono ?_; rintro e w1 ⟨rfl, rfl⟩)
      go_ret
      exact ⟨rfl, (Below.refl _ _).alloc (Nat.le_refl _) _⟩
    · rw [if_pos rfl, if_neg h]
      rw [← hz] at h
      generalize B v = t at *
      go_enter Tryz.func171, Tryz.ntmps171
      go_wp2_with (go_at_call 137; refine (K _).mono ?_; rintro e w1 ⟨rfl, rfl⟩)
      go_ret
      exact ⟨rfl, (Below.refl _ _).alloc (Nat.le_refl _) _⟩

end Go.Proofs.YtgaooalckjjplaaGreatDoor

namespace Go.Proofs.YtgaooalckjjplaaGreatDoor
open Go.RowKit Go.Shelf
attribute [local go_sem] Oper.semAt_some

theorem rowForm {W : World} {base : Nat} {e : TypeId} {size : Nat} {v : Value} {n : Nat} {xs : List Value} (h : W.ownsRow base e size v n xs) : ∃ ao cap, v = .slice ao n cap := by
  rcases h.2 with ⟨rfl, rfl⟩ | ⟨g, cap, cur, rfl, _⟩
  · exact ⟨none, 0, rfl⟩
  · exact ⟨_, cap, rfl⟩
theorem boxNew4 (w : World) (o1 o2 o3 : Obj) (t : TypeId) (v : Value) : Boxed ((((w.alloc o1).alloc o2).alloc o3).alloc (.cells #[v] t)) (w.heap.size + 3) t v := by
  have := boxNew3 (w.alloc o1) o2 o3 t v
  rwa [World.size_alloc] at this
theorem mkAppend (a b : List UInt8) : (⟨a.toArray⟩ : ByteArray) ++ ⟨b.toArray⟩ = ⟨(a ++ b).toArray⟩ := by
  rw [← Lib.mk_data ((⟨a.toArray⟩ : ByteArray) ++ ⟨b.toArray⟩), ByteArray.data_append, Array.toList_append]
end Go.Proofs.YtgaooalckjjplaaGreatDoor

namespace Go.Proofs.YtgaooalckjjplaaGreatDoor
open Go.RowKit Go.Shelf
attribute [local go_sem] errV_0 errV_2

theorem runP_snoc {text : List UInt8} {pre : List Ln} {p q : PS} {x : Ln} (h : runP text PS.new pre = .ok p) (ht : takeP text p x = .ok q) : runP text PS.new (pre ++ [x]) = .ok q := by
  rw [runP_append, h]; show (match takeP text p x with | .error e => _ | .ok q => runP text q []) = _; rw [ht]; rfl
theorem runP_snoc_no {text : List UInt8} {pre : List Ln} {p : PS} {e : Nat × Nat} {x : Ln} (h : runP text PS.new pre = .ok p) (ht : takeP text p x = .error e) : runP text PS.new (pre ++ [x]) = .error e := by
  rw [runP_append, h]; show (match takeP text p x with | .error e => _ | .ok q => runP text q []) = _; rw [ht]
theorem runP_stop {text : List UInt8} {pre xs : List Ln} {e : Nat × Nat} (h : runP text PS.new pre = .error e) (hp : pre <+: xs) : runP text PS.new xs = .error e := by
  obtain ⟨post, rfl⟩ := hp
  rw [runP_append, h]
end Go.Proofs.YtgaooalckjjplaaGreatDoor

