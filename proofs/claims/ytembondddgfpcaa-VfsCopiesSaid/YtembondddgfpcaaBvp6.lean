/- Texts put together: XD, XE, XF, XG, YD, SWM, YE, YF, YG, YH. -/
import Derived.Laws.Cover1
import Derived.Lib.SmallJoins
import Derived.ChangeSlices
import Derived.ChangeMaps5
import Derived.Deep.Slices
import Derived.Deep.Fields
import Derived.ChangeSame
import Derived.Test.YtembondddgfpcaaBvp5
set_option linter.unusedVariables false
namespace Go.Proofs.Ytembondddgfpcaa
open Go.RowKit Go.Maps

theorem row_shape {w : World} {base : Nat} {e : TypeId} {size : Nat} {v : Value} {n : Nat} {xs : List Value} (h : w.ownsRow base e size v n xs) : ∃ a c, v = .slice a n c ∧ (0 < n → ∃ g, a = some ⟨g, 0, none⟩ ∧ g < w.heap.size) := by
  rcases h.2 with ⟨rfl, rfl⟩ | ⟨g, cap, _, rfl, _, hg, _⟩
  · exact ⟨_, _, rfl, fun h => absurd h (Nat.lt_irrefl _)⟩
  · exact ⟨_, _, rfl, fun _ => ⟨g, rfl, (Array.getElem?_eq_some_iff.1 hg).1⟩⟩
def bs (l : List UInt8) : ByteArray := ⟨l.toArray⟩
theorem bs_data (l : List UInt8) : (bs l).data.toList = l := by unfold bs; simp
theorem bs_of (s : ByteArray) : bs s.data.toList = s := by unfold bs; simp
theorem bs_size (l : List UInt8) : (bs l).size = l.length := by rw [Lib.size_eq, bs_data]
theorem bs_list (l : List UInt8) : (bs l).toList = l := by rw [Lib.toList_data, bs_data]
theorem bs_beq (a b : List UInt8) : ((bs a).toList == (bs b).toList) = decide (a = b) := by
  rw [bs_list, bs_list]
  by_cases h : a = b
  · simp [h]
  · simp [h]
def entryCells (l : Dir) : List Value := l.flatMap fun x => [.string (bs x.1), .int .i64 x.2]
theorem entries_at : ∀ (l : Dir) (k : Nat) (h : k < l.length), (entryCells l)[k * 2]? = some (.string (bs l[k].1)) ∧ (entryCells l)[k * 2 + 1]? = some (.int .i64 l[k].2)
  | x :: r, 0, _ => ⟨rfl, rfl⟩
  | x :: r, k + 1, h => by
    have ih := entries_at r k (by simpa using h)
    have e : entryCells (x :: r) = [.string (bs x.1), .int .i64 x.2] ++ entryCells r := rfl
    rw [e, List.getElem?_append_right (by simp; omega), List.getElem?_append_right (by simp; omega)]
    have e1 : (k + 1) * 2 - ([.string (bs x.1), .int .i64 x.2] : List Value).length = k * 2 := by simp; omega
    have e2 : (k + 1) * 2 + 1 - ([.string (bs x.1), .int .i64 x.2] : List Value).length = k * 2 + 1 := by simp; omega
    rw [e1, e2]
    exact ih
def EntryRow (w : World) (v : Value) (l : Dir) : Prop := w.ownsRow 0 83 2 v l.length (entryCells l)
def foundI (o : Option Nat) : Int := match o with | some f => f | none => -1
theorem dget_cons (x : List UInt8 × Nat) (r : Dir) (k : List UInt8) : dget (x :: r) k = if x.1 = k then some x.2 else dget r k := by
  unfold dget
  by_cases h : x.1 = k
  · simp [h]
  · have : (x.1 == k) = false := by simpa using h
    simp [h, this]

set_option maxRecDepth 100000 in
set_option maxHeartbeats 2000000 in
theorem reffind_any (l : Dir) (v : Value) (z : List UInt8) (w : World) (h : EntryRow w v l) (hl : l.length ≤ 1000000) (hz : z.length ≤ 1000000) (hn : ∀ x ∈ l, x.1.length ≤ 1000000) :
    Calls Try.prog 66 #[v, .string (bs z)] w fun e w' => e = .returned (.int .i64 (foundI (dget l z))) ∧ w = w' := by
  obtain ⟨ao, cap, rfl, hao⟩ := row_shape h
  have HR := Lib.hid h
  have HA := Lib.hid hao
  have hzs := bs_size z
  clear h hao
  go_enter Try.func66, Try.ntmps66
  go_wp2
  go_loopw [5] (fun i wr => ∃ k : Nat, k ≤ l.length ∧ i = .int .i64 k ∧ w = wr ∧ dget l z = dget (l.drop k) z) (fun i _ => l.length - (intOf i).toNat)
  case atStart => exact ⟨0, Nat.zero_le _, rfl, rfl, rfl⟩
  case round =>
    obtain ⟨k, hk, rfl, rfl, hd⟩ := hrel
    by_cases hlt : k < l.length
    · obtain ⟨g, rfl, hg⟩ := HA.out (by omega)
      obtain ⟨q0, q1⟩ := entries_at l k hlt
      have r0 := row_at HR.out q0
      have r1 := row_at HR.out q1
      have hx := hn _ (List.getElem_mem hlt)
      have hdrop : l.drop k = l[k] :: l.drop (k + 1) := (List.getElem_cons_drop hlt).symm
      rw [hdrop, dget_cons] at hd
      generalize l[k] = x at *
      have hxs := bs_size x.1
      by_cases e : x.1 = z
      · rw [if_pos e] at hd
        have e2 : ((bs x.1).toList == (bs z).toList) = true := by rw [bs_beq]; exact decide_eq_true e
        have HD := Lib.hid hd
        clear hd hdrop q0 q1 hn
        go_wp2
        go_ret
        exact ⟨by rw [HD.out]; rfl, rfl⟩
      · rw [if_neg e] at hd
        have e2 : ((bs x.1).toList == (bs z).toList) = false := by rw [bs_beq]; exact decide_eq_false e
        have HD := Lib.hid hd
        clear hd hdrop q0 q1 hn
        go_wp2
        go_roundw
        case rel => exact ⟨k + 1, hlt, by go_num, by trivial, HD.out⟩
        case measure => simp [intOf]; omega
    · have hd2 : dget l z = none := by rw [hd, List.drop_eq_nil_of_le (by omega)]; rfl
      go_wp2
      go_ret
      exact ⟨by rw [hd2]; rfl, rfl⟩
end Go.Proofs.Ytembondddgfpcaa

namespace Go.Proofs.Ytembondddgfpcaa
open Go.RowKit Go.Maps

theorem infoEntry : (Try.prog.info? 83).map (fun i => (i.zero, i.size, i.bytes)) = some (some (.agg #[.string ⟨#[]⟩, .int .i64 0]), 2, 24) := by kernel_rfl
theorem twoCells (W : World) (a b : Value) (t : TypeId) : ∀ (j : Nat) u, [a, b][j]? = some u → (W.alloc (.cells #[a, b] t)).cell? ((⟨W.heap.size, 0, none⟩ : Addr).add j) = some u := by
  intro j u hu
  have h := Cells.new W t #[a, b]
  rcases j with _ | _ | j
  · simp at hu; subst hu; exact h.cell 0
  · simp at hu; subst hu; exact h.cell 1
  · simp at hu
theorem entryCells_snoc (l : Dir) (x : List UInt8 × Nat) : entryCells (l ++ [x]) = entryCells l ++ [.string (bs x.1), .int .i64 x.2] := by unfold entryCells; simp
theorem bs_empty (a : List UInt8) : (bs a).toList.isEmpty = decide (a = []) := by rw [bs_list]; cases a <;> simp

theorem row_base {w : World} {base base' : Nat} {e : TypeId} {size : Nat} {v : Value} {n : Nat} {xs : List Value} (h : w.ownsRow base e size v n xs) (hb : base' ≤ base) : w.ownsRow base' e size v n xs := by
  refine ⟨h.1, ?_⟩
  rcases h.2 with h | ⟨g, cap, cur, h1, h2, h3⟩
  · exact .inl h
  · exact .inr ⟨g, cap, cur, h1, Nat.le_trans hb h2, h3⟩
theorem less_before : ∀ (a b : List UInt8), Op.bytesLess a b = bytesBefore a b
  | [], [] => rfl
  | [], _ :: _ => rfl
  | _ :: _, [] => rfl
  | x :: r, y :: s => by
    show (decide (x < y) || (x == y && Op.bytesLess r s)) = (decide (x < y) || (x == y && bytesBefore r s))
    rw [less_before r s]
theorem before_not {a b : List UInt8} (h : a ≠ b) : bytesBefore a b = !bytesBefore b a := by
  cases h1 : bytesBefore a b with
  | true =>
    cases h2 : bytesBefore b a with
    | true => have := Go.WideShapes.bytes_trans _ _ _ h1 h2; rw [Go.WideAt.bytes_irrefl] at this; cases this
    | false => rfl
  | false =>
    cases h2 : bytesBefore b a with
    | true => rfl
    | false => rcases Go.WideAt.bytes_total a b h with g | g
               · rw [h1] at g; cases g
               · rw [h2] at g; cases g
theorem moveL_skip {put take : List UInt8} {file : Nat} {x : List UInt8 × Nat} {r : Dir} {done : Bool} (h : x.1 = take ∨ x.1 = put) : moveL put take file (x :: r) done = moveL put take file r done := by rw [moveL, if_pos h]
theorem moveL_keep {put take : List UInt8} {file : Nat} {x : List UInt8 × Nat} {r : Dir} {done : Bool} (h : ¬ (x.1 = take ∨ x.1 = put)) (h5 : ¬ (!done && bytesBefore put x.1) = true) : moveL put take file (x :: r) done = x :: moveL put take file r done := by rw [moveL, if_neg h, if_neg h5]
theorem moveL_put {put take : List UInt8} {file : Nat} {x : List UInt8 × Nat} {r : Dir} {done : Bool} (h : ¬ (x.1 = take ∨ x.1 = put)) (h5 : (!done && bytesBefore put x.1) = true) : moveL put take file (x :: r) done = (put, file) :: x :: moveL put take file r true := by rw [moveL, if_neg h, if_pos h5]
set_option maxRecDepth 100000 in
set_option maxHeartbeats 4000000 in
theorem refmove_any (put take : List UInt8) (file : Nat) (l : Dir) (v : Value) (w : World) (h : EntryRow w v l) (hl : l.length ≤ 1000000) (hp : put.length ≤ 1000000) (ht : take.length ≤ 1000000) (hf : file ≤ 1000000) (hn : ∀ x ∈ l, x.1.length ≤ 1000000) (hm : ∀ x ∈ l, x.2 ≤ 1000000) :
    Calls Try.prog 64 #[v, .agg #[.string (bs put), .string (bs take), .int .i64 file]] w fun e w' => ∃ v', e = .returned v' ∧ EntryRow w' v' (moveL put take file l (decide (put = []))) ∧ Below w.heap.size w w' := by
  obtain ⟨i0, hi, hz0, hz1, hz2⟩ := info_parts infoEntry
  obtain ⟨ao, cap, rfl, hao⟩ := row_shape h
  have hps := bs_size put
  have hts := bs_size take
  have hpn := bs_empty put
  have hb0 : Below w.heap.size w (w.alloc (.cells #[.string (bs put), .string (bs take), .int .i64 file] 124)) := (Below.refl _ _).alloc (Nat.le_refl _) _
  have hc0 : Cells (w.alloc (.cells #[.string (bs put), .string (bs take), .int .i64 file] 124)) w.heap.size 124 #[.string (bs put), .string (bs take), .int .i64 file] := Cells.new _ _ _
  have hw0 : (w.alloc (.cells #[.string (bs put), .string (bs take), .int .i64 file] 124)).heap.size = w.heap.size + 1 := by simp
  have HR := Lib.hid (row_below h hb0 (Nat.le_refl _))
  have HA := Lib.hid hao
  have HB := Lib.hid hb0
  have HC := Lib.hid hc0
  have HN := Lib.hid hn
  have HM := Lib.hid hm
  have HW := Lib.hid hw0
  clear h hao hb0 hc0 hn hm hw0
  go_enter Try.func64, Try.ntmps64
  go_wp2
  generalize hW0 : w.alloc (.cells #[.string (bs put), .string (bs take), .int .i64 file] 124) = W0 at *
  clear hW0
  go_loopw [5, 6, 7] (fun ov dv i wr => ∃ (k : Nat) (done : Bool) (out : Dir), k ≤ l.length ∧ i = .int .i64 k ∧ dv = .bool done ∧ wr.ownsRow (w.heap.size + 1) 83 2 ov out.length (entryCells out) ∧ out.length ≤ 2 * k ∧
      out ++ moveL put take file (l.drop k) done = moveL put take file l (decide (put = [])) ∧ Below (w.heap.size + 1) W0 wr) (fun _ _ i _ => l.length - (intOf i).toNat)
  case atStart => exact ⟨0, decide (put = []), [], Nat.zero_le _, rfl, rfl, ⟨rfl, .inl ⟨rfl, rfl⟩⟩, Nat.zero_le _, rfl, Below.refl _ _⟩
  case round =>
    obtain ⟨k, done, out, hk, rfl, rfl, hown, hol, hd, hb⟩ := hrel
    rename_i wr
    have hbox : Cells wr w.heap.size 124 #[.string (bs put), .string (bs take), .int .i64 file] := (hb.block _ (Nat.lt_succ_self _)).trans HC.out
    have b0 := hbox.cell 0; have b1 := hbox.cell 1; have b2 := hbox.cell 2
    simp at b0 b1 b2
    have hws := hbox.lt
    by_cases hlt : k < l.length
    · obtain ⟨g, rfl, hg⟩ := HA.out (by omega)
      obtain ⟨q0, q1⟩ := entries_at l k hlt
      have hrow := row_below HR.out hb (by rw [HW.out]; exact Nat.le_refl _)
      have r0 := row_at hrow q0
      have r1 := row_at hrow q1
      have hx := HN.out _ (List.getElem_mem hlt)
      have hy := HM.out _ (List.getElem_mem hlt)
      have hdrop : l.drop k = l[k] :: l.drop (k + 1) := (List.getElem_cons_drop hlt).symm
      rw [hdrop] at hd
      generalize l[k] = x at *
      have hxs := bs_size x.1
      have e1 := bs_beq x.1 take
      have e2 := bs_beq x.1 put
      by_cases h1 : x.1 = take ∨ x.1 = put
      · have hd' : out ++ moveL put take file (l.drop (k + 1)) done = moveL put take file l (decide (put = [])) := by rw [← hd, moveL_skip h1]
        have HD := Lib.hid hd'
        have HO := Lib.hid hown
        have HB2 := Lib.hid hb
        clear hd hd' hown hb hdrop q0 q1 hrow hbox
        by_cases h3 : x.1 = take
        · rw [decide_eq_true h3] at e1
          go_wp2
          go_quiet (fail)
          go_wp2
          go_roundw
          case rel => exact ⟨k + 1, done, out, hlt, by go_num, rfl, HO.out, by omega, HD.out, HB2.out.drewNN _⟩
          case measure => simp [intOf]; omega
        · rw [decide_eq_false h3] at e1
          rw [decide_eq_true (h1.resolve_left h3)] at e2
          go_wp2
          go_quiet (fail)
          go_wp2
          go_roundw
          case rel => exact ⟨k + 1, done, out, hlt, by go_num, rfl, HO.out, by omega, HD.out, HB2.out.drewNN _⟩
          case measure => simp [intOf]; omega
      · have h3 : ¬ x.1 = take := fun h => h1 (.inl h)
        have h4 : ¬ x.1 = put := fun h => h1 (.inr h)
        rw [decide_eq_false h3] at e1
        rw [decide_eq_false h4] at e2
        have e5 : Op.bytesLess (bs x.1).toList (bs put).toList = !bytesBefore put x.1 := by rw [bs_list, bs_list, less_before, before_not h4]
        by_cases h5 : (!done && bytesBefore put x.1) = true
        · obtain ⟨h6, h7⟩ : done = false ∧ bytesBefore put x.1 = true := by cases done <;> simp_all
          subst h6
          rw [h7] at e5
          have hd' : ((out ++ [(put, file)]) ++ [x]) ++ moveL put take file (l.drop (k + 1)) true = moveL put take file l (decide (put = [])) := by rw [← hd, moveL_put h1 h5]; simp
          have HD := Lib.hid hd'
          have HB2 := Lib.hid hb
          have HT := twoCells wr
          have HV := Lib.hid hown
          obtain ⟨ov, ocap, rfl, hov⟩ := row_shape hown
          clear hd hd' hown hb hdrop hrow hbox
          have Q0 := Lib.hid q0
          have Q1 := Lib.hid q1
          clear q0 q1
          go_wp2
          go_quiet (fail)
          go_wp2
          go_quiet (fail)
          go_wp2_with (at_builtin; refine wpList_append_own _ rfl _ _ 33 rfl (w.heap.size + 1) 83 i0 _ 2 24 Try.underlying33 hi hz0 hz1 hz2 rfl (by decide) _ _ _ rfl (HV.out.alloc _) ⟨wr.heap.size, 0, none⟩ 1 1 [.string (bs put), .int .i64 file] rfl rfl (HT _ _ _) ?c2 ?c3 ?c4 ?c5 ?_)
          case c2 => intro u hu; simp at hu; rcases hu with rfl | rfl <;> rfl
          case c3 => unfold maxLen; omega
          case c4 => omega
          case c5 => simp; omega
          intro v' w5 hown' hgrow _
          have hs5 := HB2.out.size
          have hb5 : Below (w.heap.size + 1) W0 w5 := ((HB2.out.drewNN _).alloc (by rw [HW.out] at hs5; simpa using hs5) _).grown hgrow (by rw [HW.out] at hs5; simp; omega) (fun j ej => (HV.out.lt j ej).1)
          have hown6 : w5.ownsRow (w.heap.size + 1) 83 2 v' (out ++ [(put, file)]).length (entryCells (out ++ [(put, file)])) := by rw [List.length_append, entryCells_snoc]; exact hown'
          have hrow5 := row_below HR.out hb5 (by rw [HW.out]; exact Nat.le_refl _)
          have r5 := row_at hrow5 Q0.out
          have r6 := row_at hrow5 Q1.out
          have hg5 : g < w5.heap.size := (hrow5.lt g rfl).2
          have hw5 : w.heap.size + 1 ≤ w5.heap.size := by have := hb5.size; rw [HW.out] at this; exact this
          have HT5 := twoCells w5
          have hol5 : (out ++ [(put, file)]).length ≤ 2 * k + 1 := by simp; omega
          generalize out ++ [(put, file)] = out2 at *
          have HV5 := Lib.hid hown6
          have HB5 := Lib.hid hb5
          obtain ⟨ov2, ocap2, rfl, hov2⟩ := row_shape hown6
          clear hown6 hown' hrow5 hb5 hgrow hs5 r0 r1 hov
          go_wp2_with (at_builtin; refine wpList_append_own _ rfl _ _ 33 rfl (w.heap.size + 1) 83 i0 _ 2 24 Try.underlying33 hi hz0 hz1 hz2 rfl (by decide) _ _ _ rfl (HV5.out.alloc _) ⟨w5.heap.size, 0, none⟩ 1 1 [.string (bs x.1), .int .i64 x.2] rfl rfl (HT5 _ _ _) ?c2 ?c3 ?c4 ?c5 ?_)
          case c2 => intro u hu; simp at hu; rcases hu with rfl | rfl <;> rfl
          case c3 => unfold maxLen; omega
          case c4 => omega
          case c5 => simp; omega
          intro v' w6 hown' hgrow _
          have hs5 := HB5.out.size
          have hb6 : Below (w.heap.size + 1) W0 w6 := (HB5.out.alloc (by rw [HW.out] at hs5; exact hs5) _).grown hgrow (by rw [HW.out] at hs5; simp; omega) (fun j ej => (HV5.out.lt j ej).1)
          go_wp2_with fail
          go_roundw
          case rel => exact ⟨k + 1, true, out2 ++ [x], hlt, by go_num, rfl, by rw [List.length_append, entryCells_snoc]; exact hown', by simp; omega, HD.out, hb6⟩
          case measure => simp [intOf]; omega
        · have hd' : (out ++ [x]) ++ moveL put take file (l.drop (k + 1)) done = moveL put take file l (decide (put = [])) := by rw [← hd, moveL_keep h1 h5, List.append_assoc]; rfl
          have HD := Lib.hid hd'
          have HB2 := Lib.hid hb
          have HT := twoCells wr
          have HV := Lib.hid hown
          obtain ⟨ov, ocap, rfl, hov⟩ := row_shape hown
          clear hd hd' hown hb hdrop q0 q1 hrow hbox
          cases done with
          | true =>
            go_wp2
            go_quiet (fail)
            go_wp2
            go_quiet (fail)
            go_wp2_with (at_builtin; refine wpList_append_own _ rfl _ _ 33 rfl (w.heap.size + 1) 83 i0 _ 2 24 Try.underlying33 hi hz0 hz1 hz2 rfl (by decide) _ _ _ rfl (HV.out.alloc _) ⟨wr.heap.size, 0, none⟩ 1 1 [.string (bs x.1), .int .i64 x.2] rfl rfl (HT _ _ _) ?c2 ?c3 ?c4 ?c5 ?_)
            case c2 => intro u hu; simp at hu; rcases hu with rfl | rfl <;> rfl
            case c3 => unfold maxLen; omega
            case c4 => omega
            case c5 => simp; omega
            intro v' w5 hown' hgrow _
            have hs5 := HB2.out.size
            have hb5 : Below (w.heap.size + 1) W0 w5 := ((HB2.out.drewNN _).alloc (by rw [HW.out] at hs5; simpa using hs5) _).grown hgrow (by rw [HW.out] at hs5; simp; omega) (fun j ej => (HV.out.lt j ej).1)
            go_wp2_with fail
            go_roundw
            case rel => exact ⟨k + 1, true, out ++ [x], hlt, by go_num, rfl, by rw [List.length_append, entryCells_snoc]; exact hown', by simp; omega, HD.out, hb5⟩
            case measure => simp [intOf]; omega
          | false =>
            have h6 : bytesBefore put x.1 = false := by simpa using h5
            rw [h6] at e5
            go_wp2
            go_quiet (fail)
            go_wp2
            go_quiet (fail)
            go_wp2_with (at_builtin; refine wpList_append_own _ rfl _ _ 33 rfl (w.heap.size + 1) 83 i0 _ 2 24 Try.underlying33 hi hz0 hz1 hz2 rfl (by decide) _ _ _ rfl (HV.out.alloc _) ⟨wr.heap.size, 0, none⟩ 1 1 [.string (bs x.1), .int .i64 x.2] rfl rfl (HT _ _ _) ?c2 ?c3 ?c4 ?c5 ?_)
            case c2 => intro u hu; simp at hu; rcases hu with rfl | rfl <;> rfl
            case c3 => unfold maxLen; omega
            case c4 => omega
            case c5 => simp; omega
            intro v' w5 hown' hgrow _
            have hs5 := HB2.out.size
            have hb5 : Below (w.heap.size + 1) W0 w5 := ((HB2.out.drewNN _).alloc (by rw [HW.out] at hs5; simpa using hs5) _).grown hgrow (by rw [HW.out] at hs5; simp; omega) (fun j ej => (HV.out.lt j ej).1)
            go_wp2_with fail
            go_roundw
            case rel => exact ⟨k + 1, false, out ++ [x], hlt, by go_num, rfl, by rw [List.length_append, entryCells_snoc]; exact hown', by simp; omega, HD.out, hb5⟩
            case measure => simp [intOf]; omega
    · have hd2 : out ++ moveL put take file [] done = moveL put take file l (decide (put = [])) := by rw [← hd, List.drop_eq_nil_of_le (by omega)]
      have HD := Lib.hid hd2
      have HB2 := Lib.hid hb
      have HT := twoCells wr
      have HV := Lib.hid hown
      obtain ⟨ov, ocap, rfl, hov⟩ := row_shape hown
      clear hd hd2 hown hb hbox
      cases done with
      | true =>
        go_wp2
        go_ret
        refine ⟨_, rfl, ?_, HB.out.trans (HB2.out.mono (Nat.le_succ _))⟩
        rw [← HD.out]
        show EntryRow _ _ (out ++ [])
        rw [List.append_nil]
        exact row_base HV.out (Nat.zero_le _)
      | false =>
        go_wp2_with (at_builtin; refine wpList_append_own _ rfl _ _ 33 rfl (w.heap.size + 1) 83 i0 _ 2 24 Try.underlying33 hi hz0 hz1 hz2 rfl (by decide) _ _ _ rfl (HV.out.alloc _) ⟨wr.heap.size, 0, none⟩ 1 1 [.string (bs put), .int .i64 file] rfl rfl (HT _ _ _) ?c2 ?c3 ?c4 ?c5 ?_)
        case c2 => intro u hu; simp at hu; rcases hu with rfl | rfl <;> rfl
        case c3 => unfold maxLen; omega
        case c4 => omega
        case c5 => simp; omega
        intro v' w5 hown' hgrow _
        have hs5 := HB2.out.size
        have hb5 : Below (w.heap.size + 1) W0 w5 := (HB2.out.alloc (by rw [HW.out] at hs5; exact hs5) _).grown hgrow (by rw [HW.out] at hs5; simp; omega) (fun j ej => (HV.out.lt j ej).1)
        go_wp2_with fail
        go_ret
        refine ⟨_, rfl, ?_, HB.out.trans (hb5.mono (Nat.le_succ _))⟩
        rw [← HD.out]
        show EntryRow _ _ (out ++ [(put, file)])
        unfold EntryRow
        rw [List.length_append, entryCells_snoc]
        exact row_base hown' (Nat.zero_le _)
end Go.Proofs.Ytembondddgfpcaa

namespace Go.Proofs.Ytembondddgfpcaa
open Go.RowKit Go.Maps

def moveCells (c : ChangeA) : List Value := [.string c.on, .string c.off, .int .i64 c.file]
def movesCells (l : List ChangeA) : List Value := l.flatMap moveCells
theorem moves_at : ∀ (l : List ChangeA) (k : Nat) (h : k < l.length), (movesCells l)[k * 3]? = some (.string l[k].on) ∧ (movesCells l)[k * 3 + 1]? = some (.string l[k].off) ∧ (movesCells l)[k * 3 + 2]? = some (.int .i64 l[k].file)
  | x :: r, 0, _ => ⟨rfl, rfl, rfl⟩
  | x :: r, k + 1, h => by
    have ih := moves_at r k (by simpa using h)
    have e : movesCells (x :: r) = [.string x.on, .string x.off, .int .i64 x.file] ++ movesCells r := rfl
    have el : ([.string x.on, .string x.off, .int .i64 x.file] : List Value).length = 3 := rfl
    rw [e, List.getElem?_append_right (by rw [el]; omega), List.getElem?_append_right (by rw [el]; omega), List.getElem?_append_right (by rw [el]; omega), el]
    rw [show (k + 1) * 3 - 3 = k * 3 by omega, show (k + 1) * 3 + 1 - 3 = k * 3 + 1 by omega, show (k + 1) * 3 + 2 - 3 = k * 3 + 2 by omega]
    exact ih
def MovesRow (w : World) (v : Value) (l : List ChangeA) : Prop := w.ownsRow 0 124 3 v l.length (movesCells l)
/-- Names and files are small. -/
def SmallD (l : Dir) : Prop := ∀ x ∈ l, x.1.length ≤ 1000000 ∧ x.2 ≤ 1000000
def SmallC (l : List ChangeA) : Prop := ∀ c ∈ l, c.off.size ≤ 1000000 ∧ c.on.size ≤ 1000000 ∧ c.file ≤ 1000000
theorem capply_small {l : Dir} (h : SmallD l) {c : ChangeA} (hc : c.on.size ≤ 1000000 ∧ c.file ≤ 1000000) : SmallD (capply c.off.data.toList c.on.data.toList c.file l) := by
  intro x hx
  rcases capply_mem hx with hx | rfl
  · exact h x hx
  · exact ⟨by rw [← Lib.size_eq]; exact hc.1, hc.2⟩
theorem dplay_small : ∀ (cs : List ChangeA) {l : Dir}, SmallC cs → SmallD l → SmallD (dplay cs l)
  | [], _, _, h => h
  | c :: cs, _, hc, h => dplay_small cs (fun x hx => hc x (List.mem_cons_of_mem _ hx)) (capply_small h ⟨(hc c (by simp)).2.1, (hc c (by simp)).2.2⟩)

set_option maxRecDepth 100000 in
set_option maxHeartbeats 4000000 in
theorem refdir_any (room units left : Int) (armed gone : Bool) (vf vs vm va : Value) (sure : Dir) (waits : List ChangeA) (w : World) (hs : EntryRow w vs sure) (hm : MovesRow w vm waits) (hr : Rising sure) (h1 : SmallD sure) (h2 : SmallC waits) (hl : sure.length + waits.length ≤ 1000000) :
    Calls Try.prog 38 #[.agg #[.int .i64 room, vf, vs, vm, .int .i64 units, .int .i64 left, .bool armed, .bool gone, va]] w fun e w' => ∃ v', e = .returned v' ∧ EntryRow w' v' (dplay waits sure) ∧ Below w.heap.size w w' := by
  obtain ⟨mo, mcap, rfl, hmo⟩ := row_shape hm
  have hb0 : Below w.heap.size w (w.alloc (.cells #[.int .i64 room, vf, vs, .slice mo waits.length mcap, .int .i64 units, .int .i64 left, .bool armed, .bool gone, va] 37)) := (Below.refl _ _).alloc (Nat.le_refl _) _
  have hc0 : Cells (w.alloc (.cells #[.int .i64 room, vf, vs, .slice mo waits.length mcap, .int .i64 units, .int .i64 left, .bool armed, .bool gone, va] 37)) w.heap.size 37 #[.int .i64 room, vf, vs, .slice mo waits.length mcap, .int .i64 units, .int .i64 left, .bool armed, .bool gone, va] := Cells.new _ _ _
  have hw0 : (w.alloc (.cells #[.int .i64 room, vf, vs, .slice mo waits.length mcap, .int .i64 units, .int .i64 left, .bool armed, .bool gone, va] 37)).heap.size = w.heap.size + 1 := by simp
  have HS := Lib.hid (row_below hs hb0 (Nat.le_refl _))
  have HM := Lib.hid (row_below hm hb0 (Nat.le_refl _))
  have HMO := Lib.hid hmo
  have HB := Lib.hid hb0
  have HC := Lib.hid hc0
  have HW := Lib.hid hw0
  clear hs hm hmo hb0 hc0 hw0
  go_enter Try.func38, Try.ntmps38
  go_wp2
  generalize w.alloc (.cells #[.int .i64 room, vf, vs, .slice mo waits.length mcap, .int .i64 units, .int .i64 left, .bool armed, .bool gone, va] 37) = W0 at *
  go_loopw [3, 4] (fun c i wr => ∃ (k : Nat) (cv : Value), k ≤ waits.length ∧ i = .int .i64 k ∧ cv = c ∧ EntryRow wr cv (dplay (waits.take k) sure) ∧ Below (w.heap.size + 1) W0 wr) (fun _ i _ => waits.length - (intOf i).toNat)
  case atStart => exact ⟨0, vs, Nat.zero_le _, rfl, rfl, HS.out, Below.refl _ _⟩
  case round =>
    obtain ⟨k, cv, hk, rfl, rfl, hrow, hb⟩ := hrel
    rename_i wr
    have hbox := (hb.block _ (Nat.lt_succ_self _)).trans HC.out
    have hbox : Cells wr w.heap.size 37 #[.int .i64 room, vf, vs, .slice mo waits.length mcap, .int .i64 units, .int .i64 left, .bool armed, .bool gone, va] := hbox
    have b3 := hbox.cell 3
    simp at b3
    have hws := hbox.lt
    by_cases hlt : k < waits.length
    · obtain ⟨g, rfl, hg⟩ := HMO.out (by omega)
      obtain ⟨q0, q1, q2⟩ := moves_at waits k hlt
      have hmr := row_below HM.out hb (by rw [HW.out]; exact Nat.le_refl _)
      have r0 := row_at hmr q0
      have r1 := row_at hmr q1
      have r2 := row_at hmr q2
      have hg2 : g < wr.heap.size := (hmr.lt g rfl).2
      have hx := h2 _ (List.getElem_mem hlt)
      have htk : waits.take (k + 1) = waits.take k ++ [waits[k]] := List.take_succ_eq_append_getElem hlt
      have hd : dplay (waits.take (k + 1)) sure = capply waits[k].off.data.toList waits[k].on.data.toList waits[k].file (dplay (waits.take k) sure) := by rw [htk, dplay_snoc]
      have hlen := dplay_length (waits.take k) sure
      have hsm := dplay_small (waits.take k) (fun c hc => h2 c (List.mem_of_mem_take hc)) h1
      have hri := dplay_rising (waits.take k) hr
      rw [List.length_take] at hlen
      generalize waits[k] = c at *
      have C := refmove_any c.on.data.toList c.off.data.toList c.file (dplay (waits.take k) sure) cv wr hrow (by omega) (by rw [← Lib.size_eq]; exact hx.2.1) (by rw [← Lib.size_eq]; exact hx.1) hx.2.2 (fun x hx => (hsm x hx).1) (fun x hx => (hsm x hx).2)
      rw [move_capply hri, ← hd, bs_of, bs_of] at C
      have C := Lib.hid C
      have HB2 := Lib.hid hb
      have hwz : w.heap.size + 1 ≤ wr.heap.size := hws
      clear hd htk hrow hsm hri hlen hmr q0 q1 q2 hbox hb h2 h1
      go_wp2_with (go_at_call 64; refine C.out.mono ?_; rintro e w1 ⟨v', rfl, hrow1, hb1⟩)
      have hb2 := HB2.out.trans (hb1.mono hwz)
      go_roundw
      case rel => exact ⟨k + 1, v', hlt, by go_num, rfl, hrow1, hb2⟩
      case measure => simp [intOf]; omega
    · have hkl : k = waits.length := by omega
      subst hkl
      rw [List.take_length] at hrow
      have HROW := Lib.hid hrow
      have HB2 := Lib.hid hb
      clear hrow hb hbox
      go_wp2
      go_ret
      exact ⟨_, rfl, HROW.out, HB.out.trans (HB2.out.mono (Nat.le_succ _))⟩
end Go.Proofs.Ytembondddgfpcaa

namespace Go.Proofs.Ytembondddgfpcaa
open Go.RowKit Go.Maps

def waitCells (x : WaitM) : List Value := [.int .u8 x.b.toNat, .int .i64 x.at_, .bool x.cut]
def waitsCells (l : List WaitM) : List Value := l.flatMap waitCells
theorem waits_at : ∀ (l : List WaitM) (k : Nat) (h : k < l.length), (waitsCells l)[k * 3]? = some (.int .u8 l[k].b.toNat) ∧ (waitsCells l)[k * 3 + 1]? = some (.int .i64 l[k].at_) ∧ (waitsCells l)[k * 3 + 2]? = some (.bool l[k].cut)
  | x :: r, 0, _ => ⟨rfl, rfl, rfl⟩
  | x :: r, k + 1, h => by
    have ih := waits_at r k (by simpa using h)
    have e : waitsCells (x :: r) = [.int .u8 x.b.toNat, .int .i64 x.at_, .bool x.cut] ++ waitsCells r := rfl
    have el : ([.int .u8 x.b.toNat, .int .i64 x.at_, .bool x.cut] : List Value).length = 3 := rfl
    rw [e, List.getElem?_append_right (by rw [el]; omega), List.getElem?_append_right (by rw [el]; omega), List.getElem?_append_right (by rw [el]; omega), el]
    rw [show (k + 1) * 3 - 3 = k * 3 by omega, show (k + 1) * 3 + 1 - 3 = k * 3 + 1 by omega, show (k + 1) * 3 + 2 - 3 = k * 3 + 2 by omega]
    exact ih
def WaitsRow (w : World) (v : Value) (l : List WaitM) : Prop := w.ownsRow 0 127 3 v l.length (waitsCells l)
theorem bs_append (a b : List UInt8) : bs a ++ bs b = bs (a ++ b) := by
  apply ByteArray.ext
  unfold bs
  simp
theorem behindM_succ {s : List UInt8} {l : List WaitM} {k : Nat} (h : k < l.length) : behindM s l ((k + 1 : Nat) : Int) = stepM (behindM s l (k : Int)) l[k] := by
  unfold behindM
  rw [Int.toNat_natCast, Int.toNat_natCast, List.take_succ_eq_append_getElem h, List.foldl_append]; rfl
theorem behindM_end {s : List UInt8} {l : List WaitM} {k : Nat} {n : Int} (h1 : k ≤ n.toNat) (h2 : ¬ (k < l.length ∧ (k : Int) < n)) : behindM s l n = behindM s l (k : Int) := by
  unfold behindM
  rw [Int.toNat_natCast]
  by_cases h : k < l.length
  · rw [show n.toNat = k by omega]
  · rw [List.take_of_length_le (by omega), List.take_of_length_le (by omega)]
theorem stepM_length (s : List UInt8) (x : WaitM) : (stepM s x).length ≤ s.length + 1 := by
  unfold stepM; split
  · rw [List.length_take]; omega
  · simp
theorem steps_length : ∀ (l : List WaitM) (s : List UInt8), (l.foldl stepM s).length ≤ s.length + l.length
  | [], s => Nat.le_refl _
  | x :: r, s => by
    have h1 := steps_length r (stepM s x)
    have h2 := stepM_length s x
    simp only [List.foldl_cons, List.length_cons]; omega

theorem oneByte (wr : World) (o : Obj) (b : UInt8) : (convert 140 9 (.slice (some ⟨wr.heap.size + 1, 0, none⟩) 1 1)).run Try.prog ((wr.alloc o).alloc (.cells #[.int .u8 b.toNat] 5)) = .ok (.string (bs [b])) ((wr.alloc o).alloc (.cells #[.int .u8 b.toNat] 5)) := by
  have hz : (wr.alloc o).heap.size = wr.heap.size + 1 := by simp
  refine Go.run_convert_bytes_back (P := Try.prog) _ 140 9 5 ⟨wr.heap.size + 1, 0, none⟩ 1 [b] Try.underlying140 Try.underlying5 Try.underlying9 (fun j hj => ?_)
  obtain rfl : j = 0 := by simpa using hj
  have h := (Cells.new (wr.alloc o) 5 #[.int .u8 b.toNat]).cell 0
  rw [hz] at h
  exact h
set_option maxRecDepth 100000 in
set_option maxHeartbeats 4000000 in
theorem refbehind_any (sure : ByteArray) (l : List WaitM) (v : Value) (n : Int) (w : World) (h : WaitsRow w v l) (hl : l.length ≤ 1000000) (hs : sure.size ≤ 1000000) (hn : -9223372036854775808 ≤ n ∧ n ≤ 9223372036854775807) (ha : ∀ x ∈ l, x.at_ ≤ 1000000) :
    Calls Try.prog 65 #[.agg #[.string sure, v], .int .i64 n] w fun e w' => e = .returned (.string (bs (behindM sure.data.toList l n))) ∧ Below w.heap.size w w' := by
  obtain ⟨mo, mcap, rfl, hmo⟩ := row_shape h
  have hb0 : Below w.heap.size w (w.alloc (.cells #[.string sure, .slice mo l.length mcap] 87)) := (Below.refl _ _).alloc (Nat.le_refl _) _
  have hc0 : Cells (w.alloc (.cells #[.string sure, .slice mo l.length mcap] 87)) w.heap.size 87 #[.string sure, .slice mo l.length mcap] := Cells.new _ _ _
  have hw0 : (w.alloc (.cells #[.string sure, .slice mo l.length mcap] 87)).heap.size = w.heap.size + 1 := by simp
  have HM := Lib.hid (row_below h hb0 (Nat.le_refl _))
  have HMO := Lib.hid hmo
  have HB := Lib.hid hb0
  have HC := Lib.hid hc0
  have HW := Lib.hid hw0
  have hsure : bs (behindM sure.data.toList l ((0 : Nat) : Int)) = sure := by unfold behindM; exact bs_of _
  have HS := Lib.hid hsure
  have hst : sure.data.toList.length = sure.size := (Lib.size_eq sure).symm
  have HT := Lib.hid hst
  clear h hmo hb0 hc0 hw0 hsure hst
  go_enter Try.func65, Try.ntmps65
  go_wp2
  generalize w.alloc (.cells #[.string sure, .slice mo l.length mcap] 87) = W0 at *
  go_loopw [5, 6] (fun c i wr => ∃ (k : Nat) (cur : List UInt8), k ≤ l.length ∧ k ≤ n.toNat ∧ i = .int .i64 k ∧ c = .string (bs cur) ∧ cur = behindM sure.data.toList l (k : Int) ∧ Below (w.heap.size + 1) W0 wr) (fun _ i _ => l.length - (intOf i).toNat)
  case atStart => exact ⟨0, sure.data.toList, Nat.zero_le _, Nat.zero_le _, rfl, by rw [bs_of], rfl, Below.refl _ _⟩
  case round =>
    obtain ⟨k, cur, hk, hkn, rfl, rfl, hcur, hb⟩ := hrel
    rename_i wr
    have hbox := (hb.block _ (Nat.lt_succ_self _)).trans HC.out
    have hbox : Cells wr w.heap.size 87 #[.string sure, .slice mo l.length mcap] := hbox
    have b1 := hbox.cell 1
    simp at b1
    have hws := hbox.lt
    have hcl : cur.length ≤ 2000000 := by
      have := steps_length (l.take k) sure.data.toList
      rw [HT.out, List.length_take] at this
      rw [hcur]; unfold behindM; rw [Int.toNat_natCast]; omega
    have hcs := bs_size cur
    by_cases hlt : k < l.length ∧ (k : Int) < n
    · obtain ⟨hlt, hltn⟩ := hlt
      obtain ⟨g, rfl, hg⟩ := HMO.out (by omega)
      obtain ⟨q0, q1, q2⟩ := waits_at l k hlt
      have hmr := row_below HM.out hb (by rw [HW.out]; exact Nat.le_refl _)
      have r0 := row_at hmr q0
      have r1 := row_at hmr q1
      have r2 := row_at hmr q2
      have hg2 : g < wr.heap.size := (hmr.lt g rfl).2
      have hx := ha _ (List.getElem_mem hlt)
      have hd := behindM_succ (s := sure.data.toList) hlt
      rw [← hcur] at hd
      generalize l[k] = x at *
      obtain ⟨b, at_, cut⟩ := x
      dsimp only at r0 r1 r2 hx
      cases cut with
      | true =>
        have hd2 : behindM sure.data.toList l ((k + 1 : Nat) : Int) = cur.take at_ := by rw [hd]; rfl
        have HD := Lib.hid hd2
        have HB2 := Lib.hid hb
        clear hd hd2 hcur hb hbox hmr q0 q1 q2
        by_cases hat : at_ < cur.length
        · have hex : (bs cur).extract 0 at_ = bs (cur.take at_) := by rw [← bs_of ((bs cur).extract 0 at_), extract_take, bs_data]
          have HX := Lib.hid hex
          clear hex
          go_wp2
          go_roundw
          case rel => exact ⟨k + 1, cur.take at_, hlt, by omega, by go_num, by rw [← HX.out], HD.out.symm, HB2.out.alloc hws _⟩
          case measure => simp [intOf]; omega
        · have hex : cur.take at_ = cur := List.take_of_length_le (by omega)
          have HX := Lib.hid hex
          clear hex
          go_wp2
          go_roundw
          case rel => exact ⟨k + 1, cur, hlt, by omega, by go_num, rfl, by rw [HD.out, HX.out], HB2.out.alloc hws _⟩
          case measure => simp [intOf]; omega
      | false =>
        have hd2 : behindM sure.data.toList l ((k + 1 : Nat) : Int) = cur ++ [b] := by rw [hd]; rfl
        have HD := Lib.hid hd2
        have HB2 := Lib.hid hb
        have hcv := oneByte wr (.cells #[.int .u8 b.toNat, .int .i64 at_, .bool false] 127) b
        have hbz : (bs [b]).size = 1 := bs_size [b]
        have HAP := Lib.hid (bs_append cur [b])
        clear hd hd2 hcur hb hbox hmr q0 q1 q2
        go_wp2
        go_roundw
        case rel => exact ⟨k + 1, cur ++ [b], hlt, by omega, by go_num, by rw [HAP.out], HD.out.symm, (HB2.out.alloc hws _).alloc (by simp; omega) _⟩
        case measure => simp [intOf]; omega
    · have he := behindM_end (s := sure.data.toList) hkn hlt
      rw [← hcur] at he
      have HE := Lib.hid he
      have HB2 := Lib.hid hb
      clear he hcur hb hbox
      have hnl : decide ((k : Int) < (l.length : Int)) = true → decide ((k : Int) < n) = false := by
        intro h; have := of_decide_eq_true h; exact decide_eq_false (by omega)
      by_cases h1 : k < l.length
      · have h2 : ¬ (k : Int) < n := by omega
        clear hnl hlt
        go_wp2
        go_ret
        exact ⟨by rw [HE.out]; rfl, HB.out.trans (HB2.out.mono (Nat.le_succ _))⟩
      · clear hnl hlt
        go_wp2
        go_ret
        exact ⟨by rw [HE.out]; rfl, HB.out.trans (HB2.out.mono (Nat.le_succ _))⟩
end Go.Proofs.Ytembondddgfpcaa

namespace Go.Proofs.Ytembondddgfpcaa
open Go.RowKit Go.Maps
attribute [local go_sem] errV_0

def nmA : ByteArray := ⟨#[97]⟩
def aD0 : ADisk := freshD 100
def aD1 : ADisk := (createD aD0 nmA).1
def aD2 : ADisk := (syncdirD aD1).1
def aD3 : ADisk := (writeD aD2 nmA ⟨#[97, 98]⟩).1
def aD4 : ADisk := (syncD aD3 nmA).1
def aD5 : ADisk := (writeD aD4 nmA ⟨#[99, 100]⟩).1
def aD6 : ADisk := crashD aD5 0 [1]
theorem aE1 : (createD aD0 nmA).2 = 0 := by kernel_rfl
theorem aE2 : (syncdirD aD1).2 = 0 := by kernel_rfl
theorem aE3 : (writeD aD2 nmA ⟨#[97, 98]⟩).2 = 0 := by kernel_rfl
theorem aE4 : (syncD aD3 nmA).2 = 0 := by kernel_rfl
theorem aE5 : (writeD aD4 nmA ⟨#[99, 100]⟩).2 = 0 := by kernel_rfl
theorem aE6 : readR aD6 nmA = (⟨#[97, 98, 99]⟩, 0) := by kernel_rfl
theorem aE7 : aD6.units = 7 := by kernel_rfl
theorem aE8 : aD6.acts.length = 5 := by kernel_rfl
theorem aF0 : Fine 0 aD0 := fresh_fine 100 (by decide) (by decide)
theorem aF1 : Fine 2 aD1 := create_fine aF0 nmA (by decide)
theorem aF2 : Fine 3 aD2 := syncdir_fine aF1
theorem aF3 : Fine 9 aD3 := write_fine aF2 nmA ⟨#[97, 98]⟩
theorem aF4 : Fine 10 aD4 := sync_fine aF3 nmA
theorem aF5 : Fine 16 aD5 := write_fine aF4 nmA ⟨#[99, 100]⟩
theorem aF6 : Fine 16 aD6 := crash_fine aF5 0 [1]
theorem aC1 {w : World} {T : Nat → Nat} {p : Nat} (h : DiskAt w T p aD0) : Calls Try.prog 15 #[.pointer (some ⟨p, 0, none⟩), .string ⟨#[97]⟩] w fun e w' => e = .returned .nilIface ∧ ∃ T', DiskAt w' T' p aD1 ∧ Step w T w' T' := by
  have := create_any h aF0 (by omega) nmA (by decide)
  rw [aE1] at this; exact this
theorem aC2 {w : World} {T : Nat → Nat} {p : Nat} (h : DiskAt w T p aD1) : Calls Try.prog 21 #[.pointer (some ⟨p, 0, none⟩)] w fun e w' => e = .returned .nilIface ∧ ∃ T', DiskAt w' T' p aD2 ∧ Step w T w' T' := by
  have := syncdir_any h aF1 (by omega)
  rw [aE2] at this; exact this
theorem aC3 {w : World} {T : Nat → Nat} {p : Nat} (h : DiskAt w T p aD2) : Calls Try.prog 16 #[.pointer (some ⟨p, 0, none⟩), .string ⟨#[97]⟩, .string ⟨#[97, 98]⟩] w fun e w' => e = .returned .nilIface ∧ ∃ T', DiskAt w' T' p aD3 ∧ Step w T w' T' := by
  have := write_any h aF2 (by omega) nmA ⟨#[97, 98]⟩ (by decide) (by decide)
  rw [aE3] at this; exact this
theorem aC4 {w : World} {T : Nat → Nat} {p : Nat} (h : DiskAt w T p aD3) : Calls Try.prog 18 #[.pointer (some ⟨p, 0, none⟩), .string ⟨#[97]⟩] w fun e w' => e = .returned .nilIface ∧ ∃ T', DiskAt w' T' p aD4 ∧ Step w T w' T' := by
  have := sync_any h aF3 (by omega) nmA (by decide)
  rw [aE4] at this; exact this
theorem aC5 {w : World} {T : Nat → Nat} {p : Nat} (h : DiskAt w T p aD4) : Calls Try.prog 16 #[.pointer (some ⟨p, 0, none⟩), .string ⟨#[97]⟩, .string ⟨#[99, 100]⟩] w fun e w' => e = .returned .nilIface ∧ ∃ T', DiskAt w' T' p aD5 ∧ Step w T w' T' := by
  have := write_any h aF4 (by omega) nmA ⟨#[99, 100]⟩ (by decide) (by decide)
  rw [aE5] at this; exact this
/-- A new row of one number. -/
theorem ints1 {w w' : World} {T : Nat → Nat} (k : Int) (t : TypeId) (hl : ∀ b, T b ≠ 0 → b < w.heap.size) (h : Only (fun r => T r ≠ 0) (w.alloc (.cells #[.int .i64 k] t)) w') : ∀ j (h : j < [k].length), w'.cell? ((⟨w.heap.size, 0, none⟩ : Addr).add j) = some (.int .i64 [k][j]) := by
  intro j hj
  have : j = 0 := by simpa using hj
  subst this
  have e0 : (⟨w.heap.size, 0, none⟩ : Addr).add 0 = ⟨w.heap.size, 0, none⟩ := rfl
  rw [e0]
  rw [((Cells.new w t #[.int .i64 k]).only h (fun e => by have := hl _ e; omega)).cell]; rfl
theorem aC6 {w : World} {T : Nat → Nat} {p : Nat} (h : DiskAt w T p aD5) : Calls Try.prog 12 #[.pointer (some ⟨p, 0, none⟩), .int .i64 0, .slice (some ⟨w.heap.size, 0, none⟩) 1 1] (w.alloc (.cells #[.int .i64 1] 3)) fun e w' => e = .returned (.tuple #[]) ∧ ∃ T', DiskAt w' T' p aD6 ∧ Step w T w' T' := by
  have hb : Below w.heap.size w (w.alloc (.cells #[.int .i64 1] 3)) := (Below.refl _ w).alloc (Nat.le_refl _) _
  refine (crash_any (h.below hb) aF5 (by omega) 0 (by decide) [1] (some ⟨w.heap.size, 0, none⟩) ⟨w.heap.size, 0, none⟩ 1 (fun _ => rfl) (fun w' ho => ints1 1 3 h.low ho) (by simp; decide) (by simp)).mono ?_
  rintro e w' ⟨rfl, T', hd, hs⟩
  exact ⟨rfl, T', hd, (Step.below hb).trans hs⟩
theorem aC7 {w : World} {T : Nat → Nat} {p : Nat} (h : DiskAt w T p aD6) : Calls Try.prog 13 #[.pointer (some ⟨p, 0, none⟩), .string ⟨#[97]⟩] w fun e w' => e = .returned (.tuple #[.string ⟨#[97, 98, 99]⟩, .nilIface]) ∧ Below w.heap.size w w' := by
  have := read_any h aF6 (by omega) nmA (by decide)
  rw [aE6] at this; exact this
theorem aC8 {w : World} {T : Nat → Nat} {p : Nat} (h : DiskAt w T p aD6) : Calls Try.prog 25 #[.pointer (some ⟨p, 0, none⟩)] w fun e w' => e = .returned (.int .i64 7) ∧ w = w' := by
  have := units_any h
  rw [aE7] at this; exact this
theorem aC9 {w : World} {T : Nat → Nat} {p : Nat} (h : DiskAt w T p aD6) : Calls Try.prog 27 #[.pointer (some ⟨p, 0, none⟩)] w fun e w' => (∃ ao cap, e = .returned (.slice ao 5 cap)) ∧ Below w.heap.size w w' := by
  refine (acts_any h aF6 (by omega)).mono ?_
  rintro e w' ⟨v', rfl, _, _, ⟨ao, cap, rfl⟩, hb⟩
  rw [aE8]
  exact ⟨⟨ao, cap, rfl⟩, hb⟩
/-- What a new disk, and all that is done with it, leaves as it lay. -/
theorem fresh_below {w w1 w' : World} {T' : Nat → Nat} (hb : Below w.heap.size w w1) (hs : Step w1 (fun b => if b = w.heap.size then 1 else 0) w' T') : Below w.heap.size w w' :=
  hb.trans (hs.only.to_below hb.size (fun r hr => by simp; omega))

set_option maxRecDepth 100000 in
set_option maxHeartbeats 2000000 in
theorem alive_any (w : World) : Calls Try.prog 5 #[] w fun e w' => e = .returned (.bool true) ∧ Below w.heap.size w w' := by
  go_enter Try.func5, Try.ntmps5
  go_wp2_with fail
  refine (new_yes 100 w (by decide)).mono ?_
  rintro e w1 ⟨rfl, h1, hb, _⟩
  have HB := Lib.hid hb
  generalize hT : (fun b => if b = w.heap.size then 1 else 0) = T0 at h1
  generalize hp : w.heap.size = p at h1 ⊢
  have HP := Lib.hid hp
  have HT := Lib.hid hT
  clear hb hp hT
  go_wp2_with fail
  refine (aC1 h1).mono ?_
  rintro e w2 ⟨rfl, T2, h2, s2⟩
  go_wp2_with fail
  refine (aC2 h2).mono ?_
  rintro e w3 ⟨rfl, T3, h3, s3⟩
  go_wp2_with fail
  refine (aC3 h3).mono ?_
  rintro e w4 ⟨rfl, T4, h4, s4⟩
  go_wp2_with fail
  refine (aC4 h4).mono ?_
  rintro e w5 ⟨rfl, T5, h5, s5⟩
  go_wp2_with fail
  refine (aC5 h5).mono ?_
  rintro e w6 ⟨rfl, T6, h6, s6⟩
  go_wp2_with fail
  refine (aC6 h6).mono ?_
  rintro e w7 ⟨rfl, T7, h7, s7⟩
  go_wp2_with fail
  refine (aC7 h7).mono ?_
  rintro e w8 ⟨rfl, hb8⟩
  have h8 := h7.below hb8
  go_wp2_with fail
  refine (aC8 h8).mono ?_
  rintro e w9 ⟨rfl, rfl⟩
  go_wp2_with fail
  refine (aC9 h8).mono ?_
  rintro e w9 ⟨⟨ao, cap, rfl⟩, hb9⟩
  have S := Lib.hid (((((((s2.trans s3).trans s4).trans s5).trans s6).trans s7).trans (Step.below hb8)).trans (Step.below hb9))
  clear s2 s3 s4 s5 s6 s7 hb8 hb9 h1 h2 h3 h4 h5 h6 h7 h8
  go_wp2
  go_ret
  refine ⟨rfl, ?_⟩
  have hs := S.out
  rw [← HT.out] at hs
  have := fresh_below HB.out hs
  exact this
end Go.Proofs.Ytembondddgfpcaa

namespace Go.Proofs.Ytembondddgfpcaa

/-- An unarmed disk. -/
def ua (u room : Int) (s : Dir) (ws : List ChangeA) (fs : List FileA) (acts : List ActA) : ADisk := ⟨u, false, 0, false, room, s, ws, fs, acts⟩
theorem asked_ua (u room : Int) (s : Dir) (ws : List ChangeA) (fs : List FileA) (acts : List ActA) (z : ByteArray) (zr : List ByteArray) (f : Nat) (h1 : readyE false (z :: zr) = 0) (h2 : dget (dplay ws s) z.data.toList = some f) :
    asked (ua u room s ws fs acts) z zr = (f, 0) := by
  unfold asked
  have e1 : readyE (ua u room s ws fs acts).gone (z :: zr) = 0 := h1
  have e2 : dget (ua u room s ws fs acts).seen z.data.toList = some f := h2
  rw [e1, e2]; rfl
theorem write_ua (u room : Int) (s : Dir) (ws : List ChangeA) (fs : List FileA) (acts : List ActA) (z t : ByteArray) (f : Nat) (h1 : readyE false [z] = 0) (h2 : dget (dplay ws s) z.data.toList = some f) (hfree : (t.size : Int) ≤ freeD (ua u room s ws fs acts)) :
    ∃ acts', writeD (ua u room s ws fs acts) z t = (ua (u + t.size) room s ws (if 0 < t.size then modF fs f fun x => x.more (wroteA z t t.size) else fs) acts', 0) := by
  have ha := asked_ua u room s ws fs acts z [] f h1 h2
  have hsp : spent (ua u room s ws fs acts).armed (ua u room s ws fs acts).left t.size = (t.size : Int) := rfl
  unfold writeD
  rw [ha]
  dsimp only
  rw [if_neg (by simp), if_neg (by omega), hsp, Int.toNat_natCast, if_neg (Nat.lt_irrefl _)]
  by_cases ht : 0 < t.size
  · rw [if_pos ht, if_pos ht]; exact ⟨_, rfl⟩
  · rw [if_neg ht, if_neg ht]; exact ⟨acts, rfl⟩
theorem sync_ua (u room : Int) (s : Dir) (ws : List ChangeA) (fs : List FileA) (acts : List ActA) (z : ByteArray) (f : Nat) (h1 : readyE false [z] = 0) (h2 : dget (dplay ws s) z.data.toList = some f) :
    syncD (ua u room s ws fs acts) z = (ua (u + 1) room s ws (modF fs f fun x => x.kept allU) (acts ++ [⟨4, z, ⟨#[]⟩, ⟨#[]⟩, 0⟩]), 0) := by
  unfold syncD
  rw [asked_ua u room s ws fs acts z [] f h1 h2]
  rfl
theorem extract_all (t : ByteArray) : t.extract 0 t.size = t := by
  rw [← Lib.mk_data (t.extract 0 t.size), extract_take, List.take_of_length_le (by rw [← Lib.size_eq]; exact Nat.le_refl _), Lib.mk_data]
theorem kept_all {n : Nat} {x : FileA} (h : FileOk n x) (hn : n ≤ 1000000) : x.kept allU = ⟨⟨x.seen.toArray⟩, []⟩ := by
  unfold FileA.kept
  rw [afterF_all _ _ _ (by have := h.units; unfold allU; omega)]; rfl
theorem empty_of (t : ByteArray) (h : ¬ 0 < t.size) : t = ⟨#[]⟩ := by
  have e : t.data.toList = [] := List.eq_nil_of_length_eq_zero (by rw [← Lib.size_eq]; omega)
  rw [← Lib.mk_data t, e]
theorem read_ua (u room : Int) (s : Dir) (fs : List FileA) (acts : List ActA) (z : ByteArray) (f : Nat) (x : FileA) (ws : List ChangeA) (h1 : readyE false [z] = 0) (h2 : dget (dplay ws s) z.data.toList = some f) (h3 : fs[f]? = some x) :
    readR (ua u room s ws fs acts) z = (⟨x.seen.toArray⟩, 0) := by
  unfold readR
  rw [asked_ua u room s ws fs acts z [] f h1 h2]
  have e : (ua u room s ws fs acts).files[f]? = some x := h3
  dsimp only
  rw [if_neg (by show ¬ (false = true); decide), if_neg (by simp), e]
theorem free_ua (u room : Int) (s : Dir) (ws : List ChangeA) (fs : List FileA) (acts : List ActA) (k : Nat) (h : totalL (sizeAt fs) (dplay ws s) = k) : freeD (ua u room s ws fs acts) = max (room - (k : Nat)) 0 := by
  unfold freeD
  have : totalL (sizeAt (ua u room s ws fs acts).files) (ua u room s ws fs acts).seen = k := h
  rw [this]; rfl
end Go.Proofs.Ytembondddgfpcaa

namespace Go.Proofs.Ytembondddgfpcaa
open Go.RowKit Go.Maps
attribute [local go_sem] errV_0

theorem assertErr (n : Int) (w : World) : (Instr.typeAssert (.iface 31 (.int .i64 n)) 27 31 true).run Try.prog w = .ok (.tuple #[.int .i64 n, .bool true]) w := by kernel_rfl
attribute [local go_sem] assertErr
theorem errV_pos (n : Nat) (h : 0 < n) : errV n = .iface 31 (.int .i64 (n : Int)) := by unfold errV; rw [if_neg (by omega)]
set_option maxRecDepth 100000 in
set_option maxHeartbeats 1000000 in
theorem num_any (n : Nat) (hn : n ≤ 1000) (w : World) : Calls Try.prog 28 #[errV n] w fun e w' => e = .returned (.int .i64 n) ∧ w = w' := by
  by_cases h0 : n = 0
  · subst h0
    go_enter Try.func28, Try.ntmps28
    go_wp2
    refine wp_loop_rounds 1 ?_
    rw [rounds_succ]
    go_wp2
    go_ret
    exact ⟨rfl, rfl⟩
  · rw [errV_pos n (by omega)]
    have hne : ((n : Int) != 0) = true := by simp; omega
    have hne2 : ((n : Int) == 0) = false := by simp; omega
    clear h0
    go_enter Try.func28, Try.ntmps28
    go_wp2
    refine wp_loop_rounds 1 ?_
    rw [rounds_succ]
    go_wp2
    go_ret
    exact ⟨rfl, rfl⟩
end Go.Proofs.Ytembondddgfpcaa

namespace Go.Proofs.Ytembondddgfpcaa
open Go.RowKit Go.Maps
attribute [local go_sem] errV_0

section
variable {w : World} {T : Nat → Nat} {p n : Nat} {D D' : ADisk}
theorem write_to (z t : ByteArray) (E : writeD D z t = (D', 0)) (h : DiskAt w T p D) (hf : Fine n D) (hn : n ≤ 300000) (hz : z.size ≤ 1000000) (ht : t.size ≤ 1000) : Calls Try.prog 16 #[.pointer (some ⟨p, 0, none⟩), .string z, .string t] w fun e w' => e = .returned .nilIface ∧ ∃ T', DiskAt w' T' p D' ∧ Step w T w' T' := by
  have := write_any h hf (by omega) z t hz ht
  rw [E] at this; exact this
theorem sync_to (z : ByteArray) (E : syncD D z = (D', 0)) (h : DiskAt w T p D) (hf : Fine n D) (hn : n ≤ 300000) (hz : z.size ≤ 1000000) : Calls Try.prog 18 #[.pointer (some ⟨p, 0, none⟩), .string z] w fun e w' => e = .returned .nilIface ∧ ∃ T', DiskAt w' T' p D' ∧ Step w T w' T' := by
  have := sync_any h hf (by omega) z hz
  rw [E] at this; exact this
end
/-- Numbers that came in: v reads as ks wherever all that lay in W lies as it lay. -/
structure Ints (W : World) (v : Value) (ks : List Int) (ad : Addr) : Prop where
  val : ∃ ao cap, v = .slice ao ks.length cap ∧ (0 < ks.length → ao = some ad)
  cells : ∀ w', Below W.heap.size W w' → ∀ j (h : j < ks.length), w'.cell? (ad.add j) = some (.int .i64 ks[j])
  wf : ∀ k ∈ ks, (Lit.int .i64 k).wf = true
end Go.Proofs.Ytembondddgfpcaa

namespace Go.Proofs.Ytembondddgfpcaa
open Go.RowKit Go.Maps Go.ChangeShapes Go.Joins

theorem add_block (a : Addr) (i : Nat) : (a.add i).block = a.block := by unfold Addr.add; split <;> rfl
/-- A slice of numbers that came in. -/
theorem ints_in {H : Type} {enc : TypeId × Value → H} {W : World} {base : Nat} {sp : Nat → Bool} {held : Bool} {fuel : Nat} {v : Value} {x : DataW H × List MemPlace} (h : DataW.trod enc Try.prog W base sp held fuel 38 [v] = some x) :
    ∃ ks ad, Ints W v ks ad ∧ ks.length ≤ maxLen := by
  rcases open_ints Try.underlying38 Try.underlying3 (by kernel_rfl) h with ⟨e, _⟩ | ⟨a, len, cap, zs, e, _, hl, hm, hz, _, hc, hw⟩
  · obtain rfl : v = .slice none 0 0 := by simpa using e
    exact ⟨[], ⟨0, 0, none⟩, ⟨⟨none, 0, rfl, fun h => by simp at h⟩, fun _ _ j h => by simp at h, fun k hk => by cases hk⟩, Nat.zero_le _⟩
  · obtain rfl : v = .slice (some a) len cap := by simpa using e
    have hlz : len ≤ zs.length := by rw [hz]; split <;> omega
    have hlen : (zs.take len).length = len := by rw [List.length_take]; omega
    refine ⟨zs.take len, a, ⟨⟨some a, cap, by rw [hlen], fun _ => rfl⟩, fun w' hb j hj => ?_, fun k hk => hw k (List.mem_of_mem_take hk)⟩, by rw [hlen]; omega⟩
    have hjz : j < zs.length := by omega
    have h1 := hc j hjz
    have hbl : (a.add j).block < W.heap.size := World.block_lt_of_cell? W _ h1
    rw [hb.cell hbl, h1, List.getElem_take]
    simp [List.getD, hjz]
end Go.Proofs.Ytembondddgfpcaa

namespace Go.Proofs.Ytembondddgfpcaa
open Go.RowKit Go.Maps Go.ChangeShapes Go.Joins Go.WideShapes

/-- An operation. -/
structure OpV where
  kind : Int
  n : Int
  name : ByteArray
  text : ByteArray
  keep : Value
  ks : List Int
  ad : Addr
/-- What is known of one. -/
structure OpOk (W : World) (o : OpV) : Prop where
  ints : Ints W o.keep o.ks o.ad
  len : o.ks.length ≤ maxLen
  name : o.name.size ≤ maxLen
  text : o.text.size ≤ maxLen
  wk : (Lit.int .i64 o.kind).wf = true
  wn : (Lit.int .i64 o.n).wf = true
/-- An operation's cells from p on. -/
def OpCells (w : World) (o : OpV) (p : Addr) : Prop := w.cell? p = some (.int .i64 o.kind) ∧ w.cell? ⟨p.block, p.off + 1, none⟩ = some (.int .i64 o.n) ∧ w.cell? ⟨p.block, p.off + 2, none⟩ = some (.string o.name) ∧ w.cell? ⟨p.block, p.off + 3, none⟩ = some (.string o.text) ∧ w.cell? ⟨p.block, p.off + 4, none⟩ = some o.keep
/-- A slice of operations: v reads as ops wherever all that lay in W lies as it lay. -/
structure Script (W : World) (v : Value) (ops : List OpV) (a : Addr) : Prop where
  val : ∃ ao cap, v = .slice ao ops.length cap ∧ (0 < ops.length → ao = some a)
  lt : 0 < ops.length → a.block < W.heap.size
  cells : ∀ w', Below W.heap.size W w' → ∀ i (h : i < ops.length), OpCells w' ops[i] (a.add (i * 5))
  ok : ∀ o ∈ ops, OpOk W o
  len : ops.length ≤ maxLen
theorem cells5 {cs : List Value} (h : cs.length = 5) : ∃ c0 c1 c2 c3 c4, cs = [c0, c1, c2, c3, c4] := by
  match cs, h with
  | [c0, c1, c2, c3, c4], _ => exact ⟨_, _, _, _, _, rfl⟩
theorem op_in {H : Type} {enc : TypeId × Value → H} {W : World} {base : Nat} {sp : Nat → Bool} {held : Bool} {fuel : Nat} {cs : List Value} {x : DataW H × List MemPlace} (h : DataW.trod enc Try.prog W base sp held fuel 40 cs = some x) :
    ∃ o : OpV, cs = [.int .i64 o.kind, .int .i64 o.n, .string o.name, .string o.text, o.keep] ∧ OpOk W o := by
  obtain ⟨xs, m, _, _, hl, hxl, hf⟩ := DataW.trod_struct Try.underlying40 h
  have hl5 : cs.length = 5 := hl.trans (by kernel_rfl)
  obtain ⟨c0, c1, c2, c3, c4, rfl⟩ := cells5 hl5
  have k3 : Try.prog.cellsOf 3 = 1 := by kernel_rfl
  have k9 : Try.prog.cellsOf 9 = 1 := by kernel_rfl
  have k38 : Try.prog.cellsOf 38 = 1 := by kernel_rfl
  have hx : ∀ i, i < 5 → ∃ y, xs[i]? = some y := fun i hi => ⟨_, List.getElem?_eq_getElem (by rw [hxl]; exact hi)⟩
  obtain ⟨y0, e0⟩ := hx 0 (by decide)
  obtain ⟨y1, e1⟩ := hx 1 (by decide)
  obtain ⟨y2, e2⟩ := hx 2 (by decide)
  obtain ⟨y3, e3⟩ := hx 3 (by decide)
  obtain ⟨y4, e4⟩ := hx 4 (by decide)
  have q0 : DataW.trod enc Try.prog W base sp held m 3 (List.take (Try.prog.cellsOf 3) [c0, c1, c2, c3, c4]) = _ := hf 0 _ rfl
  have q1 : DataW.trod enc Try.prog W base sp held m 3 (List.take (Try.prog.cellsOf 3) [c1, c2, c3, c4]) = _ := hf 1 _ rfl
  have q2 : DataW.trod enc Try.prog W base sp held m 9 (List.take (Try.prog.cellsOf 9) [c2, c3, c4]) = _ := hf 2 _ rfl
  have q3 : DataW.trod enc Try.prog W base sp held m 9 (List.take (Try.prog.cellsOf 9) [c3, c4]) = _ := hf 3 _ rfl
  have q4 : DataW.trod enc Try.prog W base sp held m 38 (List.take (Try.prog.cellsOf 38) [c4]) = _ := hf 4 _ rfl
  rw [k3, e0] at q0
  rw [k3, e1] at q1
  rw [k9, e2] at q2
  rw [k9, e3] at q3
  rw [k38, e4] at q4
  obtain ⟨kind, f0, _, w0⟩ := DataW.trod_int Try.underlying3 q0
  obtain ⟨n, f1, _, w1⟩ := DataW.trod_int Try.underlying3 q1
  obtain ⟨name, f2, _, w2⟩ := DataW.trod_string Try.underlying9 q2
  obtain ⟨text, f3, _, w3⟩ := DataW.trod_string Try.underlying9 q3
  obtain ⟨ks, ad, hi, hkl⟩ := ints_in q4
  simp at f0 f1 f2 f3
  subst f0 f1 f2 f3
  exact ⟨⟨kind, n, name, text, c4, ks, ad⟩, rfl, ⟨hi, hkl, w2, w3, w0, w1⟩⟩
theorem script_in {H : Type} {enc : TypeId × Value → H} {W : World} {base : Nat} {sp : Nat → Bool} {held : Bool} {fuel : Nat} {v : Value} {x : DataW H × List MemPlace} (h : DataW.trod enc Try.prog W base sp held fuel 22 [v] = some x) :
    ∃ ops a, Script W v ops a := by
  rcases DataW.trod_slice Try.underlying22 h with ⟨e, _⟩ | ⟨a, len, cap, elems, rest, n, _, e, _, _, hl, hm, hlen, hel, _, _⟩
  · obtain rfl : v = .slice none 0 0 := by simpa using e
    exact ⟨[], ⟨0, 0, none⟩, ⟨none, 0, rfl, fun h => by simp at h⟩, fun h => by simp at h, fun _ _ i h => by simp at h, (fun o ho => by cases ho), Nat.zero_le _⟩
  · obtain rfl : v = .slice (some a) len cap := by simpa using e
    have k5 : Try.prog.cellsOf 40 = 5 := by kernel_rfl
    have each : ∀ i, i < len → ∃ o : OpV, OpCells W o (a.add (i * 5)) ∧ OpOk W o := by
      intro i hi
      have h1 := hel i hi
      rw [k5, List.getElem?_eq_getElem (by omega)] at h1
      obtain ⟨cs, hc, ht⟩ := Option.bind_eq_some_iff.1 h1
      obtain ⟨o, rfl, hok⟩ := op_in ht
      obtain ⟨_, _, hat⟩ := World.cells?_some hc
      exact ⟨o, ⟨hat 0 (by decide), hat 1 (by decide), hat 2 (by decide), hat 3 (by decide), hat 4 (by decide)⟩, hok⟩
    have : ∃ f : Nat → OpV, ∀ i, i < len → OpCells W (f i) (a.add (i * 5)) ∧ OpOk W (f i) := by
      refine ⟨fun i => if h : i < len then (each i h).choose else ⟨0, 0, ⟨#[]⟩, ⟨#[]⟩, .nilFunc, [], a⟩, fun i hi => ?_⟩
      simp only [dif_pos hi]
      exact (each i hi).choose_spec
    obtain ⟨f, hf⟩ := this
    have hll : ((List.range len).map f).length = len := by simp
    refine ⟨(List.range len).map f, a, ⟨some a, cap, by rw [hll], fun _ => rfl⟩, fun h => ?_, fun w' hb i hi => ?_, fun o ho => ?_, by rw [hll]; omega⟩
    · rw [hll] at h
      have h1 := (hf 0 h).1.1
      have := World.block_lt_of_cell? W _ h1
      rwa [add_block] at this
    · rw [hll] at hi
      obtain ⟨h0, h1, h2, h3, h4⟩ := (hf i hi).1
      have hlt : (a.add (i * 5)).block < W.heap.size := World.block_lt_of_cell? W _ h0
      have e : ((List.range len).map f)[i]'(by rw [hll]; exact hi) = f i := by simp
      rw [e]
      exact ⟨(hb.cell hlt).trans h0, (hb.cell (p := ⟨_, _, none⟩) hlt).trans h1, (hb.cell (p := ⟨_, _, none⟩) hlt).trans h2, (hb.cell (p := ⟨_, _, none⟩) hlt).trans h3, (hb.cell (p := ⟨_, _, none⟩) hlt).trans h4⟩
    · obtain ⟨i, hi, rfl⟩ := List.mem_map.1 ho
      exact (hf i (List.mem_range.1 hi)).2

theorem OpOk.below {W W' : World} {o : OpV} (h : OpOk W o) (hb : Below W.heap.size W W') : OpOk W' o :=
  ⟨⟨h.ints.val, fun w' h' => h.ints.cells w' (hb.trans (h'.mono hb.size)), h.ints.wf⟩, h.len, h.name, h.text, h.wk, h.wn⟩
theorem Script.below {W W' : World} {v : Value} {ops : List OpV} {a : Addr} (h : Script W v ops a) (hb : Below W.heap.size W W') : Script W' v ops a :=
  ⟨h.val, fun hl => Nat.lt_of_lt_of_le (h.lt hl) hb.size, fun w' h' => h.cells w' (hb.trans (h'.mono hb.size)), fun o ho => (h.ok o ho).below hb, h.len⟩
/-- What is short enough to be played. -/
def shortOp (o : OpV) : Prop := o.text.size ≤ 200 ∧ o.name.size ≤ 100 ∧ o.ks.length ≤ 60
def Short (ops : List OpV) : Prop := ops.length ≤ 61 ∧ ∀ i (h : i < ops.length), shortOp ops[i]
end Go.Proofs.Ytembondddgfpcaa

