/- Texts put together: RM, FM, RO, PW, PY, TF, FP. -/
import Derived.Laws.AppendOwnNone
import Derived.Deep.DeepCutAuto
import Derived.Test.YtflnlenkgbphpaaGreatDoorBaf1
import Derived.Test.YtflnlenkgbphpaaGreatDoorBaf2
import Derived.Test.YtflnlenkgbphpaaGreatDoorBaf3
import Derived.Test.YtflnlenkgbphpaaGreatDoorBaf4
import Derived.Test.YtflnlenkgbphpaaGreatDoorBaf5
import Derived.Test.YtflnlenkgbphpaaGreatDoorBaf6
import Derived.Test.YtflnlenkgbphpaaGreatDoorBaf7
import Derived.Test.YtflnlenkgbphpaaGreatDoorBaf8
import Derived.Test.YtflnlenkgbphpaaGreatDoorBaf9
import Derived.Test.YtflnlenkgbphpaaGreatDoorBaf10
import Derived.Test.YtflnlenkgbphpaaGreatDoorBaf11
set_option linter.unusedVariables false
namespace Go.Proofs.YtflnlenkgbphpaaGreatDoor
open Go.RowKit

theorem wpAny_mono {P : Program} {ops : Array Oper} {Q : Exit → Act → World → Prop} (a0 : Act) (w0 : World) (dst : Nat → Option Nat) (Pv : Nat → Value → World → Prop) (R : World → World → Prop)
    (R0 : R w0 w0) (RT : ∀ x y, R w0 x → R x y → R w0 y) (PM : ∀ i v x y, R w0 x → R x y → Pv i v x → Pv i v y)
    (hd : ∀ i o, ops[i]? = some o → o.dst = dst i) (inj : ∀ i k d, i < ops.size → k < ops.size → dst i = some d → dst k = some d → i = k) (dlt : ∀ i d, i < ops.size → dst i = some d → d < a0.tmps.size)
    (hlow : ∀ i o e, ops[i]? = some o → e ∈ o.after → Region.binds .any e = true → e.on < i)
    (step : ∀ i o a w, ops[i]? = some o → a.tmps.size = a0.tmps.size → (∀ j, (∀ k, k < ops.size → dst k ≠ some j) → a.tmps[j]? = a0.tmps[j]?) → (∀ e ∈ o.after, Region.binds .any e = true → ∀ d, dst e.on = some d → ∃ v, a.tmps[d]? = some v ∧ Pv e.on v w) → R w0 w →
      (Region.wanted o (yielded ops a.tmps) = true ∧ ∀ K : Act → World → Prop, (∀ v w', R w w' → Pv i v w' → K (a.put (dst i) v) w') → Oper.wp P o a w K Q) ∨ (Region.wanted o (yielded ops a.tmps) = false ∧ Pv i undef w))
    (RR : ∀ w, R w0 w → R w w)
    (hQ : ∀ a w, a.defers = a0.defers → a.tmps.size = a0.tmps.size → (∀ j, (∀ k, k < ops.size → dst k ≠ some j) → a.tmps[j]? = a0.tmps[j]?) → (∀ i d, i < ops.size → dst i = some d → ∃ v, a.tmps[d]? = some v ∧ Pv i v w) → R w0 w → Q .normal a w) :
    wpAny P .any ops Q ops.size (Array.replicate ops.size false) a0 w0 := by
  refine wpAny_inv (MTab a0 w0 ops.size dst Pv R) ?step ?done ops.size _ a0 _ ?start (by simp) (by unfold todo; simp)
  case start =>
    have e : ∀ i, (Array.replicate ops.size false).getD i false = false := fun i => by
      rw [Array.getD_eq_getD_getElem?, Array.getElem?_replicate]; split <;> rfl
    exact ⟨rfl, rfl, fun _ _ => rfl, (fun i d h => absurd ((e i).symm.trans h) (by decide)), R0⟩
  case done =>
    intro l a w I hl hr
    have A := all_done hl hlow hr
    exact hQ a w I.dfr I.sz I.frm (fun i d hi h => I.val i d (A i hi) h) I.wd
  case step =>
    intro l i o a w I hl ho hli he
    have hil := lt_of_getD hli
    have hi : i < ops.size := by omega
    have dep : ∀ e ∈ o.after, Region.binds .any e = true → ∀ d, dst e.on = some d → ∃ v, a.tmps[d]? = some v ∧ Pv e.on v w := fun e h1 h2 d h3 => I.val e.on d (he e h1 h2) h3
    have key : ∀ v w', R w w' → Pv i v w' → MTab a0 w0 ops.size dst Pv R (l.setIfInBounds i true) (a.put (dst i) v) w' := by
      intro v w' hR hP
      have hwd := RT w w' I.wd hR
      cases hdi : dst i with
      | none =>
        refine ⟨I.dfr, I.sz, I.frm, fun k d hk hkd => ?_, hwd⟩
        rw [getD_set l i hil] at hk
        by_cases q : k = i
        · rw [q, hdi] at hkd; cases hkd
        · rw [if_neg q] at hk
          obtain ⟨u, h1, h2⟩ := I.val k d hk hkd
          exact ⟨u, h1, PM k u w w' I.wd hR h2⟩
      | some d0 =>
        have hd0 := dlt i d0 hi hdi
        have T : ∀ j, (a.put (some d0) v).tmps[j]? = if j = d0 then some v else a.tmps[j]? := fun j => by
          show (a.tmps.setIfInBounds d0 v)[j]? = _
          rw [Array.getElem?_setIfInBounds]
          by_cases h : d0 = j
          · subst h; simp [I.sz, hd0]
          · rw [if_neg h, if_neg (Ne.symm h)]
        refine ⟨I.dfr, ?_, fun j hj => ?_, fun k d hk hkd => ?_, hwd⟩
        · show (a.tmps.setIfInBounds d0 v).size = _
          simp [I.sz]
        · rw [T, if_neg (fun e => hj i hi (by rw [hdi, e]))]; exact I.frm j hj
        · rw [T]
          rw [getD_set l i hil] at hk
          by_cases q : k = i
          · subst q
            rw [hdi] at hkd
            rw [if_pos (Option.some.inj hkd).symm]
            exact ⟨v, rfl, hP⟩
          · rw [if_neg q] at hk
            have hkl : k < ops.size := by
              rcases Nat.lt_or_ge k ops.size with z | z
              · exact z
              · rw [Array.getD_eq_getD_getElem?, Array.getElem?_eq_none (by omega)] at hk; cases hk
            rw [if_neg (fun e => q (inj k i d hkl hi hkd (by rw [hdi, e])))]
            obtain ⟨u, h1, h2⟩ := I.val k d hk hkd
            exact ⟨u, h1, PM k u w w' I.wd hR h2⟩
    unfold wpOp
    rw [ho]
    dsimp only
    rcases step i o a w ho I.sz I.frm dep I.wd with ⟨h1, h2⟩ | ⟨h1, h2⟩
    · rw [if_pos h1]
      exact .inl (h2 _ key)
    · rw [if_neg (by rw [h1]; decide), hd i o ho]
      exact key undef w (RR w I.wd) h2
end Go.Proofs.YtflnlenkgbphpaaGreatDoor

namespace Go.Proofs.YtflnlenkgbphpaaGreatDoor

theorem partsL_snoc_nl : ∀ (l : List UInt8), partsL (l ++ [10]) = partsL l ++ [[]]
  | [] => rfl
  | c :: t => by
    have ih := partsL_snoc_nl t
    rw [List.cons_append]
    unfold partsL
    rw [ih, partsL_cons t]
    split <;> simp
theorem partsL_snoc : ∀ (l : List UInt8) (c : UInt8), c ≠ 10 → ∃ pre p, partsL l = pre ++ [p] ∧ partsL (l ++ [c]) = pre ++ [p ++ [c]]
  | [], c, h => ⟨[], [], rfl, by simp [partsL, h]⟩
  | d :: t, c, h => by
    obtain ⟨pre, p, e1, e2⟩ := partsL_snoc t c h
    rw [List.cons_append]
    unfold partsL
    rw [e1, e2]
    by_cases hd : d = 10
    · rw [if_pos hd, if_pos hd]; exact ⟨[] :: pre, p, rfl, rfl⟩
    · rw [if_neg hd, if_neg hd]
      cases pre with
      | nil => exact ⟨[], d :: p, rfl, rfl⟩
      | cons q r => exact ⟨(d :: q) :: r, p, rfl, rfl⟩
end Go.Proofs.YtflnlenkgbphpaaGreatDoor

namespace Go.Proofs.YtflnlenkgbphpaaGreatDoor
open Go.RowKit Go.Shelf
attribute [local go_sem] Oper.semAt_some

section
variable {o : Oper} {a : Act} {w : World} {K : Act → World → Prop} {Q : Exit → Act → World → Prop}
theorem mo_assign {x : Operand} {v : Value} (ho : o.op = Op.assign x) (hx : a.eval x = v) (hK : K (a.put o.dst v) w) : Oper.wp Tryz.prog o a w K Q :=
  mo_run (by simp only [execOp, ho, hx]; simp [go_sem]) hK
theorem mo_not {x : Operand} {b : Bool} (ho : o.op = Op.unOp UnOp.not 4 x) (hx : a.eval x = .bool b) (hK : K (a.put o.dst (.bool (!b))) w) : Oper.wp Tryz.prog o a w K Q :=
  mo_run (by simp only [execOp, ho, hx]; simp [go_sem]) hK
theorem mo_pick {c x y : Operand} {b : Bool} {v u z : Value} (ho : o.op = Op.pick c x y) (hc : a.eval c = .bool b) (hx : a.eval x = v) (hy : a.eval y = u) (hz : z = if b = true then v else u) (hK : K (a.put o.dst z) w) : Oper.wp Tryz.prog o a w K Q := by
  subst hz
  exact mo_run (by simp only [execOp, ho, hc, hx, hy]; cases b <;> simp [go_sem]) hK
theorem mo_eqlI {x y : Operand} {m n : Int} (ho : o.op = Op.binOp BinOp.eql 3 x y 3) (hx : a.eval x = .int .i64 m) (hy : a.eval y = .int .i64 n) (hK : K (a.put o.dst (.bool (m == n))) w) : Oper.wp Tryz.prog o a w K Q :=
  mo_run (by simp only [execOp, ho, hx, hy]; simp [go_sem]) hK
theorem mo_neqI {x y : Operand} {m n : Int} (ho : o.op = Op.binOp BinOp.neq 3 x y 3) (hx : a.eval x = .int .i64 m) (hy : a.eval y = .int .i64 n) (hK : K (a.put o.dst (.bool (m != n))) w) : Oper.wp Tryz.prog o a w K Q :=
  mo_run (by simp only [execOp, ho, hx, hy]; simp [go_sem]) hK
theorem mo_eqlS {x y : Operand} {m n : ByteArray} (ho : o.op = Op.binOp BinOp.eql 9 x y 9) (hx : a.eval x = .string m) (hy : a.eval y = .string n) (hK : K (a.put o.dst (.bool (m.toList == n.toList))) w) : Oper.wp Tryz.prog o a w K Q :=
  mo_run (by simp only [execOp, ho, hx, hy]; simp [go_sem]) hK
theorem mo_neqS {x y : Operand} {m n : ByteArray} (ho : o.op = Op.binOp BinOp.neq 9 x y 9) (hx : a.eval x = .string m) (hy : a.eval y = .string n) (hK : K (a.put o.dst (.bool (m.toList != n.toList))) w) : Oper.wp Tryz.prog o a w K Q :=
  mo_run (by simp only [execOp, ho, hx, hy]; simp [go_sem, bne]) hK
theorem load_int {w : World} {b i : Nat} {n : Int} (c : w.cell? ⟨b, i, none⟩ = some (.int .i64 n)) : (Instr.loadAt 3 (.pointer (some ⟨b, i, none⟩))).run Tryz.prog w = .ok (.int .i64 n) w := by simp [go_sem, c]
theorem load_lst {w : World} {b : Nat} {u z : Value} (c0 : w.cell? ⟨b, 0, none⟩ = some u) (c1 : w.cell? ⟨b, 1, none⟩ = some z) : (Instr.loadAt 43 (.pointer (some ⟨b, 0, none⟩))).run Tryz.prog w = .ok (.agg #[u, z]) w := by simp [go_sem, c0, c1]
theorem field_lst {w : World} {b : Nat} : (Instr.fieldAt 43 (.pointer (some ⟨b, 0, none⟩)) 1).run Tryz.prog w = .ok (.pointer (some ⟨b, 1, none⟩)) w := by simp [go_sem]
end
section
variable {o : Oper} {a : Act} {w : World} {K : Act → World → Prop} {Q : Exit → Act → World → Prop} {T : Value → World → Prop}
end
end Go.Proofs.YtflnlenkgbphpaaGreatDoor

namespace Go.Proofs.YtflnlenkgbphpaaGreatDoor
open Go.RowKit Go.Shelf

set_option maxRecDepth 100000 in
set_option maxHeartbeats 4000000 in
theorem refJoin_any (its : List It) (v : Value) (w : World) (h : Its w v its) (hn : its.length ≤ 100000) (hr : ∀ it ∈ its, it.raw.length ≤ 100000) :
    Calls Tryz.prog 77 #[v] w fun e w' => e = .returned (.string (B (its.flatMap It.raw))) ∧ Below w.heap.size w w' := by
  have IT := Lib.hid h
  obtain ⟨A, cap, rfl, hle, _⟩ := h
  have HL := Lib.hid (raws_len its hr)
  have HR := Lib.hid hr
  clear hr
  go_enter Tryz.func77, Tryz.ntmps77
  go_wp2_with fail
  go_loopw [3, 4] (fun s i wr => ∃ k : Nat, k ≤ its.length ∧ i = .int .i64 k ∧ s = .string (B ((its.take k).flatMap It.raw)) ∧ Below w.heap.size w wr) (fun _ i _ => its.length - (intOf i).toNat)
  case atStart => exact ⟨0, Nat.zero_le _, rfl, rfl, Below.refl _ _⟩
  case round =>
    obtain ⟨k, hk, rfl, rfl, hb⟩ := hrel
    by_cases hlt : k < its.length
    · obtain ⟨it, hit⟩ : ∃ it, its[k]? = some it := ⟨_, List.getElem?_eq_getElem hlt⟩
      obtain ⟨b, off, cap', fa, fc, e, _, hbb, c0, c1, c2, hfl⟩ := (IT.out.below hb (Nat.le_refl _)).at_ hit
      cases e
      have hl1 := HL.out k
      have hl2 := HR.out it (List.mem_of_getElem? hit)
      have SN := Lib.hid (raws_snoc its k it hit)
      have zr := B_size it.raw
      have zp := B_size ((its.take k).flatMap It.raw)
      clear hit IT HL HR
      generalize (its.take k).flatMap It.raw = pre at *
      go_wp2_with fail
      go_roundw
      case rel => exact ⟨k + 1, hlt, by go_num, by rw [SN.out, B_append], hb⟩
      case measure => simp [intOf]; omega
    · obtain rfl : k = its.length := by omega
      rw [List.take_length]
      clear IT HL HR
      go_wp2_with fail
      go_ret
      exact ⟨rfl, hb⟩
end Go.Proofs.YtflnlenkgbphpaaGreatDoor

namespace Go.Proofs.YtflnlenkgbphpaaGreatDoor
open Go.RowKit Go.Shelf

theorem Mine.spoilt {lo n : Nat} {w w' : World} {v : Value} (h : Mine w lo v n) (hs : Spoilt lo w w') : Mine w' lo v n := by
  rcases h with h | ⟨g, cap, cur, e, h0, h1, h2, h3⟩
  · exact .inl h
  · rcases hs.same g _ h2 with k | ⟨_, c1, c2, k1, k2, k3⟩
    · exact .inr ⟨g, cap, cur, e, h0, h1, k, h3⟩
    · injection k1 with k1
      subst k1
      exact .inr ⟨g, cap, c2, e, h0, h1, k2, by omega⟩
end Go.Proofs.YtflnlenkgbphpaaGreatDoor

namespace Go.Proofs.YtflnlenkgbphpaaGreatDoor
open Go.RowKit Go.Shelf

set_option maxRecDepth 100000 in
set_option maxHeartbeats 8000000 in
theorem refApart_any (its : List It) (v : Value) (w : World) (h : Its w v its) (hn : its.length ≤ 100000) :
    Calls Tryz.prog 78 #[v] w fun e w' => ∃ u fvs, e = .returned u ∧ AccI w w' u fvs (apartL its) := by
  obtain ⟨i0, hi, hz0, hz1, hz2⟩ := info_parts infoItem
  obtain ⟨A, cap, rfl, hle, hc⟩ := h
  have HC := Lib.hid hc
  clear hc
  go_enter Tryz.func78, Tryz.ntmps78
  go_wp2_with fail
  go_loopw [3, 4] (fun u i wr => ∃ (k : Nat) (fvs : List Value), k ≤ its.length ∧ i = .int .i64 k ∧ AccI w wr u fvs (apartL (its.take k))) (fun _ i _ => its.length - (intOf i).toNat)
  case atStart => exact ⟨0, [], Nat.zero_le _, rfl, AccI.start w⟩
  case round =>
    obtain ⟨k, fvs, hk, rfl, hacc⟩ := hrel
    by_cases hlt : k < its.length
    · obtain ⟨it, hit⟩ : ∃ it, its[k]? = some it := ⟨_, List.getElem?_eq_getElem hlt⟩
      obtain ⟨b, off, fv, rfl, hbb, c0, c1, c2, hfl⟩ := HC.out k it hit
      obtain ⟨fa, fc, rfl, _, _⟩ := id hfl
      have hb := hacc.below
      have hlb := hb.size
      have al := apart_len (its.take k)
      rw [List.length_take] at al
      have SN := apart_snoc its k it hit
      have HFL := Lib.hid hfl
      have ACC := Lib.hid hacc
      have C0 := Lib.hid c0
      have C1 := Lib.hid c1
      have C2 := Lib.hid c2
      have cells : ∀ W, Below w.heap.size w W → W.cell? ⟨b, off + k * 3, none⟩ = some (.int .i64 it.kind) ∧ W.cell? ⟨b, off + k * 3 + 1, none⟩ = some (.string (B it.raw)) ∧ W.cell? ⟨b, off + k * 3 + 1 + 1, none⟩ = some (.slice fa it.fields.length fc) := fun W hW =>
        ⟨(hW.cell (p := ⟨b, off + k * 3, none⟩) hbb).trans C0.out, (hW.cell (p := ⟨b, off + k * 3 + 1, none⟩) hbb).trans C1.out, (hW.cell (p := ⟨b, off + k * 3 + 1 + 1, none⟩) hbb).trans C2.out⟩
      clear c0 c1 c2
      obtain ⟨c0, c1, c2⟩ := cells wr hb
      have CELLS := Lib.hid cells
      obtain ⟨gap, hgap⟩ : ∃ gap : Bool, (lastF false (its.take k) && it.kind != 1) = gap := ⟨_, rfl⟩
      have SN2 : Hid (apartL (its.take (k + 1)) = (apartL (its.take k) ++ if gap = true then [⟨1, [10], []⟩] else []) ++ [it]) := by
        show _ = _
        rw [SN, ← hgap]
        simp
      have PV : Hid (0 < k → ∃ jt : It, wr.cell? ⟨b, off + (k - 1) * 3, none⟩ = some (.int .i64 jt.kind) ∧ gap = (jt.kind != 1 && it.kind != 1)) := by
        intro hj
        obtain ⟨jt, hjt⟩ : ∃ jt, its[k - 1]? = some jt := ⟨_, List.getElem?_eq_getElem (by omega)⟩
        obtain ⟨b', off', fv', e, hbb', d0, _⟩ := HC.out (k - 1) jt hjt
        cases e
        refine ⟨jt, (hb.cell (p := ⟨b, off + (k - 1) * 3, none⟩) hbb').trans d0, ?_⟩
        have := lastF_at its (k - 1) jt hjt
        rw [show k - 1 + 1 = k by omega] at this
        rw [← hgap, this]
      have P0 : Hid (k = 0 → gap = false) := by
        intro h; rw [← hgap, h]; rfl
      have U := Lib.hid (show ∃ ua uc, u3 = .slice ua (apartL (its.take k)).length uc from by obtain ⟨ua, uc, h, _⟩ := own_slice hacc.row; exact ⟨ua, uc, h⟩)
      clear hacc hit hfl SN hgap cells
      generalize hap : apartL (its.take k) = ap at *
      clear hap
      have CK : Hid (wr = wr) := rfl
      go_upto_region 5 with fail
      go_cut [29] (fun c wx => c = .bool gap ∧ wx = wr)
      case first =>
        rcases Nat.eq_zero_or_pos k with h0 | h0
        · have hg := P0.out h0
          have hk0 : ¬ (0 < k) := by omega
          clear h0
          go_wp2_with fail
          go_meet
          exact ⟨by rw [hg], rfl⟩
        · obtain ⟨jt, d0, hg⟩ := PV.out h0
          cases hj : (jt.kind != 1) with
          | false =>
            rw [hj] at hg
            go_wp2_with fail
            go_meet
            exact ⟨by rw [hg]; rfl, rfl⟩
          | true =>
            rw [hj] at hg
            go_wp2_with fail
            go_meet
            exact ⟨by rw [hg]; rfl, rfl⟩
      case rest =>
        obtain ⟨rfl, rfl⟩ := hcut
        clear PV P0 HC
        obtain ⟨j, hjk⟩ : ∃ j, j = k := ⟨k, rfl⟩
        subst hjk
        cases gap with
        | false =>
          have SNH : Hid (apartL (its.take (j + 1)) = ap ++ [it]) := by
            show _ = _
            rw [SN2.out, if_neg (by decide), List.append_nil]
          clear SN2
          have HV := Lib.hid (cells_new_add wc 99 [.int .i64 it.kind, .string (B it.raw), .slice fa it.fields.length fc])
          have hrow := ACC.out.row
          have hlw := ACC.out.below.size
          go_wp2_with (at_builtin; refine wpList_append_own _ rfl _ _ 89 rfl w.heap.size 99 i0 _ 3 48 Tryz.underlying89 hi hz0 hz1 hz2 rfl (by decide) _ _ _ rfl (hrow.alloc _) ⟨wc.heap.size, 0, none⟩ 1 1 _ rfl rfl HV.out (by intro u hu; simp at hu; rcases hu with rfl | rfl | rfl <;> rfl) (by unfold maxLen; omega) (by omega) (by first | omega | (simp only [World.size_alloc]; omega) | (simp [World.setCell]; omega)) ?_)
          intro v' w5 hown' hgrow _
          have hacc5 := ACC.out.snoc HFL.out hown' _ hgrow
          obtain ⟨g', cap5, rfl⟩ := ownsRow_succ hown'
          go_wp2_with fail
          go_roundw
          case rel => exact ⟨j + 1, _, hlt, by go_num, by rw [SNH.out]; exact hacc5⟩
          case measure => simp [intOf]; omega
        | true =>
          have SNH : Hid (apartL (its.take (j + 1)) = (ap ++ [⟨1, [10], []⟩]) ++ [it]) := by
            show _ = _
            rw [SN2.out, if_pos rfl]
          clear SN2
          have HV0 := Lib.hid (cells_new_add wc 99 [.int .i64 1, .string ⟨#[10]⟩, .slice none 0 0])
          have hrow0 := ACC.out.row
          go_wp2_with (at_builtin; refine wpList_append_own _ rfl _ _ 89 rfl w.heap.size 99 i0 _ 3 48 Tryz.underlying89 hi hz0 hz1 hz2 rfl (by decide) _ _ _ rfl (hrow0.alloc _) ⟨wc.heap.size, 0, none⟩ 1 1 _ rfl rfl HV0.out (by intro u hu; simp at hu; rcases hu with rfl | rfl | rfl <;> rfl) (by unfold maxLen; omega) (by omega) (by first | omega | (simp only [World.size_alloc]; omega) | (simp [World.setCell]; omega)) ?_)
          intro v4 w4 hown4 hgrow4 _
          have hacc4 := ACC.out.snoc (it := ⟨1, [10], []⟩) (x := .slice none 0 0) ⟨none, 0, rfl, Nat.le_refl _, fun i f h => by simp at h⟩ hown4 _ hgrow4
          obtain ⟨g4, cap4, rfl⟩ := ownsRow_succ hown4
          obtain ⟨c0', c1', c2'⟩ := CELLS.out w4 hacc4.below
          have hlen4 : (ap ++ [(⟨1, [10], []⟩ : It)]).length = ap.length + 1 := by simp
          have HLEN := Lib.hid hlen4
          clear ACC hgrow4 hown4 hrow0 c0 c1 c2 HV0 hlen4
          have ACC := Lib.hid hacc4
          clear hacc4
          have HV := Lib.hid (cells_new_add w4 99 [.int .i64 it.kind, .string (B it.raw), .slice fa it.fields.length fc])
          have hrow := ACC.out.row
          rw [HLEN.out] at hrow
          have hlw := ACC.out.below.size
          go_wp2_with (at_builtin; refine wpList_append_own _ rfl _ _ 89 rfl w.heap.size 99 i0 _ 3 48 Tryz.underlying89 hi hz0 hz1 hz2 rfl (by decide) _ _ _ rfl (hrow.alloc _) ⟨w4.heap.size, 0, none⟩ 1 1 _ rfl rfl HV.out (by intro u hu; simp at hu; rcases hu with rfl | rfl | rfl <;> rfl) (by unfold maxLen; omega) (by omega) (by first | omega | (simp only [World.size_alloc]; omega) | (simp [World.setCell]; omega)) ?_)
          intro v' w5 hown' hgrow _
          have hacc5 := ACC.out.snoc HFL.out (by rw [HLEN.out]; exact hown') _ hgrow
          obtain ⟨g', cap5, rfl⟩ := ownsRow_succ hown'
          go_wp2_with fail
          go_roundw
          case rel => exact ⟨j + 1, _, hlt, by go_num, by rw [SNH.out]; exact hacc5⟩
          case measure => simp [intOf]; omega
    · obtain rfl : k = its.length := by omega
      rw [List.take_length] at hacc
      clear HC
      go_wp2_with fail
      go_ret
      exact ⟨_, fvs, rfl, hacc⟩
end Go.Proofs.YtflnlenkgbphpaaGreatDoor

namespace Go.Proofs.YtflnlenkgbphpaaGreatDoor
open Go.RowKit Go.Shelf

set_option maxRecDepth 100000 in
set_option maxHeartbeats 4000000 in
theorem refParts_any (l : List UInt8) (hl : l.length ≤ 1000000) (w : World) :
    Calls Tryz.prog 166 #[.string (B l)] w fun e w' => ∃ v, e = .returned v ∧ OwnS w' w.heap.size v ((partsL l).map B) ∧ Below w.heap.size w w' := by
  obtain ⟨i0, hi, hz0, hz1, hz2⟩ := info_parts infoStr
  have hsz := B_size l
  have hd := B_data l
  generalize B l = s at *
  have HD := Lib.hid hd
  go_enter Tryz.func166, Tryz.ntmps166
  go_wp2_with fail
  go_loopw [3, 4] (fun v i wr => ∃ k : Nat, k ≤ s.size ∧ i = .int .i64 k ∧ OwnS wr w.heap.size v ((partsL (l.take k)).map B) ∧ (partsL (l.take k)).length ≤ k + 1 ∧ Below w.heap.size w wr) (fun _ i _ => s.size - (intOf i).toNat)
  case atStart => exact ⟨0, Nat.zero_le _, rfl, OwnS.one w _ (Nat.le_refl _) _, by simp [partsL], (Below.refl _ _).alloc (Nat.le_refl _) _⟩
  case round =>
    obtain ⟨k, hk, rfl, hown, hlen, hb⟩ := hrel
    by_cases hlt : k < s.size
    · have e : l[k]? = some s[k] := by
        rw [← HD.out, List.getElem?_eq_getElem (by rw [← Lib.size_eq]; exact hlt)]; rfl
      have htk : l.take (k + 1) = l.take k ++ [s[k]] := by rw [List.take_add_one, e]; rfl
      have hex : s.extract k (k + 1) = B [s[k]] := by
        rw [← B_of (s.extract k (k + 1)), Lib.extract_data, HD.out]
        congr 1
        rw [show k + 1 - k = 1 by omega]
        have : (l.drop k)[0]? = some s[k] := by rw [List.getElem?_drop]; exact e
        cases hdl : l.drop k with
        | nil => rw [hdl] at this; simp at this
        | cons a b => rw [hdl] at this; simp at this; subst this; rfl
      have q2 := byte_eq (c := s[k]) (d := 10) 10 rfl
      have hs3 := hb.size
      have hn0 : 0 < ((partsL (l.take k)).map B).length := by rw [List.length_map]; exact List.length_pos_iff.2 (partsL_ne _)
      cases h5 : (s[k] == 10) with
      | true =>
        rw [h5] at q2
        have h10 : s[k] = 10 := by simpa using h5
        have T1 : Hid ((partsL (l.take (k + 1))).map B = (partsL (l.take k)).map B ++ [⟨#[]⟩]) := by
          show _ = _
          rw [htk, h10, partsL_snoc_nl, List.map_append]; rfl
        have T2 : Hid ((partsL (l.take (k + 1))).length = ((partsL (l.take k)).map B).length + 1) := by
          show _ = _
          rw [htk, h10, partsL_snoc_nl, List.length_append, List.length_map]; rfl
        rw [← List.length_map (f := B)] at hlen
        clear htk hex h10 e h5 hd
        generalize (partsL (l.take k)).map B = ls at *
        obtain ⟨g, cap, rfl, hg1, hg2⟩ := hown.form hn0
        have HC := Lib.hid (strCell wr ⟨#[]⟩ 9)
        have hown4 : wr.ownsRow w.heap.size 9 1 (.slice (some ⟨g, 0, none⟩) ls.length cap) ls.length (ls.map Value.string) := hown
        obtain ⟨n, hn⟩ : ∃ n, ls.length = n := ⟨_, rfl⟩
        rw [hn] at hown4 hlen hn0
        have HN := Lib.hid hn
        simp only [hn]
        clear hown hn
        go_wp2_with (at_builtin; refine wpList_append_own _ rfl _ _ 152 rfl w.heap.size 9 i0 _ 1 16 Tryz.underlying152 hi hz0 hz1 hz2 rfl (by decide) _ _ _ rfl (hown4.alloc _) ⟨wr.heap.size, 0, none⟩ 1 1 _ rfl rfl HC.out ?c2 ?c3 ?c4 ?c5 ?_)
        case c2 => intro u hu; simp at hu; subst hu; rfl
        case c3 => unfold maxLen; omega
        case c4 => omega
        case c5 => simp; omega
        intro v' w5 hown' hgrow _
        obtain ⟨g', cap', rfl⟩ := ownsRow_succ hown'
        have hb5 : Below w.heap.size w w5 := (hb.alloc (by omega) _).grown hgrow (by simp; omega) (fun j ej => (hown4.lt j ej).1)
        have hown6 := OwnS.grow (ls := ls) (y := ⟨#[]⟩) hown' HN.out
        rw [← T1.out] at hown6
        go_wp2_with fail
        go_roundw
        case rel => exact ⟨k + 1, hlt, by go_num, hown6, by rw [T2.out, HN.out]; omega, hb5⟩
        case measure => simp [intOf]; omega
      | false =>
        rw [h5] at q2
        have h10 : s[k] ≠ 10 := by simpa using h5
        obtain ⟨pre, p, p1, p2⟩ := partsL_snoc (l.take k) s[k] h10
        have hm : ((partsL (l.take k)).map B).length = pre.length + 1 := by rw [p1]; simp
        rw [p1, List.length_append] at hlen
        simp only [List.length_singleton] at hlen
        obtain ⟨g, cap, rfl, hg1, hg2⟩ := hown.form hn0
        rw [hm] at hown ⊢
        have hcell := hown.cell hm pre.length (B p) (by rw [p1, List.map_append, List.getElem?_append_right (by simp)]; simp)
        have hown4 : wr.ownsRow w.heap.size 9 1 (.slice (some ⟨g, 0, none⟩) (pre.length + 1) cap) (pre.length + 1) ((pre.map B).map Value.string ++ [.string (B p)]) := by
          have := hown
          unfold OwnS at this
          rw [hm, p1] at this
          simpa using this
        have hfz := hown4.frozenAt pre.length
        have hst := hown4.stored pre.length (.string (B p ++ B [s[k]]))
        rw [List.set_append_right _ _ (by simp)] at hst
        simp only [List.length_map, Nat.sub_self, List.set_cons_zero, B_append] at hst
        have T1 : Hid ((partsL (l.take (k + 1))).map B = pre.map B ++ [B (p ++ [s[k]])]) := by
          show _ = _
          rw [htk, p2, List.map_append]; rfl
        have T2 : Hid ((partsL (l.take (k + 1))).length = pre.length + 1) := by
          show _ = _
          rw [htk, p2, List.length_append]; rfl
        obtain ⟨hst1, hst2⟩ := hst
        have hown6 := OwnS.grow (ls := pre.map B) (y := B (p ++ [s[k]])) hst1 (by simp)
        rw [← T1.out] at hown6
        have hb6 := hb.setCell (p := ⟨g, pre.length, none⟩) hg1 (.string (B (p ++ [s[k]])))
        have HB1 := Lib.hid hown6
        have HB2 := Lib.hid hb6
        have hpre : pre.length ≤ 1000000 := by omega
        have hwr : IntKind.i64.wrap (pre.length : Int) = pre.length := IntWalk.i64_in _ (by omega)
        have hlt2 : (pre.length : Int) < (pre.length : Int) + 1 := by omega
        have hwk : IntKind.i64.wrap ((k : Int) + 1) = (k : Int) + 1 := IntWalk.i64_in _ (by omega)
        have hk1 : (k : Int) + 1 ≤ (l.length : Int) := by omega
        have hk2 : (k : Int) ≤ (k : Int) + 1 := by omega
        have hk3 : (k : Int) + 1 ≤ (s.size : Int) := by omega
        have hba := B_append p [s[k]]
        have z1 := B_size p
        have z2 := B_size [s[k]]
        have hpl : p.length ≤ 1000000 := by
          have := (parts_le (l.take k)); rw [p1] at this; simp at this; omega
        simp only [List.length_singleton] at z2
        rw [← hex] at hba z2
        clear hown hown4 hst1 hst2 hown6 hb6 p1 p2 htk e hd hm h10 hex
        have hcat : ¬ 9223372036854775807 < p.length + 1 := by omega
        generalize B (p ++ [s[k]]) = np at *
        generalize B p = bp at *
        go_wp2_with fail
        refine wp_region_still_tail 17 (by kernel_rfl) (by kernel_rfl) ?_
        simp only [List.take_succ_cons, List.take_zero, List.drop_succ_cons, List.drop_zero]
        repeat still_step
        refine wpStill_nil ?_
        change wpList _ _ _ _ _ wr.drew
        go_wp2_with fail
        go_roundw
        case rel => exact ⟨k + 1, hlt, by go_num, HB1.out, by rw [T2.out]; omega, HB2.out.drew⟩
        case measure => simp [intOf]; omega
    · obtain rfl : k = s.size := by omega
      rw [List.take_of_length_le (by omega)] at hown
      go_wp2_with fail
      go_ret
      exact ⟨_, rfl, hown, hb⟩
end Go.Proofs.YtflnlenkgbphpaaGreatDoor

