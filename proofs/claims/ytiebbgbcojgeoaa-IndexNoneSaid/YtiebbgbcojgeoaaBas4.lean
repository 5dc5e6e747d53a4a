/- Texts put together: IO, IP, IU, IV, IW, PA. -/
import Derived.Test.YtiebbgbcojgeoaaBas1
import Derived.Test.YtiebbgbcojgeoaaBas2
import Derived.Test.YtiebbgbcojgeoaaBas3
set_option linter.unusedVariables false
namespace Go.Proofs.Ytiebbgbcojgeoaa
open Go.RowKit Go.Maps Go.Sort

section
variable (w : World) {ops : Array Oper} {rest : List Oper} {o : Oper} {a : Act} {Q : Exit → Act → World → Prop}
theorem SetM.drop {w : World} {b n : Nat} {f : Int → Bool} (h : SetM w b n f) {t e : TypeId} (ht : Try.prog.underlying t = some (.map 3 e)) (id : Int) (hw : (Lit.int .i64 id).wf = true) (ty : TypeId) :
    ∃ w', (Builtin.delete_ #[t, 3] ty #[.map (some b), .int .i64 id]).run Try.prog w = .ok (.tuple #[]) w' ∧ SetM w' b n (outI id f) ∧ Only (· = b) w w' ∧ w'.heap.size = w.heap.size := by
  obtain ⟨D, ho, h1⟩ := h
  obtain ⟨w', hrun, ho', ht'⟩ := ho.drop keyI ht (Maps.keyOf_int_mk Try.underlying3 hw) ty
  refine ⟨w', hrun, ⟨_, ho', fun k => ?_⟩, (Only.refl _ w).grown ht'.grown (fun k hk => .inl (by cases hk; rfl)), ?_⟩
  · unfold outI
    by_cases q : k = id
    · subst q
      rw [Maps.has_del_same, if_pos rfl]
    · rw [Maps.has_del_other (fun e => q (by injection e)), if_neg q, h1]
  · obtain ⟨es, clock, es', clock', hb, rfl⟩ := ht'
    show (w.heap.setIfInBounds b (.map es' clock')).size = _
    exact Array.size_setIfInBounds
/-- delete of a number. -/
theorem wpList_delete_set (hg : o.guard = none) (m x : Operand) (t e : TypeId) (hop : o.op = Op.call { callee := Callee.builtin Builtin.delete, args := #[m, x], argTypes := #[t, 3] })
    (ht : Try.prog.underlying t = some (.map 3 e)) (c n : Nat) (f : Int → Bool) (id : Int) (hw : (Lit.int .i64 id).wf = true) (hm : a.eval m = .map (some c)) (hx : a.eval x = .int .i64 id) (h : SetM w c n f)
    (hK : ∀ w', SetM w' c n (outI id f) → Only (· = c) w w' → w'.heap.size = w.heap.size → wpList Try.prog ops Q rest (a.put o.dst (.tuple #[])) w') :
    wpList Try.prog ops Q (o :: rest) a w := by
  refine wpList_plain hg fun K' hK' => ?_
  obtain ⟨w', hrun, r1, r2, r3⟩ := h.drop ht id hw o.type
  unfold Oper.wp
  simp [execOp, hop, resolve, invoke, builtin, hm, hx, hrun, Result.andThen]
  exact hK' _ _ (hK w' r1 r2 r3)
end
theorem outV_none {c : Option Nat} {w : World} {T : Nat → Tag} {lo n : Nat} {k : List UInt8} {f : List UInt8 → Int → Nat} {id : Int} (h : KeyAt w T lo n k c f) (hc : c = none) : KeyAt w T lo n k c (outV id f) := by
  subst hc
  intro v i
  unfold outV
  split
  · rfl
  · exact h v i
theorem KeyAt.tagged {w : World} {T : Nat → Tag} {lo n c : Nat} {k : List UInt8} {f : List UInt8 → Int → Nat} (h : KeyAt w T lo n k (some c) f) : T c = (1, k, []) := h.1.1
set_option maxRecDepth 100000 in
set_option maxHeartbeats 4000000 in
theorem drop_in {w : World} {T : Nat → Tag} {lo x kb yb n : Nat} {ids : Int → Bool} {F : List UInt8 → List UInt8 → Int → Nat} (h : IdxAt w T lo x kb yb n ids F) (hT : ∀ c, w.heap.size ≤ c → T c = (0, [], [])) (id : Int) (hw : (Lit.int .i64 id).wf = true) (hid : ids id = true) :
    Calls Try.prog 9 #[.pointer (some ⟨x, 0, none⟩), .int .i64 id] w fun e w' => e = .returned (.bool true) ∧ IdxAt w' T lo x kb yb n (outI id ids) (outF id F) ∧ Only (OfIdx T) w w' := by
  have c0 : w.cell? ⟨x, 0, none⟩ = some (.map (some kb)) := h.base.cell.cell 0
  have lk := h.base.known.look Try.underlying64 (by kernel_rfl) id hw
  rw [hid] at lk
  have hTr : Hid (∀ c, OfIdx T c → c < w.heap.size) := fun c hc => by
    by_cases q : c < w.heap.size
    · exact q
    · unfold OfIdx at hc; rw [hT c (by omega)] at hc; exact absurd rfl hc
  have H := Lib.hid h
  have hxk : x ≠ kb := fun e => by subst e; have h1 := H.out.base.tx; rw [H.out.base.tk] at h1; cases h1
  have hyk : yb ≠ kb := fun e => by subst e; have h1 := H.out.base.ty; rw [H.out.base.tk] at h1; cases h1
  have hxy : x ≠ yb := fun e => by subst e; have h1 := H.out.base.tx; rw [H.out.base.ty] at h1; cases h1
  clear h
  go_enter Try.func9, Try.ntmps9
  have oa : Only (fun _ => False) w (w.alloc (.cells #[] 70)) := (Only.refl _ w).alloc _
  have ka := H.out.base.known.only oa (fun h => h)
  have ca : (w.alloc (.cells #[] 70)).cell? ⟨x, 0, none⟩ = some (.map (some kb)) := (H.out.base.cell.alloc _).cell 0
  have HOA := Lib.hid oa
  clear oa
  go_wp2_with (first
    | (at_delete; refine wpList_delete_set _ rfl _ _ 64 70 rfl Try.underlying64 kb n ids id hw rfl rfl ka ?_; intro w2 hk2 ho2 hz2
       have HO2 := Lib.hid (HOA.out.mono (S' := (· = kb)) (fun _ _ e => e.elim) |>.trans ho2 (fun _ _ e => e))
       obtain ⟨hbase, g, hg, hkeys⟩ := H.out
       have hb2 : IdxB w2 T lo x kb yb n (outI id ids) := ⟨hbase.tx, hbase.tk, hbase.ty, hbase.lx, hbase.lk, hbase.ly, Nat.lt_of_lt_of_le hbase.lt HO2.out.size, hbase.cell.only HO2.out hxk, hk2⟩
       have c1 : w2.cell? ⟨x, 1, none⟩ = some (.map (some yb)) := hb2.cell.cell 1
       obtain ⟨D, hown, hrd⟩ := (hg.only HO2.out hyk).reads
       have hne : ∀ c, (T c).1 ≠ 4 → c ≠ kb := fun c hc e => hc (by rw [e, hbase.tk])
       have HK2 := Lib.hid (fun k => (hkeys k).turn HO2.out (fun _ _ => rfl) (fun c hc => hne c (by have := hc.idx; omega)))
       have HB2 := Lib.hid hb2
       have HRD := Lib.hid hrd
       have hsz2 : Hid (w2.heap.size = w.heap.size + 1) := by show w2.heap.size = _; rw [hz2]; simp
       clear hg hkeys hbase hb2 hrd hk2 ho2 hz2 ka ca hne)
    | (at_range; refine wpList_range_own _ rfl _ 65 rfl 9 73 keyS Try.underlying65 _ yb n _ rfl hown ?_; intro w0 hrg0 hg0 hs0))
  have HT2 : Hid (∀ c, w.heap.size ≤ c → T c = (0, [], [])) := hT
  replace hsz2 := hsz2.out
  go_frame
  rw [hsz2] at hrg0 ⊢
  go_loopw [32] (fun _ wr => ∃ (left : Lit → Bool) (cnt : Nat) (D' : DataW Unit) (g' : List UInt8 → Option Nat), wr.ranges Try.prog 9 refElem yb (w.heap.size + 1) n D' left cnt ∧ ReadsR D' g' ∧ IdxB wr T lo x kb yb n (outI id ids) ∧
      (∀ v, (left (.string v) = true ∧ g' v = g v ∧ KeyAt wr T lo n v (g v) (F v)) ∨ (left (.string v) = false ∧ KeyAt wr T lo n v (g' v) (outV id (F v)))) ∧ Only (OfIdx T) w wr) (fun _ wr => wr.rangeLeft yb (w.heap.size + 1))
  case atStart =>
    have o1 : Only (fun _ => False) w2 w0 := (Only.refl _ w2).grown hg0 (fun k hk => by cases hk)
    refine ⟨_, _, D, g, hrg0, HRD.out, HB2.out.turn o1 (fun _ _ => rfl) (fun _ _ h => h) (Nat.le_refl _), fun v => ?_, (HO2.out.mono (fun r _ e => by subst e; unfold OfIdx; rw [HB2.out.tk]; decide)).trans o1 (fun _ _ e => e.elim)⟩
    have hv := (HK2.out v).turn o1 (fun _ _ => rfl) (fun _ _ h => h)
    cases hh : has D (.string v) with
    | true => exact .inl ⟨rfl, rfl, hv⟩
    | false =>
      have hgv : g v = none := by
        have := HRD.out.1 v
        rw [hh] at this
        cases hg : g v with
        | none => rfl
        | some c => rw [hg] at this; cases this
      exact .inr ⟨rfl, outV_none hv hgv⟩
  case round =>
    obtain ⟨left, cnt, D', g', hrg, hrd, hib, hall, ho⟩ := hrel
    have HO := Lib.hid ho
    have HA := Lib.hid hall
    have HD := Lib.hid hrd
    have HIB := Lib.hid hib
    clear ho hall hib
    go_wp2_with (at_next; refine wpList_next_sr _ rfl _ rfl yb (w.heap.size + 1) n _ _ _ rfl hrg hrd ?_ ?_)
    · intro _ hl0
      have HL := Lib.hid hl0
      clear hl0
      go_wp2_with fail
      go_ret
      refine ⟨rfl, ⟨HIB.out, g', HD.out.ref hrg.owns, fun v => ?_⟩, HO.out⟩
      rcases HA.out v with ⟨e, _⟩ | ⟨_, e⟩
      · rw [HL.out] at e; cases e
      · exact e
    · intro s c w1 cnt1 hs hl hgs hrg1 hlt hg1 hs1 hen
      have hsv : g s = some c ∧ KeyAt wr T lo n s (some c) (F s) := by
        rcases HA.out s with ⟨_, e1, e2⟩ | ⟨e, _⟩
        · rw [← e1] at e2; rw [hgs] at e1 e2; exact ⟨e1.symm, e2⟩
        · rw [hl] at e; cases e
      obtain ⟨hgs0, hks⟩ := hsv
      have o1 : Only (· = w.heap.size + 1) wr w1 := (Only.refl _ wr).grown hg1 (fun k hk => by cases hk; exact .inl rfl)
      have TR : ∀ c, OfIdx T c → c ≠ w.heap.size + 1 := fun c hc e => by have := hTr.out c hc; omega
      have hks1 := hks.turn o1 (fun _ _ => rfl) (fun c hc => TR c hc.of)
      have HIB1 := Lib.hid (HIB.out.turn o1 (fun _ _ => rfl) (fun c hc => TR c (by unfold OfIdx; omega)) (Nat.le_refl _))
      have hsw1 : w.heap.size ≤ w1.heap.size := Nat.le_trans HO.out.size o1.size
      have VD := Lib.hid (vdrop_any hks1.1 (fun c hc => HT2.out c (Nat.le_trans hsw1 hc)) id hw)
      have HO1 := Lib.hid o1
      have HS := Lib.hid (And.intro hl (And.intro hgs hgs0))
      have HTR := Lib.hid TR
      have HTC := Lib.hid hks.tagged
      clear o1 hl hgs hgs0 hs1 hks hks1 TR hsw1
      go_wp2_with fail
      refine VD.out.mono ?_
      rintro e w2 ⟨rfl, hv, ho2⟩
      have o2x : Only (OfKey T s) w1 w2 := ho2
      obtain ⟨m, hlen, hm⟩ : ∃ m : Nat, (∀ ty, (Builtin.len_ #[73] ty #[.map (some c)]).run Try.prog w2 = .ok (.int .i64 (m : Nat)) w2) ∧ (m = 0 ↔ ∀ v i, outV id (F s) v i = 0) := by
        obtain ⟨_, _, gg, q1, q2⟩ := hv
        obtain ⟨m, hlen, hm⟩ := q1.len Try.underlying73
        refine ⟨m, hlen, hm.trans ⟨fun h v i => ?_, fun h v => ?_⟩⟩
        · have := q2 v; rw [h v] at this; exact this i
        · have := q2 v
          cases hgg : gg v with
          | none => rfl
          | some d => rw [hgg] at this; obtain ⟨_, _, _, i, hi⟩ := this; rw [h v i] at hi; omega
      have b2 := HIB1.out.turn o2x (fun _ _ => rfl) (fun c hc e => by have := e.idx; omega) (Nat.le_refl _)
      have x1 : w2.cell? ⟨x, 1, none⟩ = some (.map (some yb)) := b2.cell.cell 1
      have HB := Lib.hid b2
      have nk : ∀ c, OfKey T s c → c ≠ yb := fun c hc e => by have h1 := hc.idx; rw [e, HB.out.ty] at h1; revert h1; decide
      have hrg2 : w2.ranges Try.prog 9 refElem yb (w.heap.size + 1) n D' (fun z => left z && !z.sameKey (.string s)) cnt1 := by
        obtain ⟨es, clock, since, seen, c0, q1, F, hs, hD, q2, rest⟩ := hrg1
        have l1 := (Array.getElem?_eq_some_iff.1 q1).1
        have l2 := (Array.getElem?_eq_some_iff.1 q2).1
        exact ⟨es, clock, since, seen, c0, (o2x.same yb l1 (fun e => nk _ e rfl)).trans q1, F, hs, hD, (o2x.same _ l2 (fun e => HTR.out _ e.of rfl)).trans q2, rest⟩
      have HW2 := Lib.hid (And.intro hv o2x)
      have HM := Lib.hid hm
      clear hv ho2 o2x hm b2 VD nk
      have OTH : Hid (∀ w3, Only (· = yb) w2 w3 → (∀ v, v ≠ s → (left (.string v) = true ∧ g' v = g v ∧ KeyAt w3 T lo n v (g v) (F v)) ∨ (left (.string v) = false ∧ KeyAt w3 T lo n v (g' v) (outV id (F v)))) ∧ Only (OfIdx T) w w3 ∧ IdxB w3 T lo x kb yb n (outI id ids)) := fun w3 o3 => by
        have ny : ∀ v c, OfKey T v c → ¬ c = yb := fun v c hc e => by have h1 := hc.idx; rw [e, HB.out.ty] at h1; revert h1; decide
        have tr : ∀ v, v ≠ s → ∀ q ff, KeyAt wr T lo n v q ff → KeyAt w3 T lo n v q ff := fun v hv q ff hh => by
          have a1 := hh.turn HO1.out (fun _ _ => rfl) (fun c hc => HTR.out c hc.of)
          have a2 := a1.turn HW2.out.2 (fun _ _ => rfl) (fun d hd e => hv (hd.ne e))
          exact a2.turn o3 (fun _ _ => rfl) (fun d hd => ny v d hd)
        refine ⟨fun v hv => ?_, ((HO.out.trans HO1.out (fun r hr e => by omega)).trans HW2.out.2 (fun r hr e => e.of)).trans o3 (fun r hr e => by subst e; unfold OfIdx; rw [HB.out.ty]; decide), HB.out.turn o3 (fun _ _ => rfl) (fun c hc e => by subst e; have h1 := HB.out.ty; rw [h1] at hc; revert hc; decide) (Nat.le_refl _)⟩
        rcases HA.out v with ⟨e1, e2, e3⟩ | ⟨e1, e2⟩
        · exact .inl ⟨e1, e2, tr v hv _ _ e3⟩
        · exact .inr ⟨e1, tr v hv _ _ e2⟩
      have STK : Hid (∀ v, (fun z : Lit => left z && !z.sameKey (.string s)) (.string v) = (left (.string v) && !decide (v = s))) := fun v => strike
      by_cases hz : m = 0
      · subst hz
        go_wp2_with (at_delete; refine wpList_delete_ranges _ rfl _ _ 65 9 rfl 73 keyS Try.underlying65 refElem yb (w.heap.size + 1) n _ _ _ rfl hrg2 _ (.string s) rfl (Go.WideMaps.keyOf_string_mk Try.underlying9 (s := B s) (by rw [B_size]; exact hs)) ?_; intro w3 cnt3 hrg3 hle hturn; go_frame)
        rw [strike_twice] at hrg3
        have o3 : Only (· = yb) w2 w3 := (Only.refl _ w2).grown hturn.grown (fun j hj => by cases hj; exact .inl rfl)
        obtain ⟨p1, p2, p3⟩ := OTH.out w3 o3
        go_roundw
        case rel =>
          refine ⟨_, cnt3, _, _, hrg3, HD.out.del s, p3, fun v => ?_, p2⟩
          rw [STK.out v]
          by_cases hv : v = s
          · subst hv
            rw [if_pos rfl]
            exact .inr ⟨by simp, HM.out.1 (by first | exact rfl | trivial)⟩
          · rw [if_neg hv]
            have := p1 v hv
            simpa [hv] using this
        case measure => rw [hrg3.left_eq, hrg.left_eq]; omega
      · obtain ⟨m, rfl⟩ : ∃ q, m = q + 1 := ⟨m - 1, by omega⟩
        go_wp2_with fail
        obtain ⟨p1, p2, p3⟩ := OTH.out w2 (Only.refl _ _)
        go_roundw
        case rel =>
          refine ⟨_, cnt1, _, _, hrg2, HD.out, p3, fun v => ?_, p2⟩
          rw [STK.out v]
          by_cases hv : v = s
          · subst hv
            refine .inr ⟨by simp, ?_⟩
            rw [HS.out.2.1]
            refine ⟨HW2.out.1, ?_⟩
            have := fun e => hz (HM.out.2 e)
            exact Classical.byContradiction fun hn => this fun u i => by
              have : ¬ 0 < outV id (F v) u i := fun e => hn ⟨u, i, e⟩
              omega
          · have := p1 v hv
            simpa [hv] using this
        case measure => rw [hrg2.left_eq, hrg.left_eq]; exact hlt
end Go.Proofs.Ytiebbgbcojgeoaa

namespace Go.Proofs.Ytiebbgbcojgeoaa
open Go.RowKit Go.Maps Go.Sort

/-- Blocks that are still to come have no tag. -/
def bareT (T : Nat → Tag) (n : Nat) : Nat → Tag := fun c => if c < n then T c else (0, [], [])
theorem bareT_lt {T : Nat → Tag} {n c : Nat} (h : c < n) : bareT T n c = T c := if_pos h
theorem bareT_ge {T : Nat → Tag} {n c : Nat} (h : n ≤ c) : bareT T n c = (0, [], []) := if_neg (by omega)
theorem IdxAt.bareT {w : World} {T : Nat → Tag} {lo x kb yb n : Nat} {ids : Int → Bool} {F : List UInt8 → List UInt8 → Int → Nat} (h : IdxAt w T lo x kb yb n ids F) : IdxAt w (bareT T w.heap.size) lo x kb yb n ids F :=
  h.turn (Only.refl (fun _ => False) w) (fun _ h => bareT_lt h) (fun _ _ h => h)
theorem only_bare {w w' : World} {T : Nat → Tag} (h : Only (OfIdx (bareT T w.heap.size)) w w') : Only (OfIdx T) w w' := h.mono fun r hr e => by unfold OfIdx at e ⊢; rwa [bareT_lt hr] at e
theorem drop_any {w : World} {T : Nat → Tag} {lo x kb yb n : Nat} {ids : Int → Bool} {F : List UInt8 → List UInt8 → Int → Nat} (h : IdxAt w T lo x kb yb n ids F) (id : Int) (hw : (Lit.int .i64 id).wf = true) (h0 : ids id = false → ∀ k v, F k v id = 0) :
    Calls Try.prog 9 #[.pointer (some ⟨x, 0, none⟩), .int .i64 id] w fun e w' => e = .returned (.bool (ids id)) ∧ ∃ T', (∀ c, c < w.heap.size → T' c = T c) ∧ IdxAt w' T' lo x kb yb n (outI id ids) (outF id F) ∧ Only (OfIdx T) w w' := by
  cases hi : ids id with
  | true =>
    refine (drop_in h.bareT (fun c hc => bareT_ge hc) id hw hi).mono ?_
    rintro e w' ⟨rfl, h1, h2⟩
    exact ⟨rfl, _, fun c hc => bareT_lt hc, h1, only_bare h2⟩
  | false =>
    refine (drop_out h id hw hi).mono ?_
    rintro e w' ⟨rfl, h1⟩
    rw [outI_none id ids hi, outF_none id F (h0 hi)]
    exact ⟨rfl, T, fun _ _ => rfl, h.turn h1 (fun _ _ => rfl) (fun _ _ h => h), h1.mono fun _ _ e => e.elim⟩
set_option maxRecDepth 100000 in
set_option maxHeartbeats 1000000 in
/-- Put, of whatever stanza. -/
theorem put_any {w : World} {T : Nat → Tag} {lo x kb yb n : Nat} {ids : Int → Bool} {F : List UInt8 → List UInt8 → Int → Nat} (h : IdxAt w T lo x kb yb n ids F) (id : Int) (hw : (Lit.int .i64 id).wf = true) (h1 : 1 ≤ id) (v : Value) (fs : List (List UInt8 × List UInt8)) (hF : ∀ W, Only (OfIdx T) w W → Flds W v fs) (hn : n + 2 * fs.length ≤ 900000) (h0 : ids id = false → ∀ k v, F k v id = 0)
    (hf : ∀ f ∈ fs, f.1.length ≤ maxLen ∧ f.2.length ≤ maxLen) (hlo : lo ≤ w.heap.size) :
    Calls Try.prog 11 #[.pointer (some ⟨x, 0, none⟩), .int .i64 id, v] w fun e w' => e = .returned .nilIface ∧
      ∃ T', (∀ c, c < w.heap.size → T' c = T c) ∧ IdxAt w' T' lo x kb yb (n + 1 + 2 * fs.length) (fun i => if i = id then true else outI id ids i) (addFs id (outF id F) fs) ∧ Only (OfIdx T) w w' := by
  have DO := Lib.hid (drop_any h id hw h0)
  have KN : Hid (∀ w1 T1, (∀ c, c < w.heap.size → T1 c = T c) → IdxAt w1 T1 lo x kb yb n (outI id ids) (outF id F) → Only (OfIdx T) w w1 → Calls Try.prog 30 #[.pointer (some ⟨x, 0, none⟩), .int .i64 id, v] w1 fun e w' => e = .returned (.tuple #[]) ∧
      ∃ T', (∀ c, c < w.heap.size → T' c = T c) ∧ IdxAt w' T' lo x kb yb (n + 1 + 2 * fs.length) (fun i => if i = id then true else outI id ids i) (addFs id (outF id F) fs) ∧ Only (OfIdx T) w w') := fun w1 T1 ht hi o1 => by
    have tr : ∀ W, Only (OfIdx T1) w1 W → Only (OfIdx T) w W := fun W hW => o1.trans hW fun r hr e => by unfold OfIdx at e ⊢; rwa [ht r hr] at e
    refine (know_any hi id hw v fs (fun W hW => hF W (tr W hW)) hn (fun k v => if_pos rfl) hf (Nat.le_trans hlo o1.size)).mono ?_
    rintro e w' ⟨rfl, T', ht', hi', ho⟩
    exact ⟨rfl, T', fun c hc => (ht' c (Nat.lt_of_lt_of_le hc o1.size)).trans (ht c hc), hi', tr _ ho⟩
  obtain ⟨A, cap, rfl, _⟩ := hF w (Only.refl _ _)
  clear h hF
  go_enter Try.func11, Try.ntmps11
  go_wp2_with fail
  refine DO.out.mono ?_
  rintro e w1 ⟨rfl, T1, ht, hi, o1⟩
  have K1 := Lib.hid (KN.out w1 T1 ht hi o1)
  clear hi ht o1
  go_wp2_with fail
  refine K1.out.mono ?_
  rintro e w2 ⟨rfl, T', ht, hi, ho⟩
  have HI := Lib.hid hi
  clear hi
  go_wp2_with fail
  go_ret
  exact ⟨rfl, T', ht, HI.out, ho⟩
set_option maxRecDepth 100000 in
set_option maxHeartbeats 1000000 in
/-- Len: how many numbers are known. -/
theorem len_idx {w : World} {T : Nat → Tag} {lo x kb yb n : Nat} {ids : Int → Bool} {F : List UInt8 → List UInt8 → Int → Nat} (h : IdxAt w T lo x kb yb n ids F) (hn : n ≤ 1000000) :
    Calls Try.prog 25 #[.pointer (some ⟨x, 0, none⟩)] w fun e w' => ∃ ss : List Int, e = .returned (.int .i64 (ss.length : Nat)) ∧ ss.Nodup ∧ (∀ i, i ∈ ss ↔ ids i = true) ∧ w' = w := by
  have c0 : w.cell? ⟨x, 0, none⟩ = some (.map (some kb)) := h.base.cell.cell 0
  obtain ⟨D, ho, h1⟩ := h.base.known
  have hlen := fun ty => ho.len Try.underlying64 ty
  obtain ⟨es, hD, hp, _⟩ := ho.entries keyI
  obtain ⟨es', hD', hko⟩ := ho.keysOf
  obtain rfl : es = es' := by rw [hD] at hD'; simpa using hD'
  have hk : ∀ p ∈ es, ∃ x, p.1 = .int .i64 x := fun p hp => by obtain ⟨v, hv⟩ := hko p hp; obtain ⟨x, _, hx, _⟩ := Maps.keyOf_i64 Try.underlying3 hv; exact ⟨x, hx⟩
  have HS : Hid (∃ ss : List Int, Maps.size D = ss.length ∧ ss.Nodup ∧ ∀ i, i ∈ ss ↔ ids i = true) := by
    refine ⟨es.map fun p => Go.intOf p.1, by rw [hD, size_eq, List.length_map], ?_, fun i => ?_⟩
    · refine List.pairwise_map.2 (hp.imp_of_mem fun {p q} hp' hq' hne e => hne ?_)
      obtain ⟨a, ha⟩ := hk p hp'
      obtain ⟨b, hb⟩ := hk q hq'
      rw [ha, hb] at e ⊢
      exact congrArg _ e
    · rw [← h1 i, hD, has_eq, List.any_eq_true, List.mem_map]
      constructor
      · rintro ⟨p, hp', rfl⟩
        obtain ⟨a, ha⟩ := hk p hp'
        exact ⟨p, hp', by rw [ha]; simp [Lit.sameKey, Go.intOf]⟩
      · rintro ⟨p, hp', hs⟩
        obtain ⟨a, ha⟩ := hk p hp'
        rw [ha] at hs
        exact ⟨p, hp', by rw [ha]; simpa [Lit.sameKey, Go.intOf] using hs⟩
  clear hp hD hD' hko hk h1
  go_enter Try.func25, Try.ntmps25
  go_wp2_with fail
  go_ret
  obtain ⟨ss, q1, q2, q3⟩ := HS.out
  exact ⟨ss, by rw [q1]; rfl, q2, q3, rfl⟩
end Go.Proofs.Ytiebbgbcojgeoaa

namespace Go.Proofs.Ytiebbgbcojgeoaa
open Go.RowKit Go.Maps Go.Sort Go.Shelf

/-- A slice of numbers, readable. -/
def Nums (w : World) (v : Value) (zs : List Int) : Prop :=
  ∃ A cap, v = .slice A zs.length cap ∧ zs.length ≤ cap ∧ ∀ k z, zs[k]? = some z → ∃ b off, A = some ⟨b, off, none⟩ ∧ b < w.heap.size ∧ w.cell? ⟨b, off + k, none⟩ = some (.int .i64 z)
theorem Nums.below {w w' : World} {v : Value} {zs : List Int} {n : Nat} (h : Nums w v zs) (hb : Below n w w') (hn : w.heap.size ≤ n) : Nums w' v zs := by
  obtain ⟨A, cap, e, hle, hc⟩ := h
  refine ⟨A, cap, e, hle, fun k z hk => ?_⟩
  obtain ⟨b, off, e, hbl, c⟩ := hc k z hk
  exact ⟨b, off, e, Nat.lt_of_lt_of_le hbl hb.size, (hb.cell (p := ⟨b, off + k, none⟩) (Nat.lt_of_lt_of_le hbl hn)).trans c⟩
theorem Nums.row {w : World} {base : Nat} {v : Value} {zs : List Int} (h : w.ownsRow base 3 1 v zs.length (zs.map encZ)) : Nums w v zs := by
  obtain ⟨A, cap, rfl, hle⟩ := row_sliceZ h
  refine ⟨A, cap, rfl, hle, fun k z hk => ?_⟩
  obtain ⟨b, c, e⟩ := Joins.ownsRow_form h (List.length_pos_of_mem (List.mem_of_getElem? hk))
  have e2 := e
  cases e2
  have h1 := h.lt b rfl
  refine ⟨b, 0, rfl, h1.2, ?_⟩
  have hk2 : k < zs.length := (List.getElem?_eq_some_iff.1 hk).1
  have := World.ownsRow.cellAt h k (by omega)
  rw [Nat.zero_add, this]
  simp [hk, encZ]
theorem AnsI.nums {w w' : World} {v : Value} {ss : List Int} (h : AnsI w w' v ss) : Nums w' v (sortZ ss) := by
  have h1 := h.1
  have e : ss.length = (sortZ ss).length := (sortZ_perm ss).length_eq.symm
  rw [e] at h1
  exact Nums.row h1
def sortS (ss : List (List UInt8)) : List (List UInt8) := ss.mergeSort fun x y => decide (x ≤ y)
theorem sortS_perm (ss : List (List UInt8)) : (sortS ss).Perm ss := List.mergeSort_perm _ _
theorem sortS_le (xs : List (List UInt8)) : (sortS xs).Pairwise fun x y => x ≤ y := by
  have := List.pairwise_mergeSort (le := fun x y : List UInt8 => decide (x ≤ y)) (fun a b c h1 h2 => by simp at h1 h2 ⊢; exact List.le_trans h1 h2) (fun a b => by simp; exact List.le_total a b) xs
  exact this.imp fun h => by simpa using h
theorem sortS_same {xs : List (List UInt8)} (h : xs.Pairwise fun x y => x ≤ y) : sortS xs = xs := List.mergeSort_of_pairwise (h.imp fun h => by simpa using h)
theorem sortS_eq {xs ys : List (List UInt8)} (h : xs.Perm ys) : sortS xs = sortS ys :=
  List.Perm.eq_of_pairwise (le := fun x y : List UInt8 => x ≤ y) (fun a b _ _ h1 h2 => List.le_antisymm h1 h2) (sortS_le xs) (sortS_le ys) (((sortS_perm xs).trans h).trans (sortS_perm ys).symm)
theorem strs_row {w : World} {base : Nat} {v : Value} {ss : List (List UInt8)} (h : w.ownsRow base 9 1 v ss.length (ss.map encStr)) : Strs w v (ss.map B) := by
  obtain ⟨A, cap, rfl, hle⟩ := row_sliceZ h
  refine ⟨A, cap, by rw [List.length_map], by rw [List.length_map]; exact hle, fun k z hk => ?_⟩
  rw [List.getElem?_map] at hk
  cases hs : ss[k]? with
  | none => rw [hs] at hk; cases hk
  | some s =>
    rw [hs] at hk
    cases hk
    obtain ⟨b, c, e⟩ := Joins.ownsRow_form h (List.length_pos_of_mem (List.mem_of_getElem? hs))
    have e2 := e
    cases e2
    have h1 := h.lt b rfl
    refine ⟨b, 0, rfl, h1.2, ?_⟩
    have hk2 : k < ss.length := (List.getElem?_eq_some_iff.1 hs).1
    have := World.ownsRow.cellAt h k (by omega)
    rw [Nat.zero_add, this]
    simp [hs, encStr, B]
theorem AnsS.strs {w w' : World} {v : Value} {ss : List (List UInt8)} (h : AnsS w w' v ss) : Strs w' v ((sortS ss).map B) := by
  have h1 := h.1
  have e : ss.length = (sortS ss).length := (sortS_perm ss).length_eq.symm
  rw [e] at h1
  exact strs_row h1
set_option maxRecDepth 100000 in
set_option maxHeartbeats 2000000 in
theorem ints_any (v v' : Value) (ss zs : List Int) (w : World) (h : Nums w v ss) (h' : Nums w v' zs) (hl : ss.length ≤ 10000000000000) (hl' : zs.length ≤ 10000000000000) :
    Calls Try.prog 26 #[v, v'] w fun e w' => e = .returned (.bool (decide (ss = zs))) ∧ Below w.heap.size w w' := by
  obtain ⟨A, cap, rfl, hle, hc⟩ := h
  obtain ⟨A', cap', rfl, hle', hc'⟩ := h'
  by_cases hne : ss.length = zs.length
  · go_enter Try.func26, Try.ntmps26
    go_wp2
    go_loopw [13] (fun i wr => ∃ k : Nat, k ≤ ss.length ∧ i = .int .i64 k ∧ (ss.take k = zs.take k) ∧ Below w.heap.size w wr) (fun i _ => ss.length - (intOf i).toNat)
    case atStart => exact ⟨0, Nat.zero_le _, rfl, rfl, Below.refl _ _⟩
    case round =>
      obtain ⟨k, hk, rfl, he, hbl⟩ := hrel
      by_cases hlt : k < ss.length
      · obtain ⟨x, e1⟩ : ∃ x, ss[k]? = some x := ⟨_, List.getElem?_eq_getElem hlt⟩
        obtain ⟨y, e2⟩ : ∃ y, zs[k]? = some y := ⟨_, List.getElem?_eq_getElem (by omega)⟩
        obtain ⟨b, off, rfl, hb, c1⟩ := hc k _ e1
        obtain ⟨b', off', rfl, hb', c2⟩ := hc' k _ e2
        replace c1 := (hbl.cell (p := ⟨b, off + k, none⟩) hb).trans c1
        replace c2 := (hbl.cell (p := ⟨b', off' + k, none⟩) hb').trans c2
        have E := Lib.hid he
        have T1 : Hid (ss.take (k + 1) = ss.take k ++ [x]) := by show _ = _; rw [List.take_add_one, e1]; rfl
        have T2 : Hid (zs.take (k + 1) = zs.take k ++ [y]) := by show _ = _; rw [List.take_add_one, e2]; rfl
        have F := Lib.hid (show x ≠ y → ss ≠ zs from fun hn hs => by subst hs; rw [e1] at e2; exact hn (Option.some.inj e2))
        have hz : k < zs.length := by omega
        clear hc hc' e1 e2 he
        by_cases hxy : x = y
        · subst hxy
          go_wp2_with (go_quiet (fail))
          go_roundw
          case rel => exact ⟨k + 1, hlt, by go_num, by rw [T1.out, T2.out, E.out], drewN_below hbl _⟩
          case measure => simp [intOf]; omega
        · have F2 := Lib.hid (F.out hxy)
          clear F
          have hx4 : (x != y) = true := by simpa using hxy
          go_wp2_with (go_quiet (fail))
          go_ret
          exact ⟨by simp [F2.out], drewN_below hbl _⟩
      · obtain rfl : k = ss.length := by omega
        rw [List.take_of_length_le (Nat.le_refl _), List.take_of_length_le (by omega)] at he
        clear hc hc'
        go_wp2
        go_ret
        exact ⟨by simp [he], hbl⟩
  · have hn : ¬ ((ss.length : Int) = zs.length) := by omega
    have F := Lib.hid (show ss ≠ zs from fun hs => by subst hs; exact hne rfl)
    clear hc hc' hne
    go_enter Try.func26, Try.ntmps26
    go_wp2
    go_ret
    exact ⟨by simp [F.out], Below.refl _ _⟩
/-- The stanzas without one; with one more. -/
def dropZ (rs : List Sz) (id : Int) : List Sz := rs.filter fun s => decide (s.1 ≠ id)
def putZ (rs : List Sz) (id : Int) (fs : List (List UInt8 × List UInt8)) : List Sz := dropZ rs id ++ [(id, fs)]
theorem ids_drop (rs : List Sz) (id : Int) : outI id (idsOf rs) = idsOf (dropZ rs id) := by
  funext i
  rw [Bool.eq_iff_iff, idsOf_iff]
  unfold outI dropZ
  rw [List.mem_map]
  by_cases e : i = id
  · rw [if_pos e]
    exact ⟨fun h => (by cases h), fun ⟨s, h1, h2⟩ => by have := (List.mem_filter.1 h1).2; simp at this; exact absurd (h2.trans e) this⟩
  · rw [if_neg e, idsOf_iff, List.mem_map]
    exact ⟨fun ⟨s, h1, h2⟩ => ⟨s, List.mem_filter.2 ⟨h1, by simp; intro q; exact e (h2.symm.trans q)⟩, h2⟩, fun ⟨s, h1, h2⟩ => ⟨s, (List.mem_filter.1 h1).1, h2⟩⟩
theorem f_drop : ∀ (rs : List Sz) (id : Int), outF id (fOf rs) = fOf (dropZ rs id)
  | [], id => by funext k v i; unfold outF dropZ; split <;> rfl
  | s :: r, id => by
    have ih := f_drop r id
    funext k v i
    have h := congrFun (congrFun (congrFun ih k) v) i
    unfold outF at h ⊢
    unfold dropZ at h ⊢
    by_cases e : s.1 = id
    · rw [List.filter_cons_of_neg (by simp [e]), ← h]
      by_cases q : i = id
      · rw [if_pos q, if_pos q]
      · rw [if_neg q, if_neg q, fOf, if_neg (fun z => q (z.trans e)), Nat.zero_add]
    · rw [List.filter_cons_of_pos (by simp [e]), fOf, fOf, ← h]
      by_cases q : i = id
      · rw [if_pos q, if_pos q, if_neg (fun z => e (z.symm.trans q))]
      · rw [if_neg q, if_neg q]
/-- What an index carries: blocks at or above S, what it knows. -/
structure IdxL (S : Nat) (w : World) (T : Nat → Tag) (x kb yb n : Nat) (rs : List Sz) : Prop where
  at_ : IdxAt w T S x kb yb n (idsOf rs) (fOf rs)
  low : ∀ c, c < S → T c = (0, [], [])
  size : S ≤ w.heap.size
  n : n ≤ 800000
theorem IdxL.below {S : Nat} {w w' : World} {T : Nat → Tag} {x kb yb n : Nat} {rs : List Sz} (h : IdxL S w T x kb yb n rs) {N : Nat} (hb : Below N w w') (hN : w.heap.size ≤ N) : IdxL S w' T x kb yb n rs :=
  ⟨h.at_.turn (Only.of_below hb hN : Only (fun _ => False) w w') (fun _ _ => rfl) (fun _ _ h => h), h.low, Nat.le_trans h.size hb.size, h.n⟩
theorem IdxL.only {S : Nat} {w w' : World} {T T' : Nat → Tag} {x kb yb n : Nat} {rs : List Sz} (h : IdxL S w T x kb yb n rs) (ho : Only (OfIdx T) w w') : Below S w w' := ho.to_below h.size (fun r hr e => by unfold OfIdx at e; rw [h.low r hr] at e; exact e rfl)
theorem new_L (w : World) : Calls Try.prog 7 #[] w fun e w' => e = .returned (.pointer (some ⟨w.heap.size + 2, 0, none⟩)) ∧ ∃ T, IdxL w.heap.size w' T (w.heap.size + 2) w.heap.size (w.heap.size + 1) 0 [] ∧ Below w.heap.size w w' := by
  refine (new_idx w (fun _ => (0, [], [])) w.heap.size (Nat.le_refl _)).mono ?_
  rintro e w' ⟨rfl, T, ht, hi, ho⟩
  exact ⟨rfl, T, ⟨hi, fun c hc => ht c hc, ho.size, Nat.zero_le _⟩, ho.to_below (Nat.le_refl _) (fun _ _ h => h)⟩
theorem put_L {S : Nat} {w : World} {T : Nat → Tag} {x kb yb n : Nat} {rs : List Sz} (h : IdxL S w T x kb yb n rs) (id : Int) (hw : (Lit.int .i64 id).wf = true) (h1 : 1 ≤ id) (v : Value) (fs : List (List UInt8 × List UInt8)) (hF : ∀ W, Only (OfIdx (bareT T w.heap.size)) w W → Flds W v fs) (hn : n + 1 + 2 * fs.length ≤ 800000)
    (hf : ∀ f ∈ fs, f.1.length ≤ maxLen ∧ f.2.length ≤ maxLen) :
    Calls Try.prog 11 #[.pointer (some ⟨x, 0, none⟩), .int .i64 id, v] w fun e w' => e = .returned .nilIface ∧
      ∃ T', (∀ c, c < w.heap.size → T' c = T c) ∧ IdxL S w' T' x kb yb (n + 1 + 2 * fs.length) (putZ rs id fs) ∧ Only (OfIdx T) w w' := by
  refine (put_any h.at_.bareT id hw h1 v fs hF (by omega) (fun hi k v => fOf_out rs k v id hi) hf h.size).mono ?_
  rintro e w' ⟨rfl, T', ht, hi, ho⟩
  have e1 : (fun i => if i = id then true else outI id (idsOf rs) i) = idsOf (putZ rs id fs) := by
    rw [ids_drop]; exact idsOf_snoc (dropZ rs id) id fs
  have e2 : addFs id (outF id (fOf rs)) fs = fOf (putZ rs id fs) := by
    rw [f_drop]; exact fOf_snoc (dropZ rs id) id fs
  rw [e1, e2] at hi
  have hT : ∀ c, c < w.heap.size → T' c = T c := fun c hc => (ht c hc).trans (bareT_lt hc)
  exact ⟨rfl, T', hT, ⟨hi, fun c hc => (hT c (Nat.lt_of_lt_of_le hc h.size)).trans (h.low c hc), Nat.le_trans h.size ho.size, hn⟩, only_bare ho⟩
end Go.Proofs.Ytiebbgbcojgeoaa

namespace Go.Proofs.Ytiebbgbcojgeoaa
open Go.RowKit Go.Maps Go.Sort Go.Shelf

theorem ints_of {ss zs : List Int} (h : ss.Nodup) (hz : zs.Pairwise fun x y => x < y) (hm : ∀ i, i ∈ ss ↔ i ∈ zs) : sortZ ss = zs := by
  have hp : ss.Perm zs := (List.perm_ext_iff_of_nodup h (hz.imp fun q e => by omega)).2 hm
  rw [sortZ_eq hp]
  exact sortZ_same (hz.imp fun q => by omega)
theorem strs_of {ss zs : List (List UInt8)} (h : ss.Nodup) (hn : zs.Nodup) (hz : zs.Pairwise fun x y => x ≤ y) (hm : ∀ i, i ∈ ss ↔ i ∈ zs) : sortS ss = zs := by
  have hp : ss.Perm zs := (List.perm_ext_iff_of_nodup h hn).2 hm
  rw [sortS_eq hp]
  exact sortS_same hz
theorem sum_perm (f : Int → Nat) {ss zs : List Int} (h : ss.Perm zs) : (ss.map f).sum = (zs.map f).sum := (h.map f).sum_nat
theorem flds_new {W : World} {fs : List (List UInt8 × List UInt8)} (g c : Nat) (hc : Cells W g 45 (cellsF fs).toArray) (hle : c = fs.length) (hl : (cellsF fs).length = fs.length * 2) (hm : fs.length ≤ 1000) : Flds W (.slice (some ⟨g, 0, none⟩) fs.length c) fs := by
  subst hle
  refine flds_of_own (base := 0) ⟨hl, .inr ⟨g, fs.length, _, rfl, Nat.zero_le _, hc, Nat.le_refl _, by unfold maxLen; omega, by simp [hl], ?_⟩⟩
  rw [List.take_of_length_le (by simp [hl])]
theorem IdxL.bareT {S : Nat} {w : World} {T : Nat → Tag} {x kb yb n : Nat} {rs : List Sz} (h : IdxL S w T x kb yb n rs) : IdxL S w (bareT T w.heap.size) x kb yb n rs :=
  ⟨h.at_.bareT, fun c hc => by rw [bareT_lt (Nat.lt_of_lt_of_le hc h.size)]; exact h.low c hc, h.size, h.n⟩
/-- Put of fields that were laid just now. -/
theorem put_new {S : Nat} {w : World} {T : Nat → Tag} {x kb yb n : Nat} {rs : List Sz} (h : IdxL S w T x kb yb n rs) (id : Int) (hw : (Lit.int .i64 id).wf = true) (h1 : 1 ≤ id) (fs : List (List UInt8 × List UInt8)) (hn : n + 1 + 2 * fs.length ≤ 800000) (hl : (cellsF fs).length = fs.length * 2) (hm : fs.length ≤ 1000)
    (hf : ∀ f ∈ fs, f.1.length ≤ maxLen ∧ f.2.length ≤ maxLen) :
    Calls Try.prog 11 #[.pointer (some ⟨x, 0, none⟩), .int .i64 id, .slice (some ⟨w.heap.size, 0, none⟩) fs.length fs.length] (w.alloc (.cells (cellsF fs).toArray 45)) fun e w' => e = .returned .nilIface ∧
      ∃ T', IdxL S w' T' x kb yb (n + 1 + 2 * fs.length) (putZ rs id fs) ∧ Below S w w' := by
  have hb : Below w.heap.size w (w.alloc (.cells (cellsF fs).toArray 45)) := (Below.refl _ _).alloc (Nat.le_refl _) _
  have hi := h.bareT.below hb (Nat.le_refl _)
  have hc := Cells.new w 45 (cellsF fs).toArray
  refine (put_L hi id hw h1 _ fs (fun W hW => flds_new w.heap.size fs.length ((hW.same _ hc.lt (fun e => ?_)).trans hc) rfl hl hm) hn hf).mono ?_
  · unfold OfIdx at e
    rw [bareT_lt hc.lt, bareT_ge (Nat.le_refl _)] at e
    exact e rfl
  · rintro e w' ⟨rfl, T', _, hi', ho⟩
    exact ⟨rfl, T', hi', (hb.mono h.size).trans (hi.only (T' := T') ho)⟩
theorem nums_new (w : World) (zs : List Int) (hl : zs.length ≤ 1000) : Nums (w.alloc (.cells (zs.map encZ).toArray 3)) (.slice (some ⟨w.heap.size, 0, none⟩) zs.length zs.length) zs :=
  Nums.row (base := 0) ⟨by simp, .inr ⟨w.heap.size, zs.length, _, rfl, Nat.zero_le _, Cells.new w _ _, Nat.le_refl _, by unfold maxLen; omega, by simp, by simp [List.take_of_length_le]⟩⟩
theorem strs_new (w : World) (ss : List (List UInt8)) (hl : ss.length ≤ 1000) : Strs (w.alloc (.cells (ss.map encStr).toArray 9)) (.slice (some ⟨w.heap.size, 0, none⟩) ss.length ss.length) (ss.map B) :=
  strs_row (base := 0) ⟨by simp, .inr ⟨w.heap.size, ss.length, _, rfl, Nat.zero_le _, Cells.new w _ _, Nat.le_refl _, by unfold maxLen; omega, by simp, by simp [List.take_of_length_le]⟩⟩
def f8a : List (List UInt8 × List UInt8) := [([65], [120]), ([65], [121])]
def f8b : List (List UInt8 × List UInt8) := [([65], [120])]
def r8 : List Sz := [(1, f8a), (2, f8b)]
theorem r8_is : putZ (putZ [] 1 f8a) 2 f8b = r8 := by decide
theorem f8 (i : Int) : fOf r8 [65] [120] i = if i = 1 then 1 else if i = 2 then 1 else 0 := by
  show (if i = (1 : Int) then cntF [65] [120] f8a else 0) + ((if i = (2 : Int) then cntF [65] [120] f8b else 0) + 0) = _
  rw [show cntF [65] [120] f8a = 1 by decide, show cntF [65] [120] f8b = 1 by decide]
  split
  · rename_i h; subst h; rfl
  · rename_i h; simp
set_option maxRecDepth 100000 in
set_option maxHeartbeats 4000000 in
theorem idxAlive (w : World) : Calls Try.prog 5 #[] w fun e w' => e = .returned (.bool true) ∧ Below w.heap.size w w' := by
  have NW := Lib.hid (new_L w)
  go_enter Try.func5, Try.ntmps5
  go_wp2_with fail
  refine NW.out.mono ?_
  rintro e w1 ⟨rfl, T, hi, hb⟩
  obtain ⟨x, hx⟩ : ∃ x, x = w.heap.size + 2 := ⟨_, rfl⟩
  rw [← hx] at hi ⊢
  have HI := Lib.hid hi
  have HB := Lib.hid hb
  have HX := Lib.hid hx
  clear hi hb hx NW
  go_wp2_with fail
  have P1 := Lib.hid (put_new HI.out 1 (by decide) (by decide) f8a (by decide) (by decide) (by decide) (by decide))
  refine P1.out.mono ?_
  rintro e w2 ⟨rfl, T2, hi, hb⟩
  have HI2 := Lib.hid hi
  have HB2 := Lib.hid (HB.out.trans hb)
  clear hi hb P1 HI HB
  have hsz2 : Hid (w.heap.size ≤ w2.heap.size) := HB2.out.size
  go_wp2_with fail
  have P2 := Lib.hid (put_new HI2.out 2 (by decide) (by decide) f8b (by decide) (by decide) (by decide) (by decide))
  refine P2.out.mono ?_
  rintro e w3 ⟨rfl, T3, hi, hb⟩
  rw [r8_is] at hi
  have HI3 := Lib.hid hi
  have HB3 := Lib.hid (HB2.out.trans hb)
  clear hi hb P2 HI2 HB2
  go_wp2_with fail
  have EQ := Lib.hid (idxEqual HI3.out.at_ (by decide) ⟨#[65]⟩ ⟨#[120]⟩ (by decide) (by decide))
  refine EQ.out.mono ?_
  rintro e w4 ⟨v, ss, rfl, hn, hm, ha⟩
  have e4 : sortZ ss = [1, 2] := ints_of hn (by decide) (fun i => by
    rw [hm]
    show 0 < fOf r8 [65] [120] i ↔ _
    rw [f8]
    by_cases h1 : i = 1
    · subst h1; decide
    · by_cases h2 : i = 2
      · subst h2; decide
      · rw [if_neg h1, if_neg h2]; simp [h1, h2])
  have N4 := ha.nums
  rw [e4] at N4
  obtain ⟨va, vc, rfl, hvc, hcell⟩ := _root_.id N4
  have HN := Lib.hid N4
  have HB4 := Lib.hid (HB3.out.trans (ha.2.2.mono HB3.out.size))
  have HI4 := Lib.hid (HI3.out.below ha.2.2 (Nat.le_refl _))
  clear hn hm ha e4 N4 EQ hcell HI3 HB3
  have hsz4 : Hid (w.heap.size ≤ w4.heap.size) := HB4.out.size
  go_wp2_with fail
  have IA := Lib.hid (ints_any _ _ [1, 2] [1, 2] _ (HN.out.below ((Below.refl w4.heap.size w4).alloc (Nat.le_refl _) (.cells (([1, 2] : List Int).map encZ).toArray 3)) (Nat.le_refl _)) (nums_new w4 [1, 2] (by decide)) (by decide) (by decide))
  have hb5 : Below w4.heap.size w4 (w4.alloc (.cells (([1, 2] : List Int).map encZ).toArray 3)) := (Below.refl _ _).alloc (Nat.le_refl _) _
  have HB5 := Lib.hid (HB4.out.trans (hb5.mono HB4.out.size))
  have HI5 := Lib.hid (HI4.out.below hb5 (Nat.le_refl _))
  clear hb5 HB4 HI4 HN
  refine IA.out.mono ?_
  rintro e w5 ⟨rfl, hb⟩
  have HB6 := Lib.hid (HB5.out.trans (hb.mono HB5.out.size))
  have HI6 := Lib.hid (HI5.out.below hb (Nat.le_refl _))
  clear hb IA HB5 HI5
  go_wp2_with fail
  have VA := Lib.hid (idxValues HI6.out.at_ (by decide) ⟨#[65]⟩ (by decide))
  refine VA.out.mono ?_
  rintro e w6 ⟨v, ss, rfl, hn, hm, ha⟩
  have e4 : sortS ss = [[120], [121]] := strs_of hn (by decide) (by decide) (fun s => by
    rw [hm]
    show (∃ i, 0 < fOf r8 [65] s i) ↔ _
    constructor
    · rintro ⟨i, hi⟩
      obtain ⟨st, h1, h2, h3⟩ := fOf_pos hi
      rcases List.mem_cons.1 h1 with rfl | h1
      · rcases List.mem_cons.1 h3 with h3 | h3
        · cases h3; decide
        · rw [List.mem_singleton.1 h3 |> fun q => (Prod.mk.inj q).2]; decide
      · rw [List.mem_singleton] at h1
        subst h1
        rw [List.mem_singleton.1 h3 |> fun q => (Prod.mk.inj q).2]; decide
    · intro h
      rcases List.mem_cons.1 h with rfl | h
      · exact ⟨1, by decide⟩
      · rw [List.mem_singleton.1 h]; exact ⟨1, by decide⟩)
  have N4 := ha.strs
  rw [e4] at N4
  obtain ⟨ua, uc, rfl, huc, hcell⟩ := _root_.id N4
  have HN := Lib.hid N4
  have HB7 := Lib.hid (HB6.out.trans (ha.2.2.mono HB6.out.size))
  have HI7 := Lib.hid (HI6.out.below ha.2.2 (Nat.le_refl _))
  clear hn hm ha e4 N4 VA hcell HI6 HB6
  go_wp2_with fail
  have TA := Lib.hid (texts_any _ _ _ _ _ (HN.out.below ((Below.refl w6.heap.size w6).alloc (Nat.le_refl _) (.cells (([[120], [121]] : List (List UInt8)).map encStr).toArray 9)) (Nat.le_refl _)) (strs_new w6 [[120], [121]] (by decide)) (by decide) (by decide))
  have hb5 : Below w6.heap.size w6 (w6.alloc (.cells (([[120], [121]] : List (List UInt8)).map encStr).toArray 9)) := (Below.refl _ _).alloc (Nat.le_refl _) _
  have HB8 := Lib.hid (HB7.out.trans (hb5.mono HB7.out.size))
  have HI8 := Lib.hid (HI7.out.below hb5 (Nat.le_refl _))
  clear hb5 HB7 HI7 HN
  refine TA.out.mono ?_
  rintro e w7 ⟨rfl, hb⟩
  have HB9 := Lib.hid (HB8.out.trans (hb.mono HB8.out.size))
  have HI9 := Lib.hid (HI8.out.below hb (Nat.le_refl _))
  clear hb TA HB8 HI8
  rw [decide_eq_true (rfl : ([[120], [121]] : List (List UInt8)).map B = [[120], [121]].map B)]
  go_wp2_with fail
  have hT : ∀ ss : List Int, ss.Nodup → (ss.map (fOf r8 [65] [120])).sum ≤ 1000000 := fun ss h => Nat.le_trans (fOf_sum [65] [120] r8 ss h) (by decide)
  have CO := Lib.hid (idxCount HI9.out.at_ ⟨#[65]⟩ ⟨#[120]⟩ (by decide) (by decide) hT)
  refine CO.out.mono ?_
  rintro e w8 ⟨ss, he, hn, hm, ho⟩
  have e9 : (ss.map (fOf r8 [65] [120])).sum = 2 := by
    have hp : ss.Perm [1, 2] := (List.perm_ext_iff_of_nodup hn (by decide)).2 (fun i => by
      rw [hm]
      show 0 < fOf r8 [65] [120] i ↔ _
      rw [f8]
      by_cases h1 : i = 1
      · subst h1; decide
      · by_cases h2 : i = 2
        · subst h2; decide
        · rw [if_neg h1, if_neg h2]; simp [h1, h2])
    rw [sum_perm _ hp]
    decide
  have e10 : (((ss.map (fOf r8 [65] [120])).sum : Nat) : Int) = 2 := by rw [e9]; rfl
  have HB10 := Lib.hid (HB9.out.trans (ho.to_below HB9.out.size (fun _ _ h => h)))
  obtain rfl : e = .returned (.int .i64 2) := he.trans (congrArg (fun z : Int => Ending.returned (.int .i64 z)) e10)
  clear hn hm ho e9 CO hT he
  go_wp2_with fail
  go_ret
  exact ⟨rfl, HB10.out⟩
end Go.Proofs.Ytiebbgbcojgeoaa

namespace Go.Proofs.Ytiebbgbcojgeoaa
open Go.RowKit Go.Maps Go.Sort Go.Shelf

theorem is_one (n : Nat) (hn : n ≤ 1000) (k : Nat) (w : World) : Calls Try.prog 18 #[errV n, .int .i64 k] w fun e w' => e = .returned (.bool ((n : Int) == (k : Int))) ∧ w = w' := by
  have NU_ := Lib.hid (num_any n hn w)
  generalize hv : errV n = v at *
  have HV := Lib.hid hv
  have hf : ∃ z, v = z := ⟨_, rfl⟩
  clear hv hf
  go_enter Try.func18, Try.ntmps18
  go_wp2_with fail
  refine NU_.out.mono ?_
  rintro e w1 ⟨rfl, rfl⟩
  go_wp2_with fail
  go_ret
  exact ⟨rfl, rfl⟩
theorem hav_none {w w' : World} {p : List UInt8 → Bool} {e : Ending} (h : HavR p (fun _ _ => 0) w e w') : e = .returned (.slice none 0 0) ∧ Below w.heap.size w w' := by
  obtain ⟨v, ss, rfl, _, hm, ha⟩ := h
  have : ss = [] := List.eq_nil_iff_forall_not_mem.2 fun i hi => by obtain ⟨_, _, h⟩ := (hm i).1 hi; exact Nat.lt_irrefl _ h
  exact ⟨by rw [ha.2.1.2 this], ha.2.2⟩
set_option maxRecDepth 100000 in
set_option maxHeartbeats 1000000 in
theorem with_nil (k : ByteArray) (w : World) : Calls Try.prog 19 #[.pointer none, .string k] w fun e w' => e = .returned (.slice none 0 0) ∧ Below w.heap.size w w' := by
  have VO := Lib.hid (valuesOf_nil w k)
  go_enter Try.func19, Try.ntmps19
  go_wp2_with fail
  refine VO.out.mono ?_
  rintro e w' ⟨rfl, rfl⟩
  have HV := Lib.hid (having_any (w := w') (T := fun _ => (0, [], [])) (lo := 0) (n := 0) (k := []) (c := none) (f := fun _ _ => 0) (fun _ _ => rfl) (by decide) 38 #[] (fun _ => true) (enters_of Try.func38 (by kernel_rfl) rfl) (fun W s _ _ => with1_ask w' W s))
  go_wp2_with fail
  refine HV.out.mono ?_
  intro e w2 hh
  obtain ⟨rfl, hb⟩ := hav_none hh
  have HB := Lib.hid hb
  clear hb hh
  go_wp2_with fail
  go_ret
  exact ⟨rfl, HB.out⟩
set_option maxRecDepth 100000 in
set_option maxHeartbeats 1000000 in
theorem between_nil (k a b : ByteArray) (w : World) : Calls Try.prog 21 #[.pointer none, .string k, .string a, .string b] w fun e w' => e = .returned (.slice none 0 0) ∧ Below w.heap.size w w' := by
  have hb2 : Below w.heap.size w ((w.alloc (.cells #[.string a] 9)).alloc (.cells #[.string b] 9)) := ((Below.refl _ w).alloc (Nat.le_refl _) _).alloc (by simp) _
  have VO := Lib.hid (valuesOf_nil ((w.alloc (.cells #[.string a] 9)).alloc (.cells #[.string b] 9)) k)
  have cA := ((Cells.new w 9 #[.string a]).alloc (.cells #[.string b] 9))
  have cB : Cells ((w.alloc (.cells #[.string a] 9)).alloc (.cells #[.string b] 9)) (w.heap.size + 1) 9 #[.string b] := by
    have := Cells.new (w.alloc (.cells #[.string a] 9)) 9 #[.string b]
    simpa using this
  have HAB := Lib.hid (And.intro cA cB)
  have HB := Lib.hid hb2
  clear cA cB hb2
  go_enter Try.func21, Try.ntmps21
  go_wp2_with fail
  refine VO.out.mono ?_
  rintro e w' ⟨rfl, hw'⟩
  have hb2 : Below w.heap.size w w' := by rw [hw']; exact HB.out
  have hAB : Cells w' w.heap.size 9 #[.string a] ∧ Cells w' (w.heap.size + 1) 9 #[.string b] := by rw [hw']; exact HAB.out
  clear HB HAB hw' VO
  have HV := Lib.hid (having_any (w := w') (T := fun _ => (0, [], [])) (lo := 0) (n := 0) (k := []) (c := none) (f := fun _ _ => 0) (fun _ _ => rfl) (by decide) 41 #[.pointer (some ⟨w.heap.size, 0, none⟩), .pointer (some ⟨w.heap.size + 1, 0, none⟩)] (betw a.data.toList b.data.toList) (enters_of Try.func41 (by kernel_rfl) rfl)
    (fun W s hW _ => between1_ask a b w.heap.size (w.heap.size + 1) W s ((hW.cell (p := ⟨w.heap.size, 0, none⟩) hAB.1.lt).trans (hAB.1.cell 0)) ((hW.cell (p := ⟨w.heap.size + 1, 0, none⟩) hAB.2.lt).trans (hAB.2.cell 0))))
  have HB := Lib.hid hb2
  clear hb2 hAB
  go_wp2_with fail
  refine HV.out.mono ?_
  intro e w2 hh
  obtain ⟨rfl, hb⟩ := hav_none hh
  have HB2 := Lib.hid (HB.out.trans (hb.mono HB.out.size))
  clear hb hh
  go_wp2_with fail
  go_ret
  exact ⟨rfl, HB2.out⟩
set_option maxRecDepth 100000 in
set_option maxHeartbeats 1000000 in
theorem keys_nil (w : World) : Calls Try.prog 22 #[.pointer none] w fun e w' => e = .returned (.slice none 0 0) ∧ w' = w := by
  go_enter Try.func22, Try.ntmps22
  go_wp2_with fail
  go_ret
  exact ⟨rfl, rfl⟩
set_option maxRecDepth 100000 in
set_option maxHeartbeats 1000000 in
theorem values_nil (k : ByteArray) (w : World) : Calls Try.prog 23 #[.pointer none, .string k] w fun e w' => e = .returned (.slice none 0 0) ∧ Below w.heap.size w w' := by
  have VO := callsIn_wide (n := 5) |>.2 (valuesOf_nil w k)
  have hfV : Fence.wide.fn 36 := trivial
  have hfK : Fence.wide.fn 44 := trivial
  have hfS : Fence.wide.fn 42 := trivial
  have cS := sortedV_nil w
  refine (callsIn_wide (n := 6)).1 ?_
  refine callsIn_of_wp Try.func23 rfl trivial ?_ rfl
  simp only [Try.ntmps23, List.size_toArray, List.length_cons, List.length_nil, Nat.reduceAdd, Nat.reduceSub, Array.replicate_succ, Array.replicate_zero, List.push_toArray, List.append_toArray, List.nil_append, List.cons_append]
  gi_wp2_with (first
    | (gi_at_call 36; refine VO.mono ?_; rintro e w1 ⟨rfl, rfl⟩)
    | (gi_at_call 44; refine (keysV_call _ _).mono ?_; rintro e w' ⟨rfl, rfl⟩)
    | (gi_at_call 42; refine cS.mono ?_; rintro e w' ⟨rfl, hb⟩))
  go_ret
  exact ⟨rfl, hb⟩
set_option maxRecDepth 100000 in
set_option maxHeartbeats 1000000 in
theorem equal_nil (k s : ByteArray) (w : World) : Calls Try.prog 20 #[.pointer none, .string k, .string s] w fun e w' => e = .returned (.slice none 0 0) ∧ Below w.heap.size w w' := by
  have VO := callsIn_wide (n := 5) |>.2 (valuesOf_nil w k)
  have hfV : Fence.wide.fn 36 := trivial
  have hfK : Fence.wide.fn 40 := trivial
  have hfS : Fence.wide.fn 39 := trivial
  have cS := sortedH_nil w
  have lk := lookV_nil s w
  refine (callsIn_wide (n := 6)).1 ?_
  refine callsIn_of_wp Try.func20 rfl trivial ?_ rfl
  simp only [Try.ntmps20, List.size_toArray, List.length_cons, List.length_nil, Nat.reduceAdd, Nat.reduceSub, Array.replicate_succ, Array.replicate_zero, List.push_toArray, List.append_toArray, List.nil_append, List.cons_append]
  gi_wp2_with (first
    | (gi_at_call 36; refine VO.mono ?_; rintro e w1 ⟨rfl, rfl⟩)
    | (gi_at_call 40; refine (keysH_call _ _).mono ?_; rintro e w' ⟨rfl, rfl⟩)
    | (gi_at_call 39; refine cS.mono ?_; rintro e w' ⟨rfl, hb⟩))
  go_ret
  exact ⟨rfl, hb⟩
set_option maxRecDepth 100000 in
set_option maxHeartbeats 1000000 in
theorem count_nil (k s : ByteArray) (w : World) : Calls Try.prog 24 #[.pointer none, .string k, .string s] w fun e w' => e = .returned (.int .i64 0) ∧ Below w.heap.size w w' := by
  have VO := Lib.hid (valuesOf_nil w k)
  have lk := lookV_nil s w
  have hrg := run_range_nilMap (P := Try.prog) w 95 3 3 Try.underlying95
  have hnx : ∀ ty, (Instr.next (.pointer (some ⟨w.heap.size, 0, none⟩)) false ty).run Try.prog (w.alloc (.mapIter none 0 #[] 0)) = _ := fun ty => run_next_nilMap w ty 0 0 #[]
  go_enter Try.func24, Try.ntmps24
  go_wp2_with fail
  refine VO.out.mono ?_
  rintro e w' ⟨rfl, rfl⟩
  go_wp2_with fail
  refine wp_loop_rounds 1 ?_
  rw [rounds_succ]
  go_wp2_with fail
  go_ret
  exact ⟨rfl, (Below.refl _ _).alloc (Nat.le_refl _) _⟩
end Go.Proofs.Ytiebbgbcojgeoaa

namespace Go.Proofs.Ytiebbgbcojgeoaa

abbrev Fld := List UInt8 × List UInt8
/-- An item. -/
structure It where
  kind : Int
  raw : List UInt8
  fields : List Fld
deriving DecidableEq
/-- What the lines have made so far. -/
structure PS where
  begin_ : Nat
  said : List (List UInt8)
  items : List It
  stanzas : Nat
  at_ : Nat
  fields : List Fld
deriving DecidableEq
def PS.new : PS := ⟨0, [], [], 0, 0, []⟩
/-- What comes of a step: a place and a number, or what is made. -/
abbrev Res (α : Type) := Except (Nat × Nat) α

def fullP (p : PS) : Bool := if p.fields.length = 0 then p.stanzas == 400 else p.fields.length == 40
def endFieldN (p : PS) : Nat := if p.said = [] then 0 else if unfoldN p.said ≠ 0 then unfoldN p.said else if fullP p then 11 else 0
def endFieldP (p : PS) : PS := if p.said = [] then p else { p with fields := p.fields ++ [(unfoldK p.said, unfoldV p.said)], said := [] }
def endItemP (text : List UInt8) (p : PS) (kind end_ : Nat) : PS := { p with items := p.items ++ [⟨kind, (text.take end_).drop p.at_, p.fields⟩], at_ := end_, fields := [] }
def endBlockP (text : List UInt8) (p : PS) (end_ : Nat) : PS :=
  if p.at_ = end_ then p else if p.fields.length = 0 then endItemP text p 2 end_ else { endItemP text p 3 end_ with stanzas := p.stanzas + 1 }
def goesP (p : PS) (x : Ln) : Bool := kindL x.text == 3 && !(p.said.isEmpty)
def wentP (p : PS) (x : Ln) : PS := if goesP p x then { p with said := p.said ++ [x.text] } else p
def wrongP (p : PS) (x : Ln) : Bool := kindL x.text == 5 || (kindL x.text == 3 && !goesP p x) || !x.ended
/-- Is the field that is under way ended by the line? -/
def endsP (p : PS) (x : Ln) : Bool := wrongP p x || !goesP p x
def putP (text : List UInt8) (p : PS) (x : Ln) : PS :=
  if kindL x.text = 4 then { p with begin_ := x.no, said := [x.text] }
  else if kindL x.text = 1 then endItemP text (endBlockP text p x.at_) 1 (x.at_ + x.text.length + 1)
  else p
/-- What stands behind the end of the field, if the line ends it. -/
def thenP (p : PS) (x : Ln) : PS := if endsP p x then endFieldP (wentP p x) else wentP p x
def takeP (text : List UInt8) (p : PS) (x : Ln) : Res PS :=
  if endsP p x = true ∧ endFieldN (wentP p x) ≠ 0 then .error ((wentP p x).begin_, endFieldN (wentP p x))
  else if wrongP p x then .error (x.no, 2)
  else .ok (putP text (thenP p x) x)
def runP (text : List UInt8) : PS → List Ln → Res PS
  | p, [] => .ok p
  | p, x :: xs => match takeP text p x with
    | .error e => .error e
    | .ok q => runP text q xs
def lastP (text : List UInt8) (p : PS) : Res (List It) :=
  if endFieldN p ≠ 0 then .error (p.begin_, endFieldN p) else .ok (endBlockP text (endFieldP p) text.length).items
def parseL (text : List UInt8) : Res (List It) :=
  match runP text PS.new (linesOf text) with
  | .error e => .error e
  | .ok p => lastP text p

theorem runP_append (text : List UInt8) : ∀ (p : PS) (a b : List Ln), runP text p (a ++ b) = match runP text p a with | .error e => .error e | .ok q => runP text q b
  | p, [], b => rfl
  | p, x :: a, b => by
    show (match takeP text p x with | .error e => _ | .ok q => runP text q (a ++ b)) = match (match takeP text p x with | .error e => _ | .ok q => runP text q a) with | .error e => _ | .ok q => _
    cases takeP text p x with
    | error e => rfl
    | ok q => exact runP_append text q a b

/-- What keeps the parser small: c bytes are behind it. -/
structure Inv (p : PS) (c : Nat) : Prop where
  at_ : p.at_ ≤ c
  items : p.items.length ≤ p.at_
  stanzas : p.stanzas ≤ p.at_
  begin_ : p.begin_ ≤ c
  fields : p.fields.length ≤ c
  said : (p.said.map List.length).sum + p.said.length ≤ c
  both : p.fields.length + p.said.length ≤ c
theorem Inv.new : Inv PS.new 0 := ⟨Nat.le_refl _, Nat.le_refl _, Nat.le_refl _, Nat.le_refl _, Nat.le_refl _, Nat.le_refl _, Nat.le_refl _⟩
theorem Inv.mono {p : PS} {c d : Nat} (h : Inv p c) (hd : c ≤ d) : Inv p d :=
  ⟨Nat.le_trans h.at_ hd, h.items, h.stanzas, Nat.le_trans h.begin_ hd, Nat.le_trans h.fields hd, Nat.le_trans h.said hd, Nat.le_trans h.both hd⟩
theorem Inv.endField {p : PS} {c : Nat} (h : Inv p c) : Inv (endFieldP p) c := by
  unfold endFieldP
  split
  · exact h
  · rename_i hs
    have hb := h.both
    have : 1 ≤ p.said.length := by cases hp : p.said with | nil => exact absurd hp hs | cons a l => simp
    exact ⟨h.at_, h.items, h.stanzas, h.begin_, by simp; omega, by simp, by simp; omega⟩
theorem Inv.endItem {p : PS} {c : Nat} (text : List UInt8) (kind e : Nat) (h : Inv p c) (h1 : p.at_ < e) (h2 : e ≤ c) : Inv (endItemP text p kind e) c := by
  have a := h.items; have b := h.stanzas
  refine ⟨h2, ?_, ?_, h.begin_, by simp [endItemP], h.said, ?_⟩
  · simp [endItemP]; omega
  · simp [endItemP]; omega
  · have := h.both; simp [endItemP]; omega
theorem Inv.endBlock {p : PS} {c : Nat} (text : List UInt8) (e : Nat) (h : Inv p c) (h1 : p.at_ ≤ e) (h2 : e ≤ c) : Inv (endBlockP text p e) c := by
  unfold endBlockP
  split
  · exact h
  · split
    · exact h.endItem text 2 e (by omega) h2
    · have g := h.endItem text 3 e (by omega) h2
      exact ⟨g.at_, g.items, by have := h.stanzas; show p.stanzas + 1 ≤ e; omega, g.begin_, g.fields, g.said, g.both⟩
theorem endField_at (p : PS) : (endFieldP p).at_ = p.at_ := by unfold endFieldP; split <;> rfl
theorem endField_said (p : PS) : (endFieldP p).said = [] := by unfold endFieldP; split <;> simp_all
theorem endBlock_at (text : List UInt8) (p : PS) (e : Nat) (h : p.at_ ≤ e) : (endBlockP text p e).at_ = e := by
  unfold endBlockP
  split
  · assumption
  · split <;> rfl
theorem endBlock_said (text : List UInt8) (p : PS) (e : Nat) : (endBlockP text p e).said = p.said := by
  unfold endBlockP
  split
  · rfl
  · split <;> rfl
theorem wentP_at (p : PS) (x : Ln) : (wentP p x).at_ = p.at_ := by unfold wentP; split <;> rfl
theorem Inv.went {p : PS} {x : Ln} {c : Nat} (h : Inv p c) : Inv (wentP p x) (c + x.text.length + 1) := by
  unfold wentP
  split
  · have a := h.said; have b := h.both
    refine ⟨by have := h.at_; show p.at_ ≤ _; omega, h.items, h.stanzas, by have := h.begin_; show p.begin_ ≤ _; omega, by have := h.fields; show p.fields.length ≤ _; omega, ?_, ?_⟩
    · simp; omega
    · simp; omega
  · exact h.mono (by omega)
theorem Inv.then_ {p : PS} {x : Ln} {c : Nat} (h : Inv p c) : Inv (thenP p x) (c + x.text.length + 1) := by
  unfold thenP
  split
  · exact h.went.endField
  · exact h.went
theorem thenP_at (p : PS) (x : Ln) : (thenP p x).at_ = p.at_ := by
  unfold thenP
  split
  · rw [endField_at, wentP_at]
  · exact wentP_at p x
theorem thenP_said {p : PS} {x : Ln} (h : goesP p x = false) : (thenP p x).said = [] := by
  unfold thenP endsP
  rw [h]
  simp only [Bool.not_false, Bool.or_true, if_true]
  exact endField_said _
theorem goes_kind {p : PS} {x : Ln} (h : kindL x.text ≠ 3) : goesP p x = false := by unfold goesP; simp [h]
theorem Inv.take {text : List UInt8} {p q : PS} {x : Ln} (h : Inv p x.at_) (hno : x.no ≤ x.at_) (he : takeP text p x = .ok q) : Inv q (x.at_ + x.bytes.length) ∧ x.ended = true := by
  unfold takeP at he
  split at he
  · cases he
  · split at he
    · cases he
    · rename_i hw
      have hen : x.ended = true := by
        cases hx : x.ended with
        | true => rfl
        | false => exact absurd (by unfold wrongP; rw [hx]; simp) hw
      have hb : x.at_ + x.bytes.length = x.at_ + x.text.length + 1 := by unfold Ln.bytes; rw [hen]; simp; omega
      refine ⟨?_, hen⟩
      rw [hb]
      cases he
      have t := h.then_ (x := x)
      unfold putP
      split
      · rename_i hk
        have e := thenP_said (goes_kind (p := p) (x := x) (by omega))
        refine ⟨t.at_, t.items, t.stanzas, by show x.no ≤ _; omega, t.fields, by simp, ?_⟩
        have hf : (thenP p x).fields.length ≤ x.at_ := by
          have g := goes_kind (p := p) (x := x) (by omega)
          unfold thenP endsP wentP
          rw [g]
          simp only [Bool.not_false, Bool.or_true, if_true]
          exact (Inv.endField h).fields
        simp; omega
      · split
        · have ta := thenP_at p x
          have ha := h.at_
          refine Inv.endItem text 1 _ (t.endBlock text x.at_ (by omega) (by omega)) ?_ (by omega)
          rw [endBlock_at text _ _ (by omega)]; omega
        · exact t
end Go.Proofs.Ytiebbgbcojgeoaa

