/- Texts put together: IN, IR, IS. -/
import Derived.Sort.KeysCollected
import Derived.Lib.RowBridge
import Derived.Shelf.SlicesG.CompactI
import Derived.Test.YtiebbgbcojgeoaaBap2
import Derived.Test.YtiebbgbcojgeoaaBap3
set_option linter.unusedVariables false
namespace Go.Proofs.Ytiebbgbcojgeoaa
open Go.RowKit Go.Maps Go.Sort

/-- What a map of maps reads as. -/
def ReadsR (D : DataW Unit) (f : List UInt8 → Option Nat) : Prop := (∀ k, has D (.string k) = (f k).isSome) ∧ ∀ k c, f k = some c → ∀ z, D.atKey (.string k) z = .lit (.int .i64 (c : Int))
theorem RefM.reads {w : World} {b n : Nat} {f : List UInt8 → Option Nat} (h : RefM w b n f) : ∃ D : DataW Unit, w.ownsMap Try.prog 9 refElem b n D ∧ ReadsR D f := h
theorem ReadsR.ref {w : World} {b n : Nat} {D : DataW Unit} {f : List UInt8 → Option Nat} (h : ReadsR D f) (ho : w.ownsMap Try.prog 9 refElem b n D) : RefM w b n f := ⟨D, ho, h.1, h.2⟩
theorem ReadsR.del {D : DataW Unit} {f : List UInt8 → Option Nat} (h : ReadsR D f) (s : List UInt8) : ReadsR (D.del (.string s)) (fun k => if k = s then none else f k) := by
  refine ⟨fun k => ?_, fun k d hk z => ?_⟩
  · dsimp only
    by_cases q : k = s
    · subst q
      rw [Maps.has_del_same, if_pos rfl]; rfl
    · rw [Maps.has_del_other (fun e => q (by injection e)), if_neg q, h.1]
  · dsimp only at hk
    by_cases q : k = s
    · rw [if_pos q] at hk; cases hk
    · rw [if_neg q] at hk
      rw [Maps.atKey_del_other (fun e => q (by injection e))]
      exact h.2 k d hk z
theorem ReadsR.elem {D : DataW Unit} {f : List UInt8 → Option Nat} (h : ReadsR D f) {s : List UInt8} {o : Option Nat} {y : DataW Unit × List MemPlace} (hv : refElem (.map o) = some y) (hat : ∀ z, D.atKey (.string s) z = y.1) : ∃ c, o = some c ∧ f s = some c := by
  have hh := has_true_of_atKey hat
  rw [h.1] at hh
  obtain ⟨c, hc⟩ := Option.isSome_iff_exists.1 hh
  have h2 := (hat (.lit (.int .i64 0))).symm.trans (h.2 s c hc (.lit (.int .i64 0)))
  obtain ⟨y1, y2⟩ := y
  dsimp only at h2
  subst h2
  have := refElem_some hv
  injection this with this
  exact ⟨c, this, hc⟩
/-- How many keys a map of maps has. -/
theorem RefM.len {w : World} {b n : Nat} {f : List UInt8 → Option Nat} (h : RefM w b n f) {t e : TypeId} (ht : Try.prog.underlying t = some (.map 9 e)) :
    ∃ m : Nat, (∀ ty, (Builtin.len_ #[t] ty #[.map (some b)]).run Try.prog w = .ok (.int .i64 (m : Nat)) w) ∧ (m = 0 ↔ ∀ k, f k = none) := by
  obtain ⟨D, ho, h1, _⟩ := h
  refine ⟨Maps.size D, fun ty => ho.len ht ty, ?_⟩
  obtain ⟨es, rfl, _, hk⟩ := ho.entries keyS
  rw [size_eq]
  constructor
  · intro h0 k
    have : es = [] := List.eq_nil_of_length_eq_zero h0
    subst this
    have := h1 k
    cases hf : f k with
    | none => rfl
    | some c => rw [hf] at this; cases this
  · intro h0
    cases es with
    | nil => rfl
    | cons p r =>
      obtain ⟨es', hD', hko⟩ := ho.keysOf
      obtain rfl : p :: r = es' := by simpa using hD'
      obtain ⟨v, hv⟩ := hko p List.mem_cons_self
      obtain ⟨x, _, hx, _⟩ := Maps.keyOf_str Try.underlying9 hv
      have := h1 x
      rw [h0 x, has_eq, List.any_cons, hx] at this
      simp [Lit.sameKey] at this
theorem CntM.len {w : World} {b n : Nat} {f : Int → Nat} (h : CntM w b n f) {t e : TypeId} (ht : Try.prog.underlying t = some (.map 3 e)) :
    ∃ m : Nat, (∀ ty, (Builtin.len_ #[t] ty #[.map (some b)]).run Try.prog w = .ok (.int .i64 (m : Nat)) w) ∧ (m = 0 ↔ ∀ i, f i = 0) := by
  obtain ⟨D, ho, h1, _⟩ := h
  refine ⟨Maps.size D, fun ty => ho.len ht ty, ?_⟩
  obtain ⟨es, rfl, _, hk⟩ := ho.entries keyI
  rw [size_eq]
  constructor
  · intro h0 k
    have : es = [] := List.eq_nil_of_length_eq_zero h0
    subst this
    have := h1 k
    by_cases hf : 0 < f k
    · have := this.2 hf; cases this
    · omega
  · intro h0
    cases es with
    | nil => rfl
    | cons p r =>
      obtain ⟨es', hD', hko⟩ := ho.keysOf
      obtain rfl : p :: r = es' := by simpa using hD'
      obtain ⟨v, hv⟩ := hko p List.mem_cons_self
      obtain ⟨x, _, hx, _⟩ := Maps.keyOf_i64 Try.underlying3 hv
      have := (h1 x).1 (by rw [has_eq, List.any_cons, hx]; simp [Lit.sameKey])
      rw [h0 x] at this; omega
section
variable (w : World) {ops : Array Oper} {rest : List Oper} {o : Oper} {a : Act} {Q : Exit → Act → World → Prop}
set_option maxRecDepth 100000 in
/-- A step of a range over a map of maps. -/
theorem wpList_next_sr (hg : o.guard = none) (it : Operand) (hop : o.op = Op.next it false) (b r n : Nat) (D : DataW Unit) (left : Lit → Bool) (cnt : Nat)
    (hit : a.eval it = .pointer (some ⟨r, 0, none⟩)) (h : w.ranges Try.prog 9 refElem b r n D left cnt) {f : List UInt8 → Option Nat} (hr : ReadsR D f)
    (hDone : cnt = 0 → (∀ kl, left kl = false) → wpList Try.prog ops Q rest (a.put o.dst (.tuple #[.bool false])) w)
    (hMore : ∀ (s : List UInt8) (c : Nat) (w' : World) (cnt' : Nat), s.length ≤ maxLen → left (.string s) = true → f s = some c → w'.ranges Try.prog 9 refElem b r n D (fun z => left z && !z.sameKey (.string s)) cnt' → cnt' < cnt →
      w.grownBy w' (some r) → w'.heap.size = w.heap.size → (Instr.entry (.pointer (some ⟨r, 0, none⟩))).run Try.prog w' = .ok (.tuple #[.string (B s), .map (some c)]) w' → wpList Try.prog ops Q rest (a.put o.dst (.tuple #[.bool true, .string (B s), .map (some c)])) w') :
    wpList Try.prog ops Q (o :: rest) a w :=
  wpList_next_ranges w hg it hop 9 keyS refElem (fun s : List UInt8 => .string (B s)) Value.map (fun key kl hkey => by obtain ⟨x, rfl, _⟩ := Maps.keyOf_str Try.underlying9 hkey; exact ⟨x, rfl⟩) (fun v y hv => refElem_inv hv)
    b r n D left cnt hit h hDone (fun x c kl y w' cnt' hkey hlk hv hat hrg hlt hgr hsz hen => by
      obtain ⟨x', ex, rfl, hx⟩ := Maps.keyOf_str Try.underlying9 hkey
      have e2 : x = x' := by
        have e3 : Value.string (B x) = Value.string (B x') := ex
        have e3 := Value.string.inj e3
        have := congrArg (fun b : ByteArray => b.data.toList) e3
        simpa [B_data] using this
      subst e2
      obtain ⟨c', rfl, hc⟩ := hr.elem hv hat
      exact hMore x c' w' cnt' hx hlk hc hrg hlt hgr hsz hen)
/-- delete of a holder. -/
theorem wpList_delete_cnt (hg : o.guard = none) (m x : Operand) (t e : TypeId) (hop : o.op = Op.call { callee := Callee.builtin Builtin.delete, args := #[m, x], argTypes := #[t, 3] })
    (ht : Try.prog.underlying t = some (.map 3 3)) (c n : Nat) (f : Int → Nat) (id : Int) (hw : (Lit.int .i64 id).wf = true) (hm : a.eval m = .map (some c)) (hx : a.eval x = .int .i64 id) (h : CntM w c n f)
    (hK : ∀ w', CntM w' c n (fun k => if k = id then 0 else f k) → Only (· = c) w w' → w'.heap.size = w.heap.size → wpList Try.prog ops Q rest (a.put o.dst (.tuple #[])) w') :
    wpList Try.prog ops Q (o :: rest) a w := by
  refine wpList_plain hg fun K' hK' => ?_
  obtain ⟨w', hrun, r1, r2, r3⟩ := h.drop ht id hw o.type
  unfold Oper.wp
  simp [execOp, hop, resolve, invoke, builtin, hm, hx, hrun, Result.andThen]
  exact hK' _ _ (hK w' r1 r2 r3)
end
def outV (id : Int) (f : List UInt8 → Int → Nat) : List UInt8 → Int → Nat := fun v i => if i = id then 0 else f v i
theorem HoldAt.size {w : World} {T : Nat → Tag} {lo n : Nat} {k v : List UInt8} {c : Nat} {f : Int → Nat} (h : HoldAt w T lo k v n (some c) f) : c < w.heap.size := h.2.2.1.lt
theorem strike {left : Lit → Bool} {s v : List UInt8} : (fun z : Lit => left z && !z.sameKey (.string s)) (.string v) = (left (.string v) && !decide (v = s)) := by
  show (left (.string v) && !(Lit.string v).sameKey (.string s)) = _
  congr 2
  by_cases h : v = s
  · subst h; simp [Lit.sameKey]
  · simp [Lit.sameKey, h]
set_option maxRecDepth 100000 in
set_option maxHeartbeats 4000000 in
theorem vdrop_any {w : World} {T : Nat → Tag} {lo b n : Nat} {k : List UInt8} {f : List UInt8 → Int → Nat} (h : ValAt w T lo k b n f) (hT : ∀ c, w.heap.size ≤ c → T c = (0, [], [])) (id : Int) (hw : (Lit.int .i64 id).wf = true) :
    Calls Try.prog 29 #[.map (some b), .int .i64 id] w fun e w' => e = .returned (.tuple #[]) ∧ ValAt w' T lo k b n (outV id f) ∧ Only (OfKey T k) w w' := by
  obtain ⟨h1, h2, g, h3, h4⟩ := h
  obtain ⟨D, hown, hrd⟩ := h3.reads
  have HR := Lib.hid hrd
  have H4 := Lib.hid h4
  have hTr : Hid (∀ c, OfKey T k c → c < w.heap.size) := fun c hc => by
    by_cases q : c < w.heap.size
    · exact q
    · have h9 := hc.idx; rw [hT c (by omega)] at h9; rcases h9 with h9 | h9 <;> cases h9
  have H1 := Lib.hid h1
  have hbl := hown.lt
  clear h4 hrd h3 h1
  go_enter Try.func29, Try.ntmps29
  go_wp2_with (at_range; refine wpList_range_own _ rfl _ 73 rfl 9 95 keyS Try.underlying73 _ b n _ rfl hown ?_; intro w0 hrg0 hg0 hs0)
  go_frame
  go_loopw [8] (fun _ wr => ∃ (left : Lit → Bool) (cnt : Nat) (D' : DataW Unit) (g' : List UInt8 → Option Nat), wr.ranges Try.prog 9 refElem b w.heap.size n D' left cnt ∧ ReadsR D' g' ∧
      (∀ v, (left (.string v) = true ∧ g' v = g v ∧ HoldAt wr T lo k v n (g v) (f v)) ∨ (left (.string v) = false ∧ HoldAt wr T lo k v n (g' v) (outV id f v))) ∧ Only (OfKey T k) w wr) (fun _ wr => wr.rangeLeft b w.heap.size)
  case atStart =>
    have o0 : Only (OfKey T k) w w0 := (Only.refl _ w).grown hg0 (fun k hk => by cases hk)
    refine ⟨_, _, D, g, hrg0, HR.out, fun v => ?_, o0⟩
    have hv := H4.out v
    have o1 : Only (fun _ => False) w w0 := (Only.refl _ w).grown hg0 (fun k hk => by cases hk)
    cases hh : has D (.string v) with
    | true => exact .inl ⟨rfl, rfl, hv.turn o1 (fun _ _ => rfl) (fun _ _ h => h)⟩
    | false =>
      have : g v = none := by
        have := HR.out.1 v
        rw [hh] at this
        cases hg : g v with
        | none => rfl
        | some c => rw [hg] at this; cases this
      rw [this] at hv ⊢
      exact .inr ⟨rfl, fun i => by unfold outV; split; rfl; exact hv i⟩
  case round =>
    obtain ⟨left, cnt, D', g', hrg, hrd, hall, ho⟩ := hrel
    have HO := Lib.hid ho
    have HA := Lib.hid hall
    have HD := Lib.hid hrd
    clear ho hall
    go_wp2_with (at_next; refine wpList_next_sr _ rfl _ rfl b w.heap.size n _ _ _ rfl hrg hrd ?_ ?_)
    · intro _ hl0
      have HL := Lib.hid hl0
      clear hl0
      go_wp2_with fail
      go_end0
      refine ⟨rfl, ⟨H1.out, h2, g', HD.out.ref hrg.owns, fun v => ?_⟩, HO.out⟩
      rcases HA.out v with ⟨e, _⟩ | ⟨_, e⟩
      · rw [HL.out] at e; cases e
      · exact e
    · intro s c w1 cnt1 hs hl hgs hrg1 hlt hg1 hs1 hen
      have hsv : g s = some c ∧ HoldAt wr T lo k s n (some c) (f s) := by
        rcases HA.out s with ⟨_, e1, e2⟩ | ⟨e, _⟩
        · rw [← e1] at e2; rw [hgs] at e1 e2; exact ⟨e1.symm, e2⟩
        · rw [hl] at e; cases e
      obtain ⟨hgs0, t1, t2, t3, t4⟩ := hsv
      have o1 : Only (· = w.heap.size) wr w1 := (Only.refl _ wr).grown hg1 (fun k hk => by cases hk; exact .inl rfl)
      have cne : c ≠ w.heap.size := fun e => by have := hTr.out c (.inr ⟨s, t1⟩); omega
      have t3 := t3.only o1 cne
      have HC := Lib.hid (And.intro t1 (And.intro t2 t4))
      have HO1 := Lib.hid o1
      have HS := Lib.hid (And.intro hl (And.intro hgs hgs0))
      clear t1 t2 t4 o1 hl hgs hgs0 hs1
      go_wp2_with (at_delete; refine wpList_delete_cnt _ rfl _ _ 95 3 rfl Try.underlying95 c n (f s) id hw rfl rfl t3 ?_; intro w2 hc2 ho2 hz2)
      obtain ⟨m, hlen, hm⟩ := hc2.len Try.underlying95
      have hbc : b ≠ c := fun e => by subst e; have h5 := H1.out; rw [HC.out.1] at h5; injection h5 with h5; omega
      have hrg2 : w2.ranges Try.prog 9 refElem b w.heap.size n D' (fun z => left z && !z.sameKey (.string s)) cnt1 := by
        obtain ⟨es, clock, since, seen, c0, q1, F, hs, hD, q2, rest⟩ := hrg1
        have l1 := (Array.getElem?_eq_some_iff.1 q1).1
        have l2 := (Array.getElem?_eq_some_iff.1 q2).1
        exact ⟨es, clock, since, seen, c0, (ho2.same b l1 hbc).trans q1, F, hs, hD, (ho2.same _ l2 (Ne.symm cne)).trans q2, rest⟩
      have HW2 := Lib.hid (And.intro hc2 ho2)
      have HM := Lib.hid hm
      clear hc2 ho2 hm
      -- what holds of the others behind a round
      have OTH : Hid (∀ w3, Only (· = b) w2 w3 → (∀ v, v ≠ s → (left (.string v) = true ∧ g' v = g v ∧ HoldAt w3 T lo k v n (g v) (f v)) ∨ (left (.string v) = false ∧ HoldAt w3 T lo k v n (g' v) (outV id f v))) ∧ Only (OfKey T k) w w3) := fun w3 o3 => by
        have tr : ∀ v, v ≠ s → ∀ q ff, HoldAt wr T lo k v n q ff → HoldAt w3 T lo k v n q ff := fun v hv q ff hh => by
          have a1 := hh.turn HO1.out (fun _ _ => rfl) (fun c hc e => by subst e; have := hTr.out _ (.inr ⟨v, hc⟩); omega)
          have a2 := a1.turn HW2.out.2 (fun _ _ => rfl) (fun d hd e => by subst e; have h5 := HC.out.1; rw [hd] at h5; injection h5 with _ h5; injection h5 with _ h5; exact hv h5)
          exact a2.turn o3 (fun _ _ => rfl) (fun d hd e => by subst e; have h5 := H1.out; rw [hd] at h5; injection h5 with h5; omega)
        refine ⟨fun v hv => ?_, ((HO.out.trans HO1.out (fun r hr e => by omega)).trans HW2.out.2 (fun r hr e => by subst e; exact .inr ⟨s, HC.out.1⟩)).trans o3 (fun r hr e => by subst e; exact .inl H1.out)⟩
        rcases HA.out v with ⟨e1, e2, e3⟩ | ⟨e1, e2⟩
        · exact .inl ⟨e1, e2, tr v hv _ _ e3⟩
        · exact .inr ⟨e1, tr v hv _ _ e2⟩
      have STK : Hid (∀ v, (fun z : Lit => left z && !z.sameKey (.string s)) (.string v) = (left (.string v) && !decide (v = s))) := fun v => strike
      by_cases hz : m = 0
      · subst hz
        go_wp2_with (at_delete; refine wpList_delete_ranges _ rfl _ _ 73 9 rfl 95 keyS Try.underlying73 refElem b w.heap.size n _ _ _ rfl hrg2 _ (.string s) rfl (Go.WideMaps.keyOf_string_mk Try.underlying9 (s := B s) (by rw [B_size]; exact hs)) ?_; intro w3 cnt3 hrg3 hle hturn; go_frame)
        rw [strike_twice] at hrg3
        have o3 : Only (· = b) w2 w3 := (Only.refl _ w2).grown hturn.grown (fun j hj => by cases hj; exact .inl rfl)
        obtain ⟨p1, p2⟩ := OTH.out w3 o3
        go_roundw
        case rel =>
          refine ⟨_, cnt3, _, _, hrg3, HD.out.del s, fun v => ?_, p2⟩
          rw [STK.out v]
          by_cases hv : v = s
          · subst hv
            rw [if_pos rfl]
            refine .inr ⟨by simp, fun i => ?_⟩
            have := HM.out.1 (by first | exact rfl | trivial) i
            unfold outV; exact this
          · rw [if_neg hv]
            have := p1 v hv
            simpa [hv] using this
        case measure => rw [hrg3.left_eq, hrg.left_eq]; omega
      · obtain ⟨m, rfl⟩ : ∃ q, m = q + 1 := ⟨m - 1, by omega⟩
        go_wp2_with fail
        obtain ⟨p1, p2⟩ := OTH.out w2 (Only.refl _ _)
        go_roundw
        case rel =>
          refine ⟨_, cnt1, _, _, hrg2, HD.out, fun v => ?_, p2⟩
          rw [STK.out v]
          by_cases hv : v = s
          · subst hv
            refine .inr ⟨by simp, ?_⟩
            rw [HS.out.2.1]
            refine ⟨HC.out.1, HC.out.2.1, HW2.out.1, ?_⟩
            have := fun e => hz (HM.out.2 e)
            exact Classical.byContradiction fun hn => this fun i => by
              have : ¬ 0 < (if i = id then 0 else f v i) := fun e => hn ⟨i, e⟩
              omega
          · have := p1 v hv
            simpa [hv] using this
        case measure => rw [hrg2.left_eq, hrg.left_eq]; exact hlt
end Go.Proofs.Ytiebbgbcojgeoaa

namespace Go.Proofs.Ytiebbgbcojgeoaa
open Go.RowKit Go.Maps Go.Sort Go.Shelf

def sortZ (xs : List Int) : List Int := xs.mergeSort fun x y => decide (x ≤ y)
theorem sortZ_perm (xs : List Int) : (sortZ xs).Perm xs := List.mergeSort_perm _ _
theorem sortZ_le (xs : List Int) : (sortZ xs).Pairwise fun x y => x ≤ y := by
  have := List.pairwise_mergeSort (le := fun x y : Int => decide (x ≤ y)) (fun a b c h1 h2 => by simp at h1 h2 ⊢; omega) (fun a b => by simp; omega) xs
  exact this.imp fun h => by simpa using h
theorem sortZ_same {xs : List Int} (h : xs.Pairwise fun x y => x ≤ y) : sortZ xs = xs := List.mergeSort_of_pairwise (h.imp fun h => by simpa using h)
theorem sortZ_eq {xs ys : List Int} (h : xs.Perm ys) : sortZ xs = sortZ ys :=
  List.Perm.eq_of_pairwise (le := fun x y : Int => x ≤ y) (fun a b _ _ h1 h2 => by omega) (sortZ_le xs) (sortZ_le ys) (((sortZ_perm xs).trans h).trans (sortZ_perm ys).symm)
theorem compact_mem (zs : List Int) (x : Int) : x ∈ Lib.compact zs ↔ x ∈ zs := by
  unfold Lib.compact Lib.compactUpTo
  rw [List.mem_map]
  constructor
  · rintro ⟨j, hj, rfl⟩
    have h1 := List.mem_range.1 (List.mem_filter.1 hj).1
    rw [getElem!_pos zs.toArray j (by simpa using h1)]
    simp
  · intro hx
    obtain ⟨j, hj⟩ : ∃ j, zs.idxOf x = j := ⟨_, rfl⟩
    have hlt : j < zs.length := by rw [← hj]; exact List.idxOf_lt_length_of_mem hx
    have hat : zs[j] = x := by subst hj; exact List.getElem_idxOf _
    refine ⟨j, List.mem_filter.2 ⟨List.mem_range.2 hlt, ?_⟩, by rw [getElem!_pos zs.toArray j (by simpa using hlt)]; simpa using hat⟩
    unfold Lib.keeps
    simp only [decide_eq_true_eq]
    by_cases h0 : j = 0
    · exact .inl h0
    · refine .inr ?_
      rw [getElem!_pos zs.toArray j (by simpa using hlt), getElem!_pos zs.toArray (j - 1) (by simp; omega)]
      simp only [List.getElem_toArray, ne_eq]
      intro e
      have : zs[j - 1] = x := e.symm.trans hat
      have hm : x ∈ zs.take j := by rw [← this]; exact List.mem_take_iff_getElem.2 ⟨j - 1, by omega, rfl⟩
      have := List.idxOf_lt_length_of_mem hm
      have h5 : (zs.take j).idxOf x = zs.idxOf x := by
        have := List.idxOf_append (l₁ := zs.take j) (l₂ := zs.drop j) (a := x)
        rw [List.take_append_drop, if_pos hm] at this
        exact this.symm
      rw [h5, hj, List.length_take] at this
      omega
theorem compact_lt {zs : List Int} (h : zs.Pairwise fun x y => x ≤ y) : (Lib.compact zs).Pairwise fun x y => x < y := by
  unfold Lib.compact Lib.compactUpTo
  refine List.pairwise_map.2 ?_
  refine (List.pairwise_lt_range.filter _).imp_of_mem ?_
  intro i j hi hj hij
  have h1 := List.mem_range.1 (List.mem_filter.1 hi).1
  have h2 := List.mem_range.1 (List.mem_filter.1 hj).1
  have h3 := (List.mem_filter.1 hj).2
  unfold Lib.keeps at h3
  simp only [decide_eq_true_eq] at h3
  rw [getElem!_pos zs.toArray i (by simpa using h1), getElem!_pos zs.toArray j (by simpa using h2)]
  rw [getElem!_pos zs.toArray j (by simpa using h2), getElem!_pos zs.toArray (j - 1) (by simp; omega)] at h3
  simp only [List.getElem_toArray, ne_eq] at h3 ⊢
  have h4 : zs[j] ≠ zs[j - 1] := by
    rcases h3 with h3 | h3
    · omega
    · exact h3
  have h5 : zs[j - 1] ≤ zs[j] := List.pairwise_iff_getElem.1 h (j - 1) j (by omega) h2 (by omega)
  have h6 : zs[i] ≤ zs[j - 1] := by
    by_cases e : i = j - 1
    · subst e; exact Int.le_refl _
    · exact List.pairwise_iff_getElem.1 h i (j - 1) h1 (by omega) (by omega)
  omega
theorem compact_nodup {zs : List Int} (h : zs.Pairwise fun x y => x ≤ y) : (Lib.compact zs).Nodup := (compact_lt h).imp fun h e => by omega
theorem compact_sorted {zs : List Int} (h : zs.Pairwise fun x y => x ≤ y) : (Lib.compact zs).Pairwise fun x y => x ≤ y := (compact_lt h).imp fun h => by omega
theorem ownsRow_cut {W : World} {base g cap n m : Nat} {e : TypeId} {xs : List Value} (h : W.ownsRow base e 1 (.slice (some ⟨g, 0, none⟩) n cap) n xs) (hm : m ≤ n) : W.ownsRow base e 1 (.slice (some ⟨g, 0, none⟩) m cap) m (xs.take m) := by
  have h1 := h.1
  refine ⟨by rw [List.length_take]; omega, ?_⟩
  rcases h.2 with ⟨q, _⟩ | ⟨g', cap', cur, q, hb, hg, r1, r2, r3, r4⟩
  · cases q
  · cases q
    refine .inr ⟨g, cap, cur, rfl, hb, hg, by omega, r2, r3, ?_⟩
    rw [← r4, List.take_take]
    congr 1; omega
theorem sortI_row (lo : Nat) (v : Value) (xs : List Int) (w : World) (hv : w.ownsRow lo 3 1 v xs.length (xs.map encZ)) (hn : xs.length < 4611686018427387904) :
    Calls Try.prog 51 #[v] w fun e w' => e = .returned (.tuple #[]) ∧ w'.ownsRow lo 3 1 v xs.length ((sortZ xs).map encZ) ∧ Only (fun r => v.ownBlock = some r) w w' := by
  rcases hv.2 with ⟨rfl, h0⟩ | ⟨g, cap, cur, rfl, hb, hg, r1, r2, r3, r4⟩
  · have : xs = [] := List.eq_nil_of_length_eq_zero h0
    subst this
    refine (AnyM.slices_Sort_int_none Try.sortI none 0 w).mono ?_
    rintro e w' ⟨rfl, rfl⟩
    exact ⟨rfl, by rw [show sortZ [] = [] from List.mergeSort_nil]; exact hv, Only.refl _ _⟩
  · have hH : Holds encZ w g 0 xs.toArray := holds_of_block_i hg (by simpa using r4)
    refine (AnyM.slices_Sort_int Try.sortI g 0 cap xs w hH (Array.getElem?_eq_some_iff.1 hg).1 hn).mono ?_
    rintro e w' ⟨rfl, q, os, rfl⟩
    exact ⟨rfl, ownsRow_sorted_i (ts := sortZ xs) (sortZ_perm xs).length_eq hb hg r1 r2 r3, (Only.refl _ w).grown (grownBy_sorted_i _) (fun k hk => .inl hk)⟩
theorem compI_row (lo : Nat) (v : Value) (xs : List Int) (w : World) (hv : w.ownsRow lo 3 1 v xs.length (xs.map encZ)) (hn : xs.length < 4611686018427387904) :
    Calls Try.prog 52 #[v] w fun e w' => ∃ u, e = .returned u ∧ w'.ownsRow lo 3 1 u (Lib.compact xs).length ((Lib.compact xs).map encZ) ∧ (u = .slice none 0 0 ↔ v = .slice none 0 0) ∧ Only (fun r => v.ownBlock = some r) w w' := by
  rcases hv.2 with ⟨rfl, h0⟩ | ⟨g, cap, cur, rfl, hb, hg, r1, r2, r3, r4⟩
  · have : xs = [] := List.eq_nil_of_length_eq_zero h0
    subst this
    refine (AnyG.slices_Compact_int_empty Try.compI none 0 w).mono ?_
    rintro e w' ⟨rfl, rfl⟩
    exact ⟨_, rfl, hv, Iff.rfl, Only.refl _ _⟩
  · have hH : Holds encZ w g 0 xs.toArray := holds_of_block_i hg (by simpa using r4)
    refine (AnyG.slices_Compact_int Try.compI g 0 cap xs w hH (by omega) r1).mono ?_
    rintro e w' ⟨rfl, q, rfl⟩
    have hle := Lib.compact_length_le xs
    have hlen : (Lib.compact xs ++ List.replicate (xs.length - (Lib.compact xs).length) 0).length = xs.length := by simp; omega
    have e0 : putRow (Value.int .i64) (Sort.ahead w q) g 0 (Lib.compact xs ++ List.replicate (xs.length - (Lib.compact xs).length) 0).toArray = grow (putRow encZ (Sort.ahead w q) g 0 (Lib.compact xs ++ List.replicate (xs.length - (Lib.compact xs).length) 0).toArray) #[] := by rw [grow_empty]
    have hrow := ownsRow_cut (ownsRow_sorted_i (w := w) (n := q) (os := #[]) (ts := Lib.compact xs ++ List.replicate (xs.length - (Lib.compact xs).length) 0) hlen hb hg r1 r2 r3) hle
    have hcut : ((Lib.compact xs ++ List.replicate (xs.length - (Lib.compact xs).length) 0).map encZ).take (Lib.compact xs).length = (Lib.compact xs).map encZ := by
      rw [List.map_append]
      have := List.take_left (l₁ := (Lib.compact xs).map encZ) (l₂ := (List.replicate (xs.length - (Lib.compact xs).length) (0 : Int)).map encZ)
      rwa [List.length_map] at this
    rw [hcut] at hrow
    refine ⟨_, rfl, by rw [e0]; exact hrow, ⟨(fun e => by cases e), (fun e => by cases e)⟩, by rw [e0]; exact (Only.refl _ w).grown (grownBy_sorted_i _) (fun k hk => .inl hk)⟩
end Go.Proofs.Ytiebbgbcojgeoaa

namespace Go.Proofs.Ytiebbgbcojgeoaa
open Go.RowKit Go.Maps Go.Sort Go.Shelf

/-- The numbers that have a value that is asked for. -/
def HavR (p : List UInt8 → Bool) (f : List UInt8 → Int → Nat) (w : World) (e : Ending) (w' : World) : Prop :=
  ∃ v ss, e = .returned v ∧ ss.Nodup ∧ (∀ i, i ∈ ss ↔ ∃ s, p s = true ∧ 0 < f s i) ∧ AnsI w w' v ss
/-- A row of numbers, new since w. -/
structure AllI (w W : World) (v : Value) (xs : List Int) : Prop where
  row : W.ownsRow w.heap.size 3 1 v xs.length (xs.map encZ)
  nil : v = .slice none 0 0 ↔ xs = []
  below : Below w.heap.size w W
theorem AllI.turn {w W W' : World} {v : Value} {xs : List Int} (h : AllI w W v xs) (o : Only (fun r => w.heap.size ≤ r ∧ ∃ ob : Obj, W.heap[r]? = some ob ∧ ob.isCells = false) W W') : AllI w W' v xs := by
  refine ⟨row_only h.row o (fun b hb ⟨_, ob, ho, hc⟩ => ?_), h.nil, h.below.trans (o.to_below h.below.size (fun r hr q => by omega))⟩
  obtain ⟨cur, hcur⟩ := row_cells h.row hb
  rw [ho] at hcur
  cases hcur
  cases hc
theorem ranges_same {w w' : World} {b r n : Nat} {D : DataW Unit} {left : Lit → Bool} {cnt : Nat} {R : Value → Option (DataW Unit × List MemPlace)} {k : TypeId} (h : w.ranges Try.prog k R b r n D left cnt) (hb : w'.heap[b]? = w.heap[b]?) (hr : w'.heap[r]? = w.heap[r]?) : w'.ranges Try.prog k R b r n D left cnt := by
  obtain ⟨es, clock, since, seen, c0, q1, F, hs, hD, q2, rest⟩ := h
  exact ⟨es, clock, since, seen, c0, hb.trans q1, F, hs, hD, hr.trans q2, rest⟩
theorem ranges_objs {w : World} {b r n : Nat} {D : DataW Unit} {left : Lit → Bool} {cnt : Nat} {R : Value → Option (DataW Unit × List MemPlace)} {k : TypeId} (h : w.ranges Try.prog k R b r n D left cnt) : (∃ o : Obj, w.heap[b]? = some o ∧ o.isCells = false) ∧ ∃ o : Obj, w.heap[r]? = some o ∧ o.isCells = false := by
  obtain ⟨es, clock, since, seen, c0, q1, F, hs, hD, q2, rest⟩ := h
  exact ⟨⟨_, q1, rfl⟩, ⟨_, q2, rfl⟩⟩
set_option maxRecDepth 100000 in
set_option maxHeartbeats 1000000 in
/-- Behind the loop: sorted, each once. -/
theorem hav_end {w W : World} {v : Value} {xs : List Int} (h : AllI w W v xs) (hlen : xs.length ≤ 1000000000000) :
    Calls Try.prog 51 #[v] W fun e w1 => e = .returned (.tuple #[]) ∧ Calls Try.prog 52 #[v] w1 fun e w2 => ∃ u, e = .returned u ∧ (Lib.compact (sortZ xs)).Nodup ∧ (∀ i, i ∈ Lib.compact (sortZ xs) ↔ i ∈ xs) ∧ AnsI w w2 u (Lib.compact (sortZ xs)) := by
  refine (sortI_row w.heap.size v xs W h.row (by omega)).mono ?_
  rintro e w1 ⟨rfl, r1, o1⟩
  refine ⟨rfl, ?_⟩
  have hl := (sortZ_perm xs).length_eq
  rw [← hl] at r1
  refine (compI_row w.heap.size v (sortZ xs) w1 r1 (by omega)).mono ?_
  rintro e w2 ⟨u, rfl, r2, hn, o2⟩
  have hs := sortZ_le xs
  refine ⟨u, rfl, compact_nodup hs, fun i => by rw [compact_mem, (sortZ_perm xs).mem_iff], ?_, ?_, ?_⟩
  · have : (Lib.compact (sortZ xs)).mergeSort (fun x y => decide (x ≤ y)) = Lib.compact (sortZ xs) := sortZ_same (compact_sorted hs)
    rw [this]; exact r2
  · rw [hn, h.nil]
    constructor
    · intro e; subst e; rw [show sortZ [] = [] from List.mergeSort_nil]; rfl
    · intro e
      cases xs with
      | nil => rfl
      | cons a t =>
        have : a ∈ Lib.compact (sortZ (a :: t)) := by rw [compact_mem, (sortZ_perm _).mem_iff]; exact List.mem_cons_self
        rw [e] at this; cases this
  · have hge : ∀ r, v.ownBlock = some r → ¬ r < w.heap.size := fun r e q => by have := (h.row.lt r e).1; omega
    have hsz := h.below.size
    exact h.below.trans ((o1.trans o2 (fun r _ e => e)).to_below hsz (fun r hr e => hge r e hr))
set_option maxRecDepth 100000 in
set_option maxHeartbeats 4000000 in
theorem having_any {w : World} {T : Nat → Tag} {lo n : Nat} {k : List UInt8} {c : Option Nat} {f : List UInt8 → Int → Nat} (h : KeyAt w T lo n k c f) (hn : n ≤ 1000000) (g : Nat) (cb : Array Value) (p : List UInt8 → Bool) (eg : ∀ args w, (callFunc g args).run Try.prog w = .ok (.enter g args) w)
    (hask : ∀ (W : World) (s : List UInt8), Below w.heap.size w W → s.length ≤ maxLen → Calls Try.prog g (#[.string (B s)] ++ cb) W fun e w' => e = .returned (.bool (p s)) ∧ Only (fun _ => False) W w') :
    Calls Try.prog 37 #[.map c, .func (.func g) #[] cb] w (HavR p f w) := by
  have HASK := Lib.hid hask
  clear hask
  cases c with
  | none =>
    have HK : Hid (∀ s i, f s i = 0) := h
    clear h
    have hrg := run_range_nilMap (P := Try.prog) w 73 9 95 Try.underlying73
    have hnx : ∀ ty, (Instr.next (.pointer (some ⟨w.heap.size, 0, none⟩)) false ty).run Try.prog (w.alloc (.mapIter none 0 #[] 0)) = _ := fun ty => run_next_nilMap w ty 0 0 #[]
    have HE := Lib.hid (hav_end (w := w) (W := w.alloc (.mapIter none 0 #[] 0)) (v := .slice none 0 0) (xs := []) ⟨⟨rfl, .inl ⟨rfl, rfl⟩⟩, ⟨fun _ => rfl, fun _ => rfl⟩, (Below.refl _ w).alloc (Nat.le_refl _) _⟩ (by decide))
    go_enter Try.func37, Try.ntmps37
    go_wp2_with fail
    refine wp_loop_rounds 1 ?_
    rw [rounds_succ]
    go_wp2_with fail
    refine HE.out.mono ?_
    rintro e w1 ⟨rfl, hc⟩
    have HC := Lib.hid hc
    clear hc
    go_wp2_with fail
    refine HC.out.mono ?_
    rintro e w2 ⟨u, rfl, h1, h2, h3⟩
    obtain ⟨ua, uc, rfl, _⟩ := row_sliceZ h3.1
    have H3 := Lib.hid (And.intro h1 (And.intro h2 h3))
    clear h1 h2 h3
    go_wp2_with fail
    go_ret
    refine ⟨_, _, rfl, H3.out.1, fun i => ?_, H3.out.2.2⟩
    rw [H3.out.2.1]
    exact ⟨fun e => (by cases e), fun ⟨s, _, e⟩ => by have := HK.out s i; omega⟩
  | some b =>
    obtain ⟨⟨_, _, gg, h1, h2⟩, _⟩ := h
    obtain ⟨D, hown, hrd⟩ := h1.reads
    have HR := Lib.hid hrd
    have H2 := Lib.hid h2
    have hbl := hown.lt
    have hmm := ‹∀ args w, (callFunc g args).run Try.prog w = .ok (.enter g args) w›
    have HSZ := Lib.hid hown.size_le
    clear h1 h2 hrd
    go_enter Try.func37, Try.ntmps37
    go_wp2_with (at_range; refine wpList_range_own _ rfl _ 73 rfl 9 95 keyS Try.underlying73 _ b n _ rfl hown ?_; intro w0 hrg0 hg0 hs0)
    go_frame
    go_loopw [5] (fun uv wr => ∃ (left : Lit → Bool) (cnt : Nat) (v : Value) (xs : List Int), uv = v ∧ wr.ranges Try.prog 9 refElem b w.heap.size n D left cnt ∧ AllI w wr v xs ∧ xs.length + cnt * n ≤ Maps.size D * n ∧
        (∀ i, i ∈ xs ↔ ∃ s, has D (.string s) = true ∧ left (.string s) = false ∧ p s = true ∧ 0 < f s i)) (fun _ wr => wr.rangeLeft b w.heap.size)
    case atStart =>
      refine ⟨_, _, _, [], rfl, hrg0, ⟨⟨rfl, .inl ⟨rfl, rfl⟩⟩, ⟨fun _ => rfl, fun _ => rfl⟩, (Below.refl _ w).grown hg0 (Nat.le_refl _) (fun k hk => by cases hk)⟩, by simp, fun i => ⟨fun e => (by cases e), fun ⟨s, e1, e2, _⟩ => by rw [e1] at e2; cases e2⟩⟩
    case round =>
      obtain ⟨left, cnt, v, xs, rfl, hrg, hall, hlen, hmem⟩ := hrel
      obtain ⟨va, vc, rfl, hvc⟩ := row_sliceZ hall.row
      have HA := Lib.hid hall
      have HM := Lib.hid hmem
      have HL := Lib.hid hlen
      clear hall hmem hlen
      go_wp2_with (at_next; refine wpList_next_sr _ rfl _ rfl b w.heap.size n _ _ _ rfl hrg HR.out ?_ ?_)
      · intro _ hl0
        have HL0 := Lib.hid hl0
        clear hl0
        have hxl : xs.length ≤ 1000000000000 := by
          have h1 := HL.out
          have h2 := HSZ.out
          have h3 : Maps.size D * n ≤ 1000000 * 1000000 := Nat.mul_le_mul (by omega) hn
          omega
        have HE := Lib.hid (hav_end HA.out hxl)
        go_wp2_with fail
        refine HE.out.mono ?_
        rintro e w1 ⟨rfl, hc⟩
        have HC := Lib.hid hc
        clear hc
        go_wp2_with fail
        refine HC.out.mono ?_
        rintro e w2 ⟨u, rfl, h1, h2, h3⟩
        obtain ⟨ua, uc, rfl, _⟩ := row_sliceZ h3.1
        have H3 := Lib.hid (And.intro h1 (And.intro h2 h3))
        clear h1 h2 h3
        go_wp2_with fail
        go_ret
        refine ⟨_, _, rfl, H3.out.1, fun i => ?_, H3.out.2.2⟩
        rw [H3.out.2.1, HM.out]
        constructor
        · rintro ⟨s, _, _, e3, e4⟩; exact ⟨s, e3, e4⟩
        · rintro ⟨s, e3, e4⟩
          refine ⟨s, ?_, HL0.out _, e3, e4⟩
          rw [HR.out.1]
          have := H2.out s
          cases hgs : gg s with
          | some c => rfl
          | none => rw [hgs] at this; have := this i; omega
      · intro s c w1 cnt1 hs hl hgs hrg1 hlt hg1 hs1 hen
        have hbw1 : Below w.heap.size w w1 := HA.out.below.grown hg1 HA.out.below.size (fun k hk => by cases hk; exact Nat.le_refl _)
        have A1 : AllI w w1 (.slice va xs.length vc) xs := HA.out.turn ((Only.refl _ wr).grown hg1 (fun k hk => by cases hk; exact .inl ⟨Nat.le_refl _, (ranges_objs hrg).2⟩))
        have HS := Lib.hid (And.intro hl hgs)
        have HK1 := Lib.hid (HASK.out w1 s hbw1 hs)
        have HA1 := Lib.hid A1
        have HB1 := Lib.hid hbw1
        have HLT := Lib.hid hlt
        -- the number of those still to come
        have CNT : Hid (∀ m, m ≤ n → xs.length + m + cnt1 * n ≤ Maps.size D * n) := fun m hm => by
          have h1 := HL.out
          have h2 : (cnt1 + 1) * n ≤ cnt * n := Nat.mul_le_mul_right n (by have := HLT.out; omega)
          rw [Nat.succ_mul] at h2
          omega
        have STK : Hid (∀ v, (fun z : Lit => left z && !z.sameKey (.string s)) (.string v) = (left (.string v) && !decide (v = s))) := fun v => strike
        clear A1 hbw1 hs1 hl hgs hlt
        -- membership behind the round
        have MEM : Hid (∀ v, (left (.string v) && !decide (v = s)) = false ↔ (left (.string v) = false ∨ v = s)) := fun v => by
          by_cases e : v = s
          · simp [e]
          · simp [e]
        have HOLD : Hid (HoldAt w T lo k s n (some c) (f s)) := by
          have := H2.out s; rw [HS.out.2] at this; exact this
        cases hp : p s with
        | false =>
          rw [hp] at HK1
          go_wp2_with (go_at_fn g; refine HK1.out.mono ?_; rintro e w2 ⟨rfl, o2⟩)
          have hrg2 := ranges_same hrg1 (o2.same b hrg1.owns.lt (fun h => h)) (o2.same _ hrg1.lt (fun h => h))
          go_roundw
          case rel =>
            refine ⟨_, cnt1, _, xs, rfl, hrg2, HA1.out.turn (o2.mono fun _ _ h => h.elim), CNT.out 0 (Nat.zero_le _), fun i => ?_⟩
            rw [HM.out]
            constructor
            · rintro ⟨s', e1, e2, e3⟩
              exact ⟨s', e1, by rw [STK.out, MEM.out]; exact .inl e2, e3⟩
            · rintro ⟨s', e1, e2, e3, e4⟩
              rw [STK.out, MEM.out] at e2
              rcases e2 with e2 | e2
              · exact ⟨s', e1, e2, e3, e4⟩
              · subst e2; rw [hp] at e3; cases e3
          case measure => rw [hrg2.left_eq, hrg.left_eq]; exact HLT.out
        | true =>
          rw [hp] at HK1
          have HP := Lib.hid hp
          clear hp
          go_wp2_with (go_at_fn g; refine HK1.out.mono ?_; rintro e w2 ⟨rfl, o2⟩)
          have hrg2 := ranges_same hrg1 (o2.same b hrg1.owns.lt (fun h => h)) (o2.same _ hrg1.lt (fun h => h))
          have A2 := HA1.out.turn (o2.mono fun _ _ h => h.elim)
          refine ((callsIn_wide (n := 5)).1 (keysH_call (some c) w2)).mono ?_
          rintro e w3 ⟨rfl, hw3⟩
          have o3 : Only (fun _ => False) w2 w3 := by rw [hw3]; exact (Only.refl _ _).alloc _
          have hm3 : w3.cell? ⟨w2.heap.size, 0, none⟩ = some (.map (some c)) := by rw [hw3]; exact (Cells.new w2 _ _).cell 0
          have hs3 : w2.heap.size < w3.heap.size := by rw [hw3]; simp
          have hrg3 := ranges_same hrg2 (o3.same b hrg2.owns.lt (fun h => h)) (o3.same _ hrg2.lt (fun h => h))
          have A3 := A2.turn (o3.mono fun _ _ h => h.elim)
          obtain ⟨_, _, hc, i0, hi0⟩ := HOLD.out.turn (Only.of_below A3.below (Nat.le_refl _) : Only (fun _ => False) w w3) (T' := T) (fun _ _ => rfl) (fun _ _ h => h)
          obtain ⟨Dc, hoc, hh, _⟩ := has_i64 hc
          obtain ⟨nd, mm⟩ := intKeys_mem hoc
          have hkl : (intKeys Dc).length = Maps.size Dc := by
            obtain ⟨es, rfl, _, _⟩ := hoc.entries keyI
            show (es.map _).length = es.length
            rw [List.length_map]
          have hcs := hoc.size_le
          have hxl : xs.length + Maps.size Dc ≤ 10000000000000 := by
            have h1 := CNT.out (Maps.size Dc) hcs
            have h2 := HSZ.out
            have h3 : Maps.size D * n ≤ 1000000 * 1000000 := Nat.mul_le_mul (by omega) hn
            omega
          have AP := Lib.hid (appendSeq_any w.heap.size _ xs w3 A3.row A3.below.size w2.heap.size c n Dc hs3 hm3 hoc hxl)
          have HC := Lib.hid (And.intro hh (And.intro nd (And.intro mm (And.intro hkl hcs))))
          have HA3 := Lib.hid A3
          have HI0 := Lib.hid hi0
          clear hh nd mm hkl hcs A3 A2 o3 hm3 hs3 hxl hc hoc hi0 hw3
          go_wp2_with fail
          refine AP.out.mono ?_
          rintro e w4 ⟨u, ss, rfl, hperm, hrow, o4⟩
          obtain ⟨ys, hys⟩ : ∃ ys, ys = xs ++ ss := ⟨_, rfl⟩
          rw [← hys] at hrow
          obtain ⟨ua, uc, rfl, huc⟩ := row_sliceZ hrow
          have HY := Lib.hid hys
          have HROW := Lib.hid hrow
          have HPM := Lib.hid hperm
          have hne : ∀ q : Nat, (∃ o : Obj, w3.heap[q]? = some o ∧ o.isCells = false) → ¬ (Value.slice va xs.length vc).ownBlock = some q := fun q ⟨o, ho, hc⟩ e => by
            obtain ⟨cur, hcur⟩ := row_cells HA3.out.row e
            rw [ho] at hcur
            cases hcur
            cases hc
          have hrg4 := ranges_same hrg3 (o4.same b hrg3.owns.lt (hne _ (ranges_objs hrg3).1)) (o4.same _ hrg3.lt (hne _ (ranges_objs hrg3).2))
          have HO4 := Lib.hid o4
          clear hys hrow hperm o4 hne
          have hss : ∀ x, x ∈ ss ↔ 0 < f s x := fun x => by rw [HPM.out.mem_iff, HC.out.2.2.1, HC.out.1]
          have HSS := Lib.hid hss
          clear hss
          go_wp2_with fail
          go_roundw
          case rel =>
            refine ⟨_, cnt1, _, ys, rfl, hrg4, ⟨HROW.out, ⟨fun e => ?_, fun e => ?_⟩, HA3.out.below.trans (HO4.out.to_below HA3.out.below.size (fun r hr e => by have := (HA3.out.row.lt r e).1; omega))⟩, ?_, fun i => ?_⟩
            · have hl := HROW.out.2
              rcases hl with ⟨_, h0⟩ | ⟨g', _, _, q, _⟩
              · exact List.eq_nil_of_length_eq_zero h0
              · rw [e] at q; cases q
            · have : i0 ∈ ss := (HSS.out i0).2 HI0.out
              have h5 : i0 ∈ ys := by rw [HY.out]; exact List.mem_append_right _ this
              rw [e] at h5; cases h5
            · have h1 := CNT.out ss.length (by rw [HPM.out.length_eq, HC.out.2.2.2.1]; exact HC.out.2.2.2.2)
              rw [HY.out, List.length_append]; exact h1
            · rw [HY.out, List.mem_append, HM.out, HSS.out]
              constructor
              · rintro (⟨s', e1, e2, e3⟩ | e)
                · exact ⟨s', e1, by rw [STK.out, MEM.out]; exact .inl e2, e3⟩
                · exact ⟨s, by rw [HR.out.1, HS.out.2]; rfl, by rw [STK.out, MEM.out]; exact .inr rfl, HP.out, e⟩
              · rintro ⟨s', e1, e2, e3, e4⟩
                rw [STK.out, MEM.out] at e2
                rcases e2 with e2 | e2
                · exact .inl ⟨s', e1, e2, e3, e4⟩
                · subst e2; exact .inr e4
          case measure => rw [hrg4.left_eq, hrg.left_eq]; exact HLT.out
end Go.Proofs.Ytiebbgbcojgeoaa

