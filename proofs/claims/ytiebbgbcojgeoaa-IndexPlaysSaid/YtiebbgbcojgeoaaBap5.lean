/- Texts put together: IT, IO, IP, IU. -/
import Derived.Laws.Cover1
import Derived.Test.YtiebbgbcojgeoaaBap2
import Derived.Test.YtiebbgbcojgeoaaBap4
set_option linter.unusedVariables false
namespace Go.Proofs.Ytiebbgbcojgeoaa
open Go.RowKit Go.Maps Go.Sort Go.Shelf

theorem row_lower {W : World} {base base' : Nat} {e : TypeId} {size : Nat} {v : Value} {n : Nat} {xs : List Value} (h : W.ownsRow base e size v n xs) (hb : base' ≤ base) : W.ownsRow base' e size v n xs := by
  refine ⟨h.1, ?_⟩
  rcases h.2 with hn | ⟨g, cap, cur, hv, hg, rest⟩
  · exact .inl hn
  · exact .inr ⟨g, cap, cur, hv, Nat.le_trans hb hg, rest⟩
theorem AnsI.later {w w1 w2 : World} {v : Value} {ss : List Int} (h : AnsI w1 w2 v ss) (hb : Below w.heap.size w w1) : AnsI w w2 v ss := ⟨row_lower h.1 hb.size, h.2.1, hb.trans (h.2.2.mono hb.size)⟩
theorem AnsS.later {w w1 w2 : World} {v : Value} {ss : List (List UInt8)} (h : AnsS w1 w2 v ss) (hb : Below w.heap.size w w1) : AnsS w w2 v ss := ⟨row_lower h.1 hb.size, h.2.1, hb.trans (h.2.2.mono hb.size)⟩
theorem leS (a b : ByteArray) : (Op.bytesLess a.toList b.toList || a.toList == b.toList) = decide (a.data.toList ≤ b.data.toList) := by
  rw [Lib.toList_data, Lib.toList_data, bytesLess_eq]
  rw [Bool.eq_iff_iff]
  simp only [Bool.or_eq_true, decide_eq_true_eq, beq_iff_eq]
  exact List.le_iff_lt_or_eq.symm
set_option maxRecDepth 100000 in
set_option maxHeartbeats 1000000 in
theorem with1_any (s : ByteArray) (w : World) : Calls Try.prog 38 #[.string s] w fun e w' => e = .returned (.bool true) ∧ w' = w := by
  go_enter Try.func38, Try.ntmps38
  go_wp2_with fail
  go_ret
  exact ⟨rfl, rfl⟩
set_option maxRecDepth 100000 in
set_option maxHeartbeats 1000000 in
theorem between1_any (s a b : ByteArray) (pa pb : Nat) (w : World) (ha : w.cell? ⟨pa, 0, none⟩ = some (.string a)) (hb : w.cell? ⟨pb, 0, none⟩ = some (.string b)) : Calls Try.prog 41 #[.string s, .pointer (some ⟨pa, 0, none⟩), .pointer (some ⟨pb, 0, none⟩)] w fun e w' => e = .returned (.bool (decide (a.data.toList ≤ s.data.toList) && decide (s.data.toList ≤ b.data.toList))) ∧ w' = w := by
  have h1 := leS a s
  have h2 := leS s b
  cases hd : decide (a.data.toList ≤ s.data.toList) with
  | false =>
    rw [hd] at h1
    have H2 := Lib.hid h2
    clear h2
    go_enter Try.func41, Try.ntmps41
    go_wp2_with fail
    go_ret
    exact ⟨rfl, rfl⟩
  | true =>
    rw [hd] at h1
    have H2 := Lib.hid h2
    clear h2
    go_enter Try.func41, Try.ntmps41
    go_wp2_with fail
    go_ret
    exact ⟨congrArg (fun x => Ending.returned (.bool x)) (by first | exact H2.out | (rw [Bool.true_and]; exact H2.out)), rfl⟩
/-- Of a slice of a literal: the closure's call. -/
theorem with1_ask (w0 : World) (W : World) (s : List UInt8) : Calls Try.prog 38 (#[.string (B s)] ++ #[]) W fun e w' => e = .returned (.bool ((fun _ => true : List UInt8 → Bool) s)) ∧ Only (fun _ => False) W w' := by
  refine (with1_any (B s) W).mono ?_
  rintro e w' ⟨rfl, rfl⟩
  exact ⟨rfl, Only.refl _ _⟩
def betw (a b s : List UInt8) : Bool := decide (a ≤ s) && decide (s ≤ b)
theorem between1_ask (a b : ByteArray) (pa pb : Nat) (W : World) (s : List UInt8) (ha : W.cell? ⟨pa, 0, none⟩ = some (.string a)) (hb : W.cell? ⟨pb, 0, none⟩ = some (.string b)) : Calls Try.prog 41 (#[.string (B s)] ++ #[.pointer (some ⟨pa, 0, none⟩), .pointer (some ⟨pb, 0, none⟩)]) W fun e w' => e = .returned (.bool (betw a.data.toList b.data.toList s)) ∧ Only (fun _ => False) W w' := by
  refine (between1_any (B s) a b pa pb W ha hb).mono ?_
  rintro e w' ⟨rfl, rfl⟩
  exact ⟨by rw [B_data]; rfl, Only.refl _ _⟩
set_option maxRecDepth 100000 in
set_option maxHeartbeats 1000000 in
theorem idxWith {w : World} {T : Nat → Tag} {lo x kb yb n : Nat} {ids : Int → Bool} {F : List UInt8 → List UInt8 → Int → Nat} (h : IdxAt w T lo x kb yb n ids F) (hn : n ≤ 1000000) (k : ByteArray) (hk : k.size ≤ maxLen) :
    Calls Try.prog 19 #[.pointer (some ⟨x, 0, none⟩), .string k] w (HavR (fun _ => true) (F k.data.toList) w) := by
  have VO := Lib.hid (valuesOf_any h k hk)
  clear h
  go_enter Try.func19, Try.ntmps19
  go_wp2_with fail
  refine VO.out.mono ?_
  rintro e w' ⟨c, rfl, rfl, hkey⟩
  have HV := Lib.hid (having_any hkey hn 38 #[] (fun _ => true) (enters_of Try.func38 (by kernel_rfl) rfl) (fun W s _ _ => with1_ask w' W s))
  clear hkey
  go_wp2_with fail
  refine HV.out.mono ?_
  rintro e w2 ⟨v, ss, rfl, h1, h2, h3⟩
  obtain ⟨va, vc, rfl, _⟩ := row_sliceZ h3.1
  have H3 := Lib.hid (And.intro h1 (And.intro h2 h3))
  clear h1 h2 h3
  go_wp2_with fail
  go_ret
  exact ⟨_, ss, rfl, H3.out.1, fun i => by simpa using H3.out.2.1 i, H3.out.2.2⟩
set_option maxRecDepth 100000 in
set_option maxHeartbeats 1000000 in
theorem idxBetween {w : World} {T : Nat → Tag} {lo x kb yb n : Nat} {ids : Int → Bool} {F : List UInt8 → List UInt8 → Int → Nat} (h : IdxAt w T lo x kb yb n ids F) (hn : n ≤ 1000000) (k a b : ByteArray) (hk : k.size ≤ maxLen) :
    Calls Try.prog 21 #[.pointer (some ⟨x, 0, none⟩), .string k, .string a, .string b] w (HavR (betw a.data.toList b.data.toList) (F k.data.toList) w) := by
  have o2 : Only (fun _ => False) w ((w.alloc (.cells #[.string a] 9)).alloc (.cells #[.string b] 9)) := ((Only.refl _ w).alloc _).alloc _
  have hb2 : Below w.heap.size w ((w.alloc (.cells #[.string a] 9)).alloc (.cells #[.string b] 9)) := ((Below.refl _ w).alloc (Nat.le_refl _) _).alloc (by simp) _
  have VO := Lib.hid (valuesOf_any (h.turn o2 (fun _ _ => rfl) (fun _ _ h => h)) k hk)
  have cA := ((Cells.new w 9 #[.string a]).alloc (.cells #[.string b] 9))
  have cB : Cells ((w.alloc (.cells #[.string a] 9)).alloc (.cells #[.string b] 9)) (w.heap.size + 1) 9 #[.string b] := by
    have := Cells.new (w.alloc (.cells #[.string a] 9)) 9 #[.string b]
    simpa using this
  have HAB := Lib.hid (And.intro cA cB)
  have HB := Lib.hid hb2
  clear h o2 cA cB hb2
  go_enter Try.func21, Try.ntmps21
  go_wp2_with fail
  refine VO.out.mono ?_
  rintro e w' ⟨c, rfl, hw', hkey⟩
  have hb2 : Below w.heap.size w w' := by rw [hw']; exact HB.out
  have hAB : Cells w' w.heap.size 9 #[.string a] ∧ Cells w' (w.heap.size + 1) 9 #[.string b] := by rw [hw']; exact HAB.out
  rw [← hw'] at hkey
  clear HB HAB hw' VO
  have HV := Lib.hid (having_any hkey hn 41 #[.pointer (some ⟨w.heap.size, 0, none⟩), .pointer (some ⟨w.heap.size + 1, 0, none⟩)] (betw a.data.toList b.data.toList) (enters_of Try.func41 (by kernel_rfl) rfl)
    (fun W s hW _ => between1_ask a b w.heap.size (w.heap.size + 1) W s ((hW.cell (p := ⟨w.heap.size, 0, none⟩) hAB.1.lt).trans (hAB.1.cell 0)) ((hW.cell (p := ⟨w.heap.size + 1, 0, none⟩) hAB.2.lt).trans (hAB.2.cell 0))))
  have HB := Lib.hid hb2
  clear hkey hb2 hAB
  go_wp2_with fail
  refine HV.out.mono ?_
  rintro e w2 ⟨v, ss, rfl, h1, h2, h3⟩
  obtain ⟨va, vc, rfl, _⟩ := row_sliceZ h3.1
  have H3 := Lib.hid (And.intro h1 (And.intro h2 h3))
  clear h1 h2 h3
  go_wp2_with fail
  go_ret
  exact ⟨_, ss, rfl, H3.out.1, H3.out.2.1, H3.out.2.2.later HB.out⟩
/-- maps.Keys of the index's keys. -/
theorem keysK_call (mb : Option Nat) (W : World) : CallsIn Fence.wide 5 Try.prog 43 #[.map mb] W fun e w' => e = .returned (.func (.func 57) #[] #[.pointer (some ⟨W.heap.size, 0, none⟩)]) ∧ w' = W.alloc (.cells #[.map mb] 65) :=
  AnyZ.keys_in Try.keysK Fence.wide 5 trivial rfl mb W
set_option maxHeartbeats 1000000 in
theorem sortedK (b nn : Nat) (D0 : DataW Unit) (R : Value → Option (DataW Unit × List MemPlace)) (w : World) (hown : w.ownsMap Try.prog 9 R b nn D0) (hmax : Maps.size D0 ≤ 10000000) :
    CallsIn Fence.wide 5 Try.prog 42 #[.func (.func 57) #[] #[.pointer (some ⟨w.heap.size, 0, none⟩)]] (w.alloc (.cells #[.map (some b)] 65)) fun e w' => ∃ (v : Value) (ss : List (List UInt8)), e = .returned v ∧ ss.Perm (strKeys D0) ∧ AnsS w w' v ss := by
  have hbl := hown.lt
  have hseq : SeqGives Fence.wide 2 Try.prog 57 #[.pointer (some ⟨w.heap.size, 0, none⟩)] encStr (fun ss => ss.Perm (strKeys D0)) (Maps.size D0) (w.alloc (.cells #[.map (some b)] 65)) :=
    AnyZ.keys_gives (ρ := Try.keysK_ren) { Try.keysK with } Fence.wide _ trivial rfl (by omega) w.heap.size b nn D0 _ (by simp) (by simp) (by
      obtain ⟨es, clock, hb, Ft, hs, hD⟩ := hown
      exact ⟨es, clock, (Below.heap_alloc _ _ b hbl).trans hb, Ft, hs, hD⟩)
  refine (AnyZ.sorted_in Try.sortedS Fence.wide 5 trivial trivial trivial trivial rfl (by omega) (sortsS _) (enters_of Try.func56 (by kernel_rfl) rfl) 57 #[.pointer (some ⟨w.heap.size, 0, none⟩)] trivial (enters_of Try.func57 (by kernel_rfl) rfl) _ _ (by unfold maxLen; omega) (by omega) _ hseq).mono ?_
  rintro e w' ⟨v, ss, rfl, hS, hrow, hnil, hb⟩
  exact ⟨v, ss, rfl, hS, ownsRow_base_a hrow (by simp), hnil, ((Below.refl _ w).alloc (Nat.le_refl _) _).trans (hb.mono (by simp))⟩
set_option maxRecDepth 100000 in
set_option maxHeartbeats 1000000 in
theorem idxKeys {w : World} {T : Nat → Tag} {lo x kb yb n : Nat} {ids : Int → Bool} {F : List UInt8 → List UInt8 → Int → Nat} (h : IdxAt w T lo x kb yb n ids F) (hn : n ≤ 1000000) :
    Calls Try.prog 22 #[.pointer (some ⟨x, 0, none⟩)] w fun e w' => ∃ v ss, e = .returned v ∧ ss.Nodup ∧ (∀ k, k ∈ ss ↔ ∃ s i, 0 < F k s i) ∧ AnsS w w' v ss := by
  obtain ⟨hb, g, ⟨D, ho, hh, _⟩, h2⟩ := h
  have c1 : w.cell? ⟨x, 1, none⟩ = some (.map (some yb)) := hb.cell.cell 1
  have hfK : Fence.wide.fn 43 := trivial
  have hfS : Fence.wide.fn 42 := trivial
  have cS := sortedK yb n D refElem w ho (Nat.le_trans ho.size_le (lookRoom n hn))
  obtain ⟨nd, mm⟩ := strKeys_mem ho
  have HM := Lib.hid (And.intro nd (And.intro mm (And.intro hh h2)))
  clear hh h2 nd mm hb
  refine (callsIn_wide (n := 6)).1 ?_
  refine callsIn_of_wp Try.func22 rfl trivial ?_ rfl
  simp only [Try.ntmps22, List.size_toArray, List.length_cons, List.length_nil, Nat.reduceAdd, Nat.reduceSub, Array.replicate_succ, Array.replicate_zero, List.push_toArray, List.append_toArray, List.nil_append, List.cons_append]
  gi_wp2_with (first
    | (gi_at_call 43; refine (keysK_call _ _).mono ?_; rintro e w' ⟨rfl, rfl⟩)
    | (gi_at_call 42; refine cS.mono ?_; rintro e w' ⟨v, ss, rfl, hS, ha⟩))
  go_ret
  refine ⟨v, ss, rfl, (hS.nodup_iff).2 HM.out.1, fun k => ?_, ha⟩
  rw [hS.mem_iff, HM.out.2.1, HM.out.2.2.1]
  have := HM.out.2.2.2 k
  cases hs : g k with
  | none => rw [hs] at this; exact ⟨fun e => (by cases e), fun ⟨s, i, e⟩ => by have : F k s i = 0 := this s i; omega⟩
  | some c => rw [hs] at this; exact ⟨fun _ => this.2, fun _ => rfl⟩
end Go.Proofs.Ytiebbgbcojgeoaa

namespace Go.Proofs.Ytiebbgbcojgeoaa
open Go.RowKit Go.Maps Go.Sort

section
variable (w : World) {ops : Array Oper} {rest : List Oper} {o : Oper} {a : Act} {Q : Exit → Act → World → Prop}
theorem SetM.drop {w : World} {b n : Nat} {f : Int → Bool} (h : SetM w b n f) {t e : TypeId} (ht : Try.prog.underlying t = some (.map 3 e)) (id : Int) (hw : (Lit.int .i64 id).wf = true) (ty : TypeId) :
    ∃ w', (Builtin.delete_ #[t, 3] ty #[.map (some b), .int .i64 id]).run Try.prog w = .ok (.tuple #[]) w' ∧ SetM w' b n (outI id f) ∧ Only (· = b) w w' ∧ w'.heap.size = w.heap.size := by
  obtain ⟨D, ho, h1⟩ := h
  obtain ⟨w', hrun, ho', ht'⟩ := ho.drop keyI ht (Maps.keyOf_int_mk Try.underlying3 hw) ty
  refine ⟨w', hrun, ⟨_, ho', fun k => ?_⟩, (Only.refl _ w).grown ht'.grown (fun k hk => .inl (by cases hk; rfl)), ?_⟩
  · unfold outI
    by_cases q : k = id
    · subst q
      rw [Maps.has_del_same, if_pos rfl]
    · rw [Maps.has_del_other (fun e => q (by injection e)), if_neg q, h1]
  · obtain ⟨es, clock, es', clock', hb, rfl⟩ := ht'
    show (w.heap.setIfInBounds b (.map es' clock')).size = _
    exact Array.size_setIfInBounds
/-- delete of a number. -/
theorem wpList_delete_set (hg : o.guard = none) (m x : Operand) (t e : TypeId) (hop : o.op = Op.call { callee := Callee.builtin Builtin.delete, args := #[m, x], argTypes := #[t, 3] })
    (ht : Try.prog.underlying t = some (.map 3 e)) (c n : Nat) (f : Int → Bool) (id : Int) (hw : (Lit.int .i64 id).wf = true) (hm : a.eval m = .map (some c)) (hx : a.eval x = .int .i64 id) (h : SetM w c n f)
    (hK : ∀ w', SetM w' c n (outI id f) → Only (· = c) w w' → w'.heap.size = w.heap.size → wpList Try.prog ops Q rest (a.put o.dst (.tuple #[])) w') :
    wpList Try.prog ops Q (o :: rest) a w := by
  refine wpList_plain hg fun K' hK' => ?_
  obtain ⟨w', hrun, r1, r2, r3⟩ := h.drop ht id hw o.type
  unfold Oper.wp
  simp [execOp, hop, resolve, invoke, builtin, hm, hx, hrun, Result.andThen]
  exact hK' _ _ (hK w' r1 r2 r3)
end
theorem outV_none {c : Option Nat} {w : World} {T : Nat → Tag} {lo n : Nat} {k : List UInt8} {f : List UInt8 → Int → Nat} {id : Int} (h : KeyAt w T lo n k c f) (hc : c = none) : KeyAt w T lo n k c (outV id f) := by
  subst hc
  intro v i
  unfold outV
  split
  · rfl
  · exact h v i
theorem KeyAt.tagged {w : World} {T : Nat → Tag} {lo n c : Nat} {k : List UInt8} {f : List UInt8 → Int → Nat} (h : KeyAt w T lo n k (some c) f) : T c = (1, k, []) := h.1.1
set_option maxRecDepth 100000 in
set_option maxHeartbeats 4000000 in
theorem drop_in {w : World} {T : Nat → Tag} {lo x kb yb n : Nat} {ids : Int → Bool} {F : List UInt8 → List UInt8 → Int → Nat} (h : IdxAt w T lo x kb yb n ids F) (hT : ∀ c, w.heap.size ≤ c → T c = (0, [], [])) (id : Int) (hw : (Lit.int .i64 id).wf = true) (hid : ids id = true) :
    Calls Try.prog 9 #[.pointer (some ⟨x, 0, none⟩), .int .i64 id] w fun e w' => e = .returned (.bool true) ∧ IdxAt w' T lo x kb yb n (outI id ids) (outF id F) ∧ Only (OfIdx T) w w' := by
  have c0 : w.cell? ⟨x, 0, none⟩ = some (.map (some kb)) := h.base.cell.cell 0
  have lk := h.base.known.look Try.underlying64 (by kernel_rfl) id hw
  rw [hid] at lk
  have hTr : Hid (∀ c, OfIdx T c → c < w.heap.size) := fun c hc => by
    by_cases q : c < w.heap.size
    · exact q
    · unfold OfIdx at hc; rw [hT c (by omega)] at hc; exact absurd rfl hc
  have H := Lib.hid h
  have hxk : x ≠ kb := fun e => by subst e; have h1 := H.out.base.tx; rw [H.out.base.tk] at h1; cases h1
  have hyk : yb ≠ kb := fun e => by subst e; have h1 := H.out.base.ty; rw [H.out.base.tk] at h1; cases h1
  have hxy : x ≠ yb := fun e => by subst e; have h1 := H.out.base.tx; rw [H.out.base.ty] at h1; cases h1
  clear h
  go_enter Try.func9, Try.ntmps9
  have oa : Only (fun _ => False) w (w.alloc (.cells #[] 70)) := (Only.refl _ w).alloc _
  have ka := H.out.base.known.only oa (fun h => h)
  have ca : (w.alloc (.cells #[] 70)).cell? ⟨x, 0, none⟩ = some (.map (some kb)) := (H.out.base.cell.alloc _).cell 0
  have HOA := Lib.hid oa
  clear oa
  go_wp2_with (first
    | (at_delete; refine wpList_delete_set _ rfl _ _ 64 70 rfl Try.underlying64 kb n ids id hw rfl rfl ka ?_; intro w2 hk2 ho2 hz2
       have HO2 := Lib.hid (HOA.out.mono (S' := (· = kb)) (fun _ _ e => e.elim) |>.trans ho2 (fun _ _ e => e))
       obtain ⟨hbase, g, hg, hkeys⟩ := H.out
       have hb2 : IdxB w2 T lo x kb yb n (outI id ids) := ⟨hbase.tx, hbase.tk, hbase.ty, hbase.lx, hbase.lk, hbase.ly, Nat.lt_of_lt_of_le hbase.lt HO2.out.size, hbase.cell.only HO2.out hxk, hk2⟩
       have c1 : w2.cell? ⟨x, 1, none⟩ = some (.map (some yb)) := hb2.cell.cell 1
       obtain ⟨D, hown, hrd⟩ := (hg.only HO2.out hyk).reads
       have hne : ∀ c, (T c).1 ≠ 4 → c ≠ kb := fun c hc e => hc (by rw [e, hbase.tk])
       have HK2 := Lib.hid (fun k => (hkeys k).turn HO2.out (fun _ _ => rfl) (fun c hc => hne c (by have := hc.idx; omega)))
       have HB2 := Lib.hid hb2
       have HRD := Lib.hid hrd
       have hsz2 : Hid (w2.heap.size = w.heap.size + 1) := by show w2.heap.size = _; rw [hz2]; simp
       clear hg hkeys hbase hb2 hrd hk2 ho2 hz2 ka ca hne)
    | (at_range; refine wpList_range_own _ rfl _ 65 rfl 9 73 keyS Try.underlying65 _ yb n _ rfl hown ?_; intro w0 hrg0 hg0 hs0))
  have HT2 : Hid (∀ c, w.heap.size ≤ c → T c = (0, [], [])) := hT
  replace hsz2 := hsz2.out
  go_frame
  rw [hsz2] at hrg0 ⊢
  go_loopw [32] (fun _ wr => ∃ (left : Lit → Bool) (cnt : Nat) (D' : DataW Unit) (g' : List UInt8 → Option Nat), wr.ranges Try.prog 9 refElem yb (w.heap.size + 1) n D' left cnt ∧ ReadsR D' g' ∧ IdxB wr T lo x kb yb n (outI id ids) ∧
      (∀ v, (left (.string v) = true ∧ g' v = g v ∧ KeyAt wr T lo n v (g v) (F v)) ∨ (left (.string v) = false ∧ KeyAt wr T lo n v (g' v) (outV id (F v)))) ∧ Only (OfIdx T) w wr) (fun _ wr => wr.rangeLeft yb (w.heap.size + 1))
  case atStart =>
    have o1 : Only (fun _ => False) w2 w0 := (Only.refl _ w2).grown hg0 (fun k hk => by cases hk)
    refine ⟨_, _, D, g, hrg0, HRD.out, HB2.out.turn o1 (fun _ _ => rfl) (fun _ _ h => h) (Nat.le_refl _), fun v => ?_, (HO2.out.mono (fun r _ e => by subst e; unfold OfIdx; rw [HB2.out.tk]; decide)).trans o1 (fun _ _ e => e.elim)⟩
    have hv := (HK2.out v).turn o1 (fun _ _ => rfl) (fun _ _ h => h)
    cases hh : has D (.string v) with
    | true => exact .inl ⟨rfl, rfl, hv⟩
    | false =>
      have hgv : g v = none := by
        have := HRD.out.1 v
        rw [hh] at this
        cases hg : g v with
        | none => rfl
        | some c => rw [hg] at this; cases this
      exact .inr ⟨rfl, outV_none hv hgv⟩
  case round =>
    obtain ⟨left, cnt, D', g', hrg, hrd, hib, hall, ho⟩ := hrel
    have HO := Lib.hid ho
    have HA := Lib.hid hall
    have HD := Lib.hid hrd
    have HIB := Lib.hid hib
    clear ho hall hib
    go_wp2_with (at_next; refine wpList_next_sr _ rfl _ rfl yb (w.heap.size + 1) n _ _ _ rfl hrg hrd ?_ ?_)
    · intro _ hl0
      have HL := Lib.hid hl0
      clear hl0
      go_wp2_with fail
      go_ret
      refine ⟨rfl, ⟨HIB.out, g', HD.out.ref hrg.owns, fun v => ?_⟩, HO.out⟩
      rcases HA.out v with ⟨e, _⟩ | ⟨_, e⟩
      · rw [HL.out] at e; cases e
      · exact e
    · intro s c w1 cnt1 hs hl hgs hrg1 hlt hg1 hs1 hen
      have hsv : g s = some c ∧ KeyAt wr T lo n s (some c) (F s) := by
        rcases HA.out s with ⟨_, e1, e2⟩ | ⟨e, _⟩
        · rw [← e1] at e2; rw [hgs] at e1 e2; exact ⟨e1.symm, e2⟩
        · rw [hl] at e; cases e
      obtain ⟨hgs0, hks⟩ := hsv
      have o1 : Only (· = w.heap.size + 1) wr w1 := (Only.refl _ wr).grown hg1 (fun k hk => by cases hk; exact .inl rfl)
      have TR : ∀ c, OfIdx T c → c ≠ w.heap.size + 1 := fun c hc e => by have := hTr.out c hc; omega
      have hks1 := hks.turn o1 (fun _ _ => rfl) (fun c hc => TR c hc.of)
      have HIB1 := Lib.hid (HIB.out.turn o1 (fun _ _ => rfl) (fun c hc => TR c (by unfold OfIdx; omega)) (Nat.le_refl _))
      have hsw1 : w.heap.size ≤ w1.heap.size := Nat.le_trans HO.out.size o1.size
      have VD := Lib.hid (vdrop_any hks1.1 (fun c hc => HT2.out c (Nat.le_trans hsw1 hc)) id hw)
      have HO1 := Lib.hid o1
      have HS := Lib.hid (And.intro hl (And.intro hgs hgs0))
      have HTR := Lib.hid TR
      have HTC := Lib.hid hks.tagged
      clear o1 hl hgs hgs0 hs1 hks hks1 TR hsw1
      go_wp2_with fail
      refine VD.out.mono ?_
      rintro e w2 ⟨rfl, hv, ho2⟩
      have o2x : Only (OfKey T s) w1 w2 := ho2
      obtain ⟨m, hlen, hm⟩ : ∃ m : Nat, (∀ ty, (Builtin.len_ #[73] ty #[.map (some c)]).run Try.prog w2 = .ok (.int .i64 (m : Nat)) w2) ∧ (m = 0 ↔ ∀ v i, outV id (F s) v i = 0) := by
        obtain ⟨_, _, gg, q1, q2⟩ := hv
        obtain ⟨m, hlen, hm⟩ := q1.len Try.underlying73
        refine ⟨m, hlen, hm.trans ⟨fun h v i => ?_, fun h v => ?_⟩⟩
        · have := q2 v; rw [h v] at this; exact this i
        · have := q2 v
          cases hgg : gg v with
          | none => rfl
          | some d => rw [hgg] at this; obtain ⟨_, _, _, i, hi⟩ := this; rw [h v i] at hi; omega
      have b2 := HIB1.out.turn o2x (fun _ _ => rfl) (fun c hc e => by have := e.idx; omega) (Nat.le_refl _)
      have x1 : w2.cell? ⟨x, 1, none⟩ = some (.map (some yb)) := b2.cell.cell 1
      have HB := Lib.hid b2
      have nk : ∀ c, OfKey T s c → c ≠ yb := fun c hc e => by have h1 := hc.idx; rw [e, HB.out.ty] at h1; revert h1; decide
      have hrg2 : w2.ranges Try.prog 9 refElem yb (w.heap.size + 1) n D' (fun z => left z && !z.sameKey (.string s)) cnt1 := by
        obtain ⟨es, clock, since, seen, c0, q1, F, hs, hD, q2, rest⟩ := hrg1
        have l1 := (Array.getElem?_eq_some_iff.1 q1).1
        have l2 := (Array.getElem?_eq_some_iff.1 q2).1
        exact ⟨es, clock, since, seen, c0, (o2x.same yb l1 (fun e => nk _ e rfl)).trans q1, F, hs, hD, (o2x.same _ l2 (fun e => HTR.out _ e.of rfl)).trans q2, rest⟩
      have HW2 := Lib.hid (And.intro hv o2x)
      have HM := Lib.hid hm
      clear hv ho2 o2x hm b2 VD nk
      have OTH : Hid (∀ w3, Only (· = yb) w2 w3 → (∀ v, v ≠ s → (left (.string v) = true ∧ g' v = g v ∧ KeyAt w3 T lo n v (g v) (F v)) ∨ (left (.string v) = false ∧ KeyAt w3 T lo n v (g' v) (outV id (F v)))) ∧ Only (OfIdx T) w w3 ∧ IdxB w3 T lo x kb yb n (outI id ids)) := fun w3 o3 => by
        have ny : ∀ v c, OfKey T v c → ¬ c = yb := fun v c hc e => by have h1 := hc.idx; rw [e, HB.out.ty] at h1; revert h1; decide
        have tr : ∀ v, v ≠ s → ∀ q ff, KeyAt wr T lo n v q ff → KeyAt w3 T lo n v q ff := fun v hv q ff hh => by
          have a1 := hh.turn HO1.out (fun _ _ => rfl) (fun c hc => HTR.out c hc.of)
          have a2 := a1.turn HW2.out.2 (fun _ _ => rfl) (fun d hd e => hv (hd.ne e))
          exact a2.turn o3 (fun _ _ => rfl) (fun d hd => ny v d hd)
        refine ⟨fun v hv => ?_, ((HO.out.trans HO1.out (fun r hr e => by omega)).trans HW2.out.2 (fun r hr e => e.of)).trans o3 (fun r hr e => by subst e; unfold OfIdx; rw [HB.out.ty]; decide), HB.out.turn o3 (fun _ _ => rfl) (fun c hc e => by subst e; have h1 := HB.out.ty; rw [h1] at hc; revert hc; decide) (Nat.le_refl _)⟩
        rcases HA.out v with ⟨e1, e2, e3⟩ | ⟨e1, e2⟩
        · exact .inl ⟨e1, e2, tr v hv _ _ e3⟩
        · exact .inr ⟨e1, tr v hv _ _ e2⟩
      have STK : Hid (∀ v, (fun z : Lit => left z && !z.sameKey (.string s)) (.string v) = (left (.string v) && !decide (v = s))) := fun v => strike
      by_cases hz : m = 0
      · subst hz
        go_wp2_with (at_delete; refine wpList_delete_ranges _ rfl _ _ 65 9 rfl 73 keyS Try.underlying65 refElem yb (w.heap.size + 1) n _ _ _ rfl hrg2 _ (.string s) rfl (Go.WideMaps.keyOf_string_mk Try.underlying9 (s := B s) (by rw [B_size]; exact hs)) ?_; intro w3 cnt3 hrg3 hle hturn; go_frame)
        rw [strike_twice] at hrg3
        have o3 : Only (· = yb) w2 w3 := (Only.refl _ w2).grown hturn.grown (fun j hj => by cases hj; exact .inl rfl)
        obtain ⟨p1, p2, p3⟩ := OTH.out w3 o3
        go_roundw
        case rel =>
          refine ⟨_, cnt3, _, _, hrg3, HD.out.del s, p3, fun v => ?_, p2⟩
          rw [STK.out v]
          by_cases hv : v = s
          · subst hv
            rw [if_pos rfl]
            exact .inr ⟨by simp, HM.out.1 (by first | exact rfl | trivial)⟩
          · rw [if_neg hv]
            have := p1 v hv
            simpa [hv] using this
        case measure => rw [hrg3.left_eq, hrg.left_eq]; omega
      · obtain ⟨m, rfl⟩ : ∃ q, m = q + 1 := ⟨m - 1, by omega⟩
        go_wp2_with fail
        obtain ⟨p1, p2, p3⟩ := OTH.out w2 (Only.refl _ _)
        go_roundw
        case rel =>
          refine ⟨_, cnt1, _, _, hrg2, HD.out, p3, fun v => ?_, p2⟩
          rw [STK.out v]
          by_cases hv : v = s
          · subst hv
            refine .inr ⟨by simp, ?_⟩
            rw [HS.out.2.1]
            refine ⟨HW2.out.1, ?_⟩
            have := fun e => hz (HM.out.2 e)
            exact Classical.byContradiction fun hn => this fun u i => by
              have : ¬ 0 < outV id (F v) u i := fun e => hn ⟨u, i, e⟩
              omega
          · have := p1 v hv
            simpa [hv] using this
        case measure => rw [hrg2.left_eq, hrg.left_eq]; exact hlt
end Go.Proofs.Ytiebbgbcojgeoaa

namespace Go.Proofs.Ytiebbgbcojgeoaa
open Go.RowKit Go.Maps Go.Sort

/-- Blocks that are still to come have no tag. -/
def bareT (T : Nat → Tag) (n : Nat) : Nat → Tag := fun c => if c < n then T c else (0, [], [])
theorem bareT_lt {T : Nat → Tag} {n c : Nat} (h : c < n) : bareT T n c = T c := if_pos h
theorem bareT_ge {T : Nat → Tag} {n c : Nat} (h : n ≤ c) : bareT T n c = (0, [], []) := if_neg (by omega)
theorem IdxAt.bareT {w : World} {T : Nat → Tag} {lo x kb yb n : Nat} {ids : Int → Bool} {F : List UInt8 → List UInt8 → Int → Nat} (h : IdxAt w T lo x kb yb n ids F) : IdxAt w (bareT T w.heap.size) lo x kb yb n ids F :=
  h.turn (Only.refl (fun _ => False) w) (fun _ h => bareT_lt h) (fun _ _ h => h)
theorem only_bare {w w' : World} {T : Nat → Tag} (h : Only (OfIdx (bareT T w.heap.size)) w w') : Only (OfIdx T) w w' := h.mono fun r hr e => by unfold OfIdx at e ⊢; rwa [bareT_lt hr] at e
theorem drop_any {w : World} {T : Nat → Tag} {lo x kb yb n : Nat} {ids : Int → Bool} {F : List UInt8 → List UInt8 → Int → Nat} (h : IdxAt w T lo x kb yb n ids F) (id : Int) (hw : (Lit.int .i64 id).wf = true) (h0 : ids id = false → ∀ k v, F k v id = 0) :
    Calls Try.prog 9 #[.pointer (some ⟨x, 0, none⟩), .int .i64 id] w fun e w' => e = .returned (.bool (ids id)) ∧ ∃ T', (∀ c, c < w.heap.size → T' c = T c) ∧ IdxAt w' T' lo x kb yb n (outI id ids) (outF id F) ∧ Only (OfIdx T) w w' := by
  cases hi : ids id with
  | true =>
    refine (drop_in h.bareT (fun c hc => bareT_ge hc) id hw hi).mono ?_
    rintro e w' ⟨rfl, h1, h2⟩
    exact ⟨rfl, _, fun c hc => bareT_lt hc, h1, only_bare h2⟩
  | false =>
    refine (drop_out h id hw hi).mono ?_
    rintro e w' ⟨rfl, h1⟩
    rw [outI_none id ids hi, outF_none id F (h0 hi)]
    exact ⟨rfl, T, fun _ _ => rfl, h.turn h1 (fun _ _ => rfl) (fun _ _ h => h), h1.mono fun _ _ e => e.elim⟩
set_option maxRecDepth 100000 in
set_option maxHeartbeats 1000000 in
/-- Put, of whatever stanza. -/
theorem put_any {w : World} {T : Nat → Tag} {lo x kb yb n : Nat} {ids : Int → Bool} {F : List UInt8 → List UInt8 → Int → Nat} (h : IdxAt w T lo x kb yb n ids F) (id : Int) (hw : (Lit.int .i64 id).wf = true) (h1 : 1 ≤ id) (v : Value) (fs : List (List UInt8 × List UInt8)) (hF : ∀ W, Only (OfIdx T) w W → Flds W v fs) (hn : n + 2 * fs.length ≤ 900000) (h0 : ids id = false → ∀ k v, F k v id = 0)
    (hf : ∀ f ∈ fs, f.1.length ≤ maxLen ∧ f.2.length ≤ maxLen) (hlo : lo ≤ w.heap.size) :
    Calls Try.prog 11 #[.pointer (some ⟨x, 0, none⟩), .int .i64 id, v] w fun e w' => e = .returned .nilIface ∧
      ∃ T', (∀ c, c < w.heap.size → T' c = T c) ∧ IdxAt w' T' lo x kb yb (n + 1 + 2 * fs.length) (fun i => if i = id then true else outI id ids i) (addFs id (outF id F) fs) ∧ Only (OfIdx T) w w' := by
  have DO := Lib.hid (drop_any h id hw h0)
  have KN : Hid (∀ w1 T1, (∀ c, c < w.heap.size → T1 c = T c) → IdxAt w1 T1 lo x kb yb n (outI id ids) (outF id F) → Only (OfIdx T) w w1 → Calls Try.prog 30 #[.pointer (some ⟨x, 0, none⟩), .int .i64 id, v] w1 fun e w' => e = .returned (.tuple #[]) ∧
      ∃ T', (∀ c, c < w.heap.size → T' c = T c) ∧ IdxAt w' T' lo x kb yb (n + 1 + 2 * fs.length) (fun i => if i = id then true else outI id ids i) (addFs id (outF id F) fs) ∧ Only (OfIdx T) w w') := fun w1 T1 ht hi o1 => by
    have tr : ∀ W, Only (OfIdx T1) w1 W → Only (OfIdx T) w W := fun W hW => o1.trans hW fun r hr e => by unfold OfIdx at e ⊢; rwa [ht r hr] at e
    refine (know_any hi id hw v fs (fun W hW => hF W (tr W hW)) hn (fun k v => if_pos rfl) hf (Nat.le_trans hlo o1.size)).mono ?_
    rintro e w' ⟨rfl, T', ht', hi', ho⟩
    exact ⟨rfl, T', fun c hc => (ht' c (Nat.lt_of_lt_of_le hc o1.size)).trans (ht c hc), hi', tr _ ho⟩
  obtain ⟨A, cap, rfl, _⟩ := hF w (Only.refl _ _)
  clear h hF
  go_enter Try.func11, Try.ntmps11
  go_wp2_with fail
  refine DO.out.mono ?_
  rintro e w1 ⟨rfl, T1, ht, hi, o1⟩
  have K1 := Lib.hid (KN.out w1 T1 ht hi o1)
  clear hi ht o1
  go_wp2_with fail
  refine K1.out.mono ?_
  rintro e w2 ⟨rfl, T', ht, hi, ho⟩
  have HI := Lib.hid hi
  clear hi
  go_wp2_with fail
  go_ret
  exact ⟨rfl, T', ht, HI.out, ho⟩
set_option maxRecDepth 100000 in
set_option maxHeartbeats 1000000 in
/-- Put, of a number below 1. -/
theorem put_low (x : Nat) (id : Int) (h1 : id < 1) (A : Option Addr) (n c : Nat) (w : World) :
    Calls Try.prog 11 #[.pointer (some ⟨x, 0, none⟩), .int .i64 id, .slice A n c] w fun e w' => e = .returned (.iface 50 (.int .i64 1)) ∧ w' = w := by
  go_enter Try.func11, Try.ntmps11
  go_wp2_with fail
  go_ret
  exact ⟨rfl, rfl⟩
set_option maxRecDepth 100000 in
set_option maxHeartbeats 1000000 in
/-- Len: how many numbers are known. -/
theorem len_idx {w : World} {T : Nat → Tag} {lo x kb yb n : Nat} {ids : Int → Bool} {F : List UInt8 → List UInt8 → Int → Nat} (h : IdxAt w T lo x kb yb n ids F) (hn : n ≤ 1000000) :
    Calls Try.prog 25 #[.pointer (some ⟨x, 0, none⟩)] w fun e w' => ∃ ss : List Int, e = .returned (.int .i64 (ss.length : Nat)) ∧ ss.Nodup ∧ (∀ i, i ∈ ss ↔ ids i = true) ∧ w' = w := by
  have c0 : w.cell? ⟨x, 0, none⟩ = some (.map (some kb)) := h.base.cell.cell 0
  obtain ⟨D, ho, h1⟩ := h.base.known
  have hlen := fun ty => ho.len Try.underlying64 ty
  obtain ⟨es, hD, hp, _⟩ := ho.entries keyI
  obtain ⟨es', hD', hko⟩ := ho.keysOf
  obtain rfl : es = es' := by rw [hD] at hD'; simpa using hD'
  have hk : ∀ p ∈ es, ∃ x, p.1 = .int .i64 x := fun p hp => by obtain ⟨v, hv⟩ := hko p hp; obtain ⟨x, _, hx, _⟩ := Maps.keyOf_i64 Try.underlying3 hv; exact ⟨x, hx⟩
  have HS : Hid (∃ ss : List Int, Maps.size D = ss.length ∧ ss.Nodup ∧ ∀ i, i ∈ ss ↔ ids i = true) := by
    refine ⟨es.map fun p => Go.intOf p.1, by rw [hD, size_eq, List.length_map], ?_, fun i => ?_⟩
    · refine List.pairwise_map.2 (hp.imp_of_mem fun {p q} hp' hq' hne e => hne ?_)
      obtain ⟨a, ha⟩ := hk p hp'
      obtain ⟨b, hb⟩ := hk q hq'
      rw [ha, hb] at e ⊢
      exact congrArg _ e
    · rw [← h1 i, hD, has_eq, List.any_eq_true, List.mem_map]
      constructor
      · rintro ⟨p, hp', rfl⟩
        obtain ⟨a, ha⟩ := hk p hp'
        exact ⟨p, hp', by rw [ha]; simp [Lit.sameKey, Go.intOf]⟩
      · rintro ⟨p, hp', hs⟩
        obtain ⟨a, ha⟩ := hk p hp'
        rw [ha] at hs
        exact ⟨p, hp', by rw [ha]; simpa [Lit.sameKey, Go.intOf] using hs⟩
  clear hp hD hD' hko hk h1
  go_enter Try.func25, Try.ntmps25
  go_wp2_with fail
  go_ret
  obtain ⟨ss, q1, q2, q3⟩ := HS.out
  exact ⟨ss, by rw [q1]; rfl, q2, q3, rfl⟩
end Go.Proofs.Ytiebbgbcojgeoaa

namespace Go.Proofs.Ytiebbgbcojgeoaa
open Go.RowKit Go.Maps Go.Sort Go.Shelf

/-- A slice of numbers, readable. -/
def Nums (w : World) (v : Value) (zs : List Int) : Prop :=
  ∃ A cap, v = .slice A zs.length cap ∧ zs.length ≤ cap ∧ ∀ k z, zs[k]? = some z → ∃ b off, A = some ⟨b, off, none⟩ ∧ b < w.heap.size ∧ w.cell? ⟨b, off + k, none⟩ = some (.int .i64 z)
theorem Nums.below {w w' : World} {v : Value} {zs : List Int} {n : Nat} (h : Nums w v zs) (hb : Below n w w') (hn : w.heap.size ≤ n) : Nums w' v zs := by
  obtain ⟨A, cap, e, hle, hc⟩ := h
  refine ⟨A, cap, e, hle, fun k z hk => ?_⟩
  obtain ⟨b, off, e, hbl, c⟩ := hc k z hk
  exact ⟨b, off, e, Nat.lt_of_lt_of_le hbl hb.size, (hb.cell (p := ⟨b, off + k, none⟩) (Nat.lt_of_lt_of_le hbl hn)).trans c⟩
theorem Nums.row {w : World} {base : Nat} {v : Value} {zs : List Int} (h : w.ownsRow base 3 1 v zs.length (zs.map encZ)) : Nums w v zs := by
  obtain ⟨A, cap, rfl, hle⟩ := row_sliceZ h
  refine ⟨A, cap, rfl, hle, fun k z hk => ?_⟩
  obtain ⟨b, c, e⟩ := Joins.ownsRow_form h (List.length_pos_of_mem (List.mem_of_getElem? hk))
  have e2 := e
  cases e2
  have h1 := h.lt b rfl
  refine ⟨b, 0, rfl, h1.2, ?_⟩
  have hk2 : k < zs.length := (List.getElem?_eq_some_iff.1 hk).1
  have := World.ownsRow.cellAt h k (by omega)
  rw [Nat.zero_add, this]
  simp [hk, encZ]
theorem AnsI.nums {w w' : World} {v : Value} {ss : List Int} (h : AnsI w w' v ss) : Nums w' v (sortZ ss) := by
  have h1 := h.1
  have e : ss.length = (sortZ ss).length := (sortZ_perm ss).length_eq.symm
  rw [e] at h1
  exact Nums.row h1
def sortS (ss : List (List UInt8)) : List (List UInt8) := ss.mergeSort fun x y => decide (x ≤ y)
theorem sortS_perm (ss : List (List UInt8)) : (sortS ss).Perm ss := List.mergeSort_perm _ _
theorem sortS_le (xs : List (List UInt8)) : (sortS xs).Pairwise fun x y => x ≤ y := by
  have := List.pairwise_mergeSort (le := fun x y : List UInt8 => decide (x ≤ y)) (fun a b c h1 h2 => by simp at h1 h2 ⊢; exact List.le_trans h1 h2) (fun a b => by simp; exact List.le_total a b) xs
  exact this.imp fun h => by simpa using h
theorem sortS_same {xs : List (List UInt8)} (h : xs.Pairwise fun x y => x ≤ y) : sortS xs = xs := List.mergeSort_of_pairwise (h.imp fun h => by simpa using h)
theorem sortS_eq {xs ys : List (List UInt8)} (h : xs.Perm ys) : sortS xs = sortS ys :=
  List.Perm.eq_of_pairwise (le := fun x y : List UInt8 => x ≤ y) (fun a b _ _ h1 h2 => List.le_antisymm h1 h2) (sortS_le xs) (sortS_le ys) (((sortS_perm xs).trans h).trans (sortS_perm ys).symm)
theorem strs_row {w : World} {base : Nat} {v : Value} {ss : List (List UInt8)} (h : w.ownsRow base 9 1 v ss.length (ss.map encStr)) : Strs w v (ss.map B) := by
  obtain ⟨A, cap, rfl, hle⟩ := row_sliceZ h
  refine ⟨A, cap, by rw [List.length_map], by rw [List.length_map]; exact hle, fun k z hk => ?_⟩
  rw [List.getElem?_map] at hk
  cases hs : ss[k]? with
  | none => rw [hs] at hk; cases hk
  | some s =>
    rw [hs] at hk
    cases hk
    obtain ⟨b, c, e⟩ := Joins.ownsRow_form h (List.length_pos_of_mem (List.mem_of_getElem? hs))
    have e2 := e
    cases e2
    have h1 := h.lt b rfl
    refine ⟨b, 0, rfl, h1.2, ?_⟩
    have hk2 : k < ss.length := (List.getElem?_eq_some_iff.1 hs).1
    have := World.ownsRow.cellAt h k (by omega)
    rw [Nat.zero_add, this]
    simp [hs, encStr, B]
theorem AnsS.strs {w w' : World} {v : Value} {ss : List (List UInt8)} (h : AnsS w w' v ss) : Strs w' v ((sortS ss).map B) := by
  have h1 := h.1
  have e : ss.length = (sortS ss).length := (sortS_perm ss).length_eq.symm
  rw [e] at h1
  exact strs_row h1
set_option maxRecDepth 100000 in
set_option maxHeartbeats 2000000 in
theorem ints_any (v v' : Value) (ss zs : List Int) (w : World) (h : Nums w v ss) (h' : Nums w v' zs) (hl : ss.length ≤ 10000000000000) (hl' : zs.length ≤ 10000000000000) :
    Calls Try.prog 26 #[v, v'] w fun e w' => e = .returned (.bool (decide (ss = zs))) ∧ Below w.heap.size w w' := by
  obtain ⟨A, cap, rfl, hle, hc⟩ := h
  obtain ⟨A', cap', rfl, hle', hc'⟩ := h'
  by_cases hne : ss.length = zs.length
  · go_enter Try.func26, Try.ntmps26
    go_wp2
    go_loopw [13] (fun i wr => ∃ k : Nat, k ≤ ss.length ∧ i = .int .i64 k ∧ (ss.take k = zs.take k) ∧ Below w.heap.size w wr) (fun i _ => ss.length - (intOf i).toNat)
    case atStart => exact ⟨0, Nat.zero_le _, rfl, rfl, Below.refl _ _⟩
    case round =>
      obtain ⟨k, hk, rfl, he, hbl⟩ := hrel
      by_cases hlt : k < ss.length
      · obtain ⟨x, e1⟩ : ∃ x, ss[k]? = some x := ⟨_, List.getElem?_eq_getElem hlt⟩
        obtain ⟨y, e2⟩ : ∃ y, zs[k]? = some y := ⟨_, List.getElem?_eq_getElem (by omega)⟩
        obtain ⟨b, off, rfl, hb, c1⟩ := hc k _ e1
        obtain ⟨b', off', rfl, hb', c2⟩ := hc' k _ e2
        replace c1 := (hbl.cell (p := ⟨b, off + k, none⟩) hb).trans c1
        replace c2 := (hbl.cell (p := ⟨b', off' + k, none⟩) hb').trans c2
        have E := Lib.hid he
        have T1 : Hid (ss.take (k + 1) = ss.take k ++ [x]) := by show _ = _; rw [List.take_add_one, e1]; rfl
        have T2 : Hid (zs.take (k + 1) = zs.take k ++ [y]) := by show _ = _; rw [List.take_add_one, e2]; rfl
        have F := Lib.hid (show x ≠ y → ss ≠ zs from fun hn hs => by subst hs; rw [e1] at e2; exact hn (Option.some.inj e2))
        have hz : k < zs.length := by omega
        clear hc hc' e1 e2 he
        by_cases hxy : x = y
        · subst hxy
          go_wp2_with (go_quiet (fail))
          go_roundw
          case rel => exact ⟨k + 1, hlt, by go_num, by rw [T1.out, T2.out, E.out], drewN_below hbl _⟩
          case measure => simp [intOf]; omega
        · have F2 := Lib.hid (F.out hxy)
          clear F
          have hx4 : (x != y) = true := by simpa using hxy
          go_wp2_with (go_quiet (fail))
          go_ret
          exact ⟨by simp [F2.out], drewN_below hbl _⟩
      · obtain rfl : k = ss.length := by omega
        rw [List.take_of_length_le (Nat.le_refl _), List.take_of_length_le (by omega)] at he
        clear hc hc'
        go_wp2
        go_ret
        exact ⟨by simp [he], hbl⟩
  · have hn : ¬ ((ss.length : Int) = zs.length) := by omega
    have F := Lib.hid (show ss ≠ zs from fun hs => by subst hs; exact hne rfl)
    clear hc hc' hne
    go_enter Try.func26, Try.ntmps26
    go_wp2
    go_ret
    exact ⟨by simp [F.out], Below.refl _ _⟩
/-- The stanzas without one; with one more. -/
def dropZ (rs : List Sz) (id : Int) : List Sz := rs.filter fun s => decide (s.1 ≠ id)
def putZ (rs : List Sz) (id : Int) (fs : List (List UInt8 × List UInt8)) : List Sz := dropZ rs id ++ [(id, fs)]
theorem ids_drop (rs : List Sz) (id : Int) : outI id (idsOf rs) = idsOf (dropZ rs id) := by
  funext i
  rw [Bool.eq_iff_iff, idsOf_iff]
  unfold outI dropZ
  rw [List.mem_map]
  by_cases e : i = id
  · rw [if_pos e]
    exact ⟨fun h => (by cases h), fun ⟨s, h1, h2⟩ => by have := (List.mem_filter.1 h1).2; simp at this; exact absurd (h2.trans e) this⟩
  · rw [if_neg e, idsOf_iff, List.mem_map]
    exact ⟨fun ⟨s, h1, h2⟩ => ⟨s, List.mem_filter.2 ⟨h1, by simp; intro q; exact e (h2.symm.trans q)⟩, h2⟩, fun ⟨s, h1, h2⟩ => ⟨s, (List.mem_filter.1 h1).1, h2⟩⟩
theorem f_drop : ∀ (rs : List Sz) (id : Int), outF id (fOf rs) = fOf (dropZ rs id)
  | [], id => by funext k v i; unfold outF dropZ; split <;> rfl
  | s :: r, id => by
    have ih := f_drop r id
    funext k v i
    have h := congrFun (congrFun (congrFun ih k) v) i
    unfold outF at h ⊢
    unfold dropZ at h ⊢
    by_cases e : s.1 = id
    · rw [List.filter_cons_of_neg (by simp [e]), ← h]
      by_cases q : i = id
      · rw [if_pos q, if_pos q]
      · rw [if_neg q, if_neg q, fOf, if_neg (fun z => q (z.trans e)), Nat.zero_add]
    · rw [List.filter_cons_of_pos (by simp [e]), fOf, fOf, ← h]
      by_cases q : i = id
      · rw [if_pos q, if_pos q, if_neg (fun z => e (z.symm.trans q))]
      · rw [if_neg q, if_neg q]
/-- What an index carries: blocks at or above S, what it knows. -/
structure IdxL (S : Nat) (w : World) (T : Nat → Tag) (x kb yb n : Nat) (rs : List Sz) : Prop where
  at_ : IdxAt w T S x kb yb n (idsOf rs) (fOf rs)
  low : ∀ c, c < S → T c = (0, [], [])
  size : S ≤ w.heap.size
  n : n ≤ 800000
theorem IdxL.below {S : Nat} {w w' : World} {T : Nat → Tag} {x kb yb n : Nat} {rs : List Sz} (h : IdxL S w T x kb yb n rs) {N : Nat} (hb : Below N w w') (hN : w.heap.size ≤ N) : IdxL S w' T x kb yb n rs :=
  ⟨h.at_.turn (Only.of_below hb hN : Only (fun _ => False) w w') (fun _ _ => rfl) (fun _ _ h => h), h.low, Nat.le_trans h.size hb.size, h.n⟩
theorem IdxL.only {S : Nat} {w w' : World} {T T' : Nat → Tag} {x kb yb n : Nat} {rs : List Sz} (h : IdxL S w T x kb yb n rs) (ho : Only (OfIdx T) w w') : Below S w w' := ho.to_below h.size (fun r hr e => by unfold OfIdx at e; rw [h.low r hr] at e; exact e rfl)
theorem new_L (w : World) : Calls Try.prog 7 #[] w fun e w' => e = .returned (.pointer (some ⟨w.heap.size + 2, 0, none⟩)) ∧ ∃ T, IdxL w.heap.size w' T (w.heap.size + 2) w.heap.size (w.heap.size + 1) 0 [] ∧ Below w.heap.size w w' := by
  refine (new_idx w (fun _ => (0, [], [])) w.heap.size (Nat.le_refl _)).mono ?_
  rintro e w' ⟨rfl, T, ht, hi, ho⟩
  exact ⟨rfl, T, ⟨hi, fun c hc => ht c hc, ho.size, Nat.zero_le _⟩, ho.to_below (Nat.le_refl _) (fun _ _ h => h)⟩
theorem put_L {S : Nat} {w : World} {T : Nat → Tag} {x kb yb n : Nat} {rs : List Sz} (h : IdxL S w T x kb yb n rs) (id : Int) (hw : (Lit.int .i64 id).wf = true) (h1 : 1 ≤ id) (v : Value) (fs : List (List UInt8 × List UInt8)) (hF : ∀ W, Only (OfIdx (bareT T w.heap.size)) w W → Flds W v fs) (hn : n + 1 + 2 * fs.length ≤ 800000)
    (hf : ∀ f ∈ fs, f.1.length ≤ maxLen ∧ f.2.length ≤ maxLen) :
    Calls Try.prog 11 #[.pointer (some ⟨x, 0, none⟩), .int .i64 id, v] w fun e w' => e = .returned .nilIface ∧
      ∃ T', (∀ c, c < w.heap.size → T' c = T c) ∧ IdxL S w' T' x kb yb (n + 1 + 2 * fs.length) (putZ rs id fs) ∧ Only (OfIdx T) w w' := by
  refine (put_any h.at_.bareT id hw h1 v fs hF (by omega) (fun hi k v => fOf_out rs k v id hi) hf h.size).mono ?_
  rintro e w' ⟨rfl, T', ht, hi, ho⟩
  have e1 : (fun i => if i = id then true else outI id (idsOf rs) i) = idsOf (putZ rs id fs) := by
    rw [ids_drop]; exact idsOf_snoc (dropZ rs id) id fs
  have e2 : addFs id (outF id (fOf rs)) fs = fOf (putZ rs id fs) := by
    rw [f_drop]; exact fOf_snoc (dropZ rs id) id fs
  rw [e1, e2] at hi
  have hT : ∀ c, c < w.heap.size → T' c = T c := fun c hc => (ht c hc).trans (bareT_lt hc)
  exact ⟨rfl, T', hT, ⟨hi, fun c hc => (hT c (Nat.lt_of_lt_of_le hc h.size)).trans (h.low c hc), Nat.le_trans h.size ho.size, hn⟩, only_bare ho⟩
theorem drop_L {S : Nat} {w : World} {T : Nat → Tag} {x kb yb n : Nat} {rs : List Sz} (h : IdxL S w T x kb yb n rs) (id : Int) (hw : (Lit.int .i64 id).wf = true) :
    Calls Try.prog 9 #[.pointer (some ⟨x, 0, none⟩), .int .i64 id] w fun e w' => e = .returned (.bool (idsOf rs id)) ∧
      ∃ T', (∀ c, c < w.heap.size → T' c = T c) ∧ IdxL S w' T' x kb yb n (dropZ rs id) ∧ Only (OfIdx T) w w' := by
  refine (drop_any h.at_ id hw (fun hi k v => fOf_out rs k v id hi)).mono ?_
  rintro e w' ⟨rfl, T', ht, hi, ho⟩
  rw [ids_drop, f_drop] at hi
  exact ⟨rfl, T', ht, ⟨hi, fun c hc => (ht c (Nat.lt_of_lt_of_le hc h.size)).trans (h.low c hc), Nat.le_trans h.size ho.size, h.n⟩, ho⟩
end Go.Proofs.Ytiebbgbcojgeoaa

