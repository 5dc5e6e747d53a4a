/- Texts put together: ID, IE, IG, IH, IJ, RF, IK. -/
import Derived.Deep.RegionLaw
import Derived.Deep.DeepCutAuto
import Derived.Lib.SlKeysI
import Derived.Laws.IdiomRangeMap
import Derived.Test.YtiebbgbcojgeoaaSI
import Derived.RangeFuncNested
import Derived.RangeFuncBound
import Derived.RangeFuncCalls
import Derived.RangeFuncLeaves
import Derived.Lib.Hide
import Derived.RangeFuncFrom
import Derived.RangeFuncOne
import Derived.OwnWalkIn
import Derived.Maps.AppendAt
import Derived.Shelf.SlIterI.Stops
import Derived.Test.YtiebbgbcojgeoaaBas1
set_option linter.unusedVariables false
namespace Go.Proofs.Ytiebbgbcojgeoaa
open Go.RowKit Go.Maps

set_option maxRecDepth 100000 in
set_option maxHeartbeats 2000000 in
theorem know_any {w : World} {T : Nat → Tag} {lo x kb yb n : Nat} {ids : Int → Bool} {F : List UInt8 → List UInt8 → Int → Nat} (h : IdxAt w T lo x kb yb n ids F) (id : Int) (hw : (Lit.int .i64 id).wf = true) (v : Value) (fs : List (List UInt8 × List UInt8)) (hF : ∀ W, Only (OfIdx T) w W → Flds W v fs) (hn : n + 2 * fs.length ≤ 900000) (h0 : ∀ k v, F k v id = 0)
    (hf : ∀ f ∈ fs, f.1.length ≤ maxLen ∧ f.2.length ≤ maxLen) (hlo : lo ≤ w.heap.size) :
    Calls Try.prog 30 #[.pointer (some ⟨x, 0, none⟩), .int .i64 id, v] w fun e w' => e = .returned (.tuple #[]) ∧
      ∃ T', (∀ c, c < w.heap.size → T' c = T c) ∧ IdxAt w' T' lo x kb yb (n + 1 + 2 * fs.length) (fun i => if i = id then true else ids i) (addFs id F fs) ∧ Only (OfIdx T) w w' := by
  obtain ⟨A, cap, rfl, hle, _⟩ := hF w (Only.refl _ _)
  have c0 : w.cell? ⟨x, 0, none⟩ = some (.map (some kb)) := h.base.cell.cell 0
  obtain ⟨w1, hrun, p1, p2, p3⟩ := h.base.known.store Try.underlying64 (by unfold maxLen; omega) id hw
  have hmm := @run_makeMap Try.prog
  have e1 : ∀ c w, (binOp BinOp.eql 73 (.map (some c)) (.map none)).run Try.prog w = .ok (.bool false) w := fun c w => Go.run_eql_map_nil w _ _ _ _ Try.underlying73
  have e2 : ∀ w, (binOp BinOp.eql 73 (.map none) (.map none)).run Try.prog w = .ok (.bool true) w := fun w => Go.run_eql_map_nil w _ _ _ _ Try.underlying73
  have H := Lib.hid h
  have HF := Lib.hid hF
  have HP := Lib.hid (And.intro p1 p2)
  clear h hF p1 p2
  go_enter Try.func30, Try.ntmps30
  go_wp2_with fail
  go_loopw [16] (fun i wr => ∃ (k : Nat) (T' : Nat → Tag), k ≤ fs.length ∧ i = .int .i64 k ∧ (∀ c, c < w.heap.size → T' c = T c) ∧ IdxAt wr T' lo x kb yb (n + 1 + 2 * k) (fun i => if i = id then true else ids i) (addFs id F (fs.take k)) ∧ Only (OfIdx T) w wr) (fun i _ => fs.length - (intOf i).toNat)
  case atStart =>
    obtain ⟨hb, g, h1, h2⟩ := H.out
    obtain ⟨p1, p2⟩ := HP.out
    have hne : ∀ c, (T c).1 ≠ 4 → c ≠ kb := fun c hc e => hc (by rw [e, hb.tk])
    have hx : x ≠ kb := hne x (by rw [hb.tx]; decide)
    refine ⟨0, T, Nat.zero_le _, rfl, fun _ _ => rfl, ⟨⟨hb.tx, hb.tk, hb.ty, hb.lx, hb.lk, hb.ly, by have := hb.lt; omega, hb.cell.only p2 hx, p1⟩, g, (h1.only p2 (hne yb (by rw [hb.ty]; decide))).mono (by omega), fun k => ((h2 k).turn p2 (fun _ _ => rfl) (fun c hc => hne c (by have := hc.idx; omega))).mono (by omega)⟩, p2.mono fun r _ e => by subst e; unfold OfIdx; rw [hb.tk]; decide⟩
  case round =>
    obtain ⟨k, T', hk, rfl, ht, hi, ho⟩ := hrel
    by_cases hlt : k < fs.length
    · obtain ⟨f, hfk⟩ : ∃ f, fs[k]? = some f := ⟨_, List.getElem?_eq_getElem hlt⟩
      obtain ⟨b, off, rfl, hb, d0, d1⟩ := (by have := HF.out wr ho; obtain ⟨A', cap', e, _, q⟩ := this; injection e with e1 e2 e3; subst e1; exact q k f hfk : ∃ b off, A = some ⟨b, off, none⟩ ∧ b < wr.heap.size ∧ wr.cell? ⟨b, off + k * 2, none⟩ = some (.string (B f.1)) ∧ wr.cell? ⟨b, off + k * 2 + 1, none⟩ = some (.string (B f.2)))
      obtain ⟨wa, hwa⟩ : ∃ wa, wa = wr.alloc (.cells #[.string (B f.1), .string (B f.2)] 45) := ⟨_, rfl⟩
      have oa : Only (fun _ => False) wr wa.drew := by rw [hwa]; exact ((Only.refl _ wr).alloc _).drew
      have FA : Cells wa.drew wr.heap.size 45 #[.string (B f.1), .string (B f.2)] := by rw [hwa]; exact (Cells.new wr _ _).drew
      obtain ⟨hbA, g, h1, h2⟩ := hi.turn oa (fun _ _ => rfl) (fun _ _ h => h)
      have x1 : wa.drew.cell? ⟨x, 1, none⟩ = some (.map (some yb)) := hbA.cell.cell 1
      have f0 : wa.drew.cell? ⟨wr.heap.size, 0, none⟩ = some (.string (B f.1)) := FA.cell 0
      have hmem := List.mem_of_getElem? hfk
      have hs1 : (B f.1).size ≤ maxLen := by rw [B_size]; exact (hf f hmem).1
      have lk := h1.look Try.underlying65 (show (zeroValue 73).run Try.prog wa.drew = .ok (.map none) wa.drew by kernel_rfl) (B f.1) hs1
      rw [B_data] at lk
      have HG := Lib.hid (And.intro hbA (And.intro h1 h2))
      have HI := Lib.hid hi
      have HO := Lib.hid ho
      have HFA := Lib.hid FA
      have HWA := Lib.hid hwa
      clear hbA h1 h2 hi ho FA oa hwa
      have DD := Lib.hid (show Only (fun _ => False) wa.drew wa.drew.drew from (Only.refl _ _).drew)
      have hsw : wa.drew.drew.heap.size = wa.heap.size := rfl
      have x2 : wa.cell? ⟨x, 1, none⟩ = some (.map (some yb)) := x1
      have f2 : wa.cell? ⟨wr.heap.size, 0, none⟩ = some (.string (B f.1)) := f0
      have f3 : wa.cell? ⟨wr.heap.size, 1, none⟩ = some (.string (B f.2)) := HFA.out.cell 1
      have HS := Lib.hid (addFs_snoc id F fs k f hfk)
      have HC : Hid (addFs id F (fs.take k) f.1 (B f.2).data.toList id ≤ 1000000) := by
        have := addFs_le id (fs.take k) F f.1 (B f.2).data.toList id; rw [h0, List.length_take] at this; show _ ≤ _; omega
      have HSZ : Hid (lo ≤ wr.heap.size ∧ wr.heap.size + 1 = wa.heap.size) := ⟨by have := HO.out.size; omega, by rw [HWA.out]; simp⟩
      have hs2 : (B f.2).size ≤ maxLen := by rw [B_size]; exact (hf f hmem).2
      cases hg : g f.1 with
      | none =>
        rw [hg] at lk
        obtain ⟨w2, hrun2, q1, q2, q3⟩ := RefM.store (w := (wa.alloc (.map #[] 0)).drew.drew) (((HG.out.2.1.only DD.out (fun h => h)).same (show (wa.alloc (.map #[] 0)).drew.drew.heap[yb]? = wa.drew.drew.heap[yb]? from Below.heap_alloc wa.drew.drew (.map #[] 0) yb HG.out.1.lt))) Try.underlying65 (by unfold maxLen; omega) (B f.1) hs1 wa.heap.size
        have x4 : (wa.alloc (.map #[] 0)).cell? ⟨x, 1, none⟩ = some (.map (some yb)) := (HG.out.1.cell.alloc (.map #[] 0)).cell 1
        have f4 : (wa.alloc (.map #[] 0)).cell? ⟨wr.heap.size, 0, none⟩ = some (.string (B f.1)) := (HFA.out.alloc (.map #[] 0)).cell 0
        rw [B_data] at q1
        obtain ⟨T1, ht1, op⟩ := IdxAt.opened (w := wa.drew.drew) (HG.out.1.turn DD.out (fun _ _ => rfl) (fun _ _ h => h) (Nat.le_refl _)) (fun k => (HG.out.2.2 k).turn DD.out (fun _ _ => rfl) (fun _ _ h => h)) (HG.out.2.1.only DD.out (fun h => h)) f.1 hg (rfl : (wa.alloc (.map #[] 0)).drew.drew = wa.drew.drew.alloc (.map #[] 0)) (by have := HSZ.out; rw [hsw]; omega) q1 q2
        have D2 := Lib.hid (show Only (fun _ => False) w2 w2.drew from (Only.refl _ _).drew)
        have OP := Lib.hid (op.turn D2.out (fun _ _ => rfl) (fun _ _ h => h))
        have O2 := Lib.hid (show Only (· = yb) wa.drew w2 from ((((Only.refl (· = yb) wa.drew).alloc (.map #[] 0)).drew).trans q2 (fun _ _ e => e)))
        have FB := HFA.out.only O2.out (fun e => by have := HI.out.base.lt; omega)
        have ADD := Lib.hid (add_any OP.out.val (B f.2) hs2 id hw (by omega) HC.out (by have := HSZ.out; have := O2.out.size; show lo ≤ w2.heap.size; have : wa.drew.heap.size = wa.heap.size := rfl; omega))
        have y1 : w2.cell? ⟨x, 1, none⟩ = some (.map (some yb)) := op.base.cell.cell 1
        have y2 : w2.cell? ⟨wr.heap.size, 0, none⟩ = some (.string (B f.1)) := FB.cell 0
        have y3 : w2.cell? ⟨wr.heap.size, 1, none⟩ = some (.string (B f.2)) := FB.cell 1
        have lk2 : (Instr.lookup 65 (.map (some yb)) (.string (B f.1)) false).run Try.prog w2.drew = .ok (.map (some wa.heap.size)) w2.drew := by
          obtain ⟨g2, r1, r2, _⟩ := OP.out.keys
          have := r1.look Try.underlying65 (show (zeroValue 73).run Try.prog w2.drew = .ok (.map none) w2.drew by kernel_rfl) (B f.1) hs1
          rw [B_data, r2] at this
          exact this
        have HT1 := Lib.hid ht1
        have FIN : Hid (∀ w5 T2, (∀ c, c < w2.drew.heap.size → T2 c = T1 c) → ValAt w5 T2 lo f.1 wa.drew.drew.heap.size (n + 1 + 2 * k + 1 + 1) (upF (addFs id F (fs.take k) f.1) (B f.2).data.toList id) → Only (OfKey T1 f.1) w2.drew w5 →
            (∀ c, c < w.heap.size → T2 c = T c) ∧ IdxAt w5 T2 lo x kb yb (n + 1 + 2 * (k + 1)) (fun i => if i = id then true else ids i) (addFs id F (fs.take (k + 1))) ∧ Only (OfIdx T) w w5) := fun w5 T2 ht2 hv hof => by
          have s1 := HO.out.size
          have s2 := HSZ.out
          have s3 := O2.out.size
          have s4 : wa.drew.heap.size = wa.heap.size := rfl
          have s5 : w2.drew.heap.size = w2.heap.size := rfl
          have s6 : wa.drew.drew.heap.size = wa.heap.size := rfl
          have t1 : ∀ c, c < wr.heap.size → T1 c = T' c := fun c hc => HT1.out c (by omega)
          refine ⟨fun c hc => by rw [ht2 c (by omega), t1 c (by omega)]; exact ht c hc, ?_, ?_⟩
          · rw [HS.out]
            have := OP.out.close (B f.2).data.toList id ht2 hv hof
            rw [B_data] at this
            exact this.mono (by omega)
          · have q1 : Only (OfIdx T') wr w2.drew := ((((Only.refl (OfIdx T') wr).alloc (.cells #[.string (B f.1), .string (B f.2)] 45)).drew).trans (by rw [← HWA.out]; exact O2.out) (fun r _ e => by subst e; unfold OfIdx; rw [HI.out.base.ty]; decide)).drew
            have q2 := q1.trans hof fun r hr e => by have := e.of; unfold OfIdx at this ⊢; rw [t1 r hr] at this; exact this
            exact HO.out.trans q2 fun r hr e => by unfold OfIdx at e ⊢; rw [ht r hr] at e; exact e
        clear q1 q2 q3 op FB ht1
        go_wp2_with fail
        rw [← HWA.out]
        go_region
        go_upto_region 5 with fail
        go_cut [34] (fun c wx => c = .map (some wa.heap.size) ∧ wx = w2)
        case first =>
          go_region
          all_goals (try go_wp2_with fail)
          all_goals go_meet
          all_goals exact ⟨rfl, rfl⟩
        case rest =>
          obtain ⟨rfl, rfl⟩ := hcut
          go_wp2_with fail
          go_region_law (go_simp; go_at_call 45; refine ADD.out.mono ?_; rintro e w5 ⟨rfl, T2, ht2, hv, hof⟩)
          all_goals go_wp2_with fail
          all_goals
            obtain ⟨j1, j2, j3⟩ := FIN.out w5 T2 ht2 hv hof
            exact ⟨⟨k + 1, T2, hlt, by go_num, j1, j2, j3⟩, by simp [intOf]; omega⟩
      | some c =>
        rw [hg] at lk
        have OP := Lib.hid ((IdxAt.open HG.out.1 HG.out.2.1 HG.out.2.2 hg).turn DD.out (fun _ _ => rfl) (fun _ _ h => h))
        have ADD := Lib.hid (add_any OP.out.val (B f.2) hs2 id hw (by omega) HC.out (by have := HSZ.out; rw [hsw]; omega))
        have lk2 : (Instr.lookup 65 (.map (some yb)) (.string (B f.1)) false).run Try.prog wa.drew.drew = .ok (.map (some c)) wa.drew.drew := by
          obtain ⟨g2, r1, r2, _⟩ := OP.out.keys
          have := r1.look Try.underlying65 (show (zeroValue 73).run Try.prog wa.drew.drew = .ok (.map none) wa.drew.drew by kernel_rfl) (B f.1) hs1
          rw [B_data, r2] at this
          exact this
        have FIN : Hid (∀ w5 T2, (∀ c, c < wa.drew.drew.heap.size → T2 c = T' c) → ValAt w5 T2 lo f.1 c (n + 1 + 2 * k + 1) (upF (addFs id F (fs.take k) f.1) (B f.2).data.toList id) → Only (OfKey T' f.1) wa.drew.drew w5 →
            (∀ c, c < w.heap.size → T2 c = T c) ∧ IdxAt w5 T2 lo x kb yb (n + 1 + 2 * (k + 1)) (fun i => if i = id then true else ids i) (addFs id F (fs.take (k + 1))) ∧ Only (OfIdx T) w w5) := fun w5 T2 ht2 hv hof => by
          have s1 := HO.out.size
          have s2 := HSZ.out
          have s6 : wa.drew.drew.heap.size = wa.heap.size := rfl
          refine ⟨fun c hc => by rw [ht2 c (by omega)]; exact ht c hc, ?_, ?_⟩
          · rw [HS.out]
            have := OP.out.close (B f.2).data.toList id ht2 hv hof
            rw [B_data] at this
            exact this.mono (by omega)
          · have q1 : Only (OfIdx T') wr wa.drew.drew := by rw [HWA.out]; exact (((Only.refl (OfIdx T') wr).alloc (.cells #[.string (B f.1), .string (B f.2)] 45)).drew).drew
            have q2 := q1.trans hof fun r hr e => e.of
            exact HO.out.trans q2 fun r hr e => by unfold OfIdx at e ⊢; rw [ht r hr] at e; exact e
        go_wp2_with fail
        rw [← HWA.out]
        go_region
        go_wp2_with fail
        go_region_law (go_simp; go_at_call 45; refine ADD.out.mono ?_; rintro e w5 ⟨rfl, T2, ht2, hv, hof⟩)
        all_goals go_wp2_with fail
        all_goals
          obtain ⟨j1, j2, j3⟩ := FIN.out w5 T2 ht2 hv hof
          exact ⟨⟨k + 1, T2, hlt, by go_num, j1, j2, j3⟩, by simp [intOf]; omega⟩
    · obtain rfl : k = fs.length := by omega
      rw [List.take_length] at hi
      have HI := Lib.hid hi
      clear hi
      go_wp2_with fail
      go_end0
      exact ⟨rfl, T', ht, HI.out, ho⟩
end Go.Proofs.Ytiebbgbcojgeoaa

namespace Go.Proofs.Ytiebbgbcojgeoaa
open Go.RowKit Go.Maps

theorem SetM.look {w : World} {b n : Nat} {f : Int → Bool} (h : SetM w b n f) {t e : TypeId} (ht : Try.prog.underlying t = some (.map 3 e)) (hz : (zeroValue e).run Try.prog w = .ok (.agg #[]) w) (id : Int) (hw : (Lit.int .i64 id).wf = true) :
    (Instr.lookup t (.map (some b)) (.int .i64 id) true).run Try.prog w = .ok (.tuple #[.agg #[], .bool (f id)]) w := by
  obtain ⟨D, ho, h1⟩ := h
  obtain ⟨v, ps, hrun, hat⟩ := ho.look_ok keyI ht hz (unitElem_mk (H := Unit)) (Maps.keyOf_int_mk Try.underlying3 hw)
  obtain ⟨rfl, _⟩ := unitElem_inv hat
  rw [hrun, h1]
set_option maxRecDepth 100000 in
set_option maxHeartbeats 1000000 in
theorem new_idx (w : World) (T : Nat → Tag) (lo : Nat) (hlo : lo ≤ w.heap.size) :
    Calls Try.prog 7 #[] w fun e w' => e = .returned (.pointer (some ⟨w.heap.size + 2, 0, none⟩)) ∧
      ∃ T', (∀ c, c < w.heap.size → T' c = T c) ∧ IdxAt w' T' lo (w.heap.size + 2) w.heap.size (w.heap.size + 1) 0 (fun _ => false) (fun _ _ _ => 0) ∧ Only (fun _ => False) w w' := by
  have hmm := @run_makeMap Try.prog
  go_enter Try.func7, Try.ntmps7
  go_wp2_with fail
  go_ret
  refine ⟨by simp, fun c => if c < w.heap.size then T c else if c = w.heap.size then (4, [], []) else if c = w.heap.size + 1 then (5, [], []) else (3, [], []), fun c hc => if_pos hc, ⟨⟨?_, ?_, ?_, by omega, hlo, by omega, by simp, ?_, ?_⟩, fun _ => none, ?_, fun k => (show ∀ (v : List UInt8) (i : Int), (fun _ _ => 0 : List UInt8 → Int → Nat) v i = 0 from fun _ _ => rfl)⟩, (((Only.refl _ w).alloc _).alloc _).alloc _⟩
  · simp; intro h; omega
  · simp
  · simp; intro h; omega
  · have := Cells.new ((w.alloc (.map #[] 0)).alloc (.map #[] 0)) 67 #[.map (some w.heap.size), .map (some (w.heap.size + 1))]
    simpa using this
  · refine (SetM.made w).same ?_
    exact (Below.heap_alloc _ _ _ (by simp; omega)).trans (Below.heap_alloc _ _ _ (by simp))
  · have := RefM.made (w.alloc (.map #[] 0))
    rw [show (w.alloc (.map #[] 0)).heap.size = w.heap.size + 1 by simp] at this
    exact this.same (Below.heap_alloc _ _ _ (by simp))
set_option maxRecDepth 100000 in
set_option maxHeartbeats 1000000 in
theorem drop_nil (w : World) (id : Int) : Calls Try.prog 9 #[.pointer none, .int .i64 id] w fun e w' => e = .returned (.bool false) ∧ w' = w := by
  go_enter Try.func9, Try.ntmps9
  go_wp2_with fail
  go_ret
  exact ⟨rfl, rfl⟩
set_option maxRecDepth 100000 in
set_option maxHeartbeats 1000000 in
theorem drop_out {w : World} {T : Nat → Tag} {lo x kb yb n : Nat} {ids : Int → Bool} {F : List UInt8 → List UInt8 → Int → Nat} (h : IdxAt w T lo x kb yb n ids F) (id : Int) (hw : (Lit.int .i64 id).wf = true) (hid : ids id = false) :
    Calls Try.prog 9 #[.pointer (some ⟨x, 0, none⟩), .int .i64 id] w fun e w' => e = .returned (.bool false) ∧ Only (fun _ => False) w w' := by
  have c0 : w.cell? ⟨x, 0, none⟩ = some (.map (some kb)) := h.base.cell.cell 0
  have lk := h.base.known.look Try.underlying64 (by kernel_rfl) id hw
  rw [hid] at lk
  go_enter Try.func9, Try.ntmps9
  go_wp2_with fail
  go_ret
  exact ⟨rfl, (Only.refl _ w).alloc _⟩
set_option maxRecDepth 100000 in
set_option maxHeartbeats 1000000 in
theorem put_nil (w : World) (id : Int) (v : Value) : Calls Try.prog 11 #[.pointer none, .int .i64 id, v] w fun e w' => e = .returned (.iface 50 (.int .i64 1)) ∧ w' = w := by
  go_enter Try.func11, Try.ntmps11
  go_wp2_with fail
  go_ret
  exact ⟨rfl, rfl⟩
set_option maxRecDepth 100000 in
set_option maxHeartbeats 1000000 in
theorem valuesOf_nil (w : World) (k : ByteArray) : Calls Try.prog 36 #[.pointer none, .string k] w fun e w' => e = .returned (.map none) ∧ w' = w := by
  go_enter Try.func36, Try.ntmps36
  go_wp2_with fail
  go_ret
  exact ⟨rfl, rfl⟩
set_option maxRecDepth 100000 in
set_option maxHeartbeats 1000000 in
theorem valuesOf_any {w : World} {T : Nat → Tag} {lo x kb yb n : Nat} {ids : Int → Bool} {F : List UInt8 → List UInt8 → Int → Nat} (h : IdxAt w T lo x kb yb n ids F) (k : ByteArray) (hk : k.size ≤ maxLen) :
    Calls Try.prog 36 #[.pointer (some ⟨x, 0, none⟩), .string k] w fun e w' => ∃ c, e = .returned (.map c) ∧ w' = w ∧ KeyAt w T lo n k.data.toList c (F k.data.toList) := by
  have c1 : w.cell? ⟨x, 1, none⟩ = some (.map (some yb)) := h.base.cell.cell 1
  obtain ⟨g, h1, h2⟩ := h.keys
  have lk := h1.look Try.underlying65 (by kernel_rfl) k hk
  go_enter Try.func36, Try.ntmps36
  go_wp2_with fail
  go_ret
  exact ⟨_, rfl, rfl, h2 _⟩
set_option maxRecDepth 100000 in
set_option maxHeartbeats 1000000 in
theorem len_nil (w : World) : Calls Try.prog 25 #[.pointer none] w fun e w' => e = .returned (.int .i64 0) ∧ w' = w := by
  go_enter Try.func25, Try.ntmps25
  go_wp2_with fail
  go_ret
  exact ⟨rfl, rfl⟩
end Go.Proofs.Ytiebbgbcojgeoaa

namespace Go.Proofs.Ytiebbgbcojgeoaa
open Go.RowKit Go.Maps

theorem lookV_nil (s : ByteArray) (w : World) : (Instr.lookup 73 (.map none) (.string s) false).run Try.prog w = .ok (.map none) w := by
  first
    | kernel_rfl
    | (simp [Instr.lookup, run_underlying Try.underlying73]; done)
theorem KeyAt.look {w : World} {T : Nat → Tag} {lo n : Nat} {k : List UInt8} {c : Option Nat} {f : List UInt8 → Int → Nat} (h : KeyAt w T lo n k c f) (s : ByteArray) (hs : s.size ≤ maxLen) :
    ∃ d, (Instr.lookup 73 (.map c) (.string s) false).run Try.prog w = .ok (.map d) w ∧ HoldAt w T lo k s.data.toList n d (f s.data.toList) := by
  cases c with
  | none => exact ⟨none, lookV_nil s w, fun i => h _ i⟩
  | some b =>
    obtain ⟨⟨_, _, g, h1, h2⟩, _⟩ := h
    exact ⟨g s.data.toList, h1.look Try.underlying73 (by kernel_rfl) s hs, h2 _⟩
theorem has_i64 {w : World} {b n : Nat} {f : Int → Nat} (h : CntM w b n f) : ∃ D : DataW Unit, w.ownsMap Try.prog 3 (plainElem Try.prog 3) b n D ∧ (∀ k, has D (.int .i64 k) = true ↔ 0 < f k) ∧ ∀ k, 0 < f k → ∀ z, D.atKey (.int .i64 k) z = .lit (.int .i64 (f k : Int)) := h
set_option maxRecDepth 100000 in
set_option maxHeartbeats 2000000 in
/-- Count: the sum of what each holder has. -/
theorem idxCount {w : World} {T : Nat → Tag} {lo x kb yb n : Nat} {ids : Int → Bool} {F : List UInt8 → List UInt8 → Int → Nat} (h : IdxAt w T lo x kb yb n ids F) (k s : ByteArray) (hk : k.size ≤ maxLen) (hs : s.size ≤ maxLen) (hT : ∀ ss : List Int, ss.Nodup → (ss.map (F k.data.toList s.data.toList)).sum ≤ 1000000) :
    Calls Try.prog 24 #[.pointer (some ⟨x, 0, none⟩), .string k, .string s] w fun e w' => ∃ ss : List Int, e = .returned (.int .i64 ((ss.map (F k.data.toList s.data.toList)).sum : Nat)) ∧ ss.Nodup ∧ (∀ i, i ∈ ss ↔ 0 < F k.data.toList s.data.toList i) ∧ Only (fun _ => False) w w' := by
  have VO := Lib.hid (valuesOf_any h k hk)
  clear h
  go_enter Try.func24, Try.ntmps24
  go_wp2_with fail
  refine VO.out.mono ?_
  rintro e w' ⟨c, rfl, rfl, hkey⟩
  obtain ⟨d, lk, hh⟩ := hkey.look s hs
  obtain ⟨f, hf⟩ : ∃ f, f = F k.data.toList s.data.toList := ⟨_, rfl⟩
  rw [← hf] at hh hT
  have HF := Lib.hid hf
  clear hf
  cases d with
  | none =>
    have hrg := run_range_nilMap (P := Try.prog) w' 95 3 3 Try.underlying95
    have hnx : ∀ ty, (Instr.next (.pointer (some ⟨w'.heap.size, 0, none⟩)) false ty).run Try.prog (w'.alloc (.mapIter none 0 #[] 0)) = _ := fun ty => run_next_nilMap w' ty 0 0 #[]
    go_wp2_with fail
    refine wp_loop_rounds 1 ?_
    rw [rounds_succ]
    go_wp2_with fail
    go_ret
    rw [← HF.out]
    exact ⟨[], rfl, List.nodup_nil, fun i => ⟨fun e => (by cases e), fun e => by have := hh i; omega⟩, (Only.refl _ _).alloc _⟩
  | some b =>
    obtain ⟨_, _, hc, _⟩ := hh
    obtain ⟨D, ho, h1, h2⟩ := has_i64 hc
    have hbl := ho.lt
    go_wp2_with (at_range; refine wpList_range_own _ rfl _ 95 rfl 3 3 keyI Try.underlying95 _ b n _ rfl ho ?_; intro w0 hrg0 hg0 hs0)
    go_frame
    go_loopw [7] (fun cv wr => ∃ (left : Lit → Bool) (cnt : Nat) (ss : List Int), cv = .int .i64 ((ss.map f).sum : Nat) ∧ CollectedI D left ss ∧ wr.ranges Try.prog 3 (plainElem Try.prog 3) b w'.heap.size n D left cnt ∧ w'.grownBy wr none) (fun _ wr => wr.rangeLeft b w'.heap.size)
    case atStart => exact ⟨_, _, [], rfl, CollectedI.start D, hrg0, hg0⟩
    case round =>
      obtain ⟨left, cnt, ss, rfl, hcol, hrg, hgw⟩ := hrel
      go_wp2_with (at_next; refine wpList_next_ranges_ii _ rfl _ rfl 3 3 .i64 .i64 keyI Try.underlying3 Try.underlying3 b w'.heap.size n _ _ _ rfl hrg ?_ ?_)
      · intro _ hl0
        have HC := Lib.hid hcol
        have HL := Lib.hid hl0
        clear hcol hl0
        go_wp2_with fail
        go_ret
        rw [← HF.out]
        exact ⟨ss, rfl, HC.out.1, fun i => by rw [HC.out.2 i, h1 i]; exact ⟨fun e => e.1, fun e => ⟨e, HL.out _⟩⟩, (Only.refl _ _).grown hgw (fun k hk => by cases hk)⟩
      · intro y c w1 cnt1 hwx hwc hlx hat hrg1 hlt hg1 hs1 hen
        have hgw1 := hgw.andThen hg1 (fun j hj => by cases hj; exact Or.inl (Nat.le_refl _))
        have hy : 0 < f y := (h1 y).1 (has_true_of_atKey hat)
        obtain rfl : c = (f y : Int) := lit_int ((hat (.lit (.int .i64 0))).symm.trans (h2 y hy _))
        have hst := hcol.step hlx hat
        have hsum := hT _ hst.1
        have hsum2 : ((ss ++ [y]).map f).sum = (ss.map f).sum + f y := by simp
        rw [hsum2] at hsum
        have HST := Lib.hid hst
        have HS2 := Lib.hid hsum2
        clear hcol hst hsum2 hat
        go_wp2_with fail
        go_roundw
        case rel => exact ⟨_, cnt1, ss ++ [y], by rw [HS2.out]; simp, HST.out, hrg1, hgw1⟩
        case measure => rw [hrg1.left_eq, hrg.left_eq]; exact hlt
end Go.Proofs.Ytiebbgbcojgeoaa

namespace Go.Proofs.Ytiebbgbcojgeoaa
open Go.RowKit Go.Maps Go.Sort Go.Shelf

theorem strKeys_mem {w : World} {b n : Nat} {R : Value → Option (DataW Unit × List MemPlace)} {D : DataW Unit} (h : w.ownsMap Try.prog 9 R b n D) : (strKeys D).Nodup ∧ ∀ x, x ∈ strKeys D ↔ has D (.string x) = true := by
  obtain ⟨es, hD, hp, _⟩ := h.entries keyS
  obtain ⟨es', hD', hko⟩ := h.keysOf
  obtain rfl : es = es' := by rw [hD] at hD'; simpa using hD'
  subst hD
  have hk : ∀ p ∈ es, ∃ x, p.1 = .string x := fun p hp => by obtain ⟨v, hv⟩ := hko p hp; obtain ⟨x, _, hx, _⟩ := Maps.keyOf_str Try.underlying9 hv; exact ⟨x, hx⟩
  refine ⟨?_, fun x => ?_⟩
  · show (es.map fun p => strOf p.1).Nodup
    refine List.pairwise_map.2 (hp.imp_of_mem fun {p q} hp' hq' hne e => hne ?_)
    obtain ⟨a, ha⟩ := hk p hp'
    obtain ⟨b, hb⟩ := hk q hq'
    rw [ha, hb] at e ⊢
    exact congrArg _ e
  · rw [has_eq, List.any_eq_true]
    show x ∈ (es.map fun p => strOf p.1) ↔ _
    rw [List.mem_map]
    constructor
    · rintro ⟨p, hp', rfl⟩
      obtain ⟨a, ha⟩ := hk p hp'
      exact ⟨p, hp', by rw [ha]; simp [Lit.sameKey, strOf]⟩
    · rintro ⟨p, hp', hs⟩
      obtain ⟨a, ha⟩ := hk p hp'
      rw [ha] at hs
      exact ⟨p, hp', by rw [ha]; simpa [Lit.sameKey, strOf] using hs⟩
theorem intKeys_mem {w : World} {b n : Nat} {R : Value → Option (DataW Unit × List MemPlace)} {D : DataW Unit} (h : w.ownsMap Try.prog 3 R b n D) : (intKeys D).Nodup ∧ ∀ x, x ∈ intKeys D ↔ has D (.int .i64 x) = true := by
  obtain ⟨es, hD, hp, _⟩ := h.entries keyI
  obtain ⟨es', hD', hko⟩ := h.keysOf
  obtain rfl : es = es' := by rw [hD] at hD'; simpa using hD'
  subst hD
  have hk : ∀ p ∈ es, ∃ x, p.1 = .int .i64 x := fun p hp => by obtain ⟨v, hv⟩ := hko p hp; obtain ⟨x, _, hx, _⟩ := Maps.keyOf_i64 Try.underlying3 hv; exact ⟨x, hx⟩
  refine ⟨?_, fun x => ?_⟩
  · show (es.map fun p => Go.intOf p.1).Nodup
    refine List.pairwise_map.2 (hp.imp_of_mem fun {p q} hp' hq' hne e => hne ?_)
    obtain ⟨a, ha⟩ := hk p hp'
    obtain ⟨b, hb⟩ := hk q hq'
    rw [ha, hb] at e ⊢
    exact congrArg _ e
  · rw [has_eq, List.any_eq_true]
    show x ∈ (es.map fun p => Go.intOf p.1) ↔ _
    rw [List.mem_map]
    constructor
    · rintro ⟨p, hp', rfl⟩
      obtain ⟨a, ha⟩ := hk p hp'
      exact ⟨p, hp', by rw [ha]; simp [Lit.sameKey, Go.intOf]⟩
    · rintro ⟨p, hp', hs⟩
      obtain ⟨a, ha⟩ := hk p hp'
      rw [ha] at hs
      exact ⟨p, hp', by rw [ha]; simpa [Lit.sameKey, Go.intOf] using hs⟩
/-- slices.Sort, at any world. -/
theorem sortsS (m : Nat) : AnyZ.SortsIn Try.prog Try.sortedS_ren Fence.wide m :=
  ⟨fun blk off cap ss W hH hblk hsz => callsIn_wide.2 (AnyM.slices_Sort_string Try.sortS blk off cap ss W hH hblk hsz), fun p cap W => callsIn_wide.2 (AnyM.slices_Sort_string_none Try.sortS p cap W)⟩
theorem sortsI (m : Nat) : AnyZI.SortsIn Try.prog Try.sortedI_ren Fence.wide m :=
  ⟨fun blk off cap ss W hH hblk hsz => callsIn_wide.2 (AnyM.slices_Sort_int Try.sortI blk off cap ss W hH hblk hsz), fun p cap W => callsIn_wide.2 (AnyM.slices_Sort_int_none Try.sortI p cap W)⟩
/-- maps.Keys of a key's values: one new block. -/
theorem keysV_call (mb : Option Nat) (W : World) : CallsIn Fence.wide 5 Try.prog 44 #[.map mb] W fun e w' => e = .returned (.func (.func 58) #[] #[.pointer (some ⟨W.heap.size, 0, none⟩)]) ∧ w' = W.alloc (.cells #[.map mb] 73) :=
  AnyZ.keys_in Try.keysV Fence.wide 5 trivial rfl mb W
theorem keysH_call (mb : Option Nat) (W : World) : CallsIn Fence.wide 5 Try.prog 40 #[.map mb] W fun e w' => e = .returned (.func (.func 54) #[] #[.pointer (some ⟨W.heap.size, 0, none⟩)]) ∧ w' = W.alloc (.cells #[.map mb] 95) :=
  AnyZI.keys_in Try.keysH Fence.wide 5 trivial rfl mb W
/-- What a sorted answer is: its elements rising, in a new array; nil where there is none. -/
def AnsS (w w' : World) (v : Value) (ss : List (List UInt8)) : Prop :=
  w'.ownsRow w.heap.size 9 1 v ss.length ((ss.mergeSort (fun x y => decide (x ≤ y))).map encStr) ∧ (v = .slice none 0 0 ↔ ss = []) ∧ Below w.heap.size w w'
def AnsI (w w' : World) (v : Value) (ss : List Int) : Prop :=
  w'.ownsRow w.heap.size 3 1 v ss.length ((ss.mergeSort (fun x y => decide (x ≤ y))).map encZ) ∧ (v = .slice none 0 0 ↔ ss = []) ∧ Below w.heap.size w w'
set_option maxHeartbeats 1000000 in
theorem sortedV (b nn : Nat) (D0 : DataW Unit) (R : Value → Option (DataW Unit × List MemPlace)) (w : World) (hown : w.ownsMap Try.prog 9 R b nn D0) (hmax : Maps.size D0 ≤ 10000000) :
    CallsIn Fence.wide 5 Try.prog 42 #[.func (.func 58) #[] #[.pointer (some ⟨w.heap.size, 0, none⟩)]] (w.alloc (.cells #[.map (some b)] 73)) fun e w' => ∃ (v : Value) (ss : List (List UInt8)), e = .returned v ∧ ss.Perm (strKeys D0) ∧ AnsS w w' v ss := by
  have hbl := hown.lt
  have hseq : SeqGives Fence.wide 2 Try.prog 58 #[.pointer (some ⟨w.heap.size, 0, none⟩)] encStr (fun ss => ss.Perm (strKeys D0)) (Maps.size D0) (w.alloc (.cells #[.map (some b)] 73)) :=
    AnyZ.keys_gives (ρ := Try.keysV_ren) { Try.keysV with } Fence.wide _ trivial rfl (by omega) w.heap.size b nn D0 _ (by simp) (by simp) (by
      obtain ⟨es, clock, hb, Ft, hs, hD⟩ := hown
      exact ⟨es, clock, (Below.heap_alloc _ _ b hbl).trans hb, Ft, hs, hD⟩)
  refine (AnyZ.sorted_in Try.sortedS Fence.wide 5 trivial trivial trivial trivial rfl (by omega) (sortsS _) (enters_of Try.func56 (by kernel_rfl) rfl) 58 #[.pointer (some ⟨w.heap.size, 0, none⟩)] trivial (enters_of Try.func58 (by kernel_rfl) rfl) _ _ (by unfold maxLen; omega) (by omega) _ hseq).mono ?_
  rintro e w' ⟨v, ss, rfl, hS, hrow, hnil, hb⟩
  exact ⟨v, ss, rfl, hS, ownsRow_base_a hrow (by simp), hnil, ((Below.refl _ w).alloc (Nat.le_refl _) _).trans (hb.mono (by simp))⟩
set_option maxHeartbeats 1000000 in
theorem sortedV_nil (w : World) :
    CallsIn Fence.wide 5 Try.prog 42 #[.func (.func 58) #[] #[.pointer (some ⟨w.heap.size, 0, none⟩)]] (w.alloc (.cells #[.map none] 73)) fun e w' => e = .returned (.slice none 0 0) ∧ Below w.heap.size w w' := by
  have hseq : SeqGives Fence.wide 2 Try.prog 58 #[.pointer (some ⟨w.heap.size, 0, none⟩)] encStr (fun ss : List (List UInt8) => ss = []) 0 (w.alloc (.cells #[.map none] 73)) :=
    AnyZ.keys_gives_nil (ρ := Try.keysV_ren) { Try.keysV with } Fence.wide _ trivial rfl w.heap.size _ (by simp) (by simp)
  refine (AnyZ.sorted_in Try.sortedS Fence.wide 5 trivial trivial trivial trivial rfl (by omega) (sortsS _) (enters_of Try.func56 (by kernel_rfl) rfl) 58 #[.pointer (some ⟨w.heap.size, 0, none⟩)] trivial (enters_of Try.func58 (by kernel_rfl) rfl) _ 0 (Nat.zero_le _) (by omega) _ hseq).mono ?_
  rintro e w' ⟨v, ss, rfl, hS, hrow, hnil, hb⟩
  exact ⟨by rw [hnil.2 hS], ((Below.refl _ w).alloc (Nat.le_refl _) _).trans (hb.mono (by simp))⟩
set_option maxHeartbeats 1000000 in
theorem sortedH (b nn : Nat) (D0 : DataW Unit) (R : Value → Option (DataW Unit × List MemPlace)) (w : World) (hown : w.ownsMap Try.prog 3 R b nn D0) (hmax : Maps.size D0 ≤ 10000000) :
    CallsIn Fence.wide 5 Try.prog 39 #[.func (.func 54) #[] #[.pointer (some ⟨w.heap.size, 0, none⟩)]] (w.alloc (.cells #[.map (some b)] 95)) fun e w' => ∃ (v : Value) (ss : List Int), e = .returned v ∧ ss.Perm (intKeys D0) ∧ AnsI w w' v ss := by
  have hbl := hown.lt
  have hseq : SeqGives Fence.wide 2 Try.prog 54 #[.pointer (some ⟨w.heap.size, 0, none⟩)] encZ (fun ss => ss.Perm (intKeys D0)) (Maps.size D0) (w.alloc (.cells #[.map (some b)] 95)) :=
    AnyZI.keys_gives (ρ := Try.keysH_ren) { Try.keysH with } Fence.wide _ trivial rfl (by omega) w.heap.size b nn D0 _ (by simp) (by simp) (by
      obtain ⟨es, clock, hb, Ft, hs, hD⟩ := hown
      exact ⟨es, clock, (Below.heap_alloc _ _ b hbl).trans hb, Ft, hs, hD⟩)
  refine (AnyZI.sorted_in Try.sortedI Fence.wide 5 trivial trivial trivial trivial rfl (by omega) (sortsI _) (enters_of Try.func51 (by kernel_rfl) rfl) 54 #[.pointer (some ⟨w.heap.size, 0, none⟩)] trivial (enters_of Try.func54 (by kernel_rfl) rfl) _ _ (by unfold maxLen; omega) (by omega) _ hseq).mono ?_
  rintro e w' ⟨v, ss, rfl, hS, hrow, hnil, hb⟩
  exact ⟨v, ss, rfl, hS, ownsRow_base_a hrow (by simp), hnil, ((Below.refl _ w).alloc (Nat.le_refl _) _).trans (hb.mono (by simp))⟩
set_option maxHeartbeats 1000000 in
theorem sortedH_nil (w : World) :
    CallsIn Fence.wide 5 Try.prog 39 #[.func (.func 54) #[] #[.pointer (some ⟨w.heap.size, 0, none⟩)]] (w.alloc (.cells #[.map none] 95)) fun e w' => e = .returned (.slice none 0 0) ∧ Below w.heap.size w w' := by
  have hseq : SeqGives Fence.wide 2 Try.prog 54 #[.pointer (some ⟨w.heap.size, 0, none⟩)] encZ (fun ss : List Int => ss = []) 0 (w.alloc (.cells #[.map none] 95)) :=
    AnyZI.keys_gives_nil (ρ := Try.keysH_ren) { Try.keysH with } Fence.wide _ trivial rfl w.heap.size _ (by simp) (by simp)
  refine (AnyZI.sorted_in Try.sortedI Fence.wide 5 trivial trivial trivial trivial rfl (by omega) (sortsI _) (enters_of Try.func51 (by kernel_rfl) rfl) 54 #[.pointer (some ⟨w.heap.size, 0, none⟩)] trivial (enters_of Try.func54 (by kernel_rfl) rfl) _ 0 (Nat.zero_le _) (by omega) _ hseq).mono ?_
  rintro e w' ⟨v, ss, rfl, hS, hrow, hnil, hb⟩
  exact ⟨by rw [hnil.2 hS], ((Below.refl _ w).alloc (Nat.le_refl _) _).trans (hb.mono (by simp))⟩
end Go.Proofs.Ytiebbgbcojgeoaa

namespace Go.Proofs.Ytiebbgbcojgeoaa
open Go.RowKit Go.Maps Go.Sort Go.Shelf

theorem lookRoom (x : Nat) : x ≤ 1000000 → x ≤ 10000000 := fun h => by omega
set_option maxRecDepth 100000 in
set_option maxHeartbeats 1000000 in
theorem valuesOf_g {w : World} {T : Nat → Tag} {lo x kb yb n : Nat} {ids : Int → Bool} (hb : IdxB w T lo x kb yb n ids) {g : List UInt8 → Option Nat} (h1 : RefM w yb n g) (k : ByteArray) (hk : k.size ≤ maxLen) :
    Calls Try.prog 36 #[.pointer (some ⟨x, 0, none⟩), .string k] w fun e w' => e = .returned (.map (g k.data.toList)) ∧ w' = w := by
  have c1 : w.cell? ⟨x, 1, none⟩ = some (.map (some yb)) := hb.cell.cell 1
  have lk := h1.look Try.underlying65 (by kernel_rfl) k hk
  go_enter Try.func36, Try.ntmps36
  go_wp2_with fail
  go_ret
  exact ⟨rfl, rfl⟩
theorem ansS_nil {w w' : World} (hb : Below w.heap.size w w') : AnsS w w' (.slice none 0 0) [] := ⟨⟨by simp, .inl ⟨rfl, rfl⟩⟩, ⟨fun _ => rfl, fun _ => rfl⟩, hb⟩
theorem ansI_nil {w w' : World} (hb : Below w.heap.size w w') : AnsI w w' (.slice none 0 0) [] := ⟨⟨by simp, .inl ⟨rfl, rfl⟩⟩, ⟨fun _ => rfl, fun _ => rfl⟩, hb⟩
set_option maxRecDepth 100000 in
set_option maxHeartbeats 1000000 in
theorem idxValues {w : World} {T : Nat → Tag} {lo x kb yb n : Nat} {ids : Int → Bool} {F : List UInt8 → List UInt8 → Int → Nat} (h : IdxAt w T lo x kb yb n ids F) (hn : n ≤ 1000000) (k : ByteArray) (hk : k.size ≤ maxLen) :
    Calls Try.prog 23 #[.pointer (some ⟨x, 0, none⟩), .string k] w fun e w' => ∃ v ss, e = .returned v ∧ ss.Nodup ∧ (∀ s, s ∈ ss ↔ ∃ i, 0 < F k.data.toList s i) ∧ AnsS w w' v ss := by
  obtain ⟨hb, g, h1, h2⟩ := h
  have hkey := h2 k.data.toList
  have VO := callsIn_wide (n := 5) |>.2 (valuesOf_g hb h1 k hk)
  have hfV : Fence.wide.fn 36 := trivial
  have hfK : Fence.wide.fn 44 := trivial
  have hfS : Fence.wide.fn 42 := trivial
  clear h1 h2 hb
  refine (callsIn_wide (n := 6)).1 ?_
  cases hg : g k.data.toList with
  | none =>
    rw [hg] at VO hkey
    have cS := sortedV_nil w
    have HK := Lib.hid hkey
    clear hkey
    refine callsIn_of_wp Try.func23 rfl trivial ?_ rfl
    simp only [Try.ntmps23, List.size_toArray, List.length_cons, List.length_nil, Nat.reduceAdd, Nat.reduceSub, Array.replicate_succ, Array.replicate_zero, List.push_toArray, List.append_toArray, List.nil_append, List.cons_append]
    gi_wp2_with (first
      | (gi_at_call 36; refine VO.mono ?_; rintro e w1 ⟨rfl, rfl⟩)
      | (gi_at_call 44; refine (keysV_call _ _).mono ?_; rintro e w' ⟨rfl, rfl⟩)
      | (gi_at_call 42; refine cS.mono ?_; rintro e w' ⟨rfl, hb⟩))
    go_ret
    exact ⟨_, [], rfl, List.nodup_nil, fun s => ⟨fun e => (by cases e), fun ⟨i, e⟩ => by have : F k.data.toList s i = 0 := HK.out s i; omega⟩, ansS_nil hb⟩
  | some b =>
    rw [hg] at VO hkey
    obtain ⟨⟨_, _, gg, ⟨D, ho, hh, _⟩, hv⟩, _⟩ := hkey
    have cS := sortedV b n D refElem w ho (Nat.le_trans ho.size_le (lookRoom n hn))
    obtain ⟨nd, mm⟩ := strKeys_mem ho
    have HM := Lib.hid (And.intro nd (And.intro mm (And.intro hh hv)))
    clear hh hv nd mm
    refine callsIn_of_wp Try.func23 rfl trivial ?_ rfl
    simp only [Try.ntmps23, List.size_toArray, List.length_cons, List.length_nil, Nat.reduceAdd, Nat.reduceSub, Array.replicate_succ, Array.replicate_zero, List.push_toArray, List.append_toArray, List.nil_append, List.cons_append]
    gi_wp2_with (first
      | (gi_at_call 36; refine VO.mono ?_; rintro e w1 ⟨rfl, rfl⟩)
      | (gi_at_call 44; refine (keysV_call _ _).mono ?_; rintro e w' ⟨rfl, rfl⟩)
      | (gi_at_call 42; refine cS.mono ?_; rintro e w' ⟨v, ss, rfl, hS, ha⟩))
    go_ret
    refine ⟨v, ss, rfl, (hS.nodup_iff).2 HM.out.1, fun s => ?_, ha⟩
    rw [hS.mem_iff, HM.out.2.1, HM.out.2.2.1]
    have := HM.out.2.2.2 s
    cases hs : gg s with
    | none => rw [hs] at this; exact ⟨fun e => (by cases e), fun ⟨i, e⟩ => by have : F k.data.toList s i = 0 := this i; omega⟩
    | some c => rw [hs] at this; exact ⟨fun _ => this.2.2.2, fun _ => rfl⟩
set_option maxRecDepth 100000 in
set_option maxHeartbeats 1000000 in
theorem idxEqual {w : World} {T : Nat → Tag} {lo x kb yb n : Nat} {ids : Int → Bool} {F : List UInt8 → List UInt8 → Int → Nat} (h : IdxAt w T lo x kb yb n ids F) (hn : n ≤ 1000000) (k s : ByteArray) (hk : k.size ≤ maxLen) (hs : s.size ≤ maxLen) :
    Calls Try.prog 20 #[.pointer (some ⟨x, 0, none⟩), .string k, .string s] w fun e w' => ∃ v ss, e = .returned v ∧ ss.Nodup ∧ (∀ i, i ∈ ss ↔ 0 < F k.data.toList s.data.toList i) ∧ AnsI w w' v ss := by
  obtain ⟨hb, g, h1, h2⟩ := h
  obtain ⟨d, lk, hh⟩ := (h2 k.data.toList).look s hs
  have VO := callsIn_wide (n := 5) |>.2 (valuesOf_g hb h1 k hk)
  have hfV : Fence.wide.fn 36 := trivial
  have hfK : Fence.wide.fn 40 := trivial
  have hfS : Fence.wide.fn 39 := trivial
  clear h1 h2 hb
  refine (callsIn_wide (n := 6)).1 ?_
  cases d with
  | none =>
    have cS := sortedH_nil w
    have HK := Lib.hid hh
    clear hh
    refine callsIn_of_wp Try.func20 rfl trivial ?_ rfl
    simp only [Try.ntmps20, List.size_toArray, List.length_cons, List.length_nil, Nat.reduceAdd, Nat.reduceSub, Array.replicate_succ, Array.replicate_zero, List.push_toArray, List.append_toArray, List.nil_append, List.cons_append]
    gi_wp2_with (first
      | (gi_at_call 36; refine VO.mono ?_; rintro e w1 ⟨rfl, rfl⟩)
      | (gi_at_call 40; refine (keysH_call _ _).mono ?_; rintro e w' ⟨rfl, rfl⟩)
      | (gi_at_call 39; refine cS.mono ?_; rintro e w' ⟨rfl, hb⟩))
    go_ret
    exact ⟨_, [], rfl, List.nodup_nil, fun i => ⟨fun e => (by cases e), fun e => by have : F k.data.toList s.data.toList i = 0 := HK.out i; omega⟩, ansI_nil hb⟩
  | some c =>
    obtain ⟨_, _, hc, _⟩ := hh
    obtain ⟨D, ho, q1, _⟩ := has_i64 hc
    have cS := sortedH c n D _ w ho (Nat.le_trans ho.size_le (lookRoom n hn))
    obtain ⟨nd, mm⟩ := intKeys_mem ho
    have HM := Lib.hid (And.intro nd (And.intro mm q1))
    clear q1 nd mm
    refine callsIn_of_wp Try.func20 rfl trivial ?_ rfl
    simp only [Try.ntmps20, List.size_toArray, List.length_cons, List.length_nil, Nat.reduceAdd, Nat.reduceSub, Array.replicate_succ, Array.replicate_zero, List.push_toArray, List.append_toArray, List.nil_append, List.cons_append]
    gi_wp2_with (first
      | (gi_at_call 36; refine VO.mono ?_; rintro e w1 ⟨rfl, rfl⟩)
      | (gi_at_call 40; refine (keysH_call _ _).mono ?_; rintro e w' ⟨rfl, rfl⟩)
      | (gi_at_call 39; refine cS.mono ?_; rintro e w' ⟨v, ss, rfl, hS, ha⟩))
    go_ret
    exact ⟨v, ss, rfl, (hS.nodup_iff).2 HM.out.1, fun i => by rw [hS.mem_iff, HM.out.2.1, HM.out.2.2], ha⟩
end Go.Proofs.Ytiebbgbcojgeoaa

namespace Go.Proofs.Ytiebbgbcojgeoaa
open Go.RowKit

/-- The blocks from B on, k of them, lie as they lay. -/
structure Stay (B k : Nat) (W W' : World) : Prop where
  size : W.heap.size ≤ W'.heap.size
  same : ∀ r, B ≤ r → r < B + k → W'.heap[r]? = W.heap[r]?

theorem Stay.refl (B k : Nat) (W : World) : Stay B k W W := ⟨Nat.le_refl _, fun _ _ _ => rfl⟩
theorem Stay.trans {B k : Nat} {X Y Z : World} (h : Stay B k X Y) (g : Stay B k Y Z) : Stay B k X Z :=
  ⟨Nat.le_trans h.size g.size, fun r a b => (g.same r a b).trans (h.same r a b)⟩
theorem Stay.alloc {B k : Nat} {X Y : World} (h : Stay B k X Y) (hs : B + k ≤ Y.heap.size) (o : Obj) : Stay B k X (Y.alloc o) :=
  h.trans ⟨by simp, fun r _ b => Below.heap_alloc _ _ _ (by omega)⟩
theorem Stay.setCell {B k : Nat} {X Y : World} (h : Stay B k X Y) {p : Addr} (hp : p.block < B ∨ B + k ≤ p.block) (u : Value) : Stay B k X (Y.setCell p u) :=
  h.trans ⟨by simp [World.setCell], fun r a b => Below.heap_setCell _ _ _ _ (by omega)⟩
theorem Stay.drew {B k : Nat} {X Y : World} (h : Stay B k X Y) : Stay B k X Y.drew := ⟨h.size, h.same⟩
theorem Stay.sub {B k B' k' : Nat} {X Y : World} (h : Stay B k X Y) (a : B ≤ B') (b : B' + k' ≤ B + k) : Stay B' k' X Y :=
  ⟨h.size, fun r c d => h.same r (by omega) (by omega)⟩
theorem Stay.grown {B k : Nat} {X Y Z : World} (h : Stay B k X Y) {row : Option Nat} (hg : Y.grownBy Z row) (hs : B + k ≤ Y.heap.size) (hr : ∀ r, row = some r → r < B ∨ B + k ≤ r) : Stay B k X Z :=
  h.trans ⟨hg.size, fun r a b => hg.block r (by omega) (fun e => by have := hr r e.symm; omega)⟩
theorem Stay.below {B k n : Nat} {X Y Z : World} (h : Stay B k X Y) (hb : Below n Y Z) (hn : B + k ≤ n) : Stay B k X Z :=
  h.trans ⟨hb.size, fun r _ b => hb.block r (by omega)⟩

/-- Whatever lay lies as it lay, but for the blocks from B on, k of them. -/
structure Turned (B k : Nat) (W W' : World) : Prop where
  os : W'.os = W.os
  tape : W'.tape = W.tape
  output : W'.output = W.output
  size : W.heap.size ≤ W'.heap.size
  same : ∀ r, r < W.heap.size → r < B ∨ B + k ≤ r → W'.heap[r]? = W.heap[r]?

theorem Turned.refl (B k : Nat) (W : World) : Turned B k W W := ⟨rfl, rfl, rfl, Nat.le_refl _, fun _ _ _ => rfl⟩
theorem Turned.trans {B k : Nat} {X Y Z : World} (h : Turned B k X Y) (g : Turned B k Y Z) : Turned B k X Z :=
  ⟨g.os.trans h.os, g.tape.trans h.tape, g.output.trans h.output, Nat.le_trans h.size g.size, fun r a b => (g.same r (Nat.lt_of_lt_of_le a h.size) b).trans (h.same r a b)⟩
theorem Turned.grown {B k : Nat} {X Y Z : World} (h : Turned B k X Y) {row : Option Nat} (hg : Y.grownBy Z row) (hr : ∀ r, row = some r → B ≤ r ∧ r < B + k) : Turned B k X Z :=
  h.trans ⟨hg.os, hg.tape, hg.output, hg.size, fun r a b => hg.block r a (fun e => by have := hr r e.symm; omega)⟩
theorem Turned.alloc {B k : Nat} {X Y : World} (h : Turned B k X Y) (o : Obj) : Turned B k X (Y.alloc o) :=
  h.grown (World.grownBy_alloc Y o none) (fun r e => by cases e)
theorem Turned.putObj {B k : Nat} {X Y : World} (h : Turned B k X Y) {l : Nat} (o : Obj) (a : B ≤ l) (b : l < B + k) : Turned B k X (Y.putObj l o) :=
  h.grown (grownBy_putObj' Y l o) (fun r e => by cases e; exact ⟨a, b⟩)
theorem Turned.setCell {B k : Nat} {X Y : World} (h : Turned B k X Y) {p : Addr} (a : B ≤ p.block) (b : p.block < B + k) (u : Value) : Turned B k X (Y.setCell p u) :=
  h.trans ⟨rfl, rfl, rfl, by simp [World.setCell], fun r _ c => Below.heap_setCell _ _ _ _ (by omega)⟩
theorem Turned.drew {B k : Nat} {X Y : World} (h : Turned B k X Y) : Turned B k X Y.drew := ⟨h.os, h.tape, h.output, h.size, h.same⟩
theorem Turned.sub {B k B' k' : Nat} {X Y : World} (h : Turned B' k' X Y) (a : B ≤ B') (b : B' + k' ≤ B + k) : Turned B k X Y :=
  ⟨h.os, h.tape, h.output, h.size, fun r c d => h.same r c (by omega)⟩
theorem Turned.of_below {B k n : Nat} {X Y : World} (h : Below n X Y) (hn : X.heap.size ≤ n) : Turned B k X Y :=
  ⟨h.os, h.tape, h.output, h.size, fun r a _ => h.block r (by omega)⟩
theorem Turned.below {B k n : Nat} {X Y : World} (h : Turned B k X Y) (hn : n ≤ B) (hs : n ≤ X.heap.size) : Below n X Y :=
  ⟨h.os, h.tape, h.output, h.size, fun r a => h.same r (by omega) (by omega)⟩
theorem Turned.box {B k b : Nat} {X Y : World} {t : TypeId} {v : Value} (h : Turned B k X Y) (hv : Boxed X b t v) (hb : b < B ∨ B + k ≤ b) : Boxed Y b t v :=
  (h.same b (Array.getElem?_eq_some_iff.1 (show X.heap[b]? = _ from hv)).1 hb).trans hv
theorem Turned.row {B k : Nat} {X Y : World} {base : Nat} {e : TypeId} {size : Nat} {v : Value} {n : Nat} {xs : List Value} (h : Turned B k X Y) (hr : X.ownsRow base e size v n xs)
    (hb : ∀ b, v.ownBlock = some b → b < B ∨ B + k ≤ b) : Y.ownsRow base e size v n xs := by
  refine ⟨hr.1, ?_⟩
  rcases hr.2 with hn | ⟨g, cap, cur, rfl, hbase, hg, rest⟩
  · exact .inl hn
  · exact .inr ⟨g, cap, cur, rfl, hbase, (h.same g (Array.getElem?_eq_some_iff.1 hg).1 (hb g rfl)).trans hg, rest⟩

/-- What abides the turns of the blocks from B on, k of them, and whatever is laid. -/
def Abide {β : Type} (B k : Nat) (J : β → World → Prop) : Prop := ∀ s W W', J s W → Turned B k W W' → J s W'

theorem Abide.sub {β : Type} {B k B' k' : Nat} {J : β → World → Prop} (h : Abide B k J) (a : B ≤ B') (b : B' + k' ≤ B + k) : Abide B' k' J :=
  fun s W W' hs ht => h s W W' hs (ht.sub a b)
theorem Abide.alloc {β : Type} {B k : Nat} {J : β → World → Prop} (h : Abide B k J) {s : β} {W : World} (o : Obj) (hs : J s W) : J s (W.alloc o) :=
  h s W _ hs ((Turned.refl _ _ _).alloc o)
theorem Abide.putObj {β : Type} {B k : Nat} {J : β → World → Prop} (h : Abide B k J) {s : β} {W : World} {l : Nat} (o : Obj) (hs : J s W) (a : B ≤ l) (b : l < B + k) : J s (W.putObj l o) :=
  h s W _ hs ((Turned.refl _ _ _).putObj o a b)
theorem Abide.and {β : Type} {B k : Nat} {I J : β → World → Prop} (h : Abide B k I) (g : Abide B k J) : Abide B k (fun s W => I s W ∧ J s W) :=
  fun s W W' hs ht => ⟨h s W W' hs.1 ht, g s W W' hs.2 ht⟩
theorem Abide.below {β : Type} {B k n : Nat} {w : World} (hn : n ≤ w.heap.size) (hB : n ≤ B) : Abide B k (fun (_ : β) W => Below n w W) :=
  fun _ _ _ hs ht => hs.trans (ht.below hB (Nat.le_trans hn hs.size))
/-- A box outside. -/
theorem Abide.box {β : Type} {B k b : Nat} {t : TypeId} (hb : b < B ∨ B + k ≤ b) (f : β → Value) : Abide B k (fun s W => Boxed W b t (f s)) :=
  fun _ _ _ hs ht => ht.box hs hb

/-- THE ITERATOR's CONTRACT: the function g, with what it has captured, hands the xs over, one by one; k boxes of its own. -/
def Hands {α : Type} (P : Program) (g : Nat) (lb : Array Value) (encs : α → Array Value) (k : Nat) (xs : List α) (w : World) : Prop :=
  ∀ (l : Nat) (J Jx : List α → World → Prop) (W : World), Below w.heap.size w W → Abide W.heap.size k J →
    (∀ pre x post W1, xs = pre ++ x :: post → W.heap.size + k ≤ W1.heap.size → J pre W1 → YieldAt Fence.wide 7 P l (encs x) W1 fun e W' =>
      (e = .returned (.bool true) ∧ J (pre ++ [x]) W' ∧ Stay W.heap.size k W1 W') ∨ (e = .returned (.bool false) ∧ Jx (pre ++ [x]) W')) →
    J [] W →
    CallsIn Fence.wide 8 P g (#[.func (.yield l) #[] #[]] ++ lb) W fun e W' => (∃ v, e = .returned v) ∧ (J xs W' ∨ ∃ pre, pre <+: xs ∧ Jx pre W')

/-- How the body of a round may be left. -/
def left {α : Type} (B k : Nat) (I : List α → World → Prop) (Ix : Code → List α → World → Prop) (xs : List α) (W : World) : Exit → Act → World → Prop
  | .normal, _, W' => Stay B k W W' ∧ I xs W'
  | .ret, _, W' => Stay B k W W' ∧ Ix .ret xs W'
  | .exit id, _, W' => Stay B k W W' ∧ Ix (.exit id) xs W'
  | .goto t, _, W' => Stay B k W W' ∧ Ix (.goto t) xs W'
  | .panic _, _, _ => False
  | .outgrown, _, _ => False

/-- What is to be shown behind the assignment to the loop's left sides. -/
def assigned (B k : Nat) (M : Act → World → Prop) (W : World) : Exit → Act → World → Prop :=
  Exit.then (fun a' W' => Stay B k W W' ∧ M a' W') (fun _ _ _ => False)

variable {P : Program}

end Go.Proofs.Ytiebbgbcojgeoaa

namespace Go.Proofs.Ytiebbgbcojgeoaa
open Go.RowKit Go.Maps Go.Sort Go.Shelf
attribute [local go_sem] Oper.semAt_some

/-- append of one value in a round, and where the new row lies. -/
theorem wpListIn_append_at {F : Fence} {n : Nat} {P : Program} (w : World) {ops : Array Oper} {rest : List Oper} {o : Oper} {a : Act} {Q : Exit → Act → World → Prop}
    (hg : o.guard = none) (s x : Operand) (t : TypeId) (hop : o.op = Op.call { callee := Callee.builtin Builtin.append, args := #[s, x], argTypes := #[t, t] })
    (base : Nat) (e : TypeId) (i : TypeInfo) (z : Value) (size bytes : Nat) (h1 : P.underlying t = some (.slice e)) (h2 : P.info? e = some i) (h3 : i.zero = some z) (h4 : i.size = size) (h5 : i.bytes = bytes) (h6 : z.cells.size = size) (h7 : 0 < size)
    (v : Value) (k : Nat) (xs : List Value) (hs : a.eval s = v) (hown : w.ownsRow base e size v k xs) (ad : Addr) (m c : Nat) (news : List Value) (hx : a.eval x = .slice (some ad) m c) (hn : news.length = m * size)
    (hc : ∀ j u, news[j]? = some u → w.cell? (ad.add j) = some u) (h1c : ∀ u ∈ news, u.oneCell' = true) (b1 : k + m ≤ maxLen) (b2 : (k + m) * bytes ≤ 140737488355328) (b3 : base ≤ w.heap.size)
    (hK : ∀ v' w', w'.ownsRow base e size v' (k + m) (xs ++ news) → w.grownBy w' v.ownBlock → Hid (v'.ownBlock = v.ownBlock ∨ v'.ownBlock = some w.heap.size) → wpListIn F n P ops Q rest (a.put o.dst v') w') :
    wpListIn F n P ops Q (o :: rest) a w := by
  refine wpListIn_plain hg fun K hK' => ?_
  obtain ⟨v', w', hrun, r1, r2, _, r3⟩ := run_append_own_at (P := P) w base t o.type e i z size bytes h1 h2 h3 h4 h5 h6 h7 v k xs hown ad m c news hn hc h1c b1 b2 b3
  unfold Oper.wpIn
  refine ⟨?_, ?_⟩
  · simp [Oper.about, hop, resolve, Target.leads, Sem.run_pure]
  · rw [Oper.semAt_plain F _ _ (by rw [hop]; intro c hc'; cases hc')]
    simp [execOp, hop, resolve, invoke, builtin, hs, hx, hrun, Result.andThen]
    exact hK' _ _ (hK v' w' r1 r2 r3)
theorem row_sliceZ {w : World} {base : Nat} {e : TypeId} {size : Nat} {v : Value} {n : Nat} {xs : List Value} (h : w.ownsRow base e size v n xs) : ∃ a cap, v = .slice a n cap ∧ n ≤ cap := by
  rcases h.2 with ⟨rfl, rfl⟩ | ⟨g, cap, cur, rfl, _, _, hle, _⟩
  · exact ⟨none, 0, rfl, Nat.le_refl _⟩
  · exact ⟨_, cap, rfl, hle⟩
theorem row_belowZ {w w' : World} {base N : Nat} {e : TypeId} {size : Nat} {v : Value} {n : Nat} {xs : List Value} (h : w.ownsRow base e size v n xs) (hb : Below N w w') (hN : w.heap.size ≤ N) : w'.ownsRow base e size v n xs :=
  row_only (S := fun _ => False) h (Only.of_below hb hN) (fun _ _ h => h)
/-- What has come so far, in the box of block B: onto xs. -/
def ApI (lo B : Nat) (w : World) (v : Value) (xs pre : List Int) (W : World) : Prop :=
  ∃ u, Boxed W B 51 u ∧ W.ownsRow lo 3 1 u (xs ++ pre).length ((xs ++ pre).map encZ) ∧ (∀ r, u.ownBlock = some r → v.ownBlock = some r ∨ B < r) ∧ Only (fun r => v.ownBlock = some r) w W
theorem row_cells {W : World} {base : Nat} {e : TypeId} {size n r : Nat} {u : Value} {xs : List Value} (h : W.ownsRow base e size u n xs) (hr : u.ownBlock = some r) : ∃ cur, W.heap[r]? = some (.cells cur e (0, 0)) := by
  rcases h.2 with ⟨rfl, _⟩ | ⟨g, cap, cur, rfl, _, hg, _⟩
  · cases hr
  · have : g = r := Option.some.inj hr
    subst this; exact ⟨_, hg⟩
theorem row_grown {W W' : World} {base : Nat} {e : TypeId} {size n : Nat} {u : Value} {xs : List Value} {row : Option Nat} (h : W.ownsRow base e size u n xs) (hg : W.grownBy W' row) (hne : ∀ r, row = some r → u.ownBlock ≠ some r) : W'.ownsRow base e size u n xs :=
  row_only (S := fun r => row = some r) h ((Only.refl _ W).grown hg (fun _ hk => .inl hk)) (fun b hb q => hne b q hb)
theorem tInt_ne : 51 ≠ 3 := by decide
theorem ap_own (lo : Nat) (w : World) (v : Value) (xs : List Int) (B : Nat) (hB : w.heap.size + 1 ≤ B) : OwnFrom B (ApI lo w.heap.size w v xs) := by
  intro pre W W' row ⟨u, h1, h2, h3, h4⟩ hg hr
  refine ⟨u, h1.kept hg (fun e => ?_), row_grown h2 hg (fun r e hu => ?_), h3, h4.grown hg (fun k hk => .inr (by have := (hr k hk).1; omega))⟩
  · have := (hr _ e.symm).1; omega
  · obtain ⟨_, o, ho, hc⟩ := hr r e
    obtain ⟨cur, hcur⟩ := row_cells h2 hu
    rw [ho] at hcur
    cases hcur
    cases hc
theorem infoIntZ : (Try.prog.info? 3).map (fun i => (i.zero, i.size, i.bytes)) = some (some (.int .i64 0), 1, 8) := by kernel_rfl
set_option maxRecDepth 100000 in
set_option maxHeartbeats 4000000 in
theorem appendSeq_any (lo : Nat) (v : Value) (xs : List Int) (w : World) (hv : w.ownsRow lo 3 1 v xs.length (xs.map encZ)) (hlo : lo ≤ w.heap.size) (Bm b n : Nat) {R : Value → Option (DataW Unit × List MemPlace)} (D : DataW Unit) (hBm : Bm < w.heap.size) (hm : w.cell? ⟨Bm, 0, none⟩ = some (.map (some b)))
    (hown : w.ownsMap Try.prog 3 R b n D) (hlen : xs.length + Maps.size D ≤ 10000000000000) :
    Calls Try.prog 50 #[v, .func (.func 54) #[] #[.pointer (some ⟨Bm, 0, none⟩)]] w fun e w' => ∃ u ss, e = .returned u ∧ ss.Perm (intKeys D) ∧ w'.ownsRow lo 3 1 u (xs ++ ss).length ((xs ++ ss).map encZ) ∧ Only (fun r => v.ownBlock = some r) w w' := by
  have hseq := AnyZI.keys_stops (ρ := Try.keysH_ren) { Try.keysH with } Fence.wide 8 trivial rfl (by omega) Bm b n D w hBm hm hown
  obtain ⟨va, vc, rfl, hvc⟩ := row_sliceZ hv
  have hV := Lib.hid hv
  have HS := Lib.hid hseq
  clear hv hseq hown hm
  refine callsIn_wide (n := 9).1 ?_
  refine callsIn_of_wp_marks Try.func50 rfl trivial ?_ rfl
  simp only [Try.ntmps50, List.size_toArray, List.length_cons, List.length_nil, Nat.reduceAdd, Nat.reduceSub, Array.replicate_succ, Array.replicate_zero, List.push_toArray, List.append_toArray, List.nil_append, List.cons_append]
  gi_wp2_with fail
  obtain ⟨w1, hw1⟩ : ∃ w1, w1 = w.alloc (.cells #[.slice va xs.length vc] 51) := ⟨_, rfl⟩
  have hz : w1.heap.size = w.heap.size + 1 := by rw [hw1]; simp
  have B0 : Boxed w1 w.heap.size 51 (.slice va xs.length vc) := by rw [hw1]; exact Boxed.new w _ _
  have hb1 : Below w.heap.size w w1 := by rw [hw1]; exact (Below.refl _ w).alloc (Nat.le_refl _) _
  have r1 : w1.ownsRow lo 3 1 (.slice va xs.length vc) xs.length (xs.map encZ) := row_belowZ hV.out hb1 (Nat.le_refl _)
  rw [← hw1]
  clear hw1
  refine wpIn_rangeFunc_ownF (w := w1) rfl (by decide) rfl trivial (enters_of Try.func54 (by kernel_rfl) rfl) (encs := fun x : Int => #[encZ x]) (Kp := KeepsWalks) (w0 := w) HS.out walksK_t walksK_b hb1 (fun _ => rfl)
    (ApI lo w.heap.size w (.slice va xs.length vc) xs) (fun _ _ _ => False) (by rw [hz]; exact ap_own lo w _ xs _ (Nat.le_refl _)) (fun _ _ _ _ _ hs _ _ => hs)
    ⟨_, B0, by simpa using r1, fun r hr => .inl hr, Only.of_below hb1 (Nat.le_refl _)⟩
    (fun x => { tmps := #[.slice va xs.length vc, .func (.func 54) #[] #[.pointer (some ⟨Bm, 0, none⟩)], .pointer (some ⟨w.heap.size, 0, none⟩), undef, .slice none 0 0, encZ x, .func (.func 54) #[] #[.pointer (some ⟨Bm, 0, none⟩)], encZ x, undef, undef, undef, undef, undef], defers := [] }) ?assign ?body ?done ?stop
  case assign =>
    intro l x W K hK
    gi_wp2
    exact hK
  case body =>
    rintro l pre x W ⟨u, h1, h2, h3, h4⟩ hpre
    obtain ⟨i0, hi, hz0, hz1, hz2⟩ := info_parts infoIntZ
    obtain ⟨ys, hys⟩ : ∃ ys, ys = xs ++ pre := ⟨_, rfl⟩
    have hxl : ys.length ≤ 10000000000000 := by rw [hys, List.length_append]; omega
    rw [← hys] at h2
    have HY := Lib.hid hys
    clear hys
    obtain ⟨ua, uc, rfl, huc⟩ := row_sliceZ h2
    have c1 := h1.cell
    have HB := Lib.hid h1
    have H4 := Lib.hid h4
    have hsw := h4.size
    have hbx := h1.lt
    have r2 := row_belowZ h2 ((Below.refl W.heap.size W).alloc (Nat.le_refl _) (.cells #[.int .i64 x] 3)) (Nat.le_refl _)
    have H2 := Lib.hid h2
    have hne : (Value.slice ua ys.length uc).ownBlock ≠ some w.heap.size := fun e => by
      obtain ⟨cur, hc⟩ := row_cells h2 e
      have := (show W.heap[w.heap.size]? = _ from h1).symm.trans hc
      injection this with this
      injection this with _ this _
      exact tInt_ne this
    have HNE := Lib.hid hne
    have H3 := Lib.hid h3
    clear h1 h4 h2 hne h3
    gi_wp2_with (first
      | (gi_at_builtin; refine wpListIn_append_at _ rfl _ _ 51 rfl lo 3 i0 (.int .i64 0) 1 8 Try.underlying51 hi hz0 hz1 hz2 rfl (by decide) _ _ _ rfl r2 ⟨W.heap.size, 0, none⟩ 1 1 [.int .i64 x] rfl rfl (cell_one_new _ _ _) (by simp [Value.oneCell']) (by unfold maxLen; omega) (by omega) (by simp; omega) ?_; intro v' w3 hown3 hg3 hbk
         have hb3 : Boxed w3 w.heap.size 51 (.slice ua ys.length uc) := (HB.out.alloc _).kept hg3 (fun e => HNE.out e.symm)
         have hc3 := hb3.cell
         have hf3 := hb3.frozen
         obtain ⟨g', cap', rfl⟩ := ownsRow_succ hown3
         have HB3 := Lib.hid hb3
         have HG3 := Lib.hid hg3
         have HO3 := Lib.hid hown3
         clear hb3 hg3 hown3))
    have hg : (W.alloc (.cells #[.int .i64 x] 3)).grownBy w3 (Value.slice ua ys.length uc).ownBlock := HG3.out
    have hrw : ∀ j o, (Value.slice ua ys.length uc).ownBlock = some j → (W.alloc (.cells #[.int .i64 x] 3)).heap[j]? = some o → o.isCells = true := fun j o e ho => by
      obtain ⟨cur, hc⟩ := row_cells r2 e
      rw [ho] at hc
      cases hc
      rfl
    have hko : KeepsOthers W (w3.setCell ⟨w.heap.size, 0, none⟩ (.slice (some ⟨g', 0, none⟩) (ys.length + 1) cap')) := ((KeepsOthers.alloc W _).trans (KeepsOthers.of_grownBy hg hrw)).trans (KeepsOthers.setCell _ _ _)
    have hwx : (W.alloc (.cells #[.int .i64 x] 3)).heap.size = W.heap.size + 1 := by simp
    have hgb : (Value.slice ua ys.length uc).ownBlock = some g' ∨ g' = W.heap.size + 1 := by
      rcases hbk.out with e | e
      · exact .inl e.symm
      · refine .inr ?_
        have e' : some g' = some (W.alloc (.cells #[.int .i64 x] 3)).heap.size := e
        rw [hwx] at e'
        exact Option.some.inj e'
    have hgne : g' ≠ w.heap.size := fun e => by
      subst e
      rcases hgb with e | e
      · exact HNE.out e
      · omega
    have hrow := row_only (S := (· = w.heap.size)) HO3.out ((Only.refl (· = w.heap.size) w3).cellS 0 (.slice (some ⟨g', 0, none⟩) (ys.length + 1) cap')) (fun b hb e => hgne (by have q : g' = b := Option.some.inj hb; omega))
    have hon : Only (fun r => (Value.slice ua ys.length uc).ownBlock = some r ∨ r = w.heap.size) W (w3.setCell ⟨w.heap.size, 0, none⟩ (.slice (some ⟨g', 0, none⟩) (ys.length + 1) cap')) :=
      (((Only.refl _ W).alloc _).grown hg (fun k hk => .inl (.inl hk))).setCell (p := ⟨w.heap.size, 0, none⟩) (.inl (.inr rfl)) _
    have e1 : xs ++ (pre ++ [x]) = ys ++ [x] := by rw [HY.out, List.append_assoc]
    refine ⟨hko, hko.walks, _, Boxed.set _ HB3.out, ?_, ?_, H4.out.trans hon ?_⟩
    · rw [e1]
      have : (ys ++ [x]).map encZ = ys.map encZ ++ [.int .i64 x] := by rw [List.map_append]; rfl
      rw [this, List.length_append]
      exact hrow
    · intro r hr
      have q : g' = r := Option.some.inj hr
      subst q
      rcases hgb with e | e
      · exact H3.out _ e
      · exact .inr (by omega)
    · rintro r hr (e | e)
      · rcases H3.out r e with q | q
        · exact q
        · omega
      · omega
  case done =>
    rintro D' ss W hD ⟨hperm, _⟩ ⟨u, h1, h2, h3, h4⟩ hK
    rw [hz] at hD
    obtain ⟨ys, hys⟩ : ∃ ys, ys = xs ++ ss := ⟨_, rfl⟩
    rw [← hys] at h2
    have HY := Lib.hid hys
    clear hys
    obtain ⟨ua, uc, rfl, huc⟩ := row_sliceZ h2
    have c := h1.cell
    have H2 := Lib.hid h2
    have H4 := Lib.hid h4
    have HD := Lib.hid hD
    clear h2 h3 h4 hD
    gi_wp2
    refine ⟨by simp, .inl ⟨_, _, rfl, run_takeDeferred hK, ?_⟩⟩
    have pb := grownBy_putObj' W D' (.deferred none)
    have hr5 := row_grown H2.out pb (fun r e hu => by
      cases e
      obtain ⟨cur, hc⟩ := row_cells H2.out hu
      rw [hK] at hc
      cases hc)
    exact ⟨_, results_tmp rfl _ _ _, .slice ua ys.length uc, ss, rfl, hperm, by rw [← HY.out]; exact hr5, H4.out.grown pb (fun k e => .inr (by cases e; have := HD.out; omega))⟩
  case stop =>
    intro D c pre W _ _ h _
    exact h.elim
end Go.Proofs.Ytiebbgbcojgeoaa

