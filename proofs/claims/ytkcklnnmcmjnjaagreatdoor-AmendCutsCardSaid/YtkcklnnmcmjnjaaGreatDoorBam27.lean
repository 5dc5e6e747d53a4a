/- Texts put together: WQ, AR, EY, EU. -/
import Derived.Deep.DeepCutAuto
import Derived.Test.YtkcklnnmcmjnjaaGreatDoorBam10
import Derived.Test.YtkcklnnmcmjnjaaGreatDoorBam12
import Derived.Test.YtkcklnnmcmjnjaaGreatDoorBam17
import Derived.Test.YtkcklnnmcmjnjaaGreatDoorBam19
import Derived.Test.YtkcklnnmcmjnjaaGreatDoorBam21
import Derived.Test.YtkcklnnmcmjnjaaGreatDoorBam22
import Derived.Test.YtkcklnnmcmjnjaaGreatDoorBam25
import Derived.Test.YtkcklnnmcmjnjaaGreatDoorBam26
set_option linter.unusedVariables false
namespace Go.Proofs.YtkcklnnmcmjnjaaGreatDoor
open Go.RowKit Go.Shelf

theorem mkText (a b : List UInt8) (j : ByteArray) : (⟨a.toArray⟩ : ByteArray) ++ j ++ ⟨b.toArray⟩ = ⟨(a ++ j.data.toList ++ b).toArray⟩ := by
  rw [← mkAppend, ← mkAppend, Lib.mk_data j]
theorem go_idx (pre : List Ln) (x : Ln) : Value.int .i64 ((pre.length : Int) + 1) = Value.int .i64 ((pre ++ [x]).length : Nat) := by rw [List.length_append]; rfl
theorem bytes_le (l : List UInt8) : ∀ x ∈ linesOf l, x.bytes.length ≤ l.length := by
  intro x hx
  have e := linesOf_join l
  obtain ⟨a, b, hab⟩ := List.append_of_mem hx
  rw [hab, List.flatMap_append, List.flatMap_cons] at e
  have := congrArg List.length e
  simp only [List.length_append] at this
  omega
theorem rowCells {W : World} {base g cap : Nat} {xs pre post : List Ln} {x : Ln} (h : W.ownsRow base 137 4 (.slice (some ⟨g, 0, none⟩) xs.length cap) xs.length (cellsOf xs)) (hx : xs = pre ++ x :: post) :
    W.cell? ⟨g, pre.length * 4, none⟩ = some (.int .i64 x.no) ∧ W.cell? ⟨g, pre.length * 4 + 1, none⟩ = some (.int .i64 x.at_) ∧ W.cell? ⟨g, pre.length * 4 + 1 + 1, none⟩ = some (.string ⟨x.text.toArray⟩) ∧ W.cell? ⟨g, pre.length * 4 + 1 + 1 + 1, none⟩ = some (.bool x.ended) := by
  have hrow : ∀ j u, j < 4 → (lineV x).toList[j]? = some u → W.cell? ⟨g, pre.length * 4 + j, none⟩ = some u := fun j u hj hu => by
    have := h.cells (g := g) rfl (pre.length * 4 + j) u (by rw [hx, cellsOf_at _ _ _ _ hj]; exact hu)
    have hadd : (⟨g, 0, none⟩ : Addr).add (pre.length * 4 + j) = ⟨g, pre.length * 4 + j, none⟩ := by unfold Addr.add; split <;> simp_all
    rwa [hadd] at this
  exact ⟨hrow 0 _ (by omega) rfl, hrow 1 _ (by omega) rfl, hrow 2 _ (by omega) rfl, hrow 3 _ (by omega) rfl⟩

set_option maxRecDepth 100000 in
set_option maxHeartbeats 4000000 in
theorem refIndent_any (s j : ByteArray) (hs : s.size ≤ 1000000) (hj : j.size ≤ 1000000) (w : World) :
    Calls Tryz.prog 72 #[.string s, .string j] w fun e w' => e = .returned (.string ⟨(indL j.data.toList (linesOf s.data.toList)).toArray⟩) ∧ Below w.heap.size w w' := by
  obtain ⟨xs, hxs⟩ : ∃ xs, linesOf s.data.toList = xs := ⟨_, rfl⟩
  have hll := linesOf_length s.data.toList
  rw [← Lib.size_eq] at hll
  have hpos := bytes_le s.data.toList
  rw [← Lib.size_eq] at hpos
  rw [hxs] at hll hpos ⊢
  have HPOS := Lib.hid hpos
  have HXS := Lib.hid hxs
  clear hxs hpos
  go_enter Tryz.func72, Tryz.ntmps72
  go_wp2_with fail
  refine (refSplit_any s hs w).mono ?_
  rintro e w2 ⟨v, rfl, hown, a2⟩
  rw [HXS.out] at hown
  obtain ⟨ao, cap, rfl⟩ := rowForm hown
  go_wp2_with fail
  go_loopw [5, 11] (fun o i wr => ∃ (pre post : List Ln), xs = pre ++ post ∧ o = .string ⟨(indL j.data.toList pre).toArray⟩ ∧ i = .int .i64 (pre.length : Nat) ∧ wr.ownsRow w.heap.size 137 4 (.slice ao xs.length cap) xs.length (cellsOf xs) ∧ Below w.heap.size w wr)
    (fun _ i _ => xs.length - (intOf i).toNat)
  case atStart => exact ⟨[], xs, rfl, rfl, rfl, hown, a2⟩
  case round =>
    obtain ⟨pre, post, hx, rfl, rfl, hw, hb⟩ := hrel
    cases post with
    | nil =>
      have e : pre.length = xs.length := by rw [hx]; simp
      have HX := Lib.hid hx
      clear hx
      go_wp2
      go_ret
      refine ⟨?_, hb⟩
      rw [HX.out, List.append_nil]
      rfl
    | cons x post =>
      have hlt : pre.length < xs.length := by rw [hx]; simp
      obtain ⟨g, rfl⟩ : ∃ g, ao = some ⟨g, 0, none⟩ := by
        rcases hw.2 with ⟨_, h0⟩ | ⟨g, cap, cur, hv, _⟩
        · omega
        · exact ⟨g, by cases hv; rfl⟩
      obtain ⟨r0, r1, r2, r3⟩ := rowCells hw hx
      have hlen : (indL j.data.toList (pre ++ [x])).length ≤ 1000000 * (2 * 1000000) := by
        refine indL_len _ 1000000 1000000 _ (fun y hy => Nat.le_trans (HPOS.out y ?_) hs) ?_ (by rw [← Lib.size_eq]; exact hj)
        · rw [hx]
          rcases List.mem_append.1 hy with h | h
          · exact List.mem_append_left _ h
          · rw [List.mem_singleton.1 h]; simp
        · simp; omega
      rw [indL_snoc] at hlen
      simp only [List.length_append, ← Lib.size_eq] at hlen
      have hen : (endS x.ended).size ≤ 1 := by unfold endS; cases x.ended <;> decide
      have hjn : (indL j.data.toList pre).length + j.size + x.text.length + 1 ≤ 2000000000001 := by omega
      clear hlen hen
      have HX := Lib.hid hx
      clear hx
      have HS := Lib.hid (indL_snoc j.data.toList pre x)
      have hmt := mkText (indL j.data.toList pre) x.text j
      have HMT := Lib.hid hmt
      clear hmt
      cases he : x.ended
      · rw [he] at r3
        have hn : indL j.data.toList (pre ++ [x]) = indL j.data.toList pre ++ j.data.toList ++ x.text := by rw [HS.out, he]; simp [endS]
        have HN := Lib.hid hn
        clear hn
        go_wp2
        go_roundw
        case rel =>
          refine ⟨pre ++ [x], post, HX.out.trans (by simp), ?_, go_idx pre x, hw.alloc _, hb.alloc hb.size _⟩
          rw [HMT.out, HN.out]
        case measure => simp [intOf] <;> omega
      · rw [he] at r3
        have hn : indL j.data.toList (pre ++ [x]) = (indL j.data.toList pre ++ j.data.toList ++ x.text) ++ [10] := by rw [HS.out, he]; simp [endS]
        have HN := Lib.hid hn
        clear hn
        go_wp2
        go_roundw
        case rel =>
          refine ⟨pre ++ [x], post, HX.out.trans (by simp), ?_, go_idx pre x, hw.alloc _, hb.alloc hb.size _⟩
          rw [HMT.out, HN.out]
          exact congrArg Value.string (mkAppend _ [10])
        case measure => simp [intOf] <;> omega
end Go.Proofs.YtkcklnnmcmjnjaaGreatDoor

namespace Go.Proofs.YtkcklnnmcmjnjaaGreatDoor
open Go.RowKit Go.Shelf
attribute [local go_sem] Oper.semAt_some

theorem batch_le {eds : List Ed} (hg : ∀ ed ∈ eds, goodE ed = 0) (hi : ∀ ed ∈ eds, I64 ed.id) : (batchT eds).length ≤ 600000 * eds.length := by
  induction eds with
  | nil => exact Nat.le_refl _
  | cons a r ih =>
    have h1 := edT_le (goodE_F (hg a List.mem_cons_self)) (hi a List.mem_cons_self)
    have h2 := ih (fun x hx => hg x (List.mem_cons_of_mem _ hx)) (fun x hx => hi x (List.mem_cons_of_mem _ hx))
    rw [batchT_cons, List.length_append, List.length_cons]; omega
set_option maxRecDepth 100000 in
set_option maxHeartbeats 8000000 in
theorem refEncodeA_any (eds : List Ed) (v : Value) (w : World) (h : EdV w v eds) (hl : eds.length ≤ 51) (hg : ∀ ed ∈ eds, goodE ed = 0) (hi : ∀ ed ∈ eds, I64 ed.id) :
    Calls Tryz.prog 32 #[v] w fun e w' => e = .returned (.string (B (batchT eds))) ∧ Below w.heap.size w w' := by
  obtain ⟨A, cap, rfl, hle, hc⟩ := h
  have PC := Lib.hid hc
  have HG := Lib.hid hg
  have HI := Lib.hid hi
  clear hc hg hi
  go_enter Tryz.func32, Tryz.ntmps32
  go_wp2_with fail
  go_loopw [3, 4] (fun sv i wr => ∃ k : Nat, k ≤ eds.length ∧ i = .int .i64 k ∧ sv = .string (B (batchT (eds.take k))) ∧ Below w.heap.size w wr) (fun _ i _ => eds.length - (intOf i).toNat)
  case atStart => exact ⟨0, Nat.zero_le _, rfl, rfl, Below.refl _ _⟩
  case round =>
    obtain ⟨k, hk, rfl, rfl, hb⟩ := hrel
    by_cases hlt : k < eds.length
    · obtain ⟨ed, hed⟩ : ∃ ed, eds[k]? = some ed := ⟨_, List.getElem?_eq_getElem hlt⟩
      obtain ⟨b, off, fv, rfl, hbb, c0, c1, c2, hfl⟩ := PC.out k ed hed
      have hie := HI.out ed (List.mem_of_getElem? hed)
      have GF := goodE_F (HG.out ed (List.mem_of_getElem? hed))
      have TK : Hid (batchT (eds.take (k + 1)) = batchT (eds.take k) ++ ((lineA ed.kind ed.id ++ [10]) ++ indL [32, 32] (linesOf (foldG ed.fields)))) := by
        show _ = _
        rw [take_snoc hed, batchT_snoc, edT_parts GF]
      have ELE := edT_le GF hie
      rw [edT_parts GF, List.length_append, List.length_append] at ELE
      have BLE : (batchT (eds.take k)).length ≤ 600000 * 51 := by
        have h1 := batch_le (eds := eds.take k) (fun x hx => HG.out x (List.mem_of_mem_take hx)) (fun x hx => HI.out x (List.mem_of_mem_take hx))
        rw [List.length_take] at h1
        have : min k eds.length ≤ 51 := by omega
        omega
      have fle := foldG_le GF
      have fl40 := GF.len
      have hEE : ∀ W, Below wr.drew.heap.size wr.drew W → (Instr.loadAt 33 (.pointer (some ⟨b, off + k * 3, none⟩))).run Tryz.prog W = .ok (.agg #[.int .i64 ed.kind, .int .i64 ed.id, fv]) W ∧ (Instr.loadAt 31 (.pointer (some ⟨b, off + k * 3 + 2, none⟩))).run Tryz.prog W = .ok fv W := fun W hW => by
        have hW' : Below w.heap.size w W := hb.drew.trans (hW.mono hb.size)
        have d0 := (hW'.cell (p := ⟨b, off + k * 3, none⟩) hbb).trans c0
        have d1 := (hW'.cell (p := ⟨b, off + k * 3 + 1, none⟩) hbb).trans c1
        have d2 := (hW'.cell (p := ⟨b, off + k * 3 + 1 + 1, none⟩) hbb).trans c2
        obtain ⟨fa, fc, rfl, _, _⟩ := _root_.id hfl.1
        exact ⟨by simp [go_sem, d0, d1, d2], by simp [go_sem, d2]⟩
      have hfv' : ∀ W, Below wr.drew.heap.size wr.drew W → Flds W fv ed.fields := fun W hW => hfl.1.below (hb.drew.trans (hW.mono hb.size)) (Nat.le_refl _)
      have hlt2 := hlt
      go_upto_region 5 with fail
      refine wp_region_any (by kernel_rfl) ?_
      refine region_re5 _ wr.drew b off eds.length cap k ed.kind ed.id fv (B (batchT (eds.take k))) (B (lineA ed.kind ed.id)) (B (foldG ed.fields)) (B (indL [32, 32] (linesOf (foldG ed.fields)))) _ rfl rfl rfl rfl hlt2 hEE (by rw [B_size]; omega) (by rw [B_size]; omega) (by rw [B_size]; omega) ?h5 ?h13 ?h14 ?hQ
      case h5 => exact fun W hW => (refLineA_any ed.kind ed.id fv hie W).mono fun e w' ⟨he, hb⟩ => ⟨_, he, rfl, hb⟩
      case h13 => exact fun W hW => (refFold_any ed.fields fv W (hfv' W hW) (by omega) GF.small).mono fun e w' ⟨he, hb⟩ => ⟨_, he, rfl, hb⟩
      case h14 =>
        intro W hW
        refine (refIndent_any (B (foldG ed.fields)) ⟨#[32, 32]⟩ (by rw [B_size]; omega) (by decide) W).mono ?_
        rintro e w' ⟨rfl, hb⟩
        exact ⟨_, rfl, by rw [B_data]; rfl, hb⟩
      case hQ =>
        intro y0 y1 y2 y3 y4 y5 y6 y7 y8 y9 y10 y11 y12 y13 y14 y15 w2 hb2 hy15
        have hy : y15 = .string (B (batchT (eds.take k)) ++ B (lineA ed.kind ed.id) ++ ⟨#[10]⟩ ++ B (indL [32, 32] (linesOf (foldG ed.fields)))) := hy15
        rw [show (⟨#[10]⟩ : ByteArray) = B [10] from rfl, B_append, B_append, B_append, show batchT (eds.take k) ++ lineA ed.kind ed.id ++ [10] ++ indL [32, 32] (linesOf (foldG ed.fields)) = batchT (eds.take (k + 1)) by rw [TK.out]; simp] at hy
        subst hy
        have HB2 := Lib.hid (hb.drew.trans (hb2.mono hb.size))
        clear hb2 hy15 hEE hfv' hfl GF hie hed c0 c1 c2 TK ELE BLE fle
        simp only [List.foldl, List.setIfInBounds_toArray, List.set_cons_zero, List.set_cons_succ]
        generalize hXe : B (batchT (eds.take (k + 1))) = X at *
        go_wp2_with fail
        go_roundw
        case rel => exact ⟨k + 1, hlt, by go_num, by rw [hXe], HB2.out⟩
        case measure => simp [intOf]; omega
    · obtain rfl : k = eds.length := by omega
      rw [List.take_length] at *
      have HB := Lib.hid hb
      clear hb PC HG HI
      generalize hXe : B (batchT eds) = X at *
      go_wp2_with fail
      go_ret
      exact ⟨by rw [hXe]; rfl, HB.out⟩
theorem row_spoilsA {P : Nat → Prop} {lo' n sz : Nat} {w w' : World} {v : Value} {t : TypeId} {xs : List Value} (h : w.ownsRow lo' t sz v n xs) (hs : Spoils P w w') (ht : t ≠ 35) : w'.ownsRow lo' t sz v n xs := by
  refine ⟨h.1, ?_⟩
  rcases h.2 with q | ⟨g, cap, cur, q, a, hg, r⟩
  · exact .inl q
  · exact .inr ⟨g, cap, cur, q, a, hs.kept hg ht, r⟩
theorem mineP_ownA {lo hi n : Nat} {w : World} {v : Value} {xs : List Value} (h : w.ownsRow lo 35 2 v n xs) (hw : w.heap.size ≤ hi) : MineP w (fun r => lo ≤ r ∧ r < hi) v n := by
  rcases h.2 with ⟨rfl, hn⟩ | ⟨g, cap, cur, rfl, hb, hc, hle, _, hs, _⟩
  · exact .inl ⟨hn, none, 0, rfl⟩
  · exact .inr ⟨g, cap, cur, rfl, hle, ⟨hb, Nat.lt_of_lt_of_le (Array.getElem?_eq_some_iff.1 hc).1 hw⟩, hc, by rw [hs]; exact Nat.mul_le_mul_right 2 hle⟩
theorem Spoils.onlyA {P : Nat → Prop} {w w' : World} (h : Spoils P w w') : Only P w w' := ⟨h.os, h.tape, h.output, h.size, fun _ hr hp => h.block hr hp⟩
theorem Spoils.belowA {P : Nat → Prop} {w w' : World} {n : Nat} (h : Spoils P w w') (hn : ∀ r, P r → n ≤ r) (hw : n ≤ w.heap.size) : Below n w w' :=
  h.onlyA.to_below hw (fun r hlt hP => by have := hn r hP; omega)
set_option maxRecDepth 100000 in
set_option maxHeartbeats 16000000 in
theorem encodesLaw (eds : List Ed) (v1 : Value) (w : World) (ha : EdsIn w v1 eds) (hi : ∀ ed ∈ eds, I64 ed.id) (hT : Tabs w) :
    Calls Tryz.prog 5 #[v1] w fun e w' => e = .returned (.bool true) ∧ Below w.heap.size w w' := by
  have AL := Lib.hid (aliveA_any w hT)
  have HEA := Lib.hid ha
  have HT := Lib.hid hT
  have HI := Lib.hid hi
  obtain ⟨va, vac, rfl, _⟩ : ∃ A c, v1 = .slice A eds.length c ∧ True := by obtain ⟨_, A, c, e, _⟩ := ha; exact ⟨A, c, e, trivial⟩
  clear ha hT hi
  go_enter Tryz.func5, Tryz.ntmps5
  go_wp2_with fail
  refine AL.out.mono ?_
  rintro e w1 ⟨rfl, b1⟩
  have B1 := Lib.hid b1
  have HV := Lib.hid (heavy_any eds _ w1 (HEA.out.below b1 (Nat.le_refl _)))
  clear AL b1
  go_wp2_with fail
  refine HV.out.mono ?_
  rintro e w2 ⟨⟨q, rfl, hq⟩, b2⟩
  have B2 := Lib.hid (B1.out.trans (b2.mono B1.out.size))
  have HQ := Lib.hid hq
  clear HV b2 hq
  cases q with
  | true =>
    go_wp2_with fail
    go_ret
    exact ⟨rfl, B2.out⟩
  | false =>
  have LA : Hid (Light eds) := HQ.out (by first | exact rfl | trivial)
  clear HQ
  have la51 : eds.length ≤ 51 := LA.out.1
  have EA : Hid (∀ W, Below w.heap.size w W → EdV W (.slice va eds.length vac) eds) := fun W hW => HEA.out.edv.below hW (Nat.le_refl _)
  have OW := Lib.hid (own_any eds _ w2 (EA.out w2 B2.out) la51 LA.out.fines)
  go_wp2_with fail
  refine OW.out.mono ?_
  rintro e w3 ⟨v3, fvs, rfl, hO, b3⟩
  have B3 := Lib.hid (B2.out.trans (b3.mono B2.out.size))
  obtain ⟨oa, oc, rfl, _⟩ := own_slice hO.row
  have HO := Lib.hid hO
  have EN := Lib.hid (encode_any eds _ w3 hO.edv (by omega) LA.out.fines.eight HI.out (HT.out.below B3.out (Nat.le_refl _)))
  clear OW hO b3
  go_wp2_with fail
  refine EN.out.mono ?_
  rintro e w4 ⟨b4, R4⟩
  have B4 := Lib.hid (B3.out.trans (b4.mono B3.out.size))
  have HB4 := Lib.hid b4
  have RC := Lib.hid (refCheckB_any eds _ w4 (EA.out w4 B4.out) (by omega) LA.out.fines)
  have HED : Hid (∀ W, Below w3.heap.size w3 W → Below w.heap.size w W → Calls Tryz.prog 19 #[.slice oa eds.length oc, .slice va eds.length vac] W fun e w' => e = .returned (.bool true) ∧ Below W.heap.size W w') := fun W h1 h2 =>
    (edits_quiet eds _ _ W (HO.out.edv.below h1 (Nat.le_refl _)) (EA.out W h2) (by omega) LA.out.fines).mono fun e w' ⟨he, m, hm⟩ => ⟨he, by rw [hm]; exact drewN_below (Below.refl _ _) m⟩
  have HLE : Hid (∀ W, Below w3.heap.size w3 W → Below w.heap.size w W → Calls Tryz.prog 30 #[.slice oa eds.length oc] W fun e w' => e = .returned (.int .i64 (if (chkB eds).2 = 0 then (batchT eds).length else 0 : Nat)) ∧ Below W.heap.size W w') := fun W h1 h2 =>
    length_any eds _ W (HO.out.edv.below h1 (Nat.le_refl _)) (by omega) LA.out.fines.eight HI.out (HT.out.below h2 (Nat.le_refl _))
  clear EN b4
  generalize hat : (chkB eds).1 = at4 at *
  rcases R4 with ⟨h0, rfl⟩ | ⟨h0, u, rfl, hz⟩
  rotate_left
  · have Z4 := Lib.hid hz
    have hn0 : (((chkB eds).2 : Nat) : Int) ≠ 0 := by omega
    have qn : ((((chkB eds).2 : Nat) : Int) == 0) = false := by simpa using h0
    rw [if_neg h0] at HLE
    clear hz h0
    generalize ((chkB eds).2 : Nat) = bad at *
    go_wp2_with fail
    refine RC.out.mono ?_
    rintro e w5 ⟨rfl, b5⟩
    have B5 := Lib.hid (B4.out.trans (b5.mono B4.out.size))
    have HB5 := Lib.hid (HB4.out.trans (b5.mono HB4.out.size))
    have N5 := Lib.hid (num_z (Z4.out.below b5 (Nat.le_refl _)))
    have A5 := Lib.hid (at_z (Z4.out.below b5 (Nat.le_refl _)))
    clear RC b5 Z4
    go_wp2_with fail
    refine N5.out.mono ?_
    rintro e V ⟨rfl, rfl⟩
    clear N5
    go_wp2_with fail
    refine A5.out.mono ?_
    rintro e V ⟨rfl, rfl⟩
    clear A5
    go_wp2_with fail
    refine (HED.out _ HB5.out B5.out).mono ?_
    rintro e w6 ⟨rfl, b6⟩
    have B6 := Lib.hid (B5.out.trans (b6.mono B5.out.size))
    have HB6 := Lib.hid (HB5.out.trans (b6.mono HB5.out.size))
    have L6 := Lib.hid (HLE.out w6 HB6.out B6.out)
    clear b6 HED HLE
    go_wp2_with fail
    refine L6.out.mono ?_
    rintro e w7 ⟨rfl, b7⟩
    have B7 := Lib.hid (B6.out.trans (b7.mono B6.out.size))
    clear b7 L6
    go_wp2_with fail
    go_ret
    exact ⟨rfl, B7.out⟩
  have hc0 := chkB_zero h0
  have hat9 : at4 = -9 := by rw [← hat, hc0]
  subst hat9
  obtain ⟨⟨n1, n40⟩, hg⟩ := chkB_good h0
  have hbl := batch_le hg HI.out
  have D0 : decL (batchT eds) = if (batchT eds).length ≤ 50000 then some eds else none := by
    by_cases hq : (batchT eds).length ≤ 50000
    · rw [if_pos hq]; exact decL_iff.2 ⟨hq, h0, HI.out, rfl⟩
    · rw [if_neg hq]
      cases hd : decL (batchT eds) with
      | none => rfl
      | some x => exact absurd (decL_iff.1 hd).1 hq
  have DC := Lib.hid (fun W (h2 : Below w.heap.size w W) => decode_any (batchT eds) (by unfold maxLen; omega) W (HT.out.below h2 (Nat.le_refl _)))
  have RE := Lib.hid (fun W (h2 : Below w.heap.size w W) => refEncodeA_any eds _ W (EA.out W h2) la51 hg HI.out)
  have ENIL : Hid (∀ W, ErrZ 0 W .nilIface (-9) 0) := fun W => ⟨by omega, .inl ⟨rfl, rfl⟩⟩
  rw [if_pos h0] at HLE
  rw [h0] at RC
  have bsz := B_size (batchT eds)
  have hD0 := Lib.hid D0
  have hqq : ∀ t : ByteArray, ((t.toList == t.toList) = true) := fun t => by simp
  have hq1 := n1
  clear hat hc0 h0 D0 hg n1 n40
  generalize hBL : (batchT eds).length = L at *
  generalize B (batchT eds) = X at *
  go_wp2_with fail
  refine RC.out.mono ?_
  rintro e w5 ⟨rfl, b5⟩
  have B5 := Lib.hid (B4.out.trans (b5.mono B4.out.size))
  have HB5 := Lib.hid (HB4.out.trans (b5.mono HB4.out.size))
  have N5 := Lib.hid (num_z (ENIL.out w5))
  have A5 := Lib.hid (at_z (ENIL.out w5))
  clear RC b5 ENIL
  go_wp2_with fail
  refine N5.out.mono ?_
  rintro e V ⟨rfl, rfl⟩
  clear N5
  go_wp2_with fail
  refine A5.out.mono ?_
  rintro e V ⟨rfl, rfl⟩
  clear A5
  go_wp2_with fail
  refine (HED.out _ HB5.out B5.out).mono ?_
  rintro e w6 ⟨rfl, b6⟩
  have B6 := Lib.hid (B5.out.trans (b6.mono B5.out.size))
  have HB6 := Lib.hid (HB5.out.trans (b6.mono HB5.out.size))
  have L6 := Lib.hid (HLE.out w6 HB6.out B6.out)
  clear b6 HLE
  go_wp2_with fail
  refine L6.out.mono ?_
  rintro e w7 ⟨rfl, b7⟩
  have B7 := Lib.hid (B6.out.trans (b7.mono B6.out.size))
  have HB7 := Lib.hid (HB6.out.trans (b7.mono HB6.out.size))
  have D7 := Lib.hid (DC.out w7 B7.out)
  clear b7 L6 DC
  go_wp2_with fail
  refine D7.out.mono ?_
  rintro e w8 ⟨b8, R8⟩
  have B8 := Lib.hid (B7.out.trans (b8.mono B7.out.size))
  have HB8 := Lib.hid (HB7.out.trans (b8.mono HB7.out.size))
  rw [hD0.out] at R8
  by_cases hq : ¬ L ≤ 50000
  · have q1 : ¬ ((L : Int) ≤ 50000) := by omega
    rw [if_neg hq] at R8
    rcases R8 with ⟨_, rfl⟩ | ⟨_, _, _, hx, _⟩
    rotate_left
    · cases hx
    go_wp2_with fail
    go_ret
    exact ⟨rfl, B8.out⟩
  replace hq := Classical.not_not.1 hq
  have q1 : (L : Int) ≤ 50000 := by omega
  rw [if_pos hq] at R8
  rcases R8 with ⟨hx, _⟩ | ⟨eds', u8, fvs8, hx, rfl, ho8⟩
  · cases hx
  obtain rfl := Option.some.inj hx
  have R8 := Lib.hid (RE.out w8 B8.out)
  obtain ⟨ua, uc, rfl, _⟩ := own_slice ho8.row
  have HO8 := Lib.hid ho8
  have hz37 := HB7.out.size
  have hz78 := b8.size
  clear D7 RE hx b8 ho8 hD0
  go_wp2_with fail
  refine R8.out.mono ?_
  rintro e w9 ⟨rfl, b9⟩
  have B9 := Lib.hid (B8.out.trans (b9.mono B8.out.size))
  have HB9 := Lib.hid (HB8.out.trans (b9.mono HB8.out.size))
  have HO9 := Lib.hid (HO8.out.below b9 (Nat.le_refl _))
  have hz89 := b9.size
  have E9 := Lib.hid (edits_quiet eds _ _ w9 HO9.out.edv (EA.out w9 B9.out) (by omega) LA.out.fines)
  have HB89 := Lib.hid b9
  clear R8 b9
  go_wp2_with fail
  refine E9.out.mono ?_
  rintro e w10 ⟨rfl, m10, rfl⟩
  obtain ⟨w10, hw10⟩ : ∃ w10, w10 = w9.drewN m10 := ⟨_, rfl⟩
  have hb910 : Below w9.heap.size w9 w10 := by rw [hw10]; exact drewN_below (Below.refl _ _) m10
  have B10 := Lib.hid (B9.out.trans (hb910.mono B9.out.size))
  have HB10 := Lib.hid (HB9.out.trans (hb910.mono HB9.out.size))
  have HO10 := Lib.hid (HO9.out.below hb910 (Nat.le_refl _))
  have HB810 := Lib.hid (HB89.out.trans (hb910.mono HB89.out.size))
  have hz910 := hb910.size
  rw [← hw10]
  clear E9 HO9 hb910 hw10
  have hne : 0 < eds.length := by
    rcases Nat.eq_zero_or_pos eds.length with q | q
    · rw [q] at hbl
      have : (batchT eds).length = 0 := by rw [hBL]; omega
      rw [List.length_eq_zero_iff.1 q] at hq1
      exact absurd hq1 (by decide)
    · exact q
  obtain ⟨og, ocap, hog⟩ := Joins.ownsRow_form HO10.out.row (by omega)
  obtain ⟨rfl, rfl⟩ : ua = some ⟨og, 0, none⟩ ∧ uc = ocap := by injection hog with q1 _ q2; exact ⟨q1, q2⟩
  go_wp2_with fail
  go_loopw [78] (fun i wr => ∃ k : Nat, k ≤ eds.length ∧ i = .int .i64 k ∧ Spoils (fun r => w7.heap.size ≤ r ∧ r < w8.heap.size) w10 wr) (fun i _ => eds.length - (intOf i).toNat)
  case atStart => exact ⟨0, Nat.zero_le _, rfl, Spoils.refl _ _⟩
  case round =>
    obtain ⟨k, hk, rfl, hs⟩ := hrel
    by_cases hlt : k < eds.length
    · obtain ⟨ed, hed⟩ : ∃ ed, eds[k]? = some ed := ⟨_, List.getElem?_eq_getElem hlt⟩
      obtain ⟨fv, hfv⟩ : ∃ fv, fvs8[k]? = some fv := ⟨_, List.getElem?_eq_getElem (by rw [HO10.out.len]; exact hlt)⟩
      have hrow := row_spoilsA HO10.out.row hs (by decide)
      obtain ⟨a0, a1, a2⟩ := edRow_at eds fvs8 k ed fv hed hfv
      have c0 : wr.cell? ⟨og, k * 3, none⟩ = some (.int .i64 ed.kind) := by rw [World.ownsRow.cellAt hrow (k * 3) (by omega)]; exact a0
      have c1 : wr.cell? ⟨og, k * 3 + 1, none⟩ = some (.int .i64 ed.id) := by rw [World.ownsRow.cellAt hrow (k * 3 + 1) (by omega)]; exact a1
      have c2 : wr.cell? ⟨og, k * 3 + 1 + 1, none⟩ = some fv := by rw [World.ownsRow.cellAt hrow (k * 3 + 1 + 1) (by omega)]; exact a2
      have hfr := HO8.out.each k ed fv hed hfv
      obtain ⟨fa, fc, rfl, _⟩ : ∃ A c, fv = .slice A ed.fields.length c ∧ ed.fields.length ≤ c := own_slice hfr
      have hm := (LA.out.fines ed (List.mem_of_getElem? hed)).len
      have MP := ((mineP_ownA hfr (Nat.le_refl _)).below HB810.out (Nat.le_refl _)).spoils hs
      have SP : Hid (∀ o, Calls Tryz.prog 20 #[.slice fa ed.fields.length fc] (wr.alloc o) fun e w' => e = .returned (.tuple #[]) ∧ Spoils (fun r => w7.heap.size ≤ r ∧ r < w8.heap.size) (wr.alloc o) w') := fun o =>
        spoilP_any ed.fields.length _ _ _ (MP.below ((Below.refl wr.heap.size wr).alloc (Nat.le_refl _) o) (Nat.le_refl _)) (by omega)
      have HS := Lib.hid hs
      clear hrow a0 a1 a2 hfr MP hs hed hfv
      go_wp2_with fail
      refine (SP.out _).mono ?_
      rintro e w12 ⟨rfl, hs2⟩
      have HS2 := Lib.hid ((HS.out.alloc _).trans hs2)
      clear hs2 SP
      go_wp2_with fail
      go_roundw
      case rel => exact ⟨k + 1, hlt, by go_num, HS2.out⟩
      case measure => simp [intOf]; omega
    · have bs := hs.belowA (n := w7.heap.size) (fun r q => q.1) (by omega)
      have BF : Hid (Below w.heap.size w wr) := B10.out.trans (bs.mono (by have := B7.out.size; omega))
      have BF3 : Hid (Below w3.heap.size w3 wr) := HB10.out.trans (bs.mono hz37)
      have EF := Lib.hid (HED.out wr BF3.out BF.out)
      clear hs bs
      go_wp2_with fail
      refine EF.out.mono ?_
      rintro e w13 ⟨rfl, b13⟩
      have B13 := Lib.hid (BF.out.trans (b13.mono BF.out.size))
      clear b13 EF
      go_wp2_with fail
      go_ret
      exact ⟨rfl, B13.out⟩
open Go.Maps Go.ChangeShapes Go.Joins Go.WideShapes in
set_option maxRecDepth 100000 in
/-- .. at a batch that came in. -/
theorem encodesCall {H : Type} {enc : TypeId × Value → H} (v1 : Value) (d1 : DataW H) (p1 : List MemPlace) (W : World) {b0 : Nat} (hval1 : Value.okWide Tryz.prog W .any b0 22 v1) {base1 : Nat} {sp1 : Nat → Bool} {held1 : Bool} (h1 : DataW.Trod enc Tryz.prog W base1 sp1 held1 22 v1 d1 p1) (hT : Tabs W) :
    Calls Tryz.prog 5 #[v1] W fun e w' => e = .returned (.bool true) ∧ Below W.heap.size W w' := by
  obtain ⟨n1, hn1⟩ := h1
  obtain ⟨ao, len, cap, rfl⟩ := okWide_slice Tryz.underlying22 hval1
  obtain ⟨as_, hr1, hi⟩ := edits_inB (v := .slice ao len cap) hn1
  exact encodesLaw as_ _ W hr1 hi hT
end Go.Proofs.YtkcklnnmcmjnjaaGreatDoor

namespace Go.Proofs.YtkcklnnmcmjnjaaGreatDoor
open Go.RowKit Go.Shelf
attribute [local go_sem] Oper.semAt_some

/-- A bool that says whether something is so. -/
def Tells (p : Prop) (e : Ending) : Prop := ∃ b : Bool, e = .returned (.bool b) ∧ (b = true ↔ p)
theorem B_ne {a b : List UInt8} (h : a ≠ b) : ((B a).toList == (B b).toList) = false ∧ ¬ (B a).toList = (B b).toList := by
  have : ¬ (B a).toList = (B b).toList := fun e => h (by rw [Lib.toList_data, Lib.toList_data, B_data, B_data] at e; exact e)
  exact ⟨by simpa using this, this⟩
theorem take_same {α : Type} {a b : List α} {k : Nat} {x : α} (h : a.take k = b.take k) (h1 : a[k]? = some x) (h2 : b[k]? = some x) : a.take (k + 1) = b.take (k + 1) := by
  rw [List.take_add_one, List.take_add_one, h, h1, h2]
theorem same_all {α : Type} {a b : List α} (hl : a.length = b.length) (h : a.take a.length = b.take a.length) : a = b := by
  rw [List.take_length, hl, List.take_length] at h; exact h
theorem ne_at {α : Type} {a b : List α} {k : Nat} {x y : α} (h1 : a[k]? = some x) (h2 : b[k]? = some y) (hn : x ≠ y) : a ≠ b := by
  rintro rfl; rw [h1] at h2; exact hn (Option.some.inj h2)
set_option maxRecDepth 100000 in
set_option maxHeartbeats 4000000 in
theorem fieldsG_quiet (fs gs : List Fld) (v v' : Value) (w : World) (h : Flds w v fs) (h' : Flds w v' gs) (hn : fs.length ≤ 1000000) (hn' : gs.length ≤ 1000000) :
    Calls Tryz.prog 27 #[v, v'] w fun e w' => Tells (fs = gs) e ∧ ∃ m, w' = w.drewN m := by
  obtain ⟨A, cap, rfl, hle, hc⟩ := h
  obtain ⟨A', cap', rfl, hle', hc'⟩ := h'
  have PC := Lib.hid hc
  have PC' := Lib.hid hc'
  clear hc hc'
  by_cases hl : ¬ fs.length = gs.length
  · have q : ¬ ((fs.length : Int) = (gs.length : Int)) := by omega
    go_enter Tryz.func27, Tryz.ntmps27
    go_wp2_with fail
    go_ret
    exact ⟨⟨false, rfl, by simp; rintro rfl; exact hl rfl⟩, 0, rfl⟩
  replace hl := Classical.not_not.1 hl
  rw [← hl]
  have HL := Lib.hid hl
  rw [hl] at hn
  have hn2 : fs.length ≤ 1000000 := by rw [hl]; exact hn
  clear hl hn hn'
  go_enter Tryz.func27, Tryz.ntmps27
  go_wp2_with fail
  go_loopw [13] (fun i wr => ∃ k : Nat, k ≤ fs.length ∧ i = .int .i64 k ∧ fs.take k = gs.take k ∧ ∃ m, wr = w.drewN m) (fun i _ => fs.length - (intOf i).toNat)
  case atStart => exact ⟨0, Nat.zero_le _, rfl, rfl, 0, rfl⟩
  case round =>
    obtain ⟨k, hk, rfl, hsm, nd, hwr⟩ := hrel
    by_cases hlt : k < fs.length
    · obtain ⟨f, hf⟩ : ∃ f, fs[k]? = some f := ⟨_, List.getElem?_eq_getElem hlt⟩
      obtain ⟨g, hg⟩ : ∃ g, gs[k]? = some g := ⟨_, List.getElem?_eq_getElem (by rw [← HL.out]; exact hlt)⟩
      obtain ⟨b, off, rfl, hbb, c0, c1⟩ := PC.out k f hf
      obtain ⟨b', off', rfl, hbb', c0', c1'⟩ := PC'.out k g hg
      replace c0 : wr.cell? ⟨b, off + k * 2, none⟩ = some (.string (B f.1)) := by rw [hwr]; exact c0
      replace c1 : wr.cell? ⟨b, off + k * 2 + 1, none⟩ = some (.string (B f.2)) := by rw [hwr]; exact c1
      replace c0' : wr.cell? ⟨b', off' + k * 2, none⟩ = some (.string (B g.1)) := by rw [hwr]; exact c0'
      replace c1' : wr.cell? ⟨b', off' + k * 2 + 1, none⟩ = some (.string (B g.2)) := by rw [hwr]; exact c1'
      have HW := Lib.hid hwr
      have NE : Hid (f ≠ g → fs ≠ gs) := fun hne => ne_at hf hg hne
      have EQ : Hid (f = g → fs.take (k + 1) = gs.take (k + 1)) := fun e => take_same hsm hf (e ▸ hg)
      clear hf hg PC PC' hwr hsm HL
      obtain ⟨f1, f2⟩ := f
      obtain ⟨g1, g2⟩ := g
      dsimp only at c0 c1 c0' c1' ⊢
      by_cases hX : f1 = g1
      · subst hX
        by_cases hY : f2 = g2
        · subst hY
          have E1 := Lib.hid (EQ.out rfl)
          clear EQ NE
          generalize B f1 = X at *
          generalize B f2 = Y at *
          go_wp2_with (go_quiet (fail))
          go_roundw
          case rel => exact ⟨k + 1, hlt, by go_num, E1.out, nd + _, by rw [HW.out]; exact World.drewN_drewN _ _ _⟩
          case measure => simp [intOf]; omega
        · have E1 := Lib.hid (NE.out (by simpa using hY))
          obtain ⟨q, q'⟩ := B_ne hY
          clear EQ NE hY
          generalize B f1 = X at *
          generalize B f2 = Y at *
          generalize B g2 = Y' at *
          go_wp2_with (go_quiet (fail))
          go_ret
          exact ⟨⟨false, rfl, by simp; exact E1.out⟩, _, by rw [HW.out]; exact World.drewN_drewN _ _ _⟩
      · have E1 := Lib.hid (NE.out (by simp; exact fun e => absurd e hX))
        obtain ⟨q, q'⟩ := B_ne hX
        clear EQ NE hX
        generalize B f1 = X at *
        generalize B f2 = Y at *
        generalize B g1 = X' at *
        generalize B g2 = Y' at *
        go_wp2_with (go_quiet (fail))
        go_ret
        exact ⟨⟨false, rfl, by simp; exact E1.out⟩, _, by rw [HW.out]; exact World.drewN_drewN _ _ _⟩
    · obtain rfl : k = fs.length := by omega
      have E1 := Lib.hid (same_all HL.out hsm)
      clear PC PC' hsm
      go_wp2_with fail
      go_ret
      exact ⟨⟨true, rfl, by simpa using E1.out⟩, nd, by first | rfl | exact hwr⟩
set_option maxRecDepth 100000 in
set_option maxHeartbeats 4000000 in
theorem equalF_quiet (fs gs : List Fld) (v v' : Value) (w : World) (h : Flds w v fs) (h' : Flds w v' gs) (hn : fs.length ≤ 1000000) (hn' : gs.length ≤ 1000000) :
    Calls Tryz.prog 51 #[v, v'] w fun e w' => Tells (fs = gs) e ∧ ∃ m, w' = w.drewN m := by
  obtain ⟨A, cap, rfl, hle, hc⟩ := h
  obtain ⟨A', cap', rfl, hle', hc'⟩ := h'
  have PC := Lib.hid hc
  have PC' := Lib.hid hc'
  clear hc hc'
  by_cases hl : ¬ fs.length = gs.length
  · have q : ¬ ((fs.length : Int) = (gs.length : Int)) := by omega
    go_enter Tryz.func51, Tryz.ntmps51
    go_wp2_with fail
    go_ret
    exact ⟨⟨false, rfl, by simp; rintro rfl; exact hl rfl⟩, 0, rfl⟩
  replace hl := Classical.not_not.1 hl
  rw [← hl]
  have HL := Lib.hid hl
  rw [hl] at hn
  have hn2 : fs.length ≤ 1000000 := by rw [hl]; exact hn
  clear hl hn hn'
  go_enter Tryz.func51, Tryz.ntmps51
  go_wp2_with fail
  go_loopw [13] (fun i wr => ∃ k : Nat, k ≤ fs.length ∧ i = .int .i64 k ∧ fs.take k = gs.take k ∧ ∃ m, wr = w.drewN m) (fun i _ => fs.length - (intOf i).toNat)
  case atStart => exact ⟨0, Nat.zero_le _, rfl, rfl, 0, rfl⟩
  case round =>
    obtain ⟨k, hk, rfl, hsm, nd, hwr⟩ := hrel
    by_cases hlt : k < fs.length
    · obtain ⟨f, hf⟩ : ∃ f, fs[k]? = some f := ⟨_, List.getElem?_eq_getElem hlt⟩
      obtain ⟨g, hg⟩ : ∃ g, gs[k]? = some g := ⟨_, List.getElem?_eq_getElem (by rw [← HL.out]; exact hlt)⟩
      obtain ⟨b, off, rfl, hbb, c0, c1⟩ := PC.out k f hf
      obtain ⟨b', off', rfl, hbb', c0', c1'⟩ := PC'.out k g hg
      replace c0 : wr.cell? ⟨b, off + k * 2, none⟩ = some (.string (B f.1)) := by rw [hwr]; exact c0
      replace c1 : wr.cell? ⟨b, off + k * 2 + 1, none⟩ = some (.string (B f.2)) := by rw [hwr]; exact c1
      replace c0' : wr.cell? ⟨b', off' + k * 2, none⟩ = some (.string (B g.1)) := by rw [hwr]; exact c0'
      replace c1' : wr.cell? ⟨b', off' + k * 2 + 1, none⟩ = some (.string (B g.2)) := by rw [hwr]; exact c1'
      have HW := Lib.hid hwr
      have NE : Hid (f ≠ g → fs ≠ gs) := fun hne => ne_at hf hg hne
      have EQ : Hid (f = g → fs.take (k + 1) = gs.take (k + 1)) := fun e => take_same hsm hf (e ▸ hg)
      clear hf hg PC PC' hwr hsm HL
      obtain ⟨f1, f2⟩ := f
      obtain ⟨g1, g2⟩ := g
      dsimp only at c0 c1 c0' c1' ⊢
      by_cases hX : f1 = g1
      · subst hX
        by_cases hY : f2 = g2
        · subst hY
          have E1 := Lib.hid (EQ.out rfl)
          clear EQ NE
          generalize B f1 = X at *
          generalize B f2 = Y at *
          go_wp2_with (go_quiet (fail))
          go_roundw
          case rel => exact ⟨k + 1, hlt, by go_num, E1.out, nd + _, by rw [HW.out]; exact World.drewN_drewN _ _ _⟩
          case measure => simp [intOf]; omega
        · have E1 := Lib.hid (NE.out (by simpa using hY))
          obtain ⟨q, q'⟩ := B_ne hY
          clear EQ NE hY
          generalize B f1 = X at *
          generalize B f2 = Y at *
          generalize B g2 = Y' at *
          go_wp2_with (go_quiet (fail))
          go_ret
          exact ⟨⟨false, rfl, by simp; exact E1.out⟩, _, by rw [HW.out]; exact World.drewN_drewN _ _ _⟩
      · have E1 := Lib.hid (NE.out (by simp; exact fun e => absurd e hX))
        obtain ⟨q, q'⟩ := B_ne hX
        clear EQ NE hX
        generalize B f1 = X at *
        generalize B f2 = Y at *
        generalize B g1 = X' at *
        generalize B g2 = Y' at *
        go_wp2_with (go_quiet (fail))
        go_ret
        exact ⟨⟨false, rfl, by simp; exact E1.out⟩, _, by rw [HW.out]; exact World.drewN_drewN _ _ _⟩
    · obtain rfl : k = fs.length := by omega
      have E1 := Lib.hid (same_all HL.out hsm)
      clear PC PC' hsm
      go_wp2_with fail
      go_ret
      exact ⟨⟨true, rfl, by simpa using E1.out⟩, nd, by first | rfl | exact hwr⟩
end Go.Proofs.YtkcklnnmcmjnjaaGreatDoor

namespace Go.Proofs.YtkcklnnmcmjnjaaGreatDoor
open Go.RowKit Go.Shelf
attribute [local go_sem] Oper.semAt_some

theorem wantU {ops : Array Oper} {o : Oper} {a : Act} {i d : Nat} {b : Bool} (hg : o.guard = some (i, b)) (hd : ((ops[i]?).bind (·.dst)) = some d) (h : a.tmps[d]? = some (.bool (!b))) : Region.wanted o (yielded ops a.tmps) = false := by
  have hy : yielded ops a.tmps i = some (!b) := by
    unfold yielded
    rw [hd]
    simp [h]
  unfold Region.wanted
  rw [hg]
  simp [hy]
section
variable {o : Oper} {a : Act} {w : World} {K : Act → World → Prop} {Q : Exit → Act → World → Prop}
end

end Go.Proofs.YtkcklnnmcmjnjaaGreatDoor

