/- Texts put together: NA, TO, NG, EA, EM. -/
import Derived.Deep.RegionHeld3
import Derived.Test.YtflnlenkgbphpaaGreatDoorBaf1
import Derived.Test.YtflnlenkgbphpaaGreatDoorBaf2
import Derived.Test.YtflnlenkgbphpaaGreatDoorBaf3
import Derived.Test.YtflnlenkgbphpaaGreatDoorBaf4
import Derived.Test.YtflnlenkgbphpaaGreatDoorBaf5
import Derived.Test.YtflnlenkgbphpaaGreatDoorBaf6
import Derived.Test.YtflnlenkgbphpaaGreatDoorBaf7
import Derived.Test.YtflnlenkgbphpaaGreatDoorBaf8
import Derived.Test.YtflnlenkgbphpaaGreatDoorBaf9
import Derived.Test.YtflnlenkgbphpaaGreatDoorBaf10
import Derived.Test.YtflnlenkgbphpaaGreatDoorBaf11
import Derived.Test.YtflnlenkgbphpaaGreatDoorBaf12
import Derived.Test.YtflnlenkgbphpaaGreatDoorBaf13
import Derived.Test.YtflnlenkgbphpaaGreatDoorBaf14
import Derived.Test.YtflnlenkgbphpaaGreatDoorBaf15
import Derived.Test.YtflnlenkgbphpaaGreatDoorBaf16
import Derived.Test.YtflnlenkgbphpaaGreatDoorBaf17
import Derived.Test.YtflnlenkgbphpaaGreatDoorBaf18
import Derived.Test.YtflnlenkgbphpaaGreatDoorBaf19
import Derived.Test.YtflnlenkgbphpaaGreatDoorBag1
import Derived.Test.YtflnlenkgbphpaaGreatDoorBag2
import Derived.Test.YtflnlenkgbphpaaGreatDoorBag5
set_option linter.unusedVariables false
namespace Go.Proofs.YtflnlenkgbphpaaGreatDoor
open Go.RowKit Go.Shelf
attribute [local go_sem] Oper.semAt_some

/-- A list with an entry put in, up to a place. -/
def putQ (ps : List Pr) (k : Nat) (q : Pr) (j : Nat) : List Pr := if j < k then ps.take j else ps.take k ++ q :: (ps.take j).drop k
theorem putQ_len (ps : List Pr) (k : Nat) (q : Pr) (j : Nat) : (putQ ps k q j).length ≤ j + 1 := by
  unfold putQ
  split
  · rw [List.length_take]; omega
  · rw [List.length_append, List.length_cons, List.length_drop, List.length_take, List.length_take]; omega
theorem putQ_zero (ps : List Pr) (q : Pr) : putQ ps 0 q 0 = [q] := by
  unfold putQ; simp
theorem putQ_start (ps : List Pr) (k : Nat) (q : Pr) (h : 0 < k) : putQ ps k q 0 = [] := by
  unfold putQ; rw [if_pos h, List.take_zero]
theorem putQ_at (ps : List Pr) (j : Nat) (p q : Pr) (h : ps[j]? = some p) : putQ ps (j + 1) q (j + 1) = (putQ ps (j + 1) q j ++ [p]) ++ [q] := by
  have e : ps.take (j + 1) = ps.take j ++ [p] := by rw [List.take_add_one, h]; rfl
  unfold putQ
  rw [if_neg (by omega), if_pos (by omega), List.drop_eq_nil_of_le (by rw [List.length_take]; omega), e]
theorem putQ_on (ps : List Pr) (k j : Nat) (p q : Pr) (h : ps[j]? = some p) (hj : j + 1 ≠ k) : putQ ps k q (j + 1) = putQ ps k q j ++ [p] := by
  have hl := (List.getElem?_eq_some_iff.1 h).1
  have e : ps.take (j + 1) = ps.take j ++ [p] := by rw [List.take_add_one, h]; rfl
  unfold putQ
  by_cases c : j < k
  · rw [if_pos (by omega), if_pos c, e]
  · rw [if_neg (by omega), if_neg c, e, List.append_assoc, List.cons_append, List.drop_append, List.length_take, show k - min j ps.length = 0 by omega, List.drop_zero]
theorem putQ_end (ps : List Pr) (k : Nat) (q : Pr) (h : k ≤ ps.length) : putQ ps k q ps.length = ps.take k ++ q :: ps.drop k := by
  unfold putQ
  rw [if_neg (by omega), List.take_length]
theorem gap_yes {es : List En} {id : Int} {kk : Nat} (h : gapR es id = some kk) : findI (findR es id) + 1 = kk ∧ kk ≤ es.length ∧ (kk = 0 → id = 0) := by
  unfold gapR at h
  by_cases h0 : id = 0
  · rw [if_pos h0] at h
    have : findR es id = none := by unfold findR; rw [if_neg (by omega)]
    rw [this]
    cases h
    exact ⟨rfl, Nat.zero_le _, fun _ => h0⟩
  · rw [if_neg h0] at h
    cases hf : findR es id with
    | none => rw [hf] at h; cases h
    | some k =>
      rw [hf] at h
      have := (findR_lt hf).1
      simp at h
      exact ⟨by simp [findI]; omega, by omega, fun e => by omega⟩
theorem gap_no {es : List En} {id : Int} (h : gapR es id = none) : findR es id = none ∧ id ≠ 0 := by
  unfold gapR at h
  by_cases h0 : id = 0
  · rw [if_pos h0] at h; cases h
  · rw [if_neg h0] at h
    refine ⟨?_, h0⟩
    cases hf : findR es id with
    | none => rfl
    | some k => rw [hf] at h; cases h
set_option maxRecDepth 100000 in
set_option maxHeartbeats 4000000 in
theorem refInsert_any (ps : List Pr) (v x : Value) (nx id : Int) (fs : List Fld) (w : World) (h : EntsQ w v ps) (hps : ps.length ≤ 1000000) (hnx : -1000000 ≤ nx ∧ nx ≤ 1000000) (hx : Flds w x fs) (hfs : Fine7 fs) :
    Calls Tryz.prog 73 #[.agg #[v, .int .i64 nx], .int .i64 id, x] w fun e w' => ∃ v' ps', e = .returned (.tuple #[.agg #[v', .int .i64 (insertR ⟨ps.map Prod.fst, nx⟩ id fs).ls.next], .int .i64 (insertR ⟨ps.map Prod.fst, nx⟩ id fs).id, .int .i64 (insertR ⟨ps.map Prod.fst, nx⟩ id fs).at_, .int .i64 (insertR ⟨ps.map Prod.fst, nx⟩ id fs).bad]) ∧ WrQ w v ps x (insertR ⟨ps.map Prod.fst, nx⟩ id fs).ls.es w' v' ps' := by
  obtain ⟨i0, hi, hz0, hz1, hz2⟩ := info_parts infoQ
  rw [insertR_W]
  dsimp only
  obtain ⟨A, cap, rfl, hle⟩ := h.empty
  obtain ⟨xa, xc, rfl, _, _⟩ := _root_.id hx
  obtain ⟨W, hW⟩ : ∃ W, W = (w.alloc (.cells #[.slice A ps.length cap, .int .i64 nx] 43)).alloc (.cells #[.slice none 0 0, .int .i64 0] 43) := ⟨_, rfl⟩
  have hbW : Below w.heap.size w W := by rw [hW]; exact ((Below.refl _ w).alloc (Nat.le_refl _) _).alloc (by simp) _
  have hzW : W.heap.size = w.heap.size + 2 := by rw [hW]; simp
  have C0 : Cells W w.heap.size 43 #[.slice A ps.length cap, .int .i64 nx] := by rw [hW]; exact (Cells.new _ _ _).alloc _
  have C1 : Cells W (w.heap.size + 1) 43 #[.slice none 0 0, .int .i64 0] := by
    rw [hW]; have := Cells.new (w.alloc (.cells #[.slice A ps.length cap, .int .i64 nx] 43)) 43 #[.slice none 0 0, .int .i64 0]
    simpa using this
  have H0 := Lib.hid h
  have HX := Lib.hid hx
  have FN := Lib.hid (refFind_any ps (.slice A ps.length cap) nx id W (h.below hbW (Nat.le_refl _)) hps)
  have HBW := Lib.hid hbW
  have HC0 := Lib.hid C0
  have HC1 := Lib.hid C1
  have HT : Hid (∀ w1, Below W.heap.size W w1 → Cells w1 w.heap.size 43 #[.slice A ps.length cap, .int .i64 nx] ∧ Cells w1 (w.heap.size + 1) 43 #[.slice none 0 0, .int .i64 0] ∧ Below w.heap.size w w1 ∧ w.heap.size + 2 ≤ w1.heap.size) := fun w1 b1 =>
    ⟨cells_kept HC0.out b1 (by omega), cells_kept HC1.out b1 (by omega), HBW.out.trans (b1.mono (by omega)), by have := b1.size; omega⟩
  have RET : Hid (∀ w1, Below W.heap.size W w1 → Cells ((w1.setCell ⟨w.heap.size + 1, 0, none⟩ (.slice A ps.length cap)).setCell ⟨w.heap.size + 1, 1, none⟩ (.int .i64 nx)) (w.heap.size + 1) 43 #[.slice A ps.length cap, .int .i64 nx] ∧ Below w.heap.size w ((w1.setCell ⟨w.heap.size + 1, 0, none⟩ (.slice A ps.length cap)).setCell ⟨w.heap.size + 1, 1, none⟩ (.int .i64 nx))) := fun w1 b1 => by
    obtain ⟨_, D1, hb1, _⟩ := HT.out w1 b1
    have RE := (D1.set 0 (.slice A ps.length cap)).set 1 (.int .i64 nx)
    rw [set2] at RE
    exact ⟨RE, (hb1.setCell (p := ⟨w.heap.size + 1, 0, none⟩) (Nat.le_succ _) _).setCell (p := ⟨w.heap.size + 1, 1, none⟩) (Nat.le_succ _) _⟩
  clear C0 C1 h hbW hzW hx
  subst hW
  cases hg : gapR (ps.map Prod.fst) id with
  | none =>
    obtain ⟨hf, hid0⟩ := gap_no hg
    rw [hf] at FN
    dsimp only [findI] at FN
    have hne : (id != 0) = true := bne_iff_ne.2 hid0
    clear hf hg hid0
    unfold insertW
    dsimp only
    go_enter Tryz.func73, Tryz.ntmps73
    go_wp2_with fail
    refine FN.out.mono ?_
    rintro e w1 ⟨rfl, b1⟩
    obtain ⟨D0, D1, hb1, hzz⟩ := HT.out w1 b1
    obtain ⟨RE, HB⟩ := RET.out w1 b1
    have c0 := D0.cell 0
    have c1 := D0.cell 1
    have r0 := D1.cell 0
    have r1 := D1.cell 1
    have f0 := D1.frozen 0
    have f1 := D1.frozen 1
    simp only [List.getElem?_toArray, List.getElem?_cons_zero, List.getElem?_cons_succ] at c0 c1 r0 r1
    have HRE := Lib.hid RE
    have HHB := Lib.hid HB
    clear FN b1 hb1 D0 D1 RE HB
    go_wp2_with fail
    refine bodyPost_ret (ret_q4 rfl _ _ (w.heap.size + 1) _ rfl HRE.out rfl) rfl ?_
    exact ⟨_, ps, rfl, .same H0.out rfl HHB.out⟩
  | some kk =>
    obtain ⟨hki, hkl, hk0⟩ := gap_yes hg
    rw [List.length_map] at hkl
    generalize findI (findR (ps.map Prod.fst) id) = ki at *
    -- the first two tests
    have T2 : Hid ((ki < 0 ∧ id = 0 ∧ kk = 0) ∨ (¬ ki < 0 ∧ 0 < kk)) := by
      rcases Nat.eq_zero_or_pos kk with q | q
      · exact .inl ⟨by omega, hk0 q, q⟩
      · exact .inr ⟨by omega, q⟩
    have HKI := Lib.hid hki
    have hkb : -1 ≤ ki ∧ ki ≤ 1000000 := ⟨by omega, by omega⟩
    clear hg hk0 hki
    by_cases hb : chkN fs = 0
    · have CK : Hid (∀ w1, Flds w1 (.slice xa fs.length xc) fs → Calls Tryz.prog 67 #[.slice xa fs.length xc] w1 fun e w' => e = .returned (.tuple #[.int .i64 (chkAt fs), .int .i64 0]) ∧ Below w1.heap.size w1 w') := fun w1 h1 => by
        have := refChk_any fs _ w1 h1 (by have := hfs.len; omega) (fun f hf => by have := hfs.each f hf; omega)
        rw [hb] at this; exact this
      have LN : Hid (∀ w1, EntsQ w1 (.slice A ps.length cap) ps → Calls Tryz.prog 106 #[.agg #[.slice A ps.length cap, .int .i64 nx]] w1 fun e w' => e = .returned (.int .i64 (lenR (ps.map Prod.fst) : Nat)) ∧ Below w1.heap.size w1 w') := fun w1 h1 => refLen_any ps _ nx w1 h1 hps
      obtain ⟨T, hT⟩ : ∃ T, T = chkAt fs := ⟨_, rfl⟩
      rw [← hT] at CK
      have hln : lenR (ps.map Prod.fst) ≤ 1000000 := by have := lenR_le (ps.map Prod.fst); rw [List.length_map] at this; omega
      by_cases hfull : 400 ≤ lenR (ps.map Prod.fst)
      · rw [decide_eq_true hfull, insertW_full hb]
        dsimp only
        clear hT hb
        generalize lenR (ps.map Prod.fst) = len at *
        rcases T2.out with ⟨t1, rfl, t3⟩ | ⟨t1, t3⟩
        all_goals
          clear T2 t3
          go_enter Tryz.func73, Tryz.ntmps73
          go_wp2_with fail
          refine FN.out.mono ?_
          rintro e w1 ⟨rfl, b1⟩
          obtain ⟨D0, D1, hb1, hzz⟩ := HT.out w1 b1
          have CK1 := Lib.hid (CK.out w1 (HX.out.below hb1 (Nat.le_refl _)))
          have B1 := Lib.hid b1
          clear FN b1 hb1 D0 D1
          go_wp2_with fail
          refine CK1.out.mono ?_
          rintro e w2 ⟨rfl, b2⟩
          have B2 := Lib.hid (B1.out.trans (b2.mono B1.out.size))
          obtain ⟨D0, D1, hb1, hzz2⟩ := HT.out w2 B2.out
          have LN1 := Lib.hid (LN.out w2 (H0.out.below hb1 (Nat.le_refl _)))
          have c0 : w2.cell? ⟨w.heap.size, 0, none⟩ = some (.slice A ps.length cap) := D0.cell 0
          have c1 : w2.cell? ⟨w.heap.size, 1, none⟩ = some (.int .i64 nx) := D0.cell 1
          clear CK1 b2 hb1 D0 D1
          go_wp2_with fail
          refine LN1.out.mono ?_
          rintro e w3 ⟨rfl, b3⟩
          have b3' := B2.out.trans (b3.mono B2.out.size)
          obtain ⟨D0, D1, hb1, hzz3⟩ := HT.out w3 b3'
          obtain ⟨RE, HB⟩ := RET.out w3 b3'
          have d0 := D0.cell 0
          have d1 := D0.cell 1
          have r0 := D1.cell 0
          have r1 := D1.cell 1
          have f0 := D1.frozen 0
          have f1 := D1.frozen 1
          simp only [List.getElem?_toArray, List.getElem?_cons_zero, List.getElem?_cons_succ] at d0 d1 r0 r1
          have HRE := Lib.hid RE
          have HHB := Lib.hid HB
          have hge : (400 : Int) ≤ (len : Int) := by omega
          clear LN1 b3 b3' hb1 D0 D1 RE HB c0 c1
          go_wp2_with fail
          refine bodyPost_ret (ret_q4 rfl _ _ (w.heap.size + 1) _ rfl HRE.out rfl) rfl ?_
          exact ⟨_, ps, rfl, .same H0.out rfl HHB.out⟩
      · rw [decide_eq_false hfull, insertW_yes hb]
        dsimp only
        have IT : Hid (∀ w1, Flds w1 (.slice xa fs.length xc) fs → Calls Tryz.prog 105 #[.slice xa fs.length xc] w1 fun e w' => e = .returned (.agg #[.int .i64 3, .string (B (foldG fs)), .slice xa fs.length xc]) ∧ Below w1.heap.size w1 w') := fun w1 h1 =>
          refItem_any fs xa _ xc w1 h1 hfs.len hfs.each
        obtain ⟨G, hG⟩ : ∃ G, G = foldG fs := ⟨_, rfl⟩
        have HG := Lib.hid hG
        rw [← hG] at IT
        obtain ⟨q, hq⟩ : ∃ q : Pr, q = ((itemOf fs, nx), .slice xa fs.length xc) := ⟨_, rfl⟩
        have HQ := Lib.hid hq
        have HCQ : Hid (entCell q = [.int .i64 3, .string (B G), .slice xa fs.length xc, .int .i64 nx]) := by show _ = _; rw [hq, hG]; rfl
        have hnw : IntKind.i64.wrap (nx + 1) = nx + 1 := IntWalk.i64_in _ (by omega)
        have HNW := Lib.hid hnw
        generalize hlr : lenR (ps.map Prod.fst) = len at *
        clear hT hb hG hq hnw hlr
        have hge : ¬ (400 : Int) ≤ (len : Int) := by omega
        go_enter Tryz.func73, Tryz.ntmps73
        go_wp2_with fail
        refine FN.out.mono ?_
        rintro e w1 ⟨rfl, b1⟩
        obtain ⟨D0, D1, hb1, hzz⟩ := HT.out w1 b1
        have CK1 := Lib.hid (CK.out w1 (HX.out.below hb1 (Nat.le_refl _)))
        have B1 := Lib.hid b1
        clear FN b1 hb1 D0 D1
        go_upto_region 2 with fail
        go_cut [24] (fun c wx => c = .bool false ∧ wx = w1)
        case first =>
          rcases T2.out with ⟨t1, rfl, t3⟩ | ⟨t1, t3⟩
          all_goals
            clear T2 t3
            go_wp2_with fail
            go_meet
            exact ⟨rfl, rfl⟩
        case rest =>
          obtain ⟨rfl, rfl⟩ := hcut
          go_wp2_with fail
          refine CK1.out.mono ?_
          rintro e w2 ⟨rfl, b2⟩
          have B2 := Lib.hid (B1.out.trans (b2.mono B1.out.size))
          obtain ⟨D0, D1, hb1, hzz2⟩ := HT.out w2 B2.out
          have LN1 := Lib.hid (LN.out w2 (H0.out.below hb1 (Nat.le_refl _)))
          have c0 : w2.cell? ⟨w.heap.size, 0, none⟩ = some (.slice A ps.length cap) := D0.cell 0
          have c1 : w2.cell? ⟨w.heap.size, 1, none⟩ = some (.int .i64 nx) := D0.cell 1
          clear CK1 b2 hb1 D0 D1
          go_wp2_with fail
          refine LN1.out.mono ?_
          rintro e w3 ⟨rfl, b3⟩
          have b3' := B2.out.trans (b3.mono B2.out.size)
          obtain ⟨D0, D1, hb3, hzz3⟩ := HT.out w3 b3'
          have d1 : w3.cell? ⟨w.heap.size, 1, none⟩ = some (.int .i64 nx) := D0.cell 1
          have HD0 := Lib.hid D0
          have HD1 := Lib.hid D1
          have HB3 := Lib.hid hb3
          have H1 := Lib.hid (H0.out.below hb3 (Nat.le_refl _))
          have HX1 := Lib.hid (HX.out.below hb3 (Nat.le_refl _))
          clear LN1 b3 b3' D0 D1 hb3 c0 c1 CK LN RET
          go_upto_region 10 with fail
          go_cut [14] (fun fv wx => ∃ fb : Nat, fv = .pointer (some ⟨fb, 0, none⟩) ∧ w3.heap.size < fb ∧ AccQ w3 wx w3.heap.size (.slice none 0 0) [] (nx + 1) ∧ Cells wx fb 104 #[.int .i64 3, .string (B G), .slice xa fs.length xc, .int .i64 nx])
          case first =>
            obtain ⟨w4, hw4⟩ : ∃ w4, w4 = w3.alloc (.cells #[.slice none 0 0, .int .i64 (nx + 1)] 43) := ⟨_, rfl⟩
            have A4 := AccQ.start w3 (nx + 1)
            have D4 : Cells w4 w.heap.size 43 #[.slice A ps.length cap, .int .i64 nx] := by rw [hw4]; exact HD0.out.alloc _
            rw [← hw4] at A4 ⊢
            have hz4 : w4.heap.size = w3.heap.size + 1 := by rw [hw4]; simp
            clear hw4 d1
            obtain ⟨z0, hz0'⟩ : ∃ z0, z0 = Obj.cells #[.int .i64 0, .string ⟨#[]⟩, .slice none 0 0, .int .i64 0] 104 := ⟨_, rfl⟩
            have D4z : Cells (w4.alloc z0) w4.heap.size 104 #[.int .i64 0, .string ⟨#[]⟩, .slice none 0 0, .int .i64 0] := by rw [hz0']; exact Cells.new _ _ _
            have HXa := Lib.hid (HX1.out.below (A4.below.drew) (Nat.le_refl _))
            have HXb := Lib.hid (HX1.out.below ((A4.alloc z0).below.drew) (Nat.le_refl _))
            have AA := Lib.hid A4.drew
            have AZ := Lib.hid (A4.alloc z0).drew
            have hlt4 := A4.head.lt
            have hwlt : w.heap.size < w4.heap.size := D4.lt
            have HDA := Lib.hid D4
            have HDB := Lib.hid D4.drew
            have HDZ := Lib.hid (D4.alloc z0).drew
            have HZZ := Lib.hid D4z.drew
            have hzz : Hid ((w4.alloc z0).heap.size = w4.heap.size + 1) := by show _ = _; simp
            have d1 : w4.cell? ⟨w.heap.size, 1, none⟩ = some (.int .i64 nx) := D4.cell 1
            have d1' : ∀ o, (w4.alloc o).cell? ⟨w.heap.size, 1, none⟩ = some (.int .i64 nx) := fun o => (HDA.out.alloc o).cell 1
            have HZ4 := Lib.hid hz4
            have hz4' : w3.heap.size < w4.heap.size := by omega
            clear A4 D4 D4z hz4
            subst hz0'
            go_region_law (go_simp; go_at_call 105; first
              | (refine (IT.out _ HXa.out).mono ?_; rintro e w5 ⟨rfl, b5⟩; have hz5 : w4.heap.size ≤ w5.heap.size := b5.size; have A5 := Lib.hid (AA.out.kept b5); have e1 : w5.cell? ⟨w.heap.size, 1, none⟩ = some (.int .i64 nx) := (cells_kept HDB.out b5 hwlt).cell 1; have e1' : ∀ o, (w5.alloc o).cell? ⟨w.heap.size, 1, none⟩ = some (.int .i64 nx) := fun o => ((cells_kept HDB.out b5 hwlt).alloc o).cell 1)
              | (refine (IT.out _ HXb.out).mono ?_; rintro e w5 ⟨rfl, b5⟩; have A5 := Lib.hid (AZ.out.kept b5); have e1 : w5.cell? ⟨w.heap.size, 1, none⟩ = some (.int .i64 nx) := (cells_kept HDZ.out b5 (by show _ < (w4.alloc _).heap.size; rw [hzz.out]; omega)).cell 1; have BX := Lib.hid (cells_kept HZZ.out b5 (by show _ < (w4.alloc _).heap.size; rw [hzz.out]; omega)); have t0 := BX.out.cell 0; have t1 := BX.out.cell 1; have t2 := BX.out.cell 2; have t3 := BX.out.cell 3; simp only [List.getElem?_toArray, List.getElem?_cons_zero, List.getElem?_cons_succ] at t0 t1 t2 t3; have f0 := BX.out.frozen 0; have f1 := BX.out.frozen 1; have f2 := BX.out.frozen 2; have f3 := BX.out.frozen 3))
            all_goals (try go_wp2_with fail)
            all_goals first
              | (go_meet; exact ⟨w5.heap.size, rfl, by omega, A5.out.alloc _, Cells.new _ _ _⟩)
              | (go_meet; refine ⟨w4.heap.size, rfl, hz4', (((A5.out.other (b := w4.heap.size) 0 _ (by omega) (by omega) (fun r e => by cases e)).other (b := w4.heap.size) 1 _ (by omega) (by omega) (fun r e => by cases e)).other (b := w4.heap.size) 2 _ (by omega) (by omega) (fun r e => by cases e)).other (b := w4.heap.size) 3 _ (by omega) (by omega) (fun r e => by cases e), ?_⟩; have := (((BX.out.set 0 (.int .i64 3)).set 1 (.string (B G))).set 2 (.slice xa fs.length xc)).set 3 (.int .i64 nx); rw [set4] at this; exact this)
          case rest =>
            obtain ⟨fb, rfl, hfb, hacc, hfr⟩ := hcut
            have ACC := Lib.hid (show AccF w3 wc w3.heap.size fb #[.int .i64 3, .string (B G), .slice xa fs.length xc, .int .i64 nx] (.slice none 0 0) [] (nx + 1) from ⟨hacc, hfr, (fun r e => by cases e), Nat.ne_of_gt hfb⟩)
            clear hacc hfr d1
            go_upto_if 50 with fail
            go_cut [] (fun wx => ∃ u, AccF w3 wx w3.heap.size fb #[.int .i64 3, .string (B G), .slice xa fs.length xc, .int .i64 nx] u (putQ ps kk q 0) (nx + 1))
            case first =>
              rcases T2.out with ⟨t1, -, t3⟩ | ⟨t1, t3⟩
              · have hrow : wc.ownsRow w3.heap.size 104 4 (.slice none 0 0) 0 [] := ACC.out.acc.row
                have f0 := ACC.out.fr.cell 0
                have f1 := ACC.out.fr.cell 1
                have f2 := ACC.out.fr.cell 2
                have f3 := ACC.out.fr.cell 3
                simp only [List.getElem?_toArray, List.getElem?_cons_zero, List.getElem?_cons_succ] at f0 f1 f2 f3
                have k0 : wc.cell? ⟨w3.heap.size, 0, none⟩ = some (.slice none 0 0) := ACC.out.acc.head.cell 0
                have hbz := ACC.out.acc.below.size
                have AL := Lib.hid (ACC.out.alloc (.cells #[.int .i64 3, .string (B G), .slice xa fs.length xc, .int .i64 nx] 104))
                have HV := Lib.hid (cells_new_add wc 104 [.int .i64 3, .string (B G), .slice xa fs.length xc, .int .i64 nx])
                have PZ : Hid (putQ ps kk q 0 = [q]) := by show _ = _; rw [t3]; exact putQ_zero ps q
                clear T2 t3
                go_wp2_with (at_builtin; refine wpList_append_at rfl _ _ 41 rfl w3.heap.size 104 i0 _ 4 56 Tryz.underlying41 hi hz0 hz1 hz2 rfl (by decide) _ _ _ rfl (hrow.alloc _) ⟨wc.heap.size, 0, none⟩ 1 1 _ rfl rfl HV.out (by intro u hu; simp at hu; rcases hu with rfl | rfl | rfl | rfl <;> rfl) (by unfold maxLen; omega) (by omega) (by first | omega | (simp only [World.size_alloc]; omega) | (simp [World.setCell]; omega)) ?_)
                intro v' w6 hown' hgrow hbk
                have h6 := (AL.out.acc.grown_head hgrow)
                have acc6 := Lib.hid (AL.out.grow (p := q) (by rw [HCQ.out]; exact hown') hgrow (by rw [World.size_alloc]; exact hbk.out))
                have k6 : w6.cell? ⟨w3.heap.size, 0, none⟩ = some (.slice none 0 0) := h6.cell 0
                have kf6 := h6.frozen 0
                obtain ⟨g', cap6, rfl⟩ := ownsRow_succ hown'
                clear hown' hgrow h6 hbk
                go_wp2_with fail
                go_meet
                exact ⟨_, by rw [PZ.out]; exact acc6.out⟩
              · have PZ : Hid (putQ ps kk q 0 = []) := putQ_start ps kk q t3
                clear T2 t3
                go_wp2_with fail
                go_meet
                exact ⟨_, by rw [PZ.out]; exact ACC.out⟩
            case rest =>
              obtain ⟨u0, hacc0⟩ := hcut
              have ACC0 := Lib.hid hacc0
              clear hacc0 ACC
              go_wp2_with fail
              go_loopw [15] (fun i wr => ∃ (j : Nat) (u : Value), j ≤ ps.length ∧ i = .int .i64 j ∧ AccF w3 wr w3.heap.size fb #[.int .i64 3, .string (B G), .slice xa fs.length xc, .int .i64 nx] u (putQ ps kk q j) (nx + 1)) (fun i _ => ps.length - (intOf i).toNat)
              case atStart => exact ⟨0, u0, Nat.zero_le _, rfl, ACC0.out⟩
              case round =>
                obtain ⟨j, u, hj, rfl, hacc⟩ := hrel
                have hb := hacc.acc.below
                have hlw := hb.size
                have e0 : wr.cell? ⟨w.heap.size, 0, none⟩ = some (.slice A ps.length cap) := (cells_kept HD0.out hb (by omega)).cell 0
                obtain ⟨ua, uc, rfl, _⟩ := own_slice hacc.acc.row
                by_cases hlt : j < ps.length
                · obtain ⟨p, hp⟩ : ∃ p, ps[j]? = some p := ⟨_, List.getElem?_eq_getElem hlt⟩
                  have hcl := putQ_len ps kk q j
                  obtain ⟨g, cap', pa, pc, e1, _, hg, e2, d0, d1, d2, d3⟩ := (H1.out.below hb (Nat.le_refl _)).here hp
                  cases e1
                  rw [e2] at d2
                  have PA := Lib.hid (fun (h : j + 1 = kk) => show putQ ps kk q (j + 1) = (putQ ps kk q j ++ [p]) ++ [q] from h ▸ putQ_at ps j p q hp)
                  have PO := Lib.hid (fun (h : j + 1 ≠ kk) => putQ_on ps kk j p q hp h)
                  have g0 : wr.cell? ⟨w3.heap.size, 0, none⟩ = some (.slice ua (putQ ps kk q j).length uc) := hacc.acc.head.cell 0
                  have g1 : ∀ o, (wr.alloc o).cell? ⟨w3.heap.size, 0, none⟩ = some (.slice ua (putQ ps kk q j).length uc) := fun o => (hacc.acc.head.alloc o).cell 0
                  have ACC := Lib.hid hacc
                  have HO := Lib.hid (rowBase hacc.acc.row (Nat.zero_le _))
                  have HNE := Lib.hid hacc.acc.ne
                  have HHD := Lib.hid hacc.acc.head
                  have E2 := Lib.hid e2
                  generalize hcq : putQ ps kk q j = cq at *
                  clear hacc hp hb hcq e2
                  go_wp2_with fail
                  go_region_law (refine step_append_own rfl (.tmp 65) (.tmp 71) 41 rfl 104 i0 _ 4 56 Tryz.underlying41 hi hz0 hz1 hz2 rfl (by decide) (.slice ua cq.length uc) cq.length (entCells cq) (by simp [Act.eval]) (by exact (HO.out.alloc _).drew) ⟨wr.heap.size, 0, none⟩ 1 1 [.int .i64 p.1.1.kind, .string (B p.1.1.raw), .slice pa p.1.1.fields.length pc, .int .i64 p.1.2] (by simp [Act.eval]) rfl (cells_new_add wr 104 [.int .i64 p.1.1.kind, .string (B p.1.1.raw), .slice pa p.1.1.fields.length pc, .int .i64 p.1.2]) (by intro u hu; simp at hu; rcases hu with rfl | rfl | rfl | rfl <;> rfl) (by unfold maxLen; omega) (by omega) ?_; intro v' w' ho hgr hbk; obtain ⟨⟨g', cap', rfl⟩, hg', hbx, hkk, hon⟩ := appended HHD.out HO.out HNE.out (((Below.refl _ wr).alloc (Nat.le_refl _) _).drew) ho hgr hbk; have k0 : w'.cell? ⟨w3.heap.size, 0, none⟩ = some (.slice ua cq.length uc) := hg'.cell 0; have kf0 := hg'.frozen 0)
                  all_goals
                    have acc2 := ACC.out.snoc (p := p) (by unfold entCell; rw [E2.out]; exact ho) hg' hkk hon
                    have ACC2 := Lib.hid acc2
                    clear acc2 ACC HO HNE HHD ho hg' hkk hon hbx hgr hbk g0 g1 e0 d0 d1 d2 d3
                    by_cases hjk : j + 1 = kk
                    · have hq : ((j : Int) == ki) = true := by have := HKI.out; exact beq_iff_eq.2 (by omega)
                      have PA2 := Lib.hid (PA.out hjk)
                      clear hjk PO PA
                      obtain ⟨wv, hwv⟩ : ∃ wv, wv = w'.setCell ⟨w3.heap.size, 0, none⟩ (.slice (some ⟨g', 0, none⟩) (cq.length + 1) cap') := ⟨_, rfl⟩
                      rw [← hwv] at ACC2 ⊢
                      clear hwv k0 kf0
                      have hln2 : (cq ++ [p]).length = cq.length + 1 := by simp
                      have HLN2 := Lib.hid hln2
                      have hrow := ACC2.out.acc.row
                      rw [hln2] at hrow
                      have f0 := ACC2.out.fr.cell 0
                      have f1 := ACC2.out.fr.cell 1
                      have f2 := ACC2.out.fr.cell 2
                      have f3 := ACC2.out.fr.cell 3
                      simp only [List.getElem?_toArray, List.getElem?_cons_zero, List.getElem?_cons_succ] at f0 f1 f2 f3
                      have k0 : wv.cell? ⟨w3.heap.size, 0, none⟩ = some (.slice (some ⟨g', 0, none⟩) (cq.length + 1) cap') := ACC2.out.acc.head.cell 0
                      have hbz := ACC2.out.acc.below.size
                      have hob := ACC2.out.acc.head.lt
                      have hfl := ACC2.out.fr.lt
                      have AL := Lib.hid (ACC2.out.alloc (.cells #[.int .i64 3, .string (B G), .slice xa fs.length xc, .int .i64 nx] 104))
                      have HV := Lib.hid (cells_new_add wv 104 [.int .i64 3, .string (B G), .slice xa fs.length xc, .int .i64 nx])
                      clear hln2 ACC2
                      go_wp2_with (at_builtin; refine wpList_append_at rfl _ _ 41 rfl w3.heap.size 104 i0 _ 4 56 Tryz.underlying41 hi hz0 hz1 hz2 rfl (by decide) _ _ _ rfl (hrow.alloc _) ⟨wv.heap.size, 0, none⟩ 1 1 _ rfl rfl HV.out (by intro u hu; simp at hu; rcases hu with rfl | rfl | rfl | rfl <;> rfl) (by unfold maxLen; omega) (by omega) (by first | omega | (simp only [World.size_alloc]; omega) | (simp [World.setCell]; omega)) ?_)
                      intro v' w6 hown' hgrow hbk
                      have h6 := (AL.out.acc.grown_head hgrow)
                      have acc6 := Lib.hid (AL.out.grow (p := q) (by rw [HCQ.out, HLN2.out]; exact hown') hgrow (by rw [World.size_alloc]; exact hbk.out))
                      have k6 : w6.cell? ⟨w3.heap.size, 0, none⟩ = some (.slice (some ⟨g', 0, none⟩) (cq.length + 1) cap') := h6.cell 0
                      have kf6 := h6.frozen 0
                      obtain ⟨g6, cap6, rfl⟩ := ownsRow_succ hown'
                      clear hown' hgrow h6 hbk
                      go_wp2_with fail
                      go_roundw
                      case rel => exact ⟨j + 1, _, hlt, by go_num, by rw [PA2.out]; exact acc6.out⟩
                      case measure => simp [intOf]; omega
                    · have hq : ((j : Int) == ki) = false := by have := HKI.out; exact beq_eq_false_iff_ne.2 (by omega)
                      have PO2 := Lib.hid (PO.out hjk)
                      clear hjk PO PA
                      go_wp2_with fail
                      go_roundw
                      case rel => exact ⟨j + 1, _, hlt, by go_num, by rw [PO2.out]; exact ACC2.out⟩
                      case measure => simp [intOf]; omega
                · obtain rfl : j = ps.length := by omega
                  have HMAP : Hid ((ps.take kk ++ q :: ps.drop kk).map Prod.fst = putE (ps.map Prod.fst) kk (itemOf fs, nx)) := by
                    show _ = _
                    rw [HQ.out]; exact putE_map ps kk _ _
                  have HMEM : Hid (∀ p ∈ ps.take kk ++ q :: ps.drop kk, p ∈ ps ∨ (p.2 = .slice xa fs.length xc ∧ p.1.1.fields = fs)) := fun p hp => by
                    rcases List.mem_append.1 hp with h | h
                    · exact .inl (List.mem_of_mem_take h)
                    · rcases List.mem_cons.1 h with h | h
                      · right; rw [h, HQ.out]; exact ⟨rfl, rfl⟩
                      · exact .inl (List.mem_of_mem_drop h)
                  rw [putQ_end ps kk q hkl] at *
                  generalize ps.take kk ++ q :: ps.drop kk = L at *
                  have D1 := cells_kept HD1.out hb (by omega)
                  have D0 := cells_kept HD0.out hb (by omega)
                  have G1 : wr.cell? ⟨w3.heap.size, 1, none⟩ = some (.int .i64 (nx + 1)) := hacc.acc.head.cell 1
                  have G0 : wr.cell? ⟨w3.heap.size, 0, none⟩ = some (.slice ua L.length uc) := hacc.acc.head.cell 0
                  have N1 : wr.cell? ⟨w.heap.size, 1, none⟩ = some (.int .i64 nx) := D0.cell 1
                  have r0 := D1.cell 0
                  have r1 := D1.cell 1
                  have f0 := D1.frozen 0
                  have f1 := D1.frozen 1
                  simp only [List.getElem?_toArray, List.getElem?_cons_zero, List.getElem?_cons_succ] at r0 r1
                  have RE := (D1.drew.set 0 (.slice ua L.length uc)).set 1 (.int .i64 (nx + 1))
                  rw [set2] at RE
                  have HRE := Lib.hid RE
                  have ACC := Lib.hid hacc.acc.drew
                  clear hacc hb D1 D0 RE
                  go_wp2_with fail
                  go_region_law (skip)
                  all_goals go_wp2_with fail
                  all_goals
                    refine bodyPost_ret (ret_q4 rfl _ _ (w.heap.size + 1) _ rfl HRE.out rfl) rfl ?_
                    refine ⟨_, L, rfl, ?_⟩
                    exact ACC.out.end_ HB3.out H0.out HX.out HMAP.out HMEM.out (Nat.le_succ _) (by omega) 0 1 _ _
    · rw [insertW_no hb]
      dsimp only
      have hbb : (((chkN fs : Nat) : Int) != 0) = true := bne_iff_ne.2 (by omega)
      have hat : chkN fs ≤ 11 := chkN_le fs
      obtain ⟨N, hN⟩ : ∃ N, N = chkN fs := ⟨_, rfl⟩
      obtain ⟨T, hT⟩ : ∃ T, T = chkAt fs := ⟨_, rfl⟩
      have CK : Hid (∀ w1, Flds w1 (.slice xa fs.length xc) fs → Calls Tryz.prog 67 #[.slice xa fs.length xc] w1 fun e w' => e = .returned (.tuple #[.int .i64 T, .int .i64 (N : Nat)]) ∧ Below w1.heap.size w1 w') := fun w1 h1 => by
        rw [hN, hT]; exact refChk_any fs _ w1 h1 (by have := hfs.len; omega) (fun f hf => by have := hfs.each f hf; omega)
      rw [← hN] at hbb hat ⊢
      rw [← hT]
      clear hb hN hT
      rcases T2.out with ⟨t1, rfl, t3⟩ | ⟨t1, t3⟩
      all_goals
        clear T2 t3
        go_enter Tryz.func73, Tryz.ntmps73
        go_wp2_with fail
        refine FN.out.mono ?_
        rintro e w1 ⟨rfl, b1⟩
        obtain ⟨D0, D1, hb1, hzz⟩ := HT.out w1 b1
        have CK1 := Lib.hid (CK.out w1 (HX.out.below hb1 (Nat.le_refl _)))
        have B1 := Lib.hid b1
        clear FN b1 hb1 D0 D1
        go_wp2_with fail
        refine CK1.out.mono ?_
        rintro e w2 ⟨rfl, b2⟩
        have b2' := B1.out.trans (b2.mono B1.out.size)
        obtain ⟨D0, D1, hb1, hzz2⟩ := HT.out w2 b2'
        obtain ⟨RE, HB⟩ := RET.out w2 b2'
        have c0 := D0.cell 0
        have c1 := D0.cell 1
        have r0 := D1.cell 0
        have r1 := D1.cell 1
        have f0 := D1.frozen 0
        have f1 := D1.frozen 1
        simp only [List.getElem?_toArray, List.getElem?_cons_zero, List.getElem?_cons_succ] at c0 c1 r0 r1
        have HRE := Lib.hid RE
        have HHB := Lib.hid HB
        clear CK1 b2 b2' hb1 D0 D1 RE HB
        go_wp2_with fail
        refine bodyPost_ret (ret_q4 rfl _ _ (w.heap.size + 1) _ rfl HRE.out rfl) rfl ?_
        exact ⟨_, ps, rfl, .same H0.out rfl HHB.out⟩
end Go.Proofs.YtflnlenkgbphpaaGreatDoor

namespace Go.Proofs.YtflnlenkgbphpaaGreatDoor
open Go.RowKit Go.Shelf

theorem MineP.spoils {P : Nat → Prop} {n : Nat} {w w' : World} {v : Value} (h : MineP w P v n) (hs : Spoils P w w') : MineP w' P v n := by
  rcases h with h | ⟨g, cap, cur, e, h0, h1, h2, h3⟩
  · exact .inl h
  · rcases hs.same g _ h2 with k | ⟨_, c1, c2, k1, k2, k3⟩
    · exact .inr ⟨g, cap, cur, e, h0, h1, k, h3⟩
    · injection k1 with k1
      subst k1
      exact .inr ⟨g, cap, c2, e, h0, h1, k2, by omega⟩
set_option maxRecDepth 100000 in
set_option maxHeartbeats 4000000 in
theorem spoilP_any (n : Nat) (P : Nat → Prop) (v : Value) (w : World) (h : MineP w P v n) (hn : n ≤ 1000000) :
    Calls Tryz.prog 19 #[v] w fun e w' => e = .returned (.tuple #[]) ∧ Spoils P w w' := by
  have HM := Lib.hid h
  rcases h with ⟨rfl, A, c, rfl⟩ | ⟨g, cap, cur, rfl, hle, _, _, _⟩
  · go_enter Tryz.func19, Tryz.ntmps19
    go_wp2_with fail
    refine wp_loop_rounds 1 ?_
    rw [rounds_succ]
    go_wp2_with fail
    go_end0
    exact ⟨rfl, Spoils.refl _ _⟩
  · go_enter Tryz.func19, Tryz.ntmps19
    go_wp2_with fail
    go_loopw [5] (fun i wr => ∃ k : Nat, k ≤ n ∧ i = .int .i64 k ∧ Spoils P w wr) (fun i _ => n - (intOf i).toNat)
    case atStart => exact ⟨0, Nat.zero_le _, rfl, Spoils.refl _ _⟩
    case round =>
      obtain ⟨k, hk, rfl, hs⟩ := hrel
      by_cases hlt : k < n
      · rcases HM.out.spoils hs with ⟨h0, _⟩ | ⟨g', cap', cur', e, h0, h1, h2, h3⟩
        · omega
        · cases e
          have hC : Cells wr g 35 cur' := h2
          obtain ⟨x0, hx0⟩ : ∃ x, cur'[k * 2]? = some x := ⟨_, Array.getElem?_eq_getElem (by omega)⟩
          obtain ⟨x1, hx1⟩ : ∃ x, cur'[k * 2 + 1]? = some x := ⟨_, Array.getElem?_eq_getElem (by omega)⟩
          have c0 : wr.cell? ⟨g, k * 2, none⟩ = some x0 := (hC.cell _).trans hx0
          have c1 : wr.cell? ⟨g, k * 2 + 1, none⟩ = some x1 := (hC.cell _).trans hx1
          have f0 := hC.frozen (k * 2)
          have f1 := hC.frozen (k * 2 + 1)
          have HC := Lib.hid hC
          have HS := Lib.hid hs
          have H1 := Lib.hid h1
          clear HM hs h2 hC hx0 hx1 h1
          go_wp2_with fail
          go_roundw
          case rel =>
            refine ⟨k + 1, hlt, by go_num, HS.out.trans ((Spoils.set HC.out H1.out (k * 2) _).trans (Spoils.set (HC.out.set (k * 2) _) H1.out (k * 2 + 1) _))⟩
          case measure => simp [intOf]; omega
      · obtain rfl : k = n := by omega
        clear HM
        go_wp2_with fail
        go_end0
        exact ⟨rfl, hs⟩
end Go.Proofs.YtflnlenkgbphpaaGreatDoor

namespace Go.Proofs.YtflnlenkgbphpaaGreatDoor

/-- An insert that is done gives the next number; one that isn't gives none. -/
theorem insert_id (l : LS) (id : Int) (fs : List Fld) : ((insertR l id fs).bad = 0 ∧ (insertR l id fs).id = l.next ∧ (insertR l id fs).ls.next = l.next + 1) ∨ ((insertR l id fs).bad ≠ 0 ∧ (insertR l id fs).id = 0 ∧ (insertR l id fs).ls = l) := by
  unfold insertR
  split
  · exact .inr ⟨by show (7 : Nat) ≠ 0; decide, rfl, rfl⟩
  · split
    · split
      · exact .inr ⟨by show (11 : Nat) ≠ 0; decide, rfl, rfl⟩
      · exact .inl ⟨rfl, rfl, rfl⟩
    · rename_i hc; exact .inr ⟨hc, rfl, rfl⟩
end Go.Proofs.YtflnlenkgbphpaaGreatDoor

namespace Go.Proofs.YtflnlenkgbphpaaGreatDoor

theorem on_len (l : LS) : ∀ (eds : List Ed), (lsOn l eds).es.length ≤ l.es.length + eds.length ∧ l.next ≤ (lsOn l eds).next ∧ (lsOn l eds).next ≤ l.next + (eds.length : Nat) := by
  intro eds
  induction eds generalizing l with
  | nil => exact ⟨Nat.le_refl _, Int.le_refl _, by show l.next ≤ l.next + ((0 : Nat) : Int); omega⟩
  | cons ed r ih =>
    obtain ⟨a, b, c⟩ := ih (stepE l ed).ls
    obtain ⟨a1, b1, c1⟩ := edit_len l ed.kind ed.id ed.fields
    refine ⟨?_, ?_, ?_⟩
    · show (lsOn (stepE l ed).ls r).es.length ≤ l.es.length + (r.length + 1)
      have : (stepE l ed).ls.es.length ≤ l.es.length + 1 := a1
      omega
    · show l.next ≤ (lsOn (stepE l ed).ls r).next
      have : l.next ≤ (stepE l ed).ls.next := b1
      omega
    · show (lsOn (stepE l ed).ls r).next ≤ l.next + ((r.length + 1 : Nat) : Int)
      have : (stepE l ed).ls.next ≤ l.next + 1 := c1
      omega
/-- An edit's new number: above 0 just where one is inserted. -/
theorem step_id {l : LS} (hp : 0 < l.next) {ed : Ed} (hk : ed.kind = 1 ∨ ed.kind = 2 ∨ ed.kind = 3) (h0 : (stepE l ed).bad = 0) : (if ed.kind = 3 then [(stepE l ed).id] else []) = (if 0 < (stepE l ed).id then [(stepE l ed).id] else []) := by
  rcases hk with hk | hk | hk
  · have e : (stepE l ed).id = 0 := by
      unfold stepE editR
      rw [if_pos hk]
      unfold replaceR
      split
      · rfl
      · split <;> rfl
    rw [if_neg (by omega), if_neg (by omega)]
  · have e : (stepE l ed).id = 0 := by
      unfold stepE editR
      rw [if_neg (by omega), if_pos hk]
      unfold deleteR
      split <;> rfl
    rw [if_neg (by omega), if_neg (by omega)]
  · have e1 : stepE l ed = insertR l ed.id ed.fields := by
      unfold stepE editR
      rw [if_neg (by omega), if_neg (by omega)]
    have e : (stepE l ed).id = l.next := by
      rw [e1] at h0 ⊢
      rcases insert_id l ed.id ed.fields with q | q
      · exact q.2.1
      · exact absurd h0 q.1
    rw [if_pos hk, if_pos (by omega)]
end Go.Proofs.YtflnlenkgbphpaaGreatDoor

namespace Go.Proofs.YtflnlenkgbphpaaGreatDoor
open Go.RowKit Go.Shelf
attribute [local go_sem] Oper.semAt_some

section
variable {o : Oper} {a : Act} {w : World} {K : Act → World → Prop} {Q : Exit → Act → World → Prop}
theorem mo_runW {v : Value} {w' : World} (e : (execOp a.eval o).run Tryz.prog w = .ok (.value v) w') (hK : K (a.put o.dst v) w') : Oper.wp Tryz.prog o a w K Q := by
  unfold Oper.wp
  rw [e]; exact hK
theorem mo_lit3 {x : Operand} {k i : Int} {fa : Option Addr} {fn fc : Nat} (ho : o.op = Op.buildSlice 22 1 #[(0, x)]) (hx : a.eval x = .agg #[.int .i64 k, .int .i64 i, .slice fa fn fc])
    (hK : K (a.put o.dst (.slice (some ⟨w.heap.size, 0, none⟩) 1 1)) (w.alloc (.cells #[.int .i64 k, .int .i64 i, .slice fa fn fc] 33))) : Oper.wp Tryz.prog o a w K Q := by
  refine mo_runW ?_ hK
  simp only [execOp, ho]
  rw [show (Array.map (fun (p : Nat × Operand) => match p with | (i, x) => (i, a.eval x)) #[((0 : Nat), x)]) = #[((0 : Nat), Value.agg #[.int .i64 k, .int .i64 i, .slice fa fn fc])] from by rw [← hx]; simp]
  kernel_rfl
theorem mo_build3 {x y z : Operand} {k i : Int} {fa : Option Addr} {fn fc : Nat} (ho : o.op = Op.build 33 #[(0, x), (1, y), (2, z)]) (hx : a.eval x = .int .i64 k) (hy : a.eval y = .int .i64 i) (hz : a.eval z = .slice fa fn fc)
    (hK : K (a.put o.dst (.agg #[.int .i64 k, .int .i64 i, .slice fa fn fc])) w) : Oper.wp Tryz.prog o a w K Q := by
  refine mo_runW ?_ hK
  simp only [execOp, ho]
  rw [show (Array.map (fun (p : Nat × Operand) => match p with | (i, x) => (i, a.eval x)) #[((0 : Nat), x), (1, y), (2, z)]) = #[((0 : Nat), Value.int .i64 k), (1, .int .i64 i), (2, .slice fa fn fc)] from by rw [← hx, ← hy, ← hz]; simp]
  kernel_rfl
end
end Go.Proofs.YtflnlenkgbphpaaGreatDoor

