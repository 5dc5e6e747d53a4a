/- Texts put together: NA, TO, NB, NC, NR, ND, NE, NG. -/
import Derived.Deep.RegionHeld3
import Derived.StillTailTactics
import Derived.Test.YtfjklpgmnakcaaaGreatDoorBae1
import Derived.Test.YtfjklpgmnakcaaaGreatDoorBae8
import Derived.Test.YtfjklpgmnakcaaaGreatDoorBae10
import Derived.Test.YtfjklpgmnakcaaaGreatDoorBae11
import Derived.Test.YtfjklpgmnakcaaaGreatDoorBae14
import Derived.Test.YtfjklpgmnakcaaaGreatDoorBae16
set_option linter.unusedVariables false
set_option maxRecDepth 100000
set_option maxHeartbeats 16000000
namespace Go.Proofs.YtfjklpgmnakcaaaGreatDoor
open Go.RowKit Go.Shelf
attribute [local go_sem] Oper.semAt_some
def putQ (ps : List Pr) (k : Nat) (q : Pr) (j : Nat) : List Pr := if j < k then ps.take j else ps.take k ++ q :: (ps.take j).drop k
theorem putQ_len (ps : List Pr) (k : Nat) (q : Pr) (j : Nat) : (putQ ps k q j).length <= j + 1 := by
  unfold putQ
  split
  . rw [List.length_take]; omega
  rw [List.length_append, List.length_cons, List.length_drop, List.length_take, List.length_take]; omega
theorem putQ_zero (ps : List Pr) (q : Pr) : putQ ps 0 q 0 = [q] := by
  unfold putQ; simp
theorem putQ_start (ps : List Pr) (k : Nat) (q : Pr) (h : 0 < k) : putQ ps k q 0 = [] := by
  unfold putQ; rw [if_pos h, List.take_zero]
theorem putQ_at (ps : List Pr) (j : Nat) (p q : Pr) (h : ps[j]? = some p) : putQ ps (j + 1) q (j + 1) = (putQ ps (j + 1) q j ++ [p]) ++ [q] := by
  have e : ps.take (j + 1) = ps.take j ++ [p] := by rw [List.take_add_one, h]; rfl
  unfold putQ
  rw [if_neg (by omega), if_pos (by omega), List.drop_eq_nil_of_le (by rw [List.length_take]; omega), e]
theorem putQ_on (ps : List Pr) (k j : Nat) (p q : Pr) (h : ps[j]? = some p) (hj : j + 1 ≠ k) : putQ ps k q (j + 1) = putQ ps k q j ++ [p] := by
  have hl := (List.getElem?_eq_some_iff.1 h).1
  have e : ps.take (j + 1) = ps.take j ++ [p] := by rw [List.take_add_one, h]; rfl
  unfold putQ
  by_cases c : j < k
  . rw [if_pos (by omega), if_pos c, e]
  rw [if_neg (by omega), if_neg c, e, List.append_assoc, List.cons_append, List.drop_append, List.length_take, show k - min j ps.length = 0 by omega, List.drop_zero]
theorem putQ_end (ps : List Pr) (k : Nat) (q : Pr) (h : k <= ps.length) : putQ ps k q ps.length = ps.take k ++ q :: ps.drop k := by
  unfold putQ
  rw [if_neg (by omega), List.take_length]
structure AccF (w wr : World) (ob fb : Nat) (cf : Array Value) (v : Value) (ps : List Pr) (nx : Int) : Prop where
  acc : AccQ w wr ob v ps nx
  fr : Cells wr fb 104 cf
  ne : ∀ r, v.ownBlock = some r -> r ≠ fb
  ob : fb ≠ ob
theorem AccF.alloc {w wr : World} {ob fb : Nat} {cf : Array Value} {v : Value} {ps : List Pr} {nx : Int} (h : AccF w wr ob fb cf v ps nx) (o : Obj) : AccF w (wr.alloc o) ob fb cf v ps nx := ⟨h.acc.alloc o, h.fr.alloc o, h.ne, h.ob⟩
theorem AccF.snoc {w wa w6 : World} {ob fb : Nat} {cf : Array Value} {v v' : Value} {ps : List Pr} {nx : Int} {p : Pr} (h : AccF w wa ob fb cf v ps nx)
    (ho : w6.ownsRow 0 104 4 v' (ps.length + 1) (entCells ps ++ entCell p)) (h6 : Cells w6 ob 28 #[v, .int .i64 nx]) (hk : v'.ownBlock = v.ownBlock \/ ∃ k, v'.ownBlock = some k /\ wa.heap.size <= k /\ k < w6.heap.size) (o6 : Only (fun r => some r = v.ownBlock) wa w6) :
    AccF w (w6.setCell ⟨ob, 0, none⟩ v') ob fb cf v' (ps ++ [p]) nx := by
  refine ⟨h.acc.snoc ho h6 hk o6, (h.fr.only o6 (fun e => h.ne fb e.symm rfl)).other (p := ⟨ob, 0, none⟩) h.ob _, fun r hr => ?_, h.ob⟩
  rcases hk with hk | ⟨k, hk, h1, _⟩
  . exact h.ne r (by rw [<- hk]; exact hr)
  rw [hk] at hr
  have : k = r := Option.some.inj hr
  have := h.fr.lt
  omega
theorem AccF.grow {w wa w6 : World} {ob fb : Nat} {cf : Array Value} {v v' : Value} {ps : List Pr} {nx : Int} {p : Pr} (h : AccF w wa ob fb cf v ps nx)
    (ho : w6.ownsRow w.heap.size 104 4 v' (ps.length + 1) (entCells ps ++ entCell p)) (hg : wa.grownBy w6 v.ownBlock) (hk : v'.ownBlock = v.ownBlock \/ v'.ownBlock = some wa.heap.size) :
    AccF w (w6.setCell ⟨ob, 0, none⟩ v') ob fb cf v' (ps ++ [p]) nx := by
  refine ⟨h.acc.grow ho hg, (h.fr.grown hg (fun e => h.ne fb e.symm rfl)).other (p := ⟨ob, 0, none⟩) h.ob _, fun r hr => ?_, h.ob⟩
  rcases hk with hk | hk
  . exact h.ne r (by rw [<- hk]; exact hr)
  rw [hk] at hr
  have : wa.heap.size = r := Option.some.inj hr
  have := h.fr.lt
  omega
theorem gap_yes {es : List En} {id : Int} {kk : Nat} (h : gapR es id = some kk) : findI (findR es id) + 1 = kk /\ kk <= es.length /\ (kk = 0 -> id = 0) := by
  unfold gapR at h
  by_cases h0 : id = 0
  . rw [if_pos h0] at h
    have : findR es id = none := by unfold findR; rw [if_neg (by omega)]
    rw [this]
    cases h
    exact ⟨rfl, Nat.zero_le _, fun _ => h0⟩
  rw [if_neg h0] at h
  cases hf : findR es id with
  | none => rw [hf] at h; cases h
  | some k =>
  rw [hf] at h
  have := (findR_lt hf).1
  simp at h
  exact ⟨by simp [findI]; omega, by omega, fun e => by omega⟩
theorem gap_no {es : List En} {id : Int} (h : gapR es id = none) : findR es id = none /\ id ≠ 0 := by
  unfold gapR at h
  by_cases h0 : id = 0
  . rw [if_pos h0] at h; cases h
  rw [if_neg h0] at h
  refine ⟨?_, h0⟩
  cases hf : findR es id with
  | none => rfl
  | some k => rw [hf] at h; cases h
theorem refInsert_any (ps : List Pr) (v x : Value) (nx id : Int) (fs : List Fld) (w : World) (h : EntsQ w v ps) (hps : ps.length <= 1000000) (hnx : -1000000 <= nx /\ nx <= 1000000) (hx : Flds w x fs) (hfs : Fine7 fs) :
    Calls Tryz.prog 51 #[.agg #[v, .int .i64 nx], .int .i64 id, x] w fun e w' => ∃ v' ps', e = .returned (.tuple #[.agg #[v', .int .i64 (insertR ⟨ps.map Prod.fst, nx⟩ id fs).ls.next], .int .i64 (insertR ⟨ps.map Prod.fst, nx⟩ id fs).id, .int .i64 (insertR ⟨ps.map Prod.fst, nx⟩ id fs).at_, .int .i64 (insertR ⟨ps.map Prod.fst, nx⟩ id fs).bad]) /\ WrQ w v ps x (insertR ⟨ps.map Prod.fst, nx⟩ id fs).ls.es w' v' ps' := by
  obtain ⟨i0, hi, hz0, hz1, hz2⟩ := info_parts infoQ
  rw [insertR_W]
  dsimp only
  obtain ⟨A, cap, rfl, hle⟩ := h.empty
  obtain ⟨xa, xc, rfl, _, _⟩ := _root_.id hx
  obtain ⟨W, hW⟩ : ∃ W, W = (w.alloc (.cells #[.slice A ps.length cap, .int .i64 nx] 28)).alloc (.cells #[.slice none 0 0, .int .i64 0] 28) := ⟨_, rfl⟩
  have hbW : Below w.heap.size w W := by rw [hW]; exact ((Below.refl _ w).alloc (Nat.le_refl _) _).alloc (by simp) _
  have hzW : W.heap.size = w.heap.size + 2 := by rw [hW]; simp
  have C0 : Cells W w.heap.size 28 #[.slice A ps.length cap, .int .i64 nx] := by rw [hW]; exact (Cells.new _ _ _).alloc _
  have C1 : Cells W (w.heap.size + 1) 28 #[.slice none 0 0, .int .i64 0] := by
    rw [hW]; have := Cells.new (w.alloc (.cells #[.slice A ps.length cap, .int .i64 nx] 28)) 28 #[.slice none 0 0, .int .i64 0]
    simpa using this
  have H0 := Lib.hid h
  have HX := Lib.hid hx
  have FN := Lib.hid (refFind_any ps (.slice A ps.length cap) nx id W (h.below hbW (Nat.le_refl _)) hps)
  have HBW := Lib.hid hbW
  have HC0 := Lib.hid C0
  have HC1 := Lib.hid C1
  have HT : Hid (∀ w1, Below W.heap.size W w1 -> Cells w1 w.heap.size 28 #[.slice A ps.length cap, .int .i64 nx] /\ Cells w1 (w.heap.size + 1) 28 #[.slice none 0 0, .int .i64 0] /\ Below w.heap.size w w1 /\ w.heap.size + 2 <= w1.heap.size) := fun w1 b1 =>
    ⟨cells_kept HC0.out b1 (by omega), cells_kept HC1.out b1 (by omega), HBW.out.trans (b1.mono (by omega)), by have := b1.size; omega⟩
  have RET : Hid (∀ w1, Below W.heap.size W w1 -> Cells ((w1.setCell ⟨w.heap.size + 1, 0, none⟩ (.slice A ps.length cap)).setCell ⟨w.heap.size + 1, 1, none⟩ (.int .i64 nx)) (w.heap.size + 1) 28 #[.slice A ps.length cap, .int .i64 nx] /\ Below w.heap.size w ((w1.setCell ⟨w.heap.size + 1, 0, none⟩ (.slice A ps.length cap)).setCell ⟨w.heap.size + 1, 1, none⟩ (.int .i64 nx))) := fun w1 b1 => by
    obtain ⟨_, D1, hb1, _⟩ := HT.out w1 b1
    have RE := (D1.set 0 (.slice A ps.length cap)).set 1 (.int .i64 nx)
    rw [set2] at RE
    exact ⟨RE, (hb1.setCell (p := ⟨w.heap.size + 1, 0, none⟩) (Nat.le_succ _) _).setCell (p := ⟨w.heap.size + 1, 1, none⟩) (Nat.le_succ _) _⟩
  clear C0 C1 h hbW hzW hx
  subst hW
  cases hg : gapR (ps.map Prod.fst) id with
  | none =>
    obtain ⟨hf, hid0⟩ := gap_no hg
    rw [hf] at FN
    dsimp only [findI] at FN
    have hne : (id != 0) = true := bne_iff_ne.2 hid0
    clear hf hg hid0
    unfold insertW
    dsimp only
    go_enter Tryz.func51, Tryz.ntmps51
    go_wp2_with fail
    refine FN.out.mono ?_
    rintro e w1 ⟨rfl, b1⟩
    obtain ⟨D0, D1, hb1, hzz⟩ := HT.out w1 b1
    obtain ⟨RE, HB⟩ := RET.out w1 b1
    have c0 := D0.cell 0
    have c1 := D0.cell 1
    have r0 := D1.cell 0
    have r1 := D1.cell 1
    have f0 := D1.frozen 0
    have f1 := D1.frozen 1
    simp only [List.getElem?_toArray, List.getElem?_cons_zero, List.getElem?_cons_succ] at c0 c1 r0 r1
    have HRE := Lib.hid RE
    have HHB := Lib.hid HB
    clear FN b1 hb1 D0 D1 RE HB
    go_wp2_with fail
    refine bodyPost_ret (ret_q4 rfl _ _ (w.heap.size + 1) _ rfl HRE.out rfl) rfl ?_
    exact ⟨_, ps, rfl, .same H0.out rfl HHB.out⟩
  | some kk =>
  obtain ⟨hki, hkl, hk0⟩ := gap_yes hg
  rw [List.length_map] at hkl
  generalize findI (findR (ps.map Prod.fst) id) = ki at *
  have T2 : Hid ((ki < 0 /\ id = 0 /\ kk = 0) \/ (¬ ki < 0 /\ 0 < kk)) := by
    rcases Nat.eq_zero_or_pos kk with q | q
    . exact .inl ⟨by omega, hk0 q, q⟩
    exact .inr ⟨by omega, q⟩
  have HKI := Lib.hid hki
  have hkb : -1 <= ki /\ ki <= 1000000 := ⟨by omega, by omega⟩
  clear hg hk0 hki
  by_cases hb : chkN fs = 0
  . have CK : Hid (∀ w1, Flds w1 (.slice xa fs.length xc) fs -> Calls Tryz.prog 74 #[.slice xa fs.length xc] w1 fun e w' => e = .returned (.tuple #[.int .i64 (chkAt fs), .int .i64 0]) /\ Below w1.heap.size w1 w') := fun w1 h1 => by
      have := refChk_any fs _ w1 h1 (by have := hfs.len; omega) (fun f hf => by have := hfs.each f hf; omega)
      rw [hb] at this; exact this
    have LN : Hid (∀ w1, EntsQ w1 (.slice A ps.length cap) ps -> Calls Tryz.prog 76 #[.agg #[.slice A ps.length cap, .int .i64 nx]] w1 fun e w' => e = .returned (.int .i64 (lenR (ps.map Prod.fst) : Nat)) /\ Below w1.heap.size w1 w') := fun w1 h1 => refLen_any ps _ nx w1 h1 hps
    obtain ⟨T, hT⟩ : ∃ T, T = chkAt fs := ⟨_, rfl⟩
    rw [<- hT] at CK
    have hln : lenR (ps.map Prod.fst) <= 1000000 := by have := lenR_le (ps.map Prod.fst); rw [List.length_map] at this; omega
    by_cases hfull : 400 <= lenR (ps.map Prod.fst)
    . rw [decide_eq_true hfull, insertW_full hb]
      dsimp only
      clear hT hb
      generalize lenR (ps.map Prod.fst) = len at *
      rcases T2.out with ⟨t1, rfl, t3⟩ | ⟨t1, t3⟩
      all_goals
        clear T2 t3
        go_enter Tryz.func51, Tryz.ntmps51
        go_wp2_with fail
        refine FN.out.mono ?_
        rintro e w1 ⟨rfl, b1⟩
        obtain ⟨D0, D1, hb1, hzz⟩ := HT.out w1 b1
        have CK1 := Lib.hid (CK.out w1 (HX.out.below hb1 (Nat.le_refl _)))
        have B1 := Lib.hid b1
        clear FN b1 hb1 D0 D1
        go_wp2_with fail
        refine CK1.out.mono ?_
        rintro e w2 ⟨rfl, b2⟩
        have B2 := Lib.hid (B1.out.trans (b2.mono B1.out.size))
        obtain ⟨D0, D1, hb1, hzz2⟩ := HT.out w2 B2.out
        have LN1 := Lib.hid (LN.out w2 (H0.out.below hb1 (Nat.le_refl _)))
        have c0 : w2.cell? ⟨w.heap.size, 0, none⟩ = some (.slice A ps.length cap) := D0.cell 0
        have c1 : w2.cell? ⟨w.heap.size, 1, none⟩ = some (.int .i64 nx) := D0.cell 1
        clear CK1 b2 hb1 D0 D1
        go_wp2_with fail
        refine LN1.out.mono ?_
        rintro e w3 ⟨rfl, b3⟩
        have b3' := B2.out.trans (b3.mono B2.out.size)
        obtain ⟨D0, D1, hb1, hzz3⟩ := HT.out w3 b3'
        obtain ⟨RE, HB⟩ := RET.out w3 b3'
        have d0 := D0.cell 0
        have d1 := D0.cell 1
        have r0 := D1.cell 0
        have r1 := D1.cell 1
        have f0 := D1.frozen 0
        have f1 := D1.frozen 1
        simp only [List.getElem?_toArray, List.getElem?_cons_zero, List.getElem?_cons_succ] at d0 d1 r0 r1
        have HRE := Lib.hid RE
        have HHB := Lib.hid HB
        have hge : (400 : Int) <= (len : Int) := by omega
        clear LN1 b3 b3' hb1 D0 D1 RE HB c0 c1
        go_wp2_with fail
        refine bodyPost_ret (ret_q4 rfl _ _ (w.heap.size + 1) _ rfl HRE.out rfl) rfl ?_
        exact ⟨_, ps, rfl, .same H0.out rfl HHB.out⟩
    rw [decide_eq_false hfull, insertW_yes hb]
    dsimp only
    have IT : Hid (∀ w1, Flds w1 (.slice xa fs.length xc) fs -> Calls Tryz.prog 75 #[.slice xa fs.length xc] w1 fun e w' => e = .returned (.agg #[.int .i64 3, .string (B (foldG fs)), .slice xa fs.length xc]) /\ Below w1.heap.size w1 w') := fun w1 h1 =>
      refItem_any fs xa _ xc w1 h1 hfs.len hfs.each
    obtain ⟨G, hG⟩ : ∃ G, G = foldG fs := ⟨_, rfl⟩
    have HG := Lib.hid hG
    rw [<- hG] at IT
    obtain ⟨q, hq⟩ : ∃ q : Pr, q = ((itemOf fs, nx), .slice xa fs.length xc) := ⟨_, rfl⟩
    have HQ := Lib.hid hq
    have HCQ : Hid (entCell q = [.int .i64 3, .string (B G), .slice xa fs.length xc, .int .i64 nx]) := by show _ = _; rw [hq, hG]; rfl
    have hnw : IntKind.i64.wrap (nx + 1) = nx + 1 := IntWalk.i64_in _ (by omega)
    have HNW := Lib.hid hnw
    generalize hlr : lenR (ps.map Prod.fst) = len at *
    clear hT hb hG hq hnw hlr
    have hge : ¬ (400 : Int) <= (len : Int) := by omega
    go_enter Tryz.func51, Tryz.ntmps51
    go_wp2_with fail
    refine FN.out.mono ?_
    rintro e w1 ⟨rfl, b1⟩
    obtain ⟨D0, D1, hb1, hzz⟩ := HT.out w1 b1
    have CK1 := Lib.hid (CK.out w1 (HX.out.below hb1 (Nat.le_refl _)))
    have B1 := Lib.hid b1
    clear FN b1 hb1 D0 D1
    go_upto_region 2 with fail
    go_cut [24] (fun c wx => c = .bool false /\ wx = w1)
    case first =>
      rcases T2.out with ⟨t1, rfl, t3⟩ | ⟨t1, t3⟩
      all_goals
        clear T2 t3
        go_wp2_with fail
        go_meet
        exact ⟨rfl, rfl⟩
    case rest =>
    obtain ⟨rfl, rfl⟩ := hcut
    go_wp2_with fail
    refine CK1.out.mono ?_
    rintro e w2 ⟨rfl, b2⟩
    have B2 := Lib.hid (B1.out.trans (b2.mono B1.out.size))
    obtain ⟨D0, D1, hb1, hzz2⟩ := HT.out w2 B2.out
    have LN1 := Lib.hid (LN.out w2 (H0.out.below hb1 (Nat.le_refl _)))
    have c0 : w2.cell? ⟨w.heap.size, 0, none⟩ = some (.slice A ps.length cap) := D0.cell 0
    have c1 : w2.cell? ⟨w.heap.size, 1, none⟩ = some (.int .i64 nx) := D0.cell 1
    clear CK1 b2 hb1 D0 D1
    go_wp2_with fail
    refine LN1.out.mono ?_
    rintro e w3 ⟨rfl, b3⟩
    have b3' := B2.out.trans (b3.mono B2.out.size)
    obtain ⟨D0, D1, hb3, hzz3⟩ := HT.out w3 b3'
    have d1 : w3.cell? ⟨w.heap.size, 1, none⟩ = some (.int .i64 nx) := D0.cell 1
    have HD0 := Lib.hid D0
    have HD1 := Lib.hid D1
    have HB3 := Lib.hid hb3
    have H1 := Lib.hid (H0.out.below hb3 (Nat.le_refl _))
    have HX1 := Lib.hid (HX.out.below hb3 (Nat.le_refl _))
    clear LN1 b3 b3' D0 D1 hb3 c0 c1 CK LN RET
    go_upto_region 10 with fail
    go_cut [14] (fun fv wx => ∃ fb : Nat, fv = .pointer (some ⟨fb, 0, none⟩) /\ w3.heap.size < fb /\ AccQ w3 wx w3.heap.size (.slice none 0 0) [] (nx + 1) /\ Cells wx fb 104 #[.int .i64 3, .string (B G), .slice xa fs.length xc, .int .i64 nx])
    case first =>
      obtain ⟨w4, hw4⟩ : ∃ w4, w4 = w3.alloc (.cells #[.slice none 0 0, .int .i64 (nx + 1)] 28) := ⟨_, rfl⟩
      have A4 := AccQ.start w3 (nx + 1)
      have D4 : Cells w4 w.heap.size 28 #[.slice A ps.length cap, .int .i64 nx] := by rw [hw4]; exact HD0.out.alloc _
      rw [<- hw4] at A4 ⊢
      have hz4 : w4.heap.size = w3.heap.size + 1 := by rw [hw4]; simp
      clear hw4 d1
      obtain ⟨z0, hz0'⟩ : ∃ z0, z0 = Obj.cells #[.int .i64 0, .string ⟨#[]⟩, .slice none 0 0, .int .i64 0] 104 := ⟨_, rfl⟩
      have D4z : Cells (w4.alloc z0) w4.heap.size 104 #[.int .i64 0, .string ⟨#[]⟩, .slice none 0 0, .int .i64 0] := by rw [hz0']; exact Cells.new _ _ _
      have HXa := Lib.hid (HX1.out.below (A4.below.drew) (Nat.le_refl _))
      have HXb := Lib.hid (HX1.out.below ((A4.alloc z0).below.drew) (Nat.le_refl _))
      have AA := Lib.hid A4.drew
      have AZ := Lib.hid (A4.alloc z0).drew
      have hlt4 := A4.head.lt
      have hwlt : w.heap.size < w4.heap.size := D4.lt
      have HDA := Lib.hid D4
      have HDB := Lib.hid D4.drew
      have HDZ := Lib.hid (D4.alloc z0).drew
      have HZZ := Lib.hid D4z.drew
      have hzz : Hid ((w4.alloc z0).heap.size = w4.heap.size + 1) := by show _ = _; simp
      have d1 : w4.cell? ⟨w.heap.size, 1, none⟩ = some (.int .i64 nx) := D4.cell 1
      have d1' : ∀ o, (w4.alloc o).cell? ⟨w.heap.size, 1, none⟩ = some (.int .i64 nx) := fun o => (HDA.out.alloc o).cell 1
      have HZ4 := Lib.hid hz4
      have hz4' : w3.heap.size < w4.heap.size := by omega
      clear A4 D4 D4z hz4
      subst hz0'
      go_region_law (go_simp; go_at_call 75; first
        | (refine (IT.out _ HXa.out).mono ?_; rintro e w5 ⟨rfl, b5⟩; have hz5 : w4.heap.size <= w5.heap.size := b5.size; have A5 := Lib.hid (AA.out.kept b5); have e1 : w5.cell? ⟨w.heap.size, 1, none⟩ = some (.int .i64 nx) := (cells_kept HDB.out b5 hwlt).cell 1; have e1' : ∀ o, (w5.alloc o).cell? ⟨w.heap.size, 1, none⟩ = some (.int .i64 nx) := fun o => ((cells_kept HDB.out b5 hwlt).alloc o).cell 1)
        | (refine (IT.out _ HXb.out).mono ?_; rintro e w5 ⟨rfl, b5⟩; have A5 := Lib.hid (AZ.out.kept b5); have e1 : w5.cell? ⟨w.heap.size, 1, none⟩ = some (.int .i64 nx) := (cells_kept HDZ.out b5 (by show _ < (w4.alloc _).heap.size; rw [hzz.out]; omega)).cell 1; have BX := Lib.hid (cells_kept HZZ.out b5 (by show _ < (w4.alloc _).heap.size; rw [hzz.out]; omega)); have t0 := BX.out.cell 0; have t1 := BX.out.cell 1; have t2 := BX.out.cell 2; have t3 := BX.out.cell 3; simp only [List.getElem?_toArray, List.getElem?_cons_zero, List.getElem?_cons_succ] at t0 t1 t2 t3; have f0 := BX.out.frozen 0; have f1 := BX.out.frozen 1; have f2 := BX.out.frozen 2; have f3 := BX.out.frozen 3))
      all_goals (try go_wp2_with fail)
      all_goals first
        | (go_meet; exact ⟨w5.heap.size, rfl, by omega, A5.out.alloc _, Cells.new _ _ _⟩)
        | (go_meet; refine ⟨w4.heap.size, rfl, hz4', (((A5.out.other (b := w4.heap.size) 0 _ (by omega) (by omega) (fun r e => by cases e)).other (b := w4.heap.size) 1 _ (by omega) (by omega) (fun r e => by cases e)).other (b := w4.heap.size) 2 _ (by omega) (by omega) (fun r e => by cases e)).other (b := w4.heap.size) 3 _ (by omega) (by omega) (fun r e => by cases e), ?_⟩; have := (((BX.out.set 0 (.int .i64 3)).set 1 (.string (B G))).set 2 (.slice xa fs.length xc)).set 3 (.int .i64 nx); rw [set4] at this; exact this)
    case rest =>
    obtain ⟨fb, rfl, hfb, hacc, hfr⟩ := hcut
    have ACC := Lib.hid (show AccF w3 wc w3.heap.size fb #[.int .i64 3, .string (B G), .slice xa fs.length xc, .int .i64 nx] (.slice none 0 0) [] (nx + 1) from ⟨hacc, hfr, (fun r e => by cases e), Nat.ne_of_gt hfb⟩)
    clear hacc hfr d1
    go_upto_if 50 with fail
    go_cut [] (fun wx => ∃ u, AccF w3 wx w3.heap.size fb #[.int .i64 3, .string (B G), .slice xa fs.length xc, .int .i64 nx] u (putQ ps kk q 0) (nx + 1))
    case first =>
      rcases T2.out with ⟨t1, -, t3⟩ | ⟨t1, t3⟩
      . have hrow : wc.ownsRow w3.heap.size 104 4 (.slice none 0 0) 0 [] := ACC.out.acc.row
        have f0 := ACC.out.fr.cell 0
        have f1 := ACC.out.fr.cell 1
        have f2 := ACC.out.fr.cell 2
        have f3 := ACC.out.fr.cell 3
        simp only [List.getElem?_toArray, List.getElem?_cons_zero, List.getElem?_cons_succ] at f0 f1 f2 f3
        have k0 : wc.cell? ⟨w3.heap.size, 0, none⟩ = some (.slice none 0 0) := ACC.out.acc.head.cell 0
        have hbz := ACC.out.acc.below.size
        have AL := Lib.hid (ACC.out.alloc (.cells #[.int .i64 3, .string (B G), .slice xa fs.length xc, .int .i64 nx] 104))
        have HV := Lib.hid (cells_new_add wc 104 [.int .i64 3, .string (B G), .slice xa fs.length xc, .int .i64 nx])
        have PZ : Hid (putQ ps kk q 0 = [q]) := by show _ = _; rw [t3]; exact putQ_zero ps q
        clear T2 t3
        go_wp2_with (at_builtin; refine wpList_append_at rfl _ _ 26 rfl w3.heap.size 104 i0 _ 4 56 Tryz.underlying26 hi hz0 hz1 hz2 rfl (by decide) _ _ _ rfl (hrow.alloc _) ⟨wc.heap.size, 0, none⟩ 1 1 _ rfl rfl HV.out (by intro u hu; simp at hu; rcases hu with rfl | rfl | rfl | rfl <;> rfl) (by unfold maxLen; omega) (by omega) (by first | omega | (simp only [World.size_alloc]; omega) | (simp [World.setCell]; omega)) ?_)
        intro v' w6 hown' hgrow hbk
        have h6 := (AL.out.acc.grown_head hgrow)
        have acc6 := Lib.hid (AL.out.grow (p := q) (by rw [HCQ.out]; exact hown') hgrow (by rw [World.size_alloc]; exact hbk.out))
        have k6 : w6.cell? ⟨w3.heap.size, 0, none⟩ = some (.slice none 0 0) := h6.cell 0
        have kf6 := h6.frozen 0
        obtain ⟨g', cap6, rfl⟩ := ownsRow_succ hown'
        clear hown' hgrow h6 hbk
        go_wp2_with fail
        go_meet
        exact ⟨_, by rw [PZ.out]; exact acc6.out⟩
      have PZ : Hid (putQ ps kk q 0 = []) := putQ_start ps kk q t3
      clear T2 t3
      go_wp2_with fail
      go_meet
      exact ⟨_, by rw [PZ.out]; exact ACC.out⟩
    case rest =>
    obtain ⟨u0, hacc0⟩ := hcut
    have ACC0 := Lib.hid hacc0
    clear hacc0 ACC
    go_wp2_with fail
    go_loopw [15] (fun i wr => ∃ (j : Nat) (u : Value), j <= ps.length /\ i = .int .i64 j /\ AccF w3 wr w3.heap.size fb #[.int .i64 3, .string (B G), .slice xa fs.length xc, .int .i64 nx] u (putQ ps kk q j) (nx + 1)) (fun i _ => ps.length - (intOf i).toNat)
    case atStart => exact ⟨0, u0, Nat.zero_le _, rfl, ACC0.out⟩
    case round =>
    obtain ⟨j, u, hj, rfl, hacc⟩ := hrel
    have hb := hacc.acc.below
    have hlw := hb.size
    have e0 : wr.cell? ⟨w.heap.size, 0, none⟩ = some (.slice A ps.length cap) := (cells_kept HD0.out hb (by omega)).cell 0
    obtain ⟨ua, uc, rfl, _⟩ := own_slice hacc.acc.row
    by_cases hlt : j < ps.length
    . obtain ⟨p, hp⟩ : ∃ p, ps[j]? = some p := ⟨_, List.getElem?_eq_getElem hlt⟩
      have hcl := putQ_len ps kk q j
      obtain ⟨g, cap', pa, pc, e1, _, hg, e2, d0, d1, d2, d3⟩ := (H1.out.below hb (Nat.le_refl _)).here hp
      cases e1
      rw [e2] at d2
      have PA := Lib.hid (fun (h : j + 1 = kk) => show putQ ps kk q (j + 1) = (putQ ps kk q j ++ [p]) ++ [q] from h ▸ putQ_at ps j p q hp)
      have PO := Lib.hid (fun (h : j + 1 ≠ kk) => putQ_on ps kk j p q hp h)
      have g0 : wr.cell? ⟨w3.heap.size, 0, none⟩ = some (.slice ua (putQ ps kk q j).length uc) := hacc.acc.head.cell 0
      have g1 : ∀ o, (wr.alloc o).cell? ⟨w3.heap.size, 0, none⟩ = some (.slice ua (putQ ps kk q j).length uc) := fun o => (hacc.acc.head.alloc o).cell 0
      have ACC := Lib.hid hacc
      have HO := Lib.hid (rowBase hacc.acc.row (Nat.zero_le _))
      have HNE := Lib.hid hacc.acc.ne
      have HHD := Lib.hid hacc.acc.head
      have E2 := Lib.hid e2
      generalize hcq : putQ ps kk q j = cq at *
      clear hacc hp hb hcq e2
      go_wp2_with fail
      go_region_law (refine step_append_own rfl (.tmp 65) (.tmp 71) 26 rfl 104 i0 _ 4 56 Tryz.underlying26 hi hz0 hz1 hz2 rfl (by decide) (.slice ua cq.length uc) cq.length (entCells cq) (by simp [Act.eval]) (by exact (HO.out.alloc _).drew) ⟨wr.heap.size, 0, none⟩ 1 1 [.int .i64 p.1.1.kind, .string (B p.1.1.raw), .slice pa p.1.1.fields.length pc, .int .i64 p.1.2] (by simp [Act.eval]) rfl (cells_new_add wr 104 [.int .i64 p.1.1.kind, .string (B p.1.1.raw), .slice pa p.1.1.fields.length pc, .int .i64 p.1.2]) (by intro u hu; simp at hu; rcases hu with rfl | rfl | rfl | rfl <;> rfl) (by unfold maxLen; omega) (by omega) ?_; intro v' w' ho hgr hbk; obtain ⟨⟨g', cap', rfl⟩, hg', hbx, hkk, hon⟩ := appended HHD.out HO.out HNE.out (((Below.refl _ wr).alloc (Nat.le_refl _) _).drew) ho hgr hbk; have k0 : w'.cell? ⟨w3.heap.size, 0, none⟩ = some (.slice ua cq.length uc) := hg'.cell 0; have kf0 := hg'.frozen 0)
      all_goals
        have acc2 := ACC.out.snoc (p := p) (by unfold entCell; rw [E2.out]; exact ho) hg' hkk hon
        have ACC2 := Lib.hid acc2
        clear acc2 ACC HO HNE HHD ho hg' hkk hon hbx hgr hbk g0 g1 e0 d0 d1 d2 d3
        by_cases hjk : j + 1 = kk
        . have hq : ((j : Int) == ki) = true := by have := HKI.out; exact beq_iff_eq.2 (by omega)
          have PA2 := Lib.hid (PA.out hjk)
          clear hjk PO PA
          obtain ⟨wv, hwv⟩ : ∃ wv, wv = w'.setCell ⟨w3.heap.size, 0, none⟩ (.slice (some ⟨g', 0, none⟩) (cq.length + 1) cap') := ⟨_, rfl⟩
          rw [<- hwv] at ACC2 ⊢
          clear hwv k0 kf0
          have hln2 : (cq ++ [p]).length = cq.length + 1 := by simp
          have HLN2 := Lib.hid hln2
          have hrow := ACC2.out.acc.row
          rw [hln2] at hrow
          have f0 := ACC2.out.fr.cell 0
          have f1 := ACC2.out.fr.cell 1
          have f2 := ACC2.out.fr.cell 2
          have f3 := ACC2.out.fr.cell 3
          simp only [List.getElem?_toArray, List.getElem?_cons_zero, List.getElem?_cons_succ] at f0 f1 f2 f3
          have k0 : wv.cell? ⟨w3.heap.size, 0, none⟩ = some (.slice (some ⟨g', 0, none⟩) (cq.length + 1) cap') := ACC2.out.acc.head.cell 0
          have hbz := ACC2.out.acc.below.size
          have hob := ACC2.out.acc.head.lt
          have hfl := ACC2.out.fr.lt
          have AL := Lib.hid (ACC2.out.alloc (.cells #[.int .i64 3, .string (B G), .slice xa fs.length xc, .int .i64 nx] 104))
          have HV := Lib.hid (cells_new_add wv 104 [.int .i64 3, .string (B G), .slice xa fs.length xc, .int .i64 nx])
          clear hln2 ACC2
          go_wp2_with (at_builtin; refine wpList_append_at rfl _ _ 26 rfl w3.heap.size 104 i0 _ 4 56 Tryz.underlying26 hi hz0 hz1 hz2 rfl (by decide) _ _ _ rfl (hrow.alloc _) ⟨wv.heap.size, 0, none⟩ 1 1 _ rfl rfl HV.out (by intro u hu; simp at hu; rcases hu with rfl | rfl | rfl | rfl <;> rfl) (by unfold maxLen; omega) (by omega) (by first | omega | (simp only [World.size_alloc]; omega) | (simp [World.setCell]; omega)) ?_)
          intro v' w6 hown' hgrow hbk
          have h6 := (AL.out.acc.grown_head hgrow)
          have acc6 := Lib.hid (AL.out.grow (p := q) (by rw [HCQ.out, HLN2.out]; exact hown') hgrow (by rw [World.size_alloc]; exact hbk.out))
          have k6 : w6.cell? ⟨w3.heap.size, 0, none⟩ = some (.slice (some ⟨g', 0, none⟩) (cq.length + 1) cap') := h6.cell 0
          have kf6 := h6.frozen 0
          obtain ⟨g6, cap6, rfl⟩ := ownsRow_succ hown'
          clear hown' hgrow h6 hbk
          go_wp2_with fail
          go_roundw
          case rel => exact ⟨j + 1, _, hlt, by go_num, by rw [PA2.out]; exact acc6.out⟩
          case measure => simp [intOf]; omega
        have hq : ((j : Int) == ki) = false := by have := HKI.out; exact beq_eq_false_iff_ne.2 (by omega)
        have PO2 := Lib.hid (PO.out hjk)
        clear hjk PO PA
        go_wp2_with fail
        go_roundw
        case rel => exact ⟨j + 1, _, hlt, by go_num, by rw [PO2.out]; exact ACC2.out⟩
        case measure => simp [intOf]; omega
    obtain rfl : j = ps.length := by omega
    have HMAP : Hid ((ps.take kk ++ q :: ps.drop kk).map Prod.fst = putE (ps.map Prod.fst) kk (itemOf fs, nx)) := by
      show _ = _
      rw [HQ.out]; exact putE_map ps kk _ _
    have HMEM : Hid (∀ p ∈ ps.take kk ++ q :: ps.drop kk, p ∈ ps \/ (p.2 = .slice xa fs.length xc /\ p.1.1.fields = fs)) := fun p hp => by
      rcases List.mem_append.1 hp with h | h
      . exact .inl (List.mem_of_mem_take h)
      rcases List.mem_cons.1 h with h | h
      . right; rw [h, HQ.out]; exact ⟨rfl, rfl⟩
      exact .inl (List.mem_of_mem_drop h)
    rw [putQ_end ps kk q hkl] at *
    generalize ps.take kk ++ q :: ps.drop kk = L at *
    have D1 := cells_kept HD1.out hb (by omega)
    have D0 := cells_kept HD0.out hb (by omega)
    have G1 : wr.cell? ⟨w3.heap.size, 1, none⟩ = some (.int .i64 (nx + 1)) := hacc.acc.head.cell 1
    have G0 : wr.cell? ⟨w3.heap.size, 0, none⟩ = some (.slice ua L.length uc) := hacc.acc.head.cell 0
    have N1 : wr.cell? ⟨w.heap.size, 1, none⟩ = some (.int .i64 nx) := D0.cell 1
    have r0 := D1.cell 0
    have r1 := D1.cell 1
    have f0 := D1.frozen 0
    have f1 := D1.frozen 1
    simp only [List.getElem?_toArray, List.getElem?_cons_zero, List.getElem?_cons_succ] at r0 r1
    have RE := (D1.drew.set 0 (.slice ua L.length uc)).set 1 (.int .i64 (nx + 1))
    rw [set2] at RE
    have HRE := Lib.hid RE
    have ACC := Lib.hid hacc.acc.drew
    clear hacc hb D1 D0 RE
    go_wp2_with fail
    go_region_law (skip)
    all_goals go_wp2_with fail
    all_goals
      refine bodyPost_ret (ret_q4 rfl _ _ (w.heap.size + 1) _ rfl HRE.out rfl) rfl ?_
      refine ⟨_, L, rfl, ?_⟩
      exact ACC.out.end_ HB3.out H0.out HX.out HMAP.out HMEM.out (Nat.le_succ _) (by omega) 0 1 _ _
  rw [insertW_no hb]
  dsimp only
  have hbb : (((chkN fs : Nat) : Int) != 0) = true := bne_iff_ne.2 (by omega)
  have hat : chkN fs <= 11 := chkN_le fs
  obtain ⟨N, hN⟩ : ∃ N, N = chkN fs := ⟨_, rfl⟩
  obtain ⟨T, hT⟩ : ∃ T, T = chkAt fs := ⟨_, rfl⟩
  have CK : Hid (∀ w1, Flds w1 (.slice xa fs.length xc) fs -> Calls Tryz.prog 74 #[.slice xa fs.length xc] w1 fun e w' => e = .returned (.tuple #[.int .i64 T, .int .i64 (N : Nat)]) /\ Below w1.heap.size w1 w') := fun w1 h1 => by
    rw [hN, hT]; exact refChk_any fs _ w1 h1 (by have := hfs.len; omega) (fun f hf => by have := hfs.each f hf; omega)
  rw [<- hN] at hbb hat ⊢
  rw [<- hT]
  clear hb hN hT
  rcases T2.out with ⟨t1, rfl, t3⟩ | ⟨t1, t3⟩
  all_goals
    clear T2 t3
    go_enter Tryz.func51, Tryz.ntmps51
    go_wp2_with fail
    refine FN.out.mono ?_
    rintro e w1 ⟨rfl, b1⟩
    obtain ⟨D0, D1, hb1, hzz⟩ := HT.out w1 b1
    have CK1 := Lib.hid (CK.out w1 (HX.out.below hb1 (Nat.le_refl _)))
    have B1 := Lib.hid b1
    clear FN b1 hb1 D0 D1
    go_wp2_with fail
    refine CK1.out.mono ?_
    rintro e w2 ⟨rfl, b2⟩
    have b2' := B1.out.trans (b2.mono B1.out.size)
    obtain ⟨D0, D1, hb1, hzz2⟩ := HT.out w2 b2'
    obtain ⟨RE, HB⟩ := RET.out w2 b2'
    have c0 := D0.cell 0
    have c1 := D0.cell 1
    have r0 := D1.cell 0
    have r1 := D1.cell 1
    have f0 := D1.frozen 0
    have f1 := D1.frozen 1
    simp only [List.getElem?_toArray, List.getElem?_cons_zero, List.getElem?_cons_succ] at c0 c1 r0 r1
    have HRE := Lib.hid RE
    have HHB := Lib.hid HB
    clear CK1 b2 b2' hb1 D0 D1 RE HB
    go_wp2_with fail
    refine bodyPost_ret (ret_q4 rfl _ _ (w.heap.size + 1) _ rfl HRE.out rfl) rfl ?_
    exact ⟨_, ps, rfl, .same H0.out rfl HHB.out⟩
end Go.Proofs.YtfjklpgmnakcaaaGreatDoor
namespace Go.Proofs.YtfjklpgmnakcaaaGreatDoor
open Go.RowKit Go.Shelf
end Go.Proofs.YtfjklpgmnakcaaaGreatDoor
namespace Go.Proofs.YtfjklpgmnakcaaaGreatDoor
open Go.RowKit Go.Shelf
def BlkR (lb : Nat) (ev : Value) (ps : List Pr) (v : Value) (qs : List Pr) (r : Nat) : Prop :=
  r = lb \/ ev.ownBlock = some r \/ v.ownBlock = some r \/ (∃ p ∈ ps, p.1.1.fields ≠ [] /\ p.2.ownBlock = some r) \/ (∃ p ∈ qs, p.1.1.fields ≠ [] /\ p.2.ownBlock = some r)
structure StR (w : World) (lb : Nat) (ev : Value) (ps : List Pr) (nx : Int) (v : Value) (qs : List Pr) : Prop where
  la : LA w lb ev ps nx
  q : EntsQ w v qs
  va : ∀ b, v.ownBlock = some b -> b ≠ lb /\ ev.ownBlock ≠ some b
  qa : ∀ p ∈ qs, p.1.1.fields ≠ [] -> ∀ b, p.2.ownBlock = some b -> b ≠ lb /\ ev.ownBlock ≠ some b
theorem EntsQ.only {w w' : World} {v : Value} {ps : List Pr} {S : Nat -> Prop} (h : EntsQ w v ps) (g : Only S w w') (h1 : ∀ b, v.ownBlock = some b -> ¬ S b) (h2 : ∀ p ∈ ps, p.1.1.fields ≠ [] -> ∀ b, p.2.ownBlock = some b -> ¬ S b) : EntsQ w' v ps :=
  ⟨row_only h.row g h1, fun p hp => (h.each p hp).only g (fun hne b hb => h2 p hp hne b hb)⟩
theorem StR.lt {w : World} {lb : Nat} {ev : Value} {ps : List Pr} {nx : Int} {v : Value} {qs : List Pr} (h : StR w lb ev ps nx v qs) {r : Nat} (hr : BlkR lb ev ps v qs r) : r < w.heap.size := by
  rcases hr with rfl | hr | hr | ⟨p, hp, hne, hb⟩ | ⟨p, hp, hne, hb⟩
  . exact h.la.lr.head.lt
  . exact (h.la.lr.ents.row.lt r hr).2
  . exact (h.q.row.lt r hr).2
  . exact (h.la.lr.ents.each p hp).1.lt hne r hb
  exact (h.q.each p hp).lt hne r hb
theorem StR.only {w w' : World} {lb : Nat} {ev : Value} {ps : List Pr} {nx : Int} {v : Value} {qs : List Pr} {S : Nat -> Prop} (h : StR w lb ev ps nx v qs) (g : Only S w w') (hs : ∀ r, BlkR lb ev ps v qs r -> ¬ S r) : StR w' lb ev ps nx v qs := by
  refine ⟨⟨⟨h.la.lr.head.only g (hs lb (.inl rfl)), ⟨row_only h.la.lr.ents.row g (fun b hb => hs b (.inr (.inl hb))), fun p hp => (h.la.lr.ents.each p hp).only g (fun hne b hb => hs b (.inr (.inr (.inr (.inl ⟨p, hp, hne, hb⟩)))))⟩⟩, h.la.apart⟩, ?_, h.va, h.qa⟩
  exact h.q.only g (fun b hb => hs b (.inr (.inr (.inl hb)))) (fun p hp hne b hb => hs b (.inr (.inr (.inr (.inr ⟨p, hp, hne, hb⟩)))))
end Go.Proofs.YtfjklpgmnakcaaaGreatDoor
namespace Go.Proofs.YtfjklpgmnakcaaaGreatDoor
open Go.RowKit Go.Shelf
attribute [local go_sem] Oper.semAt_some
theorem stzP_len {ps : List Pr} (h : WF (ps.map Prod.fst)) : (stzP 0 ps).length = lenR (ps.map Prod.fst) := by
  rw [<- len_both h]
  unfold stzs stzOn stzP
  rw [<- stzG_map (κ := fun e : En => e.1.kind) Prod.fst, List.length_map]
theorem findP_R {ps : List Pr} (h : WF (ps.map Prod.fst)) (id : Int) : findP ps id = findR (ps.map Prod.fst) id := by rw [findP_E, find_both h]
theorem gapP_R {ps : List Pr} (h : WF (ps.map Prod.fst)) (id : Int) : gapP ps id = gapR (ps.map Prod.fst) id := by unfold gapP gapR; rw [findP_R h]
theorem full_R {ps : List Pr} (h : WF (ps.map Prod.fst)) (h4 : lenR (ps.map Prod.fst) <= 400) : decide ((stzP 0 ps).length = 400) = decide (400 <= lenR (ps.map Prod.fst)) := by
  rw [stzP_len h]; exact decide_eq_decide.2 ⟨fun e => by omega, fun e => by omega⟩
end Go.Proofs.YtfjklpgmnakcaaaGreatDoor
namespace Go.Proofs.YtfjklpgmnakcaaaGreatDoor
open Go.RowKit Go.Shelf
attribute [local go_sem] Oper.semAt_some
section
variable {o : Oper} {a : Act} {w : World} {K : Act -> World -> Prop} {Q : Exit -> Act -> World -> Prop}
theorem op_move {x : Operand} {v : Value} (ho : o.op = Op.move x) (hx : a.eval x = v) (hK : K (a.put o.dst v) w) : Oper.wp Tryz.prog o a w K Q := by
  unfold Oper.wp
  have e : (execOp a.eval o).run Tryz.prog w = .ok (.value v) w := by
    simp only [execOp, ho, hx]
    simp [go_sem]
  rw [e]; exact hK
theorem op_assign {x : Operand} {v : Value} (ho : o.op = Op.assign x) (hx : a.eval x = v) (hK : K (a.put o.dst v) w) : Oper.wp Tryz.prog o a w K Q := by
  unfold Oper.wp
  have e : (execOp a.eval o).run Tryz.prog w = .ok (.value v) w := by
    simp only [execOp, ho, hx]
    simp [go_sem]
  rw [e]; exact hK
theorem op_eql {x y : Operand} {m n : Int} {b : Bool} (ho : o.op = Op.binOp BinOp.eql 3 x y 3) (hx : a.eval x = .int .i64 m) (hy : a.eval y = .int .i64 n) (hb : (m == n) = b) (hK : K (a.put o.dst (.bool b)) w) : Oper.wp Tryz.prog o a w K Q := by
  subst hb
  unfold Oper.wp
  have e : (execOp a.eval o).run Tryz.prog w = .ok (.value (.bool (m == n))) w := by
    simp only [execOp, ho, hx, hy]
    simp [go_sem]
  rw [e]; exact hK
theorem op_pick {c x y : Operand} {b : Bool} {v u z : Value} (ho : o.op = Op.pick c x y) (hc : a.eval c = .bool b) (hx : a.eval x = v) (hy : a.eval y = u) (hz : z = if b = true then v else u) (hK : K (a.put o.dst z) w) : Oper.wp Tryz.prog o a w K Q := by
  subst hz
  unfold Oper.wp
  have e : (execOp a.eval o).run Tryz.prog w = .ok (.value (if b = true then v else u)) w := by
    simp only [execOp, ho, hc, hx, hy]
    cases b <;> simp [go_sem]
  rw [e]; exact hK
theorem op_load2 {x : Operand} {b : Nat} {u0 u1 : Value} (ho : o.op = Op.load 28 x) (hx : a.eval x = .pointer (some ⟨b, 0, none⟩)) (c0 : w.cell? ⟨b, 0, none⟩ = some u0) (c1 : w.cell? ⟨b, 1, none⟩ = some u1) (hK : K (a.put o.dst (.agg #[u0, u1])) w) : Oper.wp Tryz.prog o a w K Q := by
  unfold Oper.wp
  have e : (execOp a.eval o).run Tryz.prog w = .ok (.value (.agg #[u0, u1])) w := by
    simp only [execOp, ho, hx]
    simp [go_sem, Result.andThen, c0, c1]
  rw [e]; exact hK
theorem op_store2 {x y : Operand} {b : Nat} {u0 u1 : Value} {fa : Option Addr} {n c : Nat} {m : Int} (ho : o.op = Op.store 28 x y) (hx : a.eval x = .pointer (some ⟨b, 0, none⟩)) (hy : a.eval y = .agg #[.slice fa n c, .int .i64 m]) (c0 : w.cell? ⟨b, 0, none⟩ = some u0) (c1 : w.cell? ⟨b, 1, none⟩ = some u1) (f0 : w.frozen? ⟨b, 0, none⟩ = false) (f1 : w.frozen? ⟨b, 1, none⟩ = false)
    (hK : K (a.put o.dst undef) ((w.setCell ⟨b, 0, none⟩ (.slice fa n c)).setCell ⟨b, 1, none⟩ (.int .i64 m))) : Oper.wp Tryz.prog o a w K Q := by
  unfold Oper.wp
  have e : (execOp a.eval o).run Tryz.prog w = .ok .skip ((w.setCell ⟨b, 0, none⟩ (.slice fa n c)).setCell ⟨b, 1, none⟩ (.int .i64 m)) := by
    simp only [execOp, ho, hx, hy]
    simp [go_sem, Result.andThen, c0, c1, f0, f1]
  rw [e]; exact hK
end
end Go.Proofs.YtfjklpgmnakcaaaGreatDoor
namespace Go.Proofs.YtfjklpgmnakcaaaGreatDoor
open Go.RowKit Go.Shelf
attribute [local go_sem] Oper.semAt_some
end Go.Proofs.YtfjklpgmnakcaaaGreatDoor
namespace Go.Proofs.YtfjklpgmnakcaaaGreatDoor
open Go.RowKit Go.Shelf Go.Maps Go.ChangeShapes Go.Joins Go.WideShapes
attribute [local go_sem] Oper.semAt_some
structure Ed where
  kind : Int
  id : Int
  fields : List Fld
structure EdIn (W : World) (cs : List Value) (ed : Ed) (fv : Value) : Prop where
  cs : cs = [.int .i64 ed.kind, .int .i64 ed.id, fv]
  flds : FldsIn W fv ed.fields
theorem edit_in {H : Type} {enc : TypeId × Value -> H} {W : World} {base : Nat} {sp : Nat -> Bool} {held : Bool} {fuel : Nat} {cs : List Value} {x : DataW H × List MemPlace} (h : DataW.trod enc Tryz.prog W base sp held fuel 53 cs = some x) :
    ∃ ed fv, EdIn W cs ed fv := by
  obtain ⟨xs, m, _, _, hl, hxl, hf⟩ := DataW.trod_struct Tryz.underlying53 h
  have hl2 : cs.length = 3 := hl.trans (by kernel_rfl)
  obtain ⟨c0, c1, c2, rfl⟩ := cells3 hl2
  have k3 : Tryz.prog.cellsOf 3 = 1 := by kernel_rfl
  have k40 : Tryz.prog.cellsOf 46 = 1 := by kernel_rfl
  have hx : ∀ i, i < 3 -> ∃ y, xs[i]? = some y := fun i hi => ⟨_, List.getElem?_eq_getElem (by rw [hxl]; exact hi)⟩
  obtain ⟨y0, e0⟩ := hx 0 (by decide)
  obtain ⟨y1, e1⟩ := hx 1 (by decide)
  obtain ⟨y2, e2⟩ := hx 2 (by decide)
  have q0 : DataW.trod enc Tryz.prog W base sp held m 3 (List.take (Tryz.prog.cellsOf 3) [c0, c1, c2]) = _ := hf 0 _ rfl
  have q1 : DataW.trod enc Tryz.prog W base sp held m 3 (List.take (Tryz.prog.cellsOf 3) [c1, c2]) = _ := hf 1 _ rfl
  have q2 : DataW.trod enc Tryz.prog W base sp held m 46 (List.take (Tryz.prog.cellsOf 46) [c2]) = _ := hf 2 _ rfl
  rw [k3, e0] at q0
  rw [k3, e1] at q1
  rw [k40, e2] at q2
  obtain ⟨kind, f0, _, _⟩ := DataW.trod_int Tryz.underlying3 q0
  obtain ⟨id, f1, _, _⟩ := DataW.trod_int Tryz.underlying3 q1
  obtain ⟨fs, hfs⟩ := flds_in (v := c2) q2
  simp at f0 f1
  subst f0 f1
  exact ⟨⟨kind, id, fs⟩, c2, rfl, hfs⟩
structure EdsIn (w : World) (v : Value) (eds : List Ed) : Prop where
  len : eds.length <= maxLen
  at_ : ∃ A cap, v = .slice A eds.length cap /\ eds.length <= cap /\ ∀ (i : Nat) (ed : Ed), eds[i]? = some ed -> ∃ b off fv, A = some ⟨b, off, none⟩ /\ b < w.heap.size /\ w.cell? ⟨b, off + i * 3, none⟩ = some (.int .i64 ed.kind) /\ w.cell? ⟨b, off + i * 3 + 1, none⟩ = some (.int .i64 ed.id) /\ w.cell? ⟨b, off + i * 3 + 1 + 1, none⟩ = some fv /\ FldsIn w fv ed.fields
theorem edits_in {H : Type} {enc : TypeId × Value -> H} {W : World} {base : Nat} {sp : Nat -> Bool} {held : Bool} {fuel : Nat} {v : Value} {x : DataW H × List MemPlace} (h : DataW.trod enc Tryz.prog W base sp held fuel 22 [v] = some x) :
    ∃ eds, EdsIn W v eds := by
  rcases DataW.trod_slice Tryz.underlying22 h with ⟨e, _⟩ | ⟨a, len, cap, elems, rest, n, _, e, _, _, hl, hm, hlen, hel, _, _⟩
  . obtain rfl : v = .slice none 0 0 := by simpa using e
    exact ⟨[], ⟨Nat.zero_le _, none, 0, rfl, Nat.le_refl _, fun i f h => by simp at h⟩⟩
  obtain rfl : v = .slice (some a) len cap := by simpa using e
  have k3 : Tryz.prog.cellsOf 53 = 3 := by kernel_rfl
  have each : ∀ i, i < len -> ∃ ed : Ed, ∃ b off fv, a = ⟨b, off, none⟩ /\ b < W.heap.size /\ W.cell? ⟨b, off + i * 3, none⟩ = some (.int .i64 ed.kind) /\ W.cell? ⟨b, off + i * 3 + 1, none⟩ = some (.int .i64 ed.id) /\ W.cell? ⟨b, off + i * 3 + 1 + 1, none⟩ = some fv /\ FldsIn W fv ed.fields := by
    intro i hi
    have h1 := hel i hi
    rw [k3, List.getElem?_eq_getElem (by omega)] at h1
    obtain ⟨cs, hc, ht⟩ := Option.bind_eq_some_iff.1 h1
    obtain ⟨ed, fv, rfl, hf⟩ := edit_in ht
    obtain ⟨_, _, hat⟩ := World.cells?_some hc
    have c0 := hat 0 (by decide)
    have c1 := hat 1 (by decide)
    have c2 := hat 2 (by decide)
    obtain ⟨b, off, spot⟩ := a
    have hspot : spot = none := by
      have h2 := hel 0 (by omega)
      rw [k3, List.getElem?_eq_getElem (by omega)] at h2
      obtain ⟨cs', hc', ht'⟩ := Option.bind_eq_some_iff.1 h2
      obtain ⟨ed', fv', rfl, _⟩ := edit_in ht'
      obtain ⟨_, hlen', hat'⟩ := World.cells?_some hc'
      have := World.cell?_spot (hat' 0 (by decide))
      simpa [Addr.add] using this
    subst hspot
    rw [WideShapes.add_plain] at c0 c1 c2
    exact ⟨ed, b, off, fv, rfl, World.block_lt_of_cell? W _ c0, c0, c1, c2, hf⟩
  have : ∃ g : Nat -> Ed, ∀ i, i < len -> ∃ b off fv, a = ⟨b, off, none⟩ /\ b < W.heap.size /\ W.cell? ⟨b, off + i * 3, none⟩ = some (.int .i64 (g i).kind) /\ W.cell? ⟨b, off + i * 3 + 1, none⟩ = some (.int .i64 (g i).id) /\ W.cell? ⟨b, off + i * 3 + 1 + 1, none⟩ = some fv /\ FldsIn W fv (g i).fields := by
    refine ⟨fun i => if h : i < len then (each i h).choose else ⟨0, 0, []⟩, fun i hi => ?_⟩
    simp only [dif_pos hi]
    exact (each i hi).choose_spec
  obtain ⟨g, hg⟩ := this
  have hll : ((List.range len).map g).length = len := by simp
  refine ⟨(List.range len).map g, ⟨by rw [hll]; omega, some a, cap, by rw [hll], by rw [hll]; exact hl, fun i ed hi => ?_⟩⟩
  have hlt : i < len := by
    rcases Nat.lt_or_ge i len with q | q
    . exact q
    rw [List.getElem?_eq_none (by rw [hll]; exact q)] at hi; cases hi
  rw [List.getElem?_map, List.getElem?_range hlt] at hi
  obtain rfl := (Option.some.inj hi).symm
  obtain ⟨b, off, fv, ea, hb, c0, c1, c2, hf⟩ := hg i hlt
  exact ⟨b, off, fv, by rw [ea], hb, c0, c1, c2, hf⟩
theorem FldsIn.kept {w w' : World} {v : Value} {fs : List Fld} {N : Nat} (h : FldsIn w v fs) (hb : Below N w w') (hN : w.heap.size <= N) : FldsIn w' v fs := ⟨h.flds.below hb hN, h.nil, h.len, h.each⟩
theorem EdsIn.below {w w' : World} {v : Value} {eds : List Ed} {N : Nat} (h : EdsIn w v eds) (hb : Below N w w') (hN : w.heap.size <= N) : EdsIn w' v eds := by
  obtain ⟨hl, A, cap, e, hle, hc⟩ := h
  refine ⟨hl, A, cap, e, hle, fun i ed hi => ?_⟩
  obtain ⟨b, off, fv, e1, hbb, c0, c1, c2, hf⟩ := hc i ed hi
  have hbN : b < N := by omega
  exact ⟨b, off, fv, e1, Nat.lt_of_lt_of_le hbb hb.size, (hb.cell (p := ⟨b, off + i * 3, none⟩) hbN).trans c0, (hb.cell (p := ⟨b, off + i * 3 + 1, none⟩) hbN).trans c1, (hb.cell (p := ⟨b, off + i * 3 + 1 + 1, none⟩) hbN).trans c2, hf.kept hb hN⟩
def Light (eds : List Ed) : Prop := eds.length <= 51 /\ ∀ ed ∈ eds, ed.fields.length <= 61 /\ (∀ f ∈ ed.fields, f.1.length <= 6000 /\ f.2.length <= 6000) /\ minF ed.fields <= 6000
def HeavyR (eds : List Ed) (e : Ending) : Prop := ∃ b : Bool, e = .returned (.bool b) /\ (b = false -> Light eds)
theorem Light.fine {eds : List Ed} (h : Light eds) {ed : Ed} (he : ed ∈ eds) : Fine7 ed.fields :=
  ⟨by have := (h.2 ed he).1; omega, fun f hf => by have := (h.2 ed he).2.1 f hf; omega⟩
theorem heavy_any (eds : List Ed) (v : Value) (w : World) (h : EdsIn w v eds) :
    Calls Tryz.prog 5 #[v] w fun e w' => HeavyR eds e /\ Below w.heap.size w w' := by
  have HH := Lib.hid h
  obtain ⟨hm, A, cap, rfl, hle, hc⟩ := h
  have PC := Lib.hid hc
  clear hc
  unfold maxLen at hm
  go_enter Tryz.func5, Tryz.ntmps5
  go_wp2_with fail
  go_loopw [7] (fun i wr => ∃ k : Nat, k <= eds.length /\ k <= 51 /\ i = .int .i64 k /\ (∀ ed ∈ eds.take k, ed.fields.length <= 61 /\ (∀ f ∈ ed.fields, f.1.length <= 6000 /\ f.2.length <= 6000) /\ minF ed.fields <= 6000) /\ Below w.heap.size w wr) (fun i _ => eds.length - (intOf i).toNat)
  case atStart => exact ⟨0, Nat.zero_le _, by decide, rfl, (fun ed h => by simp at h), Below.refl _ _⟩
  case round =>
  obtain ⟨k, hk, hk51, rfl, hsm, hb⟩ := hrel
  by_cases hlt : k < eds.length
  . obtain ⟨ed, hed⟩ : ∃ ed, eds[k]? = some ed := ⟨_, List.getElem?_eq_getElem hlt⟩
    obtain ⟨b, off, fv, rfl, hbb, c0, c1, c2, hf⟩ := PC.out k ed hed
    obtain ⟨fa, fc, rfl, _, _⟩ := _root_.id hf.flds
    replace c0 := (hb.cell (p := ⟨b, off + k * 3, none⟩) hbb).trans c0
    replace c1 := (hb.cell (p := ⟨b, off + k * 3 + 1, none⟩) hbb).trans c1
    replace c2 := (hb.cell (p := ⟨b, off + k * 3 + 1 + 1, none⟩) hbb).trans c2
    have TK := Lib.hid (show eds.take (k + 1) = eds.take k ++ [ed] by rw [List.take_add_one, hed]; rfl)
    have HSM := Lib.hid hsm
    obtain ⟨wa, hwa⟩ : ∃ wa, wa = wr.alloc (.cells #[.int .i64 ed.kind, .int .i64 ed.id, .slice fa ed.fields.length fc] 53) := ⟨_, rfl⟩
    have hba : Below w.heap.size w wa := by rw [hwa]; exact hb.alloc hb.size _
    have MU := Lib.hid (much_any ed.fields (.slice fa ed.fields.length fc) wa (hf.kept hba (Nat.le_refl _)).flds hf.len hf.each)
    have HBA := Lib.hid hba
    clear hed hsm hf hba
    by_cases h50 : 50 < k
    . subst hwa
      go_wp2_with fail
      go_ret
      exact ⟨⟨true, rfl, fun h => by cases h⟩, HBA.out⟩
    subst hwa
    go_wp2_with fail
    refine MU.out.mono ?_
    rintro e w2 ⟨⟨q, rfl, hq⟩, b2⟩
    have HB2 := Lib.hid (HBA.out.trans (b2.mono HBA.out.size))
    have HQ := Lib.hid hq
    clear b2 hq MU
    cases q with
    | true =>
      go_wp2_with fail
      go_ret
      exact ⟨⟨true, rfl, fun h => by cases h⟩, HB2.out⟩
    | false =>
    go_wp2_with fail
    go_roundw
    case rel =>
      refine ⟨k + 1, hlt, by omega, by go_num, fun x hx => ?_, HB2.out⟩
      rw [TK.out] at hx
      rcases List.mem_append.1 hx with hx | hx
      . exact HSM.out x hx
      rw [List.mem_singleton.1 hx]
      obtain ⟨a1, a2, a3⟩ := HQ.out (by first | exact rfl | trivial)
      exact ⟨a1, a2, a3⟩
    case measure => simp [intOf]; omega
  obtain rfl : k = eds.length := by omega
  rw [List.take_length] at hsm
  have HSM := Lib.hid hsm
  clear PC hsm
  go_wp2_with fail
  go_ret
  exact ⟨⟨false, rfl, fun _ => ⟨hk51, HSM.out⟩⟩, hb⟩
end Go.Proofs.YtfjklpgmnakcaaaGreatDoor
namespace Go.Proofs.YtfjklpgmnakcaaaGreatDoor
def nums (es : List En) : List Int := (es.map Prod.snd).filter fun n => decide (0 < n)
theorem nums_append (a b : List En) : nums (a ++ b) = nums a ++ nums b := by unfold nums; rw [List.map_append, List.filter_append]
theorem nums_len (es : List En) : (nums es).length = lenR es := by
  unfold nums lenR
  rw [List.filter_map, List.length_map]; rfl
theorem setE_snd (es : List En) (k : Nat) (it : It) : (setE es k it).map Prod.snd = es.map Prod.snd := by
  unfold setE
  apply List.ext_getElem?
  intro j
  rw [List.getElem?_map, List.getElem?_modify, List.getElem?_map]
  cases es[j]? with
  | none => rfl
  | some e =>
  by_cases h : k = j
  . simp [h]
  simp [h]
structure OkL (l : LS) : Prop where
  wf : WF l.es
  pos : 0 < l.next
  lt : ∀ n ∈ nums l.es, n < l.next
  nd : (nums l.es).Nodup
  len : lenR l.es <= 400
theorem OkL.replace {l : LS} (h : OkL l) {k : Nat} {e : En} (he : l.es[k]? = some e) (h3 : e.1.kind = 3) (fs : List Fld) : OkL ⟨setE l.es k (itemOf fs), l.next⟩ := by
  have hn : nums (setE l.es k (itemOf fs)) = nums l.es := by unfold nums; rw [setE_snd]
  refine ⟨h.wf.set k (itemOf fs) rfl e he h3, h.pos, ?_, ?_, ?_⟩
  . show ∀ n ∈ nums (setE l.es k (itemOf fs)), n < l.next
    rw [hn]; exact h.lt
  . show (nums (setE l.es k (itemOf fs))).Nodup
    rw [hn]; exact h.nd
  show lenR (setE l.es k (itemOf fs)) <= 400
  rw [<- nums_len, hn, nums_len]; exact h.len
theorem cut_sub (es : List En) (k : Nat) : (nums (cutE es k)).Sublist (nums es) := by
  unfold nums cutE
  refine List.Sublist.filter _ (List.Sublist.map _ ?_)
  conv => rhs; rw [<- List.take_append_drop k es]
  exact (List.Sublist.refl _).append (by rw [<- List.drop_drop]; exact List.drop_sublist _ _)
theorem OkL.delete {l : LS} (h : OkL l) (k : Nat) : OkL ⟨cutE l.es k, l.next⟩ := by
  have hs := cut_sub l.es k
  refine ⟨h.wf.cut k, h.pos, fun n hn => h.lt n (hs.subset hn), hs.nodup h.nd, ?_⟩
  show lenR (cutE l.es k) <= 400
  have := hs.length_le
  rw [nums_len, nums_len] at this
  have := h.len
  omega
theorem put_perm (es : List En) (k : Nat) (it : It) {n : Int} (hn : 0 < n) : (nums (putE es k (it, n))).Perm (n :: nums es) := by
  have e1 : nums (putE es k (it, n)) = nums (es.take k) ++ n :: nums (es.drop k) := by
    unfold putE
    rw [nums_append]
    congr 1
    unfold nums
    rw [List.map_cons, List.filter_cons, if_pos (by simpa using hn)]
  have e2 : nums es = nums (es.take k) ++ nums (es.drop k) := by rw [<- nums_append, List.take_append_drop]
  rw [e1, e2]
  exact List.perm_middle
theorem OkL.insert {l : LS} (h : OkL l) (k : Nat) (fs : List Fld) (hf : ¬ 400 <= lenR l.es) : OkL ⟨putE l.es k (itemOf fs, l.next), l.next + 1⟩ := by
  have hp := put_perm l.es k (itemOf fs) h.pos
  have hpos := h.pos
  refine ⟨h.wf.put k ⟨rfl, h.pos⟩, by show 0 < l.next + 1; omega, fun n hn => ?_, hp.nodup_iff.2 (List.nodup_cons.2 ⟨fun q => ?_, h.nd⟩), ?_⟩
  . show n < l.next + 1
    rcases List.mem_cons.1 (hp.subset hn) with q | q
    . omega
    have := h.lt n q; omega
  . have := h.lt _ q; omega
  show lenR (putE l.es k (itemOf fs, l.next)) <= 400
  have := hp.length_eq
  rw [nums_len, List.length_cons, nums_len] at this
  omega
theorem findR_stz {es : List En} (h : WF es) {id : Int} {k : Nat} (hf : findR es id = some k) : ∃ e, es[k]? = some e /\ e.1.kind = 3 /\ e.2 = id := by
  obtain ⟨_, e, he, h2, h3⟩ := findR_lt hf
  rcases h e (List.mem_of_getElem? he) with ⟨q, _⟩ | ⟨_, q⟩
  . exact ⟨e, he, q, h2⟩
  omega
theorem OkL.edit {l : LS} (h : OkL l) (kind id : Int) (fs : List Fld) : OkL (editR l kind id fs).ls := by
  unfold editR
  split
  . unfold replaceR
    split
    . exact h
    rename_i k hk
    obtain ⟨e, he, h3, _⟩ := findR_stz h.wf hk
    split
    . exact h.replace he h3 fs
    exact h
  split
  . unfold deleteR
    split
    . exact h
    exact h.delete _
  unfold insertR
  split
  . exact h
  split
  . split
    . exact h
    rename_i hf; exact h.insert _ fs hf
  exact h
theorem edit_len (l : LS) (kind id : Int) (fs : List Fld) : (editR l kind id fs).ls.es.length <= l.es.length + 1 /\ l.next <= (editR l kind id fs).ls.next /\ (editR l kind id fs).ls.next <= l.next + 1 := by
  unfold editR
  split
  . unfold replaceR
    split
    . exact ⟨Nat.le_succ _, Int.le_refl _, by show l.next <= l.next + 1; omega⟩
    split
    . exact ⟨by show (setE _ _ _).length <= _; rw [setE_len]; omega, Int.le_refl _, by show l.next <= l.next + 1; omega⟩
    exact ⟨Nat.le_succ _, Int.le_refl _, by show l.next <= l.next + 1; omega⟩
  split
  . unfold deleteR
    split
    . exact ⟨Nat.le_succ _, Int.le_refl _, by show l.next <= l.next + 1; omega⟩
    exact ⟨by show (cutE _ _).length <= _; unfold cutE; rw [List.length_append, List.length_take, List.length_drop]; omega, Int.le_refl _, by show l.next <= l.next + 1; omega⟩
  unfold insertR
  split
  . exact ⟨Nat.le_succ _, Int.le_refl _, by show l.next <= l.next + 1; omega⟩
  split
  . split
    . exact ⟨Nat.le_succ _, Int.le_refl _, by show l.next <= l.next + 1; omega⟩
    exact ⟨by show (putE _ _ _).length <= _; unfold putE; rw [List.length_append, List.length_cons, List.length_take, List.length_drop]; omega, by show l.next <= l.next + 1; omega, Int.le_refl _⟩
  exact ⟨Nat.le_succ _, Int.le_refl _, by show l.next <= l.next + 1; omega⟩
theorem insert_id (l : LS) (id : Int) (fs : List Fld) : ((insertR l id fs).bad = 0 /\ (insertR l id fs).id = l.next /\ (insertR l id fs).ls.next = l.next + 1) \/ ((insertR l id fs).bad ≠ 0 /\ (insertR l id fs).id = 0 /\ (insertR l id fs).ls = l) := by
  unfold insertR
  split
  . exact .inr ⟨by show (7 : Nat) ≠ 0; decide, rfl, rfl⟩
  split
  . split
    . exact .inr ⟨by show (11 : Nat) ≠ 0; decide, rfl, rfl⟩
    exact .inl ⟨rfl, rfl, rfl⟩
  rename_i hc; exact .inr ⟨hc, rfl, rfl⟩
end Go.Proofs.YtfjklpgmnakcaaaGreatDoor
