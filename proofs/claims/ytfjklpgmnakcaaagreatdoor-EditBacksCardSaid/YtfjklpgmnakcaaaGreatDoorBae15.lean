/- Texts put together: UN, UO, UP, UQ. -/
import Derived.Test.YtfjklpgmnakcaaaGreatDoorBae14
set_option linter.unusedVariables false
set_option maxRecDepth 100000
set_option maxHeartbeats 16000000
namespace Go.Proofs.YtfjklpgmnakcaaaGreatDoor
open Go.RowKit Go.Shelf
attribute [local go_sem] Oper.semAt_some errV_0
def ErrZ (lo : Nat) (w : World) (u : Value) (a : Int) (n : Nat) : Prop := n <= 11 /\ ((u = errV n /\ a = -9) \/ ∃ k : Nat, FaultAt lo w u k n /\ a = k /\ n ≠ 0)
theorem ErrZ.of {lo : Nat} {w : World} {u : Value} {fs : List Fld} (h : ChkV lo w u fs) : ErrZ lo w u (chkAt fs) (chkN fs) := by
  unfold ChkV at h
  unfold chkAt
  refine ⟨chkN_le fs, ?_⟩
  split at h
  . rename_i hb
    rw [if_pos hb]; exact .inl ⟨h, rfl⟩
  rename_i hb
  rw [if_neg hb]
  have h2 : chkN fs = foldN fs := by
    unfold bare at hb
    unfold chkN
    rw [if_neg (fun e => hb (.inl e)), if_neg (fun e => hb (.inr (.inl e)))]
  refine .inr ⟨_, by rw [h2]; exact h, rfl, fun e => hb (.inr (.inr (by omega)))⟩
theorem ErrZ.none (lo : Nat) (w : World) : ErrZ lo w .nilIface (-9) 0 := ⟨by decide, .inl ⟨rfl, rfl⟩⟩
theorem ErrZ.err (lo : Nat) (w : World) (n : Nat) (h : n <= 11) : ErrZ lo w (errV n) (-9) n := ⟨h, .inl ⟨rfl, rfl⟩⟩
theorem num_z {lo : Nat} {w : World} {u : Value} {a : Int} {n : Nat} (h : ErrZ lo w u a n) : Calls Tryz.prog 9 #[u] w fun e w' => e = .returned (.int .i64 (n : Nat)) /\ w = w' := by
  obtain ⟨hn, ⟨rfl, rfl⟩ | ⟨k, hf, rfl, h0⟩⟩ := h
  . exact num_any n (by omega) w
  exact num_fault hf h0 (by omega)
theorem at_z {lo : Nat} {w : World} {u : Value} {a : Int} {n : Nat} (h : ErrZ lo w u a n) : Calls Tryz.prog 10 #[u] w fun e w' => e = .returned (.int .i64 a) /\ w = w' := by
  obtain ⟨hn, ⟨rfl, rfl⟩ | ⟨k, hf, rfl, h0⟩⟩ := h
  . rcases Nat.eq_zero_or_pos n with rfl | hp
    . rw [errV_0]; exact at_nil w
    rw [errV_pos n hp]; exact at_err _ w
  exact at_fault hf
theorem ErrZ.below {lo : Nat} {w w' : World} {u : Value} {a : Int} {n N : Nat} (h : ErrZ lo w u a n) (hb : Below N w w') (hN : w.heap.size <= N) : ErrZ lo w' u a n := by
  obtain ⟨hn, h | ⟨k, hf, h⟩⟩ := h
  . exact ⟨hn, .inl h⟩
  exact ⟨hn, .inr ⟨k, hf.below hb hN, h⟩⟩
def replaceW (k : Option Nat) (l : LS) (fs : List Fld) : Did :=
  match k with
  | none => ⟨l, -9, 7, 0⟩
  | some k => if chkN fs = 0 then ⟨⟨setE l.es k (itemOf fs), l.next⟩, -9, 0, 0⟩ else ⟨l, chkAt fs, chkN fs, 0⟩
def deleteW (k : Option Nat) (l : LS) : Did :=
  match k with
  | none => ⟨l, -9, 7, 0⟩
  | some k => ⟨⟨cutE l.es k, l.next⟩, -9, 0, 0⟩
def insertW (k : Option Nat) (full : Bool) (l : LS) (fs : List Fld) : Did :=
  match k with
  | none => ⟨l, -9, 7, 0⟩
  | some k => if chkN fs = 0 then (if full = true then ⟨l, -9, 11, 0⟩ else ⟨⟨putE l.es k (itemOf fs, l.next), l.next + 1⟩, -9, 0, l.next⟩) else ⟨l, chkAt fs, chkN fs, 0⟩
theorem replaceW_yes {k : Nat} {l : LS} {fs : List Fld} (h : chkN fs = 0) : replaceW (some k) l fs = ⟨⟨setE l.es k (itemOf fs), l.next⟩, -9, 0, 0⟩ := if_pos h
theorem replaceW_no {k : Nat} {l : LS} {fs : List Fld} (h : chkN fs ≠ 0) : replaceW (some k) l fs = ⟨l, chkAt fs, chkN fs, 0⟩ := if_neg h
theorem insertW_no {k : Nat} {full : Bool} {l : LS} {fs : List Fld} (h : chkN fs ≠ 0) : insertW (some k) full l fs = ⟨l, chkAt fs, chkN fs, 0⟩ := if_neg h
theorem insertW_full {k : Nat} {l : LS} {fs : List Fld} (h : chkN fs = 0) : insertW (some k) true l fs = ⟨l, -9, 11, 0⟩ := by unfold insertW; dsimp only; rw [if_pos h, if_pos rfl]
theorem insertW_yes {k : Nat} {l : LS} {fs : List Fld} (h : chkN fs = 0) : insertW (some k) false l fs = ⟨⟨putE l.es k (itemOf fs, l.next), l.next + 1⟩, -9, 0, l.next⟩ := by unfold insertW; dsimp only; rw [if_pos h, if_neg (by decide)]
theorem replaceR_W (l : LS) (id : Int) (fs : List Fld) : replaceR l id fs = replaceW (findR l.es id) l fs := rfl
theorem deleteR_W (l : LS) (id : Int) : deleteR l id = deleteW (findR l.es id) l := rfl
theorem insertR_W (l : LS) (id : Int) (fs : List Fld) : insertR l id fs = insertW (gapR l.es id) (decide (400 <= lenR l.es)) l fs := by
  unfold insertR insertW
  cases gapR l.es id with
  | none => rfl
  | some k => simp
theorem findP_E (ps : List Pr) (id : Int) : findP ps id = findE (ps.map Prod.fst) id := by
  unfold findP findE stzs stzOn
  rw [<- stzG_map (κ := fun e : En => e.1.kind) Prod.fst, List.find?_map, Option.map_map]
  rfl
structure WrR (w : World) (lb : Nat) (ev : Value) (ps : List Pr) (d : Did) (u : Value) (w' : World) (ev' : Value) (ps' : List Pr) : Prop where
  la : LA w' lb ev' ps' d.ls.next
  es : ps'.map Prod.fst = d.ls.es
  only : Only (fun r => r = lb \/ ev.ownBlock = some r) w w'
  blk : ev'.ownBlock = ev.ownBlock \/ ∃ b, ev'.ownBlock = some b /\ w.heap.size <= b
  err : ErrZ w.heap.size w' u d.at_ d.bad
  mem : ∀ p ∈ ps', p ∈ ps \/ ∀ b, p.2.ownBlock = some b -> w.heap.size <= b
theorem setE_map (ps : List Pr) (k : Nat) (p : Pr) (it : It) (x : Value) (h : ps[k]? = some p) : (ps.set k ((it, p.1.2), x)).map Prod.fst = setE (ps.map Prod.fst) k it := by
  unfold setE
  apply List.ext_getElem?
  intro j
  rw [List.getElem?_map, List.getElem?_set, List.getElem?_modify, List.getElem?_map]
  by_cases hj : k = j
  . subst hj
    rw [if_pos rfl, h, if_pos (List.getElem?_eq_some_iff.1 h).1]
    simp
  rw [if_neg hj]
  cases ps[j]? with
  | none => rfl
  | some y => simp [hj]
theorem entCells_set (ps : List Pr) (k : Nat) (q : Pr) (h : k < ps.length) : entCells (ps.set k q) = (entCells ps).take (k * 4) ++ (entCell q ++ (entCells ps).drop ((k + 1) * 4)) := by
  rw [List.set_eq_take_append_cons_drop, if_pos h, entCells_append, show entCells (q :: ps.drop (k + 1)) = entCell q ++ entCells (ps.drop (k + 1)) from rfl, entCells_take, entCells_drop]
theorem entCells_ones {w : World} {v : Value} {ps : List Pr} (h : EntsR w v ps) : ∀ u ∈ entCells ps, u.oneCell' = true :=
  entCells_one fun p hp => by obtain ⟨A, c, e⟩ := (h.each p hp).form; rw [e]; rfl
structure Fine7 (fs : List Fld) : Prop where
  len : fs.length <= 1000
  each : ∀ f ∈ fs, f.1.length <= 100000 /\ f.2.length <= 100000
theorem delete_list (lb : Nat) (ev : Value) (ps : List Pr) (nx id : Int) (w : World) (h : LA w lb ev ps nx) (hps : ps.length <= 1000000) :
    Calls Tryz.prog 68 #[ptr lb, .int .i64 id] w fun e w' => ∃ u ev' ps', e = .returned u /\ WrR w lb ev ps (deleteW (findP ps id) ⟨ps.map Prod.fst, nx⟩) u w' ev' ps' := by
  have FD := Lib.hid (find_any lb ev ps nx id w h.lr hps)
  have H := Lib.hid h
  clear h
  unfold ptr at *
  cases hf : findP ps id with
  | none =>
    rw [hf] at FD
    unfold foundV at FD
    dsimp only at FD
    go_enter Tryz.func68, Tryz.ntmps68
    go_wp2_with fail
    refine FD.out.mono ?_
    rintro e w1 ⟨rfl, b1⟩
    go_wp2_with fail
    go_ret
    exact ⟨_, ev, ps, rfl, H.out.below b1 (Nat.le_refl _), rfl, Only.of_below b1 (Nat.le_refl _), .inl rfl, ErrZ.err _ _ 7 (by decide), fun p hp => .inl hp⟩
  | some k =>
  obtain ⟨p, hp, _, _⟩ := findP_lt hf
  rw [hf] at FD
  unfold foundV at FD
  dsimp only at FD
  have hk := (List.getElem?_eq_some_iff.1 hp).1
  clear hf hp
  go_enter Tryz.func68, Tryz.ntmps68
  go_wp2_with fail
  refine FD.out.mono ?_
  rintro e w1 ⟨rfl, b1⟩
  have H1 := H.out.below b1 (Nat.le_refl _)
  obtain ⟨g, cap, rfl⟩ := Joins.ownsRow_form H1.lr.ents.row (by omega)
  have DL := Lib.hid (delete7_any 0 g ps.length cap k (entCells ps) w1 H1.lr.ents.row (entCells_ones H1.lr.ents) hk hps)
  have c0 : w1.cell? ⟨lb, 0, none⟩ = some (.slice (some ⟨g, 0, none⟩) ps.length cap) := H1.lr.head.cell 0
  have hgl : g ≠ lb := fun e => H1.lr.row_ne (by rw [e]; rfl)
  have LH := Lib.hid H1
  have B1 := Lib.hid b1
  have hz := b1.size
  clear FD H1 b1
  unfold sl at DL
  have hwr : IntKind.i64.wrap ((k : Int) + 1) = (k : Int) + 1 := IntWalk.i64_in _ (by omega)
  go_wp2_with fail
  refine DL.out.mono ?_
  rintro e w2 ⟨rfl, hr2, o2⟩
  have h2 := LH.out.lr.head.only o2 (fun e => hgl e.symm)
  have d0 : w2.cell? ⟨lb, 0, none⟩ = some (.slice (some ⟨g, 0, none⟩) ps.length cap) := h2.cell 0
  have f0 := h2.frozen 0
  have HH2 := Lib.hid h2
  have HR2 := Lib.hid hr2
  have HO2 := Lib.hid o2
  clear DL h2 hr2 o2
  go_wp2_with fail
  go_ret
  have hcm : (cutE (ps.map Prod.fst) k) = (ps.take k ++ ps.drop (k + 1)).map Prod.fst := by unfold cutE; rw [List.map_append, List.map_take, List.map_drop]
  have hlen : (ps.take k ++ ps.drop (k + 1)).length = ps.length - 1 := by rw [List.length_append, List.length_take, List.length_drop]; omega
  have hmem : ∀ q ∈ ps.take k ++ ps.drop (k + 1), q ∈ ps := fun q hq => by
    rcases List.mem_append.1 hq with h | h
    . exact List.mem_of_mem_take h
    exact List.mem_of_mem_drop h
  have o3 : Only (fun r => r = lb \/ (Value.slice (some ⟨g, 0, none⟩) ps.length cap).ownBlock = some r) w1 (w2.setCell ⟨lb, 0, none⟩ (.slice (some ⟨g, 0, none⟩) (ps.length - 1) cap)) :=
    (HO2.out.mono (fun r _ e => .inr (by rw [e]; rfl))).setCell (p := ⟨lb, 0, none⟩) (.inl (.inl rfl)) _
  refine ⟨_, .slice (some ⟨g, 0, none⟩) (ps.length - 1) cap, ps.take k ++ ps.drop (k + 1), rfl, ⟨⟨?_, ⟨?_, ?_⟩⟩, ?_⟩, hcm.symm, (Only.of_below B1.out (Nat.le_refl _)).trans o3 (fun r hr e => e), .inl rfl, ErrZ.none _ _, fun q hq => .inl (hmem q hq)⟩
  . have := HH2.out.set 0 (.slice (some ⟨g, 0, none⟩) (ps.length - 1) cap)
    show Cells _ lb 99 #[_, .int .i64 (nx - 1)]
    simpa [List.setIfInBounds_toArray, List.set] using this
  . rw [hlen, entCells_append, entCells_take, entCells_drop]
    exact row_cell (p := ⟨lb, 0, none⟩) HR2.out (fun e => hgl (Option.some.inj e)) _
  . intro q hq
    refine (LH.out.lr.ents.each q (hmem q hq)).only o3 (fun hne b hb e => ?_)
    obtain ⟨a1, a2⟩ := LH.out.apart q (hmem q hq) hne b hb
    rcases e with e | e
    . exact a1 e
    exact a2 e
  intro q hq hne b hb
  exact LH.out.apart q (hmem q hq) hne b hb
theorem LA.replace {w : World} {lb g cap : Nat} {ps : List Pr} {nx : Int} {k : Nat} {p : Pr} {it : It} {x : Value} (h : LA w lb (.slice (some ⟨g, 0, none⟩) ps.length cap) ps nx) (hp : ps[k]? = some p) (hx : FldR w x it.fields) (hxb : it.fields ≠ [] -> ∀ b, x.ownBlock = some b -> b ≠ lb /\ b ≠ g) :
    LA (((w.setCell ⟨g, k * 4, none⟩ (.int .i64 it.kind)).setCell ⟨g, k * 4 + 1, none⟩ (.string (B it.raw))).setCell ⟨g, k * 4 + 1 + 1, none⟩ x) lb (.slice (some ⟨g, 0, none⟩) ps.length cap) (ps.set k ((it, p.1.2), x)) nx /\
      Only (· = g) w (((w.setCell ⟨g, k * 4, none⟩ (.int .i64 it.kind)).setCell ⟨g, k * 4 + 1, none⟩ (.string (B it.raw))).setCell ⟨g, k * 4 + 1 + 1, none⟩ x) := by
  have hk := (List.getElem?_eq_some_iff.1 hp).1
  have hgl : g ≠ lb := fun e => h.lr.row_ne (by rw [e]; rfl)
  have o : Only (· = g) w (((w.setCell ⟨g, k * 4, none⟩ (.int .i64 it.kind)).setCell ⟨g, k * 4 + 1, none⟩ (.string (B it.raw))).setCell ⟨g, k * 4 + 1 + 1, none⟩ x) :=
    (((Only.refl (· = g) w).cellS _ _).cellS _ _).cellS _ _
  obtain ⟨hl, h2⟩ := h.lr.ents.row
  obtain ⟨cur, hg, hle, hcm, hcs, htk⟩ : ∃ cur, Cells w g 93 cur /\ ps.length <= cap /\ cap <= maxLen /\ cur.size = cap * 4 /\ cur.toList.take (ps.length * 4) = entCells ps := by
    rcases h2 with ⟨q, _⟩ | ⟨g', cap', cur, q, a, b, c, d, e, f⟩
    . cases q
    cases q; exact ⟨cur, b, c, d, e, f⟩
  have hat : ∀ j, j < ps.length * 4 -> (entCells ps)[j]? = cur[j]? := fun j hj => by rw [<- htk, List.getElem?_take, if_pos hj]; simp
  have C3 : Cells (((w.setCell ⟨g, k * 4, none⟩ (.int .i64 it.kind)).setCell ⟨g, k * 4 + 1, none⟩ (.string (B it.raw))).setCell ⟨g, k * 4 + 1 + 1, none⟩ x) g 93 (layV cur (k * 4) [.int .i64 it.kind, .string (B it.raw), x]) :=
    Cells.lay [.int .i64 it.kind, .string (B it.raw), x] (k * 4) hg
  have hid := entCells_at ps k p hp 3 (.int .i64 p.1.2) rfl
  refine ⟨⟨⟨h.lr.head.only o (fun e => hgl e.symm), ⟨?_, fun q hq => ?_⟩⟩, fun q hq hne b hb => ?_⟩, o⟩
  . rw [List.length_set, entCells_set ps k _ hk]
    have hll : ((entCells ps).take (k * 4) ++ (entCell ((it, p.1.2), x) ++ (entCells ps).drop ((k + 1) * 4))).length = ps.length * 4 := by
      rw [List.length_append, List.length_append, List.length_take, List.length_drop, hl]
      show _ + (4 + _) = _
      omega
    refine ⟨hll, .inr ⟨g, cap, _, rfl, Nat.zero_le _, C3, hle, hcm, by rw [layV_size, hcs], ?_⟩⟩
    apply List.ext_getElem?
    intro j
    rw [List.getElem?_take]
    split
    . rename_i hj
      rw [Array.getElem?_toList, layV_at _ _ _ _ (by rw [hcs]; simp only [List.length_cons, List.length_nil]; omega)]
      simp only [List.length_cons, List.length_nil]
      split
      . rename_i h3
        rw [List.getElem?_append_right (by rw [List.length_take, hl]; omega), List.length_take, hl, show min (k * 4) (ps.length * 4) = k * 4 by omega, List.getElem?_append_left (by show _ < 4; omega)]
        rcases (by omega : j - k * 4 = 0 \/ j - k * 4 = 1 \/ j - k * 4 = 2) with e | e | e <;> rw [e] <;> rfl
      rename_i h3
      rw [<- hat j hj]
      rcases Nat.lt_or_ge j (k * 4) with h4 | h4
      . rw [List.getElem?_append_left (by rw [List.length_take, hl]; omega), List.getElem?_take, if_pos h4]
      rw [List.getElem?_append_right (by rw [List.length_take, hl]; omega), List.length_take, hl, show min (k * 4) (ps.length * 4) = k * 4 by omega]
      rcases Nat.lt_or_ge j (k * 4 + 4) with h5 | h5
      . have e : j = k * 4 + 3 := by omega
        subst e
        rw [show k * 4 + 3 - k * 4 = 3 by omega, hid]; rfl
      rw [List.getElem?_append_right (by show 4 <= _; omega), List.getElem?_drop]
      show _ = (entCells ps)[(k + 1) * 4 + (j - k * 4 - 4)]?
      congr 1; omega
    rename_i hj
    rw [List.getElem?_eq_none (by omega)]
  . rcases List.mem_or_eq_of_mem_set hq with hq | rfl
    . exact (h.lr.ents.each q hq).only o (fun hne b hb e => (h.apart q hq hne b hb).2 (by rw [e]; rfl))
    exact hx.only o (fun hne b hb e => (hxb hne b hb).2 e)
  rcases List.mem_or_eq_of_mem_set hq with hq | rfl
  . exact h.apart q hq hne b hb
  obtain ⟨a1, a2⟩ := hxb hne b hb
  exact ⟨a1, fun e => a2 (Option.some.inj e).symm⟩
theorem replace_list (lb : Nat) (ev : Value) (ps : List Pr) (nx id : Int) (fs : List Fld) (v : Value) (w : World) (h : LA w lb ev ps nx) (hps : ps.length <= 1000000) (hs : FldR w v fs) (hfs : Fine7 fs) :
    Calls Tryz.prog 67 #[ptr lb, .int .i64 id, v] w fun e w' => ∃ u ev' ps', e = .returned u /\ WrR w lb ev ps (replaceW (findP ps id) ⟨ps.map Prod.fst, nx⟩ fs) u w' ev' ps' := by
  have FD := Lib.hid (find_any lb ev ps nx id w h.lr hps)
  have H := Lib.hid h
  have HS := Lib.hid hs
  obtain ⟨va, vc, rfl⟩ := hs.form
  clear h hs
  unfold ptr at *
  cases hf : findP ps id with
  | none =>
    rw [hf] at FD
    unfold foundV at FD
    dsimp only at FD
    go_enter Tryz.func67, Tryz.ntmps67
    go_wp2_with fail
    refine FD.out.mono ?_
    rintro e w1 ⟨rfl, b1⟩
    go_wp2_with fail
    go_ret
    exact ⟨_, ev, ps, rfl, H.out.below b1 (Nat.le_refl _), rfl, Only.of_below b1 (Nat.le_refl _), .inl rfl, ErrZ.err _ _ 7 (by decide), fun p hp => .inl hp⟩
  | some k =>
  obtain ⟨p, hp, _, _⟩ := findP_lt hf
  rw [hf] at FD
  unfold foundV at FD
  dsimp only at FD
  have hk := (List.getElem?_eq_some_iff.1 hp).1
  have HP := Lib.hid hp
  clear hf hp
  go_enter Tryz.func67, Tryz.ntmps67
  go_wp2_with fail
  refine FD.out.mono ?_
  rintro e w1 ⟨rfl, b1⟩
  have hs1 := HS.out.below b1 (Nat.le_refl _)
  have IT := Lib.hid (item_any fs _ w1 hs1.1 hs1.2 (by have := hfs.len; omega) hfs.each)
  have B1 := Lib.hid b1
  have hz := b1.size
  clear FD b1 hs1
  go_wp2_with fail
  refine IT.out.mono ?_
  rintro e w2 ⟨u, x, hR⟩
  have B2 := Lib.hid (B1.out.trans (hR.below.mono hz))
  have hz2 := hR.below.size
  have CK := Lib.hid (hR.chk.mono hz)
  obtain rfl := hR.ret
  by_cases h0 : chkN fs = 0
  . have hu := hR.chk.zero h0
    subst hu
    have hx := Lib.hid (hR.own h0)
    obtain ⟨xa, xc, rfl, _⟩ := own_slice (hR.own h0)
    have hki : kindI fs = 3 := if_pos h0
    have hst : stzT fs = foldG fs := if_pos h0
    rw [hki, hst]
    have H2 := H.out.below B2.out (Nat.le_refl _)
    obtain ⟨g, cap, rfl⟩ := Joins.ownsRow_form H2.lr.ents.row (by omega)
    obtain ⟨g', cap', pa, pc, e1, hle, hgl2, e2, d0, d1, d2, d3⟩ := H2.lr.ents.here HP.out
    cases e1
    rw [e2] at d2
    have hgl : g ≠ lb := fun e => H2.lr.row_ne (by rw [e]; rfl)
    have hgw : g < w.heap.size := (H.out.lr.ents.row.lt g rfl).2
    have c0 : w2.cell? ⟨lb, 0, none⟩ = some (.slice (some ⟨g, 0, none⟩) ps.length cap) := H2.lr.head.cell 0
    have LH := Lib.hid H2
    clear hR IT H2 e2
    go_wp2_with fail
    obtain ⟨w3, hw3⟩ : ∃ w3, w3 = w2.alloc (.cells #[.int .i64 3, .string (B (foldG fs)), .slice xa fs.length xc] 80) := ⟨_, rfl⟩
    have L3 := Lib.hid (show LA w3 lb (.slice (some ⟨g, 0, none⟩) ps.length cap) ps nx by rw [hw3]; exact LH.out.below ((Below.refl _ _).alloc (Nat.le_refl _) _) (Nat.le_refl _))
    have CI : Cells w3 w2.heap.size 80 #[.int .i64 3, .string (B (foldG fs)), .slice xa fs.length xc] := by rw [hw3]; exact Cells.new _ _ _
    have X3 := Lib.hid (show w3.ownsRow w1.heap.size 55 2 (.slice xa fs.length xc) fs.length (cellsF fs) by rw [hw3]; exact hx.out.alloc _)
    have B3 := Lib.hid (show Below w.heap.size w w3 by rw [hw3]; exact B2.out.alloc B2.out.size _)
    rw [<- hw3]
    clear hw3 c0 d0 d1 d2 d3 LH B2 hx
    obtain ⟨g', cap', pa', pc', e1, _, hgl3, e2, d0, d1, d2, d3⟩ := L3.out.lr.ents.here HP.out
    cases e1
    rw [e2] at d2
    obtain ⟨cur, hcur⟩ : ∃ cur, Cells w3 g 93 cur := by
      rcases L3.out.lr.ents.row.2 with ⟨q, _⟩ | ⟨g'', cap'', cur, q, _, c, _⟩
      . cases q
      cases q; exact ⟨cur, c⟩
    have f0 := hcur.frozen (k * 4)
    have f1 := hcur.frozen (k * 4 + 1)
    have f2 := hcur.frozen (k * 4 + 1 + 1)
    have c0 : w3.cell? ⟨lb, 0, none⟩ = some (.slice (some ⟨g, 0, none⟩) ps.length cap) := L3.out.lr.head.cell 0
    have i0 : w3.cell? ⟨w2.heap.size, 0, none⟩ = some (.int .i64 3) := CI.cell 0
    have i1 : w3.cell? ⟨w2.heap.size, 1, none⟩ = some (.string (B (foldG fs))) := CI.cell 1
    have i2 : w3.cell? ⟨w2.heap.size, 2, none⟩ = some (.slice xa fs.length xc) := CI.cell 2
    clear CI hcur e2
    go_region_law (skip)
    all_goals go_wp2_with fail
    all_goals
      go_ret
      rw [replaceW_yes h0]
      have hbl : lb < w.heap.size := H.out.lr.head.lt
      obtain ⟨q1, q2⟩ := (L3.out.below (n := w3.heap.size) (Below.refl _ w3).drew (Nat.le_refl _)).replace (it := itemOf fs) (x := .slice xa fs.length xc) HP.out (FldR.own (show w3.drew.ownsRow w1.heap.size 55 2 (.slice xa fs.length xc) fs.length (cellsF fs) from X3.out)) (fun _ b hb => by
        have := (X3.out.lt b hb).1
        exact ⟨by omega, by omega⟩)
      refine ⟨_, _, _, rfl, q1, ?_, (Only.of_below (B3.out.drew) (Nat.le_refl _)).trans (q2.mono (fun r _ e => (.inr (by rw [e]; rfl) : r = lb \/ (Value.slice (some ⟨g, 0, none⟩) ps.length cap).ownBlock = some r))) (fun r hr e => e), .inl rfl, ?_, fun q hq => ?_⟩
      . exact setE_map ps k p _ _ HP.out
      . exact ErrZ.none _ _
      rcases List.mem_or_eq_of_mem_set hq with h | h
      . exact .inl h
      right; rw [h]; intro b hb; have := (X3.out.lt b hb).1; omega
  have hxn := hR.none_ h0
  subst hxn
  rcases hR.chk.pos h0 with hu | ⟨q, hu⟩
  all_goals
    subst hu
    have hck := Lib.hid (ErrZ.of (hR.chk.mono hz))
    clear hR IT CK
    go_wp2_with fail
    go_ret
    rw [replaceW_no h0]
    have hba := B2.out.alloc B2.out.size (.cells #[.int .i64 (kindI fs), .string (B (stzT fs)), .slice none 0 0] 80)
    exact ⟨_, ev, ps, rfl, H.out.below hba (Nat.le_refl _), rfl, Only.of_below hba (Nat.le_refl _), .inl rfl, hck.out.below ((Below.refl _ _).alloc (Nat.le_refl _) _) (Nat.le_refl _), fun p hp => .inl hp⟩
end Go.Proofs.YtfjklpgmnakcaaaGreatDoor
namespace Go.Proofs.YtfjklpgmnakcaaaGreatDoor
open Go.RowKit Go.Shelf
attribute [local go_sem] Oper.semAt_some errV_0
theorem gapP_le {ps : List Pr} {id : Int} {k : Nat} (h : gapP ps id = some k) : k <= ps.length := by
  unfold gapP at h
  split at h
  . cases h; omega
  obtain ⟨q, hq, rfl⟩ := Option.map_eq_some_iff.1 h
  obtain ⟨p, hp, _⟩ := findP_lt hq
  have := (List.getElem?_eq_some_iff.1 hp).1
  omega
theorem itemOf_num (fs : List Fld) (nx : Int) : numE (itemOf fs) nx = nx /\ nextE (itemOf fs) nx = nx + 1 := ⟨rfl, rfl⟩
theorem len_any (lb : Nat) (ev : Value) (ps : List Pr) (nx : Int) (w : World) (h : LR w lb ev ps nx) (hps : ps.length <= 1000000) :
    Calls Tryz.prog 18 #[ptr lb] w fun e w' => e = .returned (.int .i64 ((stzP 0 ps).length : Nat)) /\ Below w.heap.size w w' :=
  len_gen ps ev (some ⟨lb, 0, none⟩) w (fun _ hB => AllR.of (h.below hB (Nat.le_refl _))) hps
theorem putE_map (ps : List Pr) (k : Nat) (e : En) (x : Value) : (ps.take k ++ (e, x) :: ps.drop k).map Prod.fst = putE (ps.map Prod.fst) k e := by
  unfold putE
  rw [List.map_append, List.map_cons, List.map_take, List.map_drop]
theorem LA.insert {w w1 w2 w' : World} {lb : Nat} {ev v' : Value} {ps : List Pr} {nx nx' : Int} {k : Nat} {q : Pr} {lo : Nat} (h : LA w1 lb ev ps nx) (hb1 : Below w.heap.size w w1) (hlb : lb < w.heap.size) (hevb : ∀ b, ev.ownBlock = some b -> b < w.heap.size) (hk : k <= ps.length)
    (h2 : Cells w2 lb 99 #[ev, .int .i64 (nx' - 1)]) (o12 : Only (· = lb) w1 w2)
    (hq : FldR w2 q.2 q.1.1.fields) (hqb : q.1.1.fields ≠ [] -> ∀ b, q.2.ownBlock = some b -> w.heap.size <= b /\ b < w2.heap.size)
    (hr : w'.ownsRow lo 93 4 v' (ps.length + 1) ((entCells ps).take (k * 4) ++ (entCell q ++ (entCells ps).drop (k * 4)))) (ho : Only (fun r => ev.ownBlock = some r) w2 w') (hbk : v'.ownBlock = ev.ownBlock \/ ∃ b, v'.ownBlock = some b /\ w2.heap.size <= b) :
    LA (w'.setCell ⟨lb, 0, none⟩ v') lb v' (ps.take k ++ q :: ps.drop k) nx' /\ Only (fun r => r = lb \/ ev.ownBlock = some r) w (w'.setCell ⟨lb, 0, none⟩ v') /\ (v'.ownBlock = ev.ownBlock \/ ∃ b, v'.ownBlock = some b /\ w.heap.size <= b) := by
  have hevl := h.lr.row_ne
  have hz1 := hb1.size
  have hz2 := o12.size
  have hne : v'.ownBlock ≠ some lb := by
    rcases hbk with e | ⟨b, e, hb⟩
    . rw [e]; exact hevl
    rw [e]; intro q; have : b = lb := Option.some.inj q; omega
  have o2 : Only (fun r => r = lb \/ ev.ownBlock = some r) w1 w' := (o12.mono (fun r _ e => .inl e)).trans ho (fun r _ e => .inr e)
  have o3 : Only (fun r => r = lb \/ ev.ownBlock = some r) w1 (w'.setCell ⟨lb, 0, none⟩ v') := o2.setCell (p := ⟨lb, 0, none⟩) (.inl (.inl rfl)) _
  have hl' : Cells w' lb 99 #[ev, .int .i64 (nx' - 1)] := h2.only ho hevl
  have hmem : ∀ y ∈ ps.take k ++ q :: ps.drop k, y ∈ ps \/ y = q := fun y hy => by
    rcases List.mem_append.1 hy with a | a
    . exact .inl (List.mem_of_mem_take a)
    rcases List.mem_cons.1 a with a | a
    . exact .inr a
    exact .inl (List.mem_of_mem_drop a)
  have hqn : q.1.1.fields ≠ [] -> ∀ b, q.2.ownBlock = some b -> b ≠ lb /\ ev.ownBlock ≠ some b /\ v'.ownBlock ≠ some b := fun hn b hb => by
    obtain ⟨a1, a2⟩ := hqb hn b hb
    have a3 : ev.ownBlock ≠ some b := fun e => by have := hevb b e; omega
    refine ⟨by omega, a3, ?_⟩
    rcases hbk with e | ⟨b', e, hb'⟩
    . rw [e]; exact a3
    rw [e]; intro q; have : b' = b := Option.some.inj q; omega
  refine ⟨⟨⟨?_, ⟨?_, ?_⟩⟩, ?_⟩, (Only.of_below hb1 (Nat.le_refl _)).trans o3 (fun r _ e => e), ?_⟩
  . have := hl'.set 0 v'
    simpa [List.setIfInBounds_toArray, List.set] using this
  . have hlen : (ps.take k ++ q :: ps.drop k).length = ps.length + 1 := by rw [List.length_append, List.length_cons, List.length_take, List.length_drop]; omega
    rw [hlen, entCells_append, show entCells (q :: ps.drop k) = entCell q ++ entCells (ps.drop k) from rfl, entCells_take, entCells_drop]
    exact row_cell (p := ⟨lb, 0, none⟩) (rowBase hr (Nat.zero_le _)) hne _
  . intro y hy
    rcases hmem y hy with hy | rfl
    . refine (h.lr.ents.each y hy).only o3 (fun hn b hb e => ?_)
      obtain ⟨a1, a2⟩ := h.apart y hy hn b hb
      rcases e with e | e
      . exact a1 e
      exact a2 e
    refine hq.only ((ho.mono (S' := fun r => r = lb \/ ev.ownBlock = some r) (fun r _ e => .inr e)).setCell (p := ⟨lb, 0, none⟩) (.inl (.inl rfl)) v') (fun hn b hb e => ?_)
    obtain ⟨a1, a2, _⟩ := hqn hn b hb
    rcases e with e | e
    . exact a1 e
    exact a2 e
  . intro y hy hn b hb
    rcases hmem y hy with hy | rfl
    . obtain ⟨a1, a2⟩ := h.apart y hy hn b hb
      refine ⟨a1, ?_⟩
      have hb1' := (h.lr.ents.each y hy).1.lt hn b hb
      rcases hbk with e | ⟨b', e, hb'⟩
      . rw [e]; exact a2
      rw [e]; intro q; have : b' = b := Option.some.inj q; omega
    obtain ⟨a1, _, a3⟩ := hqn hn b hb
    exact ⟨a1, a3⟩
  rcases hbk with e | ⟨b, e, hb⟩
  . exact .inl e
  exact .inr ⟨b, e, by omega⟩
theorem insert_list (lb : Nat) (ev : Value) (ps : List Pr) (nx id : Int) (fs : List Fld) (v : Value) (w : World) (h : LA w lb ev ps nx) (hps : ps.length <= 10000) (hnx : -1000000 <= nx /\ nx <= 1000000) (hs : FldR w v fs) (hfs : Fine7 fs) :
    Calls Tryz.prog 69 #[ptr lb, .int .i64 id, v] w fun e w' => ∃ u ev' ps', e = .returned (.tuple #[.int .i64 (insertW (gapP ps id) (decide ((stzP 0 ps).length = 400)) ⟨ps.map Prod.fst, nx⟩ fs).id, u]) /\ WrR w lb ev ps (insertW (gapP ps id) (decide ((stzP 0 ps).length = 400)) ⟨ps.map Prod.fst, nx⟩ fs) u w' ev' ps' := by
  have GP := Lib.hid (gap_any lb ev ps nx id w h.lr (by omega))
  have H := Lib.hid h
  have HS := Lib.hid hs
  obtain ⟨va, vc, rfl⟩ := hs.form
  clear h hs
  unfold ptr at *
  generalize hfl : decide ((stzP 0 ps).length = 400) = full
  have HFL := Lib.hid hfl
  clear hfl
  cases hf : gapP ps id with
  | none =>
    rw [hf] at GP
    go_enter Tryz.func69, Tryz.ntmps69
    go_wp2_with fail
    refine GP.out.mono ?_
    rintro e w1 ⟨⟨k, rfl, _⟩, b1⟩
    dsimp only [Option.isSome]
    go_wp2_with fail
    go_ret2
    exact ⟨_, ev, ps, rfl, H.out.below b1 (Nat.le_refl _), rfl, Only.of_below b1 (Nat.le_refl _), .inl rfl, ErrZ.err _ _ 7 (by decide), fun p hp => .inl hp⟩
  | some k =>
  rw [hf] at GP
  have hkl := gapP_le hf
  clear hf
  go_enter Tryz.func69, Tryz.ntmps69
  go_wp2_with fail
  refine GP.out.mono ?_
  rintro e w1 ⟨⟨k', rfl, hk'⟩, b1⟩
  obtain rfl := hk' k rfl
  dsimp only [Option.isSome]
  have hs1 := HS.out.below b1 (Nat.le_refl _)
  have IT := Lib.hid (item_any fs _ w1 hs1.1 hs1.2 (by have := hfs.len; omega) hfs.each)
  have B1 := Lib.hid b1
  have hz := b1.size
  clear GP b1 hs1 hk'
  go_wp2_with fail
  refine IT.out.mono ?_
  rintro e w2 ⟨u, x, hR⟩
  have B2 := Lib.hid (B1.out.trans (hR.below.mono hz))
  have hz2 := hR.below.size
  obtain rfl := hR.ret
  by_cases h0 : chkN fs = 0
  . have hu := hR.chk.zero h0
    subst hu
    have hx := Lib.hid (hR.own h0)
    obtain ⟨xa, xc, rfl, _⟩ := own_slice (hR.own h0)
    have hki : kindI fs = 3 := if_pos h0
    have hst : stzT fs = foldG fs := if_pos h0
    rw [hki, hst]
    clear hR IT
    have hba := B2.out.alloc B2.out.size (.cells #[.int .i64 3, .string (B (foldG fs)), .slice xa fs.length xc] 80)
    have LN := Lib.hid (len_any lb ev ps nx _ (H.out.lr.below hba (Nat.le_refl _)) (by omega))
    unfold ptr at LN
    have HBA := Lib.hid hba
    clear hba
    have hsl := stzG_len (κ := fun p : Pr => p.1.1.kind) 0 ps
    go_wp2_with fail
    refine LN.out.mono ?_
    rintro e w3 ⟨rfl, b3⟩
    have B3 := Lib.hid (HBA.out.trans (b3.mono HBA.out.size))
    have hz3 := b3.size
    rw [World.size_alloc] at hz3
    have CI : Cells w3 w2.heap.size 80 #[.int .i64 3, .string (B (foldG fs)), .slice xa fs.length xc] := (Cells.new w2 _ _).below b3 (by simp)
    have X3 := Lib.hid (own_kept (hx.out.alloc (.cells #[.int .i64 3, .string (B (foldG fs)), .slice xa fs.length xc] 80)) b3 (Nat.le_refl _))
    by_cases h4 : (stzP 0 ps).length = 400
    . obtain rfl : full = true := by rw [<- HFL.out]; exact decide_eq_true h4
      have h4' : (((stzP 0 ps).length : Nat) : Int) = 400 := by omega
      clear b3 LN CI
      rw [h4']
      go_wp2_with fail
      go_ret2
      rw [insertW_full h0]
      exact ⟨_, ev, ps, rfl, H.out.below B3.out (Nat.le_refl _), rfl, Only.of_below B3.out (Nat.le_refl _), .inl rfl, ErrZ.err _ _ 11 (by decide), fun p hp => .inl hp⟩
    obtain rfl : full = false := by rw [<- HFL.out]; exact decide_eq_false h4
    have h4' : ((((stzP 0 ps).length : Nat) : Int) == 400) = false := beq_eq_false_iff_ne.2 (by omega)
    have L3 := Lib.hid (H.out.below B3.out (Nat.le_refl _))
    have EN := Lib.hid (enter7_any (itemOf fs) xa fs.length xc lb ev nx w3 L3.out.lr.head hnx)
    rw [(itemOf_num fs nx).1, (itemOf_num fs nx).2] at EN
    unfold itemOf ptr at EN
    dsimp only at EN
    have i0 : w3.cell? ⟨w2.heap.size, 0, none⟩ = some (.int .i64 3) := CI.cell 0
    have i1 : w3.cell? ⟨w2.heap.size, 1, none⟩ = some (.string (B (foldG fs))) := CI.cell 1
    have i2 : w3.cell? ⟨w2.heap.size, 2, none⟩ = some (.slice xa fs.length xc) := CI.cell 2
    clear b3 LN CI
    generalize (stzP 0 ps).length = ll at *
    go_wp2_with fail
    refine EN.out.mono ?_
    rintro e w4 ⟨rfl, hc4, o34⟩
    have EO := Lib.hid (show ∃ A n c, ev = .slice A n c from by obtain ⟨A, c, e, _⟩ := L3.out.lr.ents.empty; exact ⟨A, _, c, e⟩)
    have HC4 := Lib.hid hc4
    have O34 := Lib.hid o34
    clear EN hc4 o34 i0 i1 i2
    go_wp2_with fail
    obtain ⟨wa, hwa⟩ : ∃ wa, wa = w4.alloc (.cells #[.int .i64 3, .string (B (foldG fs)), .slice xa fs.length xc, .int .i64 nx] 93) := ⟨_, rfl⟩
    have L3' := L3.out
    obtain ⟨ea, en, ec, rfl⟩ := EO.out
    have hza : wa.heap.size = w4.heap.size + 1 := by rw [hwa]; simp
    have hz4 := O34.out.size
    have hlb3 := L3'.lr.head.lt
    have CA : Cells wa lb 99 #[.slice ea en ec, .int .i64 (nx + 1 - 1)] := by rw [hwa]; exact HC4.out.alloc _
    have CE : Cells wa w4.heap.size 93 #[.int .i64 3, .string (B (foldG fs)), .slice xa fs.length xc, .int .i64 nx] := by rw [hwa]; exact Cells.new _ _ _
    have O3a : Only (· = lb) w3 wa := by rw [hwa]; exact O34.out.alloc _
    have RA : wa.ownsRow 0 93 4 (.slice ea en ec) ps.length (entCells ps) := row_only L3'.lr.ents.row O3a (fun b hb e => L3'.lr.row_ne (by rw [hb]; exact congrArg some e))
    have XA := Lib.hid (row_only X3.out O3a (fun b hb e => by
      have h1 := (X3.out.lt b hb).1
      have h2 := H.out.lr.head.lt
      omega))
    rw [<- hwa]
    clear hwa
    have INS := Lib.hid (insert7_any 0 (.slice ea en ec) ps.length k' wa.heap.size (entCells ps) [.int .i64 3, .string (B (foldG fs)), .slice xa fs.length xc, .int .i64 nx] ((wa.alloc (.cells #[.int .i64 3, .string (B (foldG fs)), .slice xa fs.length xc, .int .i64 nx] 93)).drew) (show ((wa.alloc (.cells #[.int .i64 3, .string (B (foldG fs)), .slice xa fs.length xc, .int .i64 nx] 93)).drew).ownsRow 0 93 4 (.slice ea en ec) ps.length (entCells ps) from RA.alloc _) (entCells_ones L3'.lr.ents) hkl (by omega) (Nat.zero_le _) rfl (show Cells ((wa.alloc (.cells #[.int .i64 3, .string (B (foldG fs)), .slice xa fs.length xc, .int .i64 nx] 93)).drew) wa.heap.size 93 _ from Cells.new wa _ _) (fun e => by have := (RA.lt _ e).2; omega) (by intro u hu; simp at hu; rcases hu with rfl | rfl | rfl | rfl <;> rfl))
    unfold sl InsR at INS
    have c0 : wa.cell? ⟨lb, 0, none⟩ = some (.slice ea en ec) := CA.cell 0
    have c0a : ∀ o, (wa.alloc o).cell? ⟨lb, 0, none⟩ = some (.slice ea en ec) := fun o => (CA.alloc o).cell 0
    have j0 : wa.cell? ⟨w4.heap.size, 0, none⟩ = some (.int .i64 3) := CE.cell 0
    have j1 : wa.cell? ⟨w4.heap.size, 1, none⟩ = some (.string (B (foldG fs))) := CE.cell 1
    have j2 : wa.cell? ⟨w4.heap.size, 2, none⟩ = some (.slice xa fs.length xc) := CE.cell 2
    have j3 : wa.cell? ⟨w4.heap.size, 3, none⟩ = some (.int .i64 nx) := CE.cell 3
    have CAH := Lib.hid CA
    have CEH := Lib.hid CE
    have O3H := Lib.hid O3a
    have hevn := L3'.lr.row_ne
    have HEN := Lib.hid hevn
    have HEV := Lib.hid (show ∀ b, (Value.slice ea en ec).ownBlock = some b -> b < w.heap.size from fun b hb => (H.out.lr.ents.row.lt b hb).2)
    have hlbw := H.out.lr.head.lt
    have hzb := B3.out.size
    have HZA := Lib.hid hza
    clear CA CE O3a RA hevn L3' hza
    go_region_law (go_simp; go_at_call 94; refine INS.out.mono ?_; rintro e w6 ⟨v', rfl, hr6, ho6, hbk6⟩; obtain ⟨g6, cap6, rfl⟩ := ownsRow_succ hr6; have hc6 := Lib.hid ((CAH.out.alloc _).drew.only ho6 HEN.out); have hce6 := Lib.hid ((CEH.out.alloc _).drew.only ho6 (fun e => by have := HEV.out _ e; omega)); have k0 : w6.cell? ⟨lb, 0, none⟩ = some (.slice ea en ec) := hc6.out.cell 0; have kf0 := hc6.out.frozen 0; have ho6' := Lib.hid ho6)
    all_goals
      have j6 : (w6.setCell ⟨lb, 0, none⟩ (.slice (some ⟨g6, 0, none⟩) (ps.length + 1) cap6)).cell? ⟨w4.heap.size, 3, none⟩ = some (.int .i64 nx) := (hce6.out.other (p := ⟨lb, 0, none⟩) (by show w4.heap.size ≠ lb; omega) _).cell 3
      go_wp2_with fail
    all_goals
      go_ret2
      rw [insertW_yes h0]
      have hxq : FldR ((wa.alloc (.cells #[.int .i64 3, .string (B (foldG fs)), .slice xa fs.length xc, .int .i64 nx] 93)).drew) (.slice xa fs.length xc) fs := FldR.own ((show wa.drew.ownsRow w1.heap.size 55 2 (.slice xa fs.length xc) fs.length (cellsF fs) from XA.out).alloc _)
      have hzaa : ((wa.alloc (.cells #[.int .i64 3, .string (B (foldG fs)), .slice xa fs.length xc, .int .i64 nx] 93)).drew).heap.size = wa.heap.size + 1 := by show (wa.alloc _).heap.size = _; rw [World.size_alloc]
      obtain ⟨q1, q2, q3⟩ := LA.insert (q := ((itemOf fs, nx), .slice xa fs.length xc)) (nx' := nx + 1) L3.out B3.out hlbw HEV.out hkl ((CAH.out.alloc _).drew) ((O3H.out.alloc _).drew) hxq (fun _ b hb => ⟨by have := (XA.out.lt b hb).1; omega, by have := (XA.out.lt b hb).2; omega⟩) hr6 ho6'.out (hbk6.imp (fun h => h) fun h => ⟨_, h, by omega⟩)
      exact ⟨_, _, _, rfl, q1, putE_map ps k' (itemOf fs, nx) _, q2, q3, ErrZ.none _ _, fun q hq => by
        rcases List.mem_append.1 hq with h | h
        . exact .inl (List.mem_of_mem_take h)
        rcases List.mem_cons.1 h with h | h
        . right; rw [h]; intro b hb; have := (XA.out.lt b hb).1; omega
        exact .inl (List.mem_of_mem_drop h)⟩
  have hxn := hR.none_ h0
  subst hxn
  rcases hR.chk.pos h0 with hu | ⟨q, hu⟩
  all_goals
    subst hu
    have hck := Lib.hid (ErrZ.of (hR.chk.mono hz))
    clear hR IT
    go_wp2_with fail
    go_ret2
    rw [insertW_no h0]
    have hba := B2.out.alloc B2.out.size (.cells #[.int .i64 (kindI fs), .string (B (stzT fs)), .slice none 0 0] 80)
    exact ⟨_, ev, ps, rfl, H.out.below hba (Nat.le_refl _), rfl, Only.of_below hba (Nat.le_refl _), .inl rfl, hck.out.below ((Below.refl _ _).alloc (Nat.le_refl _) _) (Nat.le_refl _), fun p hp => .inl hp⟩
end Go.Proofs.YtfjklpgmnakcaaaGreatDoor
namespace Go.Proofs.YtfjklpgmnakcaaaGreatDoor
open Go.RowKit Go.Shelf
attribute [local go_sem] Oper.semAt_some errV_0
structure AccC (w wr : World) (lb : Nat) (ev : Value) (ps : List Pr) (nx : Int) : Prop where
  head : Cells wr lb 99 #[ev, .int .i64 (nx - 1)]
  row : wr.ownsRow w.heap.size 93 4 ev ps.length (entCells ps)
  each : ∀ p ∈ ps, wr.ownsRow w.heap.size 55 2 p.2 p.1.1.fields.length (cellsF p.1.1.fields)
  below : Below w.heap.size w wr
  lb : w.heap.size <= lb
theorem own_cells_ne {W : World} {lo n b : Nat} {t u : TypeId} {sz : Nat} {v : Value} {xs : List Value} {cs : Array Value} (h : W.ownsRow lo t sz v n xs) (hc : Cells W b u cs) (ht : t ≠ u) : v.ownBlock ≠ some b := by
  intro e
  rcases h.2 with ⟨q, _⟩ | ⟨g, cap, cur, q, _, hg, _⟩
  . rw [q] at e; cases e
  rw [q] at e
  have : g = b := Option.some.inj e
  subst this
  have := hg.symm.trans hc
  injection this with this
  injection this with _ h2 _
  exact ht h2
theorem own_own_ne {W : World} {lo lo' n m : Nat} {t u : TypeId} {sz sz' : Nat} {v x : Value} {xs ys : List Value} (h : W.ownsRow lo t sz v n xs) (g : W.ownsRow lo' u sz' x m ys) (ht : t ≠ u) : ∀ b, v.ownBlock = some b -> x.ownBlock ≠ some b := by
  intro b hb
  rcases h.2 with ⟨q, _⟩ | ⟨g', cap, cur, q, _, hg, _⟩
  . rw [q] at hb; cases hb
  rw [q] at hb
  obtain rfl : g' = b := Option.some.inj hb
  exact own_cells_ne g hg (fun e => ht e.symm)
theorem AccC.la {w wr : World} {lb : Nat} {ev : Value} {ps : List Pr} {nx : Int} (h : AccC w wr lb ev ps nx) : LA wr lb ev ps nx :=
  ⟨⟨h.head, ⟨rowBase h.row (Nat.zero_le _), fun p hp => FldR.own (h.each p hp)⟩⟩, fun p hp _ b hb =>
    ⟨fun e => own_cells_ne (h.each p hp) h.head (by decide) (by rw [<- e]; exact hb), own_own_ne (h.each p hp) h.row (by decide) b hb⟩⟩
theorem AccC.below' {w wr w2 : World} {lb : Nat} {ev : Value} {ps : List Pr} {nx : Int} (h : AccC w wr lb ev ps nx) (hb : Below wr.heap.size wr w2) : AccC w w2 lb ev ps nx :=
  ⟨h.head.below hb h.head.lt, own_kept h.row hb (Nat.le_refl _), fun p hp => own_kept (h.each p hp) hb (Nat.le_refl _), h.below.trans (hb.mono h.below.size), h.lb⟩
theorem AccC.snoc {w w5 w6 : World} {lb : Nat} {ev v' : Value} {ps : List Pr} {nx : Int} {p : Pr} (h : AccC w w5 lb ev ps nx) (hp : w5.ownsRow w.heap.size 55 2 p.2 p.1.1.fields.length (cellsF p.1.1.fields))
    (ho : w6.ownsRow 0 93 4 v' (ps.length + 1) (entCells ps ++ entCell p)) (h6 : Cells w6 lb 99 #[ev, .int .i64 (nx - 1)]) (hk : v'.ownBlock = ev.ownBlock \/ ∃ k, v'.ownBlock = some k /\ w5.heap.size <= k /\ k < w6.heap.size) (o6 : Only (fun r => some r = ev.ownBlock) w5 w6) :
    AccC w (w6.setCell ⟨lb, 0, none⟩ v') lb v' (ps ++ [p]) nx := by
  have hne : v'.ownBlock ≠ some lb := own_cells_ne ho h6 (by decide)
  have hz := h.below.size
  have hrow : w6.ownsRow w.heap.size 93 4 v' (ps.length + 1) (entCells ps ++ entCell p) := by
    rcases ho.2 with ⟨q, _⟩ | ⟨g2, cap2, cur2, q, _, rest⟩
    . exact ⟨ho.1, .inl ⟨q, by omega⟩⟩
    refine ⟨ho.1, .inr ⟨g2, cap2, cur2, q, ?_, rest⟩⟩
    rcases hk with hk | ⟨k, hk, h1, _⟩
    . exact (h.row.lt g2 (by rw [<- hk, q]; rfl)).1
    rw [q] at hk
    have : g2 = k := Option.some.inj hk
    omega
  have keep : ∀ {x : Value} {m : Nat} {ys : List Value}, w5.ownsRow w.heap.size 55 2 x m ys -> (w6.setCell ⟨lb, 0, none⟩ v').ownsRow w.heap.size 55 2 x m ys := fun hx =>
    have h6x := row_only hx o6 (fun b hb e => own_own_ne hx h.row (by decide) b hb e.symm)
    row_cell (p := ⟨lb, 0, none⟩) h6x (own_cells_ne h6x h6 (by decide)) _
  refine ⟨?_, ?_, ?_, ?_, h.lb⟩
  . have := h6.set 0 v'
    simpa [List.setIfInBounds_toArray, List.set] using this
  . rw [List.length_append, entCells_snoc]
    exact row_cell (p := ⟨lb, 0, none⟩) hrow hne _
  . intro q hq
    rcases List.mem_append.1 hq with hq | hq
    . exact keep (h.each q hq)
    rw [List.mem_singleton.1 hq]; exact keep hp
  have b6 : Below w.heap.size w5 w6 := o6.to_below hz (fun r hr e => by
    have := (h.row.lt r e.symm).1
    omega)
  exact (h.below.trans b6).setCell (p := ⟨lb, 0, none⟩) h.lb _
theorem copy_list (lb : Nat) (ev : Value) (ps : List Pr) (nx : Int) (w : World) (h : LA w lb ev ps nx) (ok : EntsOk ps) :
    Calls Tryz.prog 40 #[ptr lb] w fun e w' => ∃ lb' ev' ps', e = .returned (ptr lb') /\ LA w' lb' ev' ps' nx /\ ps'.map Prod.fst = ps.map Prod.fst /\ Below w.heap.size w w' /\ w.heap.size <= lb' /\ (∀ b, ev'.ownBlock = some b -> w.heap.size <= b) /\ (∀ p ∈ ps', ∀ b, p.2.ownBlock = some b -> w.heap.size <= b) := by
  obtain ⟨i0, hi, hz0, hz1, hz2⟩ := info_parts infoEnt
  obtain ⟨A, cap, rfl, hle⟩ := h.lr.ents.empty
  have c0 : w.cell? ⟨lb, 0, none⟩ = some (.slice A ps.length cap) := h.lr.head.cell 0
  have c1 : w.cell? ⟨lb, 1, none⟩ = some (.int .i64 (nx - 1)) := h.lr.head.cell 1
  have hll := h.lr.head.lt
  have H := Lib.hid h
  have hlen := ok.len
  have HF := Lib.hid ok.fields
  have acc0 : AccC w (w.alloc (.cells #[.slice none 0 0, .int .i64 (nx - 1)] 99)) w.heap.size (.slice none 0 0) [] nx :=
    ⟨Cells.new _ _ _, ⟨rfl, .inl ⟨rfl, rfl⟩⟩, (fun p h => by cases h), (Below.refl _ _).alloc (Nat.le_refl _) _, Nat.le_refl _⟩
  have ACC0 := Lib.hid acc0
  clear h ok acc0
  unfold ptr
  go_enter Tryz.func40, Tryz.ntmps40
  go_wp2_with fail
  go_loopw [19] (fun i wr => ∃ (k : Nat) (ev' : Value) (qs : List Pr), k <= ps.length /\ i = .int .i64 k /\ AccC w wr w.heap.size ev' qs nx /\ qs.map Prod.fst = (ps.take k).map Prod.fst) (fun i _ => ps.length - (intOf i).toNat)
  case atStart => exact ⟨0, _, [], Nat.zero_le _, rfl, ACC0.out, rfl⟩
  case round =>
  obtain ⟨k, ev', qs, hk, rfl, hacc, hqs⟩ := hrel
  by_cases hlt : k < ps.length
  . obtain ⟨p, hp⟩ : ∃ p, ps[k]? = some p := ⟨_, List.getElem?_eq_getElem hlt⟩
    have hb := hacc.below
    have hE := H.out.lr.ents.below hb (Nat.le_refl _)
    obtain ⟨g, cap', pa, pc, e1, _, hg, e2, d0, d1, d2, d3⟩ := hE.here hp
    cases e1
    have hfr := hE.each p (List.mem_of_getElem? hp)
    have hfn := HF.out p (List.mem_of_getElem? hp)
    rw [e2] at d2
    have TK := Lib.hid (show (ps.take (k + 1)).map Prod.fst = (ps.take k).map Prod.fst ++ [p.1] by rw [List.take_add_one, hp]; simp)
    have hkl : qs.length = k := by
      have := congrArg List.length hqs
      rw [List.length_map, List.length_map, List.length_take] at this
      omega
    subst hkl
    have ACC := Lib.hid hacc
    have HQ := Lib.hid hqs
    have HFR := Lib.hid hfr
    have E2 := Lib.hid e2
    obtain ⟨ea, ec, rfl, hec⟩ := own_slice hacc.row
    clear hacc hqs hE hfr hp e2
    go_wp2_with fail
    obtain ⟨wa, hwa⟩ : ∃ wa, wa = wr.alloc (.cells #[.int .i64 p.1.1.kind, .string (B p.1.1.raw), .slice pa p.1.1.fields.length pc, .int .i64 p.1.2] 93) := ⟨_, rfl⟩
    have hba := (Below.refl wr.heap.size wr).alloc (Nat.le_refl _) (.cells #[.int .i64 p.1.1.kind, .string (B p.1.1.raw), .slice pa p.1.1.fields.length pc, .int .i64 p.1.2] 93)
    rw [<- hwa] at hba
    have CE : Cells wa wr.heap.size 93 #[.int .i64 p.1.1.kind, .string (B p.1.1.raw), .slice pa p.1.1.fields.length pc, .int .i64 p.1.2] := by rw [hwa]; exact Cells.new _ _ _
    have hza : wa.heap.size = wr.heap.size + 1 := by rw [hwa]; simp
    rw [<- hwa]
    clear hwa d0 d1 d2 d3
    have ACA := Lib.hid (ACC.out.below' hba)
    have g0 : wa.cell? ⟨w.heap.size, 0, none⟩ = some (.slice ea qs.length ec) := ACA.out.head.cell 0
    have j0 : wa.cell? ⟨wr.heap.size, 0, none⟩ = some (.int .i64 p.1.1.kind) := CE.cell 0
    have j1 : wa.cell? ⟨wr.heap.size, 1, none⟩ = some (.string (B p.1.1.raw)) := CE.cell 1
    have j2 : wa.cell? ⟨wr.heap.size, 2, none⟩ = some (.slice pa p.1.1.fields.length pc) := CE.cell 2
    have j3 : wa.cell? ⟨wr.heap.size, 3, none⟩ = some (.int .i64 p.1.2) := CE.cell 3
    have IT0 := item7_any p wa.drew ((HFR.out.below hba (Nat.le_refl _)).below (Below.refl wa.heap.size wa).drew (Nat.le_refl _)) hfn
    unfold entV at IT0
    rw [E2.out] at IT0
    have IT := Lib.hid IT0
    have CEH := Lib.hid CE
    have HZA := Lib.hid hza
    have hwz := ACA.out.below.size
    have ACD := Lib.hid (ACA.out.below' (w2 := wa.drew) (Below.refl _ _).drew)
    have HNE := Lib.hid ACA.out.la.lr.row_ne
    clear CE IT0 hza hba
    go_region_law (first
      | (go_simp; go_at_call 66; refine IT.out.mono ?_; rintro e w5 ⟨x, rfl, hx, b5⟩; obtain ⟨xa, xc, rfl, _⟩ := own_slice hx; have acc5 := Lib.hid (ACD.out.below' b5); have hx5 := Lib.hid hx; have ce5 := Lib.hid (CEH.out.drew.below b5 CEH.out.lt); have q0 : w5.cell? ⟨w.heap.size, 0, none⟩ = some (.slice ea qs.length ec) := acc5.out.head.cell 0; have q3 : w5.cell? ⟨wr.heap.size, 3, none⟩ = some (.int .i64 p.1.2) := ce5.out.cell 3; have q0a : ∀ o, (w5.alloc o).cell? ⟨w.heap.size, 0, none⟩ = some (.slice ea qs.length ec) := fun o => (acc5.out.head.alloc o).cell 0; have hr5 := Lib.hid (rowBase acc5.out.row (Nat.zero_le _)); have hc5 := Lib.hid acc5.out.head; have B5 := Lib.hid b5; clear hx b5)
      | (refine step_append_own rfl (.tmp 27) (.tmp 33) 90 rfl 93 i0 _ 4 56 Tryz.underlying90 hi hz0 hz1 hz2 rfl (by decide) (.slice ea qs.length ec) qs.length (entCells qs) (by simp [Act.eval]) (by exact hr5.out.alloc _) ⟨w5.heap.size, 0, none⟩ 1 1 [.int .i64 p.1.1.kind, .string (B p.1.1.raw), .slice xa p.1.1.fields.length xc, .int .i64 p.1.2] (by simp [Act.eval]) rfl (cells_new_add w5 93 [.int .i64 p.1.1.kind, .string (B p.1.1.raw), .slice xa p.1.1.fields.length xc, .int .i64 p.1.2]) (by intro u hu; simp at hu; rcases hu with rfl | rfl | rfl | rfl <;> rfl) (by unfold maxLen; omega) (by omega) ?_; intro v' w' ho hgr hbk; obtain ⟨⟨g', cap', rfl⟩, hg', hbx, hkk, hon⟩ := appended hc5.out hr5.out HNE.out ((Below.refl _ w5).alloc (Nat.le_refl _) _) ho hgr hbk; have k0 : w'.cell? ⟨w.heap.size, 0, none⟩ = some (.slice ea qs.length ec) := hg'.cell 0; have kf0 := hg'.frozen 0))
    all_goals go_wp2_with fail
    all_goals
      have acc6 := acc5.out.snoc (p := (p.1, .slice xa p.1.1.fields.length xc)) (rowBase hx5.out hwz) ho hg' hkk hon
      go_roundw
      case rel =>
        refine ⟨qs.length + 1, .slice (some ⟨g', 0, none⟩) (qs.length + 1) cap', qs ++ [(p.1, .slice xa p.1.1.fields.length xc)], hlt, by go_num, acc6, ?_⟩
        rw [TK.out, List.map_append, HQ.out]; rfl
      case measure => simp [intOf]; omega
  obtain rfl : k = ps.length := by omega
  rw [List.take_length] at hqs
  have hla := hacc.la
  have hrow := hacc.row
  have hb := hacc.below
  have hea := hacc.each
  clear H HF ACC0 c0 c1
  go_wp2_with fail
  go_ret
  exact ⟨_, ev', qs, rfl, hla, hqs, hb, Nat.le_refl _, fun b hb => (hrow.lt b hb).1, fun p hp b hb => ((hea p hp).lt b hb).1⟩
end Go.Proofs.YtfjklpgmnakcaaaGreatDoor
namespace Go.Proofs.YtfjklpgmnakcaaaGreatDoor
open Go.RowKit Go.Shelf
structure EntsQ (w : World) (v : Value) (ps : List Pr) : Prop where
  row : w.ownsRow 0 104 4 v ps.length (entCells ps)
  each : ∀ p ∈ ps, Flds w p.2 p.1.1.fields
theorem EntsQ.below {w w' : World} {v : Value} {ps : List Pr} {n : Nat} (h : EntsQ w v ps) (hb : Below n w w') (hn : w.heap.size <= n) : EntsQ w' v ps :=
  ⟨own_kept h.row hb hn, fun p hp => (h.each p hp).below hb hn⟩
theorem EntsQ.here {w : World} {v : Value} {ps : List Pr} (h : EntsQ w v ps) {i : Nat} {p : Pr} (hi : ps[i]? = some p) : ∃ g cap A c, v = .slice (some ⟨g, 0, none⟩) ps.length cap /\ ps.length <= cap /\ g < w.heap.size /\ p.2 = .slice A p.1.1.fields.length c /\
    w.cell? ⟨g, i * 4, none⟩ = some (.int .i64 p.1.1.kind) /\ w.cell? ⟨g, i * 4 + 1, none⟩ = some (.string (B p.1.1.raw)) /\ w.cell? ⟨g, i * 4 + 1 + 1, none⟩ = some p.2 /\ w.cell? ⟨g, i * 4 + 1 + 1 + 1, none⟩ = some (.int .i64 p.1.2) := by
  have hlt : i < ps.length := (List.getElem?_eq_some_iff.1 hi).1
  obtain ⟨A, c, hA, _⟩ := h.each p (List.mem_of_getElem? hi)
  have hr := h.row
  rcases h.row.2 with ⟨_, hn⟩ | ⟨g, cap, cur, e, _, hg, hle, _⟩
  . omega
  rw [e] at hr
  have at_ := entCells_at ps i p hi
  refine ⟨g, cap, A, c, e, hle, (World.ownsRow.lt hr g rfl).2, hA, ?_, ?_, ?_, ?_⟩
  . rw [World.ownsRow.cellAt hr (i * 4) (by omega)]; exact at_ 0 _ rfl
  . rw [World.ownsRow.cellAt hr (i * 4 + 1) (by omega)]; exact at_ 1 _ rfl
  . rw [World.ownsRow.cellAt hr (i * 4 + 1 + 1) (by omega)]; exact at_ 2 _ rfl
  rw [World.ownsRow.cellAt hr (i * 4 + 1 + 1 + 1) (by omega)]; exact at_ 3 _ rfl
theorem EntsQ.empty {w : World} {v : Value} {ps : List Pr} (h : EntsQ w v ps) : ∃ A cap, v = .slice A ps.length cap /\ ps.length <= cap := by
  rcases h.row.2 with ⟨e, hn⟩ | ⟨g, cap, cur, e, _, hg, hle, _⟩
  . exact ⟨none, 0, by rw [e, hn], by omega⟩
  exact ⟨_, cap, e, hle⟩
theorem entsQ_none (w : World) : EntsQ w (.slice none 0 0) [] := ⟨⟨rfl, .inl ⟨rfl, rfl⟩⟩, fun p h => by cases h⟩
def findI (o : Option Nat) : Int := match o with | some k => (k : Nat) | none => -1
theorem findR_take {es : List En} {id : Int} (h : 0 < id) : findR es id = es.findIdx? fun e => e.2 == id := if_pos h
theorem findIdx_none_take {es : List En} {id : Int} {k : Nat} (h : ∀ e ∈ es.take k, e.2 ≠ id) (e : En) (he : es[k]? = some e) (hq : e.2 = id) : (es.findIdx? fun e => e.2 == id) = some k := by
  have hk := (List.getElem?_eq_some_iff.1 he).1
  refine List.findIdx?_eq_some_iff_getElem.2 ⟨hk, ?_, fun j hj => ?_⟩
  . have : es[k] = e := (List.getElem?_eq_some_iff.1 he).2
    rw [this]; simpa using hq
  have : es[j] ∈ es.take k := by
    refine List.mem_of_getElem? (i := j) ?_
    rw [List.getElem?_take, if_pos hj, List.getElem?_eq_getElem (by omega)]
  simpa using h _ this
theorem refFind_any (ps : List Pr) (v : Value) (nx id : Int) (w : World) (h : EntsQ w v ps) (hps : ps.length <= 1000000) :
    Calls Tryz.prog 52 #[.agg #[v, .int .i64 nx], .int .i64 id] w fun e w' => e = .returned (.int .i64 (findI (findR (ps.map Prod.fst) id))) /\ Below w.heap.size w w' := by
  obtain ⟨A, cap, rfl, hle⟩ := h.empty
  have HB := Lib.hid ((Below.refl w.heap.size w).alloc (Nat.le_refl _) (.cells #[.slice A ps.length cap, .int .i64 nx] 28))
  have H := Lib.hid (h.below HB.out (Nat.le_refl _))
  clear h
  by_cases hid : 0 < id
  . have FE := Lib.hid (findR_take (es := ps.map Prod.fst) hid)
    go_enter Tryz.func52, Tryz.ntmps52
    go_wp2_with fail
    go_loopw [5] (fun i wr => ∃ k : Nat, k <= ps.length /\ i = .int .i64 k /\ wr = w.alloc (.cells #[.slice A ps.length cap, .int .i64 nx] 28) /\ ∀ e ∈ (ps.map Prod.fst).take k, e.2 ≠ id) (fun i _ => ps.length - (intOf i).toNat)
    case atStart => exact ⟨0, Nat.zero_le _, rfl, rfl, fun e h => by simp at h⟩
    case round =>
    obtain ⟨k, hk, rfl, rfl, hn⟩ := hrel
    by_cases hlt : k < ps.length
    . obtain ⟨p, hp⟩ : ∃ p, ps[k]? = some p := ⟨_, List.getElem?_eq_getElem hlt⟩
      obtain ⟨g, cap', pa, pc, e1, _, hg, e2, d0, d1, d2, d3⟩ := H.out.here hp
      cases e1
      have hpe : (ps.map Prod.fst)[k]? = some p.1 := by rw [List.getElem?_map, hp]; rfl
      have HPE := Lib.hid hpe
      have HN := Lib.hid hn
      clear hp hpe hn d0 d1 d2
      by_cases hq : p.1.2 = id
      . rw [hq] at d3
        go_wp2_with fail
        go_ret
        exact ⟨by rw [FE.out, findIdx_none_take HN.out _ HPE.out hq]; rfl, HB.out⟩
      have hq' : ((p.1.2 : Int) == id) = false := beq_eq_false_iff_ne.2 hq
      go_wp2_with fail
      go_roundw
      case rel =>
        refine ⟨k + 1, hlt, by go_num, trivial, fun e he => ?_⟩
        rw [List.take_add_one, HPE.out] at he
        rcases List.mem_append.1 he with he | he
        . exact HN.out e he
        simp at he; rw [he]; exact hq
      case measure => simp [intOf]; omega
    obtain rfl : k = ps.length := by omega
    rw [show (ps.map Prod.fst).take ps.length = ps.map Prod.fst by rw [List.take_of_length_le (by simp)]] at hn
    have HN := Lib.hid hn
    clear hn
    go_wp2_with fail
    go_ret
    exact ⟨by rw [FE.out, List.findIdx?_eq_none_iff.2 (fun e he => by simpa using HN.out e he)]; rfl, HB.out⟩
  have FE := Lib.hid (show findR (ps.map Prod.fst) id = none from if_neg hid)
  have hid' : decide (0 < id) = false := decide_eq_false hid
  go_enter Tryz.func52, Tryz.ntmps52
  go_wp2_with fail
  refine wp_loop_rounds 1 ?_
  rw [rounds_succ]
  cases ps with
  | nil =>
    simp only [List.length_nil] at *
    go_wp2_with fail
    go_ret
    exact ⟨by rw [FE.out]; rfl, HB.out⟩
  | cons a r =>
  have h0' : (0 : Int) < ((a :: r).length : Int) := by simp only [List.length_cons]; omega
  generalize (a :: r).length = n at *
  go_wp2_with fail
  go_ret
  exact ⟨by rw [FE.out]; rfl, HB.out⟩
theorem lenR_snoc (es : List En) (k : Nat) (e : En) (h : es[k]? = some e) : lenR (es.take (k + 1)) = lenR (es.take k) + if 0 < e.2 then 1 else 0 := by
  unfold lenR
  rw [List.take_add_one, h, Option.toList_some, List.filter_append, List.length_append]
  congr 1
  by_cases hq : 0 < e.2
  . rw [if_pos hq, List.filter_cons, if_pos (by simpa using hq)]; rfl
  rw [if_neg hq, List.filter_cons, if_neg (by simpa using hq)]; rfl
theorem lenR_le (es : List En) : lenR es <= es.length := List.length_filter_le _ _
theorem refLen_any (ps : List Pr) (v : Value) (nx : Int) (w : World) (h : EntsQ w v ps) (hps : ps.length <= 1000000) :
    Calls Tryz.prog 76 #[.agg #[v, .int .i64 nx]] w fun e w' => e = .returned (.int .i64 (lenR (ps.map Prod.fst) : Nat)) /\ Below w.heap.size w w' := by
  obtain ⟨A, cap, rfl, hle⟩ := h.empty
  have HB := Lib.hid ((Below.refl w.heap.size w).alloc (Nat.le_refl _) (.cells #[.slice A ps.length cap, .int .i64 nx] 28))
  have H := Lib.hid (h.below HB.out (Nat.le_refl _))
  have LE := Lib.hid (fun k => lenR_le ((ps.map Prod.fst).take k))
  clear h
  go_enter Tryz.func76, Tryz.ntmps76
  go_wp2_with fail
  go_loopw [3, 4] (fun c i wr => ∃ k : Nat, k <= ps.length /\ i = .int .i64 k /\ c = .int .i64 (lenR ((ps.map Prod.fst).take k) : Nat) /\ wr = w.alloc (.cells #[.slice A ps.length cap, .int .i64 nx] 28)) (fun _ i _ => ps.length - (intOf i).toNat)
  case atStart => exact ⟨0, Nat.zero_le _, rfl, rfl, rfl⟩
  case round =>
  obtain ⟨k, hk, rfl, rfl, rfl⟩ := hrel
  have hle2 := LE.out k
  rw [List.length_take] at hle2
  by_cases hlt : k < ps.length
  . obtain ⟨p, hp⟩ : ∃ p, ps[k]? = some p := ⟨_, List.getElem?_eq_getElem hlt⟩
    obtain ⟨g, cap', pa, pc, e1, _, hg, e2, d0, d1, d2, d3⟩ := H.out.here hp
    cases e1
    have hpe : (ps.map Prod.fst)[k]? = some p.1 := by rw [List.getElem?_map, hp]; rfl
    have SN := Lib.hid (lenR_snoc _ k p.1 hpe)
    clear hp hpe d0 d1 d2
    generalize lenR ((ps.map Prod.fst).take k) = c at *
    by_cases hq : 0 < p.1.2
    . go_wp2_with fail
      go_roundw
      case rel => exact ⟨k + 1, hlt, by go_num, by rw [SN.out, if_pos hq]; go_num, trivial⟩
      case measure => simp [intOf]; omega
    have hq' : decide (0 < p.1.2) = false := decide_eq_false hq
    go_wp2_with fail
    go_roundw
    case rel => exact ⟨k + 1, hlt, by go_num, by rw [SN.out, if_neg hq]; rfl, trivial⟩
    case measure => simp [intOf]; omega
  obtain rfl : k = ps.length := by omega
  have E := Lib.hid (show (ps.map Prod.fst).take ps.length = ps.map Prod.fst by rw [List.take_of_length_le (by simp)])
  rw [E.out]
  go_wp2_with fail
  go_ret
  exact ⟨rfl, HB.out⟩
end Go.Proofs.YtfjklpgmnakcaaaGreatDoor
