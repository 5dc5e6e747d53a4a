/- IndexFollows. -/
import Derived.Test.YtiebbgbcojgeoaaGreatDoorXJK
import Derived.Test.YtiebbgbcojgeoaaGreatDoorXJF
import Derived.Test.YtiebbgbcojgeoaaGreatDoorXJP
set_option linter.unusedVariables false
namespace Go.Proofs.YtiebbgbcojgeoaaGreatDoor
open Go.RowKit Go.Maps Go.Sort Go.Shelf
attribute [local go_sem] Oper.semAt_some

/-- Sorted texts as a row of their own. -/
theorem row_sortS {W : World} {base : Nat} {v : Value} {ss ts : List (List UInt8)} (h : W.ownsRow base 9 1 v ss.length ((sortS ss).map encStr)) (e : sortS ss = ts) : W.ownsRow base 9 1 v ts.length (ts.map encStr) := by
  have hl : ss.length = ts.length := by rw [← e]; exact (sortS_perm ss).length_eq.symm
  rw [e, hl] at h
  exact h
theorem keysRow {S : Nat} {w : World} {T : Nat → Tag} {x kb yb n : Nat} {rs : List Sz} (h : IdxL S w T x kb yb n rs) : Calls Tryz.prog 42 #[.pointer (some ⟨x, 0, none⟩)] w fun e w' => ∃ A c, e = .returned (.slice A (keysR rs).length c) ∧ w'.ownsRow w.heap.size 9 1 (.slice A (keysR rs).length c) (keysR rs).length ((keysR rs).map encStr) ∧ Below w.heap.size w w' := by
  refine (idxKeys h.at_ (by have := h.n; omega)).mono ?_
  rintro e w' ⟨v, ss, rfl, nd, hm, ha⟩
  have hr := row_sortS ha.1 (keys_R nd hm)
  obtain ⟨A, c, rfl, _⟩ := row_sliceZ hr
  exact ⟨A, c, rfl, hr, ha.2.2⟩
theorem valsRow {S : Nat} {w : World} {T : Nat → Tag} {x kb yb n : Nat} {rs : List Sz} (h : IdxL S w T x kb yb n rs) (k : ByteArray) (hk : k.size ≤ maxLen) : Calls Tryz.prog 43 #[.pointer (some ⟨x, 0, none⟩), .string k] w fun e w' => ∃ A c, e = .returned (.slice A (valsR rs k.data.toList).length c) ∧ w'.ownsRow w.heap.size 9 1 (.slice A (valsR rs k.data.toList).length c) (valsR rs k.data.toList).length ((valsR rs k.data.toList).map encStr) ∧ Below w.heap.size w w' := by
  refine (idxValues h.at_ (by have := h.n; omega) k hk).mono ?_
  rintro e w' ⟨v, ss, rfl, nd, hm, ha⟩
  have hr := row_sortS ha.1 (vals_R nd hm)
  obtain ⟨A, c, rfl, _⟩ := row_sliceZ hr
  exact ⟨A, c, rfl, hr, ha.2.2⟩
theorem keys_num {rs : List Sz} : (keysR rs).length ≤ numF rs := by
  have hn : (keysR rs).Nodup := (riseS_lt _).imp fun q => lt_ne q
  rw [← allK_len]
  exact hn.length_le_of_subset fun x hx => (riseS_mem _ x).1 hx
theorem vals_num {rs : List Sz} {k : List UInt8} : (valsR rs k).length ≤ numF rs := by
  have hn : (valsR rs k).Nodup := (riseS_lt _).imp fun q => lt_ne q
  rw [← allV_len]
  refine hn.length_le_of_subset fun x hx => ?_
  obtain ⟨st, h1, h2⟩ := List.mem_flatMap.1 ((riseS_mem _ x).1 hx)
  obtain ⟨f, hf, rfl⟩ := List.mem_map.1 h2
  exact List.mem_flatMap.2 ⟨st, h1, List.mem_map.2 ⟨f, (List.mem_filter.1 hf).1, rfl⟩⟩
theorem keys_short {rs : List Sz} (h : ∀ s ∈ rs, Sh s.2) {x : List UInt8} (hx : x ∈ keysR rs) : x.length ≤ maxLen := by
  obtain ⟨st, h1, h2⟩ := List.mem_flatMap.1 ((riseS_mem _ x).1 hx)
  obtain ⟨f, hf, rfl⟩ := List.mem_map.1 h2
  have := ((h st h1).2 f hf).1
  unfold maxLen; omega
theorem vals_short {rs : List Sz} (h : ∀ s ∈ rs, Sh s.2) {k x : List UInt8} (hx : x ∈ valsR rs k) : x.length ≤ maxLen := by
  obtain ⟨st, h1, h2⟩ := List.mem_flatMap.1 ((riseS_mem _ x).1 hx)
  obtain ⟨f, hf, rfl⟩ := List.mem_map.1 h2
  have := ((h st h1).2 f (List.mem_filter.1 hf).1).2
  unfold maxLen; omega
/-- A text more behind a row. -/
theorem row_snoc8 {W : World} {g c : Nat} {ts : List (List UInt8)} {k : ByteArray} (h : W.ownsRow 0 9 1 (.slice (some ⟨g, 0, none⟩) (ts.length + 1) c) (ts.length + 1) (ts.map encStr ++ [.string k])) : Strs W (.slice (some ⟨g, 0, none⟩) (ts.length + 1) c) ((ts ++ [k.data.toList]).map B) := by
  have e : (ts ++ [k.data.toList]).map encStr = ts.map encStr ++ [.string k] := by rw [List.map_append]; rfl
  have hl : (ts ++ [k.data.toList]).length = ts.length + 1 := by simp
  rw [← e, ← hl] at h
  rw [← hl]
  exact strs_row h
theorem keep8 {a b c : World} (h : Below a.heap.size a b) (g : Below b.heap.size b c) : Below a.heap.size a c := h.trans (g.mono h.size)
/-- What a row's contract says, seen from an earlier world. -/
theorem rowFrom {f : Nat} {args : Array Value} {w W : World} {ts : List (List UInt8)} (h : Calls Tryz.prog f args W fun e w' => ∃ A c, e = .returned (.slice A ts.length c) ∧ w'.ownsRow W.heap.size 9 1 (.slice A ts.length c) ts.length (ts.map encStr) ∧ Below W.heap.size W w') (hW : Below w.heap.size w W) :
    Calls Tryz.prog f args W fun e w' => ∃ A c, e = .returned (.slice A ts.length c) ∧ w'.ownsRow 0 9 1 (.slice A ts.length c) ts.length (ts.map encStr) ∧ (∀ b, (Value.slice A ts.length c).ownBlock = some b → w.heap.size ≤ b) ∧ Below W.heap.size W w' ∧ Below w.heap.size w w' :=
  h.mono fun e w' ⟨A, c, he, hr, hb⟩ => ⟨A, c, he, row_lower hr (Nat.zero_le _), fun b e2 => Nat.le_trans hW.size (hr.lt b e2).1, hb, keep8 hW hb⟩
/-- Behind the append: in the world w' out of W. -/
theorem app8 {w W w' : World} {A : Option Addr} {c : Nat} {ts : List (List UInt8)} {k : ByteArray} {v' : Value} (hW : Below w.heap.size w W) (hlo : ∀ b, (Value.slice A ts.length c).ownBlock = some b → w.heap.size ≤ b) (ho : w'.ownsRow 0 9 1 v' (ts.length + 1) (ts.map encStr ++ [.string k])) (hg : W.grownBy w' (Value.slice A ts.length c).ownBlock) :
    ∃ g c', v' = .slice (some ⟨g, 0, none⟩) (ts.length + 1) c' ∧ Strs w' v' ((ts ++ [k.data.toList]).map B) ∧ Below w.heap.size w w' := by
  obtain ⟨g, c', rfl⟩ := ownsRow_succ ho
  exact ⟨g, c', rfl, row_snoc8 ho, hW.grown hg hW.size (fun b e => hlo b e)⟩
theorem infoStr8 : (Tryz.prog.info? 9).map (fun i => (i.zero, i.size, i.bytes)) = some (some (.string ⟨#[]⟩), 1, 16) := by kernel_rfl
/-- What was laid ahead of a call lies as it lay. -/
theorem cells_old8 {W w' : World} {k : ByteArray} (hb : Below (W.alloc (.cells #[.string k] 9)).drew.heap.size (W.alloc (.cells #[.string k] 9)).drew w') : ∀ (j : Nat) (u : Value), [Value.string k][j]? = some u → w'.cell? ((⟨W.heap.size, 0, none⟩ : Addr).add j) = some u := by
  intro j u hj
  have hc : Cells w' W.heap.size 9 #[.string k] := (hb.block _ (by simp)).trans (Cells.new W _ _)
  have ea : (⟨W.heap.size, 0, none⟩ : Addr).add j = ⟨W.heap.size, j, none⟩ := by unfold Addr.add; split <;> simp_all
  rw [ea, hc.cell j]
  simpa using hj
theorem eqNil8 {bad : Nat} {u : Value} (h : Said8 bad u) : ∀ w, (binOp BinOp.eql 27 u .nilIface).run Tryz.prog w = .ok (.bool (decide (bad = 0))) w := by
  intro w
  rcases h with ⟨h0, rfl⟩ | ⟨h0, z, rfl⟩ | ⟨h0, z, rfl⟩
  · subst h0; simp [go_sem]
  · rw [decide_eq_false h0]; simp [go_sem]
  · rw [decide_eq_false h0]; simp [go_sem]
theorem eqGuard8 {bad : Nat} {u : Value} (h : Said8 bad u) : ∀ a w, (eqGuard BinOp.eql 27 (Operand.tmp a) (Operand.const Value.nilIface) u Value.nilIface).run Tryz.prog w = .ok () w := by
  intro a w
  rcases h with ⟨h0, rfl⟩ | ⟨h0, z, rfl⟩ | ⟨h0, z, rfl⟩
  · simp [go_sem, eqGuard]
  · simp [go_sem, eqGuard]
  · simp [go_sem, eqGuard]
set_option maxRecDepth 100000 in
set_option maxHeartbeats 16000000 in
theorem followsLaw (s : ByteArray) (hs : s.size ≤ maxLen) (eds : List Ed) (hwf : ∀ ed ∈ eds, (Lit.int .i64 ed.id).wf = true) (v : Value) (k lo top : ByteArray) (hk : k.size ≤ maxLen) (hlo : lo.size ≤ maxLen) (w : World) (h : EdsIn w v eds) :
    Calls Tryz.prog 8 #[.string s, v, .agg #[.string k, .string lo, .string top]] w fun e w' => e = .returned (.bool true) ∧ Below w.heap.size w w' := by
  obtain ⟨wa, hwa⟩ : ∃ wa, wa = w.alloc (.cells #[.string k, .string lo, .string top] 80) := ⟨_, rfl⟩
  have hba : Below w.heap.size w wa := by rw [hwa]; exact (Below.refl _ _).alloc (Nat.le_refl _) _
  have HC : Hid (Cells wa w.heap.size 80 #[.string k, .string lo, .string top]) := by show Cells _ _ _ _; rw [hwa]; exact Cells.new w _ _
  have HBA := Lib.hid hba
  have HWA := Lib.hid hwa
  have AL := Lib.hid (idxAlive wa)
  have HE := Lib.hid h
  have HWF := Lib.hid hwf
  have HK := Lib.hid (And.intro hk hlo)
  unfold maxLen at hs
  obtain ⟨va, vc, rfl, _⟩ : ∃ A c, v = .slice A eds.length c ∧ True := by obtain ⟨_, A, c, e, _⟩ := h; exact ⟨A, c, e, trivial⟩
  clear h hwa hba hwf hk hlo
  go_enter Tryz.func8, Tryz.ntmps8
  go_wp2_with fail
  rw [← HWA.out]
  refine AL.out.mono ?_
  rintro e w1 ⟨rfl, b1⟩
  have B1 := Lib.hid b1
  have BW1 := Lib.hid (HBA.out.trans (b1.mono HBA.out.size))
  clear AL b1
  by_cases hlong : 2000 < s.size
  · go_wp2_with fail
    go_ret
    exact ⟨rfl, BW1.out⟩
  have HV := Lib.hid (heavy_any eds _ w1 (HE.out.below BW1.out (Nat.le_refl _)))
  go_wp2_with fail
  refine HV.out.mono ?_
  rintro e w2 ⟨⟨q, rfl, hq⟩, b2⟩
  have B2 := Lib.hid (B1.out.trans (b2.mono B1.out.size))
  have BW2 := Lib.hid (BW1.out.trans (b2.mono BW1.out.size))
  have HQ := Lib.hid hq
  clear HV b2 hq
  cases q with
  | true =>
    go_wp2_with fail
    go_ret
    exact ⟨rfl, BW2.out⟩
  | false =>
    have LI : Hid (Light eds) := HQ.out (by first | exact rfl | trivial)
    have OF := Lib.hid (of_any s (by omega) w2)
    clear HQ
    go_wp2_with fail
    refine OF.out.mono ?_
    rintro e w3 hof
    clear OF
    cases hp : parseL s.data.toList with
    | error an =>
      obtain ⟨a, n⟩ := an
      obtain ⟨b3, u, rfl, hf⟩ := hof.no hp
      obtain ⟨q, _, rfl, _⟩ := hf
      have B3 := Lib.hid (BW2.out.trans (b3.mono BW2.out.size))
      clear hof b3 hp
      go_wp2_with fail
      go_ret
      exact ⟨rfl, B3.out⟩
    | ok its =>
      obtain ⟨b3, lb, ev, ps, rfl, hlb, hev, hla, hps⟩ := hof.yes hp
      have hlen : (fromL its).es.length ≤ 3000 ∧ (fromL its).next ≤ 3001 := by
        have h1 := (parse_join hp).2.1
        rw [← Lib.size_eq] at h1
        have h2 : (fromL its).es.length = its.length := from_len 1 its
        have h3 := (from_next 1 its).2
        have h4 : (fromL its).next = fromNext 1 its := rfl
        omega
      have CA : Carry w2.heap.size w3 lb ev ps (fromL its) 3000 := by
        refine ⟨hla, hps, from_ok hp, fun e he => ?_, hlb, hev, hlen.1, hlen.2⟩
        have h1 := (parse_join hp).2.2
        have h2 : e.1 ∈ its := by rw [← from_items 1 its]; exact List.mem_map_of_mem he
        obtain ⟨q1, q2⟩ := h1 _ h2
        rw [← Lib.size_eq] at q2
        exact ⟨by omega, by omega⟩
      have B3 := Lib.hid (B2.out.trans (b3.mono B2.out.size))
      have BW3 := Lib.hid (BW2.out.trans (b3.mono BW2.out.size))
      have hsh := sh_from hp
      have ok := CA.ok.of hsh (by have := hlen.2; omega)
      have OI := Lib.hid (ofL_any CA (by decide) hsh)
      have HCA := Lib.hid CA
      have HSH := Lib.hid hsh
      have hnum := ok.num
      generalize fromL its = l0 at *
      clear hof b3 hp hla hps CA hlen hsh ok
      unfold ptr
      go_wp2_with fail
      refine OI.out.mono ?_
      rintro e w4 ⟨x, kb, yb, T, rfl, hi, hb⟩
      -- the index's blocks and the list's
      have H4 : TwoI w2.heap.size w3.heap.size w4 lb ev ps l0 3000 T x kb yb ((stzE l0.es).length + 2 * numF (stzE l0.es)) (stzE l0.es) := by
        have c4 := HCA.out.below hb (Nat.le_refl _)
        exact ⟨c4, HSH.out, hi, fun r hr => hi.low r (HCA.out.str.lt hr)⟩
      have B4 := Lib.hid (B3.out.trans (hb.mono B3.out.size))
      have H4 := Lib.hid H4
      have HS2 : Hid (wa.heap.size ≤ w2.heap.size ∧ w2.heap.size ≤ w3.heap.size) := ⟨B2.out.size, by have := HCA.out.lb0; have := HCA.out.la.lr.head.lt; show _ ≤ _; omega⟩
      have HE3 := Lib.hid (HE.out.below BW3.out (Nat.le_refl _))
      have BW4 := Lib.hid (HBA.out.trans (B4.out.mono HBA.out.size))
      have HZ := Lib.hid (show w.heap.size ≤ w2.heap.size from BW2.out.size)
      clear hi hb OI HCA HSH
      go_wp2_with fail
      go_loopw [39] (fun i wr => ∃ (j : Nat) (ev : Value) (ps : List Pr) (l : LS) (T : Nat → Tag) (n : Nat), j ≤ eds.length ∧ i = .int .i64 j ∧ TwoI w2.heap.size w3.heap.size wr lb ev ps l (3000 + j) T x kb yb n (stzE l.es) ∧ n ≤ 40000 + 130 * j ∧ Below w2.heap.size w4 wr) (fun i _ => eds.length - (intOf i).toNat)
      case atStart => exact ⟨0, ev, ps, l0, T, _, Nat.zero_le _, rfl, H4.out, by omega, Below.refl _ _⟩
      case round =>
        clear hlb hev H4
        obtain ⟨j, ev, ps, l, T, n, hj, rfl, hT, hn, hB⟩ := hrel
        have hlk := LI.out.1
        have HT := Lib.hid hT
        have HBR := Lib.hid hB
        have hsz2 : w2.heap.size ≤ wr.heap.size := hT.base
        have hBW := BW4.out.trans (hB.mono HZ.out)
        have HBW := Lib.hid hBW
        by_cases hlt : j < eds.length
        · obtain ⟨ed, hed⟩ : ∃ ed, eds[j]? = some ed := ⟨_, List.getElem?_eq_getElem hlt⟩
          have hmem := List.mem_of_getElem? hed
          have hlen5 := (LI.out.2 ed hmem).1
          obtain ⟨_, A', cap', e1, _, hc⟩ := HE.out
          cases e1
          obtain ⟨b, off, fv, rfl, hbb, c0, c1, c2, hf⟩ := hc j ed hed
          obtain ⟨fa, fc, rfl, _, _⟩ := _root_.id hf.flds
          replace c0 := (hBW.cell (p := ⟨b, off + j * 3, none⟩) hbb).trans c0
          replace c1 := (hBW.cell (p := ⟨b, off + j * 3 + 1, none⟩) hbb).trans c1
          replace c2 := (hBW.cell (p := ⟨b, off + j * 3 + 1 + 1, none⟩) hbb).trans c2
          have HF := Lib.hid hf
          have HSM := Lib.hid (light_small LI.out hmem)
          have HFI := Lib.hid (LI.out.fine hmem)
          have HWE := Lib.hid (HWF.out ed hmem)
          have HFB : Hid (ed.fields ≠ [] → ∀ r, (Value.slice fa ed.fields.length fc).ownBlock = some r → r < w3.heap.size) := fun hne r e => by
            have h1 := hf.flds.lt hne r e
            have h2 := HZ.out
            have h3 := HS2.out.2
            omega
          have hlb1 : lb < wr.heap.size := hT.ca.la.lr.head.lt
          have HEV : Hid (ev.ownBlock ≠ some wr.heap.size) := fun e => by have := hT.ca.str.lt (.inr (.inl e)); omega
          have FIN : Hid (∀ wx w6 ev' ps' l' T' n', Below wr.heap.size wr wx → Below w2.heap.size wx w6 → TwoI w2.heap.size w3.heap.size w6 lb ev' ps' l' (3000 + (j + 1)) T' x kb yb n' (stzE l'.es) → n' ≤ n + 130 →
              ∃ (j' : Nat) (ev : Value) (ps : List Pr) (l : LS) (T : Nat → Tag) (n : Nat), j' ≤ eds.length ∧ Value.int .i64 ((j : Int) + 1) = .int .i64 j' ∧ TwoI w2.heap.size w3.heap.size w6 lb ev ps l (3000 + j') T x kb yb n (stzE l.es) ∧ n ≤ 40000 + 130 * j' ∧ Below w2.heap.size w4 w6) := fun wx w6 ev' ps' l' T' n' h1 h2 h3 h4 =>
            ⟨j + 1, ev', ps', l', T', n', hlt, by simp, h3, by omega, HBR.out.trans ((h1.mono hsz2).trans h2)⟩
          clear hed hf hc hT hB hBW
          by_cases hk1 : ed.kind = 1
          · rw [hk1] at c0
            obtain ⟨wx, hwx⟩ : ∃ wx, wx = wr.alloc (.cells #[.int .i64 1, .int .i64 ed.id, .slice fa ed.fields.length fc] 38) := ⟨_, rfl⟩
            have hx : Below wr.heap.size wr wx := by rw [hwx]; exact (Below.refl _ _).alloc (Nat.le_refl _) _
            have HX := Lib.hid hx
            have HCX : Hid (Cells wx wr.heap.size 38 #[.int .i64 1, .int .i64 ed.id, .slice fa ed.fields.length fc]) := by show Cells _ _ _ _; rw [hwx]; exact Cells.new wr _ _
            have HTX := Lib.hid (HT.out.below hx (Nat.le_refl _))
            have HFX := Lib.hid (HF.out.kept (HBW.out.trans (hx.mono (Nat.le_trans HZ.out hsz2))) (Nat.le_refl _))
            have HWX := Lib.hid hwx
            clear hx hwx
            have RP := Lib.hid (rep_two HTX.out (by omega) ed.id (.slice fa ed.fields.length fc) ed.fields ⟨HFX.out.flds, HFX.out.nil⟩ HFI.out HSM.out.1 HSM.out.2)
            go_wp2_with fail
            rw [← HWX.out]
            refine RP.out.mono ?_
            rintro e w5 ⟨u, ev', ps', rfl, hsd, h5, ho⟩
            have BX5 := Lib.hid (HTX.out.onlyB ho)
            have C5 := HTX.out.free ho HCX.out (by omega) HEV.out
            have d1 : w5.cell? ⟨wr.heap.size, 1, none⟩ = some (.int .i64 ed.id) := C5.cell 1
            have d2 : w5.cell? ⟨wr.heap.size, 2, none⟩ = some (.slice fa ed.fields.length fc) := C5.cell 2
            have HF5 := Lib.hid (HFX.out.flds.only ho (fun hne r e q => by
              have h1 := HF.out.flds.lt hne r e
              have h2 := HZ.out
              rcases q with q | q
              · have := HTX.out.ca.lb0; omega
              · have := HTX.out.ca.ev0 r q; omega))
            have H5 := Lib.hid h5
            clear ho C5 h5
            rcases hsd with ⟨h0, rfl⟩ | ⟨h0, z, rfl⟩ | ⟨h0, z, rfl⟩
            · have hr := rs_replace HTX.out.ca.ok h0
              have PT := Lib.hid (put_two H5.out ed.id HWE.out hr.1 (.slice fa ed.fields.length fc) ed.fields HF5.out HFB.out (by omega) HF.out.each)
              have HR := Lib.hid hr
              clear hr
              go_wp2_with fail
              refine PT.out.mono ?_
              rintro e w6 ⟨rfl, T', h6, hb6⟩
              have F6 := Lib.hid (FIN.out wx w6 ev' ps' _ T' _ HX.out (BX5.out.trans (hb6.mono HS2.out.2)) (h6.eq HR.out.2.2) (by omega))
              clear h6 hb6
              go_wp2_with fail
              exact ⟨F6.out, by simp [intOf]; omega⟩
            · have e9 := rs_replace_no h0
              have F6 := FIN.out wx w5 ev' ps' _ _ _ HX.out BX5.out (by have := H5.out; rw [e9] at this; exact this) (by omega)
              have F6 := Lib.hid F6
              clear e9
              go_wp2_with fail
              exact ⟨F6.out, by simp [intOf]; omega⟩
            · have e9 := rs_replace_no h0
              have F6 := FIN.out wx w5 ev' ps' _ _ _ HX.out BX5.out (by have := H5.out; rw [e9] at this; exact this) (by omega)
              have F6 := Lib.hid F6
              clear e9
              go_wp2_with fail
              exact ⟨F6.out, by simp [intOf]; omega⟩
          · by_cases hk2 : ed.kind = 2
            · rw [hk2] at c0
              obtain ⟨wx, hwx⟩ : ∃ wx, wx = wr.alloc (.cells #[.int .i64 2, .int .i64 ed.id, .slice fa ed.fields.length fc] 38) := ⟨_, rfl⟩
              have hx : Below wr.heap.size wr wx := by rw [hwx]; exact (Below.refl _ _).alloc (Nat.le_refl _) _
              have HX := Lib.hid hx
              have HCX : Hid (Cells wx wr.heap.size 38 #[.int .i64 2, .int .i64 ed.id, .slice fa ed.fields.length fc]) := by show Cells _ _ _ _; rw [hwx]; exact Cells.new wr _ _
              have HTX := Lib.hid (HT.out.below hx (Nat.le_refl _))
              have HFX := Lib.hid (HF.out.kept (HBW.out.trans (hx.mono (Nat.le_trans HZ.out hsz2))) (Nat.le_refl _))
              have HWX := Lib.hid hwx
              clear hx hwx
              have hdx : Below wx.heap.size wx wx.drew := (Below.refl _ _).drew
              have HTD := Lib.hid (HTX.out.below hdx (Nat.le_refl _))
              have HCD : Hid (Cells wx.drew wr.heap.size 38 #[.int .i64 2, .int .i64 ed.id, .slice fa ed.fields.length fc]) := (hdx.block _ HCX.out.lt).trans HCX.out
              have DL := Lib.hid (del_two HTD.out (by omega) ed.id)
              have x1 : wx.cell? ⟨wr.heap.size, 1, none⟩ = some (.int .i64 ed.id) := HCX.out.cell 1
              have AFT : Hid (∀ w5 u ev' ps', Said8 (deleteR l ed.id).bad u → TwoI w2.heap.size w3.heap.size w5 lb ev' ps' (deleteR l ed.id).ls (3000 + j + 1) (bareT T wx.drew.heap.size) x kb yb n (stzE l.es) → Only (OfLst lb ev) wx.drew w5 →
                  w5.cell? ⟨wr.heap.size, 1, none⟩ = some (.int .i64 ed.id) ∧ Calls Tryz.prog 39 #[.pointer (some ⟨x, 0, none⟩), .int .i64 ed.id] w5 fun e w6 => e = .returned (.bool (decide ((deleteR l ed.id).bad = 0))) ∧
                    (∃ (j' : Nat) (ev : Value) (ps : List Pr) (l : LS) (T : Nat → Tag) (n : Nat), j' ≤ eds.length ∧ Value.int .i64 ((j : Int) + 1) = .int .i64 j' ∧ TwoI w2.heap.size w3.heap.size w6 lb ev ps l (3000 + j') T x kb yb n (stzE l.es) ∧ n ≤ 40000 + 130 * j' ∧ Below w2.heap.size w4 w6)) := fun w5 u ev' ps' hsd h5 ho => by
                have hd := rs_delete HTX.out.ca.ok ed.id
                refine ⟨(HTD.out.free ho HCD.out (by omega) HEV.out).cell 1, ?_⟩
                refine (drop_two h5 ed.id HWE.out).mono ?_
                rintro e w6 ⟨rfl, T', h6, hb6⟩
                rw [← hd.2] at h6
                refine ⟨by rw [hd.1], ?_⟩
                exact FIN.out wx w6 ev' ps' _ T' _ HX.out (((hdx.mono (Nat.le_trans hsz2 HX.out.size)).trans (HTD.out.onlyB ho)).trans (hb6.mono HS2.out.2)) h6 (by omega)
              clear hdx
              go_wp2_with fail
              rw [← HWX.out]
              go_cut [93] (fun q wq => q = .bool false ∧ (∃ (j' : Nat) (ev : Value) (ps : List Pr) (l : LS) (T : Nat → Tag) (n : Nat), j' ≤ eds.length ∧ Value.int .i64 ((j : Int) + 1) = .int .i64 j' ∧ TwoI w2.heap.size w3.heap.size wq lb ev ps l (3000 + j') T x kb yb n (stzE l.es) ∧ n ≤ 40000 + 130 * j' ∧ Below w2.heap.size w4 wq))
              case first =>
                go_region_law (first
                  | (go_simp; go_at_call 35; refine DL.out.mono ?_; rintro e w5 ⟨u, ev', ps', rfl, hsd, h5, ho⟩; obtain ⟨d1, dr⟩ := AFT.out w5 u ev' ps' hsd h5 ho; have DR := Lib.hid dr; have eu := eqNil8 hsd; have eg := eqGuard8 hsd; have HSD := Lib.hid hsd; obtain ⟨bb, hbb8⟩ : ∃ bb, bb = decide ((deleteR l ed.id).bad = 0) := ⟨_, rfl⟩; rw [← hbb8] at eu DR; clear hsd h5 ho dr)
                  | (go_simp; go_at_call 39; refine DR.out.mono ?_; rintro e w6 ⟨rfl, hfin⟩; have HFN := Lib.hid hfin; clear hfin))
                all_goals (try go_wp2_with fail)
                all_goals go_meet
                all_goals exact ⟨by simp, HFN.out⟩
              case rest =>
                obtain ⟨rfl, hfin⟩ := hcut
                have HFN := Lib.hid hfin
                clear hfin
                go_wp2_with fail
                exact ⟨HFN.out, by simp [intOf]; omega⟩
            · have hk1' : (ed.kind == 1) = false := by simpa using hk1
              have hk2' : (ed.kind == 2) = false := by simpa using hk2
              obtain ⟨wx, hwx⟩ : ∃ wx, wx = wr.alloc (.cells #[.int .i64 ed.kind, .int .i64 ed.id, .slice fa ed.fields.length fc] 38) := ⟨_, rfl⟩
              have hx : Below wr.heap.size wr wx := by rw [hwx]; exact (Below.refl _ _).alloc (Nat.le_refl _) _
              have HX := Lib.hid hx
              have HCX : Hid (Cells wx wr.heap.size 38 #[.int .i64 ed.kind, .int .i64 ed.id, .slice fa ed.fields.length fc]) := by show Cells _ _ _ _; rw [hwx]; exact Cells.new wr _ _
              have HTX := Lib.hid (HT.out.below hx (Nat.le_refl _))
              have HFX := Lib.hid (HF.out.kept (HBW.out.trans (hx.mono (Nat.le_trans HZ.out hsz2))) (Nat.le_refl _))
              have HWX := Lib.hid hwx
              clear hx hwx
              have IP := Lib.hid (ins_two HTX.out (by omega) ed.id (.slice fa ed.fields.length fc) ed.fields ⟨HFX.out.flds, HFX.out.nil⟩ HFI.out HSM.out.1 HSM.out.2)
              go_wp2_with fail
              rw [← HWX.out]
              refine IP.out.mono ?_
              rintro e w5 ⟨u, ev', ps', rfl, hsd, h5, ho⟩
              have BX5 := Lib.hid (HTX.out.onlyB ho)
              have C5 := HTX.out.free ho HCX.out (by omega) HEV.out
              have d1 : w5.cell? ⟨wr.heap.size, 1, none⟩ = some (.int .i64 ed.id) := C5.cell 1
              have d2 : w5.cell? ⟨wr.heap.size, 2, none⟩ = some (.slice fa ed.fields.length fc) := C5.cell 2
              have HF5 := Lib.hid (HFX.out.flds.only ho (fun hne r e q => by
                have h1 := HF.out.flds.lt hne r e
                have h2 := HZ.out
                rcases q with q | q
                · have := HTX.out.ca.lb0; omega
                · have := HTX.out.ca.ev0 r q; omega))
              have H5 := Lib.hid h5
              clear ho C5 h5
              rcases hsd with ⟨h0, rfl⟩ | ⟨h0, z, rfl⟩ | ⟨h0, z, rfl⟩
              · have hr := rs_insert HTX.out.ca.ok h0
                have hpos := HTX.out.ca.ok.pos
                have hnx := HTX.out.ca.nx
                have hwn : (Lit.int .i64 l.next).wf = true := by simp [Lit.wf, IntKind.min, IntKind.max, IntKind.signed, IntKind.bits]; omega
                have PT := Lib.hid (put_two H5.out l.next hwn (by omega) (.slice fa ed.fields.length fc) ed.fields HF5.out HFB.out (by omega) HF.out.each)
                have HR := Lib.hid hr.2
                rw [hr.1]
                clear hr hpos hnx hwn
                go_wp2_with fail
                refine PT.out.mono ?_
                rintro e w6 ⟨rfl, T', h6, hb6⟩
                have F6 := Lib.hid (FIN.out wx w6 ev' ps' _ T' _ HX.out (BX5.out.trans (hb6.mono HS2.out.2)) (h6.eq HR.out) (by omega))
                clear h6 hb6
                go_wp2_with fail
                exact ⟨F6.out, by simp [intOf]; omega⟩
              · have e9 := rs_insert_no h0
                have F6 := FIN.out wx w5 ev' ps' _ _ _ HX.out BX5.out (by have := H5.out; rw [e9] at this; exact this) (by omega)
                have F6 := Lib.hid F6
                clear e9
                go_wp2_with fail
                exact ⟨F6.out, by simp [intOf]; omega⟩
              · have e9 := rs_insert_no h0
                have F6 := FIN.out wx w5 ev' ps' _ _ _ HX.out BX5.out (by have := H5.out; rw [e9] at this; exact this) (by omega)
                have F6 := Lib.hid F6
                clear e9
                go_wp2_with fail
                exact ⟨F6.out, by simp [intOf]; omega⟩
        · obtain rfl : j = eds.length := by omega
          have ok := hT.ca.ok.of hT.sh (by have := hT.ca.nx; have := hT.ca.ok.pos; omega)
          have OY := Lib.hid (ofL_any hT.ca (by omega) hT.sh)
          have hlen := stzE_len hT.ca.ok.wf
          have hpl : ps.length ≤ 1000000 := by
            have h1 := hT.ca.len
            have h2 : ps.length = l.es.length := by rw [← hT.ca.es, List.length_map]
            omega
          have HLR : Hid (LR wr lb ev ps l.next ∧ WF (ps.map Prod.fst) ∧ lenR (ps.map Prod.fst) = (stzE l.es).length) := ⟨hT.ca.la.lr, hT.ca.wf, by rw [hT.ca.es, hlen]⟩
          have HIX := Lib.hid hT.ix
          obtain ⟨rs, hrs⟩ : ∃ rs, rs = stzE l.es := ⟨_, rfl⟩
          rw [← hrs] at ok OY HLR HIX
          have HOK := Lib.hid ok
          have hnum := ok.num
          have hrl := ok.n
          have HPL := Lib.hid hpl
          clear hT HT hlen hrs ok hpl hB hBW
          go_wp2_with fail
          refine OY.out.mono ?_
          rintro e w5 ⟨y, kb2, yb2, T2, rfl, hy, hb⟩
          have HX5 := Lib.hid (HIX.out.below hb (Nat.le_refl _))
          have HY5 := Lib.hid hy
          have HL5 := Lib.hid (HLR.out.1.below hb (Nat.le_refl _))
          have BW5 := Lib.hid (HBW.out.trans (hb.mono HBW.out.size))
          have BA5 := Lib.hid (B4.out.trans ((HBR.out.mono HS2.out.1).trans (hb.mono (Nat.le_trans HS2.out.1 hsz2))))
          clear hb hy OY
          -- all that follows reads
          have XL5 := Lib.hid (fun W (hW : Below w5.heap.size w5 W) => lenC (HX5.out.below hW (Nat.le_refl _)) HOK.out.nd)
          have YL5 := Lib.hid (fun W (hW : Below w5.heap.size w5 W) => lenC (HY5.out.below hW (Nat.le_refl _)) HOK.out.nd)
          have LL5 := Lib.hid (len_R lb ev ps l.next w5 HL5.out HLR.out.2.1 HPL.out)
          have KX := fun W (hW : Below w5.heap.size w5 W) => keysC (HX5.out.below hW (Nat.le_refl _))
          have KY := fun W (hW : Below w5.heap.size w5 W) => keysC (HY5.out.below hW (Nat.le_refl _))
          have HKX := Lib.hid KX
          have HKY := Lib.hid KY
          have hkl : (keysR rs).length ≤ 1000000 := by have := @keys_num rs; omega
          have HKL := Lib.hid hkl
          have HLE := Lib.hid HLR.out.2.2
          clear KX KY hkl
          unfold ptr at LL5
          go_wp2_with fail
          refine (XL5.out w5 (Below.refl _ _)).mono ?_
          rintro e w6 ⟨rfl, rfl⟩
          go_wp2_with fail
          refine (YL5.out w6 (Below.refl _ _)).mono ?_
          rintro e w5 ⟨rfl, rfl⟩
          go_wp2_with fail
          refine (XL5.out w5 (Below.refl _ _)).mono ?_
          rintro e w6 ⟨rfl, rfl⟩
          go_wp2_with fail
          refine LL5.out.mono ?_
          rintro e w7 ⟨rfl, b7⟩
          rw [HLE.out]
          have B7 := Lib.hid b7
          clear b7 LL5
          go_wp2_with fail
          refine (HKX.out w7 B7.out).mono ?_
          rintro e w8 ⟨v1, rfl, s1, b8⟩
          obtain ⟨a1, cc1, e1, _⟩ := _root_.id s1
          rw [List.length_map] at e1
          subst e1
          have B8 := Lib.hid (B7.out.trans (b8.mono B7.out.size))
          have S1 := Lib.hid s1
          clear b8 s1
          go_wp2_with fail
          refine (HKY.out w8 B8.out).mono ?_
          rintro e w9 ⟨v2, rfl, s2, b9⟩
          obtain ⟨a2, cc2, e2, _⟩ := _root_.id s2
          rw [List.length_map] at e2
          subst e2
          have B9 := Lib.hid (B8.out.trans (b9.mono B8.out.size))
          have TX := Lib.hid (texts_any _ _ _ _ w9 (S1.out.below b9 (Nat.le_refl _)) s2 (by rw [List.length_map]; exact HKL.out) (by rw [List.length_map]; exact HKL.out))
          clear b9 s2 S1
          go_wp2_with fail
          refine TX.out.mono ?_
          rintro e w10 ⟨rfl, b10⟩
          rw [show decide True = true from rfl]
          have B10 := Lib.hid (B9.out.trans (b10.mono B9.out.size))
          clear b10 TX
          go_wp2_with fail
          have CAF := Lib.hid (fun W (hW : Below w6.heap.size w6 W) => (show W.cell? ⟨w.heap.size, 0, none⟩ = some (.string k) ∧ W.cell? ⟨w.heap.size, 1, none⟩ = some (.string lo) ∧ W.cell? ⟨w.heap.size, 2, none⟩ = some (.string top) from by
            have hc : Cells W w.heap.size 80 #[.string k, .string lo, .string top] := (hW.block _ (Nat.lt_of_lt_of_le HC.out.lt BA5.out.size)).trans ((BA5.out.block _ HC.out.lt).trans HC.out)
            exact ⟨hc.cell 0, hc.cell 1, hc.cell 2⟩))
          have KR := Lib.hid (fun W (hW : Below w10.heap.size w10 W) => rowFrom (keysRow (HX5.out.below (keep8 B10.out hW) (Nat.le_refl _))) hW)
          have q10 := (CAF.out w10 B10.out).1
          obtain ⟨i0, hi, hz0, hz1, hz2⟩ := info_parts infoStr8
          obtain ⟨ks, hks⟩ : ∃ ks, ks = keysR rs := ⟨_, rfl⟩
          rw [← hks] at KR
          have hkn : ks.length ≤ 1000000 := by rw [hks]; exact HKL.out
          have HKS := Lib.hid hks
          clear hks
          go_cut [122, 123, 124] (fun v1 v2 v3 wx => v3 = .int .i64 0 ∧ v2 = .int .i64 ((ks.length : Int) + 1) ∧ ∃ g c, v1 = .slice (some ⟨g, 0, none⟩) (ks.length + 1) c ∧ Strs wx v1 ((ks ++ [k.data.toList]).map B) ∧ Below w10.heap.size w10 wx)
          case first =>
            go_region_law (first
              | (go_simp; go_at_call 42; refine (KR.out _ ?_).mono ?_; (focus (repeat (first | exact Below.refl _ _ | assumption | (refine Below.drew ?_) | (refine held_alloc9 ?_)))); rintro e w11 ⟨A, c, rfl, hrow, hlo8, hb, hb11⟩; have q11 := (CAF.out w11 (keep8 B10.out hb11)).1; have HR11 := Lib.hid hrow; have HLO := Lib.hid hlo8; have HB11 := Lib.hid hb11; have HBC := Lib.hid hb; clear hrow hb hb11 hlo8)
              | (refine step_append_own rfl (.tmp 118) (.tmp 121) 69 rfl 9 i0 _ 1 16 Tryz.underlying69 hi hz0 hz1 hz2 rfl (by decide) (.slice A ks.length c) ks.length (ks.map encStr) (by simp [Act.eval]) (by exact row_belowZ HR11.out ((Below.refl _ w11).alloc (Nat.le_refl _) _) (Nat.le_refl _)) ⟨w11.heap.size, 0, none⟩ 1 1 [.string k] (by simp [Act.eval]) rfl (cells_new_add w11 9 [.string k]) (by intro u hu; simp at hu; subst hu; rfl) (by unfold maxLen; omega) (by omega) ?_; intro v' w' ho hgr hbk; obtain ⟨g', cap', rfl, hs12, hb12⟩ := app8 (held_alloc9 HB11.out) HLO.out ho hgr; have HS12 := Lib.hid hs12; have HB12 := Lib.hid hb12; clear ho hgr hbk hs12 hb12)
              | (refine step_append_own rfl (.tmp 118) (.tmp 121) 69 rfl 9 i0 _ 1 16 Tryz.underlying69 hi hz0 hz1 hz2 rfl (by decide) (.slice A ks.length c) ks.length (ks.map encStr) (by simp [Act.eval]) (by exact HR11.out) ⟨w10.heap.size, 0, none⟩ 1 1 [.string k] (by simp [Act.eval]) rfl (by exact cells_old8 HBC.out) (by intro u hu; simp at hu; subst hu; rfl) (by unfold maxLen; omega) (by omega) ?_; intro v' w' ho hgr hbk; obtain ⟨g', cap', rfl, hs12, hb12⟩ := app8 HB11.out HLO.out ho hgr; have HS12 := Lib.hid hs12; have HB12 := Lib.hid hb12; clear ho hgr hbk hs12 hb12))
            all_goals (try go_wp2_with fail)
            all_goals go_meet
            all_goals exact ⟨rfl, rfl, _, _, rfl, HS12.out, HB12.out⟩
          case rest =>
            obtain ⟨wp, rfl⟩ : ∃ z, z = wc := ⟨wc, rfl⟩
            obtain ⟨rfl, rfl, g, c, rfl, hst, hb⟩ := hcut
            obtain ⟨ts, hts⟩ : ∃ ts, ts = ks ++ [k.data.toList] := ⟨_, rfl⟩
            rw [← hts] at hst
            have htl : ts.length = ks.length + 1 := by rw [hts]; simp
            have hsh : ∀ t ∈ ts, (B t).size ≤ maxLen := fun t ht => by
              rw [hts] at ht
              rcases List.mem_append.1 ht with q | q
              · rw [B_size]; rw [HKS.out] at q; exact keys_short HOK.out.sh q
              · rw [List.mem_singleton.1 q, B_size, ← Lib.size_eq]; exact HK.out.1
            have HST := Lib.hid hst
            have HSH := Lib.hid (And.intro htl hsh)
            have BC := Lib.hid (keep8 B10.out hb)
            clear hts hst htl hsh hb KR HKS
            go_wp2_with fail
            go_loopw [124] (fun i W => ∃ q : Nat, q ≤ ks.length + 1 ∧ i = .int .i64 q ∧ Below wp.heap.size wp W) (fun i _ => ks.length + 1 - (intOf i).toNat)
            case atStart => exact ⟨0, Nat.zero_le _, rfl, Below.refl _ _⟩
            case round =>
              obtain ⟨q, hq, rfl, hbq⟩ := hrel
              by_cases hlq : q < ks.length + 1
              · obtain ⟨t, ht⟩ : ∃ t, ts[q]? = some t := ⟨_, List.getElem?_eq_getElem (by rw [HSH.out.1]; exact hlq)⟩
                obtain ⟨A', cap', e1, _, hcell⟩ := HST.out
                rw [List.length_map, HSH.out.1] at e1
                cases e1
                obtain ⟨b, off, e2, hbb, c1⟩ := hcell q (B t) (by rw [List.getElem?_map, ht]; rfl)
                cases e2
                replace c1 := (hbq.cell (p := ⟨g, 0 + q, none⟩) hbb).trans c1
                rw [Nat.zero_add] at c1
                have htm := HSH.out.2 t (List.mem_of_getElem? ht)
                have HTM := Lib.hid htm
                have VX := Lib.hid (fun W (hW : Below wp.heap.size wp W) => valsC (HX5.out.below (keep8 BC.out hW) (Nat.le_refl _)) (B t) htm)
                have VY := Lib.hid (fun W (hW : Below wp.heap.size wp W) => valsC (HY5.out.below (keep8 BC.out hW) (Nat.le_refl _)) (B t) htm)
                have WX := Lib.hid (fun W (hW : Below wp.heap.size wp W) => withC (HX5.out.below (keep8 BC.out hW) (Nat.le_refl _)) HOK.out.nd (B t) htm)
                have WY := Lib.hid (fun W (hW : Below wp.heap.size wp W) => withC (HY5.out.below (keep8 BC.out hW) (Nat.le_refl _)) HOK.out.nd (B t) htm)
                have hvl : (valsR rs (B t).data.toList).length ≤ 1000000 := by have := @vals_num rs (B t).data.toList; omega
                have hwl : (sortZ (whoR rs (B t).data.toList fun _ => true)).length ≤ 10000000000000 := by have h1 := who_len rs (B t).data.toList fun _ => true; have h2 := (sortZ_perm (whoR rs (B t).data.toList fun _ => true)).length_eq; omega
                obtain ⟨vs, hvs⟩ : ∃ vs, vs = valsR rs (B t).data.toList := ⟨_, rfl⟩
                obtain ⟨zs, hzs⟩ : ∃ zs, zs = sortZ (whoR rs (B t).data.toList fun _ => true) := ⟨_, rfl⟩
                rw [← hvs] at VX VY hvl
                rw [← hzs] at WX WY hwl
                have HVS := Lib.hid hvs
                have HBQ := Lib.hid hbq
                clear ht hcell htm hvs hzs hbq
                go_wp2_with fail
                refine (VX.out _ HBQ.out).mono ?_
                rintro e w11 ⟨v1, rfl, s1, b11⟩
                obtain ⟨a1, cc1, e1, _⟩ := _root_.id s1
                rw [List.length_map] at e1
                subst e1
                have B11 := Lib.hid (keep8 HBQ.out b11)
                have S1 := Lib.hid s1
                clear b11 s1
                go_wp2_with fail
                refine (VY.out w11 B11.out).mono ?_
                rintro e w12 ⟨v2, rfl, s2, b12⟩
                obtain ⟨a2, cc2, e2, _⟩ := _root_.id s2
                rw [List.length_map] at e2
                subst e2
                have B12 := Lib.hid (keep8 B11.out b12)
                have TX := Lib.hid (texts_any _ _ _ _ w12 (S1.out.below b12 (Nat.le_refl _)) s2 (by rw [List.length_map]; exact hvl) (by rw [List.length_map]; exact hvl))
                clear b12 s2 S1
                go_wp2_with fail
                refine TX.out.mono ?_
                rintro e w13 ⟨rfl, b13⟩
                rw [show decide True = true from rfl]
                have B13 := Lib.hid (keep8 B12.out b13)
                clear b13 TX
                go_wp2_with fail
                refine (WX.out w13 B13.out).mono ?_
                rintro e w14 ⟨v3, rfl, s3, b14⟩
                obtain ⟨a3, cc3, rfl, _⟩ := _root_.id s3
                have B14 := Lib.hid (keep8 B13.out b14)
                have S3 := Lib.hid s3
                clear b14 s3
                go_wp2_with fail
                refine (WY.out w14 B14.out).mono ?_
                rintro e w15 ⟨v4, rfl, s4, b15⟩
                obtain ⟨a4, cc4, rfl, _⟩ := _root_.id s4
                have B15 := Lib.hid (keep8 B14.out b15)
                have IA := Lib.hid (ints_any _ _ _ _ w15 (S3.out.below b15 (Nat.le_refl _)) s4 hwl hwl)
                clear b15 s4 S3
                go_wp2_with fail
                refine IA.out.mono ?_
                rintro e w16 ⟨rfl, b16⟩
                rw [show decide True = true from rfl]
                have B16 := Lib.hid (keep8 B15.out b16)
                clear b16 IA
                go_wp2_with fail
                have q16 := (CAF.out w16 (keep8 BC.out B16.out)).2.1
                have VR := Lib.hid (fun W (hW : Below w16.heap.size w16 W) => rowFrom (valsRow (HX5.out.below (keep8 BC.out (keep8 B16.out hW)) (Nat.le_refl _)) (B t) HTM.out) hW)
                rw [← HVS.out] at VR
                go_cut [152, 153, 154] (fun v1 v2 v3 wx => v3 = .int .i64 0 ∧ v2 = .int .i64 ((vs.length : Int) + 1) ∧ ∃ g c, v1 = .slice (some ⟨g, 0, none⟩) (vs.length + 1) c ∧ Strs wx v1 ((vs ++ [lo.data.toList]).map B) ∧ Below w16.heap.size w16 wx)
                case first =>
                  go_region_law (first
                    | (go_simp; go_at_call 43; refine (VR.out _ ?_).mono ?_; (focus (repeat (first | exact Below.refl _ _ | assumption | (refine Below.drew ?_) | (refine held_alloc9 ?_)))); rintro e w11 ⟨A, c, rfl, hrow, hlo8, hb, hb11⟩; have q11 := (CAF.out w11 (keep8 BC.out (keep8 B16.out hb11))).2.1; have HR11 := Lib.hid hrow; have HLO := Lib.hid hlo8; have HB11 := Lib.hid hb11; have HBC := Lib.hid hb; clear hrow hb hb11 hlo8)
                    | (refine step_append_own rfl (.tmp 148) (.tmp 151) 69 rfl 9 i0 _ 1 16 Tryz.underlying69 hi hz0 hz1 hz2 rfl (by decide) (.slice A vs.length c) vs.length (vs.map encStr) (by simp [Act.eval]) (by exact row_belowZ HR11.out ((Below.refl _ w11).alloc (Nat.le_refl _) _) (Nat.le_refl _)) ⟨w11.heap.size, 0, none⟩ 1 1 [.string lo] (by simp [Act.eval]) rfl (cells_new_add w11 9 [.string lo]) (by intro u hu; simp at hu; subst hu; rfl) (by unfold maxLen; omega) (by omega) ?_; intro v' w' ho hgr hbk; obtain ⟨g', cap', rfl, hs12, hb12⟩ := app8 (held_alloc9 HB11.out) HLO.out ho hgr; have HS12 := Lib.hid hs12; have HB12 := Lib.hid hb12; clear ho hgr hbk hs12 hb12)
                    | (refine step_append_own rfl (.tmp 148) (.tmp 151) 69 rfl 9 i0 _ 1 16 Tryz.underlying69 hi hz0 hz1 hz2 rfl (by decide) (.slice A vs.length c) vs.length (vs.map encStr) (by simp [Act.eval]) (by exact HR11.out) ⟨w16.heap.size, 0, none⟩ 1 1 [.string lo] (by simp [Act.eval]) rfl (by exact cells_old8 HBC.out) (by intro u hu; simp at hu; subst hu; rfl) (by unfold maxLen; omega) (by omega) ?_; intro v' w' ho hgr hbk; obtain ⟨g', cap', rfl, hs12, hb12⟩ := app8 HB11.out HLO.out ho hgr; have HS12 := Lib.hid hs12; have HB12 := Lib.hid hb12; clear ho hgr hbk hs12 hb12))
                  all_goals (try go_wp2_with fail)
                  all_goals go_meet
                  all_goals exact ⟨rfl, rfl, _, _, rfl, HS12.out, HB12.out⟩
                case rest =>
                  obtain ⟨rfl, rfl, g2, c2, rfl, hst, hb⟩ := hcut
                  obtain ⟨ts2, hts⟩ : ∃ ts2, ts2 = vs ++ [lo.data.toList] := ⟨_, rfl⟩
                  rw [← hts] at hst
                  have htl : ts2.length = vs.length + 1 := by rw [hts]; simp
                  have hsh : ∀ t ∈ ts2, (B t).size ≤ maxLen := fun t ht => by
                    rw [hts] at ht
                    rcases List.mem_append.1 ht with z | z
                    · rw [B_size]; rw [HVS.out] at z; exact vals_short HOK.out.sh z
                    · rw [List.mem_singleton.1 z, B_size, ← Lib.size_eq]; exact HK.out.2
                  have HST2 := Lib.hid hst
                  have HSH2 := Lib.hid (And.intro htl hsh)
                  have BD := Lib.hid (keep8 B16.out hb)
                  obtain ⟨wv, rfl⟩ : ∃ z, z = wc := ⟨wc, rfl⟩
                  obtain ⟨wq, rfl⟩ : ∃ z, z = wr := ⟨wr, rfl⟩
                  clear hts hst htl hsh hb VR
                  go_wp2_with fail
                  go_loopw [154] (fun i W => ∃ r : Nat, r ≤ vs.length + 1 ∧ i = .int .i64 r ∧ Below wv.heap.size wv W) (fun i _ => vs.length + 1 - (intOf i).toNat)
                  case atStart => exact ⟨0, Nat.zero_le _, rfl, Below.refl _ _⟩
                  case round =>
                    obtain ⟨r, hr, rfl, hbr⟩ := hrel
                    have BR := Lib.hid hbr
                    by_cases hlr : r < vs.length + 1
                    · obtain ⟨u, hu⟩ : ∃ u, ts2[r]? = some u := ⟨_, List.getElem?_eq_getElem (by rw [HSH2.out.1]; exact hlr)⟩
                      obtain ⟨A', cap', e1, _, hcell⟩ := HST2.out
                      rw [List.length_map, HSH2.out.1] at e1
                      cases e1
                      obtain ⟨b, off, e2, hbb, d1⟩ := hcell r (B u) (by rw [List.getElem?_map, hu]; rfl)
                      cases e2
                      replace d1 := (hbr.cell (p := ⟨g2, 0 + r, none⟩) hbb).trans d1
                      rw [Nat.zero_add] at d1
                      have hum := HSH2.out.2 u (List.mem_of_getElem? hu)
                      have toW : ∀ W, Below wr.drew.heap.size wr.drew W → Below w6.heap.size w6 W := fun W hW => keep8 BC.out (keep8 BD.out (keep8 hbr (((Below.refl wr.heap.size wr).drew).trans hW)))
                      have hnf : numF rs ≤ 1000000 := by omega
                      have hz1 : (sortZ (whoR rs (B t).data.toList fun s => s == (B u).data.toList)).length ≤ 10000000000000 := by have h1 := who_len rs (B t).data.toList fun s => s == (B u).data.toList; have h2 := (sortZ_perm (whoR rs (B t).data.toList fun s => s == (B u).data.toList)).length_eq; omega
                      have hz2 : (sortZ (whoR rs (B t).data.toList (betw (B u).data.toList top.data.toList))).length ≤ 10000000000000 := by have h1 := who_len rs (B t).data.toList (betw (B u).data.toList top.data.toList); have h2 := (sortZ_perm (whoR rs (B t).data.toList (betw (B u).data.toList top.data.toList))).length_eq; omega
                      have HREG := fun a0 Q (q1 : a0.tmps.size = 197) (q2 : a0.tmps[5]? = some (.pointer (some ⟨w.heap.size, 0, none⟩))) q3 q4 q5 q6 hQ => region_ifR a0 wr.drew x y w.heap.size (countR rs (B t).data.toList (B u).data.toList) (B t) (B u) top (sortZ (whoR rs (B t).data.toList fun s => s == (B u).data.toList)) (sortZ (whoR rs (B t).data.toList (betw (B u).data.toList top.data.toList))) Q q1 q2 q3 q4 q5 q6
                        (fun W hW => (CAF.out W (toW W hW)).2.2)
                        (fun W hW => equalC (HX5.out.below (toW W hW) (Nat.le_refl _)) HOK.out.nd (B t) (B u) HTM.out hum)
                        (fun W hW => equalC (HY5.out.below (toW W hW) (Nat.le_refl _)) HOK.out.nd (B t) (B u) HTM.out hum)
                        (fun W hW z1 p1 z2 p2 => (ints_any z1 z2 _ _ W p1 p2 hz1 hz1).mono fun e w9 ⟨he, hb⟩ => ⟨.bool true, by rw [he]; simp, rfl, hb⟩)
                        (fun W hW => (countC (HX5.out.below (toW W hW) (Nat.le_refl _)) (B t) (B u) HTM.out hum hnf).mono fun e w9 ⟨he, hb⟩ => ⟨_, he, rfl, hb⟩)
                        (fun W hW => (countC (HY5.out.below (toW W hW) (Nat.le_refl _)) (B t) (B u) HTM.out hum hnf).mono fun e w9 ⟨he, hb⟩ => ⟨_, he, rfl, hb⟩)
                        (fun W hW => betwC (HX5.out.below (toW W hW) (Nat.le_refl _)) HOK.out.nd (B t) (B u) top HTM.out)
                        (fun W hW => betwC (HY5.out.below (toW W hW) (Nat.le_refl _)) HOK.out.nd (B t) (B u) top HTM.out)
                        (fun W hW z1 p1 z2 p2 => (ints_any z1 z2 _ _ W p1 p2 hz2 hz2).mono fun e w9 ⟨he, hb⟩ => ⟨.bool true, by rw [he]; simp, rfl, hb⟩) hQ
                      have HR := Lib.hid HREG
                      clear HREG toW hz1 hz2 hu hcell
                      go_wp2_with fail
                      refine wp_region_any (by kernel_rfl) ?_
                      refine HR.out _ _ ?h1 ?h2 ?h3 ?h4 ?h5 ?h6 ?h7
                      case h1 => kernel_rfl
                      case h2 => kernel_rfl
                      case h3 => kernel_rfl
                      case h4 => kernel_rfl
                      case h5 => kernel_rfl
                      case h6 => kernel_rfl
                      intro y0 y1 y2 y3 y4 y5 y6 y7 y8 y9 y10 y11 y12 y13 y14 y15 y16 y17 y18 y19 y20 y21 y22 y23 y24 y25 y26 y27 y28 y29 y30 y31 y32 y33 y34 y35 y36 w30 hb30 h36
                      obtain rfl : y36 = .bool false := h36
                      have BX := Lib.hid (BR.out.trans ((((Below.refl wr.heap.size wr).drew).trans hb30).mono BR.out.size))
                      clear hb30
                      simp only [List.foldl_cons, List.foldl_nil, List.setIfInBounds_toArray, List.set_cons_zero, List.set_cons_succ]
                      go_wp2_with fail
                      exact ⟨⟨r + 1, hlr, by go_num, BX.out⟩, by simp [intOf]; omega⟩
                    · obtain rfl : r = vs.length + 1 := by omega
                      have HBB := Lib.hid (keep8 BD.out hbr)
                      go_wp2_with fail
                      exact ⟨⟨q + 1, hlq, by go_num, HBB.out⟩, by simp [intOf]; omega⟩
              · obtain rfl : q = ks.length + 1 := by omega
                have HBF := Lib.hid (BW5.out.trans ((keep8 BC.out hbq).mono BW5.out.size))
                go_wp2_with fail
                go_ret
                exact ⟨rfl, HBF.out⟩
open Go.Maps Go.ChangeShapes Go.Joins Go.WideShapes in
set_option maxRecDepth 100000 in
theorem followsCall {H : Type} {enc : TypeId × Value → H} (s : ByteArray) (v : Value) (d : DataW H) (p : List MemPlace) (a : Value) (da : DataW H) (pa : List MemPlace) (W : World) (hs : s.size ≤ maxLen) {b0 : Nat} (hval : Value.okWide Tryz.prog W .any b0 22 v) {base : Nat} {sp : Nat → Bool} {held : Bool} (h : DataW.Trod enc Tryz.prog W base sp held 22 v d p)
    {b1 : Nat} (hval2 : Value.okWide Tryz.prog W .any b1 80 a) {base2 : Nat} {sp2 : Nat → Bool} {held2 : Bool} (h2 : DataW.Trod enc Tryz.prog W base2 sp2 held2 80 a da pa) :
    Calls Tryz.prog 8 #[.string s, v, a] W fun e w' => e = .returned (.bool true) ∧ Below W.heap.size W w' := by
  obtain ⟨n, hn⟩ := h
  obtain ⟨ao, len, cap, rfl⟩ := okWide_slice Tryz.underlying22 hval
  obtain ⟨eds, hr, hwf⟩ := edits_wf (v := .slice ao len cap) hn
  obtain ⟨c0, c1, c2, y0, y1, y2, n2, rfl, _, _, h0, h1, h3⟩ := open_agg3 Tryz.underlying80 (by kernel_rfl) (by kernel_rfl) hval2 h2
  obtain ⟨s0, e0, _, w0⟩ := DataW.trod_string Tryz.underlying9 h0
  obtain ⟨s1, e1, _, w1⟩ := DataW.trod_string Tryz.underlying9 h1
  obtain ⟨s2, e2, _, w2⟩ := DataW.trod_string Tryz.underlying9 h3
  simp at e0 e1 e2
  subst e0 e1 e2
  exact followsLaw s hs eds hwf _ s0 s1 s2 w0 w1 W hr
end Go.Proofs.YtiebbgbcojgeoaaGreatDoor
