/- Texts put together: KX, KY. -/
import Derived.Deep.RegionLaw
import Derived.Test.YtfjklpgmnakcaaaGreatDoorBae20
import Derived.Test.YtfjklpgmnakcaaaGreatDoorBae21
import Derived.Test.YtfjklpgmnakcaaaGreatDoorBae22
import Derived.Test.YtfjklpgmnakcaaaGreatDoorBae23
set_option linter.unusedVariables false
set_option maxRecDepth 100000
set_option maxHeartbeats 16000000
namespace Go.Proofs.YtfjklpgmnakcaaaGreatDoor
open Go.RowKit Go.Shelf
attribute [local go_sem] Oper.semAt_some
theorem refBack_any (qs : List Pr) (v bv : Value) (l : LS) (eds : List Ed) (w00 w : World) (hb00 : Below w00.heap.size w00 w) (h : EntsQ w00 v qs) (hes : qs.map Prod.fst = l.es) (ok : OkL l) (hl : l.es.length <= 5000) (hn : l.next <= 5001) (hv : EdV w00 bv eds) (h51 : eds.length <= 51) (hf : Fines eds) (hg : ∀ x ∈ eds, goodE x = 0) (hok : okOn l eds) :
    Calls Tryz.prog 12 #[.agg #[v, .int .i64 l.next], bv] w fun e w' => Below w.heap.size w w' /\ ∃ u, e = .returned u /\ EdQ w' u (backB l eds) := by
  have HB00 := Lib.hid hb00
  have hz00 := hb00.size
  have hw0 := h.below hb00 (Nat.le_refl _)
  obtain ⟨i1, hi, hz0, hz1, hib⟩ := info_parts infoInt9
  obtain ⟨i2, hiL, hL0, hL1, hLb⟩ := info_parts infoL9
  obtain ⟨i3, hiP, hP0, hP1, hPb⟩ := info_parts infoP9
  obtain ⟨i4, hiE, hE0, hE1, hEb⟩ := info_parts infoE9
  obtain ⟨va, vc, rfl, _⟩ := h.empty
  obtain ⟨w1, hw1⟩ : ∃ z, (w.alloc (.cells #[.slice va qs.length vc, .int .i64 l.next] 28)).alloc (.cells #[.slice va qs.length vc, .int .i64 l.next] 28) = z := ⟨_, rfl⟩
  have hb1 : Below w.heap.size w w1 := by rw [<- hw1]; exact ((Below.refl _ w).alloc (Nat.le_refl _) _).alloc (by simp) _
  have R0 : RefsB w00.heap.size w.heap.size w1 (.slice (some ⟨w.heap.size + 1, 0, none⟩) 1 1) (.slice none 0 0) l eds 0 [(.slice va qs.length vc, l.next)] := by
    have hr := row_one (w.alloc (.cells #[.slice va qs.length vc, .int .i64 l.next] 28)) 28 2 [.slice va qs.length vc, .int .i64 l.next] rfl
    rw [World.size_alloc] at hr
    refine ⟨rfl, by rw [<- hw1]; exact rowBase hr (by omega), fun i x n hi => ?_, ⟨rfl, .inl ⟨rfl, rfl⟩⟩⟩
    cases i with
    | zero =>
      simp at hi
      obtain ⟨rfl, rfl⟩ := hi
      exact ⟨qs, hw0.below hb1 (Nat.le_refl _), hes, rfl, fun p hp hne b e => (h.each p hp).lt hne b e⟩
    | succ i => simp at hi
  obtain ⟨ba, bc, rfl, hble, hbcs⟩ := _root_.id hv
  have PC := Lib.hid hbcs
  have HF := Lib.hid hf
  have HOK := Lib.hid ok
  have HB1 := Lib.hid hb1
  have HR0 := Lib.hid R0
  have HV := Lib.hid hv
  have GOOD := Lib.hid hg
  have OKON := Lib.hid hok
  have HW1 := Lib.hid hw1
  clear hbcs hf h hes ok hb1 hv hb00 hg hok hw0 R0 hw1
  go_enter Tryz.func12, Tryz.ntmps12
  go_wp2_with fail
  rw [HW1.out]
  go_loopw [5, 6, 7] (fun rv gv i wr => ∃ (k : Nat) (ls : List (Value × Int)), k <= eds.length /\ i = .int .i64 k /\ RefsB w00.heap.size w.heap.size wr rv gv l eds k ls /\ Below w.heap.size w wr) (fun _ _ i _ => eds.length - (intOf i).toNat)
  case atStart => exact ⟨0, _, Nat.zero_le _, rfl, HR0.out, HB1.out⟩
  case round =>
  obtain ⟨k, ls, hk, rfl, hR, hb⟩ := hrel
  by_cases hlt : k < eds.length
  . obtain ⟨ed, hed⟩ : ∃ ed, eds[k]? = some ed := ⟨_, List.getElem?_eq_getElem hlt⟩
    obtain ⟨b, off, fv, rfl, hbb, c0, c1, c2, hfl⟩ := PC.out k ed hed
    obtain ⟨fa, fc, rfl⟩ := hfl.form
    have hmem := List.mem_of_getElem? hed
    have hBw0 : Below w00.heap.size w00 wr := HB00.out.trans (hb.mono HB00.out.size)
    replace c0 := (hBw0.cell (p := ⟨b, off + k * 3, none⟩) hbb).trans c0
    replace c1 := (hBw0.cell (p := ⟨b, off + k * 3 + 1, none⟩) hbb).trans c1
    replace c2 := (hBw0.cell (p := ⟨b, off + k * 3 + 1 + 1, none⟩) hbb).trans c2
    have hbw := hBw0.size
    obtain ⟨g, vk, nk, cap, rfl, hle, hx, _, d0, d1⟩ := hR.elem (Nat.le_refl k)
    obtain ⟨qk, hqk, hqe, hqn, hqf⟩ := hR.each k vk nk hx
    obtain ⟨ka, kc, rfl, _⟩ := hqk.empty
    subst hqn
    have hgl : g < wr.heap.size := (hR.row.lt g rfl).2
    have c0' : ∀ o, (wr.alloc o).cell? ⟨b, off + k * 3, none⟩ = some (.int .i64 ed.kind) := fun o => by rw [World.cell?_alloc_lt _ _ ⟨b, off + k * 3, none⟩ (by show b < _; omega)]; exact c0
    have c1' : ∀ o, (wr.alloc o).cell? ⟨b, off + k * 3 + 1, none⟩ = some (.int .i64 ed.id) := fun o => by rw [World.cell?_alloc_lt _ _ ⟨b, off + k * 3 + 1, none⟩ (by show b < _; omega)]; exact c1
    have c2' : ∀ o, (wr.alloc o).cell? ⟨b, off + k * 3 + 1 + 1, none⟩ = some (.slice fa ed.fields.length fc) := fun o => by rw [World.cell?_alloc_lt _ _ ⟨b, off + k * 3 + 1 + 1, none⟩ (by show b < _; omega)]; exact c2
    have d0' : ∀ o, (wr.alloc o).cell? ⟨g, k * 2, none⟩ = some (.slice ka qk.length kc) := fun o => by rw [World.cell?_alloc_lt _ _ ⟨g, k * 2, none⟩ (by show g < _; omega)]; exact d0
    have d1' : ∀ o, (wr.alloc o).cell? ⟨g, k * 2 + 1, none⟩ = some (.int .i64 (lsOn l (eds.take k)).next) := fun o => by rw [World.cell?_alloc_lt _ _ ⟨g, k * 2 + 1, none⟩ (by show g < _; omega)]; exact d1
    have hokl := HOK.out.on (eds.take k)
    obtain ⟨ol1, ol2, ol3⟩ := on_len l (eds.take k)
    have htk : (eds.take k).length = k := take_len hed
    have hpos := hokl.pos
    have hql : qk.length <= 5100 := by
      have : qk.length = (lsOn l (eds.take k)).es.length := by rw [<- hqe, List.length_map]
      omega
    have ONE : Hid (∀ W, Below wr.heap.size wr W -> Calls Tryz.prog 27 #[.agg #[.slice ka qk.length kc, .int .i64 (lsOn l (eds.take k)).next], .agg #[.int .i64 ed.kind, .int .i64 ed.id, .slice fa ed.fields.length fc]] W fun e w' => ∃ v' qs' x, e = .returned (.tuple #[.agg #[v', .int .i64 (stepE (lsOn l (eds.take k)) ed).ls.next], .int .i64 (stepE (lsOn l (eds.take k)) ed).id, .int .i64 (stepE (lsOn l (eds.take k)) ed).bad]) /\ WrQ W (.slice ka qk.length kc) qk x (stepE (lsOn l (eds.take k)) ed).ls.es w' v' qs' /\ (x = .slice fa ed.fields.length fc \/ x = .slice none 0 0)) := fun W hW => by
      have h1 := refOne_any qk (.slice ka qk.length kc) (.slice fa ed.fields.length fc) (lsOn l (eds.take k)).next ed W (hqk.below hW (Nat.le_refl _)) (by omega) (by omega) ((hfl.1.below hBw0 (Nat.le_refl _)).below hW (Nat.le_refl _)) (HF.out ed hmem)
      rw [hqe] at h1
      exact h1
    have XF : Hid (∀ x, (x = .slice fa ed.fields.length fc \/ x = .slice none 0 0) -> ∃ fs, Flds wr x fs) := fun x hx => by
      rcases hx with rfl | rfl
      . exact ⟨_, hfl.1.below hBw0 (Nat.le_refl _)⟩
      exact ⟨[], none, 0, rfl, Nat.le_refl _, fun i f h => by simp at h⟩
    have FLD : Hid (∀ (W : World) (x v' : Value) (qs' : List Pr), EntsQ W v' qs' -> (∀ p ∈ qs', p ∈ qk \/ p.2 = x) -> (x = .slice fa ed.fields.length fc \/ x = .slice none 0 0) -> ∀ p ∈ qs', p.1.1.fields ≠ [] -> ∀ b, p.2.ownBlock = some b -> b < w00.heap.size) := fun W x v' qs' he hm hx p hp hne r e => by
      rcases hm p hp with q | q
      . exact hqf p q hne r e
      rcases hx with rfl | rfl
      . have hf : ed.fields ≠ [] := by
          intro e0
          obtain ⟨A, c, e1, _⟩ := he.each p hp
          rw [q] at e1
          injection e1 with _ e3 _
          rw [e0] at e3
          exact hne (List.length_eq_zero_iff.1 e3.symm)
        rw [q] at e
        exact hfl.1.lt hf r e
      rw [q] at e; cases e
    have DR : Hid (Below wr.heap.size wr wr.drew) := (Below.refl _ _).drew
    have AR : Hid (Below wr.heap.size wr (wr.alloc (.cells #[.slice none 0 0, .int .i64 0] 28)).drew) := ((Below.refl _ _).alloc (Nat.le_refl _) _).drew
    have ARC := Lib.hid (show Cells (wr.alloc (.cells #[.slice none 0 0, .int .i64 0] 28)).drew wr.heap.size 28 #[.slice none 0 0, .int .i64 0] from (Cells.new _ _ _).drew)
    have HWS := Lib.hid (show (wr.alloc (.cells #[.slice none 0 0, .int .i64 0] 28)).drew.heap.size = wr.heap.size + 1 by show (wr.alloc _).heap.size = _; simp)
    have HQK := Lib.hid hqk
    have HRK := Lib.hid hR
    have HBK := Lib.hid hb
    have HED := Lib.hid hed
    obtain ⟨ga, gc, hgv, hgle⟩ := own_slice hR.ids
    subst hgv
    have hk1 : (k : Int) < (k : Int) + 1 := by omega
    clear hed hqk hqe hqf hR hb hfl hmem hokl ol1 ol2 ol3 hpos PC hx
    generalize hst : stepE (lsOn l (eds.take k)) ed = st at *
    go_upto_region 6 with fail
    go_cut [8, 9] (fun c d wx => ∃ mb v' qs' x, c = .pointer (some ⟨mb, 0, none⟩) /\ d = .int .i64 st.id /\ OneR wr wx mb (.slice ka qk.length kc) x v' qk qs' st.ls.es st.ls.next /\ (x = .slice fa ed.fields.length fc \/ x = .slice none 0 0))
    case first =>
      go_region_law (go_simp; go_at_call 27; first
        | (refine (ONE.out _ DR.out).mono ?_; rintro e w5 ⟨v', qs', x, rfl, hW, hx⟩; obtain ⟨xa, xc, rfl, _⟩ := hW.ents.empty; have HW5 := Lib.hid hW; have HX5 := Lib.hid hx; clear hW hx)
        | (refine (ONE.out _ AR.out).mono ?_; rintro e w5 ⟨v', qs', x, rfl, hW, hx⟩; obtain ⟨xa, xc, rfl, _⟩ := hW.ents.empty; have kk := cells_kept ARC.out hW.below ARC.out.lt; have t0 := kk.cell 0; have t1 := kk.cell 1; have tf0 := kk.frozen 0; have tf1 := kk.frozen 1; simp only [List.getElem?_toArray, List.getElem?_cons_zero, List.getElem?_cons_succ] at t0 t1; have HW5 := Lib.hid hW; have HX5 := Lib.hid hx; clear hW hx kk))
      all_goals (try go_wp2_with fail)
      all_goals go_meet
      all_goals first
        | exact ⟨_, _, qs', _, rfl, rfl, oneA HW5.out, HX5.out⟩
        | exact ⟨_, _, qs', _, rfl, rfl, oneB rfl HW5.out HQK.out (XF.out _ HX5.out) HWS.out, HX5.out⟩
    case rest =>
    obtain ⟨mb, v', qs', x, rfl, rfl, hO, hx⟩ := hcut
    obtain ⟨xa, xc, rfl, _⟩ := hO.ents.empty
    have hzx := hO.below.size
    have hlow : w.heap.size <= wr.heap.size := HBK.out.size
    have hflB := FLD.out wc x _ qs' hO.ents hO.mem hx
    have RX := HRK.out.below hO.below
    have m0 : wc.cell? ⟨mb, 0, none⟩ = some (.slice xa qs'.length xc) := by rw [hO.box.cell]; rfl
    have m1 : wc.cell? ⟨mb, 1, none⟩ = some (.int .i64 st.ls.next) := by rw [hO.box.cell]; rfl
    have HE := Lib.hid hO.ents
    have HES := Lib.hid hO.es
    have HFB := Lib.hid hflB
    have HBX := Lib.hid (HBK.out.trans (hO.below.mono HBK.out.size))
    have HRX := Lib.hid RX
    have N1 : Hid (∀ (j : Nat) (u : Value), [Value.slice xa qs'.length xc, .int .i64 st.ls.next][j]? = some u -> (wc.alloc (.cells #[.slice xa qs'.length xc, .int .i64 st.ls.next] 28)).cell? ((⟨wc.heap.size, 0, none⟩ : Addr).add j) = some u) := fun j u h => by
      have ea : (⟨wc.heap.size, 0, none⟩ : Addr).add j = ⟨wc.heap.size, j, none⟩ := by unfold Addr.add; split <;> simp_all
      rw [ea, (Cells.new wc 28 #[.slice xa qs'.length xc, .int .i64 st.ls.next]).cell j]
      simpa using h
    have N2 : ∀ w3 : World, Hid (∀ (j : Nat) (u : Value), [encI st.id][j]? = some u -> (w3.alloc (.cells #[.int .i64 st.id] 3)).cell? ((⟨w3.heap.size, 0, none⟩ : Addr).add j) = some u) := fun w3 j u h => by
      have ea : (⟨w3.heap.size, 0, none⟩ : Addr).add j = ⟨w3.heap.size, j, none⟩ := by unfold Addr.add; split <;> simp_all
      rw [ea, (Cells.new w3 3 #[.int .i64 st.id]).cell j]
      simpa [encI] using h
    have hw1z : w.heap.size <= wc.heap.size := HBX.out.size
    clear hO hx hflB RX ONE XF FLD ARC DR AR HWS HQK HRK HBK c0' c1' c2' d0' d1' d0 d1 c0 c1 c2
    go_wp2_with (at_builtin; refine wpList_append_at rfl _ _ 77 rfl w.heap.size 28 i2 _ 2 32 Tryz.underlying77 hiL hL0 hL1 hLb rfl (by decide) _ _ _ rfl (HRX.out.row.alloc _) _ 1 1 [.slice xa qs'.length xc, .int .i64 st.ls.next] rfl rfl N1.out (by intro u hu; simp at hu; rcases hu with rfl | rfl <;> rfl) (by unfold maxLen; omega) (by omega) (by simp only [World.size_alloc]; omega) ?_)
    intro rv2 W4 own4 grow4 at4
    have hb4 : Below wc.heap.size wc (wc.alloc (.cells #[.slice xa qs'.length xc, .int .i64 st.ls.next] 28)) := (Below.refl _ _).alloc (Nat.le_refl _) _
    have o4 : Only (fun r => (Value.slice (some ⟨g, 0, none⟩) (k + 1) cap).ownBlock = some r) wc W4 := (Only.of_below (S := fun r => (Value.slice (some ⟨g, 0, none⟩) (k + 1) cap).ownBlock = some r) hb4 (Nat.le_refl _)).grown grow4 (fun r e => .inl e)
    have ids4 := row_only HRX.out.ids o4 (fun b e q => own_own_ne HRX.out.row HRX.out.ids (by decide) b q e)
    have HO4 := Lib.hid o4
    have HI4 := Lib.hid ids4
    have HR4 := Lib.hid own4
    have hs4 := o4.size
    obtain ⟨ra, rc, rfl, hrle⟩ := own_slice own4
    have hidl : ((idsA l eds k).map encI).length = k := by rw [List.length_map, idsA_len]
    clear own4 grow4 at4 o4 ids4 hb4 N1
    go_wp2_with (at_builtin; refine wpList_append_at rfl _ _ 35 rfl w.heap.size 3 i1 _ 1 8 Tryz.underlying35 hi hz0 hz1 hib rfl (by decide) _ _ _ rfl (HI4.out.alloc _) _ 1 1 [encI st.id] rfl rfl ((N2 W4).out) (by intro u hu; simp at hu; subst hu; rfl) (by unfold maxLen; omega) (by omega) (by simp only [World.size_alloc]; omega) ?_)
    intro gv2 W5 own5 grow5 at5
    have hb5 : Below W4.heap.size W4 (W4.alloc (.cells #[.int .i64 st.id] 3)) := (Below.refl _ _).alloc (Nat.le_refl _) _
    have o5 : Only (fun r => (Value.slice ga k gc).ownBlock = some r) W4 W5 := (Only.of_below (S := fun r => (Value.slice ga k gc).ownBlock = some r) hb5 (Nat.le_refl _)).grown grow5 (fun r e => .inl e)
    have R5 := Lib.hid (HRX.out.more (ed := ed) hz00 HED.out HE.out (by rw [hst]; exact HES.out) (by rw [hst]) HFB.out HR4.out HO4.out (by rw [hst]; exact own5) o5)
    have rl : ∀ r, (Value.slice (some ⟨g, 0, none⟩) (k + 1) cap).ownBlock = some r -> w.heap.size <= r := fun r e => (HRX.out.row.lt r e).1
    have gl : ∀ r, (Value.slice ga k gc).ownBlock = some r -> w.heap.size <= r := fun r e => (HRX.out.ids.lt r e).1
    have B5 := Lib.hid ((HBX.out.trans (HO4.out.to_below (by omega) (fun r hr e => by have := rl r e; omega))).trans (o5.to_below (by omega) (fun r hr e => by have := gl r e; omega)))
    clear own5 grow5 at5 o5 hb5 rl gl N2 HRX HE HES HFB HI4 HR4 HO4
    go_wp2_with fail
    go_roundw
    case rel => exact ⟨k + 1, _, hlt, by go_num, R5.out, B5.out⟩
    case measure => simp [intOf]; omega
  obtain rfl : k = eds.length := by omega
  obtain ⟨g, vk, nk, cap, rfl, hle, hx, _, d0, d1⟩ := hR.elem (Nat.le_refl _)
  obtain ⟨qk, hqk, hqe, hqn, hqf⟩ := hR.each _ vk nk hx
  rw [List.take_length] at hqn
  subst hqn
  obtain ⟨ga, gc, hgv, hgle⟩ := own_slice hR.ids
  subst hgv
  have HRK := Lib.hid hR
  have HBK := Lib.hid hb
  have hk1 : (eds.length : Int) < (eds.length : Int) + 1 := by omega
  have HNX := Lib.hid (backAt_next l eds)
  have hok2 := on_len l eds
  have hpos := (HOK.out.on eds).pos
  clear hR hb hx hqk hqe hqf d0
  go_wp2_with fail
  go_loopw [11, 12, 13, 14] (fun nv pv ov i wr2 => ∃ (m : Nat) (ps : List (Int × Int)) (fvs : List Value), m <= eds.length /\ i = .int .i64 ((m : Int) - 1) /\ BackD w00.heap.size w.heap.size w wr2 (.slice (some ⟨g, 0, none⟩) (eds.length + 1) cap) (.slice ga eds.length gc) l eds ls m nv pv ov ps fvs) (fun _ _ _ i _ => (intOf i + 1).toNat)
  case atStart => exact ⟨eds.length, [], [], Nat.le_refl _, rfl, ⟨by rw [Nat.sub_self]; rfl, fun id => by rw [Nat.sub_self]; rfl, Nat.zero_le _, by rw [Nat.sub_self]; exact OutB.nil _ _ _, HRK.out, HBK.out⟩⟩
  case round =>
  obtain ⟨m, ps, fvs, hm, rfl, hD⟩ := hrel
  have hnv := hD.nx
  subst hnv
  obtain ⟨pa, pc, rfl, hple⟩ := own_slice hD.out.prow
  obtain ⟨oa, oc, rfl, hole⟩ := own_slice hD.out.orow
  cases m with
  | zero =>
    have E := Lib.hid (show EdQ wr _ (backB l eds) from hD.out.edq)
    have B := Lib.hid hD.below
    clear hD HRK HBK
    go_wp2_with fail
    go_ret
    exact ⟨B.out, _, rfl, E.out⟩
  | succ m =>
  have hml : m < eds.length := by omega
  obtain ⟨ed, hed⟩ : ∃ ed, eds[m]? = some ed := ⟨_, List.getElem?_eq_getElem hml⟩
  have hzi : ((m + 1 : Nat) : Int) - 1 = (m : Int) := by omega
  rw [hzi]
  obtain ⟨b, off, fv, rfl, hbb, c0, c1, c2, hfl⟩ := PC.out m ed hed
  obtain ⟨fa, fc, rfl⟩ := hfl.form
  have hBw0 : Below w00.heap.size w00 wr := HB00.out.trans (hD.below.mono HB00.out.size)
  replace c0 := (hBw0.cell (p := ⟨b, off + m * 3, none⟩) hbb).trans c0
  replace c1 := (hBw0.cell (p := ⟨b, off + m * 3 + 1, none⟩) hbb).trans c1
  replace c2 := (hBw0.cell (p := ⟨b, off + m * 3 + 1 + 1, none⟩) hbb).trans c2
  obtain ⟨g', vq, nq, cap', e1, _, hx2, _, d0, d1'⟩ := hD.refs.elem (Nat.le_of_lt hml)
  cases e1
  obtain ⟨qq, hqq, hqqe, hqqn, hqqf⟩ := hD.refs.each m vq nq hx2
  obtain ⟨qa, qc, rfl, _⟩ := hqq.empty
  subst hqqn
  obtain ⟨g2, cap2, e2, _, d2⟩ := hD.refs.idAt hml
  cases e2
  have hgl : g < wr.heap.size := (hD.refs.row.lt g rfl).2
  have hg2l : g2 < wr.heap.size := (hD.refs.ids.lt g2 rfl).2
  obtain ⟨w2, hw2⟩ : ∃ z, wr.alloc (.cells #[.int .i64 ed.kind, .int .i64 ed.id, .slice fa ed.fields.length fc] 53) = z := ⟨_, rfl⟩
  have b2 : Below wr.heap.size wr w2 := by rw [<- hw2]; exact (Below.refl _ _).alloc (Nat.le_refl _) _
  have hz2 : w2.heap.size = wr.heap.size + 1 := by rw [<- hw2]; simp
  have X2 : Cells w2 wr.heap.size 53 #[.int .i64 ed.kind, .int .i64 ed.id, .slice fa ed.fields.length fc] := by rw [<- hw2]; exact Cells.new _ _ _
  have D2 := hD.kept b2
  have hq2 := hqq.below b2 (Nat.le_refl _)
  have es0 : w2.cell? ⟨g, m * 2, none⟩ = some (.slice qa qq.length qc) := (b2.cell (p := ⟨g, m * 2, none⟩) hgl).trans d0
  have es1 : w2.cell? ⟨g, m * 2 + 1, none⟩ = some (.int .i64 (lsOn l (eds.take m)).next) := (b2.cell (p := ⟨g, m * 2 + 1, none⟩) hgl).trans d1'
  have ei : w2.cell? ⟨g2, m, none⟩ = some (.int .i64 (idAt l eds m)) := (b2.cell (p := ⟨g2, m, none⟩) hg2l).trans d2
  have x1 : w2.cell? ⟨wr.heap.size, 1, none⟩ = some (.int .i64 ed.id) := by rw [X2.cell]; rfl
  have es0' : ∀ o, (w2.alloc o).cell? ⟨g, m * 2, none⟩ = some (.slice qa qq.length qc) := fun o => by rw [World.cell?_alloc_lt _ _ ⟨g, m * 2, none⟩ (by show g < _; omega)]; exact es0
  have es1' : ∀ o, (w2.alloc o).cell? ⟨g, m * 2 + 1, none⟩ = some (.int .i64 (lsOn l (eds.take m)).next) := fun o => by rw [World.cell?_alloc_lt _ _ ⟨g, m * 2 + 1, none⟩ (by show g < _; omega)]; exact es1
  have x1' : ∀ o, (w2.alloc o).cell? ⟨wr.heap.size, 1, none⟩ = some (.int .i64 ed.id) := fun o => by rw [World.cell?_alloc_lt _ _ ⟨wr.heap.size, 1, none⟩ (by show wr.heap.size < _; omega)]; exact x1
  obtain ⟨ol1, ol2, ol3⟩ := on_len l (eds.take m)
  have htk : (eds.take m).length = m := take_len hed
  have hokl := HOK.out.on (eds.take m)
  have hpos2 := hokl.pos
  have hql : qq.length <= 5100 := by
    have : qq.length = (lsOn l (eds.take m)).es.length := by rw [<- hqqe, List.length_map]
    omega
  have GET : Hid (∀ W, Below w2.heap.size w2 W -> Calls Tryz.prog 28 #[.agg #[.slice qa qq.length qc, .int .i64 (lsOn l (eds.take m)).next], .int .i64 ed.id] W fun e w' => GetR w2 W w' qq (lsOn l (eds.take m)).es ed.id e) := fun W hW => get_was9 hq2 hW hqqe (by omega)
  have D2R : Hid (Below w2.heap.size w2 w2.drew) := (Below.refl _ _).drew
  have A2R : Hid (Below w2.heap.size w2 (w2.alloc (.cells #[.int .i64 0, .string ⟨#[]⟩, .slice none 0 0] 80)).drew) := ((Below.refl _ _).alloc (Nat.le_refl _) _).drew
  have A2C := Lib.hid (show Cells (w2.alloc (.cells #[.int .i64 0, .string ⟨#[]⟩, .slice none 0 0] 80)).drew w2.heap.size 80 #[.int .i64 0, .string ⟨#[]⟩, .slice none 0 0] from (Cells.new _ _ _).drew)
  have HED := Lib.hid hed
  have HQQ := Lib.hid hq2
  have HQE := Lib.hid hqqe
  have HQF := Lib.hid hqqf
  have HX2 := Lib.hid X2
  have HD2 := Lib.hid D2
  have HW2 := Lib.hid hw2
  have HZ2 := Lib.hid hz2
  have hlow := hD.below.size
  have HOVL : Hid (∀ r, (Value.slice oa (backAt l eds (eds.length - (m + 1))).out.length oc).ownBlock = some r -> r < wr.heap.size) := fun r e => (hD.out.orow.lt r e).2
  have hm1 : (m : Int) < (eds.length : Int) + 1 := by omega
  have hm0 : (m : Int) < (eds.length : Int) := by omega
  clear hed hD hqq hqqe hqqf hx2 hfl hBw0 b2 X2 D2 hq2 hw2 d0 d1' d2 ol1 ol2 ol3 hokl hz2
  go_upto_region 16 with fail
  rw [HW2.out]
  go_cut [16] (fun c wx => ∃ ib kd rw_ ga2 gn2 gc2, c = .pointer (some ⟨ib, 0, none⟩) /\ GotR w2 wx ib kd rw_ ga2 gn2 gc2 /\ Flds w2 (.slice ga2 gn2 gc2) (wasE (lsOn l (eds.take m)).es ed.id) /\ (wasE (lsOn l (eds.take m)).es ed.id ≠ [] -> ∃ p ∈ qq, p.1.1.fields = wasE (lsOn l (eds.take m)).es ed.id /\ p.2 = .slice ga2 gn2 gc2))
  case first =>
    go_region_law (go_simp; go_at_call 28; first
      | (refine (GET.out _ D2R.out).mono ?_; rintro e w5 ⟨kd, rw_, ga2, gn2, gc2, q, rfl, hF5, hM5, hb5⟩; have HF5 := Lib.hid hF5; have HM5 := Lib.hid hM5; have HB5 := Lib.hid hb5; clear hF5 hM5 hb5)
      | (refine (GET.out _ A2R.out).mono ?_; rintro e w5 ⟨kd, rw_, ga2, gn2, gc2, q, rfl, hF5, hM5, hb5⟩; have kk := cells_kept A2C.out hb5 A2C.out.lt; have t0 := kk.cell 0; have t1 := kk.cell 1; have t2 := kk.cell 2; have tf0 := kk.frozen 0; have tf1 := kk.frozen 1; have tf2 := kk.frozen 2; simp only [List.getElem?_toArray, List.getElem?_cons_zero, List.getElem?_cons_succ] at t0 t1 t2; have HF5 := Lib.hid hF5; have HM5 := Lib.hid hM5; have HB5 := Lib.hid hb5; clear hF5 hM5 hb5 kk))
    all_goals (try go_wp2_with fail)
    all_goals go_meet
    all_goals first
      | exact ⟨_, kd, rw_, ga2, gn2, gc2, rfl, gotA HB5.out, HF5.out, HM5.out⟩
      | exact ⟨_, kd, rw_, ga2, gn2, gc2, rfl, gotB HB5.out, HF5.out, HM5.out⟩
  case rest =>
  obtain ⟨ib, kd, rw_, ga2, gn2, gc2, rfl, hG, hF2, hM2⟩ := hcut
  have hwx := hG.below.size
  have hzz : wr.heap.size < wc.heap.size := by have := HZ2.out; omega
  have hFB : wasE (lsOn l (eds.take m)).es ed.id ≠ [] -> ∀ b, (Value.slice ga2 gn2 gc2).ownBlock = some b -> b < w00.heap.size := fun hne b e => by
    obtain ⟨p, hp, q1, q2⟩ := hM2 hne
    exact HQF.out p hp (by rw [q1]; exact hne) b (by rw [q2]; exact e)
  have HFB := Lib.hid hFB
  have HFC := Lib.hid (hF2.below hG.below (Nat.le_refl _))
  have HDC := Lib.hid (HD2.out.kept hG.below)
  have XC := cells_kept HX2.out hG.below HX2.out.lt
  have HXC := Lib.hid XC
  have HG := Lib.hid hG
  have hG' := HG
  have x0c : wc.cell? ⟨wr.heap.size, 0, none⟩ = some (.int .i64 ed.kind) := by rw [XC.cell]; rfl
  have x1c : wc.cell? ⟨wr.heap.size, 1, none⟩ = some (.int .i64 ed.id) := by rw [XC.cell]; rfl
  have eic : wc.cell? ⟨g2, m, none⟩ = some (.int .i64 (idAt l eds m)) := (hG.below.cell (p := ⟨g2, m, none⟩) (by have := HZ2.out; show g2 < _; omega)).trans ei
  have esc0 : wc.cell? ⟨g, m * 2, none⟩ = some (.slice qa qq.length qc) := (hG.below.cell (p := ⟨g, m * 2, none⟩) (by have := HZ2.out; show g < _; omega)).trans es0
  have esc1 : wc.cell? ⟨g, m * 2 + 1, none⟩ = some (.int .i64 (lsOn l (eds.take m)).next) := (hG.below.cell (p := ⟨g, m * 2 + 1, none⟩) (by have := HZ2.out; show g < _; omega)).trans es1
  have REN : Hid (∀ (W : World) (id : Int), Below wc.heap.size wc W -> Calls Tryz.prog 29 #[.slice pa ps.length pc, .int .i64 id] W fun e w' => ∃ v, e = .returned v /\ (v = .int .i64 ((backAt l eds (eds.length - (m + 1))).ren id)) /\ Below W.heap.size W w') := fun W id hW =>
    (renamed_any ((HDC.out.kept hW).out.pairs) (by have := HDC.out.few; omega) id).mono fun e w' ⟨h1, h2⟩ => ⟨_, h1, by rw [HDC.out.ren], by rw [h2]; exact Below.refl _ _⟩
  have hbl : (backAt l eds (eds.length - (m + 1))).out.length <= eds.length := by rw [backAt_len l eds (eds.length - (m + 1)) (by omega)]; omega
  have hkd := goodE_kind (GOOD.out ed (List.mem_of_getElem? HED.out))
  have hbad := okOn_get OKON.out HED.out
  have hnx := HNX.out (eds.length - (m + 1))
  have hps := HDC.out.few
  have N3 : ∀ (w3 : World) (x0 x1 x2 : Value), Hid (∀ (j : Nat) (u : Value), [x0, x1, x2][j]? = some u -> (w3.alloc (.cells #[x0, x1, x2] 53)).cell? ((⟨w3.heap.size, 0, none⟩ : Addr).add j) = some u) := fun w3 x0 x1 x2 j u h => by
    have ea : (⟨w3.heap.size, 0, none⟩ : Addr).add j = ⟨w3.heap.size, j, none⟩ := by unfold Addr.add; split <;> simp_all
    rw [ea, (Cells.new w3 53 #[x0, x1, x2]).cell j]
    simpa using h
  clear hFB hF2 hM2 hG XC HD2 HX2 HQF D2R A2R A2C GET es0 es1 ei x1 es0' es1' x1' HW2
  generalize hst : backAt l eds (eds.length - (m + 1)) = st at *
  rcases hkd with hk | hk | hk
  . -- a replacing one
    rw [hk] at x0c
    have hU : undoE st.ren (lsOn l (eds.take m)) ed = ⟨1, st.ren ed.id, wasE (lsOn l (eds.take m)).es ed.id⟩ := by unfold undoE; rw [if_pos hk]
    have HU := Lib.hid hU
    clear hU
    go_wp2_with fail
    refine wp_region_any (by kernel_rfl) ?_
    refine region_rb18 _ wc.drew wr.heap.size ib w.heap.size (.slice oa st.out.length oc) (.slice pa ps.length pc) ed.id (st.ren ed.id) ga2 gn2 gc2 _ rfl rfl rfl rfl rfl ?hE ?hlo ?hC4 ?hQ
    case hE =>
      intro W hW
      have hW' := ((Below.refl wc.heap.size wc).drew).trans hW
      have k1 := cells_kept HXC.out hW' HXC.out.lt
      have k2 := cells_kept HG.out.box hW' HG.out.box.lt
      exact ⟨by rw [k1.cell]; rfl, by rw [k2.cell]; rfl⟩
    case hlo => show w.heap.size <= wc.heap.size; omega
    case hC4 => exact fun W hW => REN.out W ed.id (((Below.refl wc.heap.size wc).drew).trans hW)
    case hQ =>
    intro y0 y1 y2 y3 y4 y5 y6 y7 y8 w6 hb6 hy0 hy8
    try dsimp only at hy0 hy8
    subst hy0
    obtain ⟨eb, rfl, hloe, hce⟩ := hy8
    have hb6' := ((Below.refl wc.heap.size wc).drew).trans hb6
    have HD6 := Lib.hid (HDC.out.kept hb6')
    have HF6 := Lib.hid (HFC.out.below hb6' (Nat.le_refl _))
    have ROW : Hid (w6.ownsRow w.heap.size 53 3 (.slice oa st.out.length oc) st.out.length (edRow st.out fvs)) := by
      have h := HD6.out.out.orow
      rw [hst] at h
      exact h
    have hs6 := hb6'.size
    have HV : Hid (∀ (j : Nat) (u : Value), [Value.int .i64 1, .int .i64 (st.ren ed.id), .slice ga2 gn2 gc2][j]? = some u -> w6.cell? ((⟨eb, 0, none⟩ : Addr).add j) = some u) := fun j u h => by
      have ea : (⟨eb, 0, none⟩ : Addr).add j = ⟨eb, j, none⟩ := by unfold Addr.add; split <;> simp_all
      rw [ea, hce.cell j]
      simpa using h
    clear hb6 hb6' hce HDC HFC HXC HG REN esc0 esc1 eic x0c x1c N3
    simp only [List.foldl, List.setIfInBounds_toArray, List.set_cons_zero, List.set_cons_succ]
    go_wp2_with (at_builtin; refine wpList_append_at rfl _ _ 22 rfl w.heap.size 53 i4 _ 3 40 Tryz.underlying22 hiE hE0 hE1 hEb rfl (by decide) _ _ _ rfl ROW.out _ 1 1 [.int .i64 1, .int .i64 (st.ren ed.id), .slice ga2 gn2 gc2] rfl rfl HV.out (by intro u hu; simp at hu; rcases hu with rfl | rfl | rfl <;> rfl) (by unfold maxLen; omega) (by omega) (by omega) ?_)
    intro ov2 W7 own7 grow7 at7
    have o7 : Only (fun r => (Value.slice oa st.out.length oc).ownBlock = some r) w6 W7 := (Only.refl _ w6).grown grow7 (fun r e => .inl e)
    have D7 := Lib.hid (HD6.out.next1 (ed := ed) (ku := 1) (iu := st.ren ed.id) (fu := wasE (lsOn l (eds.take m)).es ed.id) (fv := .slice ga2 gn2 gc2) hz00 rfl HED.out (by omega) (by rw [hst]; exact HU.out) HF6.out HFB.out (by rw [hst]; exact own7) o7)
    clear own7 grow7 at7 o7 HD6 HF6 HV HU ROW
    go_wp2_with fail
    go_roundw
    case rel => exact ⟨m, ps, _, by omega, by go_num, D7.out⟩
    case measure => simp [intOf]
  . -- a deleting one
    rw [hk] at x0c
    have HU : Hid (∀ z, z = aheadZ (szE (lsOn l (eds.take m)).es) ed.id -> undoE st.ren (lsOn l (eds.take m)) ed = ⟨3, st.ren z, wasE (lsOn l (eds.take m)).es ed.id⟩) := fun z hz => by unfold undoE; rw [if_neg (by omega), if_pos hk, hz]
    have hstz : stzN qq = szE (lsOn l (eds.take m)).es := by
      rw [<- HQE.out]
      unfold stzN szE
      rw [List.filter_map, List.map_map]; rfl
    have hwq := HQQ.out.below hG'.out.below (Nat.le_refl _)
    have PLC : Hid (∀ W, Below wc.heap.size wc W -> Calls Tryz.prog 30 #[.agg #[.slice qa qq.length qc, .int .i64 (lsOn l (eds.take m)).next], .int .i64 ed.id] W fun e w' => ∃ v, e = .returned v /\ (v = .int .i64 (placeS (szE (lsOn l (eds.take m)).es) ed.id)) /\ Below W.heap.size W w') := fun W hW => by
      have h := refPlace7_any qq (.slice qa qq.length qc) (lsOn l (eds.take m)).next ed.id W (hwq.below hW (Nat.le_refl _)) (by omega)
      rw [hstz] at h
      exact h.mono fun e w' ⟨h1, h2⟩ => ⟨_, h1, rfl, h2⟩
    have STC : Hid (∀ W, Below wc.heap.size wc W -> Calls Tryz.prog 31 #[.agg #[.slice qa qq.length qc, .int .i64 (lsOn l (eds.take m)).next]] W fun e w' => ∃ u fvs, e = .returned u /\ AccY W w' u fvs (szE (lsOn l (eds.take m)).es)) := fun W hW => by
      have h := refStanzas7_any qq (.slice qa qq.length qc) (lsOn l (eds.take m)).next W (hwq.below hW (Nat.le_refl _)) (by omega)
      rw [hstz] at h
      exact h
    have AHD := Lib.hid (ahead_at (szE (lsOn l (eds.take m)).es) ed.id)
    have hszl : (szE (lsOn l (eds.take m)).es).length <= 5100 := by rw [<- hstz]; exact Nat.le_trans (stzN_len qq) hql
    have HI0 : Hid (∀ W, Below wc.heap.size wc W -> (Instr.indexAt 77 (.slice (some ⟨g, 0, none⟩) (eds.length + 1) cap) (.int .i64 (m : Nat))).run Tryz.prog W = .ok (.pointer (some ⟨g, m * 2, none⟩)) W) := fun W hW => by simp [go_sem, hm1]
    have HI1 : Hid (∀ W, Below wc.heap.size wc W -> (Instr.loadAt 28 (.pointer (some ⟨g, m * 2, none⟩))).run Tryz.prog W = .ok (.agg #[.slice qa qq.length qc, .int .i64 (lsOn l (eds.take m)).next]) W) := fun W hW => by
      have k0 := (hW.cell (p := ⟨g, m * 2, none⟩) (by show g < _; omega)).trans esc0
      have k1 := (hW.cell (p := ⟨g, m * 2 + 1, none⟩) (by show g < _; omega)).trans esc1
      simp [go_sem, k0, k1]
    clear hstz hwq
    go_wp2_with fail
    refine wp_region_any (by kernel_rfl) ?_
    refine region_rb21 _ wc.drew wr.heap.size (.slice (some ⟨g, 0, none⟩) (eds.length + 1) cap) (.pointer (some ⟨g, m * 2, none⟩)) (.agg #[.slice qa qq.length qc, .int .i64 (lsOn l (eds.take m)).next]) (m : Nat) ed.id (placeS (szE (lsOn l (eds.take m)).es) ed.id) _ rfl rfl rfl rfl ?hE ?hI ?hLD ?hC6 ?hQ
    case hE =>
      intro W hW
      have k1 := cells_kept HXC.out (((Below.refl wc.heap.size wc).drew).trans hW) HXC.out.lt
      rw [k1.cell]; rfl
    case hI => exact fun W hW => HI0.out W (((Below.refl wc.heap.size wc).drew).trans hW)
    case hLD => exact fun W hW => HI1.out W (((Below.refl wc.heap.size wc).drew).trans hW)
    case hC6 => exact fun W hW => PLC.out W (((Below.refl wc.heap.size wc).drew).trans hW)
    case hQ =>
    intro y0 y1 y2 y3 y4 y5 y6 y7 w6 hb6 hy7
    try dsimp only at hy7
    subst hy7
    have hb6' := ((Below.refl wc.heap.size wc).drew).trans hb6
    have HB6 := Lib.hid hb6'
    have hs6 := hb6'.size
    have f0 : w6.cell? ⟨g, m * 2, none⟩ = some (.slice qa qq.length qc) := (hb6'.cell (p := ⟨g, m * 2, none⟩) (by show g < _; omega)).trans esc0
    have f1 : w6.cell? ⟨g, m * 2 + 1, none⟩ = some (.int .i64 (lsOn l (eds.take m)).next) := (hb6'.cell (p := ⟨g, m * 2 + 1, none⟩) (by show g < _; omega)).trans esc1
    have ST6 := Lib.hid (STC.out w6 hb6')
    clear hb6 hb6' PLC STC HI0 HI1 esc0 esc1 eic
    simp only [List.foldl, List.setIfInBounds_toArray, List.set_cons_zero, List.set_cons_succ]
    generalize hrs : szE (lsOn l (eds.take m)).es = rs at *
    go_upto_if 110 with fail
    go_cut [19] (fun a wx => a = .int .i64 (aheadZ rs ed.id) /\ Below w6.heap.size w6 wx)
    case first =>
      rcases AHD.out with ⟨h1, h2⟩ | ⟨k, s, h1, h2, h3⟩
      . have c1 : ¬ 0 < placeS rs ed.id := by omega
        have c1' : decide (0 < placeS rs ed.id) = false := decide_eq_false c1
        have H2 := Lib.hid h2
        clear h1 h2
        go_wp2_with fail
        go_meet
        exact ⟨by rw [H2.out], Below.refl _ _⟩
      have H3 := Lib.hid h3
      have c1 : 0 < placeS rs ed.id := by omega
      have c1' : decide (0 < placeS rs ed.id) = true := decide_eq_true c1
      have hwr : IntKind.i64.wrap (placeS rs ed.id - 1) = (k : Int) := by
        rw [h1, show ((k : Int) + 1 - 1) = (k : Int) by omega]
        exact IntWalk.i64_in _ (by have := (List.getElem?_eq_some_iff.1 h2).1; omega)
      have hk9 := (List.getElem?_eq_some_iff.1 h2).1
      have H2 := Lib.hid h2
      clear h1 h2 h3 AHD
      go_wp2_with fail
      refine ST6.out.mono ?_
      rintro e w8 ⟨u, fvs', rfl, acc⟩
      obtain ⟨f, hfv⟩ : ∃ f, fvs'[k]? = some f := ⟨_, List.getElem?_eq_getElem (by rw [acc.len]; omega)⟩
      have hat := (stzCells_at _ fvs' k s f H2.out hfv).1
      have HB8 := Lib.hid acc.below
      obtain ⟨ug, ucap, rfl, hcell⟩ : ∃ ug ucap, u = .slice (some ⟨ug, 0, none⟩) rs.length ucap /\ w8.cell? ⟨ug, k * 2, none⟩ = some (.int .i64 s.1) := by
        have hrow := acc.row
        obtain ⟨ug, ucap, hug⟩ := Joins.ownsRow_form hrow (by omega)
        rw [hug] at hrow
        exact ⟨ug, ucap, hug, by rw [World.ownsRow.cellAt hrow (k * 2) (by omega), hat]⟩
      have hwr2 : IntKind.i64.wrap (k : Int) = (k : Int) := IntWalk.i64_in _ (by omega)
      clear acc hat hfv
      generalize rs.length = len at *
      go_wp2_with fail
      go_meet
      exact ⟨by rw [H3.out], HB8.out⟩
    case rest =>
    obtain ⟨rfl, hbx⟩ := hcut
    have hU := HU.out _ rfl
    have HU2 := Lib.hid hU
    have HBX := Lib.hid (HB6.out.trans (hbx.mono HB6.out.size))
    have hsx := hbx.size
    have HDX := Lib.hid (HDC.out.kept HBX.out)
    have HFX := Lib.hid (HFC.out.below HBX.out (Nat.le_refl _))
    have HXX := Lib.hid (cells_kept HXC.out HBX.out HXC.out.lt)
    have HGX := Lib.hid (cells_kept HG.out.box HBX.out HG.out.box.lt)
    have RENX : Hid (∀ (W : World) (id : Int), Below wc.heap.size wc W -> Calls Tryz.prog 29 #[.slice pa ps.length pc, .int .i64 id] W fun e w' => ∃ v, e = .returned v /\ (v = .int .i64 (st.ren id)) /\ Below W.heap.size W w') := fun W id hW => REN.out W id (HBX.out.trans (hW.mono HBX.out.size))
    have hwn : IntKind.i64.wrap (st.next + 1) = st.next + 1 := IntWalk.i64_in _ (by omega)
    have hloc : w.heap.size <= wc.heap.size := by omega
    clear hU HU hbx HB6 HDC HFC HXC HG hG' REN AHD ST6 f0 f1 x0c x1c
    go_wp2_with fail
    refine wp_region_any (by kernel_rfl) ?_
    refine region_rb25 _ wc.drew ib w.heap.size (.slice oa st.out.length oc) (.slice pa ps.length pc) (aheadZ rs ed.id) (st.ren (aheadZ rs ed.id)) ga2 gn2 gc2 _ rfl rfl rfl rfl rfl ?hS ?hlo ?hC3 ?hQ
    case hS =>
      intro W hW
      have k2 := cells_kept HGX.out (((Below.refl wc.heap.size wc).drew).trans hW) HGX.out.lt
      rw [k2.cell]; rfl
    case hlo => exact hloc
    case hC3 => exact fun W hW => RENX.out W _ (((Below.refl wc.heap.size wc).drew).trans hW)
    case hQ =>
    intro y0 y1 y2 y3 y4 y5 y6 y7 w7 hb7 hy0 hy7
    try dsimp only at hy0 hy7
    subst hy0
    obtain ⟨eb, rfl, hloe, hce⟩ := hy7
    have hb7' := ((Below.refl wc.heap.size wc).drew).trans hb7
    have HD7 := Lib.hid (HDX.out.kept hb7')
    have HF7 := Lib.hid (HFX.out.below hb7' (Nat.le_refl _))
    have HX7 := Lib.hid (cells_kept HXX.out hb7' HXX.out.lt)
    have hs7 := hb7'.size
    have ROW : Hid (w7.ownsRow w.heap.size 53 3 (.slice oa st.out.length oc) st.out.length (edRow st.out fvs)) := by
      have h := HD7.out.out.orow
      rw [hst] at h
      exact h
    have HV7 : Hid (∀ (j : Nat) (u : Value), [Value.int .i64 3, .int .i64 (st.ren (aheadZ rs ed.id)), .slice ga2 gn2 gc2][j]? = some u -> w7.cell? ((⟨eb, 0, none⟩ : Addr).add j) = some u) := fun j u h => by
      have ea : (⟨eb, 0, none⟩ : Addr).add j = ⟨eb, j, none⟩ := by unfold Addr.add; split <;> simp_all
      rw [ea, hce.cell j]
      simpa using h
    have N2 : ∀ (w3 : World) (x0 x1 : Value), Hid (∀ (j : Nat) (u : Value), [x0, x1][j]? = some u -> (w3.alloc (.cells #[x0, x1] 86)).cell? ((⟨w3.heap.size, 0, none⟩ : Addr).add j) = some u) := fun w3 x0 x1 j u h => by
      have ea : (⟨w3.heap.size, 0, none⟩ : Addr).add j = ⟨w3.heap.size, j, none⟩ := by unfold Addr.add; split <;> simp_all
      rw [ea, (Cells.new w3 86 #[x0, x1]).cell j]
      simpa using h
    clear hb7 hb7' hce HDX HFX HXX HGX RENX N3
    simp only [List.foldl, List.setIfInBounds_toArray, List.set_cons_zero, List.set_cons_succ]
    go_wp2_with (at_builtin; refine wpList_append_at rfl _ _ 22 rfl w.heap.size 53 i4 _ 3 40 Tryz.underlying22 hiE hE0 hE1 hEb rfl (by decide) _ _ _ rfl ROW.out _ 1 1 [.int .i64 3, .int .i64 (st.ren (aheadZ rs ed.id)), .slice ga2 gn2 gc2] rfl rfl HV7.out (by intro u hu; simp at hu; rcases hu with rfl | rfl | rfl <;> rfl) (by unfold maxLen; omega) (by omega) (by omega) ?_)
    intro ov2 W7 own7 grow7 at7
    have o7 : Only (fun r => (Value.slice oa st.out.length oc).ownBlock = some r) w7 W7 := (Only.refl _ w7).grown grow7 (fun r e => .inl e)
    have hX7 : Cells W7 wr.heap.size 53 _ := HX7.out.grown grow7 (fun e => by have := HOVL.out wr.heap.size e.symm; omega)
    have x7 : W7.cell? ⟨wr.heap.size, 1, none⟩ = some (.int .i64 ed.id) := by rw [hX7.cell]; rfl
    have p7 : W7.ownsRow w.heap.size 86 2 (.slice pa ps.length pc) ps.length (psRow ps) := row_only HD7.out.out.prow o7 (fun b e q => own_own_ne ROW.out HD7.out.out.prow (by decide) b q e)
    have P7 := Lib.hid p7
    have O7 := Lib.hid o7
    have OWN7 := Lib.hid own7
    have hs8 := o7.size
    clear own7 grow7 at7 o7 hX7 p7 HX7 HV7
    go_wp2_with (at_builtin; refine wpList_append_at rfl _ _ 78 rfl w.heap.size 86 i3 _ 2 16 Tryz.underlying78 hiP hP0 hP1 hPb rfl (by decide) _ _ _ rfl (P7.out.alloc _) _ 1 1 [.int .i64 ed.id, .int .i64 st.next] rfl rfl (N2 _ _ _).out (by intro u hu; simp at hu; rcases hu with rfl | rfl <;> rfl) (by unfold maxLen; omega) (by omega) (by simp only [World.size_alloc]; omega) ?_)
    intro pv2 W8 own8 grow8 at8
    have hb8 : Below W7.heap.size W7 (W7.alloc (.cells #[.int .i64 ed.id, .int .i64 st.next] 86)) := (Below.refl _ _).alloc (Nat.le_refl _) _
    have o8 : Only (fun r => (Value.slice pa ps.length pc).ownBlock = some r) W7 W8 := (Only.of_below (S := fun r => (Value.slice pa ps.length pc).ownBlock = some r) hb8 (Nat.le_refl _)).grown grow8 (fun r e => .inl e)
    have D8 := HD7.out.next2 (ed := ed) (ku := 3) (iu := st.ren (aheadZ rs ed.id)) (fu := wasE (lsOn l (eds.take m)).es ed.id) (fv := .slice ga2 gn2 gc2) hz00 rfl HED.out hk (by rw [hst]; exact HU2.out) HF7.out HFB.out (by rw [hst]; exact OWN7.out) O7.out (by rw [hst]; exact own8) o8
    rw [hst] at D8
    have HD8 := Lib.hid D8
    clear own8 grow8 at8 o8 hb8 D8 HD7 HF7 ROW P7 O7 OWN7 N2 HU2
    go_wp2_with fail
    go_roundw
    case rel => exact ⟨m, _, _, by omega, by go_num, HD8.out⟩
    case measure => simp [intOf]
  -- an inserting one
  rw [hk] at x0c
  have hid := insert_id9 (l := lsOn l (eds.take m)) (ed := ed) (by omega) (by omega) hbad
  have hia : idAt l eds m = (lsOn l (eds.take m)).next := by
    unfold idAt
    rw [HED.out]
    exact hid
  rw [hia] at eic
  have HU : Hid (undoE st.ren (lsOn l (eds.take m)) ed = ⟨2, st.ren (lsOn l (eds.take m)).next, []⟩) := by
    show _ = _
    unfold undoE; rw [if_neg (by omega), if_neg (by omega)]
  have HFN : ∀ W : World, Hid (Flds W (.slice none 0 0) []) := fun W => ⟨none, 0, rfl, Nat.le_refl _, fun i f h => by simp at h⟩
  clear hia hid HG hG' HXC HFC
  go_wp2_with fail
  refine (REN.out _ _ (Below.refl _ _)).mono ?_
  rintro e w6 ⟨_, rfl, rfl, hb6⟩
  have HD6 := Lib.hid (HDC.out.kept hb6)
  have hs6 := hb6.size
  have ROW : Hid (w6.ownsRow w.heap.size 53 3 (.slice oa st.out.length oc) st.out.length (edRow st.out fvs)) := by
    have h := HD6.out.out.orow
    rw [hst] at h
    exact h
  clear hb6 HDC REN eic esc0 esc1 x0c x1c
  go_wp2_with (at_builtin; refine wpList_append_at rfl _ _ 22 rfl w.heap.size 53 i4 _ 3 40 Tryz.underlying22 hiE hE0 hE1 hEb rfl (by decide) _ _ _ rfl (ROW.out.alloc _) _ 1 1 [.int .i64 2, .int .i64 (st.ren (lsOn l (eds.take m)).next), .slice none 0 0] rfl rfl (N3 _ _ _ _).out (by intro u hu; simp at hu; rcases hu with rfl | rfl | rfl <;> rfl) (by unfold maxLen; omega) (by omega) (by simp only [World.size_alloc]; omega) ?_)
  intro ov2 W7 own7 grow7 at7
  have hb7 : Below w6.heap.size w6 (w6.alloc (.cells #[.int .i64 2, .int .i64 (st.ren (lsOn l (eds.take m)).next), .slice none 0 0] 53)) := (Below.refl _ _).alloc (Nat.le_refl _) _
  have o7 : Only (fun r => (Value.slice oa st.out.length oc).ownBlock = some r) w6 W7 := (Only.of_below (S := fun r => (Value.slice oa st.out.length oc).ownBlock = some r) hb7 (Nat.le_refl _)).grown grow7 (fun r e => .inl e)
  have D7 := Lib.hid (HD6.out.next1 (ed := ed) (ku := 2) (iu := st.ren (lsOn l (eds.take m)).next) (fu := []) (fv := .slice none 0 0) hz00 rfl HED.out (by omega) (by rw [hst]; exact HU.out) (HFN _).out (fun h => absurd rfl h) (by rw [hst]; exact own7) o7)
  clear own7 grow7 at7 o7 hb7 HD6 HU ROW N3
  go_wp2_with fail
  go_roundw
  case rel => exact ⟨m, ps, _, by omega, by go_num, D7.out⟩
  case measure => simp [intOf]
end Go.Proofs.YtfjklpgmnakcaaaGreatDoor
namespace Go.Proofs.YtfjklpgmnakcaaaGreatDoor
def wgF (fs : List Fld) : Nat := (fs.map fun f => f.1.length + f.2.length).sum
def saidW (ls : List (List UInt8)) : Nat := (ls.map fun l => l.length + 1).sum
theorem wgF_snoc (fs : List Fld) (f : Fld) : wgF (fs ++ [f]) = wgF fs + (f.1.length + f.2.length) := by unfold wgF; simp
theorem saidW_snoc (ls : List (List UInt8)) (l : List UInt8) : saidW (ls ++ [l]) = saidW ls + (l.length + 1) := by unfold saidW; simp
theorem minF_wg : ∀ fs : List Fld, minF fs <= wgF fs
  | [] => Nat.le_refl _
  | f :: r => by
    have ih := minF_wg r
    show (min f.1.length 10000 + min f.2.length 10000) + minF r <= (f.1.length + f.2.length) + wgF r
    omega
theorem joinNl_wt : ∀ ps : List (List UInt8), (joinNl ps).length <= saidW ps
  | [] => Nat.zero_le _
  | [p] => by show p.length <= (p.length + 1) + 0; omega
  | p :: q :: r => by
    have ih := joinNl_wt (q :: r)
    show (p ++ 10 :: joinNl (q :: r)).length <= (p.length + 1) + saidW (q :: r)
    rw [List.length_append, List.length_cons]
    omega
theorem said_wt (ls : List (List UInt8)) : (unfoldK ls).length + (unfoldV ls).length <= saidW ls := by
  unfold unfoldK unfoldV
  by_cases h : unfoldN ls = 0
  . rw [if_pos h, if_pos h]
    cases ls with
    | nil => unfold unfoldN sayF at h; simp at h
    | cons a r =>
    have h1 := joinNl_wt (saidP (a :: r))
    have hb : (before a).length <= a.length := (List.takeWhile_sublist _).length_le
    have ha : (dropSp (afterC a)).length + (before a).length <= a.length := by
      have : (dropSp (afterC a)).length <= (afterC a).length := by unfold dropSp; split <;> simp
      have h2 : (afterC a).length = a.length - ((before a).length + 1) := by unfold afterC; rw [List.length_drop]
      by_cases hq : (before a).length + 1 <= a.length
      . omega
      have : (afterC a).length = 0 := by omega
      omega
    have hr : saidW (r.map fun l => dropDot l.tail) <= saidW r := by
      clear h h1
      induction r with
      | nil => exact Nat.le_refl _
      | cons x r ih =>
      have : (dropDot x.tail).length <= x.length := by unfold dropDot; split <;> simp <;> omega
      show ((dropDot x.tail).length + 1) + saidW (r.map fun l => dropDot l.tail) <= (x.length + 1) + saidW r
      omega
    have e : saidW (saidP (a :: r)) = ((dropSp (afterC a)).length + 1) + saidW (r.map fun l => dropDot l.tail) := rfl
    have e2 : saidW (a :: r) = (a.length + 1) + saidW r := rfl
    show (before a).length + (joinNl (saidP (a :: r))).length <= _
    rw [e2]
    rw [e] at h1
    omega
  rw [if_neg h, if_neg h]; exact Nat.zero_le _
structure WI (p : PS) (c : Nat) : Prop where
  now : wgF p.fields + saidW p.said <= c
  all : ∀ it ∈ p.items, wgF it.fields <= c
theorem WI.mono {p : PS} {c d : Nat} (h : WI p c) (hd : c <= d) : WI p d := ⟨Nat.le_trans h.now hd, fun it hi => Nat.le_trans (h.all it hi) hd⟩
theorem WI.endField {p : PS} {c : Nat} (h : WI p c) : WI (endFieldP p) c := by
  unfold endFieldP
  split
  . exact h
  refine ⟨?_, h.all⟩
  show wgF (p.fields ++ [(unfoldK p.said, unfoldV p.said)]) + saidW [] <= c
  rw [wgF_snoc]
  have h1 := said_wt p.said
  have h2 := h.now
  show wgF p.fields + ((unfoldK p.said).length + (unfoldV p.said).length) + 0 <= c
  omega
theorem WI.endItem {p : PS} {c : Nat} (t : List UInt8) (k e : Nat) (h : WI p c) : WI (endItemP t p k e) c := by
  have h1 := h.now
  refine ⟨by show 0 + saidW p.said <= c; omega, fun it hi => ?_⟩
  rcases List.mem_append.1 hi with hi | hi
  . exact h.all it hi
  rw [List.mem_singleton.1 hi]; show wgF p.fields <= c; omega
theorem WI.endBlock {p : PS} {c : Nat} (t : List UInt8) (e : Nat) (h : WI p c) : WI (endBlockP t p e) c := by
  unfold endBlockP
  split
  . exact h
  split
  . exact h.endItem t 2 e
  have g := h.endItem t 3 e
  exact ⟨g.now, g.all⟩
theorem WI.went {p : PS} {x : Ln} {c : Nat} (h : WI p c) : WI (wentP p x) (c + x.text.length + 1) := by
  unfold wentP
  split
  . refine ⟨?_, fun it hi => by have := h.all it hi; omega⟩
    show wgF p.fields + saidW (p.said ++ [x.text]) <= _
    rw [saidW_snoc]
    have := h.now
    omega
  exact h.mono (by omega)
theorem WI.then_ {p : PS} {x : Ln} {c : Nat} (h : WI p c) : WI (thenP p x) (c + x.text.length + 1) := by
  unfold thenP
  split
  . exact h.went.endField
  exact h.went
theorem WI.take {t : List UInt8} {p q : PS} {x : Ln} {c : Nat} (h : WI p c) (he : takeP t p x = .ok q) : WI q (c + x.bytes.length) := by
  obtain ⟨_, hw, rfl⟩ := take_parts he
  have hen : x.ended = true := by
    cases hx : x.ended with
    | true => rfl
    | false => unfold wrongP at hw; rw [hx] at hw; simp at hw
  have hb : c + x.bytes.length = c + x.text.length + 1 := by unfold Ln.bytes; rw [hen]; simp; omega
  rw [hb]
  have ht := h.then_ (x := x)
  unfold putP
  split
  . rename_i hk
    have g := goes_kind (p := p) (x := x) (by omega)
    have e : thenP p x = endFieldP p := by
      unfold thenP endsP wentP
      rw [g]
      simp
    refine ⟨?_, fun it hi => ht.all it hi⟩
    have h1 := h.endField.now
    rw [e]
    show wgF (endFieldP p).fields + ((x.text.length + 1) + 0) <= _
    omega
  split
  . exact (ht.endBlock t _).endItem t _ _
  exact ht
theorem WI.run (t : List UInt8) : ∀ (xs : List Ln) (p q : PS) (c : Nat), WI p c -> runP t p xs = .ok q -> WI q (c + (xs.flatMap Ln.bytes).length)
  | [], p, q, c, h, he => by
    injection he with he
    subst he
    simpa using h
  | x :: xs, p, q, c, h, he => by
    unfold runP at he
    cases ht : takeP t p x with
    | error e => rw [ht] at he; cases he
    | ok p1 =>
    rw [ht] at he
    have := WI.run t xs p1 q _ (h.take ht) he
    rw [List.flatMap_cons, List.length_append, <- Nat.add_assoc]
    exact this
theorem parse_wg {t : List UInt8} {its : List It} (h : parseL t = .ok its) : ∀ it ∈ its, wgF it.fields <= t.length := by
  obtain ⟨p, hr, _, rfl, _⟩ := parse_good h
  have := WI.run t _ _ _ 0 ⟨Nat.le_refl _, fun it hi => by cases hi⟩ hr
  rw [linesOf_join, Nat.zero_add] at this
  exact (this.endField.endBlock t _).all
def Lit9 (fs : List Fld) : Prop := fs.length <= 61 /\ minF fs <= 6000
def LitL (es : List En) : Prop := ∀ e ∈ es, Lit9 e.1.fields
theorem lit_from {t : List UInt8} (ht : t.length <= 6000) {its : List It} (h : parseL t = .ok its) : LitL (fromL its).es := by
  have e := parse_wg h
  have e2 := (parse_join h).2.2
  have hm : ∀ (n : Int) (l : List It), ∀ x ∈ fromOn n l, x.1 ∈ l := by
    intro n l
    induction l generalizing n with
    | nil => intro x hx; cases hx
    | cons a r ih =>
    intro x hx
    unfold fromOn at hx
    split at hx
    . rcases List.mem_cons.1 hx with hx | hx
      . rw [hx]; exact List.mem_cons_self
      exact List.mem_cons_of_mem _ (ih _ x hx)
    rcases List.mem_cons.1 hx with hx | hx
    . rw [hx]; exact List.mem_cons_self
    exact List.mem_cons_of_mem _ (ih _ x hx)
  intro x hx
  have hi := hm _ _ x hx
  exact ⟨by have := (e2 _ hi).1; omega, by have := e _ hi; have := minF_wg x.1.fields; omega⟩
theorem LitL.step {l : LS} {ed : Ed} (h : LitL l.es) (he : Lit9 ed.fields) : LitL (stepE l ed).ls.es := by
  intro e hm
  rcases edit_mem l ed.kind ed.id ed.fields e hm with h1 | ⟨h1, _⟩
  . exact h e h1
  rw [h1]; exact he
theorem LitL.on : ∀ {eds : List Ed} {l : LS}, LitL l.es -> (∀ ed ∈ eds, Lit9 ed.fields) -> LitL (lsOn l eds).es
  | [], l, h, _ => h
  | a :: r, l, h, he => LitL.on (eds := r) (l := (stepE l a).ls) (h.step (he a List.mem_cons_self)) (fun ed hm => he ed (List.mem_cons_of_mem _ hm))
theorem lit_was {es : List En} (h : LitL es) (id : Int) : Lit9 (wasE es id) := by
  unfold wasE
  split
  . rename_i e he
    have hm : e ∈ es := by
      cases hf : findR es id with
      | none => rw [hf] at he; cases he
      | some k => rw [hf] at he; exact List.mem_of_getElem? he
    exact h e hm
  exact ⟨Nat.zero_le _, Nat.zero_le _⟩
theorem lit_undo {ren : Int -> Int} {l : LS} {ed : Ed} (h : LitL l.es) : Lit9 (undoE ren l ed).fields := by
  unfold undoE
  split
  . exact lit_was h _
  split
  . exact lit_was h _
  exact ⟨Nat.zero_le _, Nat.zero_le _⟩
theorem lit_back {l : LS} {eds : List Ed} (h : LitL l.es) (he : ∀ ed ∈ eds, Lit9 ed.fields) : ∀ i, ∀ x ∈ (backAt l eds i).out, Lit9 x.fields
  | 0 => fun x hx => by cases hx
  | i + 1 => by
    intro x hx
    unfold backAt at hx
    split at hx
    . unfold backStep at hx
      rcases List.mem_append.1 hx with hx | hx
      . exact lit_back h he i x hx
      rw [List.mem_singleton.1 hx]
      exact lit_undo (h.on fun ed hm => he ed (List.mem_of_mem_take hm))
    exact lit_back h he i x hx
theorem Lit9.fine {fs : List Fld} (h : Lit9 fs) : Fine7 fs := ⟨by have := h.1; omega, fun f hf => by have := minF_small fs h.2 f hf; omega⟩
theorem Lit9.small {fs : List Fld} (h : Lit9 fs) : (foldG fs).length <= 100000 /\ fs.length <= 1000000 := by
  rw [foldG_lines]
  have := foldT_len6 fs h.2
  have := h.1
  have := h.2
  exact ⟨by omega, by omega⟩
theorem Light.lit {eds : List Ed} (h : Light eds) : ∀ ed ∈ eds, Lit9 ed.fields := fun ed hm => ⟨(h.2 ed hm).1, (h.2 ed hm).2.2⟩
end Go.Proofs.YtfjklpgmnakcaaaGreatDoor
