/- Texts put together: HB, KU, KV, KW. -/
import Derived.Deep.RegionLaw
import Derived.Test.YtfjklpgmnakcaaaGreatDoorBae16
import Derived.Test.YtfjklpgmnakcaaaGreatDoorBae20
import Derived.Test.YtfjklpgmnakcaaaGreatDoorBae21
import Derived.Test.YtfjklpgmnakcaaaGreatDoorBae22
set_option linter.unusedVariables false
set_option maxRecDepth 100000
set_option maxHeartbeats 16000000
namespace Go.Proofs.YtfjklpgmnakcaaaGreatDoor
open Go.RowKit Go.Shelf
attribute [local go_sem] Oper.semAt_some
structure OneR (wr wx : World) (mb : Nat) (v x v' : Value) (qs qs' : List Pr) (es : List En) (nx' : Int) : Prop where
  box : Cells wx mb 28 #[v', .int .i64 nx']
  ents : EntsQ wx v' qs'
  es : qs'.map Prod.fst = es
  mem : ∀ p ∈ qs', p ∈ qs \/ p.2 = x
  below : Below wr.heap.size wr wx
  lo : wr.heap.size <= mb
theorem oneA {wr w5 : World} {v x v' : Value} {qs qs' : List Pr} {es : List En} {nx' : Int} (h : WrQ wr.drew v qs x es w5 v' qs') : OneR wr (w5.alloc (.cells #[v', .int .i64 nx'] 28)) w5.heap.size v x v' qs qs' es nx' := by
  have hb : Below w5.heap.size w5 (w5.alloc (.cells #[v', .int .i64 nx'] 28)) := (Below.refl _ _).alloc (Nat.le_refl _) _
  have hB : Below wr.heap.size wr w5 := ((Below.refl wr.heap.size wr).drew).trans h.below
  exact ⟨Cells.new _ _ _, h.ents.below hb (Nat.le_refl _), h.es, h.mem, hB.trans (hb.mono hB.size), hB.size⟩
theorem oneB {wr w5 : World} {v x v' : Value} {qs qs' : List Pr} {es : List En} {nx' : Int} {z : Array Value} (hz : z = #[.slice none 0 0, .int .i64 0]) (h : WrQ (wr.alloc (.cells z 28)).drew v qs x es w5 v' qs') (hq : EntsQ wr v qs) (hx : ∃ fs, Flds wr x fs) (hsz : (wr.alloc (.cells z 28)).drew.heap.size = wr.heap.size + 1) :
    OneR wr ((w5.setCell ⟨wr.heap.size, 0, none⟩ v').setCell ⟨wr.heap.size, 1, none⟩ (.int .i64 nx')) wr.heap.size v x v' qs qs' es nx' := by
  subst hz
  have hB : Below wr.heap.size wr w5 := (((Below.refl wr.heap.size wr).alloc (Nat.le_refl _) _).drew).trans (h.below.mono (by rw [hsz]; omega))
  have hbox : Cells w5 wr.heap.size 28 #[.slice none 0 0, .int .i64 0] := cells_kept (show Cells (wr.alloc (.cells #[.slice none 0 0, .int .i64 0] 28)).drew wr.heap.size 28 _ from (Cells.new _ _ _).drew) h.below (by rw [hsz]; omega)
  have hb2 := (hbox.set 0 v').set 1 (.int .i64 nx')
  rw [set2] at hb2
  have o2 : Only (· = wr.heap.size) w5 ((w5.setCell ⟨wr.heap.size, 0, none⟩ v').setCell ⟨wr.heap.size, 1, none⟩ (.int .i64 nx')) := ((Only.refl (· = wr.heap.size) w5).cellS 0 _).cellS 1 _
  obtain ⟨fs, hx⟩ := hx
  refine ⟨hb2, h.ents.only o2 (fun r e q => ?_) (fun p hp hne r e q => ?_), h.es, h.mem, (hB.setCell (p := ⟨wr.heap.size, 0, none⟩) (Nat.le_refl _) _).setCell (p := ⟨wr.heap.size, 1, none⟩) (Nat.le_refl _) _, Nat.le_refl _⟩
  . rcases h.blk with k | k
    . rw [k] at e; have := (hq.row.lt r e).2; omega
    have := k r e; rw [hsz] at this; omega
  rcases h.mem p hp with k | k
  . have := (hq.each p k).lt hne r e; omega
  have hf : fs ≠ [] := by
    intro e0
    obtain ⟨A, c, e1, _⟩ := h.ents.each p hp
    obtain ⟨A2, c2, e2, _⟩ := hx
    rw [k, e2] at e1
    injection e1 with _ e3 _
    rw [e0] at e3
    exact hne (List.length_eq_zero_iff.1 e3.symm)
  rw [k] at e
  have := hx.lt hf r e; omega
theorem row_lowerE {W : World} {base base' : Nat} {e : TypeId} {size : Nat} {v : Value} {n : Nat} {xs : List Value} (h : W.ownsRow base e size v n xs) (hb : base' <= base) : W.ownsRow base' e size v n xs := by
  refine ⟨h.1, ?_⟩
  rcases h.2 with hn | ⟨g, cap, cur, hv, hg, rest⟩
  . exact .inl hn
  exact .inr ⟨g, cap, cur, hv, Nat.le_trans hb hg, rest⟩
def RefDoR (n0 : Nat) (w w' : World) (l : LS) (eds : List Ed) (e : Ending) : Prop :=
  Below w.heap.size w w' /\
  (((doB l eds).2 ≠ 0 /\ ∃ v qs, e = .returned (.tuple #[.agg #[v, .int .i64 l.next], .slice none 0 0, .int .i64 (doB l eds).1, .int .i64 ((doB l eds).2 : Nat)]) /\ EntsQ w' v qs) \/
  (doB l eds = (-9, 0) /\ okOn l eds /\ ∃ v qs gv, e = .returned (.tuple #[.agg #[v, .int .i64 (lsOn l eds).next], gv, .int .i64 (-9), .int .i64 0]) /\ EntsQ w' v qs /\ qs.map Prod.fst = (lsOn l eds).es /\ (∀ p ∈ qs, p.1.1.fields ≠ [] -> ∀ b, p.2.ownBlock = some b -> b < n0) /\ (∀ b, v.ownBlock = some b -> b < w'.heap.size) /\ w'.ownsRow w.heap.size 3 1 gv (idsOn l eds).length ((idsOn l eds).map encI)))
theorem refDo_any (qs : List Pr) (v bv : Value) (l : LS) (eds : List Ed) (w00 w : World) (hb00 : Below w00.heap.size w00 w) (h : EntsQ w00 v qs) (hes : qs.map Prod.fst = l.es) (ok : OkL l) (hl : l.es.length <= 5000) (hn : l.next <= 5001) (hv : EdV w00 bv eds) (h51 : eds.length <= 51) (hf : Fines eds) :
    Calls Tryz.prog 8 #[.agg #[v, .int .i64 l.next], bv] w fun e w' => RefDoR w00.heap.size w w' l eds e := by
  have HQ0 := Lib.hid h
  have HB00 := Lib.hid hb00
  replace h := h.below hb00 (Nat.le_refl _)
  have hz00 := hb00.size
  obtain ⟨i0, hi, hz0, hz1, hib⟩ := info_parts infoInt9
  obtain ⟨va, vc, rfl, _⟩ := h.empty
  obtain ⟨wa, hwa⟩ : ∃ wa, wa = (w.alloc (.cells #[.slice va qs.length vc, .int .i64 l.next] 28)).alloc (.cells #[.slice none 0 0, .int .i64 0] 28) := ⟨_, rfl⟩
  have hba : Below w.heap.size w wa := by rw [hwa]; exact ((Below.refl _ w).alloc (Nat.le_refl _) _).alloc (by simp) _
  have hza : wa.heap.size = w.heap.size + 2 := by rw [hwa]; simp
  have c2 : Cells wa w.heap.size 28 #[.slice va qs.length vc, .int .i64 l.next] := by rw [hwa]; exact (Cells.new _ _ _).alloc _
  have c4 : Cells wa (w.heap.size + 1) 28 #[.slice none 0 0, .int .i64 0] := by
    rw [hwa]
    have := Cells.new (w.alloc (.cells #[.slice va qs.length vc, .int .i64 l.next] 28)) 28 #[.slice none 0 0, .int .i64 0]
    simp only [World.size_alloc] at this
    exact this
  have CK := Lib.hid (refCheckB_any eds bv wa ((hv.below hb00 (Nat.le_refl _)).below hba (Nat.le_refl _)) (by omega) hf)
  obtain ⟨ba, bc, rfl, hble, hbcs⟩ := _root_.id hv
  have PUT : Hid (∀ (W : World) (u : Value) (n : Int), Below wa.heap.size wa W -> Cells ((W.setCell ⟨w.heap.size + 1, 0, none⟩ u).setCell ⟨w.heap.size + 1, 1, none⟩ (.int .i64 n)) (w.heap.size + 1) 28 #[u, .int .i64 n] /\ Below w.heap.size w ((W.setCell ⟨w.heap.size + 1, 0, none⟩ u).setCell ⟨w.heap.size + 1, 1, none⟩ (.int .i64 n)) /\
      W.cell? ⟨w.heap.size, 0, none⟩ = some (.slice va qs.length vc) /\ W.cell? ⟨w.heap.size, 1, none⟩ = some (.int .i64 l.next) /\ W.cell? ⟨w.heap.size + 1, 0, none⟩ = some (.slice none 0 0) /\ W.cell? ⟨w.heap.size + 1, 1, none⟩ = some (.int .i64 0) /\ W.frozen? ⟨w.heap.size + 1, 0, none⟩ = false /\ W.frozen? ⟨w.heap.size + 1, 1, none⟩ = false /\ Only (· = w.heap.size + 1) W ((W.setCell ⟨w.heap.size + 1, 0, none⟩ u).setCell ⟨w.heap.size + 1, 1, none⟩ (.int .i64 n)) /\ Cells W (w.heap.size + 1) 28 #[.slice none 0 0, .int .i64 0]) := by
    intro W u n hW
    have k4 := cells_kept c4 hW (by omega)
    have k2 := cells_kept c2 hW (by omega)
    have hB := hba.trans (hW.mono hba.size)
    have h3 := (k4.set 0 u).set 1 (.int .i64 n)
    rw [set2] at h3
    exact ⟨h3, (hB.setCell (p := ⟨w.heap.size + 1, 0, none⟩) (by show w.heap.size <= w.heap.size + 1; omega) _).setCell (p := ⟨w.heap.size + 1, 1, none⟩) (by show w.heap.size <= w.heap.size + 1; omega) _, by rw [k2.cell]; rfl, by rw [k2.cell]; rfl, by rw [k4.cell]; rfl, by rw [k4.cell]; rfl, k4.frozen 0, k4.frozen 1, ((Only.refl (· = w.heap.size + 1) W).cellS 0 u).cellS 1 _, k4⟩
  have ENT : Hid (∀ (W W' : World), Below w.heap.size w W -> Only (· = w.heap.size + 1) W W' -> EntsQ W' (.slice va qs.length vc) qs) := fun W W' hW ho =>
    (h.below hW (Nat.le_refl _)).only ho (fun r e q => by have := (h.row.lt r e).2; omega) (fun p hp hne r e q => by have := (h.each p hp).lt hne r e; omega)
  have PC := Lib.hid hbcs
  have HF := Lib.hid hf
  have HQ := Lib.hid h
  have HES := Lib.hid hes
  have HOK := Lib.hid ok
  have HBA := Lib.hid hba
  have HV := Lib.hid hv
  clear hbcs hf h hes ok hba c2 c4 hv hb00
  subst hwa
  go_enter Tryz.func8, Tryz.ntmps8
  go_wp2_with fail
  refine CK.out.mono ?_
  rintro e w1 ⟨rfl, b1⟩
  have B1 := Lib.hid (HBA.out.trans (b1.mono HBA.out.size))
  have HB1 := Lib.hid b1
  by_cases hc0 : (chkB eds).2 = 0
  rotate_left
  . have hdo : doB l eds = chkB eds := by unfold doB; rw [if_neg hc0]
    obtain ⟨p1, p2, k0, k1, k2, k3, f0, f1, p3, p4⟩ := PUT.out w1 (.slice va qs.length vc) l.next b1
    have hne : ((chkB eds).2 : Int) ≠ 0 := by omega
    have qn : (((chkB eds).2 : Int) == 0) = false := by simpa using hc0
    have P1 := Lib.hid p1
    have FIN : Hid (RefDoR w00.heap.size w ((w1.setCell ⟨w.heap.size + 1, 0, none⟩ (.slice va qs.length vc)).setCell ⟨w.heap.size + 1, 1, none⟩ (.int .i64 l.next)) l eds (.returned (.tuple #[.agg #[.slice va qs.length vc, .int .i64 l.next], .slice none 0 0, .int .i64 (chkB eds).1, .int .i64 ((chkB eds).2 : Nat)]))) := by
      show RefDoR _ _ _ _ _ _
      refine ⟨p2, .inl ⟨by rw [hdo]; exact hc0, _, qs, by rw [hdo], ENT.out w1 _ B1.out p3⟩⟩
    clear p1 p2 p3 p4 PUT ENT PC HF HQ HES HOK HBA HV hdo CK b1 HB1
    generalize (chkB eds).1 = ca at *
    generalize (chkB eds).2 = cn at *
    go_wp2_with fail
    refine bodyPost_ret (ret_q4 rfl _ _ (w.heap.size + 1) _ rfl P1.out rfl) rfl ?_
    exact FIN.out
  have hcz := chkB_zero hc0
  have HDO := Lib.hid (show doB l eds = doOn 0 l eds by unfold doB; rw [hcz]; rfl)
  have GOOD := Lib.hid (chkB_good hc0).2
  rw [hcz]
  have hw1 : w.heap.size + 2 <= w1.heap.size := by have := b1.size; omega
  obtain ⟨w2, hw2⟩ : ∃ w2, w2 = w1.alloc (.cells #[.slice va qs.length vc, .int .i64 l.next] 28) := ⟨_, rfl⟩
  have hb2 : Below w1.heap.size w1 w2 := by rw [hw2]; exact (Below.refl _ w1).alloc (Nat.le_refl _) _
  have hz2 : w2.heap.size = w1.heap.size + 1 := by rw [hw2]; simp
  have cB2 : Cells w2 w1.heap.size 28 #[.slice va qs.length vc, .int .i64 l.next] := by rw [hw2]; exact Cells.new _ _ _
  have HCB2 := Lib.hid cB2
  have HB2 := Lib.hid hb2
  obtain ⟨_, _, k0, k1, _, _, _, _, _⟩ := PUT.out w1 (.slice va qs.length vc) l.next b1
  clear b1 hcz hc0 cB2 hb2 CK
  subst hw2
  go_wp2_with fail
  go_loopw [11, 12] (fun gx i wr => ∃ (k : Nat) (vk : Value) (qk : List Pr) (gv : Value), gv = gx /\ k <= eds.length /\ i = .int .i64 k /\ okOn l (eds.take k) /\ Cells wr w1.heap.size 28 #[vk, .int .i64 (lsOn l (eds.take k)).next] /\ EntsQ wr vk qk /\ qk.map Prod.fst = (lsOn l (eds.take k)).es /\
    (∀ p ∈ qk, p.1.1.fields ≠ [] -> ∀ b, p.2.ownBlock = some b -> b < w00.heap.size) /\ wr.ownsRow w1.heap.size 3 1 gv (idsOn l (eds.take k)).length ((idsOn l (eds.take k)).map encI) /\ Below w1.heap.size w1 wr /\ w1.heap.size < wr.heap.size) (fun _ i _ => eds.length - (intOf i).toNat)
  case atStart =>
    refine ⟨0, _, qs, .slice none 0 0, rfl, Nat.zero_le _, rfl, trivial, HCB2.out, ?_, HES.out, ?_, ⟨rfl, .inl ⟨rfl, rfl⟩⟩, HB2.out, by omega⟩
    . exact HQ.out.below (B1.out.trans (HB2.out.mono B1.out.size)) (Nat.le_refl _)
    intro p hp hne b e
    exact (HQ0.out.each p hp).lt hne b e
  case round =>
  obtain ⟨k, vk, qk, gv, rfl, hk, rfl, hok, hcB, hqk, hqe, hqf, hown, hb, hwr⟩ := hrel
  have hBw : Below w.heap.size w wr := B1.out.trans (hb.mono B1.out.size)
  obtain ⟨ga, gc, rfl, _⟩ : ∃ A c, gv = .slice A (idsOn l (eds.take k)).length c /\ _ := own_slice hown
  obtain ⟨ka, kc, rfl, _⟩ := hqk.empty
  by_cases hlt : k < eds.length
  . obtain ⟨ed, hed⟩ : ∃ ed, eds[k]? = some ed := ⟨_, List.getElem?_eq_getElem hlt⟩
    obtain ⟨b, off, fv, rfl, hbb, c0, c1, c2, hfl⟩ := PC.out k ed hed
    obtain ⟨fa, fc, rfl⟩ := hfl.form
    have hmem := List.mem_of_getElem? hed
    have hBw0 : Below w00.heap.size w00 wr := HB00.out.trans (hBw.mono HB00.out.size)
    replace c0 := (hBw0.cell (p := ⟨b, off + k * 3, none⟩) hbb).trans c0
    replace c1 := (hBw0.cell (p := ⟨b, off + k * 3 + 1, none⟩) hbb).trans c1
    replace c2 := (hBw0.cell (p := ⟨b, off + k * 3 + 1 + 1, none⟩) hbb).trans c2
    have hbw := hBw0.size
    have c0' : ∀ o, (wr.alloc o).cell? ⟨b, off + k * 3, none⟩ = some (.int .i64 ed.kind) := fun o => by rw [World.cell?_alloc_lt _ _ ⟨b, off + k * 3, none⟩ (by show b < _; omega)]; exact c0
    have c1' : ∀ o, (wr.alloc o).cell? ⟨b, off + k * 3 + 1, none⟩ = some (.int .i64 ed.id) := fun o => by rw [World.cell?_alloc_lt _ _ ⟨b, off + k * 3 + 1, none⟩ (by show b < _; omega)]; exact c1
    have c2' : ∀ o, (wr.alloc o).cell? ⟨b, off + k * 3 + 1 + 1, none⟩ = some (.slice fa ed.fields.length fc) := fun o => by rw [World.cell?_alloc_lt _ _ ⟨b, off + k * 3 + 1 + 1, none⟩ (by show b < _; omega)]; exact c2
    have d0 : wr.cell? ⟨w1.heap.size, 0, none⟩ = some (.slice ka qk.length kc) := by rw [hcB.cell]; rfl
    have d1 : wr.cell? ⟨w1.heap.size, 1, none⟩ = some (.int .i64 (lsOn l (eds.take k)).next) := by rw [hcB.cell]; rfl
    have d0' : ∀ o, (wr.alloc o).cell? ⟨w1.heap.size, 0, none⟩ = some (.slice ka qk.length kc) := fun o => by rw [(hcB.alloc o).cell]; rfl
    have d1' : ∀ o, (wr.alloc o).cell? ⟨w1.heap.size, 1, none⟩ = some (.int .i64 (lsOn l (eds.take k)).next) := fun o => by rw [(hcB.alloc o).cell]; rfl
    have hokl := HOK.out.on (eds.take k)
    obtain ⟨ol1, ol2, ol3⟩ := on_len l (eds.take k)
    have htk : (eds.take k).length = k := take_len hed
    have hpos := hokl.pos
    have hql : qk.length <= 5100 := by
      have : qk.length = (lsOn l (eds.take k)).es.length := by rw [<- hqe, List.length_map]
      omega
    have ONE : Hid (∀ W, Below wr.heap.size wr W -> Calls Tryz.prog 27 #[.agg #[.slice ka qk.length kc, .int .i64 (lsOn l (eds.take k)).next], .agg #[.int .i64 ed.kind, .int .i64 ed.id, .slice fa ed.fields.length fc]] W fun e w' => ∃ v' qs' x, e = .returned (.tuple #[.agg #[v', .int .i64 (stepE (lsOn l (eds.take k)) ed).ls.next], .int .i64 (stepE (lsOn l (eds.take k)) ed).id, .int .i64 (stepE (lsOn l (eds.take k)) ed).bad]) /\ WrQ W (.slice ka qk.length kc) qk x (stepE (lsOn l (eds.take k)) ed).ls.es w' v' qs' /\ (x = .slice fa ed.fields.length fc \/ x = .slice none 0 0)) := fun W hW => by
      have h1 := refOne_any qk (.slice ka qk.length kc) (.slice fa ed.fields.length fc) (lsOn l (eds.take k)).next ed W (hqk.below hW (Nat.le_refl _)) (by omega) (by omega) ((hfl.1.below hBw0 (Nat.le_refl _)).below hW (Nat.le_refl _)) (HF.out ed hmem)
      rw [hqe] at h1
      exact h1
    have XF : Hid (∀ x, (x = .slice fa ed.fields.length fc \/ x = .slice none 0 0) -> ∃ fs, Flds wr x fs) := fun x hx => by
      rcases hx with rfl | rfl
      . exact ⟨_, hfl.1.below hBw0 (Nat.le_refl _)⟩
      exact ⟨[], none, 0, rfl, Nat.le_refl _, fun i f h => by simp at h⟩
    have FLD : Hid (∀ (W : World) (x v' : Value) (qs' : List Pr), EntsQ W v' qs' -> (∀ p ∈ qs', p ∈ qk \/ p.2 = x) -> (x = .slice fa ed.fields.length fc \/ x = .slice none 0 0) -> ∀ p ∈ qs', p.1.1.fields ≠ [] -> ∀ b, p.2.ownBlock = some b -> b < w00.heap.size) := fun W x v' qs' he hm hx p hp hne r e => by
      rcases hm p hp with q | q
      . exact hqf p q hne r e
      rcases hx with rfl | rfl
      . have hf : ed.fields ≠ [] := by
          intro e0
          obtain ⟨A, c, e1, _⟩ := he.each p hp
          rw [q] at e1
          injection e1 with _ e3 _
          rw [e0] at e3
          exact hne (List.length_eq_zero_iff.1 e3.symm)
        rw [q] at e
        exact hfl.1.lt hf r e
      rw [q] at e; cases e
    have DR : Hid (Below wr.heap.size wr wr.drew) := (Below.refl _ _).drew
    have AR : Hid (Below wr.heap.size wr (wr.alloc (.cells #[.slice none 0 0, .int .i64 0] 28)).drew) := ((Below.refl _ _).alloc (Nat.le_refl _) _).drew
    have ARC := Lib.hid (show Cells (wr.alloc (.cells #[.slice none 0 0, .int .i64 0] 28)).drew wr.heap.size 28 #[.slice none 0 0, .int .i64 0] from (Cells.new _ _ _).drew)
    have HWS := Lib.hid (show (wr.alloc (.cells #[.slice none 0 0, .int .i64 0] 28)).drew.heap.size = wr.heap.size + 1 by show (wr.alloc _).heap.size = _; simp)
    have OKS : Hid ((stepE (lsOn l (eds.take k)) ed).bad = 0 -> okOn l (eds.take (k + 1))) := fun h => okOn_snoc hed hok h
    have AT : Hid ((stepE (lsOn l (eds.take k)) ed).bad ≠ 0 -> doB l eds = (((k : Nat) : Int), (stepE (lsOn l (eds.take k)) ed).bad)) := fun h => by rw [HDO.out]; exact doOn_at hed hok h
    have IDS : Hid ((stepE (lsOn l (eds.take k)) ed).bad = 0 -> idsOn l (eds.take (k + 1)) = idsOn l (eds.take k) ++ (if 0 < (stepE (lsOn l (eds.take k)) ed).id then [(stepE (lsOn l (eds.take k)) ed).id] else [])) := fun h => by
      rw [idsOn_snoc hed, step_id hpos (goodE_kind (GOOD.out ed hmem)) h]
    have LSN : Hid (lsOn l (eds.take (k + 1)) = (stepE (lsOn l (eds.take k)) ed).ls) := lsOn_snoc hed
    have hidl : (idsOn l (eds.take k)).length <= 51 := by
      have h1 := idsOn_len l (eds.take k)
      omega
    have HQK := Lib.hid hqk
    have HCBK := Lib.hid hcB
    have HOWN := Lib.hid hown
    have HBK := Lib.hid hb
    clear hed hok hcB hqk hqe hqf hown hb hfl hmem hokl ol1 ol2 ol3 hpos PC
    generalize stepE (lsOn l (eds.take k)) ed = st at *
    generalize (lsOn l (eds.take k)).next = nxk at *
    generalize idsOn l (eds.take k) = ids at *
    go_upto_region 9 with fail
    go_cut [13, 14, 15] (fun c d e wx => ∃ mb v' qs' x, c = .pointer (some ⟨mb, 0, none⟩) /\ d = .int .i64 st.id /\ e = .int .i64 (st.bad : Nat) /\ OneR wr wx mb (.slice ka qk.length kc) x v' qk qs' st.ls.es st.ls.next /\ (x = .slice fa ed.fields.length fc \/ x = .slice none 0 0))
    case first =>
      go_region_law (go_simp; go_at_call 27; first
        | (refine (ONE.out _ DR.out).mono ?_; rintro e w5 ⟨v', qs', x, rfl, hW, hx⟩; obtain ⟨xa, xc, rfl, _⟩ := hW.ents.empty; have HW5 := Lib.hid hW; have HX5 := Lib.hid hx; clear hW hx)
        | (refine (ONE.out _ AR.out).mono ?_; rintro e w5 ⟨v', qs', x, rfl, hW, hx⟩; obtain ⟨xa, xc, rfl, _⟩ := hW.ents.empty; have kk := cells_kept ARC.out hW.below ARC.out.lt; have t0 := kk.cell 0; have t1 := kk.cell 1; have tf0 := kk.frozen 0; have tf1 := kk.frozen 1; simp only [List.getElem?_toArray, List.getElem?_cons_zero, List.getElem?_cons_succ] at t0 t1; have HW5 := Lib.hid hW; have HX5 := Lib.hid hx; clear hW hx kk))
      all_goals (try go_wp2_with fail)
      all_goals go_meet
      all_goals first
        | exact ⟨_, _, qs', _, rfl, rfl, rfl, oneA HW5.out, HX5.out⟩
        | exact ⟨_, _, qs', _, rfl, rfl, rfl, oneB rfl HW5.out HQK.out (XF.out _ HX5.out) HWS.out, HX5.out⟩
    case rest =>
    obtain ⟨mb, v', qs', x, rfl, rfl, rfl, hR, hx⟩ := hcut
    obtain ⟨xa, xc, rfl, _⟩ := hR.ents.empty
    have hzx := hR.below.size
    have HBX := Lib.hid (HBK.out.trans (hR.below.mono (by omega)))
    have hmbx := hR.box.lt
    by_cases hb0 : st.bad = 0
    rotate_left
    . obtain ⟨p1, p2, k0', k1', k2', k3', f0', f1', p3, p4⟩ := PUT.out wc (.slice va qs.length vc) l.next (by
        have h1 := HB1.out
        exact h1.trans (HBX.out.mono h1.size))
      have AT1 := AT.out hb0
      have qn : ((st.bad : Int) == 0) = false := by simpa using hb0
      have FIN : Hid (RefDoR w00.heap.size w ((wc.setCell ⟨w.heap.size + 1, 0, none⟩ (.slice va qs.length vc)).setCell ⟨w.heap.size + 1, 1, none⟩ (.int .i64 l.next)) l eds (.returned (.tuple #[.agg #[.slice va qs.length vc, .int .i64 l.next], .slice none 0 0, .int .i64 (k : Nat), .int .i64 (st.bad : Nat)]))) := by
        show RefDoR _ _ _ _ _ _
        refine ⟨p2, .inl ⟨by rw [AT1]; exact hb0, _, qs, by rw [AT1], ENT.out wc _ (B1.out.trans (HBX.out.mono B1.out.size)) p3⟩⟩
      have P1 := Lib.hid p1
      clear p1 p2 p3 p4 hR hx ONE XF FLD ARC OKS AT AT1 IDS LSN HQK HCBK HOWN c0' c1' c2' d0' d1' PUT ENT
      go_wp2_with fail
      refine bodyPost_ret (ret_q4 rfl _ _ (w.heap.size + 1) _ rfl P1.out rfl) rfl ?_
      exact FIN.out
    have OK1 := Lib.hid (OKS.out hb0)
    have IDS1 := IDS.out hb0
    have cBx := cells_kept HCBK.out hR.below HCBK.out.lt
    have m0 : wc.cell? ⟨mb, 0, none⟩ = some (.slice xa qs'.length xc) := by rw [hR.box.cell]; rfl
    have m1 : wc.cell? ⟨mb, 1, none⟩ = some (.int .i64 st.ls.next) := by rw [hR.box.cell]; rfl
    have n0 : wc.cell? ⟨w1.heap.size, 0, none⟩ = some (.slice ka qk.length kc) := by rw [cBx.cell]; rfl
    have n1 : wc.cell? ⟨w1.heap.size, 1, none⟩ = some (.int .i64 nxk) := by rw [cBx.cell]; rfl
    have g0 := cBx.frozen 0
    have g1 := cBx.frozen 1
    have hrowB : (Value.slice xa qs'.length xc).ownBlock ≠ some w1.heap.size := own_cells_ne hR.ents.row cBx (by decide)
    have hflB := FLD.out wc x _ qs' hR.ents hR.mem hx
    have oB : Only (· = w1.heap.size) wc ((wc.setCell ⟨w1.heap.size, 0, none⟩ (.slice xa qs'.length xc)).setCell ⟨w1.heap.size, 1, none⟩ (.int .i64 st.ls.next)) := ((Only.refl (· = w1.heap.size) wc).cellS 0 _).cellS 1 _
    have cB3 := (cBx.set 0 (.slice xa qs'.length xc)).set 1 (.int .i64 st.ls.next)
    rw [set2] at cB3
    have E3 : EntsQ ((wc.setCell ⟨w1.heap.size, 0, none⟩ (.slice xa qs'.length xc)).setCell ⟨w1.heap.size, 1, none⟩ (.int .i64 st.ls.next)) (.slice xa qs'.length xc) qs' := hR.ents.only oB (fun r e q => hrowB (by rw [e, q])) (fun p hp hne r e q => by have := hflB p hp hne r e; omega)
    have ownx := row_below HOWN.out hR.below (Nat.le_refl _)
    have hrow2 : (Value.slice ga ids.length gc).ownBlock ≠ some w1.heap.size := own_cells_ne HOWN.out HCBK.out (by decide)
    have own3 := row_only ownx oB (fun r e q => hrow2 (by rw [e, q]))
    have HB3 : Below w1.heap.size w1 ((wc.setCell ⟨w1.heap.size, 0, none⟩ (.slice xa qs'.length xc)).setCell ⟨w1.heap.size, 1, none⟩ (.int .i64 st.ls.next)) := (HBX.out.setCell (p := ⟨w1.heap.size, 0, none⟩) (Nat.le_refl _) _).setCell (p := ⟨w1.heap.size, 1, none⟩) (Nat.le_refl _) _
    have hz3 := oB.size
    have H1 := Lib.hid cB3
    have H2 := Lib.hid E3
    have H3 := Lib.hid hflB
    have H4 := Lib.hid own3
    have H5 := Lib.hid HB3
    have HES1 := Lib.hid (show qs'.map Prod.fst = (lsOn l (eds.take (k + 1))).es by rw [LSN.out]; exact hR.es)
    have HNX1 : Hid ((lsOn l (eds.take (k + 1))).next = st.ls.next) := by show _ = _; rw [LSN.out]
    clear hR hx ONE XF FLD ARC OKS AT IDS LSN HQK HCBK HOWN c0' c1' c2' d0' d1' cBx hrowB hflB oB cB3 E3 ownx own3 HB3 d0 d1 hrow2
    by_cases hid : 0 < st.id
    . rw [if_pos hid] at IDS1
      have IDS1 := Lib.hid IDS1
      have HSZ : ((wc.setCell ⟨w1.heap.size, 0, none⟩ (.slice xa qs'.length xc)).setCell ⟨w1.heap.size, 1, none⟩ (.int .i64 st.ls.next)).heap.size = wc.heap.size := by simp [World.setCell]
      have HVG2 : ∀ w3 : World, Hid (∀ (j : Nat) (u : Value), [encI st.id][j]? = some u -> (w3.alloc (.cells #[.int .i64 st.id] 3)).cell? ((⟨w3.heap.size, 0, none⟩ : Addr).add j) = some u) := fun w3 j u h => by
        have ea : (⟨w3.heap.size, 0, none⟩ : Addr).add j = ⟨w3.heap.size, j, none⟩ := by unfold Addr.add; split <;> simp_all
        rw [ea, (Cells.new w3 3 #[.int .i64 st.id]).cell j]
        simpa [encI] using h
      have HVG : ∀ w3 : World, w3.heap.size = wc.heap.size -> Hid (∀ (j : Nat) (u : Value), [encI st.id][j]? = some u -> (w3.alloc (.cells #[.int .i64 st.id] 3)).cell? ((⟨wc.heap.size, 0, none⟩ : Addr).add j) = some u) := fun w3 hz j u h => by
        rw [<- hz]; exact (HVG2 w3).out j u h
      have hidl2 : (ids.map encI).length = ids.length := List.length_map _
      go_wp2_with (at_builtin; generalize hw3 : ((wc.setCell ⟨w1.heap.size, 0, none⟩ (.slice xa qs'.length xc)).setCell ⟨w1.heap.size, 1, none⟩ (.int .i64 st.ls.next)) = w3 at H1 H2 H4 H5 hz3 HSZ ⊢; refine wpList_append_at rfl _ _ 35 rfl w1.heap.size 3 i0 _ 1 8 Tryz.underlying35 hi hz0 hz1 hib rfl (by decide) _ _ _ rfl (H4.out.alloc _) _ 1 1 [encI st.id] rfl rfl (by first | exact (HVG2 w3).out | exact (HVG w3 HSZ).out) (by intro u hu; simp at hu; subst hu; rfl) (by unfold maxLen; omega) (by omega) (by simp only [World.size_alloc]; omega) ?_)
      intro gv' W4 own4 grow4 at4
      have hgl : ∀ r, (Value.slice ga ids.length gc).ownBlock = some r -> w1.heap.size <= r /\ r < w3.heap.size := fun r e => H4.out.lt r e
      have hg2 : (Value.slice ga ids.length gc).ownBlock ≠ some w1.heap.size := own_cells_ne H4.out H1.out (by decide)
      have o4 : Only (fun r => (Value.slice ga ids.length gc).ownBlock = some r) w3 W4 :=
        (Only.of_below (S := fun r => (Value.slice ga ids.length gc).ownBlock = some r) ((Below.refl _ w3).alloc (Nat.le_refl _) (.cells #[.int .i64 st.id] 3)) (Nat.le_refl _)).grown grow4 (fun r e => .inl e)
      have R1 : Cells W4 w1.heap.size 28 #[.slice xa qs'.length xc, .int .i64 st.ls.next] := H1.out.only o4 (fun e => hg2 e)
      have R2 : EntsQ W4 (.slice xa qs'.length xc) qs' := H2.out.only o4 (fun r e q => own_own_ne H4.out H2.out.row (by decide) r q e) (fun p hp hne r e q => by have := H3.out p hp hne r e; have := (hgl r q).1; omega)
      have R4 : W4.ownsRow w1.heap.size 3 1 gv' (idsOn l (eds.take (k + 1))).length ((idsOn l (eds.take (k + 1))).map encI) := by
        rw [IDS1.out, List.length_append, List.map_append]; exact own4
      have R6 : Below w1.heap.size w1 W4 := H5.out.trans (o4.to_below H5.out.size (fun r hr e => by have := (hgl r e).1; omega))
      have hsz := o4.size
      have K1 := Lib.hid R1
      have K2 := Lib.hid R2
      have K4 := Lib.hid R4
      have K6 := Lib.hid R6
      clear R1 R2 R4 R6 o4 hgl hg2 own4 grow4 at4 HVG HVG2 H1 H2 H4 H5
      go_wp2_with fail
      go_roundw
      case rel => exact ⟨k + 1, _, qs', _, rfl, hlt, by go_num, OK1.out, by rw [HNX1.out]; exact K1.out, K2.out, HES1.out, H3.out, K4.out, K6.out, by omega⟩
      case measure => simp [intOf]; omega
    rw [if_neg hid, List.append_nil] at IDS1
    have IDS1 := Lib.hid IDS1
    have HSZ : ((wc.setCell ⟨w1.heap.size, 0, none⟩ (.slice xa qs'.length xc)).setCell ⟨w1.heap.size, 1, none⟩ (.int .i64 st.ls.next)).heap.size = wc.heap.size := by simp [World.setCell]
    have qi : decide (0 < st.id) = false := by simpa using hid
    go_wp2_with fail
    go_roundw
    case rel => exact ⟨k + 1, _, qs', _, rfl, hlt, by go_num, OK1.out, by rw [HNX1.out]; exact H1.out, H2.out, HES1.out, H3.out, by rw [IDS1.out]; exact H4.out, H5.out, by rw [HSZ]; omega⟩
    case measure => simp [intOf]; omega
  have hke : k = eds.length := by omega
  subst hke
  rw [List.take_length] at hok hcB hqe hown ⊢
  have d0 : wr.cell? ⟨w1.heap.size, 0, none⟩ = some (.slice ka qk.length kc) := by rw [hcB.cell]; rfl
  have d1 : wr.cell? ⟨w1.heap.size, 1, none⟩ = some (.int .i64 (lsOn l eds).next) := by rw [hcB.cell]; rfl
  obtain ⟨p1, p2, k0', k1', k2', k3', f0', f1', p3, p4⟩ := PUT.out wr (.slice ka qk.length kc) (lsOn l eds).next (by
        have h1 := HB1.out
        exact h1.trans (hb.mono h1.size))
  have P1 := Lib.hid p1
  have hd : doB l eds = (-9, 0) := by rw [HDO.out]; exact doOn_ok _ _ _ hok
  have hgb : ∀ r, (Value.slice ga (idsOn l eds).length gc).ownBlock = some r -> w1.heap.size <= r := fun r e => (hown.lt r e).1
  have FIN : Hid (RefDoR w00.heap.size w ((wr.setCell ⟨w.heap.size + 1, 0, none⟩ (.slice ka qk.length kc)).setCell ⟨w.heap.size + 1, 1, none⟩ (.int .i64 (lsOn l eds).next)) l eds (.returned (.tuple #[.agg #[.slice ka qk.length kc, .int .i64 (lsOn l eds).next], .slice ga (idsOn l eds).length gc, .int .i64 (-9), .int .i64 0]))) := by
    show RefDoR _ _ _ _ _ _
    refine ⟨p2, .inr ⟨hd, hok, _, qk, _, rfl, ?_, hqe, hqf, ?_, ?_⟩⟩
    . exact hqk.only p3 (fun r e q => own_cells_ne hqk.row p4 (by decide) (by rw [e, q])) (fun p hp hne r e q => by have := hqf p hp hne r e; omega)
    . intro r e
      have := (hqk.row.lt r e).2
      have := p3.size
      omega
    exact row_lowerE (row_only hown p3 (fun r e q => by have := hgb r e; omega)) (by omega)
  clear p1 p2 p3 p4 PUT ENT hgb hqk hcB hown hqf hb HQ HES HOK HBA HV HDO PC
  go_wp2_with fail
  refine bodyPost_ret (ret_q4 rfl _ _ (w.heap.size + 1) _ rfl P1.out rfl) rfl ?_
  exact FIN.out
end Go.Proofs.YtfjklpgmnakcaaaGreatDoor
namespace Go.Proofs.YtfjklpgmnakcaaaGreatDoor
open Go.RowKit Go.Shelf
attribute [local go_sem] Oper.semAt_some
def EdQ (w : World) (v : Value) (eds : List Ed) : Prop :=
  ∃ A cap, v = .slice A eds.length cap /\ eds.length <= cap /\ ∀ (i : Nat) (ed : Ed), eds[i]? = some ed -> ∃ b off fv, A = some ⟨b, off, none⟩ /\ b < w.heap.size /\ w.cell? ⟨b, off + i * 3, none⟩ = some (.int .i64 ed.kind) /\ w.cell? ⟨b, off + i * 3 + 1, none⟩ = some (.int .i64 ed.id) /\ w.cell? ⟨b, off + i * 3 + 1 + 1, none⟩ = some fv /\ Flds w fv ed.fields
theorem EdV.q {w : World} {v : Value} {eds : List Ed} (h : EdV w v eds) : EdQ w v eds := by
  obtain ⟨A, cap, e, hle, hc⟩ := h
  refine ⟨A, cap, e, hle, fun i ed hi => ?_⟩
  obtain ⟨b, off, fv, e1, hbb, c0, c1, c2, hf⟩ := hc i ed hi
  exact ⟨b, off, fv, e1, hbb, c0, c1, c2, hf.1⟩
theorem edits_quietQ (eds : List Ed) (v v' : Value) (w : World) (h : EdQ w v eds) (h' : EdQ w v' eds) (hn : eds.length <= 1000000) (hf : ∀ ed ∈ eds, ed.fields.length <= 1000000) :
    Calls Tryz.prog 11 #[v, v'] w fun e w' => e = .returned (.bool true) /\ ∃ m, w' = w.drewN m := by
  obtain ⟨A, cap, rfl, hle, hc⟩ := h
  obtain ⟨A', cap', rfl, hle', hc'⟩ := h'
  have PC := Lib.hid hc
  have PC' := Lib.hid hc'
  have HF := Lib.hid hf
  clear hc hc' hf
  go_enter Tryz.func11, Tryz.ntmps11
  go_wp2_with fail
  go_loopw [13] (fun i wr => ∃ k : Nat, k <= eds.length /\ i = .int .i64 k /\ ∃ m, wr = w.drewN m) (fun i _ => eds.length - (intOf i).toNat)
  case atStart => exact ⟨0, Nat.zero_le _, rfl, 0, rfl⟩
  case round =>
  obtain ⟨k, hk, rfl, nd, hwr⟩ := hrel
  by_cases hlt : k < eds.length
  . obtain ⟨ed, hed⟩ : ∃ ed, eds[k]? = some ed := ⟨_, List.getElem?_eq_getElem hlt⟩
    obtain ⟨b, off, fv, rfl, hbb, c0, c1, c2, hfl⟩ := PC.out k ed hed
    obtain ⟨b', off', fv', rfl, hbb', c0', c1', c2', hfl'⟩ := PC'.out k ed hed
    have hm := HF.out ed (List.mem_of_getElem? hed)
    have FQ0 : ∀ n, Calls Tryz.prog 15 #[fv, fv'] (wr.drewN n) fun e w' => e = .returned (.bool true) /\ ∃ m, w' = (wr.drewN n).drewN m := by
      intro n
      rw [hwr]
      exact fields_quiet ed.fields fv fv' ((w.drewN nd).drewN n) hfl hfl' (by omega)
    have FQ := Lib.hid FQ0
    clear FQ0
    replace c0 : wr.cell? ⟨b, off + k * 3, none⟩ = some (.int .i64 ed.kind) := by rw [hwr]; exact c0
    replace c1 : wr.cell? ⟨b, off + k * 3 + 1, none⟩ = some (.int .i64 ed.id) := by rw [hwr]; exact c1
    replace c2 : wr.cell? ⟨b, off + k * 3 + 1 + 1, none⟩ = some fv := by rw [hwr]; exact c2
    replace c0' : wr.cell? ⟨b', off' + k * 3, none⟩ = some (.int .i64 ed.kind) := by rw [hwr]; exact c0'
    replace c1' : wr.cell? ⟨b', off' + k * 3 + 1, none⟩ = some (.int .i64 ed.id) := by rw [hwr]; exact c1'
    replace c2' : wr.cell? ⟨b', off' + k * 3 + 1 + 1, none⟩ = some fv' := by rw [hwr]; exact c2'
    have HW := Lib.hid hwr
    clear hed PC PC' hwr hfl hfl' HF
    generalize ed.id = X at *
    generalize ed.kind = K at *
    go_wp2_with (go_quiet ((go_at_call 15; exact Calls.quiet_of (FQ.out _))))
    go_roundw
    case rel => exact ⟨k + 1, hlt, by go_num, _, by rw [HW.out]; exact World.drewN_drewN _ _ _⟩
    case measure => simp [intOf]; omega
  obtain rfl : k = eds.length := by omega
  clear PC PC'
  go_wp2_with fail
  go_ret
  exact ⟨rfl, nd, by first | rfl | exact hwr⟩
def idAt (l : LS) (eds : List Ed) (k : Nat) : Int := match eds[k]? with | some ed => (stepE (lsOn l (eds.take k)) ed).id | none => 0
def idsA (l : LS) (eds : List Ed) : Nat -> List Int
  | 0 => []
  | k + 1 => idsA l eds k ++ [idAt l eds k]
theorem idsA_len (l : LS) (eds : List Ed) : ∀ k, (idsA l eds k).length = k
  | 0 => rfl
  | k + 1 => by unfold idsA; rw [List.length_append, idsA_len l eds k]; rfl
theorem idsA_at (l : LS) (eds : List Ed) : ∀ {k i : Nat}, i < k -> (idsA l eds k)[i]? = some (idAt l eds i)
  | k + 1, i, h => by
    unfold idsA
    by_cases hi : i < k
    . rw [List.getElem?_append_left (by rw [idsA_len]; exact hi)]
      exact idsA_at l eds hi
    obtain rfl : i = k := by omega
    rw [List.getElem?_append_right (by rw [idsA_len]; exact Nat.le_refl _), idsA_len, Nat.sub_self]; rfl
structure RefsB (n00 lo : Nat) (w : World) (rv gv : Value) (l : LS) (eds : List Ed) (k : Nat) (ls : List (Value × Int)) : Prop where
  len : ls.length = k + 1
  row : w.ownsRow lo 28 2 rv (k + 1) (lstRow ls)
  each : ∀ (i : Nat) (v : Value) (n : Int), ls[i]? = some (v, n) -> ∃ qs, EntsQ w v qs /\ qs.map Prod.fst = (lsOn l (eds.take i)).es /\ n = (lsOn l (eds.take i)).next /\ ∀ p ∈ qs, p.1.1.fields ≠ [] -> ∀ b, p.2.ownBlock = some b -> b < n00
  ids : w.ownsRow lo 3 1 gv k ((idsA l eds k).map encI)
theorem RefsB.below {n00 lo : Nat} {w w' : World} {rv gv : Value} {l : LS} {eds : List Ed} {k : Nat} {ls : List (Value × Int)} (h : RefsB n00 lo w rv gv l eds k ls) (hb : Below w.heap.size w w') : RefsB n00 lo w' rv gv l eds k ls :=
  ⟨h.len, row_below h.row hb (Nat.le_refl _), fun i v n hi => by
    obtain ⟨qs, h1, h2⟩ := h.each i v n hi
    exact ⟨qs, h1.below hb (Nat.le_refl _), h2⟩, row_below h.ids hb (Nat.le_refl _)⟩
theorem RefsB.only {n00 lo : Nat} {w w' : World} {rv gv : Value} {l : LS} {eds : List Ed} {k : Nat} {ls : List (Value × Int)} {S : Nat -> Prop} (h : RefsB n00 lo w rv gv l eds k ls) (g : Only S w w') (h1 : ∀ b, rv.ownBlock = some b -> ¬ S b) (h2 : ∀ b, gv.ownBlock = some b -> ¬ S b) (h3 : ∀ v qs, EntsQ w v qs -> ∀ b, v.ownBlock = some b -> ¬ S b) (h4 : ∀ b, S b -> n00 <= b) : RefsB n00 lo w' rv gv l eds k ls :=
  ⟨h.len, row_only h.row g h1, fun i v n hi => by
    obtain ⟨qs, e1, e2, e3, e4⟩ := h.each i v n hi
    exact ⟨qs, e1.only g (h3 v qs e1) (fun p hp hne b hb q => by have := e4 p hp hne b hb; have := h4 b q; omega), e2, e3, e4⟩, row_only h.ids g h2⟩
theorem RefsB.more {n00 lo : Nat} {w w6 w7 : World} {rv gv rv' gv' v' : Value} {n' : Int} {l : LS} {eds : List Ed} {k : Nat} {ls : List (Value × Int)} {ed : Ed} {qs' : List Pr} (h : RefsB n00 lo w rv gv l eds k ls) (hlo : n00 <= lo) (hed : eds[k]? = some ed) (hE : EntsQ w v' qs') (hes : qs'.map Prod.fst = (stepE (lsOn l (eds.take k)) ed).ls.es) (hnx : n' = (stepE (lsOn l (eds.take k)) ed).ls.next) (hf : ∀ p ∈ qs', p.1.1.fields ≠ [] -> ∀ b, p.2.ownBlock = some b -> b < n00)
    (own6 : w6.ownsRow lo 28 2 rv' (k + 1 + 1) (lstRow ls ++ [v', .int .i64 n'])) (o6 : Only (fun r => rv.ownBlock = some r) w w6)
    (own7 : w7.ownsRow lo 3 1 gv' (k + 1) ((idsA l eds k).map encI ++ [encI (stepE (lsOn l (eds.take k)) ed).id])) (o7 : Only (fun r => gv.ownBlock = some r) w6 w7) : RefsB n00 lo w7 rv' gv' l eds (k + 1) (ls ++ [(v', n')]) := by
  have hrl : ∀ r, rv.ownBlock = some r -> n00 <= r := fun r e => Nat.le_trans hlo (h.row.lt r e).1
  have hgl : ∀ r, gv.ownBlock = some r -> n00 <= r := fun r e => Nat.le_trans hlo (h.ids.lt r e).1
  have hg6 := row_only h.ids o6 (fun b e q => own_own_ne h.row h.ids (by decide) b q e)
  have ent : ∀ v qs, EntsQ w v qs -> (∀ p ∈ qs, p.1.1.fields ≠ [] -> ∀ b, p.2.ownBlock = some b -> b < n00) -> EntsQ w7 v qs := fun v qs hq hfq => by
    have h6 := hq.only o6 (fun b e q => own_own_ne h.row hq.row (by decide) b q e) (fun p hp hne b e q => by have := hfq p hp hne b e; have := hrl b q; omega)
    exact h6.only o7 (fun b e q => own_own_ne hg6 h6.row (by decide) b q e) (fun p hp hne b e q => by have := hfq p hp hne b e; have := hgl b q; omega)
  refine ⟨by rw [List.length_append, h.len]; rfl, ?_, fun i v n hi => ?_, ?_⟩
  . rw [lstRow_snoc]
    exact row_only own6 o7 (fun b e q => own_own_ne hg6 own6 (by decide) b q e)
  . rw [List.getElem?_append] at hi
    split at hi
    . obtain ⟨qs, e1, e2, e3, e4⟩ := h.each i v n hi
      exact ⟨qs, ent v qs e1 e4, e2, e3, e4⟩
    rename_i hge
    have hlen := h.len
    obtain ⟨rfl, q⟩ : i = k + 1 /\ (v', n') = (v, n) := by
      rw [List.getElem?_singleton] at hi
      split at hi
      . exact ⟨by omega, Option.some.inj hi⟩
      cases hi
    obtain ⟨rfl, rfl⟩ := Prod.mk.inj q
    rw [lsOn_snoc hed]
    exact ⟨qs', ent _ qs' hE hf, hes, hnx, hf⟩
  have e : (idsA l eds (k + 1)).map encI = (idsA l eds k).map encI ++ [encI (stepE (lsOn l (eds.take k)) ed).id] := by
    show (idsA l eds k ++ [idAt l eds k]).map encI = _
    rw [List.map_append]
    unfold idAt
    rw [hed]
    rfl
  rw [e]; exact own7
theorem RefsB.elem {n00 lo : Nat} {w : World} {rv gv : Value} {l : LS} {eds : List Ed} {k : Nat} {ls : List (Value × Int)} (h : RefsB n00 lo w rv gv l eds k ls) {i : Nat} (hi : i <= k) :
    ∃ g v n cap, rv = .slice (some ⟨g, 0, none⟩) (k + 1) cap /\ k + 1 <= cap /\ ls[i]? = some (v, n) /\ (∃ va vl vc, v = .slice va vl vc) /\ w.cell? ⟨g, i * 2, none⟩ = some v /\ w.cell? ⟨g, i * 2 + 1, none⟩ = some (.int .i64 n) := by
  have hlen := h.len
  obtain ⟨x, hx⟩ : ∃ x, ls[i]? = some x := ⟨_, List.getElem?_eq_getElem (by omega)⟩
  obtain ⟨v, n⟩ := x
  have hrow := h.row
  obtain ⟨g, cap, hug⟩ := Joins.ownsRow_form hrow (by omega)
  obtain ⟨A, c, e, hle⟩ := own_slice hrow
  rw [hug] at e hrow
  cases e
  obtain ⟨hi2, he⟩ := List.getElem?_eq_some_iff.1 hx
  obtain ⟨d0, d1⟩ := lstRow_at ls i hi2
  rw [he] at d0 d1
  obtain ⟨qs, hq, _⟩ := h.each i v n hx
  obtain ⟨va, vc, e, _⟩ := hq.empty
  exact ⟨g, v, n, cap, hug, hle, hx, ⟨va, _, vc, e⟩, row_at9 hrow d0, row_at9 hrow d1⟩
theorem RefsB.idAt {n00 lo : Nat} {w : World} {rv gv : Value} {l : LS} {eds : List Ed} {k : Nat} {ls : List (Value × Int)} (h : RefsB n00 lo w rv gv l eds k ls) {i : Nat} (hi : i < k) :
    ∃ g cap, gv = .slice (some ⟨g, 0, none⟩) k cap /\ k <= cap /\ w.cell? ⟨g, i, none⟩ = some (.int .i64 (Proofs.YtfjklpgmnakcaaaGreatDoor.idAt l eds i)) := by
  have hrow := h.ids
  obtain ⟨g, cap, hug⟩ := Joins.ownsRow_form hrow (by omega)
  obtain ⟨A, c, e, hle⟩ := own_slice hrow
  rw [hug] at e hrow
  cases e
  refine ⟨g, cap, hug, hle, row_at9 hrow ?_⟩
  rw [List.getElem?_map, idsA_at l eds hi]; rfl
end Go.Proofs.YtfjklpgmnakcaaaGreatDoor
namespace Go.Proofs.YtfjklpgmnakcaaaGreatDoor
open Go.RowKit Go.Shelf
attribute [local go_sem] Oper.semAt_some
theorem infoL9 : (Tryz.prog.info? 28).map (fun i => (i.zero, i.size, i.bytes)) = some (some (.agg #[.slice none 0 0, .int .i64 0]), 2, 32) := by kernel_rfl
theorem infoP9 : (Tryz.prog.info? 86).map (fun i => (i.zero, i.size, i.bytes)) = some (some (.agg #[.int .i64 0, .int .i64 0]), 2, 16) := by kernel_rfl
theorem infoE9 : (Tryz.prog.info? 53).map (fun i => (i.zero, i.size, i.bytes)) = some (some (.agg #[.int .i64 0, .int .i64 0, .slice none 0 0]), 3, 40) := by kernel_rfl
theorem row_one (w : World) (e : TypeId) (size : Nat) (xs : List Value) (h : xs.length = size) : (w.alloc (.cells xs.toArray e)).ownsRow w.heap.size e size (.slice (some ⟨w.heap.size, 0, none⟩) 1 1) 1 xs :=
  ⟨by rw [h, Nat.one_mul], .inr ⟨w.heap.size, 1, xs.toArray, rfl, Nat.le_refl _, Cells.new w e xs.toArray, Nat.le_refl _, by unfold maxLen; omega, by simp [h], by rw [Nat.one_mul, <- h]; simp⟩⟩
def psRow (ps : List (Int × Int)) : List Value := ps.flatMap fun p => [.int .i64 p.1, .int .i64 p.2]
theorem psRow_snoc (ps : List (Int × Int)) (p : Int × Int) : psRow (ps ++ [p]) = psRow ps ++ [.int .i64 p.1, .int .i64 p.2] := by unfold psRow; simp
theorem psRow_at : ∀ (ps : List (Int × Int)) (k : Nat) (h : k < ps.length), (psRow ps)[k * 2]? = some (.int .i64 ps[k].1) /\ (psRow ps)[k * 2 + 1]? = some (.int .i64 ps[k].2)
  | [], k, h => by simp at h
  | x :: ps, 0, _ => ⟨rfl, rfl⟩
  | x :: ps, k + 1, h => by
    have ih := psRow_at ps k (by simpa using h)
    have sh : ∀ j, (psRow (x :: ps))[(k + 1) * 2 + j]? = (psRow ps)[k * 2 + j]? := by
      intro j
      show ([Value.int .i64 x.1, Value.int .i64 x.2] ++ psRow ps)[_]? = _
      rw [List.getElem?_append_right (by simp; omega)]
      congr 1
      simp; omega
    exact ⟨(sh 0).trans ih.1, (sh 1).trans ih.2⟩
structure OutB (n00 lo : Nat) (w : World) (pv ov : Value) (ps : List (Int × Int)) (os : List Ed) (fvs : List Value) : Prop where
  prow : w.ownsRow lo 86 2 pv ps.length (psRow ps)
  orow : w.ownsRow lo 53 3 ov os.length (edRow os fvs)
  flen : fvs.length = os.length
  each : ∀ (i : Nat) ed fv, os[i]? = some ed -> fvs[i]? = some fv -> Flds w fv ed.fields /\ (ed.fields ≠ [] -> ∀ b, fv.ownBlock = some b -> b < n00)
theorem OutB.below {n00 lo : Nat} {w w' : World} {pv ov : Value} {ps : List (Int × Int)} {os : List Ed} {fvs : List Value} (h : OutB n00 lo w pv ov ps os fvs) (hb : Below w.heap.size w w') : OutB n00 lo w' pv ov ps os fvs :=
  ⟨row_below h.prow hb (Nat.le_refl _), row_below h.orow hb (Nat.le_refl _), h.flen, fun i ed fv h1 h2 => ⟨(h.each i ed fv h1 h2).1.below hb (Nat.le_refl _), (h.each i ed fv h1 h2).2⟩⟩
theorem OutB.pairs {n00 lo : Nat} {w : World} {pv ov : Value} {ps : List (Int × Int)} {os : List Ed} {fvs : List Value} (h : OutB n00 lo w pv ov ps os fvs) : PairsAt w pv ps := by
  obtain ⟨A, c, e, hle⟩ := own_slice h.prow
  refine ⟨A, c, e, fun j hj => ?_⟩
  obtain ⟨g, cap, hug⟩ := Joins.ownsRow_form h.prow (by omega)
  have hrow := h.prow
  rw [hug] at e hrow
  cases e
  obtain ⟨d0, d1⟩ := psRow_at ps j hj
  exact ⟨g, rfl, row_at9 hrow d0, row_at9 hrow d1⟩
theorem OutB.more {n00 lo : Nat} {w w' : World} {pv ov ov' : Value} {ps : List (Int × Int)} {os : List Ed} {fvs : List Value} {ed : Ed} {fv : Value} (h : OutB n00 lo w pv ov ps os fvs) (hlo : n00 <= lo) (hF : Flds w fv ed.fields) (hb : ed.fields ≠ [] -> ∀ b, fv.ownBlock = some b -> b < n00)
    (own : w'.ownsRow lo 53 3 ov' (os.length + 1) (edRow os fvs ++ [.int .i64 ed.kind, .int .i64 ed.id, fv])) (o : Only (fun r => ov.ownBlock = some r) w w') : OutB n00 lo w' pv ov' ps (os ++ [ed]) (fvs ++ [fv]) := by
  have hol : ∀ r, ov.ownBlock = some r -> n00 <= r := fun r e => Nat.le_trans hlo (h.orow.lt r e).1
  refine ⟨row_only h.prow o (fun b e q => own_own_ne h.orow h.prow (by decide) b q e), by rw [List.length_append, edRow_snoc _ _ _ _ h.flen]; exact own, by rw [List.length_append, List.length_append, h.flen]; rfl, fun i e u h1 h2 => ?_⟩
  rw [List.getElem?_append] at h1 h2
  rw [h.flen] at h2
  split at h1
  . rename_i hi
    rw [if_pos hi] at h2
    obtain ⟨a, b⟩ := h.each i e u h1 h2
    exact ⟨a.only o (fun hne r e q => by have := b hne r e; have := hol r q; omega), b⟩
  rename_i hi
  rw [if_neg hi] at h2
  rw [List.getElem?_singleton] at h1 h2
  split at h1
  . rename_i hz
    rw [if_pos hz] at h2
    obtain rfl := Option.some.inj h1
    obtain rfl := Option.some.inj h2
    exact ⟨hF.only o (fun hne r e q => by have := hb hne r e; have := hol r q; omega), hb⟩
  cases h1
theorem OutB.pair {n00 lo : Nat} {w w' : World} {pv ov pv' : Value} {ps : List (Int × Int)} {os : List Ed} {fvs : List Value} {p : Int × Int} (h : OutB n00 lo w pv ov ps os fvs) (hlo : n00 <= lo)
    (own : w'.ownsRow lo 86 2 pv' (ps.length + 1) (psRow ps ++ [.int .i64 p.1, .int .i64 p.2])) (o : Only (fun r => pv.ownBlock = some r) w w') : OutB n00 lo w' pv' ov (ps ++ [p]) os fvs := by
  have hol : ∀ r, pv.ownBlock = some r -> n00 <= r := fun r e => Nat.le_trans hlo (h.prow.lt r e).1
  refine ⟨by rw [List.length_append, psRow_snoc]; exact own, row_only h.orow o (fun b e q => own_own_ne h.prow h.orow (by decide) b q e), h.flen, fun i e u h1 h2 => ?_⟩
  obtain ⟨a, b⟩ := h.each i e u h1 h2
  exact ⟨a.only o (fun hne r e q => by have := b hne r e; have := hol r q; omega), b⟩
theorem OutB.edq {n00 lo : Nat} {w : World} {pv ov : Value} {ps : List (Int × Int)} {os : List Ed} {fvs : List Value} (h : OutB n00 lo w pv ov ps os fvs) : EdQ w ov os := by
  by_cases h0 : os = []
  . subst h0
    obtain ⟨A, c, rfl, hle⟩ := own_slice h.orow
    exact ⟨A, c, rfl, hle, fun i ed hi => by simp at hi⟩
  have hn : os.length ≠ 0 := fun e => h0 (List.length_eq_zero_iff.1 e)
  have hrow := h.orow
  obtain ⟨g, cap, hug⟩ := Joins.ownsRow_form hrow (by omega)
  have hle : os.length <= cap := by
    obtain ⟨A, c, e, hle⟩ := own_slice h.orow
    rw [hug] at e; cases e; exact hle
  rw [hug] at hrow
  refine ⟨_, cap, hug, hle, fun i ed hi => ?_⟩
  have hil := (List.getElem?_eq_some_iff.1 hi).1
  obtain ⟨fv, hfv⟩ : ∃ fv, fvs[i]? = some fv := ⟨_, List.getElem?_eq_getElem (by rw [h.flen]; exact hil)⟩
  obtain ⟨a0, a1, a2⟩ := edRow_at os fvs i ed fv hi hfv
  refine ⟨g, 0, fv, rfl, (hrow.lt g rfl).2, ?_, ?_, ?_, (h.each i ed fv hi hfv).1⟩
  . rw [Nat.zero_add, World.ownsRow.cellAt hrow (i * 3) (by omega), a0]
  . rw [Nat.zero_add, World.ownsRow.cellAt hrow (i * 3 + 1) (by omega), a1]
  rw [Nat.zero_add, World.ownsRow.cellAt hrow (i * 3 + 1 + 1) (by omega), a2]
theorem OutB.nil (n00 lo : Nat) (w : World) : OutB n00 lo w (.slice none 0 0) (.slice none 0 0) [] [] [] :=
  ⟨⟨rfl, .inl ⟨rfl, rfl⟩⟩, ⟨rfl, .inl ⟨rfl, rfl⟩⟩, rfl, fun i ed fv h1 h2 => by simp at h1⟩
def GetR (w0 w w' : World) (qs : List Pr) (es : List En) (id : Int) (e : Ending) : Prop :=
  ∃ kd rw ga gn gc q, e = .returned (.tuple #[.agg #[.int .i64 kd, .string rw, .slice ga gn gc], .bool q]) /\ Flds w0 (.slice ga gn gc) (wasE es id) /\ (wasE es id ≠ [] -> ∃ p ∈ qs, p.1.1.fields = wasE es id /\ p.2 = .slice ga gn gc) /\ Below w.heap.size w w'
theorem get_was9 {qs : List Pr} {v : Value} {nx id : Int} {w0 w : World} {es : List En} (h : EntsQ w0 v qs) (hb0 : Below w0.heap.size w0 w) (hes : qs.map Prod.fst = es) (hps : qs.length <= 10000) :
    Calls Tryz.prog 28 #[.agg #[v, .int .i64 nx], .int .i64 id] w fun e w' => GetR w0 w w' qs es id e := by
  refine (refGet7_any qs v nx id w (h.below hb0 (Nat.le_refl _)) hps).mono ?_
  rintro e w' ⟨rfl, hb⟩
  have hw : wasE es id = match (findR (qs.map Prod.fst) id).bind (qs[·]?) with | some p => p.1.1.fields | none => [] := by
    rw [<- hes]
    unfold wasE
    cases findR (qs.map Prod.fst) id with
    | none => rfl
    | some k =>
    show (match (qs.map Prod.fst)[k]? with | some e => _ | none => _) = (match qs[k]? with | some p => _ | none => _)
    rw [List.getElem?_map]
    cases qs[k]? <;> rfl
  cases ho : (findR (qs.map Prod.fst) id).bind (qs[·]?) with
  | none =>
    rw [ho] at hw
    unfold GetR
    rw [show wasE es id = [] from hw]
    exact ⟨0, _, none, 0, 0, false, rfl, ⟨none, 0, rfl, Nat.le_refl _, fun i f h => by simp at h⟩, fun h => absurd rfl h, hb⟩
  | some p =>
  rw [ho] at hw
  have hm : p ∈ qs := by
    cases hf : findR (qs.map Prod.fst) id with
    | none => rw [hf] at ho; cases ho
    | some k => rw [hf] at ho; exact List.mem_of_getElem? ho
  obtain ⟨A, c, hA, _⟩ := h.each p hm
  have hF := h.each p hm
  unfold GetR
  rw [show wasE es id = p.1.1.fields from hw]
  rw [hA] at hF
  refine ⟨p.1.1.kind, B p.1.1.raw, A, _, c, true, ?_, hF, fun _ => ⟨p, hm, rfl, hA⟩, hb⟩
  show Ending.returned (.tuple #[.agg #[.int .i64 p.1.1.kind, .string (B p.1.1.raw), p.2], .bool true]) = _
  rw [hA]
theorem ahead_at (rs : List Stz) (id : Int) : (placeS rs id <= 0 /\ aheadZ rs id = 0) \/ ∃ (k : Nat) (s : Stz), placeS rs id = (k : Int) + 1 /\ rs[k]? = some s /\ aheadZ rs id = s.1 := by
  unfold placeS
  cases hf : rs.findIdx? (fun s => s.1 == id) with
  | none => exact .inl ⟨by decide, aheadZ_none hf⟩
  | some j =>
  cases j with
  | zero => exact .inl ⟨Int.le_refl _, aheadZ_zero hf⟩
  | succ k =>
  have hk := (List.findIdx?_eq_some_iff_getElem.1 hf).1
  obtain ⟨s, hs⟩ : ∃ s, rs[k]? = some s := ⟨_, List.getElem?_eq_getElem (by omega)⟩
  exact .inr ⟨k, s, by show ((k + 1 : Nat) : Int) = _; omega, hs, aheadZ_succ hf hs⟩
theorem backAt_next (l : LS) (eds : List Ed) : ∀ i, (lsOn l eds).next <= (backAt l eds i).next /\ (backAt l eds i).next <= (lsOn l eds).next + i
  | 0 => ⟨Int.le_refl _, by show (lsOn l eds).next <= _; omega⟩
  | i + 1 => by
    have ih := backAt_next l eds i
    unfold backAt
    split
    . unfold backStep
      dsimp only
      split <;> omega
    omega
theorem backAt_at {l : LS} {eds : List Ed} {m : Nat} {ed : Ed} (h : eds[m]? = some ed) : backAt l eds (eds.length - m) = backStep (lsOn l (eds.take m)) ed (backAt l eds (eds.length - (m + 1))) := by
  have hm := (List.getElem?_eq_some_iff.1 h).1
  obtain ⟨i, hi⟩ : ∃ i, eds.length - m = i + 1 := ⟨eds.length - m - 1, by omega⟩
  have h1 : eds.length - (m + 1) = i := by omega
  have h2 : eds.length - 1 - i = m := by omega
  rw [hi, h1]
  show (match eds[eds.length - 1 - i]? with | some ed => _ | none => _) = _
  rw [h2, h]
theorem renP_upd {ps : List (Int × Int)} {ren : Int -> Int} (h : ∀ id, renP ps id = ren id) (id n : Int) : ∀ k, renP (ps ++ [(id, n)]) k = updR ren id n k := by
  intro k
  rw [renP_snoc]
  unfold updR
  dsimp only
  rw [h]
  by_cases hq : id = k
  . rw [if_pos hq, if_pos hq.symm]
  rw [if_neg hq, if_neg (fun e => hq e.symm)]
theorem insert_id9 {l : LS} {ed : Ed} (h1 : ed.kind ≠ 1) (h2 : ed.kind ≠ 2) (h0 : (stepE l ed).bad = 0) : (stepE l ed).id = l.next := by
  unfold stepE editR at h0 ⊢
  rw [if_neg h1, if_neg h2] at h0 ⊢
  unfold insertR at h0 ⊢
  split at h0
  . cases h0
  split at h0
  . split at h0
    . cases h0
    rename_i hc hf
    rw [if_pos hc, if_neg hf]
  rename_i hk hc
  exact absurd h0 hc
end Go.Proofs.YtfjklpgmnakcaaaGreatDoor
namespace Go.Proofs.YtfjklpgmnakcaaaGreatDoor
open Go.RowKit Go.Shelf
attribute [local go_sem] Oper.semAt_some
theorem backAt_len (l : LS) (eds : List Ed) : ∀ i, i <= eds.length -> (backAt l eds i).out.length = i
  | 0, _ => rfl
  | i + 1, h => by
    obtain ⟨ed, hed⟩ : ∃ ed, eds[eds.length - 1 - i]? = some ed := ⟨_, List.getElem?_eq_getElem (by omega)⟩
    have ih := backAt_len l eds i (by omega)
    show (match eds[eds.length - 1 - i]? with | some ed => backStep (lsOn l (eds.take (eds.length - 1 - i))) ed (backAt l eds i) | none => backAt l eds i).out.length = _
    rw [hed]
    show ((backAt l eds i).out ++ [_]).length = _
    rw [List.length_append, ih]; rfl
structure GotR (w wx : World) (ib : Nat) (kd : Int) (rw_ : ByteArray) (ga : Option Addr) (gn gc : Nat) : Prop where
  box : Cells wx ib 80 #[.int .i64 kd, .string rw_, .slice ga gn gc]
  below : Below w.heap.size w wx
  lo : w.heap.size <= ib
theorem gotA {w w5 : World} {kd : Int} {rw_ : ByteArray} {ga : Option Addr} {gn gc : Nat} (h : Below w.drew.heap.size w.drew w5) : GotR w (w5.alloc (.cells #[.int .i64 kd, .string rw_, .slice ga gn gc] 80)) w5.heap.size kd rw_ ga gn gc := by
  have hb : Below w5.heap.size w5 (w5.alloc (.cells #[.int .i64 kd, .string rw_, .slice ga gn gc] 80)) := (Below.refl _ _).alloc (Nat.le_refl _) _
  have hB : Below w.heap.size w w5 := ((Below.refl w.heap.size w).drew).trans h
  exact ⟨Cells.new _ _ _, hB.trans (hb.mono hB.size), hB.size⟩
theorem gotB {w w5 : World} {kd : Int} {rw_ : ByteArray} {ga : Option Addr} {gn gc : Nat} (h : Below (w.alloc (.cells #[.int .i64 0, .string ⟨#[]⟩, .slice none 0 0] 80)).drew.heap.size (w.alloc (.cells #[.int .i64 0, .string ⟨#[]⟩, .slice none 0 0] 80)).drew w5) : GotR w (((w5.setCell ⟨w.heap.size, 0, none⟩ (.int .i64 kd)).setCell ⟨w.heap.size, 1, none⟩ (.string rw_)).setCell ⟨w.heap.size, 2, none⟩ (.slice ga gn gc)) w.heap.size kd rw_ ga gn gc := by
  have hsz : (w.alloc (.cells #[.int .i64 0, .string ⟨#[]⟩, .slice none 0 0] 80)).drew.heap.size = w.heap.size + 1 := by show (w.alloc _).heap.size = _; simp
  have hB : Below w.heap.size w w5 := (((Below.refl w.heap.size w).alloc (Nat.le_refl _) _).drew).trans (h.mono (by rw [hsz]; omega))
  have hbox : Cells w5 w.heap.size 80 #[.int .i64 0, .string ⟨#[]⟩, .slice none 0 0] := cells_kept (show Cells (w.alloc (.cells #[.int .i64 0, .string ⟨#[]⟩, .slice none 0 0] 80)).drew w.heap.size 80 _ from (Cells.new _ _ _).drew) h (by rw [hsz]; omega)
  have h3 := ((hbox.set 0 (.int .i64 kd)).set 1 (.string rw_)).set 2 (.slice ga gn gc)
  refine ⟨?_, ((hB.setCell (p := ⟨w.heap.size, 0, none⟩) (Nat.le_refl _) _).setCell (p := ⟨w.heap.size, 1, none⟩) (Nat.le_refl _) _).setCell (p := ⟨w.heap.size, 2, none⟩) (Nat.le_refl _) _, Nat.le_refl _⟩
  simpa [List.setIfInBounds_toArray, List.set] using h3
structure BackD (n00 lo : Nat) (w wr : World) (rv gv : Value) (l : LS) (eds : List Ed) (ls : List (Value × Int)) (m : Nat) (nv pv ov : Value) (ps : List (Int × Int)) (fvs : List Value) : Prop where
  nx : nv = .int .i64 (backAt l eds (eds.length - m)).next
  ren : ∀ id, renP ps id = (backAt l eds (eds.length - m)).ren id
  few : ps.length <= eds.length - m
  out : OutB n00 lo wr pv ov ps (backAt l eds (eds.length - m)).out fvs
  refs : RefsB n00 lo wr rv gv l eds eds.length ls
  below : Below w.heap.size w wr
theorem BackD.kept {n00 lo : Nat} {w wr wr' : World} {rv gv : Value} {l : LS} {eds : List Ed} {ls : List (Value × Int)} {m : Nat} {nv pv ov : Value} {ps : List (Int × Int)} {fvs : List Value} (h : BackD n00 lo w wr rv gv l eds ls m nv pv ov ps fvs) (hb : Below wr.heap.size wr wr') : BackD n00 lo w wr' rv gv l eds ls m nv pv ov ps fvs :=
  ⟨h.nx, h.ren, h.few, h.out.below hb, h.refs.below hb, h.below.trans (hb.mono h.below.size)⟩
theorem RefsB.beside {n00 lo : Nat} {w w' : World} {rv gv u : Value} {l : LS} {eds : List Ed} {k n sz : Nat} {ls : List (Value × Int)} {t : TypeId} {xs : List Value} (h : RefsB n00 lo w rv gv l eds k ls) (hlo : n00 <= lo) (hu : w.ownsRow lo t sz u n xs) (t1 : t ≠ 28) (t2 : t ≠ 3) (t3 : t ≠ 104) (o : Only (fun r => u.ownBlock = some r) w w') : RefsB n00 lo w' rv gv l eds k ls :=
  h.only o (fun b e q => own_own_ne hu h.row t1 b q e) (fun b e q => own_own_ne hu h.ids t2 b q e) (fun v qs hq b e q => own_own_ne hu hq.row t3 b q e) (fun b q => Nat.le_trans hlo (hu.lt b q).1)
theorem BackD.next1 {n00 lo : Nat} {w wc w7 : World} {rv gv : Value} {l : LS} {eds : List Ed} {ls : List (Value × Int)} {m : Nat} {nv pv ov ov' : Value} {ps : List (Int × Int)} {fvs : List Value} {ed : Ed} {ku iu : Int} {fu : List Fld} {fv : Value} (D : BackD n00 lo w wc rv gv l eds ls (m + 1) nv pv ov ps fvs) (hlo : n00 <= lo) (hwl : w.heap.size = lo) (hed : eds[m]? = some ed) (h2 : ed.kind ≠ 2)
    (hU : undoE (backAt l eds (eds.length - (m + 1))).ren (lsOn l (eds.take m)) ed = ⟨ku, iu, fu⟩) (hF : Flds wc fv fu) (hb : fu ≠ [] -> ∀ b, fv.ownBlock = some b -> b < n00)
    (own : w7.ownsRow lo 53 3 ov' ((backAt l eds (eds.length - (m + 1))).out.length + 1) (edRow (backAt l eds (eds.length - (m + 1))).out fvs ++ [.int .i64 ku, .int .i64 iu, fv])) (o : Only (fun r => ov.ownBlock = some r) wc w7) :
    BackD n00 lo w w7 rv gv l eds ls m nv pv ov' ps (fvs ++ [fv]) := by
  have e := backAt_at (l := l) hed
  unfold backStep at e
  rw [hU, if_neg h2, if_neg h2] at e
  refine ⟨by rw [e]; exact D.nx, by rw [e]; exact D.ren, by have := D.few; omega, by rw [e]; exact D.out.more (ed := ⟨ku, iu, fu⟩) hlo hF hb own o, D.refs.beside hlo D.out.orow (by decide) (by decide) (by decide) o, D.below.trans (o.to_below D.below.size fun r hr q => by have := (D.out.orow.lt r q).1; omega)⟩
theorem BackD.next2 {n00 lo : Nat} {w wc w7 w8 : World} {rv gv : Value} {l : LS} {eds : List Ed} {ls : List (Value × Int)} {m : Nat} {nv pv ov ov' pv' : Value} {ps : List (Int × Int)} {fvs : List Value} {ed : Ed} {ku iu : Int} {fu : List Fld} {fv : Value} (D : BackD n00 lo w wc rv gv l eds ls (m + 1) nv pv ov ps fvs) (hlo : n00 <= lo) (hwl : w.heap.size = lo) (hed : eds[m]? = some ed) (h2 : ed.kind = 2)
    (hU : undoE (backAt l eds (eds.length - (m + 1))).ren (lsOn l (eds.take m)) ed = ⟨ku, iu, fu⟩) (hF : Flds wc fv fu) (hb : fu ≠ [] -> ∀ b, fv.ownBlock = some b -> b < n00)
    (own : w7.ownsRow lo 53 3 ov' ((backAt l eds (eds.length - (m + 1))).out.length + 1) (edRow (backAt l eds (eds.length - (m + 1))).out fvs ++ [.int .i64 ku, .int .i64 iu, fv])) (o : Only (fun r => ov.ownBlock = some r) wc w7)
    (own2 : w8.ownsRow lo 86 2 pv' (ps.length + 1) (psRow ps ++ [.int .i64 ed.id, .int .i64 (backAt l eds (eds.length - (m + 1))).next])) (o2 : Only (fun r => pv.ownBlock = some r) w7 w8) :
    BackD n00 lo w w8 rv gv l eds ls m (.int .i64 ((backAt l eds (eds.length - (m + 1))).next + 1)) pv' ov' (ps ++ [(ed.id, (backAt l eds (eds.length - (m + 1))).next)]) (fvs ++ [fv]) := by
  have e := backAt_at (l := l) hed
  have hml := (List.getElem?_eq_some_iff.1 hed).1
  unfold backStep at e
  rw [hU, if_pos h2, if_pos h2] at e
  have p7 := row_only D.out.prow o (fun b e q => own_own_ne D.out.orow D.out.prow (by decide) b q e)
  have O7 := D.out.more (ed := ⟨ku, iu, fu⟩) hlo hF hb own o
  have R7 := D.refs.beside hlo D.out.orow (by decide) (by decide) (by decide) o
  have B7 : Below w.heap.size w w7 := D.below.trans (o.to_below D.below.size fun r hr q => by have := (D.out.orow.lt r q).1; omega)
  refine ⟨by rw [e], by rw [e]; exact renP_upd D.ren _ _, by have := D.few; rw [List.length_append]; show _ + 1 <= _; omega, by rw [e]; exact O7.pair hlo own2 o2, R7.beside hlo p7 (by decide) (by decide) (by decide) o2, B7.trans (o2.to_below B7.size fun r hr q => by have := (p7.lt r q).1; omega)⟩
end Go.Proofs.YtfjklpgmnakcaaaGreatDoor
