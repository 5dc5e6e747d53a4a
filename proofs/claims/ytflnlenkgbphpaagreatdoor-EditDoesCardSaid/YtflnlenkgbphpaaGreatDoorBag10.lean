/- Texts put together: HB. -/
import Derived.Deep.RegionLaw
import Derived.Test.YtflnlenkgbphpaaGreatDoorBaf1
import Derived.Test.YtflnlenkgbphpaaGreatDoorBaf2
import Derived.Test.YtflnlenkgbphpaaGreatDoorBaf3
import Derived.Test.YtflnlenkgbphpaaGreatDoorBaf4
import Derived.Test.YtflnlenkgbphpaaGreatDoorBaf5
import Derived.Test.YtflnlenkgbphpaaGreatDoorBaf6
import Derived.Test.YtflnlenkgbphpaaGreatDoorBaf7
import Derived.Test.YtflnlenkgbphpaaGreatDoorBaf8
import Derived.Test.YtflnlenkgbphpaaGreatDoorBaf9
import Derived.Test.YtflnlenkgbphpaaGreatDoorBaf10
import Derived.Test.YtflnlenkgbphpaaGreatDoorBaf11
import Derived.Test.YtflnlenkgbphpaaGreatDoorBaf12
import Derived.Test.YtflnlenkgbphpaaGreatDoorBaf13
import Derived.Test.YtflnlenkgbphpaaGreatDoorBaf14
import Derived.Test.YtflnlenkgbphpaaGreatDoorBaf15
import Derived.Test.YtflnlenkgbphpaaGreatDoorBaf16
import Derived.Test.YtflnlenkgbphpaaGreatDoorBaf17
import Derived.Test.YtflnlenkgbphpaaGreatDoorBaf18
import Derived.Test.YtflnlenkgbphpaaGreatDoorBaf19
import Derived.Test.YtflnlenkgbphpaaGreatDoorBag1
import Derived.Test.YtflnlenkgbphpaaGreatDoorBag2
import Derived.Test.YtflnlenkgbphpaaGreatDoorBag3
import Derived.Test.YtflnlenkgbphpaaGreatDoorBag5
import Derived.Test.YtflnlenkgbphpaaGreatDoorBag6
import Derived.Test.YtflnlenkgbphpaaGreatDoorBag7
import Derived.Test.YtflnlenkgbphpaaGreatDoorBag8
import Derived.Test.YtflnlenkgbphpaaGreatDoorBag9
set_option linter.unusedVariables false
namespace Go.Proofs.YtflnlenkgbphpaaGreatDoor
open Go.RowKit Go.Shelf
attribute [local go_sem] Oper.semAt_some

/-- What One and the box of its list leave. -/
structure OneR (wr wx : World) (mb : Nat) (v x v' : Value) (qs qs' : List Pr) (es : List En) (nx' : Int) : Prop where
  box : Cells wx mb 43 #[v', .int .i64 nx']
  ents : EntsQ wx v' qs'
  es : qs'.map Prod.fst = es
  mem : ∀ p ∈ qs', p ∈ qs ∨ p.2 = x
  below : Below wr.heap.size wr wx
  lo : wr.heap.size ≤ mb
theorem oneA {wr w5 : World} {v x v' : Value} {qs qs' : List Pr} {es : List En} {nx' : Int} (h : WrQ wr.drew v qs x es w5 v' qs') : OneR wr (w5.alloc (.cells #[v', .int .i64 nx'] 43)) w5.heap.size v x v' qs qs' es nx' := by
  have hb : Below w5.heap.size w5 (w5.alloc (.cells #[v', .int .i64 nx'] 43)) := (Below.refl _ _).alloc (Nat.le_refl _) _
  have hB : Below wr.heap.size wr w5 := ((Below.refl wr.heap.size wr).drew).trans h.below
  exact ⟨Cells.new _ _ _, h.ents.below hb (Nat.le_refl _), h.es, h.mem, hB.trans (hb.mono hB.size), hB.size⟩
theorem oneB {wr w5 : World} {v x v' : Value} {qs qs' : List Pr} {es : List En} {nx' : Int} {z : Array Value} (hz : z = #[.slice none 0 0, .int .i64 0]) (h : WrQ (wr.alloc (.cells z 43)).drew v qs x es w5 v' qs') (hq : EntsQ wr v qs) (hx : ∃ fs, Flds wr x fs) (hsz : (wr.alloc (.cells z 43)).drew.heap.size = wr.heap.size + 1) :
    OneR wr ((w5.setCell ⟨wr.heap.size, 0, none⟩ v').setCell ⟨wr.heap.size, 1, none⟩ (.int .i64 nx')) wr.heap.size v x v' qs qs' es nx' := by
  subst hz
  have hB : Below wr.heap.size wr w5 := (((Below.refl wr.heap.size wr).alloc (Nat.le_refl _) _).drew).trans (h.below.mono (by rw [hsz]; omega))
  have hbox : Cells w5 wr.heap.size 43 #[.slice none 0 0, .int .i64 0] := cells_kept (show Cells (wr.alloc (.cells #[.slice none 0 0, .int .i64 0] 43)).drew wr.heap.size 43 _ from (Cells.new _ _ _).drew) h.below (by rw [hsz]; omega)
  have hb2 := (hbox.set 0 v').set 1 (.int .i64 nx')
  rw [set2] at hb2
  have o2 : Only (· = wr.heap.size) w5 ((w5.setCell ⟨wr.heap.size, 0, none⟩ v').setCell ⟨wr.heap.size, 1, none⟩ (.int .i64 nx')) := ((Only.refl (· = wr.heap.size) w5).cellS 0 _).cellS 1 _
  obtain ⟨fs, hx⟩ := hx
  refine ⟨hb2, h.ents.only o2 (fun r e q => ?_) (fun p hp hne r e q => ?_), h.es, h.mem, (hB.setCell (p := ⟨wr.heap.size, 0, none⟩) (Nat.le_refl _) _).setCell (p := ⟨wr.heap.size, 1, none⟩) (Nat.le_refl _) _, Nat.le_refl _⟩
  · rcases h.blk with k | k
    · rw [k] at e; have := (hq.row.lt r e).2; omega
    · have := k r e; rw [hsz] at this; omega
  · rcases h.mem p hp with k | k
    · have := (hq.each p k).lt hne r e; omega
    · have hf : fs ≠ [] := by
        intro e0
        obtain ⟨A, c, e1, _⟩ := h.ents.each p hp
        obtain ⟨A2, c2, e2, _⟩ := hx
        rw [k, e2] at e1
        injection e1 with _ e3 _
        rw [e0] at e3
        exact hne (List.length_eq_zero_iff.1 e3.symm)
      rw [k] at e
      have := hx.lt hf r e; omega
theorem row_lowerE {W : World} {base base' : Nat} {e : TypeId} {size : Nat} {v : Value} {n : Nat} {xs : List Value} (h : W.ownsRow base e size v n xs) (hb : base' ≤ base) : W.ownsRow base' e size v n xs := by
  refine ⟨h.1, ?_⟩
  rcases h.2 with hn | ⟨g, cap, cur, hv, hg, rest⟩
  · exact .inl hn
  · exact .inr ⟨g, cap, cur, hv, Nat.le_trans hb hg, rest⟩
/-- What the document's Do comes to. -/
def RefDoR (n0 : Nat) (w w' : World) (l : LS) (eds : List Ed) (e : Ending) : Prop :=
  Below w.heap.size w w' ∧
  (((doB l eds).2 ≠ 0 ∧ ∃ v qs, e = .returned (.tuple #[.agg #[v, .int .i64 l.next], .slice none 0 0, .int .i64 (doB l eds).1, .int .i64 ((doB l eds).2 : Nat)]) ∧ EntsQ w' v qs) ∨
  (doB l eds = (-9, 0) ∧ okOn l eds ∧ ∃ v qs gv, e = .returned (.tuple #[.agg #[v, .int .i64 (lsOn l eds).next], gv, .int .i64 (-9), .int .i64 0]) ∧ EntsQ w' v qs ∧ qs.map Prod.fst = (lsOn l eds).es ∧ (∀ p ∈ qs, p.1.1.fields ≠ [] → ∀ b, p.2.ownBlock = some b → b < n0) ∧ (∀ b, v.ownBlock = some b → b < w'.heap.size) ∧ w'.ownsRow w.heap.size 3 1 gv (idsOn l eds).length ((idsOn l eds).map encI)))
set_option maxRecDepth 100000 in
set_option maxHeartbeats 16000000 in
theorem refDo_any (qs : List Pr) (v bv : Value) (l : LS) (eds : List Ed) (w00 w : World) (hb00 : Below w00.heap.size w00 w) (h : EntsQ w00 v qs) (hes : qs.map Prod.fst = l.es) (ok : OkL l) (hl : l.es.length ≤ 5000) (hn : l.next ≤ 5001) (hv : EdV w00 bv eds) (h51 : eds.length ≤ 51) (hf : Fines eds) :
    Calls Tryz.prog 22 #[.agg #[v, .int .i64 l.next], bv] w fun e w' => RefDoR w00.heap.size w w' l eds e := by
  have HQ0 := Lib.hid h
  have HB00 := Lib.hid hb00
  replace h := h.below hb00 (Nat.le_refl _)
  have hz00 := hb00.size
  obtain ⟨i0, hi, hz0, hz1, hib⟩ := info_parts infoInt9
  obtain ⟨va, vc, rfl, _⟩ := h.empty
  obtain ⟨wa, hwa⟩ : ∃ wa, wa = (w.alloc (.cells #[.slice va qs.length vc, .int .i64 l.next] 43)).alloc (.cells #[.slice none 0 0, .int .i64 0] 43) := ⟨_, rfl⟩
  have hba : Below w.heap.size w wa := by rw [hwa]; exact ((Below.refl _ w).alloc (Nat.le_refl _) _).alloc (by simp) _
  have hza : wa.heap.size = w.heap.size + 2 := by rw [hwa]; simp
  have c2 : Cells wa w.heap.size 43 #[.slice va qs.length vc, .int .i64 l.next] := by rw [hwa]; exact (Cells.new _ _ _).alloc _
  have c4 : Cells wa (w.heap.size + 1) 43 #[.slice none 0 0, .int .i64 0] := by
    rw [hwa]
    have := Cells.new (w.alloc (.cells #[.slice va qs.length vc, .int .i64 l.next] 43)) 43 #[.slice none 0 0, .int .i64 0]
    simp only [World.size_alloc] at this
    exact this
  have CK := Lib.hid (refCheckB_any eds bv wa ((hv.below hb00 (Nat.le_refl _)).below hba (Nat.le_refl _)) (by omega) hf)
  obtain ⟨ba, bc, rfl, hble, hbcs⟩ := _root_.id hv
  -- the result's box, written
  have PUT : Hid (∀ (W : World) (u : Value) (n : Int), Below wa.heap.size wa W → Cells ((W.setCell ⟨w.heap.size + 1, 0, none⟩ u).setCell ⟨w.heap.size + 1, 1, none⟩ (.int .i64 n)) (w.heap.size + 1) 43 #[u, .int .i64 n] ∧ Below w.heap.size w ((W.setCell ⟨w.heap.size + 1, 0, none⟩ u).setCell ⟨w.heap.size + 1, 1, none⟩ (.int .i64 n)) ∧
      W.cell? ⟨w.heap.size, 0, none⟩ = some (.slice va qs.length vc) ∧ W.cell? ⟨w.heap.size, 1, none⟩ = some (.int .i64 l.next) ∧ W.cell? ⟨w.heap.size + 1, 0, none⟩ = some (.slice none 0 0) ∧ W.cell? ⟨w.heap.size + 1, 1, none⟩ = some (.int .i64 0) ∧ W.frozen? ⟨w.heap.size + 1, 0, none⟩ = false ∧ W.frozen? ⟨w.heap.size + 1, 1, none⟩ = false ∧ Only (· = w.heap.size + 1) W ((W.setCell ⟨w.heap.size + 1, 0, none⟩ u).setCell ⟨w.heap.size + 1, 1, none⟩ (.int .i64 n)) ∧ Cells W (w.heap.size + 1) 43 #[.slice none 0 0, .int .i64 0]) := by
    intro W u n hW
    have k4 := cells_kept c4 hW (by omega)
    have k2 := cells_kept c2 hW (by omega)
    have hB := hba.trans (hW.mono hba.size)
    have h3 := (k4.set 0 u).set 1 (.int .i64 n)
    rw [set2] at h3
    exact ⟨h3, (hB.setCell (p := ⟨w.heap.size + 1, 0, none⟩) (by show w.heap.size ≤ w.heap.size + 1; omega) _).setCell (p := ⟨w.heap.size + 1, 1, none⟩) (by show w.heap.size ≤ w.heap.size + 1; omega) _, by rw [k2.cell]; rfl, by rw [k2.cell]; rfl, by rw [k4.cell]; rfl, by rw [k4.cell]; rfl, k4.frozen 0, k4.frozen 1, ((Only.refl (· = w.heap.size + 1) W).cellS 0 u).cellS 1 _, k4⟩
  have ENT : Hid (∀ (W W' : World), Below w.heap.size w W → Only (· = w.heap.size + 1) W W' → EntsQ W' (.slice va qs.length vc) qs) := fun W W' hW ho =>
    (h.below hW (Nat.le_refl _)).only ho (fun r e q => by have := (h.row.lt r e).2; omega) (fun p hp hne r e q => by have := (h.each p hp).lt hne r e; omega)
  have PC := Lib.hid hbcs
  have HF := Lib.hid hf
  have HQ := Lib.hid h
  have HES := Lib.hid hes
  have HOK := Lib.hid ok
  have HBA := Lib.hid hba
  have HV := Lib.hid hv
  clear hbcs hf h hes ok hba c2 c4 hv hb00
  subst hwa
  go_enter Tryz.func22, Tryz.ntmps22
  go_wp2_with fail
  refine CK.out.mono ?_
  rintro e w1 ⟨rfl, b1⟩
  have B1 := Lib.hid (HBA.out.trans (b1.mono HBA.out.size))
  have HB1 := Lib.hid b1
  by_cases hc0 : (chkB eds).2 = 0
  rotate_left
  · have hdo : doB l eds = chkB eds := by unfold doB; rw [if_neg hc0]
    obtain ⟨p1, p2, k0, k1, k2, k3, f0, f1, p3, p4⟩ := PUT.out w1 (.slice va qs.length vc) l.next b1
    have hne : ((chkB eds).2 : Int) ≠ 0 := by omega
    have qn : (((chkB eds).2 : Int) == 0) = false := by simpa using hc0
    have P1 := Lib.hid p1
    have FIN : Hid (RefDoR w00.heap.size w ((w1.setCell ⟨w.heap.size + 1, 0, none⟩ (.slice va qs.length vc)).setCell ⟨w.heap.size + 1, 1, none⟩ (.int .i64 l.next)) l eds (.returned (.tuple #[.agg #[.slice va qs.length vc, .int .i64 l.next], .slice none 0 0, .int .i64 (chkB eds).1, .int .i64 ((chkB eds).2 : Nat)]))) := by
      show RefDoR _ _ _ _ _ _
      refine ⟨p2, .inl ⟨by rw [hdo]; exact hc0, _, qs, by rw [hdo], ENT.out w1 _ B1.out p3⟩⟩
    clear p1 p2 p3 p4 PUT ENT PC HF HQ HES HOK HBA HV hdo CK b1 HB1
    generalize (chkB eds).1 = ca at *
    generalize (chkB eds).2 = cn at *
    go_wp2_with fail
    refine bodyPost_ret (ret_q4 rfl _ _ (w.heap.size + 1) _ rfl P1.out rfl) rfl ?_
    exact FIN.out
  have hcz := chkB_zero hc0
  have HDO := Lib.hid (show doB l eds = doOn 0 l eds by unfold doB; rw [hcz]; rfl)
  have GOOD := Lib.hid (chkB_good hc0).2
  rw [hcz]
  have hw1 : w.heap.size + 2 ≤ w1.heap.size := by have := b1.size; omega
  obtain ⟨w2, hw2⟩ : ∃ w2, w2 = w1.alloc (.cells #[.slice va qs.length vc, .int .i64 l.next] 43) := ⟨_, rfl⟩
  have hb2 : Below w1.heap.size w1 w2 := by rw [hw2]; exact (Below.refl _ w1).alloc (Nat.le_refl _) _
  have hz2 : w2.heap.size = w1.heap.size + 1 := by rw [hw2]; simp
  have cB2 : Cells w2 w1.heap.size 43 #[.slice va qs.length vc, .int .i64 l.next] := by rw [hw2]; exact Cells.new _ _ _
  have HCB2 := Lib.hid cB2
  have HB2 := Lib.hid hb2
  obtain ⟨_, _, k0, k1, _, _, _, _, _⟩ := PUT.out w1 (.slice va qs.length vc) l.next b1
  clear b1 hcz hc0 cB2 hb2 CK
  subst hw2
  go_wp2_with fail
  go_loopw [11, 12] (fun gx i wr => ∃ (k : Nat) (vk : Value) (qk : List Pr) (gv : Value), gv = gx ∧ k ≤ eds.length ∧ i = .int .i64 k ∧ okOn l (eds.take k) ∧ Cells wr w1.heap.size 43 #[vk, .int .i64 (lsOn l (eds.take k)).next] ∧ EntsQ wr vk qk ∧ qk.map Prod.fst = (lsOn l (eds.take k)).es ∧
    (∀ p ∈ qk, p.1.1.fields ≠ [] → ∀ b, p.2.ownBlock = some b → b < w00.heap.size) ∧ wr.ownsRow w1.heap.size 3 1 gv (idsOn l (eds.take k)).length ((idsOn l (eds.take k)).map encI) ∧ Below w1.heap.size w1 wr ∧ w1.heap.size < wr.heap.size) (fun _ i _ => eds.length - (intOf i).toNat)
  case atStart =>
    refine ⟨0, _, qs, .slice none 0 0, rfl, Nat.zero_le _, rfl, trivial, HCB2.out, ?_, HES.out, ?_, ⟨rfl, .inl ⟨rfl, rfl⟩⟩, HB2.out, by omega⟩
    · exact HQ.out.below (B1.out.trans (HB2.out.mono B1.out.size)) (Nat.le_refl _)
    · intro p hp hne b e
      exact (HQ0.out.each p hp).lt hne b e
  case round =>
    obtain ⟨k, vk, qk, gv, rfl, hk, rfl, hok, hcB, hqk, hqe, hqf, hown, hb, hwr⟩ := hrel
    have hBw : Below w.heap.size w wr := B1.out.trans (hb.mono B1.out.size)
    obtain ⟨ga, gc, rfl, _⟩ : ∃ A c, gv = .slice A (idsOn l (eds.take k)).length c ∧ _ := own_slice hown
    obtain ⟨ka, kc, rfl, _⟩ := hqk.empty
    by_cases hlt : k < eds.length
    · obtain ⟨ed, hed⟩ : ∃ ed, eds[k]? = some ed := ⟨_, List.getElem?_eq_getElem hlt⟩
      obtain ⟨b, off, fv, rfl, hbb, c0, c1, c2, hfl⟩ := PC.out k ed hed
      obtain ⟨fa, fc, rfl⟩ := hfl.form
      have hmem := List.mem_of_getElem? hed
      have hBw0 : Below w00.heap.size w00 wr := HB00.out.trans (hBw.mono HB00.out.size)
      replace c0 := (hBw0.cell (p := ⟨b, off + k * 3, none⟩) hbb).trans c0
      replace c1 := (hBw0.cell (p := ⟨b, off + k * 3 + 1, none⟩) hbb).trans c1
      replace c2 := (hBw0.cell (p := ⟨b, off + k * 3 + 1 + 1, none⟩) hbb).trans c2
      have hbw := hBw0.size
      have c0' : ∀ o, (wr.alloc o).cell? ⟨b, off + k * 3, none⟩ = some (.int .i64 ed.kind) := fun o => by rw [World.cell?_alloc_lt _ _ ⟨b, off + k * 3, none⟩ (by show b < _; omega)]; exact c0
      have c1' : ∀ o, (wr.alloc o).cell? ⟨b, off + k * 3 + 1, none⟩ = some (.int .i64 ed.id) := fun o => by rw [World.cell?_alloc_lt _ _ ⟨b, off + k * 3 + 1, none⟩ (by show b < _; omega)]; exact c1
      have c2' : ∀ o, (wr.alloc o).cell? ⟨b, off + k * 3 + 1 + 1, none⟩ = some (.slice fa ed.fields.length fc) := fun o => by rw [World.cell?_alloc_lt _ _ ⟨b, off + k * 3 + 1 + 1, none⟩ (by show b < _; omega)]; exact c2
      have d0 : wr.cell? ⟨w1.heap.size, 0, none⟩ = some (.slice ka qk.length kc) := by rw [hcB.cell]; rfl
      have d1 : wr.cell? ⟨w1.heap.size, 1, none⟩ = some (.int .i64 (lsOn l (eds.take k)).next) := by rw [hcB.cell]; rfl
      have d0' : ∀ o, (wr.alloc o).cell? ⟨w1.heap.size, 0, none⟩ = some (.slice ka qk.length kc) := fun o => by rw [(hcB.alloc o).cell]; rfl
      have d1' : ∀ o, (wr.alloc o).cell? ⟨w1.heap.size, 1, none⟩ = some (.int .i64 (lsOn l (eds.take k)).next) := fun o => by rw [(hcB.alloc o).cell]; rfl
      have hokl := HOK.out.on (eds.take k)
      obtain ⟨ol1, ol2, ol3⟩ := on_len l (eds.take k)
      have htk : (eds.take k).length = k := take_len hed
      have hpos := hokl.pos
      have hql : qk.length ≤ 5100 := by
        have : qk.length = (lsOn l (eds.take k)).es.length := by rw [← hqe, List.length_map]
        omega
      have ONE : Hid (∀ W, Below wr.heap.size wr W → Calls Tryz.prog 49 #[.agg #[.slice ka qk.length kc, .int .i64 (lsOn l (eds.take k)).next], .agg #[.int .i64 ed.kind, .int .i64 ed.id, .slice fa ed.fields.length fc]] W fun e w' => ∃ v' qs' x, e = .returned (.tuple #[.agg #[v', .int .i64 (stepE (lsOn l (eds.take k)) ed).ls.next], .int .i64 (stepE (lsOn l (eds.take k)) ed).id, .int .i64 (stepE (lsOn l (eds.take k)) ed).bad]) ∧ WrQ W (.slice ka qk.length kc) qk x (stepE (lsOn l (eds.take k)) ed).ls.es w' v' qs' ∧ (x = .slice fa ed.fields.length fc ∨ x = .slice none 0 0)) := fun W hW => by
        have h1 := refOne_any qk (.slice ka qk.length kc) (.slice fa ed.fields.length fc) (lsOn l (eds.take k)).next ed W (hqk.below hW (Nat.le_refl _)) (by omega) (by omega) ((hfl.1.below hBw0 (Nat.le_refl _)).below hW (Nat.le_refl _)) (HF.out ed hmem)
        rw [hqe] at h1
        exact h1
      have XF : Hid (∀ x, (x = .slice fa ed.fields.length fc ∨ x = .slice none 0 0) → ∃ fs, Flds wr x fs) := fun x hx => by
        rcases hx with rfl | rfl
        · exact ⟨_, hfl.1.below hBw0 (Nat.le_refl _)⟩
        · exact ⟨[], none, 0, rfl, Nat.le_refl _, fun i f h => by simp at h⟩
      have FLD : Hid (∀ (W : World) (x v' : Value) (qs' : List Pr), EntsQ W v' qs' → (∀ p ∈ qs', p ∈ qk ∨ p.2 = x) → (x = .slice fa ed.fields.length fc ∨ x = .slice none 0 0) → ∀ p ∈ qs', p.1.1.fields ≠ [] → ∀ b, p.2.ownBlock = some b → b < w00.heap.size) := fun W x v' qs' he hm hx p hp hne r e => by
        rcases hm p hp with q | q
        · exact hqf p q hne r e
        · rcases hx with rfl | rfl
          · have hf : ed.fields ≠ [] := by
              intro e0
              obtain ⟨A, c, e1, _⟩ := he.each p hp
              rw [q] at e1
              injection e1 with _ e3 _
              rw [e0] at e3
              exact hne (List.length_eq_zero_iff.1 e3.symm)
            rw [q] at e
            exact hfl.1.lt hf r e
          · rw [q] at e; cases e
      have DR : Hid (Below wr.heap.size wr wr.drew) := (Below.refl _ _).drew
      have AR : Hid (Below wr.heap.size wr (wr.alloc (.cells #[.slice none 0 0, .int .i64 0] 43)).drew) := ((Below.refl _ _).alloc (Nat.le_refl _) _).drew
      have ARC := Lib.hid (show Cells (wr.alloc (.cells #[.slice none 0 0, .int .i64 0] 43)).drew wr.heap.size 43 #[.slice none 0 0, .int .i64 0] from (Cells.new _ _ _).drew)
      have HWS := Lib.hid (show (wr.alloc (.cells #[.slice none 0 0, .int .i64 0] 43)).drew.heap.size = wr.heap.size + 1 by show (wr.alloc _).heap.size = _; simp)
      have OKS : Hid ((stepE (lsOn l (eds.take k)) ed).bad = 0 → okOn l (eds.take (k + 1))) := fun h => okOn_snoc hed hok h
      have AT : Hid ((stepE (lsOn l (eds.take k)) ed).bad ≠ 0 → doB l eds = (((k : Nat) : Int), (stepE (lsOn l (eds.take k)) ed).bad)) := fun h => by rw [HDO.out]; exact doOn_at hed hok h
      have IDS : Hid ((stepE (lsOn l (eds.take k)) ed).bad = 0 → idsOn l (eds.take (k + 1)) = idsOn l (eds.take k) ++ (if 0 < (stepE (lsOn l (eds.take k)) ed).id then [(stepE (lsOn l (eds.take k)) ed).id] else [])) := fun h => by
        rw [idsOn_snoc hed, step_id hpos (goodE_kind (GOOD.out ed hmem)) h]
      have LSN : Hid (lsOn l (eds.take (k + 1)) = (stepE (lsOn l (eds.take k)) ed).ls) := lsOn_snoc hed
      have hidl : (idsOn l (eds.take k)).length ≤ 51 := by
        have h1 := idsOn_len l (eds.take k)
        omega
      have HQK := Lib.hid hqk
      have HCBK := Lib.hid hcB
      have HOWN := Lib.hid hown
      have HBK := Lib.hid hb
      clear hed hok hcB hqk hqe hqf hown hb hfl hmem hokl ol1 ol2 ol3 hpos PC
      generalize stepE (lsOn l (eds.take k)) ed = st at *
      generalize (lsOn l (eds.take k)).next = nxk at *
      generalize idsOn l (eds.take k) = ids at *
      go_upto_region 9 with fail
      go_cut [13, 14, 15] (fun c d e wx => ∃ mb v' qs' x, c = .pointer (some ⟨mb, 0, none⟩) ∧ d = .int .i64 st.id ∧ e = .int .i64 (st.bad : Nat) ∧ OneR wr wx mb (.slice ka qk.length kc) x v' qk qs' st.ls.es st.ls.next ∧ (x = .slice fa ed.fields.length fc ∨ x = .slice none 0 0))
      case first =>
        go_region_law (go_simp; go_at_call 49; first
          | (refine (ONE.out _ DR.out).mono ?_; rintro e w5 ⟨v', qs', x, rfl, hW, hx⟩; obtain ⟨xa, xc, rfl, _⟩ := hW.ents.empty; have HW5 := Lib.hid hW; have HX5 := Lib.hid hx; clear hW hx)
          | (refine (ONE.out _ AR.out).mono ?_; rintro e w5 ⟨v', qs', x, rfl, hW, hx⟩; obtain ⟨xa, xc, rfl, _⟩ := hW.ents.empty; have kk := cells_kept ARC.out hW.below ARC.out.lt; have t0 := kk.cell 0; have t1 := kk.cell 1; have tf0 := kk.frozen 0; have tf1 := kk.frozen 1; simp only [List.getElem?_toArray, List.getElem?_cons_zero, List.getElem?_cons_succ] at t0 t1; have HW5 := Lib.hid hW; have HX5 := Lib.hid hx; clear hW hx kk))
        all_goals (try go_wp2_with fail)
        all_goals go_meet
        all_goals first
          | exact ⟨_, _, qs', _, rfl, rfl, rfl, oneA HW5.out, HX5.out⟩
          | exact ⟨_, _, qs', _, rfl, rfl, rfl, oneB rfl HW5.out HQK.out (XF.out _ HX5.out) HWS.out, HX5.out⟩
      case rest =>
        obtain ⟨mb, v', qs', x, rfl, rfl, rfl, hR, hx⟩ := hcut
        obtain ⟨xa, xc, rfl, _⟩ := hR.ents.empty
        have hzx := hR.below.size
        have HBX := Lib.hid (HBK.out.trans (hR.below.mono (by omega)))
        have hmbx := hR.box.lt
        by_cases hb0 : st.bad = 0
        rotate_left
        · obtain ⟨p1, p2, k0', k1', k2', k3', f0', f1', p3, p4⟩ := PUT.out wc (.slice va qs.length vc) l.next (by
            have h1 := HB1.out
            exact h1.trans (HBX.out.mono h1.size))
          have AT1 := AT.out hb0
          have qn : ((st.bad : Int) == 0) = false := by simpa using hb0
          have FIN : Hid (RefDoR w00.heap.size w ((wc.setCell ⟨w.heap.size + 1, 0, none⟩ (.slice va qs.length vc)).setCell ⟨w.heap.size + 1, 1, none⟩ (.int .i64 l.next)) l eds (.returned (.tuple #[.agg #[.slice va qs.length vc, .int .i64 l.next], .slice none 0 0, .int .i64 (k : Nat), .int .i64 (st.bad : Nat)]))) := by
            show RefDoR _ _ _ _ _ _
            refine ⟨p2, .inl ⟨by rw [AT1]; exact hb0, _, qs, by rw [AT1], ENT.out wc _ (B1.out.trans (HBX.out.mono B1.out.size)) p3⟩⟩
          have P1 := Lib.hid p1
          clear p1 p2 p3 p4 hR hx ONE XF FLD ARC OKS AT AT1 IDS LSN HQK HCBK HOWN c0' c1' c2' d0' d1' PUT ENT
          go_wp2_with fail
          refine bodyPost_ret (ret_q4 rfl _ _ (w.heap.size + 1) _ rfl P1.out rfl) rfl ?_
          exact FIN.out
        · have OK1 := Lib.hid (OKS.out hb0)
          have IDS1 := IDS.out hb0
          have cBx := cells_kept HCBK.out hR.below HCBK.out.lt
          have m0 : wc.cell? ⟨mb, 0, none⟩ = some (.slice xa qs'.length xc) := by rw [hR.box.cell]; rfl
          have m1 : wc.cell? ⟨mb, 1, none⟩ = some (.int .i64 st.ls.next) := by rw [hR.box.cell]; rfl
          have n0 : wc.cell? ⟨w1.heap.size, 0, none⟩ = some (.slice ka qk.length kc) := by rw [cBx.cell]; rfl
          have n1 : wc.cell? ⟨w1.heap.size, 1, none⟩ = some (.int .i64 nxk) := by rw [cBx.cell]; rfl
          have g0 := cBx.frozen 0
          have g1 := cBx.frozen 1
          have hrowB : (Value.slice xa qs'.length xc).ownBlock ≠ some w1.heap.size := own_cells_ne hR.ents.row cBx (by decide)
          have hflB := FLD.out wc x _ qs' hR.ents hR.mem hx
          have oB : Only (· = w1.heap.size) wc ((wc.setCell ⟨w1.heap.size, 0, none⟩ (.slice xa qs'.length xc)).setCell ⟨w1.heap.size, 1, none⟩ (.int .i64 st.ls.next)) := ((Only.refl (· = w1.heap.size) wc).cellS 0 _).cellS 1 _
          have cB3 := (cBx.set 0 (.slice xa qs'.length xc)).set 1 (.int .i64 st.ls.next)
          rw [set2] at cB3
          have E3 : EntsQ ((wc.setCell ⟨w1.heap.size, 0, none⟩ (.slice xa qs'.length xc)).setCell ⟨w1.heap.size, 1, none⟩ (.int .i64 st.ls.next)) (.slice xa qs'.length xc) qs' := hR.ents.only oB (fun r e q => hrowB (by rw [e, q])) (fun p hp hne r e q => by have := hflB p hp hne r e; omega)
          have ownx := row_below HOWN.out hR.below (Nat.le_refl _)
          have hrow2 : (Value.slice ga ids.length gc).ownBlock ≠ some w1.heap.size := own_cells_ne HOWN.out HCBK.out (by decide)
          have own3 := row_only ownx oB (fun r e q => hrow2 (by rw [e, q]))
          have HB3 : Below w1.heap.size w1 ((wc.setCell ⟨w1.heap.size, 0, none⟩ (.slice xa qs'.length xc)).setCell ⟨w1.heap.size, 1, none⟩ (.int .i64 st.ls.next)) := (HBX.out.setCell (p := ⟨w1.heap.size, 0, none⟩) (Nat.le_refl _) _).setCell (p := ⟨w1.heap.size, 1, none⟩) (Nat.le_refl _) _
          have hz3 := oB.size
          have H1 := Lib.hid cB3
          have H2 := Lib.hid E3
          have H3 := Lib.hid hflB
          have H4 := Lib.hid own3
          have H5 := Lib.hid HB3
          have HES1 := Lib.hid (show qs'.map Prod.fst = (lsOn l (eds.take (k + 1))).es by rw [LSN.out]; exact hR.es)
          have HNX1 : Hid ((lsOn l (eds.take (k + 1))).next = st.ls.next) := by show _ = _; rw [LSN.out]
          clear hR hx ONE XF FLD ARC OKS AT IDS LSN HQK HCBK HOWN c0' c1' c2' d0' d1' cBx hrowB hflB oB cB3 E3 ownx own3 HB3 d0 d1 hrow2
          by_cases hid : 0 < st.id
          · rw [if_pos hid] at IDS1
            have IDS1 := Lib.hid IDS1
            have HSZ : ((wc.setCell ⟨w1.heap.size, 0, none⟩ (.slice xa qs'.length xc)).setCell ⟨w1.heap.size, 1, none⟩ (.int .i64 st.ls.next)).heap.size = wc.heap.size := by simp [World.setCell]
            have HVG2 : ∀ w3 : World, Hid (∀ (j : Nat) (u : Value), [encI st.id][j]? = some u → (w3.alloc (.cells #[.int .i64 st.id] 3)).cell? ((⟨w3.heap.size, 0, none⟩ : Addr).add j) = some u) := fun w3 j u h => by
              have ea : (⟨w3.heap.size, 0, none⟩ : Addr).add j = ⟨w3.heap.size, j, none⟩ := by unfold Addr.add; split <;> simp_all
              rw [ea, (Cells.new w3 3 #[.int .i64 st.id]).cell j]
              simpa [encI] using h
            have HVG : ∀ w3 : World, w3.heap.size = wc.heap.size → Hid (∀ (j : Nat) (u : Value), [encI st.id][j]? = some u → (w3.alloc (.cells #[.int .i64 st.id] 3)).cell? ((⟨wc.heap.size, 0, none⟩ : Addr).add j) = some u) := fun w3 hz j u h => by
              rw [← hz]; exact (HVG2 w3).out j u h
            have hidl2 : (ids.map encI).length = ids.length := List.length_map _
            go_wp2_with (at_builtin; generalize hw3 : ((wc.setCell ⟨w1.heap.size, 0, none⟩ (.slice xa qs'.length xc)).setCell ⟨w1.heap.size, 1, none⟩ (.int .i64 st.ls.next)) = w3 at H1 H2 H4 H5 hz3 HSZ ⊢; refine wpList_append_at rfl _ _ 46 rfl w1.heap.size 3 i0 _ 1 8 Tryz.underlying46 hi hz0 hz1 hib rfl (by decide) _ _ _ rfl (H4.out.alloc _) _ 1 1 [encI st.id] rfl rfl (by first | exact (HVG2 w3).out | exact (HVG w3 HSZ).out) (by intro u hu; simp at hu; subst hu; rfl) (by unfold maxLen; omega) (by omega) (by simp only [World.size_alloc]; omega) ?_)
            intro gv' W4 own4 grow4 at4
            have hgl : ∀ r, (Value.slice ga ids.length gc).ownBlock = some r → w1.heap.size ≤ r ∧ r < w3.heap.size := fun r e => H4.out.lt r e
            have hg2 : (Value.slice ga ids.length gc).ownBlock ≠ some w1.heap.size := own_cells_ne H4.out H1.out (by decide)
            have o4 : Only (fun r => (Value.slice ga ids.length gc).ownBlock = some r) w3 W4 :=
              (Only.of_below (S := fun r => (Value.slice ga ids.length gc).ownBlock = some r) ((Below.refl _ w3).alloc (Nat.le_refl _) (.cells #[.int .i64 st.id] 3)) (Nat.le_refl _)).grown grow4 (fun r e => .inl e)
            have R1 : Cells W4 w1.heap.size 43 #[.slice xa qs'.length xc, .int .i64 st.ls.next] := H1.out.only o4 (fun e => hg2 e)
            have R2 : EntsQ W4 (.slice xa qs'.length xc) qs' := H2.out.only o4 (fun r e q => own_own_ne H4.out H2.out.row (by decide) r q e) (fun p hp hne r e q => by have := H3.out p hp hne r e; have := (hgl r q).1; omega)
            have R4 : W4.ownsRow w1.heap.size 3 1 gv' (idsOn l (eds.take (k + 1))).length ((idsOn l (eds.take (k + 1))).map encI) := by
              rw [IDS1.out, List.length_append, List.map_append]; exact own4
            have R6 : Below w1.heap.size w1 W4 := H5.out.trans (o4.to_below H5.out.size (fun r hr e => by have := (hgl r e).1; omega))
            have hsz := o4.size
            have K1 := Lib.hid R1
            have K2 := Lib.hid R2
            have K4 := Lib.hid R4
            have K6 := Lib.hid R6
            clear R1 R2 R4 R6 o4 hgl hg2 own4 grow4 at4 HVG HVG2 H1 H2 H4 H5
            go_wp2_with fail
            go_roundw
            case rel => exact ⟨k + 1, _, qs', _, rfl, hlt, by go_num, OK1.out, by rw [HNX1.out]; exact K1.out, K2.out, HES1.out, H3.out, K4.out, K6.out, by omega⟩
            case measure => simp [intOf]; omega
          · rw [if_neg hid, List.append_nil] at IDS1
            have IDS1 := Lib.hid IDS1
            have HSZ : ((wc.setCell ⟨w1.heap.size, 0, none⟩ (.slice xa qs'.length xc)).setCell ⟨w1.heap.size, 1, none⟩ (.int .i64 st.ls.next)).heap.size = wc.heap.size := by simp [World.setCell]
            have qi : decide (0 < st.id) = false := by simpa using hid
            go_wp2_with fail
            go_roundw
            case rel => exact ⟨k + 1, _, qs', _, rfl, hlt, by go_num, OK1.out, by rw [HNX1.out]; exact H1.out, H2.out, HES1.out, H3.out, by rw [IDS1.out]; exact H4.out, H5.out, by rw [HSZ]; omega⟩
            case measure => simp [intOf]; omega
    · have hke : k = eds.length := by omega
      subst hke
      rw [List.take_length] at hok hcB hqe hown ⊢
      have d0 : wr.cell? ⟨w1.heap.size, 0, none⟩ = some (.slice ka qk.length kc) := by rw [hcB.cell]; rfl
      have d1 : wr.cell? ⟨w1.heap.size, 1, none⟩ = some (.int .i64 (lsOn l eds).next) := by rw [hcB.cell]; rfl
      obtain ⟨p1, p2, k0', k1', k2', k3', f0', f1', p3, p4⟩ := PUT.out wr (.slice ka qk.length kc) (lsOn l eds).next (by
            have h1 := HB1.out
            exact h1.trans (hb.mono h1.size))
      have P1 := Lib.hid p1
      have hd : doB l eds = (-9, 0) := by rw [HDO.out]; exact doOn_ok _ _ _ hok
      have hgb : ∀ r, (Value.slice ga (idsOn l eds).length gc).ownBlock = some r → w1.heap.size ≤ r := fun r e => (hown.lt r e).1
      have FIN : Hid (RefDoR w00.heap.size w ((wr.setCell ⟨w.heap.size + 1, 0, none⟩ (.slice ka qk.length kc)).setCell ⟨w.heap.size + 1, 1, none⟩ (.int .i64 (lsOn l eds).next)) l eds (.returned (.tuple #[.agg #[.slice ka qk.length kc, .int .i64 (lsOn l eds).next], .slice ga (idsOn l eds).length gc, .int .i64 (-9), .int .i64 0]))) := by
        show RefDoR _ _ _ _ _ _
        refine ⟨p2, .inr ⟨hd, hok, _, qk, _, rfl, ?_, hqe, hqf, ?_, ?_⟩⟩
        · exact hqk.only p3 (fun r e q => own_cells_ne hqk.row p4 (by decide) (by rw [e, q])) (fun p hp hne r e q => by have := hqf p hp hne r e; omega)
        · intro r e
          have := (hqk.row.lt r e).2
          have := p3.size
          omega
        · exact row_lowerE (row_only hown p3 (fun r e q => by have := hgb r e; omega)) (by omega)
      clear p1 p2 p3 p4 PUT ENT hgb hqk hcB hown hqf hb HQ HES HOK HBA HV HDO PC
      go_wp2_with fail
      refine bodyPost_ret (ret_q4 rfl _ _ (w.heap.size + 1) _ rfl P1.out rfl) rfl ?_
      exact FIN.out
end Go.Proofs.YtflnlenkgbphpaaGreatDoor

