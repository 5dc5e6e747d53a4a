/- Texts put together:HB,HE,SYN,SM,SO,SN,GF,GJ. -/
import Derived.Test.YtbapfpekklcicaaGreatDoorBbx32
set_option linter.unusedVariables false
set_option maxRecDepth 100000
set_option maxHeartbeats 16000000
namespace Go.Proofs.YtbapfpekklcicaaGreatDoor
open Go.RowKit Go.Shelf Tryz
section
attribute [local go_sem] jn9
structure jnr(wr wx:World)(mb:Nat)(v x v':Value)(qs qs':List Pr)(es:List En)(nx':Int):Prop where
 box:jd wx mb 37 #[v',.int .i64 nx']
 ents:zN wx v' qs'
 es:qs'.map Prod.fst=es
 mem:∀p∈qs',p∈qs\/p.2=x
 below:Below wr.heap.size wr wx
 lo:wr.heap.size<=mb
theorem jnJ{wr a:World}{v x c:Value}{f b:List Pr}{es:List En}{nx':Int}(h:WrQ wr.drew v f x es a c b):jnr wr (a.alloc (.cells #[c,.int .i64 nx'] 37)) a.heap.size v x c f b es nx':=by
 have e:Below a.heap.size a (a.alloc (.cells #[c,.int .i64 nx'] 37)):=(jnV _ _).alloc (jnT _) _;have d:Below wr.heap.size wr a:=((jnV wr.heap.size wr).drew).trans h.below
 exact⟨jd.new _ _ _,h.ents.below e (jnT _),h.es,h.mem,d.trans (e.mono d.size),d.size⟩
theorem jnI{wr b:World}{v x j:Value}{m i:List Pr}{es:List En}{nx':Int}{z:Array Value}(D:z=#[.slice none 0 0,.int .i64 0])(h:WrQ (wr.alloc (.cells z 37)).drew v m x es b j i)(t:zN wr v m)(hx:∃l,vK wr x l)(a:(wr.alloc (.cells z 37)).drew.heap.size=wr.heap.size+1):
  jnr wr ((b.setCell ⟨wr.heap.size,0,none⟩ j).setCell ⟨wr.heap.size,1,none⟩ (.int .i64 nx')) wr.heap.size v x j m i es nx':=by
 subst D;have y:Below wr.heap.size wr b:=(((jnV wr.heap.size wr).alloc (jnT _) _).drew).trans (h.below.mono (by rw[a];omega))
 have f:jd b wr.heap.size 37 #[.slice none 0 0,.int .i64 0]:=jb (show jd (wr.alloc (.cells #[.slice none 0 0,.int .i64 0] 37)).drew wr.heap.size 37 _ from(jd.new _ _ _).drew) h.below (by rw[a];omega);have d:=(f.set 0 j).set 1 (.int .i64 nx')
 rw[Vo]at d;have E:jI (· = wr.heap.size) b ((b.setCell ⟨wr.heap.size,0,none⟩ j).setCell ⟨wr.heap.size,1,none⟩ (.int .i64 nx')):=((jI.refl (· = wr.heap.size) b).cellS 0 _).cellS 1 _
 obtain⟨l,hx⟩:=hx;refine⟨d,h.ents.only E (fun r e q => ?_) (fun p s g r e q => ?_),h.es,h.mem,(y.setCell (p:=⟨wr.heap.size,0,none⟩) (jnT _) _).setCell (p:=⟨wr.heap.size,1,none⟩) (jnT _) _,jnT _⟩
 ·rcases h.blk with k|k
  ·rw[k]at e;have:=(t.row.lt r e).2;omega
  have:=k r e;rw[a]at this;omega
 rcases h.mem p s with k|k
 ·have:=(t.each p k).lt g r e;omega
 have C:l≠[]:=by intro u;obtain⟨A,c,n,_⟩:=h.ents.each p s;obtain⟨G,H,w,_⟩:=hx;rw[k,w]at n;injection n with _ o _;rw[u]at o;exact g (List.length_eq_zero_iff.1 o.symm)
 rw[k]at e;have:=hx.lt C r e;omega
theorem jdW{W:World}{base base':Nat}{e:TypeId}{size:Nat}{v:Value}{n:Nat}{xs:List Value}(h:W.ownsRow base e size v n xs)(d:base'<=base):W.ownsRow base' e size v n xs:=by
 refine⟨h.1,?_⟩;rcases h.2 with i|⟨g,b,c,j,f,a⟩
 ·exact .inl i
 exact .inr ⟨g,b,c,j,jop d f,a⟩
def Jv(n0:Nat)(w w':World)(l:LS)(eds:List Ed)(e:Ending):Prop :=
 Below w.heap.size w w' /\
 (((doB l eds).2≠0/\∃v qs,e=.returned (.tuple #[.agg #[v,.int .i64 l.next],.slice none 0 0,.int .i64 (doB l eds).1,.int .i64 ((doB l eds).2:Nat)])/\zN w' v qs) \/
 (doB l eds=(-9,0)/\KK l eds/\∃v qs gv,e=.returned (.tuple #[.agg #[v,.int .i64 (zE l eds).next],gv,.int .i64 (-9),.int .i64 0])/\zN w' v qs/\qs.map Prod.fst=(zE l eds).es/\(∀p∈qs,p.1.1.fields≠[]->∀b,p.2.ownBlock=some b->b<n0)/\(∀b,v.ownBlock=some b->b<w'.heap.size)/\w'.ownsRow w.heap.size 3 1 gv (za l eds).length ((za l eds).map Kb)))
theorem jfM (qs : List Pr) (v bv : Value) (l : LS) (eds : List Ed) (w00 w : World) (hb00 : Below w00.heap.size w00 w) (h : zN w v qs) (hqf0 : ∀ p ∈ qs, p.1.1.fields ≠ [] -> ∀ b, p.2.ownBlock = some b -> b < w00.heap.size) (hes : qs.map Prod.fst = l.es) (ok : OkL l) (hl : l.es.length <= 5000) (hn : l.next <= 5001) (hv : EdV w00 bv eds) (h51 : eds.length <= 51) (hf : XO eds) :
    Calls prog 36 #[.agg #[v, .int .i64 l.next], bv] w fun e w' => Jv w00.heap.size w w' l eds e := by
  have HQ0 := jnS hqf0
  have HB00 := jnS hb00
  clear hqf0
  have hz00 := hb00.size
  obtain ⟨i0, hi, hz0, hz1, hib⟩ := info_parts jdg
  obtain ⟨va, vc, rfl, _⟩ := h.empty
  obtain ⟨wa, hwa⟩ : ∃ wa, wa = (w.alloc (.cells #[.slice va qs.length vc, .int .i64 l.next] 37)).alloc (.cells #[.slice none 0 0, .int .i64 0] 37) := ⟨_, rfl⟩
  have hba : Below w.heap.size w wa := by rw [hwa]; exact ((jnV _ w).alloc (jnT _) _).alloc (by simp) _
  have hza : wa.heap.size = w.heap.size + 2 := by rw [hwa]; simp
  have c2 : jd wa w.heap.size 37 #[.slice va qs.length vc, .int .i64 l.next] := by rw [hwa]; exact (jd.new _ _ _).alloc _
  have c4 : jd wa (w.heap.size + 1) 37 #[.slice none 0 0, .int .i64 0] := by
    rw [hwa]
    have := jd.new (w.alloc (.cells #[.slice va qs.length vc, .int .i64 l.next] 37)) 37 #[.slice none 0 0, .int .i64 0]
    simp only [joe] at this
    exact this
  have CK := jnS (Ue eds bv wa ((hv.below hb00 (jnT _)).below hba (jnT _)) (by omega) hf)
  obtain ⟨ba, bc, rfl, hble, hbcs⟩ := _root_.id hv
  have PUT : Hid (∀ (W : World) (u : Value) (n : Int), Below wa.heap.size wa W -> jd ((W.setCell ⟨w.heap.size + 1, 0, none⟩ u).setCell ⟨w.heap.size + 1, 1, none⟩ (.int .i64 n)) (w.heap.size + 1) 37 #[u, .int .i64 n] /\ Below w.heap.size w ((W.setCell ⟨w.heap.size + 1, 0, none⟩ u).setCell ⟨w.heap.size + 1, 1, none⟩ (.int .i64 n)) /\
      W.cell? ⟨w.heap.size, 0, none⟩ = some (.slice va qs.length vc) /\ W.cell? ⟨w.heap.size, 1, none⟩ = some (.int .i64 l.next) /\ W.cell? ⟨w.heap.size + 1, 0, none⟩ = some (.slice none 0 0) /\ W.cell? ⟨w.heap.size + 1, 1, none⟩ = some (.int .i64 0) /\ W.frozen? ⟨w.heap.size + 1, 0, none⟩ = false /\ W.frozen? ⟨w.heap.size + 1, 1, none⟩ = false /\ jI (· = w.heap.size + 1) W ((W.setCell ⟨w.heap.size + 1, 0, none⟩ u).setCell ⟨w.heap.size + 1, 1, none⟩ (.int .i64 n)) /\ jd W (w.heap.size + 1) 37 #[.slice none 0 0, .int .i64 0]) := by
    intro W u n hW
    have k4 := jb c4 hW (by omega)
    have k2 := jb c2 hW (by omega)
    have hB := hba.trans (hW.mono hba.size)
    have h3 := (k4.set 0 u).set 1 (.int .i64 n)
    rw [Vo] at h3
    exact ⟨h3, (hB.setCell (p := ⟨w.heap.size + 1, 0, none⟩) (by show w.heap.size <= w.heap.size + 1; omega) _).setCell (p := ⟨w.heap.size + 1, 1, none⟩) (by show w.heap.size <= w.heap.size + 1; omega) _, by rw [k2.cell]; rfl, by rw [k2.cell]; rfl, by rw [k4.cell]; rfl, by rw [k4.cell]; rfl, k4.frozen 0, k4.frozen 1, ((jI.refl (· = w.heap.size + 1) W).cellS 0 u).cellS 1 _, k4⟩
  have ENT : Hid (∀ (W W' : World), Below w.heap.size w W -> jI (· = w.heap.size + 1) W W' -> zN W' (.slice va qs.length vc) qs) := fun W W' hW ho =>
    (h.below hW (jnT _)).only ho (fun r e q => by have := (h.row.lt r e).2; omega) (fun p hp hne r e q => by have := (h.each p hp).lt hne r e; omega)
  have PC := jnS hbcs
  have HF := jnS hf
  have HQ := jnS h
  have HES := jnS hes
  have HOK := jnS ok
  have HBA := jnS hba
  have HV := jnS hv
  clear hbcs hf h hes ok hba c2 c4 hv hb00
  subst hwa
  go_enter func36, ntmps36
  go_wp2_with fail
  refine CK.out.mono ?_
  rintro e w1 ⟨rfl, b1⟩
  have B1 := jnS (HBA.out.trans (b1.mono HBA.out.size))
  have HB1 := jnS b1
  by_cases hc0 : (qu eds).2 = 0
  rotate_left
  . have hdo : doB l eds = qu eds := by unfold doB; rw [if_neg hc0]
    obtain ⟨p1, p2, k0, k1, k2, k3, f0, f1, p3, p4⟩ := PUT.out w1 (.slice va qs.length vc) l.next b1
    have hne : ((qu eds).2 : Int) ≠ 0 := by omega
    have qn : (((qu eds).2 : Int) == 0) = false := by simpa using hc0
    have P1 := jnS p1
    have FIN : Hid (Jv w00.heap.size w ((w1.setCell ⟨w.heap.size + 1, 0, none⟩ (.slice va qs.length vc)).setCell ⟨w.heap.size + 1, 1, none⟩ (.int .i64 l.next)) l eds (.returned (.tuple #[.agg #[.slice va qs.length vc, .int .i64 l.next], .slice none 0 0, .int .i64 (qu eds).1, .int .i64 ((qu eds).2 : Nat)]))) := by
      show Jv _ _ _ _ _ _
      refine ⟨p2, .inl ⟨by rw [hdo]; exact hc0, _, qs, by rw [hdo], ENT.out w1 _ B1.out p3⟩⟩
    clear p1 p2 p3 p4 PUT ENT PC HF HQ HES HOK HBA HV hdo CK b1 HB1
    generalize (qu eds).1 = ca at *
    generalize (qu eds).2 = cn at *
    go_wp2_with fail
    refine bodyPost_ret (JR rfl _ _ (w.heap.size + 1) _ rfl P1.out rfl) rfl ?_
    exact FIN.out
  have hcz := jbi hc0
  have HDO := jnS (show doB l eds = jha 0 l eds by unfold doB; rw [hcz]; rfl)
  have GOOD := jnS (vg hc0).2
  rw [hcz]
  have hw1 : w.heap.size + 2 <= w1.heap.size := by have := b1.size; omega
  obtain ⟨w2, hw2⟩ : ∃ w2, w2 = w1.alloc (.cells #[.slice va qs.length vc, .int .i64 l.next] 37) := ⟨_, rfl⟩
  have hb2 : Below w1.heap.size w1 w2 := by rw [hw2]; exact (jnV _ w1).alloc (jnT _) _
  have hz2 : w2.heap.size = w1.heap.size + 1 := by rw [hw2]; simp
  have cB2 : jd w2 w1.heap.size 37 #[.slice va qs.length vc, .int .i64 l.next] := by rw [hw2]; exact jd.new _ _ _
  have HCB2 := jnS cB2
  have HB2 := jnS hb2
  obtain ⟨_, _, k0, k1, _, _, _, _, _⟩ := PUT.out w1 (.slice va qs.length vc) l.next b1
  clear b1 hcz hc0 cB2 hb2 CK
  subst hw2
  go_wp2_with fail
  go_loopw [11, 12] (fun gx i wr => ∃ (k : Nat) (vk : Value) (qk : List Pr) (gv : Value), gv = gx /\ k <= eds.length /\ i = .int .i64 k /\ KK l (eds.take k) /\ jd wr w1.heap.size 37 #[vk, .int .i64 (zE l (eds.take k)).next] /\ zN wr vk qk /\ qk.map Prod.fst = (zE l (eds.take k)).es /\
    (∀ p ∈ qk, p.1.1.fields ≠ [] -> ∀ b, p.2.ownBlock = some b -> b < w00.heap.size) /\ wr.ownsRow w1.heap.size 3 1 gv (za l (eds.take k)).length ((za l (eds.take k)).map Kb) /\ Below w1.heap.size w1 wr /\ w1.heap.size < wr.heap.size) (fun _ i _ => eds.length - (intOf i).toNat)
  case atStart =>
    refine ⟨0, _, qs, .slice none 0 0, rfl, jn3 _, rfl, trivial, HCB2.out, ?_, HES.out, ?_, ⟨rfl, .inl ⟨rfl, rfl⟩⟩, HB2.out, by omega⟩
    . exact HQ.out.below (B1.out.trans (HB2.out.mono B1.out.size)) (jnT _)
    intro p hp hne b e
    exact HQ0.out p hp hne b e
  case round =>
  obtain ⟨k, vk, qk, gv, rfl, hk, rfl, hok, hcB, hqk, hqe, hqf, hown, hb, hwr⟩ := hrel
  have hBw : Below w.heap.size w wr := B1.out.trans (hb.mono B1.out.size)
  obtain ⟨ga, gc, rfl, _⟩ : ∃ A c, gv = .slice A (za l (eds.take k)).length c /\ _ := je hown
  obtain ⟨ka, kc, rfl, _⟩ := hqk.empty
  by_cases hlt : k < eds.length
  . obtain ⟨ed, hed⟩ : ∃ ed, eds[k]? = some ed := ⟨_, jnW hlt⟩
    obtain ⟨b, off, fv, rfl, hbb, c0, c1, c2, hfl⟩ := PC.out k ed hed
    obtain ⟨fa, fc, rfl⟩ := hfl.form
    have hmem := jn7 hed
    have hBw0 : Below w00.heap.size w00 wr := HB00.out.trans (hBw.mono HB00.out.size)
    replace c0 := (hBw0.cell (p := ⟨b, off + k * 3, none⟩) hbb).trans c0
    replace c1 := (hBw0.cell (p := ⟨b, off + k * 3 + 1, none⟩) hbb).trans c1
    replace c2 := (hBw0.cell (p := ⟨b, off + k * 3 + 1 + 1, none⟩) hbb).trans c2
    have c0' : ∀ o, (wr.alloc o).cell? ⟨b, off + k * 3, none⟩ = some (.int .i64 ed.kind) := fun o => by rw [jpr _ _ ⟨b, off + k * 3, none⟩ (by show b < _; omega)]; exact c0
    have c1' : ∀ o, (wr.alloc o).cell? ⟨b, off + k * 3 + 1, none⟩ = some (.int .i64 ed.id) := fun o => by rw [jpr _ _ ⟨b, off + k * 3 + 1, none⟩ (by show b < _; omega)]; exact c1
    have c2' : ∀ o, (wr.alloc o).cell? ⟨b, off + k * 3 + 1 + 1, none⟩ = some (.slice fa ed.fields.length fc) := fun o => by rw [jpr _ _ ⟨b, off + k * 3 + 1 + 1, none⟩ (by show b < _; omega)]; exact c2
    have d0 : wr.cell? ⟨w1.heap.size, 0, none⟩ = some (.slice ka qk.length kc) := by rw [hcB.cell]; rfl
    have d1 : wr.cell? ⟨w1.heap.size, 1, none⟩ = some (.int .i64 (zE l (eds.take k)).next) := by rw [hcB.cell]; rfl
    have d0' : ∀ o, (wr.alloc o).cell? ⟨w1.heap.size, 0, none⟩ = some (.slice ka qk.length kc) := fun o => by rw [(hcB.alloc o).cell]; rfl
    have d1' : ∀ o, (wr.alloc o).cell? ⟨w1.heap.size, 1, none⟩ = some (.int .i64 (zE l (eds.take k)).next) := fun o => by rw [(hcB.alloc o).cell]; rfl
    have hokl := HOK.out.on (eds.take k)
    obtain ⟨ol1, ol2, ol3⟩ := jj7 l (eds.take k)
    have htk : (eds.take k).length = k := jcE hed
    have hpos := hokl.pos
    have hql : qk.length <= 5100 := by
      have : qk.length = (zE l (eds.take k)).es.length := by rw [<- hqe, joi]
      omega
    have ONE : Hid (∀ W, Below wr.heap.size wr W -> Calls prog 68 #[.agg #[.slice ka qk.length kc, .int .i64 (zE l (eds.take k)).next], .agg #[.int .i64 ed.kind, .int .i64 ed.id, .slice fa ed.fields.length fc]] W fun e w' => ∃ v' qs' x, e = .returned (.tuple #[.agg #[v', .int .i64 (jL (zE l (eds.take k)) ed).ls.next], .int .i64 (jL (zE l (eds.take k)) ed).id, .int .i64 (jL (zE l (eds.take k)) ed).bad]) /\ WrQ W (.slice ka qk.length kc) qk x (jL (zE l (eds.take k)) ed).ls.es w' v' qs' /\ (x = .slice fa ed.fields.length fc \/ x = .slice none 0 0)) := fun W hW => by
      have h1 := jd3 qk (.slice ka qk.length kc) (.slice fa ed.fields.length fc) (zE l (eds.take k)).next ed W (hqk.below hW (jnT _)) (by omega) (by omega) ((hfl.1.below hBw0 (jnT _)).below hW (jnT _)) (HF.out ed hmem)
      rw [hqe] at h1
      exact h1
    have XF : Hid (∀ x, (x = .slice fa ed.fields.length fc \/ x = .slice none 0 0) -> ∃ fs, vK wr x fs) := fun x hx => by
      rcases hx with rfl | rfl
      . exact ⟨_, hfl.1.below hBw0 (jnT _)⟩
      exact ⟨[], none, 0, rfl, jnT _, fun i f h => by simp at h⟩
    have FLD : Hid (∀ (W : World) (x v' : Value) (qs' : List Pr), zN W v' qs' -> (∀ p ∈ qs', p ∈ qk \/ p.2 = x) -> (x = .slice fa ed.fields.length fc \/ x = .slice none 0 0) -> ∀ p ∈ qs', p.1.1.fields ≠ [] -> ∀ b, p.2.ownBlock = some b -> b < w00.heap.size) := fun W x v' qs' he hm hx p hp hne r e => by
      rcases hm p hp with q | q
      . exact hqf p q hne r e
      rcases hx with rfl | rfl
      . have hf : ed.fields ≠ [] := by
          intro e0
          obtain ⟨A, c, e1, _⟩ := he.each p hp
          rw [q] at e1
          injection e1 with _ e3 _
          rw [e0] at e3
          exact hne (List.length_eq_zero_iff.1 e3.symm)
        rw [q] at e
        exact hfl.1.lt hf r e
      rw [q] at e; cases e
    have DR : Hid (Below wr.heap.size wr wr.drew) := (jnV _ _).drew
    have AR : Hid (Below wr.heap.size wr (wr.alloc (.cells #[.slice none 0 0, .int .i64 0] 37)).drew) := ((jnV _ _).alloc (jnT _) _).drew
    have ARC := jnS (show jd (wr.alloc (.cells #[.slice none 0 0, .int .i64 0] 37)).drew wr.heap.size 37 #[.slice none 0 0, .int .i64 0] from (jd.new _ _ _).drew)
    have HWS := jnS (show (wr.alloc (.cells #[.slice none 0 0, .int .i64 0] 37)).drew.heap.size = wr.heap.size + 1 by show (wr.alloc _).heap.size = _; simp)
    have OKS : Hid ((jL (zE l (eds.take k)) ed).bad = 0 -> KK l (eds.take (k + 1))) := fun h => jaF hed hok h
    have AT : Hid ((jL (zE l (eds.take k)) ed).bad ≠ 0 -> doB l eds = (((k : Nat) : Int), (jL (zE l (eds.take k)) ed).bad)) := fun h => by rw [HDO.out]; exact jg9 hed hok h
    have IDS : Hid ((jL (zE l (eds.take k)) ed).bad = 0 -> za l (eds.take (k + 1)) = za l (eds.take k) ++ (if 0 < (jL (zE l (eds.take k)) ed).id then [(jL (zE l (eds.take k)) ed).id] else [])) := fun h => by
      rw [Wi hed, jkz hpos (yO (GOOD.out ed hmem)) h]
    have LSN : Hid (zE l (eds.take (k + 1)) = (jL (zE l (eds.take k)) ed).ls) := jaI hed
    have hidl : (za l (eds.take k)).length <= 51 := by
      have h1 := jaW l (eds.take k)
      omega
    have HQK := jnS hqk
    have HCBK := jnS hcB
    have HOWN := jnS hown
    have HBK := jnS hb
    clear hed hok hcB hqk hqe hqf hown hb hfl hmem hokl ol1 ol2 ol3 hpos PC
    generalize jL (zE l (eds.take k)) ed = st at *
    generalize (zE l (eds.take k)).next = nxk at *
    generalize za l (eds.take k) = ids at *
    go_upto_region 9 with fail
    go_cut [13, 14, 15] (fun c d e wx => ∃ mb v' qs' x, c = .pointer (some ⟨mb, 0, none⟩) /\ d = .int .i64 st.id /\ e = .int .i64 (st.bad : Nat) /\ jnr wr wx mb (.slice ka qk.length kc) x v' qk qs' st.ls.es st.ls.next /\ (x = .slice fa ed.fields.length fc \/ x = .slice none 0 0))
    case first =>
      go_region_law (go_simp; go_at_call 68; first
        | (refine (ONE.out _ DR.out).mono ?_; rintro e w5 ⟨v', qs', x, rfl, hW, hx⟩; obtain ⟨xa, xc, rfl, _⟩ := hW.ents.empty; have HW5 := jnS hW; have HX5 := jnS hx; clear hW hx)
        | (refine (ONE.out _ AR.out).mono ?_; rintro e w5 ⟨v', qs', x, rfl, hW, hx⟩; obtain ⟨xa, xc, rfl, _⟩ := hW.ents.empty; have kk := jb ARC.out hW.below ARC.out.lt; have t0 := kk.cell 0; have t1 := kk.cell 1; have tf0 := kk.frozen 0; have tf1 := kk.frozen 1; simp only [jn0, jnZ, jnX] at t0 t1; have HW5 := jnS hW; have HX5 := jnS hx; clear hW hx kk))
      all_goals (try go_wp2_with fail)
      all_goals go_meet
      all_goals first
        | exact ⟨_, _, qs', _, rfl, rfl, rfl, jnJ HW5.out, HX5.out⟩
        | exact ⟨_, _, qs', _, rfl, rfl, rfl, jnI rfl HW5.out HQK.out (XF.out _ HX5.out) HWS.out, HX5.out⟩
    case rest =>
    obtain ⟨mb, v', qs', x, rfl, rfl, rfl, hR, hx⟩ := hcut
    obtain ⟨xa, xc, rfl, _⟩ := hR.ents.empty
    have hzx := hR.below.size
    have HBX := jnS (HBK.out.trans (hR.below.mono (by omega)))
    by_cases hb0 : st.bad = 0
    rotate_left
    . obtain ⟨p1, p2, k0', k1', k2', k3', f0', f1', p3, p4⟩ := PUT.out wc (.slice va qs.length vc) l.next (by
        have h1 := HB1.out
        exact h1.trans (HBX.out.mono h1.size))
      have AT1 := AT.out hb0
      have qn : ((st.bad : Int) == 0) = false := by simpa using hb0
      have FIN : Hid (Jv w00.heap.size w ((wc.setCell ⟨w.heap.size + 1, 0, none⟩ (.slice va qs.length vc)).setCell ⟨w.heap.size + 1, 1, none⟩ (.int .i64 l.next)) l eds (.returned (.tuple #[.agg #[.slice va qs.length vc, .int .i64 l.next], .slice none 0 0, .int .i64 (k : Nat), .int .i64 (st.bad : Nat)]))) := by
        show Jv _ _ _ _ _ _
        refine ⟨p2, .inl ⟨by rw [AT1]; exact hb0, _, qs, by rw [AT1], ENT.out wc _ (B1.out.trans (HBX.out.mono B1.out.size)) p3⟩⟩
      have P1 := jnS p1
      clear p1 p2 p3 p4 hR hx ONE XF FLD ARC OKS AT AT1 IDS LSN HQK HCBK HOWN c0' c1' c2' d0' d1' PUT ENT
      go_wp2_with fail
      refine bodyPost_ret (JR rfl _ _ (w.heap.size + 1) _ rfl P1.out rfl) rfl ?_
      exact FIN.out
    have OK1 := jnS (OKS.out hb0)
    have IDS1 := IDS.out hb0
    have cBx := jb HCBK.out hR.below HCBK.out.lt
    have m0 : wc.cell? ⟨mb, 0, none⟩ = some (.slice xa qs'.length xc) := by rw [hR.box.cell]; rfl
    have m1 : wc.cell? ⟨mb, 1, none⟩ = some (.int .i64 st.ls.next) := by rw [hR.box.cell]; rfl
    have n0 : wc.cell? ⟨w1.heap.size, 0, none⟩ = some (.slice ka qk.length kc) := by rw [cBx.cell]; rfl
    have n1 : wc.cell? ⟨w1.heap.size, 1, none⟩ = some (.int .i64 nxk) := by rw [cBx.cell]; rfl
    have g0 := cBx.frozen 0
    have g1 := cBx.frozen 1
    have hrowB : (Value.slice xa qs'.length xc).ownBlock ≠ some w1.heap.size := jh hR.ents.row cBx (by decide)
    have hflB := FLD.out wc x _ qs' hR.ents hR.mem hx
    have oB : jI (· = w1.heap.size) wc ((wc.setCell ⟨w1.heap.size, 0, none⟩ (.slice xa qs'.length xc)).setCell ⟨w1.heap.size, 1, none⟩ (.int .i64 st.ls.next)) := ((jI.refl (· = w1.heap.size) wc).cellS 0 _).cellS 1 _
    have cB3 := (cBx.set 0 (.slice xa qs'.length xc)).set 1 (.int .i64 st.ls.next)
    rw [Vo] at cB3
    have E3 : zN ((wc.setCell ⟨w1.heap.size, 0, none⟩ (.slice xa qs'.length xc)).setCell ⟨w1.heap.size, 1, none⟩ (.int .i64 st.ls.next)) (.slice xa qs'.length xc) qs' := hR.ents.only oB (fun r e q => hrowB (by rw [e, q])) (fun p hp hne r e q => by have := hflB p hp hne r e; omega)
    have ownx := jO HOWN.out hR.below (jnT _)
    have hrow2 : (Value.slice ga ids.length gc).ownBlock ≠ some w1.heap.size := jh HOWN.out HCBK.out (by decide)
    have own3 := jK ownx oB (fun r e q => hrow2 (by rw [e, q]))
    have HB3 : Below w1.heap.size w1 ((wc.setCell ⟨w1.heap.size, 0, none⟩ (.slice xa qs'.length xc)).setCell ⟨w1.heap.size, 1, none⟩ (.int .i64 st.ls.next)) := (HBX.out.setCell (p := ⟨w1.heap.size, 0, none⟩) (jnT _) _).setCell (p := ⟨w1.heap.size, 1, none⟩) (jnT _) _
    have hz3 := oB.size
    have H1 := jnS cB3
    have H2 := jnS E3
    have H3 := jnS hflB
    have H4 := jnS own3
    have H5 := jnS HB3
    have HES1 := jnS (show qs'.map Prod.fst = (zE l (eds.take (k + 1))).es by rw [LSN.out]; exact hR.es)
    have HNX1 : Hid ((zE l (eds.take (k + 1))).next = st.ls.next) := by show _ = _; rw [LSN.out]
    clear hR hx ONE XF FLD ARC OKS AT IDS LSN HQK HCBK HOWN c0' c1' c2' d0' d1' cBx hrowB hflB oB cB3 E3 ownx own3 HB3 d0 d1 hrow2
    by_cases hid : 0 < st.id
    . rw [if_pos hid] at IDS1
      have IDS1 := jnS IDS1
      have HSZ : ((wc.setCell ⟨w1.heap.size, 0, none⟩ (.slice xa qs'.length xc)).setCell ⟨w1.heap.size, 1, none⟩ (.int .i64 st.ls.next)).heap.size = wc.heap.size := by simp [World.setCell]
      have HVG2 : ∀ w3 : World, Hid (∀ (j : Nat) (u : Value), [Kb st.id][j]? = some u -> (w3.alloc (.cells #[.int .i64 st.id] 3)).cell? ((⟨w3.heap.size, 0, none⟩ : Addr).add j) = some u) := fun w3 j u h => by
        have ea : (⟨w3.heap.size, 0, none⟩ : Addr).add j = ⟨w3.heap.size, j, none⟩ := by unfold Addr.add; split <;> simp_all
        rw [ea, (jd.new w3 3 #[.int .i64 st.id]).cell j]
        simpa [Kb] using h
      have HVG : ∀ w3 : World, w3.heap.size = wc.heap.size -> Hid (∀ (j : Nat) (u : Value), [Kb st.id][j]? = some u -> (w3.alloc (.cells #[.int .i64 st.id] 3)).cell? ((⟨wc.heap.size, 0, none⟩ : Addr).add j) = some u) := fun w3 hz j u h => by
        rw [<- hz]; exact (HVG2 w3).out j u h
      have hidl2 : (ids.map Kb).length = ids.length := joi _
      go_wp2_with (at_builtin; generalize hw3 : ((wc.setCell ⟨w1.heap.size, 0, none⟩ (.slice xa qs'.length xc)).setCell ⟨w1.heap.size, 1, none⟩ (.int .i64 st.ls.next)) = w3 at H1 H2 H4 H5 hz3 HSZ ⊢; refine ju rfl _ _ 23 rfl w1.heap.size 3 i0 _ 1 8 underlying23 hi hz0 hz1 hib rfl (by decide) _ _ _ rfl (H4.out.alloc _) _ 1 1 [Kb st.id] rfl rfl (by first | exact (HVG2 w3).out | exact (HVG w3 HSZ).out) (by intro u hu; simp at hu; subst hu; rfl) (by unfold maxLen; omega) (by omega) (by simp only [joe]; omega) ?_)
      intro gv' W4 own4 grow4 at4
      have hgl : ∀ r, (Value.slice ga ids.length gc).ownBlock = some r -> w1.heap.size <= r /\ r < w3.heap.size := fun r e => H4.out.lt r e
      have hg2 : (Value.slice ga ids.length gc).ownBlock ≠ some w1.heap.size := jh H4.out H1.out (by decide)
      have o4 : jI (fun r => (Value.slice ga ids.length gc).ownBlock = some r) w3 W4 :=
        (jI.of_below (S := fun r => (Value.slice ga ids.length gc).ownBlock = some r) ((jnV _ w3).alloc (jnT _) (.cells #[.int .i64 st.id] 3)) (jnT _)).grown grow4 (fun r e => .inl e)
      have R1 : jd W4 w1.heap.size 37 #[.slice xa qs'.length xc, .int .i64 st.ls.next] := H1.out.only o4 (fun e => hg2 e)
      have R2 : zN W4 (.slice xa qs'.length xc) qs' := H2.out.only o4 (fun r e q => jX H4.out H2.out.row (by decide) r q e) (fun p hp hne r e q => by have := H3.out p hp hne r e; have := (hgl r q).1; omega)
      have R4 : W4.ownsRow w1.heap.size 3 1 gv' (za l (eds.take (k + 1))).length ((za l (eds.take (k + 1))).map Kb) := by
        rw [IDS1.out, jnU, joB]; exact own4
      have R6 : Below w1.heap.size w1 W4 := H5.out.trans (o4.to_below H5.out.size (fun r hr e => by have := (hgl r e).1; omega))
      have hsz := o4.size
      have K1 := jnS R1
      have K2 := jnS R2
      have K4 := jnS R4
      have K6 := jnS R6
      clear R1 R2 R4 R6 o4 hgl hg2 own4 grow4 at4 HVG HVG2 H1 H2 H4 H5
      go_wp2_with fail
      go_roundw
      case rel => exact ⟨k + 1, _, qs', _, rfl, hlt, by go_num, OK1.out, by rw [HNX1.out]; exact K1.out, K2.out, HES1.out, H3.out, K4.out, K6.out, by omega⟩
      case measure => simp [intOf]; omega
    rw [if_neg hid, jok] at IDS1
    have IDS1 := jnS IDS1
    have HSZ : ((wc.setCell ⟨w1.heap.size, 0, none⟩ (.slice xa qs'.length xc)).setCell ⟨w1.heap.size, 1, none⟩ (.int .i64 st.ls.next)).heap.size = wc.heap.size := by simp [World.setCell]
    go_wp2_with fail
    go_roundw
    case rel => exact ⟨k + 1, _, qs', _, rfl, hlt, by go_num, OK1.out, by rw [HNX1.out]; exact H1.out, H2.out, HES1.out, H3.out, by rw [IDS1.out]; exact H4.out, H5.out, by rw [HSZ]; omega⟩
    case measure => simp [intOf]; omega
  have hke : k = eds.length := by omega
  subst hke
  rw [jom] at hok hcB hqe hown ⊢
  have d0 : wr.cell? ⟨w1.heap.size, 0, none⟩ = some (.slice ka qk.length kc) := by rw [hcB.cell]; rfl
  have d1 : wr.cell? ⟨w1.heap.size, 1, none⟩ = some (.int .i64 (zE l eds).next) := by rw [hcB.cell]; rfl
  obtain ⟨p1, p2, k0', k1', k2', k3', f0', f1', p3, p4⟩ := PUT.out wr (.slice ka qk.length kc) (zE l eds).next (by
        have h1 := HB1.out
        exact h1.trans (hb.mono h1.size))
  have P1 := jnS p1
  have hd : doB l eds = (-9, 0) := by rw [HDO.out]; exact jg8 _ _ _ hok
  have hgb : ∀ r, (Value.slice ga (za l eds).length gc).ownBlock = some r -> w1.heap.size <= r := fun r e => (hown.lt r e).1
  have FIN : Hid (Jv w00.heap.size w ((wr.setCell ⟨w.heap.size + 1, 0, none⟩ (.slice ka qk.length kc)).setCell ⟨w.heap.size + 1, 1, none⟩ (.int .i64 (zE l eds).next)) l eds (.returned (.tuple #[.agg #[.slice ka qk.length kc, .int .i64 (zE l eds).next], .slice ga (za l eds).length gc, .int .i64 (-9), .int .i64 0]))) := by
    show Jv _ _ _ _ _ _
    refine ⟨p2, .inr ⟨hd, hok, _, qk, _, rfl, ?_, hqe, hqf, ?_, ?_⟩⟩
    . exact hqk.only p3 (fun r e q => jh hqk.row p4 (by decide) (by rw [e, q])) (fun p hp hne r e q => by have := hqf p hp hne r e; omega)
    . intro r e
      have := (hqk.row.lt r e).2
      have := p3.size
      omega
    exact jdW (jK hown p3 (fun r e q => by have := hgb r e; omega)) (by omega)
  clear p1 p2 p3 p4 PUT ENT hgb hqk hcB hown hqf hb HQ HES HOK HBA HV HDO PC
  go_wp2_with fail
  refine bodyPost_ret (JR rfl _ _ (w.heap.size + 1) _ rfl P1.out rfl) rfl ?_
  exact FIN.out
end
namespace Bk
attribute [local go_sem] jn9
theorem vH.same{t base base' c a:List UInt8}{n f:Nat}{d b:List (List UInt8)}(h:vH Dc t n base d c)(e:vH Dc t f base' b a):n=f/\base=base'/\d=b/\c=a:=by
 have g:=Hd.gen_one h.gen e.gen;subst g;have i:base=base':=by rw[<- h.isB,e.isB]
 subst i;obtain⟨j,k⟩:=Uf h.recd e.recd (.inl h.fin) (.inl e.fin);exact⟨rfl,rfl,j,k⟩
theorem jeD{t base d b:List UInt8}{n:Nat}{a:List (List UInt8)}(h:vH Dc t n base a d)(g:Fr.goodR b=true)(f:Dc b=true):vH Dc (t.take (zd n base a)++Fr.fullR b) n base (a++[b]) []:=by
 refine h.again (.inr ?_) ⟨by simp,fun c e => ?_⟩ jc2
 ·have:=jdF b [];rwa [jok]at this
 rw[List.mem_singleton.1 e];exact⟨g,f⟩
theorem jgL{b:List UInt8}{eds:List Ed}(h:Qd b=some eds):eds.length<=40/\XO eds:=by
 obtain⟨_,c,_,_⟩:=xE.1 h;obtain⟨⟨_,d⟩,e⟩:=vg c;refine⟨d,fun a j => ?_⟩;have g:=Zk (e a j)
 exact⟨by have:=g.len;omega,fun f i=>by have:=g.each f i;have:=Zj this.1;omega⟩
end Bk
section
section
variable {K:Act->World->Prop} {Q:Exit->Act->World->Prop} {o:Oper} {a:Act} {w:World}
end
end
namespace Bk
attribute [local go_sem] jn9
theorem jmO{lo:Nat}{w:World}{a:Option Addr}{n c:Nat}{d:List Value}(h:w.ownsRow lo 55 1 (.slice a n c) n d){i:Nat}{u:Value}(l:d[i]?=some u)(m:i<n):∃g b,a=some ⟨g,b,none⟩/\g<w.heap.size/\w.cell? ⟨g,b+i,none⟩=some u:=by
 rcases joQ h with ⟨e,o⟩|⟨g,f,e⟩
 ·omega
 have j:=e;injection j with k;rw[e]at h;refine⟨g,0,k,(joV h g rfl).2,?_⟩;rw[jov,job h i (by omega)];exact l
end Bk
namespace Rp
open Bk
theorem jbo:∀(a:List Ed),a.length<=(jo a).length
 | []=>jn3 _
 | b::r=>by
  have d:=jbo r;have e:jo (b::r)=edT b++jo r:=by unfold jo zl edT jp;rw[joc,jow]
  have c:1<=(edT b).length:=by unfold edT jg4 jp;rw[joc];simp;omega
  rw[e,jnU,jn1];omega
theorem jab:∀a:List (List UInt8),(jp a).length<=(jp (a.map yp)).length
 | []=>jnT _
 | l::r=>by
  have d:=jab r;have b:jp (l::r)=(l++[10])++jp r:=by unfold jp;rw[joc]
  have c:jp ((l::r).map yp)=(yp l++[10])++jp (r.map yp):=by unfold jp;rw[joy,joc]
  rw[b,c];simp only[yp,jnU,jn1];omega
theorem jmH:∀{b:List Ed} {c:Ed},c∈b->(edT c).length<=(jo b).length
 | [],_,h=>by cases h
 | a::r,c,h=>by
  have e:jo (a::r)=edT a++jo r:=by unfold jo zl edT jp;rw[joc,jow]
  rw[e,jnU];rcases List.mem_cons.1 h with rfl|h
  ·omega
  have:=jmH h;omega
theorem jbd{b:List UInt8}(h:Dc b=true):(yS b).length<=51/\XO (yS b)/\jbu (yS b)/\(yS b).length<=b.length:=by
 unfold Dc at h;unfold yS;cases d:Qd b with
 | none=>rw[d]at h;cases h
 | some c =>
 obtain⟨j,f⟩:=jgL d;obtain⟨k,_,_,g⟩:=xE.1 d;refine⟨jop j (by decide),f,fun a i => ?_,?_⟩
 ·have a1:(edT a).length<=(jo c).length:=jmH i;have a2:(jM a.fields).length<=(edT a).length:=by
   rw[jcb];have:=jab (jD a.fields)
   have e:edT a=(zg a.kind a.id++[10])++jp ((jD a.fields).map yp):=by unfold edT jg4 jp;rw[joc]
   rw[e,jnU];omega
  have:=(f a i).len;rw[g]at a1;exact⟨by omega,by omega⟩
 show c.length<=b.length;have:=jbo c
 rw[g]at this;exact this
theorem jln(b:List UInt8):b.length<=(Fr.fullR b).length:=by unfold Fr.fullR Fr.recR;rw[jnU,jn1,jnU];omega
def zH(bds:List (List UInt8)):List (List Ed):=bds.map yS
theorem JI(a:List (List UInt8)):(zH a).length=a.length:=joi _
theorem jdG:∀(a:List (List UInt8)),(∀b∈a,Dc b=true)->xL (zH a)<=(a.flatMap Fr.fullR).length
 | [],_=>jn3 _
 | b::r,h=>by
  have f:=jdG r (fun x hx=>h x (jn4 _ hx));have c:=(jbd (h b jn5)).2.2.2
  have d:=jln b;have e:xL (zH (b::r))=(yS b).length+xL (zH r):=rfl
  rw[e,joc,jnU];omega
theorem jht{a:List (List UInt8)}(h:∀b∈a,Dc b=true):jfd (zH a):=fun x hx=>by obtain⟨b,f,rfl⟩:=List.mem_map.1 hx;obtain⟨c,d,e,_⟩:=jbd (h b f);exact⟨c,d,e⟩
theorem jcp{lo:Nat}{w:World}{m:Value}{a:List (List UInt8)}{o:List Value}(h:XR lo w m a o):BtV w m (zH a):=by
 obtain⟨A,c,rfl,k⟩:=je h.row;refine⟨A,c,by rw[JI],by rw[JI];exact k,fun i b d => ?_⟩;unfold zH at d;rw[joI]at d;cases j:a[i]? with
 | none=>rw[j]at d;cases d
 | some x =>
 rw[j]at d;obtain rfl:yS x=b:=jnY d;have f:=(List.getElem?_eq_some_iff.1 j).1
 obtain⟨u,n⟩:∃u,o[i]?=some u:=⟨_,jnW (by rw[h.len];exact f)⟩
 obtain⟨g,l,e,r,q⟩:=jmO h.row n f;obtain⟨p,s⟩:=h.each i x u j n;exact⟨g,l,u,e,r,q,s.edv⟩
theorem Ks{t base c:List UInt8}{n:Nat}{a:List (List UInt8)}(h:vH Dc t n base a c):jfd (zH a)/\base.length+xL (zH a)<=t.length/\a.length<=t.length:=by
 have d:∀b∈a,Dc b=true:=fun b f=>(h.recd.good b f).2;have g:=jdG a d
 have e:=h.parts.len;have i:=XH a
 unfold zd at e;exact⟨jht d,by omega,by omega⟩
end Rp
namespace Rp
open Bk
attribute [local go_sem] jn9
def Kj(w w':World)(s:List UInt8)(bs:List (List Ed))(p u:Value):Prop:=Below w.heap.size w w' /\
  ((∃a n,jv s=.error (a,n)/\p=.pointer none/\jz w.heap.size w' u a n) \/
   (∃its i,jv s=.ok its/\vj (jQ its) bs i/\p=.pointer none/\jz w.heap.size w' u i 10) \/
   (∃its k lb ev ps,jv s=.ok its/\qq (jQ its) bs=some k/\p=ptr lb/\u=.nilIface/\zS w.heap.size w' lb ev ps k (s.length+xL bs)))
theorem jbk{lo a:Nat}{w:World}{lb:Nat}{c:Value}{d:List Pr}{l:LS}{m:Nat}(h:zS lo w lb c d l m)(hl:a<=lo):zS a w lb c d l m :=
 ⟨h.la,h.es,h.ok,h.sz,jop hl h.lb0,fun b e=>jop hl (h.ev0 b e),h.len,h.nx⟩
theorem Kj.low{w o w':World}{s:List UInt8}{l:List (List Ed)}{p u:Value}(h:Kj o w' s l p u)(m:Below w.heap.size w o):Kj w w' s l p u:=by
 obtain⟨b,h⟩:=h;have g:=m.size
 refine⟨m.trans (b.mono g),?_⟩;rcases h with ⟨a,n,d,e,f⟩|⟨c,i,d,e,f,j⟩|⟨c,k,t,q,v,d,e,f,j,r⟩
 ·exact .inl ⟨a,n,d,e,f.mono g⟩
 ·exact .inr (.inl ⟨c,i,d,e,f,j.mono g⟩)
 exact .inr (.inr ⟨c,k,t,q,v,d,e,f,j,jbk r g⟩)
theorem Kj.form{w w':World}{s:List UInt8}{c:List (List Ed)}{p u:Value}(h:Kj w w' s c p u):(∃q:Option Addr,p=.pointer q)/\(u=.nilIface\/∃q,u=.iface 87 (.pointer (some ⟨q,0,none⟩))):=by
 obtain⟨_,⟨a,n,_,rfl,q,_,rfl,_⟩|⟨b,i,_,_,rfl,q,_,rfl,_⟩|⟨b,k,e,d,f,_,_,rfl,rfl,_⟩⟩:=h
 ·exact⟨⟨_,rfl⟩,.inr ⟨q,rfl⟩⟩
 ·exact⟨⟨_,rfl⟩,.inr ⟨q,rfl⟩⟩
 exact⟨⟨_,rfl⟩,.inl rfl⟩
theorem jdJ.beh{w w':World}{s:List UInt8}{j:List (List Ed)}{e:Ending}(h:jdJ w w' s j e):∃(p:Value) (n:Int) (a:Option Addr) (m c:Nat) (u:Value),e=.returned (.tuple #[.agg #[p,.int .i64 n,.slice a m c],u])/\Kj w w' s j p u:=by
 obtain⟨b,⟨a,n,u,f,rfl,o⟩|⟨d,i,u,f,g,rfl,q⟩|⟨d,k,v,l,x,A,C,f,g,rfl,r,t⟩⟩:=h
 ·exact⟨_,_,_,_,_,_,rfl,b,.inl ⟨a,n,f,rfl,o⟩⟩
 ·exact⟨_,_,_,_,_,_,rfl,b,.inr (.inl ⟨d,i,f,g,rfl,q⟩)⟩
 obtain⟨y,z,rfl,_⟩:=je t.row;exact⟨_,_,_,_,_,_,rfl,b,.inr (.inr ⟨d,k,v,l,x,f,g,rfl,rfl,r⟩)⟩
theorem Kj.only{w K w' j:World}{s:List UInt8}{J:List (List Ed)}{p u:Value}{b:Nat}{T:TypeId}{l:Array Value}(h:Kj K w' s J p u)(o:jI (· = b) w' j)(t:jd w' b T l)(Q:∀x∈l,∀s,x ≠ .string s)(N:T≠90)(C:T≠98)(D:109≠T)(O:Below w.heap.size w K)(W:w.heap.size<=b):Kj w j s J p u:=by
 obtain⟨I,h⟩:=h.low O;refine⟨I.trans (o.to_below I.size (fun r V e=>by omega)),?_⟩;have H:∀{a n:Nat},jz w.heap.size w' u a n->jz w.heap.size j u a n:=fun P=>by
  obtain⟨q,d,f,c⟩:=P;refine⟨q,d,f,c.only o (fun e => ?_)⟩;subst e;have v:=t.symm.trans c
  injection v with y;injection y with _ z;exact N z
 rcases h with ⟨a,n,d,f,c⟩|⟨g,i,d,f,c,A⟩|⟨g,k,R,L,U,d,f,c,A,m⟩
 ·exact .inl ⟨a,n,d,f,H c⟩
 ·exact .inr (.inl ⟨g,i,d,f,c,H A⟩)
 refine .inr (.inr ⟨g,k,R,L,U,d,f,c,A,m.only o ?_⟩);rintro r (rfl|h|h|⟨p,G,E,h⟩|⟨p,G,_⟩) e
 ·subst e;have v:=t.symm.trans m.la.lr.head
  injection v with y;injection y with _ z;exact C z
 ·exact jh m.la.lr.ents.row t D (by rw[h,e])
 ·cases h
 ·exact Gb (m.la.lr.ents.each p G).1 E (by rw[h,e]) t Q
 cases G
theorem Kj.grow{w w' g:World}{s:List UInt8}{o:List (List Ed)}{p u:Value}(h:Kj w w' s o p u)(l:Below w'.heap.size w' g):Kj w g s o p u:=by
 obtain⟨b,h⟩:=h;have m:∀{a n:Nat},jz w.heap.size w' u a n->jz w.heap.size g u a n:=fun v=>by obtain⟨q,d,e,c⟩:=v;exact⟨q,d,e,jb c l c.lt⟩
 refine⟨b.trans (l.mono b.size),?_⟩;rcases h with ⟨a,n,d,e,c⟩|⟨f,i,d,e,c,j⟩|⟨f,k,x,r,y,d,e,c,j,t⟩
 ·exact .inl ⟨a,n,d,e,m c⟩
 ·exact .inr (.inl ⟨f,i,d,e,c,m j⟩)
 exact .inr (.inr ⟨f,k,x,r,y,d,e,c,j,t.below l (jnT _)⟩)
theorem jnK{w a W d:World}{s:List UInt8}{b:List (List Ed)}{p u:Value}{o:Obj}(c:Below w.heap.size w a)(e:Below a.heap.size a W)(h:Kj W d s b p u):Kj w (d.alloc o) s b p u :=
 (h.low (c.trans (e.mono c.size))).grow ((jnV _ _).alloc (jnT _) _)
theorem jnD{w a W b:World}{s:List UInt8}{d:List (List Ed)}{p u i v:Value}(c:Below w.heap.size w a)(j:Below a.heap.size a W)(h:Kj W b s d p u)(e:jd b a.heap.size 83 #[.pointer none,.int .i64 0,.slice none 0 0]):
  Kj w (((b.setCell ⟨a.heap.size,0,none⟩ p).setCell ⟨a.heap.size,1,none⟩ i).setCell ⟨a.heap.size,2,none⟩ v) s d p u/\jd (((b.setCell ⟨a.heap.size,0,none⟩ p).setCell ⟨a.heap.size,1,none⟩ i).setCell ⟨a.heap.size,2,none⟩ v) a.heap.size 83 #[p,i,v]:=by
 obtain⟨f,g⟩:=jm0 e p i v;exact⟨h.only g e (by intro x hx s;simp at hx;rcases hx with rfl | rfl | rfl<;>exact fun h=>by cases h) (by decide) (by decide) (by decide) (c.trans (j.mono c.size)) c.size,f⟩
theorem JH(k:Int)(s:List UInt8)(a:List (List Ed))(A:Option Addr)(c:Nat)(E:Option Addr)(H G:Nat)(L:ByteArray)(n:Nat)(hn:n<=a.length)(w:World)(hs:s.length+xL a<=5000)(hl:a.length<=100000)(J:BtV w (.slice A a.length c) a)(U:jfd a)(X:ErrT w):
  Calls prog 21 #[JK k s A a.length c E H G L,.int .i64 (n:Nat)] w fun e N=>∃p u,e=.returned (.tuple #[p,u])/\Kj w N s (a.take n) p u:=by
 obtain⟨f,g⟩:∃z,w.alloc (.cells #[.int .i64 k,.string (B s),.slice A a.length c,.slice E H G,.string L] 28)=z:=⟨_,rfl⟩
 have y:Below w.heap.size w f:=by rw[<- g];exact(jnV _ w).alloc (jnT _) _
 have t:jd f w.heap.size 28 #[.int .i64 k,.string (B s),.slice A a.length c,.slice E H G,.string L]:=by rw[<- g];exact jd.new _ _ _
 have V:a.length<=c:=by obtain⟨_,_,e',hc,_⟩:=J;injection e' with _ _ e3;omega
 have I:=Yw a n;have Q:Hid (∀W,Below f.heap.size f W->Calls prog 37 #[.string (B s),.slice A n c] W fun e N=>jdJ W N s (a.take n) e):=fun W hW=>by have b:=y.trans (hW.mono y.size);exact Yc s (a.take n) _ W (by omega) (by rw[jn2];omega) (BtV.take (J.below b (jnT _)) hn) (U.take n) (X.below b (jnT _))
 have d1:decide (((a.length:Nat):Int)<(n:Int))=false:=by simp;omega
 have q1:¬((n:Int)<0):=by omega
 have q2:¬((a.length:Int)<(n:Int)):=by omega
 have q3:(n:Int)<=(c:Int):=by omega
 have k1:=t.cell 1;have k2:=t.cell 2
 simp only[jn0,jnZ,jnX]at k1 k2;have j:=jnS y
 have D:=jnS g;have m:=jnS t
 clear J U X y t g I;unfold JK;go_enter func21,ntmps21;go_upto_region 3 with fail;rw[D.out];have O:Hid (Below f.heap.size f f.drew):=(jnV _ _).drew
 have C:Hid (Below f.heap.size f (f.alloc (.cells #[.pointer none,.int .i64 0,.slice none 0 0] 83)).drew):=((jnV _ _).alloc (jnT _) _).drew;have l:=jnS (show jd (f.alloc (.cells #[.pointer none,.int .i64 0,.slice none 0 0] 83)).drew f.heap.size 83 #[.pointer none,.int .i64 0,.slice none 0 0] from(jd.new _ _ _).drew)
 have a7:∀o,(f.alloc o).cell? ⟨w.heap.size,1,none⟩=some (.string (B s)):=fun o=>((m.out.alloc o).cell 1).trans rfl;have a8:∀o,(f.alloc o).cell? ⟨w.heap.size,2,none⟩=some (.slice A a.length c):=fun o=>((m.out.alloc o).cell 2).trans rfl
 go_cut [6,7] (fun c d Y=>∃K q i v,c=.pointer (some ⟨K,0,none⟩)/\Kj w Y s (a.take n) (.pointer q) d/\jd Y K 83 #[.pointer q,i,v])
 case first =>
  go_region_law (go_simp;go_at_call 37;first
   | (refine(Q.out _ O.out).mono ?_;rintro e w5 r;obtain⟨p5,nx,a5,m5,c5,u5,rfl,b⟩:=r.beh;obtain⟨⟨q5,rfl⟩,_⟩:=b.form;have x:=jnS b;clear r b)
   | (refine(Q.out _ C.out).mono ?_;rintro e w5 r;obtain⟨p5,nx,a5,m5,c5,u5,rfl,b⟩:=r.beh;obtain⟨⟨q5,rfl⟩,_⟩:=b.form;have h:=jb l.out b.1 l.out.lt;have t0:=h.cell 0;have t1:=h.cell 1;have t2:=h.cell 2;have aa:=h.frozen 0;have ae:=h.frozen 1;have af:=h.frozen 2;simp only[jn0,jnZ,jnX]at t0 t1 t2;have P:=jnS h;have x:=jnS b;clear r b h))
  all_goals (try go_wp2_with fail)
  all_goals go_meet
  all_goals first
   | exact⟨_,_,_,_,rfl,jnK j.out O.out x.out,jd.new _ _ _⟩
   | exact⟨_,_,_,_,rfl,(jnD j.out C.out x.out P.out).1,(jnD j.out C.out x.out P.out).2⟩
 case rest =>
 obtain⟨K,q,i,v,rfl,b,R⟩:=hcut;have c0:=R.cell 0
 simp only[jn0,jnZ]at c0;have Z:=jnS b
 clear b R;go_wp2_with fail;go_ret2;exact⟨_,_,rfl,Z.out⟩
theorem jc4(b:Int)(s:List UInt8)(a:List (List Ed))(A:Option Addr)(c:Nat)(j:Option Addr)(l k:Nat)(m:ByteArray)(w:World)(C:s.length+xL a<=5000)(hl:a.length<=100000)(x:BtV w (.slice A a.length c) a)(t:jfd a)(v:ErrT w):
  Calls prog 9 #[JK b s A a.length c j l k m] w fun e J=>∃p u,e=.returned (.tuple #[p,u])/\Kj w J s a p u:=by
 obtain⟨q,d⟩:∃z,w.alloc (.cells #[.int .i64 b,.string (B s),.slice A a.length c,.slice j l k,.string m] 28)=z:=⟨_,rfl⟩
 have i:Below w.heap.size w q:=by rw[<- d];exact(jnV _ w).alloc (jnT _) _
 have f:jd q w.heap.size 28 #[.int .i64 b,.string (B s),.slice A a.length c,.slice j l k,.string m]:=by rw[<- d];exact jd.new _ _ _
 have h:=JH b s a A c j l k m a.length (jnT _) q C hl (x.below i (jnT _)) t (v.below i (jnT _));rw[jom]at h;unfold JK at h;have g:=jnS h
 have D:=f.cell 0;have E:=f.cell 1
 have G:=f.cell 2;have H:=f.cell 3
 have I:=f.cell 4;simp only[jn0,jnZ,jnX]at D E G H I;have n:=jnS i
 have o:=jnS d;clear x t v i f d h;unfold JK;go_enter func9,ntmps9;go_wp2_with fail;rw[o.out];refine g.out.mono ?_;rintro e K ⟨p,u,rfl,r⟩;have y:=jnS (r.low n.out)
 clear r g;go_wp2_with fail;go_ret2;exact⟨_,_,rfl,y.out⟩
end Rp
end Go.Proofs.YtbapfpekklcicaaGreatDoor
