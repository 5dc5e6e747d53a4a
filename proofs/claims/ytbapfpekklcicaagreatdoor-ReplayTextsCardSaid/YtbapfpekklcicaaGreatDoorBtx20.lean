/- Texts put together:HB,QC. -/
import Derived.Test.YtbapfpekklcicaaGreatDoorBtx19
set_option linter.unusedVariables false
set_option maxRecDepth 100000
set_option maxHeartbeats 16000000
namespace Go.Proofs.YtbapfpekklcicaaGreatDoor
open Go.RowKit Go.Shelf Tryz
section
attribute [local go_sem] joY
structure job(wr wx:World)(mb:Nat)(v x v':Value)(qs qs':List Pr)(es:List En)(nx':Int):Prop where
 box:ja wx mb 37 #[v',.int .i64 nx']
 ents:zK wx v' qs'
 es:qs'.map Prod.fst=es
 mem:∀p∈qs',p∈qs\/p.2=x
 below:Below wr.heap.size wr wx
 lo:wr.heap.size<=mb
theorem joz{wr a:World}{v x c:Value}{f b:List Pr}{es:List En}{nx':Int}(h:WrQ wr.drew v f x es a c b):job wr (a.alloc (.cells #[c,.int .i64 nx'] 37)) a.heap.size v x c f b es nx':=by
 have e:Below a.heap.size a (a.alloc (.cells #[c,.int .i64 nx'] 37)):=(joL _ _).alloc (joJ _) _;have d:Below wr.heap.size wr a:=((joL wr.heap.size wr).drew).trans h.below
 exact⟨ja.new _ _ _,h.ents.below e (joJ _),h.es,h.mem,d.trans (e.mono d.size),d.size⟩
theorem joy{wr b:World}{v x j:Value}{m i:List Pr}{es:List En}{nx':Int}{z:Array Value}(D:z=#[.slice none 0 0,.int .i64 0])(h:WrQ (wr.alloc (.cells z 37)).drew v m x es b j i)(t:zK wr v m)(hx:∃l,vP wr x l)(a:(wr.alloc (.cells z 37)).drew.heap.size=wr.heap.size+1):
  job wr ((b.setCell ⟨wr.heap.size,0,none⟩ j).setCell ⟨wr.heap.size,1,none⟩ (.int .i64 nx')) wr.heap.size v x j m i es nx':=by
 subst D;have y:Below wr.heap.size wr b:=(((joL wr.heap.size wr).alloc (joJ _) _).drew).trans (h.below.mono (by rw[a];omega))
 have f:ja b wr.heap.size 37 #[.slice none 0 0,.int .i64 0]:=jb (show ja (wr.alloc (.cells #[.slice none 0 0,.int .i64 0] 37)).drew wr.heap.size 37 _ from(ja.new _ _ _).drew) h.below (by rw[a];omega);have d:=(f.set 0 j).set 1 (.int .i64 nx')
 rw[Qs]at d;have E:jH (· = wr.heap.size) b ((b.setCell ⟨wr.heap.size,0,none⟩ j).setCell ⟨wr.heap.size,1,none⟩ (.int .i64 nx')):=((jH.refl (· = wr.heap.size) b).cellS 0 _).cellS 1 _
 obtain⟨l,hx⟩:=hx;refine⟨d,h.ents.only E (fun r e q => ?_) (fun p s g r e q => ?_),h.es,h.mem,(y.setCell (p:=⟨wr.heap.size,0,none⟩) (joJ _) _).setCell (p:=⟨wr.heap.size,1,none⟩) (joJ _) _,joJ _⟩
 ·rcases h.blk with k|k
  ·rw[k]at e;have:=(t.row.lt r e).2;omega
  have:=k r e;rw[a]at this;omega
 rcases h.mem p s with k|k
 ·have:=(t.each p k).lt g r e;omega
 have C:l≠[]:=by intro u;obtain⟨A,c,n,_⟩:=h.ents.each p s;obtain⟨G,H,w,_⟩:=hx;rw[k,w]at n;injection n with _ o _;rw[u]at o;exact g (List.length_eq_zero_iff.1 o.symm)
 rw[k]at e;have:=hx.lt C r e;omega
theorem jem{W:World}{base base':Nat}{e:TypeId}{size:Nat}{v:Value}{n:Nat}{xs:List Value}(h:W.ownsRow base e size v n xs)(d:base'<=base):W.ownsRow base' e size v n xs:=by
 refine⟨h.1,?_⟩;rcases h.2 with i|⟨g,b,c,j,f,a⟩
 ·exact .inl i
 exact .inr ⟨g,b,c,j,jpg d f,a⟩
def JE(n0:Nat)(w w':World)(l:LS)(eds:List Ed)(e:Ending):Prop :=
 Below w.heap.size w w' /\
 (((doB l eds).2≠0/\∃v qs,e=.returned (.tuple #[.agg #[v,.int .i64 l.next],.slice none 0 0,.int .i64 (doB l eds).1,.int .i64 ((doB l eds).2:Nat)])/\zK w' v qs) \/
 (doB l eds=(-9,0)/\Wc l eds/\∃v qs gv,e=.returned (.tuple #[.agg #[v,.int .i64 (zH l eds).next],gv,.int .i64 (-9),.int .i64 0])/\zK w' v qs/\qs.map Prod.fst=(zH l eds).es/\(∀p∈qs,p.1.1.fields≠[]->∀b,p.2.ownBlock=some b->b<n0)/\(∀b,v.ownBlock=some b->b<w'.heap.size)/\w'.ownsRow w.heap.size 3 1 gv (zc l eds).length ((zc l eds).map Kr)))
theorem jgh (qs : List Pr) (v bv : Value) (l : LS) (eds : List Ed) (w00 w : World) (hb00 : Below w00.heap.size w00 w) (h : zK w v qs) (hqf0 : ∀ p ∈ qs, p.1.1.fields ≠ [] -> ∀ b, p.2.ownBlock = some b -> b < w00.heap.size) (hes : qs.map Prod.fst = l.es) (ok : OkL l) (hl : l.es.length <= 5000) (hn : l.next <= 5001) (hv : EdV w00 bv eds) (h51 : eds.length <= 51) (hf : Kd eds) :
    Calls prog 36 #[.agg #[v, .int .i64 l.next], bv] w fun e w' => JE w00.heap.size w w' l eds e := by
  have HQ0 := joI hqf0
  have HB00 := joI hb00
  clear hqf0
  have hz00 := hb00.size
  obtain ⟨i0, hi, hz0, hz1, hib⟩ := info_parts jdD
  obtain ⟨va, vc, rfl, _⟩ := h.empty
  obtain ⟨wa, hwa⟩ : ∃ wa, wa = (w.alloc (.cells #[.slice va qs.length vc, .int .i64 l.next] 37)).alloc (.cells #[.slice none 0 0, .int .i64 0] 37) := ⟨_, rfl⟩
  have hba : Below w.heap.size w wa := by rw [hwa]; exact ((joL _ w).alloc (joJ _) _).alloc (by simp) _
  have hza : wa.heap.size = w.heap.size + 2 := by rw [hwa]; simp
  have c2 : ja wa w.heap.size 37 #[.slice va qs.length vc, .int .i64 l.next] := by rw [hwa]; exact (ja.new _ _ _).alloc _
  have c4 : ja wa (w.heap.size + 1) 37 #[.slice none 0 0, .int .i64 0] := by
    rw [hwa]
    have := ja.new (w.alloc (.cells #[.slice va qs.length vc, .int .i64 l.next] 37)) 37 #[.slice none 0 0, .int .i64 0]
    simp only [joZ] at this
    exact this
  have CK := joI (Uw eds bv wa ((hv.below hb00 (joJ _)).below hba (joJ _)) (by omega) hf)
  obtain ⟨ba, bc, rfl, hble, hbcs⟩ := _root_.id hv
  have PUT : Hid (∀ (W : World) (u : Value) (n : Int), Below wa.heap.size wa W -> ja ((W.setCell ⟨w.heap.size + 1, 0, none⟩ u).setCell ⟨w.heap.size + 1, 1, none⟩ (.int .i64 n)) (w.heap.size + 1) 37 #[u, .int .i64 n] /\ Below w.heap.size w ((W.setCell ⟨w.heap.size + 1, 0, none⟩ u).setCell ⟨w.heap.size + 1, 1, none⟩ (.int .i64 n)) /\
      W.cell? ⟨w.heap.size, 0, none⟩ = some (.slice va qs.length vc) /\ W.cell? ⟨w.heap.size, 1, none⟩ = some (.int .i64 l.next) /\ W.cell? ⟨w.heap.size + 1, 0, none⟩ = some (.slice none 0 0) /\ W.cell? ⟨w.heap.size + 1, 1, none⟩ = some (.int .i64 0) /\ W.frozen? ⟨w.heap.size + 1, 0, none⟩ = false /\ W.frozen? ⟨w.heap.size + 1, 1, none⟩ = false /\ jH (· = w.heap.size + 1) W ((W.setCell ⟨w.heap.size + 1, 0, none⟩ u).setCell ⟨w.heap.size + 1, 1, none⟩ (.int .i64 n)) /\ ja W (w.heap.size + 1) 37 #[.slice none 0 0, .int .i64 0]) := by
    intro W u n hW
    have k4 := jb c4 hW (by omega)
    have k2 := jb c2 hW (by omega)
    have hB := hba.trans (hW.mono hba.size)
    have h3 := (k4.set 0 u).set 1 (.int .i64 n)
    rw [Qs] at h3
    exact ⟨h3, (hB.setCell (p := ⟨w.heap.size + 1, 0, none⟩) (by show w.heap.size <= w.heap.size + 1; omega) _).setCell (p := ⟨w.heap.size + 1, 1, none⟩) (by show w.heap.size <= w.heap.size + 1; omega) _, by rw [k2.cell]; rfl, by rw [k2.cell]; rfl, by rw [k4.cell]; rfl, by rw [k4.cell]; rfl, k4.frozen 0, k4.frozen 1, ((jH.refl (· = w.heap.size + 1) W).cellS 0 u).cellS 1 _, k4⟩
  have ENT : Hid (∀ (W W' : World), Below w.heap.size w W -> jH (· = w.heap.size + 1) W W' -> zK W' (.slice va qs.length vc) qs) := fun W W' hW ho =>
    (h.below hW (joJ _)).only ho (fun r e q => by have := (h.row.lt r e).2; omega) (fun p hp hne r e q => by have := (h.each p hp).lt hne r e; omega)
  have PC := joI hbcs
  have HF := joI hf
  have HQ := joI h
  have HES := joI hes
  have HOK := joI ok
  have HBA := joI hba
  have HV := joI hv
  clear hbcs hf h hes ok hba c2 c4 hv hb00
  subst hwa
  go_enter func36, ntmps36
  go_wp2_with fail
  refine CK.out.mono ?_
  rintro e w1 ⟨rfl, b1⟩
  have B1 := joI (HBA.out.trans (b1.mono HBA.out.size))
  have HB1 := joI b1
  by_cases hc0 : (qw eds).2 = 0
  rotate_left
  . have hdo : doB l eds = qw eds := by unfold doB; rw [if_neg hc0]
    obtain ⟨p1, p2, k0, k1, k2, k3, f0, f1, p3, p4⟩ := PUT.out w1 (.slice va qs.length vc) l.next b1
    have hne : ((qw eds).2 : Int) ≠ 0 := by omega
    have qn : (((qw eds).2 : Int) == 0) = false := by simpa using hc0
    have P1 := joI p1
    have FIN : Hid (JE w00.heap.size w ((w1.setCell ⟨w.heap.size + 1, 0, none⟩ (.slice va qs.length vc)).setCell ⟨w.heap.size + 1, 1, none⟩ (.int .i64 l.next)) l eds (.returned (.tuple #[.agg #[.slice va qs.length vc, .int .i64 l.next], .slice none 0 0, .int .i64 (qw eds).1, .int .i64 ((qw eds).2 : Nat)]))) := by
      show JE _ _ _ _ _ _
      refine ⟨p2, .inl ⟨by rw [hdo]; exact hc0, _, qs, by rw [hdo], ENT.out w1 _ B1.out p3⟩⟩
    clear p1 p2 p3 p4 PUT ENT PC HF HQ HES HOK HBA HV hdo CK b1 HB1
    generalize (qw eds).1 = ca at *
    generalize (qw eds).2 = cn at *
    go_wp2_with fail
    refine bodyPost_ret (JX rfl _ _ (w.heap.size + 1) _ rfl P1.out rfl) rfl ?_
    exact FIN.out
  have hcz := jbw hc0
  have HDO := joI (show doB l eds = jhK 0 l eds by unfold doB; rw [hcz]; rfl)
  have GOOD := joI (vm hc0).2
  rw [hcz]
  have hw1 : w.heap.size + 2 <= w1.heap.size := by have := b1.size; omega
  obtain ⟨w2, hw2⟩ : ∃ w2, w2 = w1.alloc (.cells #[.slice va qs.length vc, .int .i64 l.next] 37) := ⟨_, rfl⟩
  have hb2 : Below w1.heap.size w1 w2 := by rw [hw2]; exact (joL _ w1).alloc (joJ _) _
  have hz2 : w2.heap.size = w1.heap.size + 1 := by rw [hw2]; simp
  have cB2 : ja w2 w1.heap.size 37 #[.slice va qs.length vc, .int .i64 l.next] := by rw [hw2]; exact ja.new _ _ _
  have HCB2 := joI cB2
  have HB2 := joI hb2
  obtain ⟨_, _, k0, k1, _, _, _, _, _⟩ := PUT.out w1 (.slice va qs.length vc) l.next b1
  clear b1 hcz hc0 cB2 hb2 CK
  subst hw2
  go_wp2_with fail
  go_loopw [11, 12] (fun gx i wr => ∃ (k : Nat) (vk : Value) (qk : List Pr) (gv : Value), gv = gx /\ k <= eds.length /\ i = .int .i64 k /\ Wc l (eds.take k) /\ ja wr w1.heap.size 37 #[vk, .int .i64 (zH l (eds.take k)).next] /\ zK wr vk qk /\ qk.map Prod.fst = (zH l (eds.take k)).es /\
    (∀ p ∈ qk, p.1.1.fields ≠ [] -> ∀ b, p.2.ownBlock = some b -> b < w00.heap.size) /\ wr.ownsRow w1.heap.size 3 1 gv (zc l (eds.take k)).length ((zc l (eds.take k)).map Kr) /\ Below w1.heap.size w1 wr /\ w1.heap.size < wr.heap.size) (fun _ i _ => eds.length - (intOf i).toNat)
  case atStart =>
    refine ⟨0, _, qs, .slice none 0 0, rfl, joT _, rfl, trivial, HCB2.out, ?_, HES.out, ?_, ⟨rfl, .inl ⟨rfl, rfl⟩⟩, HB2.out, by omega⟩
    . exact HQ.out.below (B1.out.trans (HB2.out.mono B1.out.size)) (joJ _)
    intro p hp hne b e
    exact HQ0.out p hp hne b e
  case round =>
  obtain ⟨k, vk, qk, gv, rfl, hk, rfl, hok, hcB, hqk, hqe, hqf, hown, hb, hwr⟩ := hrel
  have hBw : Below w.heap.size w wr := B1.out.trans (hb.mono B1.out.size)
  obtain ⟨ga, gc, rfl, _⟩ : ∃ A c, gv = .slice A (zc l (eds.take k)).length c /\ _ := je hown
  obtain ⟨ka, kc, rfl, _⟩ := hqk.empty
  by_cases hlt : k < eds.length
  . obtain ⟨ed, hed⟩ : ∃ ed, eds[k]? = some ed := ⟨_, joM hlt⟩
    obtain ⟨b, off, fv, rfl, hbb, c0, c1, c2, hfl⟩ := PC.out k ed hed
    obtain ⟨fa, fc, rfl⟩ := hfl.form
    have hmem := joW hed
    have hBw0 : Below w00.heap.size w00 wr := HB00.out.trans (hBw.mono HB00.out.size)
    replace c0 := (hBw0.cell (p := ⟨b, off + k * 3, none⟩) hbb).trans c0
    replace c1 := (hBw0.cell (p := ⟨b, off + k * 3 + 1, none⟩) hbb).trans c1
    replace c2 := (hBw0.cell (p := ⟨b, off + k * 3 + 1 + 1, none⟩) hbb).trans c2
    have c0' : ∀ o, (wr.alloc o).cell? ⟨b, off + k * 3, none⟩ = some (.int .i64 ed.kind) := fun o => by rw [jqh _ _ ⟨b, off + k * 3, none⟩ (by show b < _; omega)]; exact c0
    have c1' : ∀ o, (wr.alloc o).cell? ⟨b, off + k * 3 + 1, none⟩ = some (.int .i64 ed.id) := fun o => by rw [jqh _ _ ⟨b, off + k * 3 + 1, none⟩ (by show b < _; omega)]; exact c1
    have c2' : ∀ o, (wr.alloc o).cell? ⟨b, off + k * 3 + 1 + 1, none⟩ = some (.slice fa ed.fields.length fc) := fun o => by rw [jqh _ _ ⟨b, off + k * 3 + 1 + 1, none⟩ (by show b < _; omega)]; exact c2
    have d0 : wr.cell? ⟨w1.heap.size, 0, none⟩ = some (.slice ka qk.length kc) := by rw [hcB.cell]; rfl
    have d1 : wr.cell? ⟨w1.heap.size, 1, none⟩ = some (.int .i64 (zH l (eds.take k)).next) := by rw [hcB.cell]; rfl
    have d0' : ∀ o, (wr.alloc o).cell? ⟨w1.heap.size, 0, none⟩ = some (.slice ka qk.length kc) := fun o => by rw [(hcB.alloc o).cell]; rfl
    have d1' : ∀ o, (wr.alloc o).cell? ⟨w1.heap.size, 1, none⟩ = some (.int .i64 (zH l (eds.take k)).next) := fun o => by rw [(hcB.alloc o).cell]; rfl
    have hokl := HOK.out.on (eds.take k)
    obtain ⟨ol1, ol2, ol3⟩ := jkD l (eds.take k)
    have htk : (eds.take k).length = k := jc3 hed
    have hpos := hokl.pos
    have hql : qk.length <= 5100 := by
      have : qk.length = (zH l (eds.take k)).es.length := by rw [<- hqe, jo8]
      omega
    have ONE : Hid (∀ W, Below wr.heap.size wr W -> Calls prog 68 #[.agg #[.slice ka qk.length kc, .int .i64 (zH l (eds.take k)).next], .agg #[.int .i64 ed.kind, .int .i64 ed.id, .slice fa ed.fields.length fc]] W fun e w' => ∃ v' qs' x, e = .returned (.tuple #[.agg #[v', .int .i64 (jM (zH l (eds.take k)) ed).ls.next], .int .i64 (jM (zH l (eds.take k)) ed).id, .int .i64 (jM (zH l (eds.take k)) ed).bad]) /\ WrQ W (.slice ka qk.length kc) qk x (jM (zH l (eds.take k)) ed).ls.es w' v' qs' /\ (x = .slice fa ed.fields.length fc \/ x = .slice none 0 0)) := fun W hW => by
      have h1 := jew qk (.slice ka qk.length kc) (.slice fa ed.fields.length fc) (zH l (eds.take k)).next ed W (hqk.below hW (joJ _)) (by omega) (by omega) ((hfl.1.below hBw0 (joJ _)).below hW (joJ _)) (HF.out ed hmem)
      rw [hqe] at h1
      exact h1
    have XF : Hid (∀ x, (x = .slice fa ed.fields.length fc \/ x = .slice none 0 0) -> ∃ fs, vP wr x fs) := fun x hx => by
      rcases hx with rfl | rfl
      . exact ⟨_, hfl.1.below hBw0 (joJ _)⟩
      exact ⟨[], none, 0, rfl, joJ _, fun i f h => by simp at h⟩
    have FLD : Hid (∀ (W : World) (x v' : Value) (qs' : List Pr), zK W v' qs' -> (∀ p ∈ qs', p ∈ qk \/ p.2 = x) -> (x = .slice fa ed.fields.length fc \/ x = .slice none 0 0) -> ∀ p ∈ qs', p.1.1.fields ≠ [] -> ∀ b, p.2.ownBlock = some b -> b < w00.heap.size) := fun W x v' qs' he hm hx p hp hne r e => by
      rcases hm p hp with q | q
      . exact hqf p q hne r e
      rcases hx with rfl | rfl
      . have hf : ed.fields ≠ [] := by
          intro e0
          obtain ⟨A, c, e1, _⟩ := he.each p hp
          rw [q] at e1
          injection e1 with _ e3 _
          rw [e0] at e3
          exact hne (List.length_eq_zero_iff.1 e3.symm)
        rw [q] at e
        exact hfl.1.lt hf r e
      rw [q] at e; cases e
    have DR : Hid (Below wr.heap.size wr wr.drew) := (joL _ _).drew
    have AR : Hid (Below wr.heap.size wr (wr.alloc (.cells #[.slice none 0 0, .int .i64 0] 37)).drew) := ((joL _ _).alloc (joJ _) _).drew
    have ARC := joI (show ja (wr.alloc (.cells #[.slice none 0 0, .int .i64 0] 37)).drew wr.heap.size 37 #[.slice none 0 0, .int .i64 0] from (ja.new _ _ _).drew)
    have HWS := joI (show (wr.alloc (.cells #[.slice none 0 0, .int .i64 0] 37)).drew.heap.size = wr.heap.size + 1 by show (wr.alloc _).heap.size = _; simp)
    have OKS : Hid ((jM (zH l (eds.take k)) ed).bad = 0 -> Wc l (eds.take (k + 1))) := fun h => jaR hed hok h
    have AT : Hid ((jM (zH l (eds.take k)) ed).bad ≠ 0 -> doB l eds = (((k : Nat) : Int), (jM (zH l (eds.take k)) ed).bad)) := fun h => by rw [HDO.out]; exact jhJ hed hok h
    have IDS : Hid ((jM (zH l (eds.take k)) ed).bad = 0 -> zc l (eds.take (k + 1)) = zc l (eds.take k) ++ (if 0 < (jM (zH l (eds.take k)) ed).id then [(jM (zH l (eds.take k)) ed).id] else [])) := fun h => by
      rw [Wu hed, jk7 hpos (yV (GOOD.out ed hmem)) h]
    have LSN : Hid (zH l (eds.take (k + 1)) = (jM (zH l (eds.take k)) ed).ls) := jaU hed
    have hidl : (zc l (eds.take k)).length <= 51 := by
      have h1 := ja8 l (eds.take k)
      omega
    have HQK := joI hqk
    have HCBK := joI hcB
    have HOWN := joI hown
    have HBK := joI hb
    clear hed hok hcB hqk hqe hqf hown hb hfl hmem hokl ol1 ol2 ol3 hpos PC
    generalize jM (zH l (eds.take k)) ed = st at *
    generalize (zH l (eds.take k)).next = nxk at *
    generalize zc l (eds.take k) = ids at *
    go_upto_region 9 with fail
    go_cut [13, 14, 15] (fun c d e wx => ∃ mb v' qs' x, c = .pointer (some ⟨mb, 0, none⟩) /\ d = .int .i64 st.id /\ e = .int .i64 (st.bad : Nat) /\ job wr wx mb (.slice ka qk.length kc) x v' qk qs' st.ls.es st.ls.next /\ (x = .slice fa ed.fields.length fc \/ x = .slice none 0 0))
    case first =>
      go_region_law (go_simp; go_at_call 68; first
        | (refine (ONE.out _ DR.out).mono ?_; rintro e w5 ⟨v', qs', x, rfl, hW, hx⟩; obtain ⟨xa, xc, rfl, _⟩ := hW.ents.empty; have HW5 := joI hW; have HX5 := joI hx; clear hW hx)
        | (refine (ONE.out _ AR.out).mono ?_; rintro e w5 ⟨v', qs', x, rfl, hW, hx⟩; obtain ⟨xa, xc, rfl, _⟩ := hW.ents.empty; have kk := jb ARC.out hW.below ARC.out.lt; have t0 := kk.cell 0; have t1 := kk.cell 1; have tf0 := kk.frozen 0; have tf1 := kk.frozen 1; simp only [joQ, joP, joO] at t0 t1; have HW5 := joI hW; have HX5 := joI hx; clear hW hx kk))
      all_goals (try go_wp2_with fail)
      all_goals go_meet
      all_goals first
        | exact ⟨_, _, qs', _, rfl, rfl, rfl, joz HW5.out, HX5.out⟩
        | exact ⟨_, _, qs', _, rfl, rfl, rfl, joy rfl HW5.out HQK.out (XF.out _ HX5.out) HWS.out, HX5.out⟩
    case rest =>
    obtain ⟨mb, v', qs', x, rfl, rfl, rfl, hR, hx⟩ := hcut
    obtain ⟨xa, xc, rfl, _⟩ := hR.ents.empty
    have hzx := hR.below.size
    have HBX := joI (HBK.out.trans (hR.below.mono (by omega)))
    by_cases hb0 : st.bad = 0
    rotate_left
    . obtain ⟨p1, p2, k0', k1', k2', k3', f0', f1', p3, p4⟩ := PUT.out wc (.slice va qs.length vc) l.next (by
        have h1 := HB1.out
        exact h1.trans (HBX.out.mono h1.size))
      have AT1 := AT.out hb0
      have qn : ((st.bad : Int) == 0) = false := by simpa using hb0
      have FIN : Hid (JE w00.heap.size w ((wc.setCell ⟨w.heap.size + 1, 0, none⟩ (.slice va qs.length vc)).setCell ⟨w.heap.size + 1, 1, none⟩ (.int .i64 l.next)) l eds (.returned (.tuple #[.agg #[.slice va qs.length vc, .int .i64 l.next], .slice none 0 0, .int .i64 (k : Nat), .int .i64 (st.bad : Nat)]))) := by
        show JE _ _ _ _ _ _
        refine ⟨p2, .inl ⟨by rw [AT1]; exact hb0, _, qs, by rw [AT1], ENT.out wc _ (B1.out.trans (HBX.out.mono B1.out.size)) p3⟩⟩
      have P1 := joI p1
      clear p1 p2 p3 p4 hR hx ONE XF FLD ARC OKS AT AT1 IDS LSN HQK HCBK HOWN c0' c1' c2' d0' d1' PUT ENT
      go_wp2_with fail
      refine bodyPost_ret (JX rfl _ _ (w.heap.size + 1) _ rfl P1.out rfl) rfl ?_
      exact FIN.out
    have OK1 := joI (OKS.out hb0)
    have IDS1 := IDS.out hb0
    have cBx := jb HCBK.out hR.below HCBK.out.lt
    have m0 : wc.cell? ⟨mb, 0, none⟩ = some (.slice xa qs'.length xc) := by rw [hR.box.cell]; rfl
    have m1 : wc.cell? ⟨mb, 1, none⟩ = some (.int .i64 st.ls.next) := by rw [hR.box.cell]; rfl
    have n0 : wc.cell? ⟨w1.heap.size, 0, none⟩ = some (.slice ka qk.length kc) := by rw [cBx.cell]; rfl
    have n1 : wc.cell? ⟨w1.heap.size, 1, none⟩ = some (.int .i64 nxk) := by rw [cBx.cell]; rfl
    have g0 := cBx.frozen 0
    have g1 := cBx.frozen 1
    have hrowB : (Value.slice xa qs'.length xc).ownBlock ≠ some w1.heap.size := jh hR.ents.row cBx (by decide)
    have hflB := FLD.out wc x _ qs' hR.ents hR.mem hx
    have oB : jH (· = w1.heap.size) wc ((wc.setCell ⟨w1.heap.size, 0, none⟩ (.slice xa qs'.length xc)).setCell ⟨w1.heap.size, 1, none⟩ (.int .i64 st.ls.next)) := ((jH.refl (· = w1.heap.size) wc).cellS 0 _).cellS 1 _
    have cB3 := (cBx.set 0 (.slice xa qs'.length xc)).set 1 (.int .i64 st.ls.next)
    rw [Qs] at cB3
    have E3 : zK ((wc.setCell ⟨w1.heap.size, 0, none⟩ (.slice xa qs'.length xc)).setCell ⟨w1.heap.size, 1, none⟩ (.int .i64 st.ls.next)) (.slice xa qs'.length xc) qs' := hR.ents.only oB (fun r e q => hrowB (by rw [e, q])) (fun p hp hne r e q => by have := hflB p hp hne r e; omega)
    have ownx := jN HOWN.out hR.below (joJ _)
    have hrow2 : (Value.slice ga ids.length gc).ownBlock ≠ some w1.heap.size := jh HOWN.out HCBK.out (by decide)
    have own3 := jG ownx oB (fun r e q => hrow2 (by rw [e, q]))
    have HB3 : Below w1.heap.size w1 ((wc.setCell ⟨w1.heap.size, 0, none⟩ (.slice xa qs'.length xc)).setCell ⟨w1.heap.size, 1, none⟩ (.int .i64 st.ls.next)) := (HBX.out.setCell (p := ⟨w1.heap.size, 0, none⟩) (joJ _) _).setCell (p := ⟨w1.heap.size, 1, none⟩) (joJ _) _
    have hz3 := oB.size
    have H1 := joI cB3
    have H2 := joI E3
    have H3 := joI hflB
    have H4 := joI own3
    have H5 := joI HB3
    have HES1 := joI (show qs'.map Prod.fst = (zH l (eds.take (k + 1))).es by rw [LSN.out]; exact hR.es)
    have HNX1 : Hid ((zH l (eds.take (k + 1))).next = st.ls.next) := by show _ = _; rw [LSN.out]
    clear hR hx ONE XF FLD ARC OKS AT IDS LSN HQK HCBK HOWN c0' c1' c2' d0' d1' cBx hrowB hflB oB cB3 E3 ownx own3 HB3 d0 d1 hrow2
    by_cases hid : 0 < st.id
    . rw [if_pos hid] at IDS1
      have IDS1 := joI IDS1
      have HSZ : ((wc.setCell ⟨w1.heap.size, 0, none⟩ (.slice xa qs'.length xc)).setCell ⟨w1.heap.size, 1, none⟩ (.int .i64 st.ls.next)).heap.size = wc.heap.size := by simp [World.setCell]
      have HVG2 : ∀ w3 : World, Hid (∀ (j : Nat) (u : Value), [Kr st.id][j]? = some u -> (w3.alloc (.cells #[.int .i64 st.id] 3)).cell? ((⟨w3.heap.size, 0, none⟩ : Addr).add j) = some u) := fun w3 j u h => by
        have ea : (⟨w3.heap.size, 0, none⟩ : Addr).add j = ⟨w3.heap.size, j, none⟩ := by unfold Addr.add; split <;> simp_all
        rw [ea, (ja.new w3 3 #[.int .i64 st.id]).cell j]
        simpa [Kr] using h
      have HVG : ∀ w3 : World, w3.heap.size = wc.heap.size -> Hid (∀ (j : Nat) (u : Value), [Kr st.id][j]? = some u -> (w3.alloc (.cells #[.int .i64 st.id] 3)).cell? ((⟨wc.heap.size, 0, none⟩ : Addr).add j) = some u) := fun w3 hz j u h => by
        rw [<- hz]; exact (HVG2 w3).out j u h
      have hidl2 : (ids.map Kr).length = ids.length := jo8 _
      go_wp2_with (at_builtin; generalize hw3 : ((wc.setCell ⟨w1.heap.size, 0, none⟩ (.slice xa qs'.length xc)).setCell ⟨w1.heap.size, 1, none⟩ (.int .i64 st.ls.next)) = w3 at H1 H2 H4 H5 hz3 HSZ ⊢; refine jz rfl _ _ 23 rfl w1.heap.size 3 i0 _ 1 8 underlying23 hi hz0 hz1 hib rfl (by decide) _ _ _ rfl (H4.out.alloc _) _ 1 1 [Kr st.id] rfl rfl (by first | exact (HVG2 w3).out | exact (HVG w3 HSZ).out) (by intro u hu; simp at hu; subst hu; rfl) (by unfold maxLen; omega) (by omega) (by simp only [joZ]; omega) ?_)
      intro gv' W4 own4 grow4 at4
      have hgl : ∀ r, (Value.slice ga ids.length gc).ownBlock = some r -> w1.heap.size <= r /\ r < w3.heap.size := fun r e => H4.out.lt r e
      have hg2 : (Value.slice ga ids.length gc).ownBlock ≠ some w1.heap.size := jh H4.out H1.out (by decide)
      have o4 : jH (fun r => (Value.slice ga ids.length gc).ownBlock = some r) w3 W4 :=
        (jH.of_below (S := fun r => (Value.slice ga ids.length gc).ownBlock = some r) ((joL _ w3).alloc (joJ _) (.cells #[.int .i64 st.id] 3)) (joJ _)).grown grow4 (fun r e => .inl e)
      have R1 : ja W4 w1.heap.size 37 #[.slice xa qs'.length xc, .int .i64 st.ls.next] := H1.out.only o4 (fun e => hg2 e)
      have R2 : zK W4 (.slice xa qs'.length xc) qs' := H2.out.only o4 (fun r e q => jZ H4.out H2.out.row (by decide) r q e) (fun p hp hne r e q => by have := H3.out p hp hne r e; have := (hgl r q).1; omega)
      have R4 : W4.ownsRow w1.heap.size 3 1 gv' (zc l (eds.take (k + 1))).length ((zc l (eds.take (k + 1))).map Kr) := by
        rw [IDS1.out, joK, jpt]; exact own4
      have R6 : Below w1.heap.size w1 W4 := H5.out.trans (o4.to_below H5.out.size (fun r hr e => by have := (hgl r e).1; omega))
      have hsz := o4.size
      have K1 := joI R1
      have K2 := joI R2
      have K4 := joI R4
      have K6 := joI R6
      clear R1 R2 R4 R6 o4 hgl hg2 own4 grow4 at4 HVG HVG2 H1 H2 H4 H5
      go_wp2_with fail
      go_roundw
      case rel => exact ⟨k + 1, _, qs', _, rfl, hlt, by go_num, OK1.out, by rw [HNX1.out]; exact K1.out, K2.out, HES1.out, H3.out, K4.out, K6.out, by omega⟩
      case measure => simp [intOf]; omega
    rw [if_neg hid, jo9] at IDS1
    have IDS1 := joI IDS1
    have HSZ : ((wc.setCell ⟨w1.heap.size, 0, none⟩ (.slice xa qs'.length xc)).setCell ⟨w1.heap.size, 1, none⟩ (.int .i64 st.ls.next)).heap.size = wc.heap.size := by simp [World.setCell]
    go_wp2_with fail
    go_roundw
    case rel => exact ⟨k + 1, _, qs', _, rfl, hlt, by go_num, OK1.out, by rw [HNX1.out]; exact H1.out, H2.out, HES1.out, H3.out, by rw [IDS1.out]; exact H4.out, H5.out, by rw [HSZ]; omega⟩
    case measure => simp [intOf]; omega
  have hke : k = eds.length := by omega
  subst hke
  rw [jpa] at hok hcB hqe hown ⊢
  have d0 : wr.cell? ⟨w1.heap.size, 0, none⟩ = some (.slice ka qk.length kc) := by rw [hcB.cell]; rfl
  have d1 : wr.cell? ⟨w1.heap.size, 1, none⟩ = some (.int .i64 (zH l eds).next) := by rw [hcB.cell]; rfl
  obtain ⟨p1, p2, k0', k1', k2', k3', f0', f1', p3, p4⟩ := PUT.out wr (.slice ka qk.length kc) (zH l eds).next (by
        have h1 := HB1.out
        exact h1.trans (hb.mono h1.size))
  have P1 := joI p1
  have hd : doB l eds = (-9, 0) := by rw [HDO.out]; exact jhI _ _ _ hok
  have hgb : ∀ r, (Value.slice ga (zc l eds).length gc).ownBlock = some r -> w1.heap.size <= r := fun r e => (hown.lt r e).1
  have FIN : Hid (JE w00.heap.size w ((wr.setCell ⟨w.heap.size + 1, 0, none⟩ (.slice ka qk.length kc)).setCell ⟨w.heap.size + 1, 1, none⟩ (.int .i64 (zH l eds).next)) l eds (.returned (.tuple #[.agg #[.slice ka qk.length kc, .int .i64 (zH l eds).next], .slice ga (zc l eds).length gc, .int .i64 (-9), .int .i64 0]))) := by
    show JE _ _ _ _ _ _
    refine ⟨p2, .inr ⟨hd, hok, _, qk, _, rfl, ?_, hqe, hqf, ?_, ?_⟩⟩
    . exact hqk.only p3 (fun r e q => jh hqk.row p4 (by decide) (by rw [e, q])) (fun p hp hne r e q => by have := hqf p hp hne r e; omega)
    . intro r e
      have := (hqk.row.lt r e).2
      have := p3.size
      omega
    exact jem (jG hown p3 (fun r e q => by have := hgb r e; omega)) (by omega)
  clear p1 p2 p3 p4 PUT ENT hgb hqk hcB hown hqf hb HQ HES HOK HBA HV HDO PC
  go_wp2_with fail
  refine bodyPost_ret (JX rfl _ _ (w.heap.size + 1) _ rfl P1.out rfl) rfl ?_
  exact FIN.out
end
def zJ:List Ln->List (List UInt8)
 | []=>[]
 | x::xs=>if jm x.text=3 then x.text::zJ xs else []
structure RS where
 out:List It
 kind:Int
 raw:List UInt8
 fields:List Fld
 records:Nat
 prev:Nat
def RS.new:RS:=⟨[],2,[],[],0,0⟩
def zv(s:RS)(x:Ln)(xs:List Ln):Nat :=
 if jm x.text=5\/(jm x.text=3/\¬(s.prev=4\/s.prev=3))\/x.ended=false then 2
 else if jm x.text≠4 then 0
 else if jy (x.text::zJ xs)≠0 then jy (x.text::zJ xs)
 else if 40<=s.fields.length\/(s.fields.length=0/\400<=s.records) then 11 else 0
def RS.block(s:RS):List It:=if s.raw=[] then [] else [⟨s.kind,s.raw,s.fields⟩]
def vG(s:RS)(x:Ln)(xs:List Ln):RS :=
 if jm x.text=1 then ⟨s.out++s.block++[⟨1,x.text++[10],[]⟩],2,[],[],s.records,1⟩
 else if jm x.text=4 then ⟨s.out,3,s.raw++x.text++[10],s.fields++[(jW (x.text::zJ xs),jV (x.text::zJ xs))],if s.kind=2 then s.records+1 else s.records,4⟩
 else {s with raw:=s.raw++x.text++[10],prev:=jm x.text}
def ZL:RS->List Ln->Res RS
 | s,[]=>.ok s
 | s,x::xs=>if zv s x xs≠0 then .error (x.no,zv s x xs) else ZL (vG s x xs) xs
def yM(t:List UInt8):Res (List It) :=
 match ZL RS.new (jf t) with
 | .error e=>.error e
 | .ok s=>.ok (s.out++s.block)
def jnR:List Ln->Prop
 | []=>True
 | x::xs=>(x.ended=false->xs=[])/\jnR xs
theorem jeY(l:List UInt8)(h:nl l=false):head l=l:=by
 have b:(10:UInt8)∉l:=by
  intro a;have:nl l=true:=by unfold nl;simpa using a
  rw[this]at h;cases h
 unfold head;clear h
 induction l with
 | nil=>rfl
 | cons c t f =>
 have a:c≠10:=fun e=>b (by rw[e];exact joV);rw[jpy,if_pos (by simp[a]),f (fun d=>b (joU _ d))]
theorem VQ:∀(n b a:Nat) (l:List UInt8),l.length<=n->jnR (jR b a l)
 | 0,b,a,l,h=>by have:l=[]:=List.length_eq_zero_iff.1 (by omega);subst this;rw[jr];trivial
 | n+1,b,a,l,h=>by
  by_cases hl:l=[]
  ·subst hl;rw[jr];trivial
  have e:=qP l hl;rw[jC _ _ _ hl];refine⟨fun c => ?_,VQ n _ _ _ (by simp only[joX];omega)⟩;have d:qK l=(head l).length:=by unfold qK;rw[show nl l=false from c];rfl
  have:l.drop (qK l)=[]:=by rw[d,jeY l c,jp0]
  rw[this,jr]
def yC(p:PS)(xs:List Ln):Nat:=if jy (p.said++zJ xs)≠0 then jy (p.said++zJ xs) else if vU p then 11 else 0
def VP(t:List UInt8)(r:Res PS):Res (List It):=match r with | .error e=>.error e | .ok q=>ZS t q
theorem jgb{t:List UInt8}{p q:PS}{x:Ln}{xs:List Ln}(h:zq t p x=.ok q):qU t p (x::xs)=qU t q xs:=by show(match zq t p x with | .error e=>Except.error e | .ok q=>qU t q xs)=_;rw[h]
theorem Zt{t:List UInt8}{p q:PS}{x:Ln}{xs:List Ln}(h:zq t p x=.ok q):VP t (qU t p (x::xs))=VP t (qU t q xs):=by unfold VP;rw[jgb h]
theorem XH{t:List UInt8}{p:PS}{e:Nat×Nat}{x:Ln}{xs:List Ln}(h:zq t p x=.error e):VP t (qU t p (x::xs))=.error e:=by
 unfold VP;show(match (match zq t p x with | .error e=>Except.error e | .ok q=>qU t q xs) with | .error e=>_ | .ok q=>_)=_
 rw[h]
theorem Jy{p:PS}(h:p.said≠[]):ji p=if jy p.said≠0 then jy p.said else if vU p then 11 else 0:=by unfold ji;rw[if_neg h]
theorem jc4{t:List UInt8}{p:PS}{x:Ln}(a:ve p x=true)(b:ji (zx p x)≠0):zq t p x=.error ((zx p x).begin_,ji (zx p x)):=by unfold zq;rw[if_pos ⟨a,b⟩]
theorem jfY{t:List UInt8}{p:PS}{x:Ln}(a:ji (zx p x)=0)(b:zQ p x=true):zq t p x=.error (x.no,2):=by unfold zq;rw[if_neg (fun h=>h.2 a),b];rfl
theorem Jb{p:PS}(h:p.said≠[]):p.said.isEmpty=false:=by
 cases b:p.said with
 | nil=>exact absurd b h
 | cons a l=>rfl
theorem jde(t:List UInt8):∀(a:List Ln) (p:PS),jnR a->p.said≠[]->yC p a≠0->VP t (qU t p a)=.error (p.begin_,yC p a)
 | [],p,_,l,k=>by
  have e:ji p=yC p []:=by rw[Jy l];unfold yC zJ;rw[jo9]
  show ZS t p=_;unfold ZS;rw[e,if_pos k]
 | x::a,p,⟨r,m⟩,l,k=>by
  by_cases g:jm x.text=3
  ·have f:vl p x=true:=by unfold vl;rw[g,Jb l];rfl
   have i:zx p x={p with said:=p.said++[x.text]}:=by unfold zx;rw[f,if_pos rfl]
   have d:yC {p with said:=p.said++[x.text]} a=yC p (x::a):=by
    have o:(p.said++[x.text])++zJ a=p.said++zJ (x::a):=by
     show _=p.said++(if jm x.text=3 then x.text::zJ a else [])
     rw[if_pos g];simp
    have q:vU {p with said:=p.said++[x.text]}=vU p:=rfl;unfold yC;rw[q];show(if jy ((p.said++[x.text])++zJ a)≠0 then jy ((p.said++[x.text])++zJ a) else _)=_
    rw[o]
   cases hx:x.ended with
   | true =>
    have c:zQ p x=false:=by unfold zQ;rw[g,f,hx];rfl
    have b:ve p x=false:=by unfold ve;rw[c,f];rfl
    have u:zq t p x=.ok {p with said:=p.said++[x.text]}:=by rw[yB (by rw[b];intro h;cases h) c];unfold qT;rw[b,if_neg (by decide),i];unfold JK;rw[g];rfl
    rw[Zt u,jde t a _ m (by simp) (by rw[d];exact k),d]
   | false =>
   have n:=r hx;subst n;have c:zQ p x=true:=by unfold zQ;rw[hx];simp
   have b:ve p x=true:=by unfold ve;rw[c];rfl
   have j:ji (zx p x)=yC p [x]:=by rw[i,<- d,Jy (by simp)];unfold yC zJ;rw[jo9]
   rw[XH (jc4 b (by rw[j];exact k)),j,i]
  have f:vl p x=false:=ZX g;have i:zx p x=p:=by unfold zx;rw[f];rfl
  have b:ve p x=true:=by unfold ve;rw[f];simp
  have s:zJ (x::a)=[]:=if_neg g;have j:ji (zx p x)=yC p (x::a):=by rw[i,Jy l];unfold yC;rw[s,jo9]
  rw[XH (jc4 b (by rw[j];exact k)),j,i]
structure Rel(t:List UInt8)(c:Nat)(p:PS)(s:RS)(xs:List Ln):Prop where
 items:s.out=p.items
 raw:s.raw=(t.take c).drop p.at_
 at_:p.at_<=c
 full:c<=t.length
 rest:t.drop c=xs.flatMap Ln.bytes
 recd:s.records=p.stanzas+if p.fields=[]/\p.said=[] then 0 else 1
 kind:s.kind=if p.fields=[]/\p.said=[] then 2 else 3
 fields:s.fields=p.fields++if p.said=[] then [] else [(jW (p.said++zJ xs),jV (p.said++zJ xs))]
 ok:p.said≠[]->yC p xs=0
 prev:(s.prev=4\/s.prev=3)↔p.said≠[]
 began:p.fields=[]/\p.said=[]\/p.at_<c
 st:p.stanzas<=400
 st':¬(p.fields=[]/\p.said=[])->p.stanzas<=399
 fl:p.fields.length<=40
theorem Rel.new(t:List UInt8):Rel t 0 PS.new RS.new (jf t) :=
 ⟨rfl,rfl,joJ _,joT _,(jL t).symm,rfl,rfl,rfl,fun h=>absurd rfl h,⟨(fun h=>by rcases h with h | h<;>(exact absurd h (by decide))),fun h=>absurd rfl h⟩,.inl ⟨rfl,rfl⟩,by decide,fun a=>absurd ⟨rfl,rfl⟩ a,by decide⟩
theorem jiA{t:List UInt8}{c:Nat}{x:Ln}{xs:List Ln}(h:t.drop c=(x::xs).flatMap Ln.bytes)(a:c<=t.length):t.take (c+x.bytes.length)=t.take c++x.bytes/\t.drop (c+x.bytes.length)=xs.flatMap Ln.bytes/\c+x.bytes.length<=t.length:=by
 rw[jo5]at h;have hl:=congrArg List.length h
 rw[joX,joK]at hl;refine⟨?_,?_,by omega⟩
 ·rw[List.take_add,h];simp
 rw[<- jp7,h];simp
theorem jdm{t:List UInt8}{c a:Nat}{x:Ln}(h:t.take (c+x.bytes.length)=t.take c++x.bytes)(b:a<=c)(d:c<=t.length):(t.take (c+x.bytes.length)).drop a=(t.take c).drop a++x.bytes:=by rw[h,jqv];rw[joS];omega
theorem Wg{x:Ln}{xs:List Ln}(h:jm x.text=3):zJ (x::xs)=x.text::zJ xs:=if_pos h
theorem jaT{x:Ln}{xs:List Ln}(h:jm x.text≠3):zJ (x::xs)=[]:=if_neg h
theorem jaN{p:PS}{xs:List Ln}(b:p.said≠[])(a:zJ xs=[]):yC p xs=ji p:=by rw[Jy b];unfold yC;rw[a,jo9]
theorem Zu(p:PS):(jd p).fields=p.fields++if p.said=[] then [] else [(jW p.said,jV p.said)]:=by
 unfold jd;split
 ·rw[jo9]
 rfl
theorem zD(p:PS):(jd p).stanzas=p.stanzas:=by unfold jd;split<;>rfl
theorem yX(p:PS):(jd p).fields=[]↔p.fields=[]/\p.said=[]:=by
 rw[Zu];constructor
 ·intro h;by_cases a:p.said=[]
  ·rw[if_pos a,jo9]at h;exact⟨h,a⟩
  rw[if_neg a]at h;simp at h
 rintro⟨b,c⟩;rw[b,if_pos c];rfl
theorem Rel.fields_end{t:List UInt8}{c:Nat}{p:PS}{s:RS}{xs:List Ln}(h:Rel t c p s xs)(a:zJ xs=[]):s.fields=(jd p).fields:=by rw[h.fields,Zu,a,jo9]
theorem vN(p:PS):(jd p).at_=p.at_:=Zw p
theorem yY(p:PS):(jd p).items=p.items:=by unfold jd;split<;>rfl
theorem jbA{t:List UInt8}{c:Nat}{p:PS}{s:RS}{xs:List Ln}(h:Rel t c p s xs)(n:zJ xs=[]):
  (jk t (jd p) c).items=s.out++s.block/\(jk t (jd p) c).stanzas=s.records/\(jk t (jd p) c).fields=[]/\(jk t (jd p) c).said=[]/\(jk t (jd p) c).at_=c:=by
 have l:=h.fields_end n;have j:=h.at_
 have a:=Gz t (jd p) c;rw[qm]at a;have b:=yo t (jd p) c (by rw[vN];exact j)
 by_cases i:p.at_=c
 ·have f:p.fields=[]/\p.said=[]:=by
   rcases h.began with k|k
   ·exact k
   omega
  have e:jk t (jd p) c=jd p:=by unfold jk;rw[if_pos (by rw[vN];exact i)]
  have g:s.raw=[]:=by rw[h.raw,i,jql];rw[joS];omega
  refine⟨?_,?_,?_,a,b⟩
  ·rw[e,yY,h.items];unfold RS.block;rw[if_pos g,jo9]
  ·rw[e,zD,h.recd,if_pos f,jqk]
  rw[e];exact(yX p).2 f
 have g:s.raw≠[]:=by
  intro e;have:=congrArg List.length e
  rw[h.raw,joX,joS]at this;have:=h.full
  simp at *;omega
 by_cases f:(jd p).fields.length=0
 ·have d:=(yX p).1 (List.length_eq_zero_iff.1 f);have e:jk t (jd p) c=zl t (jd p) 2 c:=by unfold jk;rw[if_neg (by rw[vN];exact i),if_pos f]
  refine⟨?_,?_,?_,a,b⟩
  ·rw[e];show(jd p).items++[⟨((2:Nat):Int),(t.take c).drop (jd p).at_,(jd p).fields⟩]=_
   unfold RS.block;rw[if_neg g,yY,vN,h.items,h.kind,if_pos d,h.raw,l];rfl
  ·rw[e];show(jd p).stanzas=_
   rw[zD,h.recd,if_pos d,jqk]
  rw[e];rfl
 have d:¬(p.fields=[]/\p.said=[]):=fun m=>f (by rw[(yX p).2 m];rfl);have e:jk t (jd p) c={zl t (jd p) 3 c with stanzas:=(jd p).stanzas+1}:=by unfold jk;rw[if_neg (by rw[vN];exact i),if_neg f]
 refine⟨?_,?_,?_,a,b⟩
 ·rw[e];show(jd p).items++[⟨((3:Nat):Int),(t.take c).drop (jd p).at_,(jd p).fields⟩]=_
  unfold RS.block;rw[if_neg g,yY,vN,h.items,h.kind,if_neg d,h.raw,l];rfl
 ·rw[e];show(jd p).stanzas+1=_
  rw[zD,h.recd,if_neg d]
 rw[e];rfl
theorem Rel.fl_end{t:List UInt8}{c:Nat}{p:PS}{s:RS}{xs:List Ln}(h:Rel t c p s xs):(jd p).fields.length<=40:=by
 have fl:=h.fl;rw[Zu,joK];by_cases d:p.said=[]
 ·rw[if_pos d];simpa using fl
 rw[if_neg d];have b:=h.ok d
 unfold yC at b;have a:vU p=false:=by
  split at b
  ·rename_i f;exact absurd b f
  cases e:vU p with
  | false=>rfl
  | true=>rw[e]at b;simp at b
 unfold vU at a;split at a
 ·simp;omega
 have:p.fields.length≠40:=by simpa using a
 simp;omega
theorem Rel.records_le{t:List UInt8}{c:Nat}{p:PS}{s:RS}{xs:List Ln}(h:Rel t c p s xs):s.records<=400:=by
 have st:=h.st;rw[h.recd];split
 ·omega
 rename_i a;have:=h.st' a;omega
theorem jlH{l:List UInt8}(_:(10:UInt8)∉l):jm l=1\/jm l=2\/jm l=3\/jm l=4\/jm l=5:=by
 unfold jm;split;· simp
 split;· simp
 split;· simp
 split;· simp
 split<;>simp
theorem YL(t:List UInt8):∀(xs:List Ln) (L c:Nat) (p:PS) (s:RS),jnM L c xs->jnR xs->(∀x∈xs,(10:UInt8)∉x.text)->Rel t c p s xs ->
  VP t (qU t p xs)=match ZL s xs with | .error e=>.error e | .ok s'=>.ok (s'.out++s'.block)
 | [],L,c,p,s,_,_,_,h=>by
  have D:c=t.length:=by
   have:=congrArg List.length h.rest;rw[joX]at this;have:=h.full
   simp at *;omega
  have h0:ji p=0:=by
   by_cases d:p.said=[]
   ·unfold ji;rw[if_pos d]
   rw[<- jaN d (xs:=[]) rfl];exact h.ok d
  show ZS t p=Except.ok (s.out++s.block);unfold ZS;rw[if_neg (by rw[h0];decide),<- D,(jbA h rfl).1]
 | x::xs,L,c,p,s,⟨r1,r2,r3,V⟩,⟨he,v⟩,D,h=>by
  obtain⟨t1,W,t3⟩:=jiA h.rest h.full;have P:(10:UInt8)∉x.text:=D x joV
  have l:∀y∈xs,(10:UInt8)∉y.text:=fun y hy=>D y (joU _ hy);show VP t (qU t p (x::xs))=match (if zv s x xs≠0 then Except.error (x.no,zv s x xs) else ZL (vG s x xs) xs) with | .error e=>_ | .ok s'=>_
  have O:p.said≠[]->zJ (x::xs)=[]->ji p=0:=fun d R=>by rw[<- jaN d R];exact h.ok d
  by_cases b:jm x.text=5\/(jm x.text=3/\¬(s.prev=4\/s.prev=3))\/x.ended=false
  ·
   have ae:zv s x xs=2:=by unfold zv;rw[if_pos b]
   rw[ae,if_pos (by decide)];have u:zQ p x=true:=by
    unfold zQ;rcases b with I|⟨k,hp⟩|hx
    ·rw[I];rfl
    ·have d:p.said=[]:=Classical.byContradiction fun a7=>hp (h.prev.2 a7);have:vl p x=false:=by unfold vl;rw[d];simp
     rw[k,this];simp
    rw[hx];simp
   have n:ji (zx p x)=0:=by
    cases g:vl p x with
    | true =>
     have o:jm x.text=3:=by unfold vl at g;simp at g;exact g.1
     have d:p.said≠[]:=by unfold vl at g;simp at g;exact g.2
     have hx:x.ended=false:=by
      rcases b with I|⟨_,hp⟩|hx
      ·omega
      ·exact absurd (h.prev.2 d) hp
      exact hx
     have af:=he hx;have G:zx p x={p with said:=p.said++[x.text]}:=by unfold zx;rw[g,if_pos rfl]
     have q:=h.ok d;rw[G,Jy (by simp)];unfold yC at q;rw[Wg o,af]at q;exact q
    | false =>
    have G:zx p x=p:=by unfold zx;rw[g];rfl
    rw[G];by_cases d:p.said=[]
    ·unfold ji;rw[if_pos d]
    refine O d (jaT ?_);intro k;unfold vl at g;rw[k,Jb d]at g;simp at g
   rw[XH (jfY n u)]
  have hx:x.ended=true:=by
   cases hx:x.ended with
   | true=>rfl
   | false=>exact absurd (.inr (.inr hx)) b
  have I:jm x.text≠5:=fun I=>b (.inl I);have X:x.bytes=x.text++[10]:=by unfold Ln.bytes;rw[hx];rfl
  have z:(t.take (c+x.bytes.length)).drop p.at_=s.raw++x.text++[10]:=by rw[jdm t1 h.at_ h.full,<- h.raw,X,jo0]
  have Y:x.bytes.length=x.text.length+1:=by rw[X];simp
  by_cases k:jm x.text=3
  ·
   have K:s.prev=4\/s.prev=3:=Classical.byContradiction fun m=>b (.inr (.inl ⟨k,m⟩));have d:=h.prev.1 K
   have g:vl p x=true:=by unfold vl;rw[k,Jb d];rfl
   have G:zx p x={p with said:=p.said++[x.text]}:=by unfold zx;rw[g,if_pos rfl]
   have u:zQ p x=false:=by unfold zQ;rw[k,g,hx];rfl
   have n:ve p x=false:=by unfold ve;rw[u,g];rfl
   have ht:zq t p x=.ok {p with said:=p.said++[x.text]}:=by rw[yB (by rw[n];intro h;cases h) u];unfold qT;rw[n,if_neg (by decide),G];unfold JK;rw[k];rfl
   have C:zv s x xs=0:=by unfold zv;rw[if_neg b,if_pos (by omega)]
   have f:vG s x xs={s with raw:=s.raw++x.text++[10],prev:=3}:=by unfold vG;rw[if_neg (by omega),if_neg (by omega),k]
   rw[Zt ht,C,if_neg (by decide),f];have E:(p.said++[x.text])++zJ xs=p.said++zJ (x::xs):=by rw[Wg k];simp
   refine YL t xs (L+1) (c+x.bytes.length) _ _ V v l ⟨h.items,?_,?_,t3,W,?_,?_,?_,?_,?_,?_,h.st,fun _=>h.st' (fun a=>d a.2),h.fl⟩
   ·exact z.symm
   ·show p.at_<=_;have:=h.at_;omega
   ·show s.records=p.stanzas+if p.fields=[]/\p.said++[x.text]=[] then 0 else 1
    rw[h.recd,if_neg (fun a=>d a.2),if_neg (by simp)]
   ·show s.kind=if p.fields=[]/\p.said++[x.text]=[] then 2 else 3
    rw[h.kind,if_neg (fun a=>d a.2),if_neg (by simp)]
   ·show s.fields=p.fields++if p.said++[x.text]=[] then [] else [(jW ((p.said++[x.text])++zJ xs),jV ((p.said++[x.text])++zJ xs))]
    rw[h.fields,if_neg d,if_neg (by simp),E]
   ·intro _;have q:=h.ok d
    unfold yC at q ⊢;show(if jy ((p.said++[x.text])++zJ xs)≠0 then jy ((p.said++[x.text])++zJ xs) else if vU p then 11 else 0)=0
    rw[E];exact q
   ·exact⟨fun _=>by simp,fun _=>.inr rfl⟩
   exact .inr (by show p.at_<_;have:=h.at_;omega)
  ·
   have R:zJ (x::xs)=[]:=jaT k;have hN:ji p=0:=by
    by_cases d:p.said=[]
    ·unfold ji;rw[if_pos d]
    exact O d R
   have g:vl p x=false:=ZX k;have G:zx p x=p:=by unfold zx;rw[g];rfl
   have u:zQ p x=false:=by unfold zQ;rw[g,hx];simp[k,I]
   have n:ve p x=true:=by unfold ve;rw[g];simp
   have aa:qT p x=jd p:=by unfold qT;rw[n,if_pos rfl,G]
   have ht:zq t p x=.ok (JK t (jd p) x):=by rw[yB (by rw[G];exact fun _=>hN) u,aa]
   have U:=h.fields_end R;have Q:=h.fl_end
   rw[Zt ht];rcases jlH P with o|o|o|o|o
   ·
    have C:zv s x xs=0:=by unfold zv;rw[if_neg b,if_pos (by omega)]
    have f:vG s x xs=⟨s.out++s.block++[⟨1,x.text++[10],[]⟩],2,[],[],s.records,1⟩:=by unfold vG;rw[if_pos o]
    obtain⟨b1,b2,b3,H,b5⟩:=jbA h R;have hP:JK t (jd p) x=zl t (jk t (jd p) c) 1 (c+x.bytes.length):=by unfold JK;rw[if_neg (by omega),if_pos o,r2,Y];rfl
    have Z:(t.take (c+x.bytes.length)).drop c=x.text++[10]:=by rw[jdm t1 (joJ _) h.full,X,jql (by rw[joS];omega)];rfl
    rw[C,if_neg (by decide),f,hP];refine YL t xs (L+1) (c+x.bytes.length) _ _ V v l ⟨?_,?_,joJ _,t3,W,?_,?_,?_,?_,?_,?_,?_,?_,?_⟩
    ·show s.out++s.block++[_]=(jk t (jd p) c).items++[⟨((1:Nat):Int),(t.take (c+x.bytes.length)).drop (jk t (jd p) c).at_,(jk t (jd p) c).fields⟩]
     rw[b1,b3,b5,Z];rfl
    ·show []=(t.take (c+x.bytes.length)).drop (c+x.bytes.length);rw[jql];rw[joS];omega
    ·show s.records=(jk t (jd p) c).stanzas+if ([]:List Fld)=[]/\(jk t (jd p) c).said=[] then 0 else 1
     rw[b2,if_pos ⟨rfl,H⟩];rfl
    ·show(2:Int)=if ([]:List Fld)=[]/\(jk t (jd p) c).said=[] then 2 else 3
     rw[if_pos ⟨rfl,H⟩]
    ·show []=[]++if (jk t (jd p) c).said=[] then [] else _
     rw[if_pos H];rfl
    ·exact fun m=>absurd H m
    ·exact⟨fun a=>by rcases a with a | a;exact absurd (show(1:Nat)=4 from a) (by decide);exact absurd (show(1:Nat)=3 from a) (by decide),fun a=>absurd H a⟩
    ·exact .inl ⟨rfl,H⟩
    ·show(jk t (jd p) c).stanzas<=400;rw[b2];exact h.records_le
    ·exact fun m=>absurd ⟨rfl,H⟩ m
    show([]:List Fld).length<=40;decide
   ·
    have C:zv s x xs=0:=by unfold zv;rw[if_neg b,if_pos (by omega)]
    have f:vG s x xs={s with raw:=s.raw++x.text++[10],prev:=2}:=by unfold vG;rw[if_neg (by omega),if_neg (by omega),o]
    have hP:JK t (jd p) x=jd p:=by unfold JK;rw[if_neg (by omega),if_neg (by omega)]
    have j:((jd p).fields=[]/\(jd p).said=[])↔(p.fields=[]/\p.said=[]):=by rw[yX];exact⟨fun a=>a.1,fun a=>⟨a,qm p⟩⟩
    rw[C,if_neg (by decide),f,hP];refine YL t xs (L+1) (c+x.bytes.length) _ _ V v l ⟨?_,?_,?_,t3,W,?_,?_,?_,?_,?_,?_,?_,?_,Q⟩
    ·rw[yY];exact h.items
    ·rw[vN];exact z.symm
    ·rw[vN];have:=h.at_;omega
    ·rw[zD];show s.records=_;rw[h.recd];congr 1;simp only[j]
    ·show s.kind=_;rw[h.kind];simp only[j]
    ·show s.fields=_;rw[U,if_pos (qm p),jo9]
    ·exact fun m=>absurd (qm p) m
    ·exact⟨fun a=>by rcases a with a | a;exact absurd (show(2:Nat)=4 from a) (by decide);exact absurd (show(2:Nat)=3 from a) (by decide),fun a=>absurd (qm p) a⟩
    ·rw[vN];exact .inr (by have:=h.at_;omega)
    ·rw[zD];exact h.st
    rw[zD];exact fun m=>h.st' (fun a=>m (j.2 a))
   ·exact absurd o k
   ·
    have hP:JK t (jd p) x={jd p with begin_:=x.no,said:=[x.text]}:=by unfold JK;rw[if_pos o]
    have A:(jd p).fields.length=0->s.records=p.stanzas:=fun N=>by rw[h.recd,if_pos ((yX p).1 (List.length_eq_zero_iff.1 N)),jqk]
    have ag:=h.st;have w:vU {jd p with begin_:=x.no,said:=[x.text]}=decide (40<=s.fields.length\/(s.fields.length=0/\400<=s.records)):=by
     unfold vU;show(if (jd p).fields.length=0 then (jd p).stanzas==400 else (jd p).fields.length==40)=_
     rw[U,zD];split
     ·rename_i N;have:=A N
      rw[jpI,beq_iff_eq,decide_eq_true_iff];omega
     rename_i N;rw[jpI,beq_iff_eq,decide_eq_true_iff];omega
    have J:zv s x xs=yC {jd p with begin_:=x.no,said:=[x.text]} xs:=by
     unfold zv yC;rw[if_neg b,if_neg (by omega),w];show(if jy (x.text::zJ xs)≠0 then _ else _)=(if jy ([x.text]++zJ xs)≠0 then _ else _)
     simp only[jo6,jpC,decide_eq_true_eq]
    rw[hP];by_cases m:zv s x xs=0
    ·rw[m,if_neg (by decide)];have f:vG s x xs=⟨s.out,3,s.raw++x.text++[10],s.fields++[(jW (x.text::zJ xs),jV (x.text::zJ xs))],if s.kind=2 then s.records+1 else s.records,4⟩:=by unfold vG;rw[if_neg (by omega),if_pos o]
     rw[f];have r:yC {jd p with begin_:=x.no,said:=[x.text]} xs=0:=by rw[<- J];exact m
     have a8:¬(40<=s.fields.length\/(s.fields.length=0/\400<=s.records)):=by
      intro a;unfold yC at r;rw[w,decide_eq_true a]at r;split at r
      ·rename_i hu;exact hu r
      simp at r
     refine YL t xs (L+1) (c+x.bytes.length) _ _ V v l ⟨?_,?_,?_,t3,W,?_,?_,?_,?_,?_,?_,?_,?_,Q⟩
     ·show s.out=(jd p).items;rw[yY];exact h.items
     ·show s.raw++x.text++[10]=(t.take (c+x.bytes.length)).drop (jd p).at_;rw[vN];exact z.symm
     ·show(jd p).at_<=_;rw[vN];have:=h.at_;omega
     ·show(if s.kind=2 then s.records+1 else s.records)=(jd p).stanzas+if (jd p).fields=[]/\[x.text]=[] then 0 else 1
      have e1:¬((jd p).fields=[]/\[x.text]=[]):=fun a=>by cases a.2
      rw[zD,if_neg e1,h.kind,h.recd];by_cases i:p.fields=[]/\p.said=[]
      ·rw[if_pos i,if_pos i,if_pos rfl]
      rw[if_neg i,if_neg i,if_neg (by decide)]
     ·show(3:Int)=if (jd p).fields=[]/\[x.text]=[] then 2 else 3
      rw[if_neg (fun a=>by cases a.2)]
     ·show s.fields++_=(jd p).fields++if [x.text]=[] then [] else [(jW ([x.text]++zJ xs),jV ([x.text]++zJ xs))]
      rw[if_neg (by simp),U];rfl
     ·exact fun _=>r
     ·exact⟨fun _=>by show [x.text]≠[];simp,fun _=>.inl rfl⟩
     ·show _\/(jd p).at_<_;rw[vN];exact .inr (by have:=h.at_;omega)
     ·show(jd p).stanzas<=400;rw[zD];exact h.st
     intro _;show(jd p).stanzas<=399
     rw[zD];by_cases i:p.fields=[]/\p.said=[]
     ·have N:(jd p).fields.length=0:=by rw[(yX p).2 i];rfl
      have:=A N;rw[U]at a8;omega
     exact h.st' i
    rw[if_pos m,jde t xs _ v (by show [x.text]≠[];simp) (by rw[<- J];exact m),<- J]
   exact absurd o I
theorem YX(t:List UInt8):jD t=yM t:=by have h:=YL t (jf t) 0 0 PS.new RS.new (Jc _ 0 0 t (joJ _)) (VQ _ 0 0 t (joJ _)) (vT _ 0 0 t (joJ _)) (Rel.new t);exact h
end Go.Proofs.YtbapfpekklcicaaGreatDoor
