/- Texts put together:EH,EI,GE,N0,EK,GH,QC,WM,FT,FU,QD,QE,QF,QG,QH,NY,NL,NM,ET. -/
import Derived.Test.YtpibhbjmcmfnmaaGreatDoorBag18
set_option linter.unusedVariables false
set_option maxRecDepth 100000
set_option maxHeartbeats 16000000
namespace Go.Proofs.YtpibhbjmcmfnmaaGreatDoor
open Go.RowKit Go.Shelf Tryz
section
attribute [local go_sem] jnn
theorem WrR.from{w w1 w':World}{lb:Nat}{ev u ev':Value}{ps ps':List Pr}{d:Did}(h:WrR w1 lb ev ps d u w' ev' ps')(hb:Below w.heap.size w w1):WrR w lb ev ps d u w' ev' ps':=by
 refine⟨h.la,h.es,?_,?_,h.err.mono hb.size,fun p hp => ?_⟩
 ·exact(jv.of_below (S:=fun r=>r=lb\/ev.ownBlock=some r) hb (jnd _)).trans h.only (fun r _ e=>e)
 ·rcases h.blk with q|⟨b,q,hq⟩
  ·exact .inl q
  exact .inr ⟨b,q,by have:=hb.size;omega⟩
 rcases h.mem p hp with q|q
 ·exact .inl q
 exact .inr (fun b e=>by have:=q b e;have:=hb.size;omega)
theorem jjJ(l:LS){ed:Ed}(h:ed.kind=1):zC l ed=qo l ed.id ed.fields:=by unfold zC xU;rw[if_pos h]
theorem jjI(l:LS){ed:Ed}(h:ed.kind=2):zC l ed=vm l ed.id:=by unfold zC xU;rw[if_neg (by omega),if_pos h]
theorem jjH(l:LS){ed:Ed}(h1:ed.kind≠1)(h2:ed.kind≠2):zC l ed=qT l ed.id ed.fields:=by unfold zC xU;rw[if_neg h1,if_neg h2]
theorem Ga(l:LS)(id:Int)(fs:List Fld):(qo l id fs).id=0:=by
 unfold qo
 split
 ·rfl
 split<;>rfl
theorem jbl(l:LS)(id:Int):(vm l id).id=0:=by
 unfold vm
 split<;>rfl
theorem jkR{S0:Nat}{w:World}{lb:Nat}{ev:Value}{ps:List Pr}{l:LS}{m:Nat}(C:qb S0 w lb ev ps l m)(hm:m<=10000)(ed:Ed)(fv:Value)(hf:ZK w fv ed.fields)(h7:jgQ ed.fields):
  Calls prog 116 #[ptr lb,.agg #[.int .i64 ed.kind,.int .i64 ed.id,fv]] w fun e w'=>∃u ev' ps',e=.returned (.tuple #[.int .i64 (zC l ed).id,u])/\WrR w lb ev ps (zC l ed) u w' ev' ps':=by
 obtain⟨fa,fc,rfl⟩:=hf.form
 obtain⟨wa,hwa⟩:∃wa,wa=w.alloc (.cells #[.int .i64 ed.kind,.int .i64 ed.id,.slice fa ed.fields.length fc] 63):=⟨_,rfl⟩
 have hba:Below w.heap.size w wa:=by rw[hwa];exact(jne _ w).alloc (jnd _) _
 have Ca:=C.below hba (jnd _)
 have hl:ps.length<=m:=by have:=C.len;rw[<- C.es,jnI]at this;exact this
 have hnx:=C.nx
 have hp:=C.ok.pos
 have hwf:=C.wf
 have hfa:=hf.below hba (jnd _)
 have el:(⟨ps.map Prod.fst,l.next⟩:LS)=l:=by rw[C.es]
 by_cases h1:ed.kind=1
 ·have R:=UY lb ev ps l.next ed.id ed.fields (.slice fa ed.fields.length fc) wa Ca.la (by omega) hfa h7
  rw[jbd hwf,show Zi (vy (ps.map Prod.fst) ed.id) ⟨ps.map Prod.fst,l.next⟩ ed.fields=qo ⟨ps.map Prod.fst,l.next⟩ ed.id ed.fields by rw[jc9],el]at R
  rw[jjJ l h1,Ga]
  have R:=jnc R
  have FR:Hid (∀u w' ev' ps',WrR wa lb ev ps (qo l ed.id ed.fields) u w' ev' ps'->WrR w lb ev ps (qo l ed.id ed.fields) u w' ev' ps'):=fun u w' ev' ps' h=>h.from hba
  generalize qo l ed.id ed.fields=dd at *
  clear hba Ca C hf hfa hwf el
  rw[h1]at hwa ⊢
  subst hwa
  unfold ptr at *
  go_enter func116,ntmps116
  go_wp2_with fail
  refine R.out.mono ?_
  rintro e w2 ⟨u,ev',ps',rfl,hR⟩
  have H:=FR.out _ _ _ _ hR
  clear hR R FR
  go_wp2_with fail
  go_ret2
  exact⟨u,ev',ps',rfl,H⟩
 by_cases h2:ed.kind=2
 ·have R:=jbj lb ev ps l.next ed.id wa Ca.la (by omega)
  rw[jbd hwf,show jbk (vy (ps.map Prod.fst) ed.id) ⟨ps.map Prod.fst,l.next⟩=vm ⟨ps.map Prod.fst,l.next⟩ ed.id by rw[jgf],el]at R
  rw[jjI l h2,jbl]
  have R:=jnc R
  have FR:Hid (∀u w' ev' ps',WrR wa lb ev ps (vm l ed.id) u w' ev' ps'->WrR w lb ev ps (vm l ed.id) u w' ev' ps'):=fun u w' ev' ps' h=>h.from hba
  generalize vm l ed.id=dd at *
  clear hba Ca C hf hfa hwf el
  rw[h2]at hwa ⊢
  subst hwa
  unfold ptr at *
  go_enter func116,ntmps116
  go_wp2_with fail
  refine R.out.mono ?_
  rintro e w2 ⟨u,ev',ps',rfl,hR⟩
  have H:=FR.out _ _ _ _ hR
  clear hR R FR
  go_wp2_with fail
  go_ret2
  exact⟨u,ev',ps',rfl,H⟩
 have R:=jhW lb ev ps l.next ed.id ed.fields (.slice fa ed.fields.length fc) wa Ca.la hwf (by rw[C.es];exact C.ok.len) (by omega) (by omega) hfa h7
 rw[el]at R
 rw[jjH l h1 h2]
 have R:=jnc R
 have FR:Hid (∀u w' ev' ps',WrR wa lb ev ps (qT l ed.id ed.fields) u w' ev' ps'->WrR w lb ev ps (qT l ed.id ed.fields) u w' ev' ps'):=fun u w' ev' ps' h=>h.from hba
 generalize qT l ed.id ed.fields=dd at *
 have q1:(ed.kind==1)=false:=by simpa using h1
 have q2:(ed.kind==2)=false:=by simpa using h2
 clear hba Ca C hf hfa hwf el
 subst hwa
 unfold ptr at *
 go_enter func116,ntmps116
 go_wp2_with fail
 refine R.out.mono ?_
 rintro e w2 ⟨u,ev',ps',rfl,hR⟩
 have H:=FR.out _ _ _ _ hR
 clear hR R FR
 go_wp2_with fail
 go_ret2
 exact⟨u,ev',ps',rfl,H⟩
structure jmb(g:Nat)(cb:Array Value)(w0:World)(N1:Nat)(l0:LS)(eds:List Ed)(P:Nat->World->(Nat->Prop)->Prop):Prop where
 eg:∀args w,(callFunc g args).run prog w=.ok (.enter g args) w
 lt:∀j W Z,P j W Z->∀r,Z r->w0.heap.size<=r/\r<W.heap.size
 keep:∀j W W' Z (S:Nat->Prop),P j W Z->jv S W W'->(∀r,Z r->¬S r)->P j W' Z
 ask:∀(j:Nat) (ed:Ed) (fv:Value) (W:World) (Z:Nat->Prop) (lb:Nat) (ev:Value) (ps:List Pr) (m:Nat),eds[j]?=some ed->qr ed=0->P j W Z->Below w0.heap.size w0 W->qb N1 W lb ev ps (ym l0 (eds.take j)) m->m<=10000->(∀r,Xv lb ev ps (.slice none 0 0) [] r->¬Z r)->ZK W fv ed.fields->(∃A c,fv=.slice A ed.fields.length c) ->
  Calls prog g (#[ptr lb,.agg #[.int .i64 ed.kind,.int .i64 ed.id,fv]]++cb) W fun e W'=>e=.returned (.tuple #[])/\∃Z',P (j+1) W' Z'/\jv Z W W'/\∀r,Z' r->Z r\/W.heap.size<=r
theorem qb.blkEd{S0:Nat}{w w':World}{lb:Nat}{ev ev' u:Value}{ps ps':List Pr}{l:LS}{m:Nat}(h:qb S0 w lb ev ps l m){ed:Ed}(h1:(zb ed.fields).length<=100000)(h2:ed.fields.length<=1000000)(hS:S0<=w.heap.size)(R:WrR w lb ev ps (zC l ed) u w' ev' ps'):qb S0 w' lb ev' ps' (zC l ed).ls (m+1) :=
 h.edit ed.kind ed.id h1 h2 R.la R.es hS (fun b e=>by
  rcases R.blk with q|⟨b',q,hq⟩
  ·exact .inl (by rw[<- q];exact e)
  right;rw[q]at e;cases e;exact hq)
theorem WrR.blks{w w':World}{lb:Nat}{ev u ev':Value}{ps ps':List Pr}{d:Did}(h:WrR w lb ev ps d u w' ev' ps'){r:Nat}(hr:Xv lb ev' ps' (.slice none 0 0) [] r):Xv lb ev ps (.slice none 0 0) [] r\/w.heap.size<=r:=by
 rcases hr with q|q|q|⟨p,hp,hne,q⟩|⟨p,hp,_⟩
 ·exact .inl (.inl q)
 ·rcases h.blk with e|⟨b,e,hb⟩
  ·exact .inl (.inr (.inl (by rw[<- e];exact q)))
  rw[e]at q;cases q;exact .inr hb
 ·cases q
 ·rcases h.mem p hp with e|e
  ·exact .inl (.inr (.inr (.inr (.inl ⟨p,e,hne,q⟩))))
  exact .inr (e r q)
 cases hp
theorem qb.only{S0:Nat}{w w':World}{lb:Nat}{ev:Value}{ps:List Pr}{l:LS}{m:Nat}{S:Nat->Prop}(h:qb S0 w lb ev ps l m)(g:jv S w w')(hs:∀r,Xv lb ev ps (.slice none 0 0) [] r->¬S r):qb S0 w' lb ev ps l m :=
 ⟨(h.str.only g hs).la,h.es,h.ok,h.sz,h.lb0,h.ev0,h.len,h.nx⟩
def Xg(eds:List Ed):Prop:=∀ed∈eds,(zb ed.fields).length<=100000/\ed.fields.length<=1000000
def jel(z:Int):Value:=.int .i64 z
theorem jhZ:(prog.info? 3).map (fun i=>(i.zero,i.size,i.bytes))=some (some (.int .i64 0),1,8):=by kernel_rfl
def jei(w0 w w':World)(l:LS)(m:Nat)(eds:List Ed)(P:Nat->World->(Nat->Prop)->Prop)(e:Ending):Prop :=
 Below w0.heap.size w0 w'/\w.heap.size<=w'.heap.size /\
 (((doB l eds).2≠0/\∃u,e=.returned (.tuple #[.pointer none,.slice none 0 0,u])/\vV w.heap.size w' u (doB l eds).1 (doB l eds).2) \/
 (doB l eds=(-9,0)/\vS eds=(-9,0)/\Gh l eds/\∃lb ev ps gv Z,e=.returned (.tuple #[ptr lb,gv,.nilIface])/\qb w.heap.size w' lb ev ps (ym l eds) (m+eds.length)/\P eds.length w' Z /\
  (∀r,Xv lb ev ps (.slice none 0 0) [] r->¬Z r/\w.heap.size<=r)/\w'.ownsRow w.heap.size 3 1 gv (zD l eds).length ((zD l eds).map jel)))
theorem Wg{S00:Nat}{w0 w:World}(hB0:Below w0.heap.size w0 w)(eds:List Ed)(v:Value)(hv:EdV w0 v eds)(hl:eds.length<=51)(hf:Xk eds)(hsm:Xg eds)(hg:ErrT w0)
  {lb0:Nat} {ev0:Value} {ps0:List Pr} {l:LS} {m:Nat} (C:qb S00 w lb0 ev0 ps0 l m) (hm:m<=5000) {g:Nat} {cb:Array Value} {P:Nat->World->(Nat->Prop)->Prop} (SH:jmb g cb w0 w.heap.size l eds P) {Z0:Nat->Prop} (hP:P 0 w Z0) :
  Calls prog 83 #[ptr lb0,v,.func (.func g) #[] cb] w fun e w'=>jei w0 w w' l m eds P e:=by
 obtain⟨i0,hi,hz0,hz1,hz2⟩:=info_parts jhZ
 have HB0:=jnc hB0
 have CK:=jnc (jd2 eds v w (hv.below hB0 (jnd _)) (by omega) hf (hg.below hB0 (jnd _)))
 obtain⟨A,cap,rfl,hle,hc⟩:=_root_.id hv
 have PC:=jnc hc
 have HF:=jnc hf
 have HS:=jnc hsm
 have HG:=jnc hg
 have HV:=jnc hv
 have HC:=jnc C
 have HSH:=jnc SH
 have HP:=jnc hP
 have heg:=SH.eg
 have hZ0:=jnc (SH.lt 0 w Z0 hP)
 clear hc hf hsm hg hv C hP SH hB0
 unfold ptr
 go_enter func83,ntmps83
 go_wp2_with fail
 refine CK.out.mono ?_
 rintro e w1 ⟨u,rfl,b1,hz⟩
 have B1:=jnc b1
 by_cases hb0:(vS eds).2=0
 rotate_left
 ·have hdo:doB l eds=vS eds:=by unfold doB;rw[if_neg hb0]
  have FIN:Hid (jei w0 w w1 l m eds P (.returned (.tuple #[.pointer none,.slice none 0 0,u]))):=by
   show jei _ _ _ _ _ _ _ _
   refine⟨HB0.out.trans (b1.mono HB0.out.size),b1.size,.inl ⟨by rw[hdo];exact hb0,u,rfl,by rw[hdo];exact hz⟩⟩
  have hform:(∃z,u=.iface 46 (.int .i64 z))\/∃q,u=.iface 133 (.pointer (some ⟨q,0,none⟩)):=by
   obtain⟨_,⟨rfl,_⟩|⟨_,⟨q,_,rfl,_⟩,_,_⟩⟩:=hz
   ·rw[ze _ (by omega)];exact .inl ⟨_,rfl⟩
   exact .inr ⟨q,rfl⟩
  clear hz b1 CK
  rcases hform with ⟨z,rfl⟩|⟨q,rfl⟩
  all_goals
   go_wp2_with fail
   go_ret3
   exact FIN.out
 have hcz:=jgp hb0
 rw[hcz]at hz
 have hdo:doB l eds=jgY 0 l eds:=by unfold doB;rw[hcz];rfl
 obtain⟨⟨c1,c40⟩,hgood⟩:=yN hb0
 have GOOD:=jnc hgood
 have HCZ:=jnc hcz
 have HDO:=jnc hdo
 obtain⟨_,⟨rfl,_⟩|⟨_,_,_,hx⟩⟩:=hz
 rotate_left
 ·exact absurd rfl hx
 have C1:=HC.out.below b1 (jnd _)
 have CP:=jnc (jgm lb0 ev0 ps0 l.next w1 C1.la (C1.ents (by omega)))
 have hes:Hid (ps0.map Prod.fst=l.es):=C1.es
 unfold ptr at CP
 clear C1 hgood hcz hdo hb0 CK b1
 rw[show qm 0=.nilIface from rfl]
 go_wp2_with fail
 refine CP.out.mono ?_
 rintro e w2 ⟨lb,ev1,ps1,rfl,hla,hpe,b2,hlb,hev,hfb⟩
 have hz12:=B1.out.size
 have C2:qb w.heap.size w2 lb ev1 ps1 l m:=by
  have c:=HC.out
  exact⟨hla,hpe.trans hes.out,c.ok,c.sz,by omega,(fun b e=>by have:=hev b e;omega),c.len,c.nx⟩
 have B2:Below w.heap.size w w2:=B1.out.trans (b2.mono hz12)
 have P2:P 0 w2 Z0:=HSH.out.keep 0 w w2 Z0 (fun _=>False) HP.out (jv.of_below B2 (jnd _)) (fun _ _ e=>e)
 have K2:∀r,Xv lb ev1 ps1 (.slice none 0 0) [] r->¬Z0 r/\w.heap.size<=r:=by
  intro r hr
  have hge:w.heap.size<=r:=by
   rcases hr with q|q|q|⟨p,hp,_,q⟩|⟨p,hp,_⟩
   ·omega
   ·have:=hev r q;omega
   ·cases q
   ·have:=hfb p hp r q;omega
   cases hp
  exact⟨fun hz=>by have:=(hZ0.out r hz).2;omega,hge⟩
 have B02:Below w0.heap.size w0 w2:=HB0.out.trans (B2.mono HB0.out.size)
 have HC2:=jnc C2
 have HP2:=jnc P2
 have HK2:=jnc K2
 have HB02:=jnc B02
 have hw2:=B2.size
 clear C2 P2 K2 B02 B2 hla hpe hev hfb b2 CP hlb hes HC HP hZ0
 go_wp2_with fail
 go_loopw [11,25] (fun gx i wr=>∃(k:Nat) (ev:Value) (ps:List Pr) (Z:Nat->Prop) (gv:Value),gv=gx/\k<=eds.length/\i=.int .i64 k/\Gh l (eds.take k)/\qb w.heap.size wr lb ev ps (ym l (eds.take k)) (m+k)/\P k wr Z /\
  (∀r,Xv lb ev ps (.slice none 0 0) [] r->¬Z r/\w.heap.size<=r)/\wr.ownsRow w.heap.size 3 1 gv (zD l (eds.take k)).length ((zD l (eds.take k)).map jel)/\(∀r,gv.ownBlock=some r->¬Z r/\¬Xv lb ev ps (.slice none 0 0) [] r)/\Below w0.heap.size w0 wr/\w.heap.size<=wr.heap.size) (fun _ i _=>eds.length-(intOf i).toNat)
 case atStart =>
  refine⟨0,ev1,ps1,Z0,.slice none 0 0,rfl,jnt _,rfl,trivial,?_,HP2.out,HK2.out,⟨rfl,.inl ⟨rfl,rfl⟩⟩,(fun r e=>by cases e),HB02.out,hw2⟩
  exact HC2.out
 case round =>
 obtain⟨k,ev,ps,Z,gv,rfl,hk,rfl,hok,hC,hPk,hK,hown,hgb,hB,hwr⟩:=hrel
 by_cases hlt:k<eds.length
 ·obtain⟨ed,hed⟩:∃ed,eds[k]?=some ed:=⟨_,jnh hlt⟩
  obtain⟨b,off,fv,rfl,hbb,c0,c1,c2,hfl⟩:=PC.out k ed hed
  obtain⟨fa,fc,rfl⟩:=hfl.form
  have hmem:=jnC hed
  replace c0:=(hB.cell (p:=⟨b,off+k*3,none⟩) hbb).trans c0
  replace c1:=(hB.cell (p:=⟨b,off+k*3+1,none⟩) hbb).trans c1
  replace c2:=(hB.cell (p:=⟨b,off+k*3+1+1,none⟩) hbb).trans c2
  obtain⟨wa,hwa⟩:∃wa,wa=wr.alloc (.cells #[.int .i64 ed.kind,.int .i64 ed.id,.slice fa ed.fields.length fc] 63):=⟨_,rfl⟩
  have hba:Below wr.heap.size wr wa:=by rw[hwa];exact(jne _ wr).alloc (jnd _) _
  have hza:wa.heap.size=wr.heap.size+1:=by rw[hwa];simp
  have hEd:ja wa wr.heap.size 63 #[.int .i64 ed.kind,.int .i64 ed.id,.slice fa ed.fields.length fc]:=by rw[hwa];exact ja.new _ _ _
  have hCa:=hC.below hba (jnd _)
  have hPa:P k wa Z:=HSH.out.keep k wr wa Z (fun _=>False) hPk (jv.of_below hba (jnd _)) (fun _ _ e=>e)
  have hBa:Below w0.heap.size w0 wa:=hB.trans (hba.mono hB.size)
  have hZlt:=HSH.out.lt k wr Z hPk
  have hlt9:∀r,Xv lb ev ps (.slice none 0 0) [] r->r<wr.heap.size:=fun r hr=>hC.str.lt hr
  have ASK:=HSH.out.ask k ed (.slice fa ed.fields.length fc) wa Z lb ev ps (m+k) hed (GOOD.out ed hmem) hPa hBa hCa (by omega) (fun r hr=>(hK r hr).1) (hfl.below hBa (jnd _)) ⟨fa,fc,rfl⟩
  have owna:wa.ownsRow w.heap.size 3 1 gv (zD l (eds.take k)).length ((zD l (eds.take k)).map jel):=zL hown hba (jnd _)
  obtain⟨ga,gc,rfl⟩:∃A c,gv=.slice A (zD l (eds.take k)).length c:=by
   rcases hown.2 with ⟨rfl,hn⟩|⟨g',cap',cur',rfl,_⟩
   ·exact⟨none,0,by rw[hn]⟩
   exact⟨_,_,rfl⟩
  have DONE:Hid (∀(W1:World) (Z':Nat->Prop),P (k+1) W1 Z'->jv Z wa W1->(∀r,Z' r->Z r\/wa.heap.size<=r) ->
    qb w.heap.size W1 lb ev ps (ym l (eds.take k)) (m+k)/\ZK W1 (.slice fa ed.fields.length fc) ed.fields/\ja W1 wr.heap.size 63 #[.int .i64 ed.kind,.int .i64 ed.id,.slice fa ed.fields.length fc]/\Below w0.heap.size w0 W1/\W1.ownsRow w.heap.size 3 1 (.slice ga (zD l (eds.take k)).length gc) (zD l (eds.take k)).length ((zD l (eds.take k)).map jel)/\(∀r,Z' r->¬(r=lb\/ev.ownBlock=some r))/\wr.heap.size<W1.heap.size):=by
   intro W1 Z' hP1 ho hz'
   have hB1:Below w0.heap.size w0 W1:=hBa.trans (ho.to_below hBa.size (fun r hr e=>by have:=(hZlt r e).1;omega))
   refine⟨hCa.only ho (fun r hr=>(hK r hr).1),hfl.below hB1 (jnd _),hEd.only ho (fun e=>by have:=(hZlt _ e).2;omega),hB1,jN owna ho (fun r e=>(hgb r e).1),?_,by have:=ho.size;omega⟩
   intro r hr hs
   have hbl:Xv lb ev ps (.slice none 0 0) [] r:=by
    rcases hs with q|q
    ·exact .inl q
    exact .inr (.inl q)
   rcases hz' r hr with q|q
   ·exact(hK r hbl).1 q
   have:=hlt9 r hbl;omega
  have EDIT:Hid (∀(W1 W2:World) (Z':Nat->Prop) (u ev':Value) (ps':List Pr),P (k+1) W1 Z'->jv Z wa W1->(∀r,Z' r->Z r\/wa.heap.size<=r)->WrR W1 lb ev ps (zC (ym l (eds.take k)) ed) u W2 ev' ps' ->
    qb w.heap.size W2 lb ev' ps' (ym l (eds.take (k+1))) (m+(k+1))/\P (k+1) W2 Z'/\(∀r,Xv lb ev' ps' (.slice none 0 0) [] r->¬Z' r/\w.heap.size<=r)/\W2.ownsRow w.heap.size 3 1 (.slice ga (zD l (eds.take k)).length gc) (zD l (eds.take k)).length ((zD l (eds.take k)).map jel) /\
    (∀r,(Value.slice ga (zD l (eds.take k)).length gc).ownBlock=some r->¬Z' r/\¬Xv lb ev' ps' (.slice none 0 0) [] r)/\Below w0.heap.size w0 W2/\ja W2 wr.heap.size 63 #[.int .i64 ed.kind,.int .i64 ed.id,.slice fa ed.fields.length fc]/\wr.heap.size<W2.heap.size):=by
   intro W1 W2 Z' u ev' ps' hP1 ho hz' hR
   obtain⟨d1,_,d3,d4,d5,d6,d7⟩:=DONE.out W1 Z' hP1 ho hz'
   have hZ'lt:=HSH.out.lt (k+1) W1 Z' hP1
   have hgl:∀r,(Value.slice ga (zD l (eds.take k)).length gc).ownBlock=some r->r<wr.heap.size:=fun r e=>(hown.lt r e).2
   refine⟨?_,HSH.out.keep (k+1) W1 W2 Z' _ hP1 hR.only d6,?_,jN d5 hR.only ?_,?_,?_,?_,?_⟩
   ·have q:=d1.blkEd (HS.out ed hmem).1 (HS.out ed hmem).2 (by omega) hR
    rw[jfj hed];exact q
   ·intro r hr
    rcases hR.blks hr with q|q
    ·refine⟨fun e => ?_,(hK r q).2⟩
     rcases hz' r e with e|e
     ·exact(hK r q).1 e
     have:=hlt9 r q;omega
    refine⟨fun e=>by have:=(hZ'lt r e).2;omega,by omega⟩
   ·intro r e hs
    refine(hgb r e).2 ?_
    rcases hs with q|q
    ·exact .inl q
    exact .inr (.inl q)
   ·intro r e
    have h1:=hgl r e
    refine⟨fun z => ?_,fun hr => ?_⟩
    ·rcases hz' r z with q|q
     ·exact(hgb r e).1 q
     omega
    rcases hR.blks hr with q|q
    ·exact(hgb r e).2 q
    omega
   ·refine d4.trans (hR.only.to_below d4.size (fun r hr e => ?_))
    have hbl:Xv lb ev ps (.slice none 0 0) [] r:=by
     rcases e with q|q
     ·exact .inl q
     exact .inr (.inl q)
    have h1:=(hK r hbl).2
    have h2:=HB0.out.size
    omega
   ·refine d3.only hR.only (fun e => ?_)
    have hbl:Xv lb ev ps (.slice none 0 0) [] wr.heap.size:=by
     rcases e with q|q
     ·exact .inl q
     exact .inr (.inl q)
    have:=hlt9 _ hbl
    omega
   have:=hR.only.size;omega
  have OKS:Hid ((zC (ym l (eds.take k)) ed).bad=0->Gh l (eds.take (k+1))):=fun h=>je9 hed hok h
  have AT:Hid ((zC (ym l (eds.take k)) ed).bad≠0->doB l eds=(((k:Nat):Int),(zC (ym l (eds.take k)) ed).bad)):=fun h=>by rw[HDO.out];exact jkQ hed hok h
  have IDS:Hid (zD l (eds.take (k+1))=zD l (eds.take k)++(if ed.kind=3 then [(zC (ym l (eds.take k)) ed).id] else [])):=jdx hed
  have hidl:(zD l (eds.take k)).length<=51:=by
   have h1:=jfG l (eds.take k)
   rw[jnk]at h1
   omega
  have h11:=jjG (ym l (eds.take k)) ed
  have F7:=jnc (HF.out ed hmem)
  have HASK:=jnc ASK
  clear hed hok hC hPk hK hown hgb hB hba hEd hCa hPa hBa hZlt hlt9 ASK owna hfl hmem
  generalize hst:zC (ym l (eds.take k)) ed=st at *
  have HST:=jnc hst
  clear hst
  generalize hids:zD l (eds.take k)=ids at *
  clear hids
  unfold ptr at HASK
  subst hwa
  go_wp2_with fail
  refine HASK.out.mono ?_
  rintro e W1 ⟨rfl,Z',hP1,ho1,hz1'⟩
  obtain⟨d1,d2,d3,d4,d5,d6,d7⟩:=DONE.out W1 Z' hP1 ho1 hz1'
  have DO:=jkR d1 (by omega) ed (.slice fa ed.fields.length fc) d2 F7.out
  rw[HST.out]at DO
  have DO:=jnc DO
  have e0:W1.cell? ⟨wr.heap.size,0,none⟩=some (.int .i64 ed.kind):=by rw[d3.cell 0];rfl
  have e1:W1.cell? ⟨wr.heap.size,1,none⟩=some (.int .i64 ed.id):=by rw[d3.cell 1];rfl
  have e2:W1.cell? ⟨wr.heap.size,2,none⟩=some (.slice fa ed.fields.length fc):=by rw[d3.cell 2];rfl
  have HP1:=jnc hP1
  have HO1:=jnc ho1
  have HZ1:=jnc hz1'
  clear d1 d2 d3 d4 d5 d6 hP1 ho1 hz1' HASK DONE
  unfold ptr at DO
  go_wp2_with fail
  refine DO.out.mono ?_
  rintro e W2 ⟨u,ev',ps',rfl,hR⟩
  obtain⟨f1,f2,f3,f4,f5,f6,f7,f8⟩:=EDIT.out W1 W2 Z' u ev' ps' HP1.out HO1.out HZ1.out hR
  have herr:=hR.err
  clear hR EDIT DO e0 e1 e2
  by_cases hb0:st.bad=0
  ·obtain⟨_,⟨rfl,_⟩|⟨_,_,_,hx⟩⟩:=herr
   rotate_left
   ·exact absurd hb0 hx
   rw[show qm st.bad=.nilIface by rw[hb0];rfl]
   have OK1:=jnc (OKS.out hb0)
   have g0:W2.cell? ⟨wr.heap.size,0,none⟩=some (.int .i64 ed.kind):=by rw[f7.cell 0];rfl
   by_cases h3:ed.kind=3
   ·have IDS1:=IDS.out
    rw[if_pos h3]at IDS1
    have IDS1:=jnc IDS1
    have HV9:Hid (∀(j:Nat) (u:Value),[jel st.id][j]?=some u->(W2.alloc (.cells #[.int .i64 st.id] 3)).cell? ((⟨W2.heap.size,0,none⟩:Addr).add j)=some u):=fun j u h=>by
     have ea:(⟨W2.heap.size,0,none⟩:Addr).add j=⟨W2.heap.size,j,none⟩:=by unfold Addr.add;split<;>simp_all
     rw[ea,(ja.new W2 3 #[.int .i64 st.id]).cell j]
     simpa [jel]using h
    have HF1:=jnc f1
    have HF2:=jnc f2
    have HF3:=jnc f3
    have HF4:=jnc f4
    have HF5:=jnc f5
    have HF6:=jnc f6
    clear f1 f2 f3 f4 f5 f6 f7 IDS AT OKS
    rw[h3]at g0
    go_wp2_with (at_builtin;refine jW rfl _ _ 23 rfl w.heap.size 3 i0 _ 1 8 underlying23 hi hz0 hz1 hz2 rfl (by decide) _ _ _ rfl (HF4.out.alloc _) ⟨W2.heap.size,0,none⟩ 1 1 _ rfl rfl HV9.out (by intro u hu;simp at hu;subst hu;rfl) (by unfold maxLen;omega) (by omega) (by simp only[jnB];omega) ?_)
    intro gv' W4 own4 grow4 at4
    have at4':=at4.out
    have o4:jv (fun r=>(Value.slice ga ids.length gc).ownBlock=some r) W2 W4 :=
     (jv.of_below (S:=fun r=>(Value.slice ga ids.length gc).ownBlock=some r) ((jne _ W2).alloc (jnd _) (.cells #[.int .i64 st.id] 3)) (jnd _)).grown grow4 (fun r e=>.inl e)
    have hgl:∀r,(Value.slice ga ids.length gc).ownBlock=some r->w.heap.size<=r/\r<W2.heap.size:=fun r e=>HF4.out.lt r e
    have hblt:∀r,Xv lb ev' ps' (.slice none 0 0) [] r->r<W2.heap.size:=fun r hr=>HF1.out.str.lt hr
    have hZlt:=HSH.out.lt (k+1) W2 Z' HF2.out
    have R1:qb w.heap.size W4 lb ev' ps' (ym l (eds.take (k+1))) (m+(k+1)):=HF1.out.only o4 (fun r hr e=>(HF5.out r e).2 hr)
    have R2:P (k+1) W4 Z':=HSH.out.keep (k+1) W2 W4 Z' _ HF2.out o4 (fun r hr e=>(HF5.out r e).1 hr)
    have R4:W4.ownsRow w.heap.size 3 1 gv' (zD l (eds.take (k+1))).length ((zD l (eds.take (k+1))).map jel):=by
     rw[IDS1.out,jnf,jol];exact own4
    have R5:∀r,gv'.ownBlock=some r->¬Z' r/\¬Xv lb ev' ps' (.slice none 0 0) [] r:=by
     intro r e
     rcases at4' with q|q
     ·exact HF5.out r (by rw[<- q];exact e)
     rw[q]at e
     have e':W2.heap.size+1=r:=by simpa using e
     exact⟨fun z=>by have:=(hZlt r z).2;omega,fun z=>by have:=hblt r z;omega⟩
    have R6:Below w0.heap.size w0 W4:=HF6.out.trans (o4.to_below HF6.out.size (fun r hr e=>by have:=(hgl r e).1;have:=HB0.out.size;omega))
    have hsz:=o4.size
    have H1:=jnc R1
    have H2:=jnc R2
    have H4:=jnc R4
    have H5:=jnc R5
    have H6:=jnc R6
    clear R1 R2 R4 R5 R6 o4 hgl hblt hZlt own4 grow4 at4 at4' HV9 HF1 HF2 HF4 HF5 HF6
    go_wp2_with fail
    go_roundw
    case rel=>exact⟨k+1,ev',ps',Z',_,rfl,hlt,by go_num,OK1.out,H1.out,H2.out,HF3.out,H4.out,H5.out,H6.out,by omega⟩
    case measure=>simp[intOf];omega
   have IDS1:=IDS.out
   rw[if_neg h3,jnR]at IDS1
   have q3:(ed.kind==3)=false:=by simpa using h3
   have R4:W2.ownsRow w.heap.size 3 1 (.slice ga ids.length gc) (zD l (eds.take (k+1))).length ((zD l (eds.take (k+1))).map jel):=by rw[IDS1];exact f4
   have H1:=jnc f1
   have H2:=jnc f2
   have H3:=jnc f3
   have H4:=jnc R4
   have H5:=jnc f5
   have H6:=jnc f6
   clear f1 f2 f3 f4 f5 f6 f7 IDS AT OKS R4 IDS1
   go_wp2_with fail
   go_roundw
   case rel=>exact⟨k+1,ev',ps',Z',_,rfl,hlt,by go_num,OK1.out,H1.out,H2.out,H3.out,H4.out,H5.out,H6.out,by omega⟩
   case measure=>simp[intOf];omega
  have FA:=jnc (GR k st.bad st.at_ u W2 herr hb0 (HG.out.below f6 (jnd _)))
  have AT1:=AT.out hb0
  have hform:(∃z,u=.iface 46 (.int .i64 z))\/∃q,u=.iface 133 (.pointer (some ⟨q,0,none⟩)):=by
   obtain⟨_,⟨rfl,_⟩|⟨_,⟨q,_,rfl,_⟩,_,_⟩⟩:=herr
   ·rw[ze st.bad (by omega)];exact .inl ⟨_,rfl⟩
   exact .inr ⟨q,rfl⟩
  have FIN:Hid (∀W3 u',Below W2.heap.size W2 W3->jr W2.heap.size W3 u' k st.bad->jei w0 w W3 l m eds P (.returned (.tuple #[.pointer none,.slice none 0 0,u']))):=by
   intro W3 u' b3 hfa
   refine⟨f6.trans (b3.mono f6.size),by have:=b3.size;omega,.inl ⟨by rw[AT1];exact hb0,u',rfl,?_⟩⟩
   rw[AT1]
   exact vV.fault (hfa.mono (by omega)) hb0 h11
  clear herr f1 f2 f3 f4 f5 f6 f7 IDS AT OKS
  rcases hform with ⟨z,rfl⟩|⟨q,rfl⟩
  all_goals
   go_wp2_with fail
   refine FA.out.mono ?_
   rintro e w3 ⟨u',rfl,b3,hfa⟩
   have FIN3:=jnc (FIN.out w3 u' b3 hfa)
   clear hfa b3
   go_wp2_with fail
   go_ret3
   exact FIN3.out
 obtain rfl:k=eds.length:=by omega
 rw[jnP]at hok hC hown
 have FIN:Hid (jei w0 w wr l m eds P (.returned (.tuple #[ptr lb,gv,.nilIface]))):=by
  show jei _ _ _ _ _ _ _ _
  exact⟨hB,hwr,.inr ⟨by rw[HDO.out];exact jkP 0 l eds hok,HCZ.out,hok,lb,ev,ps,gv,Z,rfl,hC,hPk,hK,hown⟩⟩
 obtain⟨ga,gc,rfl⟩:∃A c,gv=.slice A (zD l eds).length c:=by
  rcases hown.2 with ⟨rfl,hn⟩|⟨g',cap',cur',rfl,_⟩
  ·exact⟨none,0,by rw[hn]⟩
  exact⟨_,_,rfl⟩
 clear PC hok hC hown hK hgb hPk
 unfold ptr at FIN
 go_wp2_with fail
 go_ret3
 exact FIN.out
end
namespace Rp
def qS:LS->List (List Ed)->Option LS
 | l,[]=>some l
 | l,b::r=>if (doB l b).2=0 then qS (ym l b) r else none
def jcc:LS->List (List Ed)->List (List Int)
 | _,[]=>[]
 | l,b::r=>zD l b::jcc (ym l b) r
def Jc:List (List Ed)->Nat
 | []=>0
 | b::r=>b.length+Jc r
theorem xB:∀(a b:List (List Ed)) (l:LS),qS l (a++b)=(qS l a).bind fun k=>qS k b
 | [],_,_=>rfl
 | x::a,b,l=>by
  show(if (doB l x).2=0 then qS (ym l x) (a++b) else none)=(if (doB l x).2=0 then qS (ym l x) a else none).bind _
  split
  ·exact xB a b _
  rfl
theorem XT{l k:LS}{a:List (List Ed)}{b:List Ed}(h:qS l a=some k):qS l (a++[b])=if (doB k b).2=0 then some (ym k b) else none:=by
 rw[xB,h];rfl
theorem jcb:∀(a:List (List Ed)) (l k:LS) (b:List Ed),qS l a=some k->jcc l (a++[b])=jcc l a++[zD k b]
 | [],l,k,b,h=>by cases h;rfl
 | x::a,l,k,b,h=>by
  have h':(if (doB l x).2=0 then qS (ym l x) a else none)=some k:=h
  split at h'
  ·show zD l x::jcc (ym l x) (a++[b])=zD l x::(jcc (ym l x) a++[zD k b])
   rw[jcb a _ k b h']
  cases h'
theorem jfK:∀(a:List (List Ed)) (l:LS),(jcc l a).length=a.length
 | [],_=>rfl
 | x::a,l=>by show(jcc (ym l x) a).length+1=a.length+1;rw[jfK a]
theorem JC:∀(a b:List (List Ed)),Jc (a++b)=Jc a+Jc b
 | [],b=>(jnX _).symm
 | x::a,b=>by show x.length+Jc (a++b)=x.length+Jc a+Jc b;rw[JC a b];omega
theorem KP{α:Type}{a:List α}{i:Nat}{b:α}(h:a[i]?=some b):a.take (i+1)=a.take i++[b]:=by rw[jnW,h];rfl
theorem Ut(a:List (List Ed))(i:Nat):Jc (a.take i)<=Jc a:=by
 have h:=JC (a.take i) (a.drop i)
 rw[jnQ]at h;omega
theorem jjC{a:List (List Ed)}{i:Nat}{b:List Ed}(h:a[i]?=some b):Jc (a.take (i+1))=Jc (a.take i)+b.length:=by
 rw[KP h,JC];rfl
def xm(l:LS)(bs:List (List Ed))(i:Nat):Prop:=∃k b,qS l (bs.take i)=some k/\bs[i]?=some b/\(doB k b).2≠0
theorem jdg{l k:LS}{bs:List (List Ed)}(h:qS l bs=some k)(i:Nat):∃k',qS l (bs.take i)=some k':=by
 rw[<- jnQ i bs,xB]at h
 cases hp:qS l (bs.take i) with
 | none=>rw[hp]at h;cases h
 | some k'=>exact⟨k',rfl⟩
theorem Gb{l:LS}{bs:List (List Ed)}{i j:Nat}(h:xm l bs i)(hj:i<j):qS l (bs.take j)=none:=by
 obtain⟨k,b,h1,h2,h3⟩:=h
 have e:(bs.take j).take (i+1)=bs.take i++[b]:=by rw[List.take_take,Nat.min_eq_left hj,KP h2]
 have h4:=XT (b:=b) h1
 rw[if_neg h3,<- e]at h4
 cases hp:qS l (bs.take j) with
 | none=>rfl
 | some k'=>obtain⟨k2,h5⟩:=jdg hp (i+1);rw[h4]at h5;cases h5
theorem xm.lt{l:LS}{bs:List (List Ed)}{i:Nat}(h:xm l bs i):i<bs.length:=by
 obtain⟨_,_,_,h2,_⟩:=h
 exact(List.getElem?_eq_some_iff.1 h2).1
theorem xm.not{l k:LS}{bs:List (List Ed)}{i:Nat}(h:xm l bs i)(hp:qS l bs=some k):False:=by
 have:=Gb h h.lt
 rw[jnP,hp]at this;cases this
def jjq(bs:List (List Ed)):Prop:=∀b∈bs,b.length<=51/\Xk b/\Xg b
theorem jjq.take{bs:List (List Ed)}(h:jjq bs)(i:Nat):jjq (bs.take i):=fun b hb=>h b (jog hb)
def BtV(w:World)(v:Value)(bs:List (List Ed)):Prop :=
 ∃A cap,v=.slice A bs.length cap/\bs.length<=cap/\∀(i:Nat) b,bs[i]?=some b->∃g off u,A=some ⟨g,off,none⟩/\g<w.heap.size/\w.cell? ⟨g,off+i,none⟩=some u/\EdV w u b
theorem BtV.below{w w':World}{v:Value}{bs:List (List Ed)}{N:Nat}(h:BtV w v bs)(hb:Below N w w')(hN:w.heap.size<=N):BtV w' v bs:=by
 obtain⟨A,cap,e,hle,hc⟩:=h
 refine⟨A,cap,e,hle,fun i b hi => ?_⟩
 obtain⟨g,off,u,e1,hg,c,hu⟩:=hc i b hi
 exact⟨g,off,u,e1,jnw hg hb.size,(hb.cell (p:=⟨g,off+i,none⟩) (show g<N by omega)).trans c,hu.below hb hN⟩
theorem BtV.take{w:World}{A:Option Addr}{n c:Nat}{bs:List (List Ed)}(h:BtV w (.slice A n c) bs){k:Nat}(hk:k<=bs.length):BtV w (.slice A k c) (bs.take k):=by
 obtain⟨A',cap,e,hle,hc⟩:=h
 injection e with e1 e2 e3
 subst e1 e2 e3
 have hl:(bs.take k).length=k:=by rw[jnk];omega
 refine⟨A,c,by rw[hl],by omega,fun i b hi => ?_⟩
 rw[jnS]at hi
 split at hi
 ·exact hc i b hi
 cases hi
structure jaC(lo:Nat)(w:World)(gv:Value)(gs:List (List Int))(us:List Value):Prop where
 row:w.ownsRow lo 23 1 gv gs.length us
 each:∀(i:Nat) g u,gs[i]?=some g->us[i]?=some u->w.ownsRow lo 3 1 u g.length (g.map jel)
theorem jaC.nil(lo:Nat)(w:World):jaC lo w (.slice none 0 0) [] []:=⟨⟨rfl,.inl ⟨rfl,rfl⟩⟩,fun i b u h1 h2=>by simp at h1⟩
theorem jaC.len{lo:Nat}{w:World}{gv:Value}{gs:List (List Int)}{us:List Value}(h:jaC lo w gv gs us):us.length=gs.length:=by have:=h.row.1;omega
def jd5(gen:Int)(s:List UInt8)(A:Option Addr)(n c:Nat)(ea:Option Addr)(en ec:Nat)(tl:ByteArray):Value:=.agg #[.int .i64 gen,.string (B s),.slice A n c,.slice ea en ec,.string tl]
end Rp
section
attribute [local go_sem] jnn
def jjn(_:Nat)(_:World)(Z:Nat->Prop):Prop:=∀r,¬Z r
theorem jc1(w0:World)(N1:Nat)(l0:LS)(eds:List Ed):jmb 84 #[] w0 N1 l0 eds jjn:=by
 refine⟨enters_of func84 (by kernel_rfl) rfl,fun j W Z h r hr=>absurd hr (h r),fun j W W' Z S h _ _=>h,?_⟩
 intro j ed fv W Z lb ev ps m hed _ hP hB hC hm hZ hfl hform
 obtain⟨fa,fc,rfl⟩:=hform
 have hb:Below W.heap.size W (W.alloc (.cells #[.int .i64 ed.kind,.int .i64 ed.id,.slice fa ed.fields.length fc] 63)):=(jne _ W).alloc (jnd _) _
 have H:Hid (∃Z',jjn (j+1) (W.alloc (.cells #[.int .i64 ed.kind,.int .i64 ed.id,.slice fa ed.fields.length fc] 63)) Z'/\jv Z W (W.alloc (.cells #[.int .i64 ed.kind,.int .i64 ed.id,.slice fa ed.fields.length fc] 63))/\∀r,Z' r->Z r\/W.heap.size<=r) :=
  ⟨Z,hP,jv.of_below hb (jnd _),fun r hr=>.inl hr⟩
 clear hed hP hB hC hZ hfl hb
 unfold ptr
 show Calls _ _ #[.pointer (some ⟨lb,0,none⟩),.agg #[.int .i64 ed.kind,.int .i64 ed.id,.slice fa ed.fields.length fc]] _ _
 go_enter func84,ntmps84
 go_wp2_with fail
 go_end0
 exact⟨rfl,H.out⟩
def DoR(w w':World)(l:LS)(m:Nat)(eds:List Ed)(e:Ending):Prop :=
 Below w.heap.size w w' /\
 (((doB l eds).2≠0/\∃u,e=.returned (.tuple #[.pointer none,.slice none 0 0,u])/\vV w.heap.size w' u (doB l eds).1 (doB l eds).2) \/
 (doB l eds=(-9,0)/\vS eds=(-9,0)/\Gh l eds/\∃lb ev ps gv,e=.returned (.tuple #[ptr lb,gv,.nilIface])/\qb w.heap.size w' lb ev ps (ym l eds) (m+eds.length) /\
  (∀r,Xv lb ev ps (.slice none 0 0) [] r->w.heap.size<=r)/\w'.ownsRow w.heap.size 3 1 gv (zD l eds).length ((zD l eds).map jel)))
theorem jjp{S00:Nat}{w:World}(eds:List Ed)(v:Value)(hv:EdV w v eds)(hl:eds.length<=51)(hf:Xk eds)(hsm:Xg eds)(hg:ErrT w)
  {lb0:Nat} {ev0:Value} {ps0:List Pr} {l:LS} {m:Nat} (C:qb S00 w lb0 ev0 ps0 l m) (hm:m<=5000) :
  Calls prog 45 #[ptr lb0,v] w fun e w'=>DoR w w' l m eds e:=by
 have PL:=jnc (Wg (jne _ w) eds v hv hl hf hsm hg C hm (jc1 w w.heap.size l eds) (Z0:=fun _=>False) (fun _ h=>h))
 obtain⟨A,cap,rfl,_⟩:=hv
 unfold ptr at *
 clear hf hsm hg C
 go_enter func45,ntmps45
 go_wp2_with fail
 refine PL.out.mono ?_
 rintro e w1 ⟨b1,_,⟨h0,u,rfl,hz⟩|⟨h1,h2,h3,lb,ev,ps,gv,Z,rfl,hC,_,hK,hown⟩⟩
 ·have R:Hid (DoR w w1 l m eds (.returned (.tuple #[.pointer none,.slice none 0 0,u]))):=⟨b1,.inl ⟨h0,u,rfl,hz⟩⟩
  clear hz b1 PL
  go_wp2_with fail
  go_ret3
  exact R.out
 have R:Hid (DoR w w1 l m eds (.returned (.tuple #[.pointer (some ⟨lb,0,none⟩),gv,.nilIface]))):=⟨b1,.inr ⟨h1,h2,h3,lb,ev,ps,gv,rfl,hC,(fun r hr=>(hK r hr).2),hown⟩⟩
 clear hC hK hown b1 PL
 unfold ptr
 go_wp2_with fail
 go_ret3
 exact R.out
end
namespace Rp
attribute [local go_sem] jnn
theorem jkm:(prog.info? 23).map (fun i=>(i.zero,i.size,i.bytes))=some (some (.slice none 0 0),1,24):=by kernel_rfl
theorem jaC.below{lo:Nat}{w w':World}{gv:Value}{gs:List (List Int)}{us:List Value}{N:Nat}(h:jaC lo w gv gs us)(hb:Below N w w')(hN:w.heap.size<=N):jaC lo w' gv gs us :=
 ⟨zL h.row hb hN,fun i g u h1 h2=>zL (h.each i g u h1 h2) hb hN⟩
theorem jaC.box{lo:Nat}{w w':World}{gv:Value}{gs:List (List Int)}{us:List Value}{t:TypeId}{b:Nat}{cur:Array Value}(h:jaC lo w gv gs us)(hc:ja w b t cur)(t0:23≠t)(t1:3≠t)(o:jv (· = b) w w'):jaC lo w' gv gs us :=
 ⟨jN h.row o (fun r e q=>jB h.row hc t0 (by rw[e,q])),fun i x u h1 h2=>jN (h.each i x u h1 h2) o (fun r e q=>jB (h.each i x u h1 h2) hc t1 (by rw[e,q]))⟩
theorem jaC.snoc{lo:Nat}{w w':World}{gv gv' u:Value}{gs:List (List Int)}{us:List Value}{g:List Int}(h:jaC lo w gv gs us)(hO:w.ownsRow lo 3 1 u g.length (g.map jel))(own:w'.ownsRow lo 23 1 gv' (gs.length+1) (us++[u]))(o:jv (fun r=>gv.ownBlock=some r) w w'):jaC lo w' gv' (gs++[g]) (us++[u]):=by
 refine⟨by rw[jnf];exact own,fun i x v h1 h2 => ?_⟩
 rw[List.getElem?_append]at h1 h2
 rw[h.len]at h2
 split at h1
 ·rename_i hi
  rw[if_pos hi]at h2
  exact jN (h.each i x v h1 h2) o (fun b e q=>qq h.row (h.each i x v h1 h2) (by decide) b q e)
 rename_i hi
 rw[if_neg hi]at h2
 rw[List.getElem?_singleton]at h1 h2
 split at h1
 ·rename_i hz
  rw[if_pos hz]at h2
  obtain rfl:=jng h1
  obtain rfl:=jng h2
  exact jN hO o (fun b e q=>qq h.row hO (by decide) b q e)
 cases h1
structure jaA(lo:Nat)(w:World)(pb:Nat)(first:Int)(l:LS)(m:Nat)(gs:List (List Int)):Prop where
 is:∃lb ev ps gv us,ja w pb 228 #[ptr lb,.int .i64 first,gv]/\qb lo w lb ev ps l m/\jaC lo w gv gs us
 lo:lo<=pb
theorem jlF(w3:World)(T:TypeId)(x:Value):∀(j:Nat) (u:Value),[x][j]?=some u->(w3.alloc (.cells #[x] T)).cell? ((⟨w3.heap.size,0,none⟩:Addr).add j)=some u:=fun j u h=>by
 have ea:(⟨w3.heap.size,0,none⟩:Addr).add j=⟨w3.heap.size,j,none⟩:=by unfold Addr.add;split<;>simp_all
 rw[ea,(ja.new w3 T #[x]).cell j]
 simpa using h
def jmR(lo:Nat)(w w':World)(pb:Nat)(first:Int)(l:LS)(m:Nat)(gs:List (List Int))(b:List Ed)(e:Ending):Prop :=
 Below lo w w'/\(((doB l b).2≠0/\e=.returned (.bool false))\/((doB l b).2=0/\e=.returned (.bool true)/\jaA lo w' pb first (ym l b) (m+b.length) (gs++[zD l b])))
theorem jab{lo:Nat}{w:World}{pb:Nat}{first:Int}{l:LS}{m:Nat}{gs:List (List Int)}(H:jaA lo w pb first l m gs)(b:List Ed)(v:Value)(hv:EdV w v b)(hs:b.length<=51/\Xk b/\Xg b)(hg:ErrT w)(hm:m<=5000)(hgs:gs.length<=1000000):
  Calls prog 202 #[.pointer (some ⟨pb,0,none⟩),v] w fun e w'=>jmR lo w w' pb first l m gs b e:=by
 obtain⟨i2,hiB,hB0,hB1,hBb⟩:=info_parts jkm
 obtain⟨lb,ev,ps,gv,us,C,CY,G⟩:=H.is
 have DO:=jnc (jjp b v hv hs.1 hs.2.1 hs.2.2 hg CY hm)
 obtain⟨ga,gc,rfl,_⟩:=jg G.row
 obtain⟨A,cap,rfl,_⟩:=_root_.id hv
 have k0:=C.cell 0
 have k2:=C.cell 2
 simp only[jnl,jnp,jnj]at k0 k2
 have HC:=jnc C
 have HG:=jnc G
 have hlo:=H.lo
 have hlt:=C.lt
 clear H C CY G hv hg hs
 unfold ptr at *
 go_enter func202,ntmps202
 go_wp2_with fail
 refine DO.out.mono ?_
 rintro e w1 ⟨b1,⟨h0,u,rfl,hz⟩|⟨h0,_,_,lb1,ev1,ps1,g1,rfl,C1,K1,own1⟩⟩
 ·have B1:Hid (Below lo w w1):=b1.mono (by omega)
  have hform:(∃z,u=.iface 46 (.int .i64 z))\/∃q,u=.iface 133 (.pointer (some ⟨q,0,none⟩)):=by
   obtain⟨_,⟨rfl,_⟩|⟨_,⟨q,_,rfl,_⟩,_,_⟩⟩:=hz
   ·rw[ze _ (by omega)];exact .inl ⟨_,rfl⟩
   exact .inr ⟨q,rfl⟩
  clear hz b1 DO
  rcases hform with ⟨z,rfl⟩|⟨q,rfl⟩
  all_goals
   go_wp2_with fail
   go_ret
   exact⟨B1.out,.inl ⟨h0,rfl⟩⟩
 obtain⟨g1a,g1c,rfl,_⟩:=jg own1
 have C1':=je HC.out b1 hlt
 have G1':=HG.out.below b1 (jnd _)
 have B1:=jnc (show Below lo w w1 from b1.mono (by omega))
 have hz1:=b1.size
 have q2:=C1'.cell 2
 simp only[jnl,jnp,jnj]at q2
 have HC1:=jnc C1'
 have HG1:=jnc G1'
 have HCY:=jnc C1
 have HK1:Hid (∀r,Xv lb1 ev1 ps1 (.slice none 0 0) [] r->w.heap.size<=r):=K1
 have HO1:=jnc own1
 have hlo1:lo<=w1.heap.size:=by omega
 clear b1 C1 K1 own1 DO C1' G1' k0 k2
 unfold ptr
 go_wp2_with (at_builtin;refine jW rfl _ _ 226 rfl lo 23 i2 _ 1 24 underlying226 hiB hB0 hB1 hBb rfl (by decide) _ _ _ rfl (HG1.out.row.alloc _) _ 1 1 [.slice g1a (zD l b).length g1c] rfl rfl (jlF _ _ _) (by intro u hu;simp at hu;subst hu;rfl) (by unfold maxLen;omega) (by omega) (by simp only[jnB];omega) ?_)
 intro gv8 W8 own8 grow8 at8
 have hb8:Below w1.heap.size w1 (w1.alloc (.cells #[.slice g1a (zD l b).length g1c] 23)):=(jne _ _).alloc (jnd _) _
 have o8:jv (fun r=>(Value.slice ga gs.length gc).ownBlock=some r) w1 W8:=(jv.of_below (S:=fun r=>(Value.slice ga gs.length gc).ownBlock=some r) hb8 (jnd _)).grown grow8 (fun r e=>.inl e)
 have G8:=HG1.out.snoc (zk HO1.out (by omega)) own8 o8
 have K8:=HC1.out.only o8 (fun e=>jB HG1.out.row HC1.out (by decide) e)
 have Y8:=HCY.out.only o8 (fun r hr e=>by have:=HK1.out r hr;have:=(HG.out.row.lt r e).2;omega)
 have B8:=B1.out.trans (o8.to_below hlo1 (fun r hr e=>by have:=(HG1.out.row.lt r e).1;omega))
 obtain⟨ga8,gc8,rfl,_⟩:=jg own8
 have K9:=(K8.set 0 (.pointer (some ⟨lb1,0,none⟩))).set 2 (.slice ga8 (gs.length+1) gc8)
 rw[show((#[Value.pointer (some ⟨lb,0,none⟩),.int .i64 first,.slice ga gs.length gc]:Array Value).setIfInBounds 0 (.pointer (some ⟨lb1,0,none⟩))).setIfInBounds 2 (.slice ga8 (gs.length+1) gc8)=#[.pointer (some ⟨lb1,0,none⟩),.int .i64 first,.slice ga8 (gs.length+1) gc8] from rfl]at K9
 have o9:jv (· = pb) W8 ((W8.setCell ⟨pb,0,none⟩ (.pointer (some ⟨lb1,0,none⟩))).setCell ⟨pb,2,none⟩ (.slice ga8 (gs.length+1) gc8)):=((jv.refl (· = pb) W8).cellS 0 _).cellS 2 _
 have G9:=G8.box K8 (by decide) (by decide) o9
 have Y9:=Y8.only o9 (fun r hr e=>by have:=HK1.out r hr;omega)
 have B9:=jnc (B8.trans (o9.to_below (by have:=o8.size;omega) (fun r hr e=>by omega)))
 have FIN:=jnc (show jaA lo _ pb first (ym l b) (m+b.length) (gs++[zD l b]) from⟨⟨lb1,_,_,_,_,K9,⟨Y9.la,Y9.es,Y9.ok,Y9.sz,by have:=Y9.lb0;omega,fun b e=>by have:=Y9.ev0 b e;omega,Y9.len,Y9.nx⟩,G9⟩,hlo⟩)
 have c0:=K8.cell 0
 have c2:=K8.cell 2
 have f0:=K8.frozen 0
 have f2:=K8.frozen 2
 simp only[jnl,jnp,jnj]at c0 c2
 have hd:=congrArg Prod.snd h0
 clear own8 grow8 at8 hb8 o8 G8 K8 Y8 B8 K9 o9 G9 Y9 q2 h0
 go_wp2_with fail
 go_ret
 exact⟨B9.out,.inr ⟨hd,rfl,FIN.out⟩⟩
end Rp
def more:List Ln->List (List UInt8)
 | []=>[]
 | x::xs=>if jL x.text=3 then x.text::more xs else []
structure RS where
 out:List It
 kind:Int
 raw:List UInt8
 fields:List Fld
 records:Nat
 prev:Nat
theorem Zq:∀(l:List UInt8),(∀j:Nat,l[j]?≠some 10)->head l=l/\nl l=false/\qI l=l.length
 | [],_=>⟨rfl,rfl,rfl⟩
 | a::t,hn=>by
  have ha:a≠10:=fun e=>hn 0 (by rw[e];rfl)
  obtain⟨h1,h2,h3⟩:=Zq t (fun j=>by have:=hn (j+1);simpa using this)
  have e1:head (a::t)=a::head t:=by simp[head,ha]
  have e2:nl (a::t)=nl t:=by simp[nl,Ne.symm ha]
  refine⟨by rw[e1,h1],by rw[e2,h2],?_⟩
  unfold qI at h3 ⊢
  rw[e1,e2,jni];simp only[jni];omega
section
attribute [local go_sem] jnn
end
section
attribute [local go_sem] jnn
theorem jfS{w:World}{v:Value}{fs:List Fld}{b:Nat}{T:TypeId}{cur:Array Value}(h:Xj w v fs)(hne:fs≠[])(hb:v.ownBlock=some b)(hc:ja w b T cur)(hn:∀x∈cur,∀s,x ≠ .string s):False:=by
 obtain⟨A,cap,rfl,hle,hcs⟩:=h
 obtain⟨f,hf⟩:∃f,fs[0]?=some f:=by
  cases fs with
  | nil=>exact absurd rfl hne
  | cons a r=>exact⟨a,rfl⟩
 obtain⟨b',off,rfl,_,c0,_⟩:=hcs 0 f hf
 have e:b'=b:=by cases hb;rfl
 subst e
 rw[Nat.zero_mul,jo4,hc.cell off]at c0
 exact hn _ (Array.mem_of_getElem? c0) _ rfl
end
end Go.Proofs.YtpibhbjmcmfnmaaGreatDoor
