/- Texts put together:EI,GE,N0,EK,GH,RM,EJ,RO. -/
import Derived.StillTail
import Derived.Test.YtbapfpekklcicaaGreatDoorBtx17
set_option linter.unusedVariables false
set_option maxRecDepth 100000
set_option maxHeartbeats 16000000
namespace Go.Proofs.YtbapfpekklcicaaGreatDoor
open Go.RowKit Go.Shelf Tryz
section
attribute [local go_sem] joY
def jbJ(eds:List Ed):Prop:=∀ed∈eds,(jO ed.fields).length<=100000/\ed.fields.length<=1000000
def Kr(z:Int):Value:=.int .i64 z
theorem jdD:(prog.info? 3).map (fun i=>(i.zero,i.size,i.bytes))=some (some (.int .i64 0),1,8):=by kernel_rfl
def jfy(w0 w w':World)(l:LS)(m:Nat)(eds:List Ed)(P:Nat->World->(Nat->Prop)->Prop)(e:Ending):Prop :=
 Below w0.heap.size w0 w'/\w.heap.size<=w'.heap.size /\
 (((doB l eds).2≠0/\∃u,e=.returned (.tuple #[.pointer none,.slice none 0 0,u])/\vE w.heap.size w' u (doB l eds).1 (doB l eds).2) \/
 (doB l eds=(-9,0)/\qw eds=(-9,0)/\Wc l eds/\∃lb ev ps gv Z,e=.returned (.tuple #[ptr lb,gv,.nilIface])/\zM w.heap.size w' lb ev ps (zH l eds) (m+eds.length)/\P eds.length w' Z /\
  (∀r,Ky lb ev ps (.slice none 0 0) [] r->¬Z r/\w.heap.size<=r)/\w'.ownsRow w.heap.size 3 1 gv (zc l eds).length ((zc l eds).map Kr)))
theorem UU{c7:Nat}{D w:World}(av:Below D.heap.size D w)(eds:List Ed)(v:Value)(hv:EdV D v eds)(hl:eds.length<=51)(hf:Kd eds)(bM:jbJ eds)(hg:ErrT D)
  {aT:Nat} {bA:Value} {aV:List Pr} {l:LS} {m:Nat} (C:zM c7 w aT bA aV l m) (hm:m<=5000) {g:Nat} {cb:Array Value} {P:Nat->World->(Nat->Prop)->Prop} (SH:jnC g cb D w.heap.size l eds P) {Z0:Nat->Prop} (hP:P 0 w Z0) :
  Calls prog 177 #[ptr aT,v,.func (.func g) #[] cb] w fun e w'=>jfy D w w' l m eds P e:=by
 obtain⟨i0,hi,ck,cl,cm⟩:=info_parts jdD;have W:=joI av
 have CK:=joI (jfn eds v w (hv.below av (joJ _)) (by omega) hf (hg.below av (joJ _)));obtain⟨A,cr,rfl,cu,hc⟩:=_root_.id hv;have PC:=joI hc
 have HF:=joI hf;have HS:=joI bM
 have HG:=joI hg;have HV:=joI hv
 have HC:=joI C;have I:=joI SH
 have HP:=joI hP;have ct:=SH.eg
 have bG:=joI (SH.lt 0 w Z0 hP);clear hc hf bM hg hv C hP SH av;unfold ptr;go_enter func177,ntmps177;go_wp2_with fail;refine CK.out.mono ?_;rintro e w1 ⟨u,rfl,b1,hz⟩;have B1:=joI b1
 by_cases f:(qw eds).2=0;rotate_left
 ·have aj:doB l eds=qw eds:=by unfold doB;rw[if_neg f]
  have V:Hid (jfy D w w1 l m eds P (.returned (.tuple #[.pointer none,.slice none 0 0,u]))):=by show jfy _ _ _ _ _ _ _ _;refine⟨W.out.trans (b1.mono W.out.size),b1.size,.inl ⟨by rw[aj];exact f,u,rfl,by rw[aj];exact hz⟩⟩
  have N:(∃z,u=.iface 54 (.int .i64 z))\/∃q,u=.iface 87 (.pointer (some ⟨q,0,none⟩)):=by
   obtain⟨_,⟨rfl,_⟩|⟨_,⟨q,_,rfl,_⟩,_,_⟩⟩:=hz
   ·rw[zf _ (by omega)];exact .inl ⟨_,rfl⟩
   exact .inr ⟨q,rfl⟩
  clear hz b1 CK;rcases N with ⟨z,rfl⟩|⟨q,rfl⟩
  all_goals
   go_wp2_with fail;go_ret3;exact V.out
 have aw:=jbw f;rw[aw]at hz;have aj:doB l eds=jhK 0 l eds:=by unfold doB;rw[aw];rfl
 obtain⟨⟨c1,cp⟩,ak⟩:=vm f;have bg:=joI ak
 have bQ:=joI aw;have bj:=joI aj
 obtain⟨_,⟨rfl,_⟩|⟨_,_,_,hx⟩⟩:=hz;rotate_left
 ·exact absurd rfl hx
 have C1:=HC.out.below b1 (joJ _);have CP:=joI (jhS aT bA aV l.next w1 C1.la (C1.ents (by omega)))
 have bH:Hid (aV.map Prod.fst=l.es):=C1.es;unfold ptr at CP;clear C1 ak aw aj f CK b1;rw[show Zc 0=.nilIface from rfl];go_wp2_with fail;refine CP.out.mono ?_;rintro e w2 ⟨G,aM,aW,rfl,bK,bL,b2,ce,aQ,bI⟩;have bO:=B1.out.size
 have C2:zM w.heap.size w2 G aM aW l m:=by have c:=HC.out;exact⟨bK,bL.trans bH.out,c.ok,c.sz,by omega,(fun b e=>by have:=aQ b e;omega),c.len,c.nx⟩
 have B2:Below w.heap.size w w2:=B1.out.trans (b2.mono bO);have P2:P 0 w2 Z0:=I.out.keep 0 w w2 Z0 (fun _=>False) HP.out (jH.of_below B2 (joJ _)) (fun _ _ e=>e)
 have K2:∀r,Ky G aM aW (.slice none 0 0) [] r->¬Z0 r/\w.heap.size<=r:=by
  intro r E;have cd:w.heap.size<=r:=by
   rcases E with q|q|q|⟨p,hp,_,q⟩|⟨p,hp,_⟩
   ·omega
   ·have:=aQ r q;omega
   ·cases q
   ·have:=bI p hp r q;omega
   cases hp
  exact⟨fun hz=>by have:=(bG.out r hz).2;omega,cd⟩
 have aZ:Below D.heap.size D w2:=W.out.trans (B2.mono W.out.size);have bP:=joI C2
 have bX:=joI P2;have bT:=joI K2
 have bi:=joI aZ;have ci:=B2.size
 clear C2 P2 K2 aZ B2 bK bL aQ bI b2 CP ce bH HC HP bG;go_wp2_with fail;go_loopw [11,25] (fun gx i wr=>∃(k:Nat) (X:Value) (ps:List Pr) (Z:Nat->Prop) (gv:Value),gv=gx/\k<=eds.length/\i=.int .i64 k/\Wc l (eds.take k)/\zM w.heap.size wr G X ps (zH l (eds.take k)) (m+k)/\P k wr Z /\
  (∀r,Ky G X ps (.slice none 0 0) [] r->¬Z r/\w.heap.size<=r)/\wr.ownsRow w.heap.size 3 1 gv (zc l (eds.take k)).length ((zc l (eds.take k)).map Kr)/\(∀r,gv.ownBlock=some r->¬Z r/\¬Ky G X ps (.slice none 0 0) [] r)/\Below D.heap.size D wr/\w.heap.size<=wr.heap.size) (fun _ i _=>eds.length-(intOf i).toNat)
 case atStart =>
  refine⟨0,aM,aW,Z0,.slice none 0 0,rfl,joT _,rfl,trivial,?_,bX.out,bT.out,⟨rfl,.inl ⟨rfl,rfl⟩⟩,(fun r e=>by cases e),bi.out,ci⟩;exact bP.out
 case round =>
 obtain⟨k,X,ps,Z,gv,rfl,hk,rfl,O,hC,ah,hK,o,a7,hB,cj⟩:=hrel;by_cases aR:k<eds.length
 ·obtain⟨a,K⟩:∃a,eds[k]?=some a:=⟨_,joM aR⟩
  obtain⟨b,aU,fv,rfl,aP,c0,c1,c2,ay⟩:=PC.out k a K;obtain⟨fa,fc,rfl⟩:=ay.form;have L:=joW K
  replace c0:=(hB.cell (p:=⟨b,aU+k*3,none⟩) aP).trans c0;replace c1:=(hB.cell (p:=⟨b,aU+k*3+1,none⟩) aP).trans c1;replace c2:=(hB.cell (p:=⟨b,aU+k*3+1+1,none⟩) aP).trans c2;obtain⟨U,aB⟩:∃U,U=wr.alloc (.cells #[.int .i64 a.kind,.int .i64 a.id,.slice fa a.fields.length fc] 75):=⟨_,rfl⟩
  have ai:Below wr.heap.size wr U:=by rw[aB];exact(joL _ wr).alloc (joJ _) _
  have cy:U.heap.size=wr.heap.size+1:=by rw[aB];simp
  have bE:ja U wr.heap.size 75 #[.int .i64 a.kind,.int .i64 a.id,.slice fa a.fields.length fc]:=by rw[aB];exact ja.new _ _ _
  have aN:=hC.below ai (joJ _);have bF:P k U Z:=I.out.keep k wr U Z (fun _=>False) ah (jH.of_below ai (joJ _)) (fun _ _ e=>e)
  have ag:Below D.heap.size D U:=hB.trans (ai.mono hB.size);have H:=I.out.lt k wr Z ah
  have R:∀r,Ky G X ps (.slice none 0 0) [] r->r<wr.heap.size:=fun r E=>hC.str.lt E;have aX:=I.out.ask k a (.slice fa a.fields.length fc) U Z G X ps (m+k) K (bg.out a L) bF ag aN (by omega) (fun r E=>(hK r E).1) (ay.below ag (joJ _)) ⟨fa,fc,rfl⟩
  have aH:U.ownsRow w.heap.size 3 1 gv (zc l (eds.take k)).length ((zc l (eds.take k)).map Kr):=jN o ai (joJ _);obtain⟨ga,gc,rfl⟩:∃A c,gv=.slice A (zc l (eds.take k)).length c:=by
   rcases o.2 with ⟨rfl,hn⟩|⟨g',bw,bz,rfl,_⟩
   ·exact⟨none,0,by rw[hn]⟩
   exact⟨_,_,rfl⟩
  have a8:Hid (∀(x:World) (y:Nat->Prop),P (k+1) x y->jH Z U x->(∀r,y r->Z r\/U.heap.size<=r) ->
    zM w.heap.size x G X ps (zH l (eds.take k)) (m+k)/\ZC x (.slice fa a.fields.length fc) a.fields/\ja x wr.heap.size 75 #[.int .i64 a.kind,.int .i64 a.id,.slice fa a.fields.length fc]/\Below D.heap.size D x/\x.ownsRow w.heap.size 3 1 (.slice ga (zc l (eds.take k)).length gc) (zc l (eds.take k)).length ((zc l (eds.take k)).map Kr)/\(∀r,y r->¬(r=G\/X.ownBlock=some r))/\wr.heap.size<x.heap.size):=by
   intro x y J ho am;have bC:Below D.heap.size D x:=ag.trans (ho.to_below ag.size (fun r E e=>by have:=(H r e).1;omega))
   refine⟨aN.only ho (fun r E=>(hK r E).1),ay.below bC (joJ _),bE.only ho (fun e=>by have:=(H _ e).2;omega),bC,jG aH ho (fun r e=>(a7 r e).1),?_,by have:=ho.size;omega⟩;intro r E hs;have Y:Ky G X ps (.slice none 0 0) [] r:=by
    rcases hs with q|q
    ·exact .inl q
    exact .inr (.inl q)
   rcases am r E with q|q
   ·exact(hK r Y).1 q
   have:=R r Y;omega
  have aD:Hid (∀(x d:World) (y:Nat->Prop) (u s:Value) (t:List Pr),P (k+1) x y->jH Z U x->(∀r,y r->Z r\/U.heap.size<=r)->WrR x G X ps (jM (zH l (eds.take k)) a) u d s t ->
    zM w.heap.size d G s t (zH l (eds.take (k+1))) (m+(k+1))/\P (k+1) d y/\(∀r,Ky G s t (.slice none 0 0) [] r->¬y r/\w.heap.size<=r)/\d.ownsRow w.heap.size 3 1 (.slice ga (zc l (eds.take k)).length gc) (zc l (eds.take k)).length ((zc l (eds.take k)).map Kr) /\
    (∀r,(Value.slice ga (zc l (eds.take k)).length gc).ownBlock=some r->¬y r/\¬Ky G s t (.slice none 0 0) [] r)/\Below D.heap.size D d/\ja d wr.heap.size 75 #[.int .i64 a.kind,.int .i64 a.id,.slice fa a.fields.length fc]/\wr.heap.size<d.heap.size):=by
   intro x d y u s t J ho am hR;obtain⟨d1,_,d3,d4,d5,d6,d7⟩:=a8.out x y J ho am;have aO:=I.out.lt (k+1) x y J
   have aA:∀r,(Value.slice ga (zc l (eds.take k)).length gc).ownBlock=some r->r<wr.heap.size:=fun r e=>(o.lt r e).2;refine⟨?_,I.out.keep (k+1) x d y _ J hR.only d6,?_,jG d5 hR.only ?_,?_,?_,?_,?_⟩
   ·have q:=d1.blkEd (HS.out a L).1 (HS.out a L).2 (by omega) hR;rw[jaU K];exact q
   ·intro r E;rcases hR.blks E with q|q
    ·refine⟨fun e => ?_,(hK r q).2⟩;rcases am r e with e|e
     ·exact(hK r q).1 e
     have:=R r q;omega
    refine⟨fun e=>by have:=(aO r e).2;omega,by omega⟩
   ·intro r e hs;refine(a7 r e).2 ?_;rcases hs with q|q
    ·exact .inl q
    exact .inr (.inl q)
   ·intro r e;have h1:=aA r e
    refine⟨fun z => ?_,fun E => ?_⟩
    ·rcases am r z with q|q
     ·exact(a7 r e).1 q
     omega
    rcases hR.blks E with q|q
    ·exact(a7 r e).2 q
    omega
   ·refine d4.trans (hR.only.to_below d4.size (fun r E e => ?_));have Y:Ky G X ps (.slice none 0 0) [] r:=by
     rcases e with q|q
     ·exact .inl q
     exact .inr (.inl q)
    have h1:=(hK r Y).2;have h2:=W.out.size
    omega
   ·refine d3.only hR.only (fun e => ?_);have Y:Ky G X ps (.slice none 0 0) [] wr.heap.size:=by
     rcases e with q|q
     ·exact .inl q
     exact .inr (.inl q)
    have:=R _ Y;omega
   have:=hR.only.size;omega
  have au:Hid ((jM (zH l (eds.take k)) a).bad=0->Wc l (eds.take (k+1))):=fun h=>jaR K O h;have AT:Hid ((jM (zH l (eds.take k)) a).bad≠0->doB l eds=(((k:Nat):Int),(jM (zH l (eds.take k)) a).bad)):=fun h=>by rw[bj.out];exact jhJ K O h
  have ae:Hid (zc l (eds.take (k+1))=zc l (eds.take k)++(if a.kind=3 then [(jM (zH l (eds.take k)) a).id] else [])):=Wu K;have co:(zc l (eds.take k)).length<=51:=by have h1:=ja8 l (eds.take k);rw[joS]at h1;omega
  have c8:=jk6 (zH l (eds.take k)) a;have F7:=joI (HF.out a L)
  have aa:=joI aX;clear K O hC ah hK o a7 hB ai bE aN bF ag H R aX aH ay L;generalize bN:jM (zH l (eds.take k)) a=st at *
  have bY:=joI bN;clear bN;generalize bJ:zc l (eds.take k)=aC at *
  clear bJ;unfold ptr at aa;subst aB;go_wp2_with fail;refine aa.out.mono ?_;rintro e x ⟨rfl,y,J,aS,aq⟩;obtain⟨d1,d2,d3,d4,d5,d6,d7⟩:=a8.out x y J aS aq;have DO:=jmc d1 (by omega) a (.slice fa a.fields.length fc) d2 F7.out
  rw[bY.out]at DO;have DO:=joI DO
  have e0:x.cell? ⟨wr.heap.size,0,none⟩=some (.int .i64 a.kind):=by rw[d3.cell 0];rfl
  have e1:x.cell? ⟨wr.heap.size,1,none⟩=some (.int .i64 a.id):=by rw[d3.cell 1];rfl
  have e2:x.cell? ⟨wr.heap.size,2,none⟩=some (.slice fa a.fields.length fc):=by rw[d3.cell 2];rfl
  have bW:=joI J;have bU:=joI aS
  have bZ:=joI aq;clear d1 d2 d3 d4 d5 d6 J aS aq aa a8;unfold ptr at DO;go_wp2_with fail;refine DO.out.mono ?_;rintro e d ⟨u,s,t,rfl,hR⟩;obtain⟨f1,f2,f3,f4,f5,f6,f7,f8⟩:=aD.out x d y u s t bW.out bU.out bZ.out hR;have Q:=hR.err
  clear hR aD DO e0 e1 e2;by_cases f:st.bad=0
  ·obtain⟨_,⟨rfl,_⟩|⟨_,_,_,hx⟩⟩:=Q;rotate_left
   ·exact absurd f hx
   rw[show Zc st.bad=.nilIface by rw[f];rfl];have bo:=joI (au.out f)
   have g0:d.cell? ⟨wr.heap.size,0,none⟩=some (.int .i64 a.kind):=by rw[f7.cell 0];rfl
   by_cases h3:a.kind=3
   ·have n:=ae.out;rw[if_pos h3]at n;have n:=joI n
    have bm:Hid (∀(j:Nat) (u:Value),[Kr st.id][j]?=some u->(d.alloc (.cells #[.int .i64 st.id] 3)).cell? ((⟨d.heap.size,0,none⟩:Addr).add j)=some u):=fun j u h=>by
     have ea:(⟨d.heap.size,0,none⟩:Addr).add j=⟨d.heap.size,j,none⟩:=by unfold Addr.add;split<;>simp_all
     rw[ea,(ja.new d 3 #[.int .i64 st.id]).cell j];simpa [Kr]using h
    have aI:=joI f1;have aJ:=joI f2
    have bR:=joI f3;have aK:=joI f4
    have ar:=joI f5;have aL:=joI f6
    clear f1 f2 f3 f4 f5 f6 f7 ae AT au;rw[h3]at g0;go_wp2_with (at_builtin;refine jz rfl _ _ 23 rfl w.heap.size 3 i0 _ 1 8 underlying23 hi ck cl cm rfl (by decide) _ _ _ rfl (aK.out.alloc _) ⟨d.heap.size,0,none⟩ 1 1 _ rfl rfl bm.out (by intro u hu;simp at hu;subst hu;rfl) (by unfold maxLen;omega) (by omega) (by simp only[joZ];omega) ?_);intro bB W4 aG af bu;have aE:=bu.out
    have o4:jH (fun r=>(Value.slice ga aC.length gc).ownBlock=some r) d W4 :=
     (jH.of_below (S:=fun r=>(Value.slice ga aC.length gc).ownBlock=some r) ((joL _ d).alloc (joJ _) (.cells #[.int .i64 st.id] 3)) (joJ _)).grown af (fun r e=>.inl e)
    have aA:∀r,(Value.slice ga aC.length gc).ownBlock=some r->w.heap.size<=r/\r<d.heap.size:=fun r e=>aK.out.lt r e;have aF:∀r,Ky G s t (.slice none 0 0) [] r->r<d.heap.size:=fun r E=>aI.out.str.lt E
    have H:=I.out.lt (k+1) d y aJ.out;have R1:zM w.heap.size W4 G s t (zH l (eds.take (k+1))) (m+(k+1)):=aI.out.only o4 (fun r E e=>(ar.out r e).2 E)
    have R2:P (k+1) W4 y:=I.out.keep (k+1) d W4 y _ aJ.out o4 (fun r E e=>(ar.out r e).1 E);have R4:W4.ownsRow w.heap.size 3 1 bB (zc l (eds.take (k+1))).length ((zc l (eds.take (k+1))).map Kr):=by rw[n.out,joK,jpt];exact aG
    have R5:∀r,bB.ownBlock=some r->¬y r/\¬Ky G s t (.slice none 0 0) [] r:=by
     intro r e;rcases aE with q|q
     ·exact ar.out r (by rw[<- q];exact e)
     rw[q]at e;have e':d.heap.size+1=r:=by simpa using e
     exact⟨fun z=>by have:=(H r z).2;omega,fun z=>by have:=aF r z;omega⟩
    have R6:Below D.heap.size D W4:=aL.out.trans (o4.to_below aL.out.size (fun r E e=>by have:=(aA r e).1;have:=W.out.size;omega));have cw:=o4.size
    have H1:=joI R1;have H2:=joI R2
    have H4:=joI R4;have H5:=joI R5
    have H6:=joI R6;clear R1 R2 R4 R5 R6 o4 aA aF H aG af bu aE bm aI aJ aK ar aL;go_wp2_with fail;go_roundw
    case rel=>exact⟨k+1,s,t,y,_,rfl,aR,by go_num,bo.out,H1.out,H2.out,bR.out,H4.out,H5.out,H6.out,by omega⟩
    case measure=>simp[intOf];omega
   have n:=ae.out;rw[if_neg h3,jo9]at n;have q3:(a.kind==3)=false:=by simpa using h3
   have R4:d.ownsRow w.heap.size 3 1 (.slice ga aC.length gc) (zc l (eds.take (k+1))).length ((zc l (eds.take (k+1))).map Kr):=by rw[n];exact f4
   have H1:=joI f1;have H2:=joI f2
   have H3:=joI f3;have H4:=joI R4
   have H5:=joI f5;have H6:=joI f6
   clear f1 f2 f3 f4 f5 f6 f7 ae AT au R4 n;go_wp2_with fail;go_roundw
   case rel=>exact⟨k+1,s,t,y,_,rfl,aR,by go_num,bo.out,H1.out,H2.out,H3.out,H4.out,H5.out,H6.out,by omega⟩
   case measure=>simp[intOf];omega
  have FA:=joI (jbh k st.bad st.at_ u d Q f (HG.out.below f6 (joJ _)));have aY:=AT.out f
  have N:(∃z,u=.iface 54 (.int .i64 z))\/∃q,u=.iface 87 (.pointer (some ⟨q,0,none⟩)):=by
   obtain⟨_,⟨rfl,_⟩|⟨_,⟨q,_,rfl,_⟩,_,_⟩⟩:=Q
   ·rw[zf st.bad (by omega)];exact .inl ⟨_,rfl⟩
   exact .inr ⟨q,rfl⟩
  have V:Hid (∀W3 u',Below d.heap.size d W3->jB d.heap.size W3 u' k st.bad->jfy D w W3 l m eds P (.returned (.tuple #[.pointer none,.slice none 0 0,u']))):=by intro W3 u' b3 ax;refine⟨f6.trans (b3.mono f6.size),by have:=b3.size;omega,.inl ⟨by rw[aY];exact f,u',rfl,?_⟩⟩;rw[aY];exact vE.fault (ax.mono (by omega)) f c8
  clear Q f1 f2 f3 f4 f5 f6 f7 ae AT au;rcases N with ⟨z,rfl⟩|⟨q,rfl⟩
  all_goals
   go_wp2_with fail;refine FA.out.mono ?_;rintro e w3 ⟨u',rfl,b3,ax⟩;have be:=joI (V.out w3 u' b3 ax)
   clear ax b3;go_wp2_with fail;go_ret3;exact be.out
 obtain rfl:k=eds.length:=by omega
 rw[jpa]at O hC o;have V:Hid (jfy D w wr l m eds P (.returned (.tuple #[ptr G,gv,.nilIface]))):=by show jfy _ _ _ _ _ _ _ _;exact⟨hB,cj,.inr ⟨by rw[bj.out];exact jhI 0 l eds O,bQ.out,O,G,X,ps,gv,Z,rfl,hC,ah,hK,o⟩⟩
 obtain⟨ga,gc,rfl⟩:∃A c,gv=.slice A (zc l eds).length c:=by
  rcases o.2 with ⟨rfl,hn⟩|⟨g',bw,bz,rfl,_⟩
  ·exact⟨none,0,by rw[hn]⟩
  exact⟨_,_,rfl⟩
 clear PC O hC o hK a7 ah;unfold ptr at V;go_wp2_with fail;go_ret3;exact V.out
end
namespace Rp
def qA:LS->List (List Ed)->Option LS
 | l,[]=>some l
 | l,b::r=>if (doB l b).2=0 then qA (zH l b) r else none
def Kq:LS->List (List Ed)->List (List Int)
 | _,[]=>[]
 | l,b::r=>zc l b::Kq (zH l b) r
def xS:List (List Ed)->Nat
 | []=>0
 | b::r=>b.length+xS r
theorem Jh:∀(a b:List (List Ed)) (l:LS),qA l (a++b)=(qA l a).bind fun k=>qA k b
 | [],_,_=>rfl
 | x::a,b,l=>by
  show(if (doB l x).2=0 then qA (zH l x) (a++b) else none)=(if (doB l x).2=0 then qA (zH l x) a else none).bind _;split
  ·exact Jh a b _
  rfl
theorem QP{l k:LS}{a:List (List Ed)}{b:List Ed}(h:qA l a=some k):qA l (a++[b])=if (doB k b).2=0 then some (zH k b) else none:=by rw[Jh,h];rfl
theorem Gr:∀(a:List (List Ed)) (l k:LS) (b:List Ed),qA l a=some k->Kq l (a++[b])=Kq l a++[zc k b]
 | [],l,k,b,h=>by cases h;rfl
 | x::a,l,k,b,h=>by
  have c:(if (doB l x).2=0 then qA (zH l x) a else none)=some k:=h;split at c
  ·show zc l x::Kq (zH l x) (a++[b])=zc l x::(Kq (zH l x) a++[zc k b]);rw[Gr a _ k b c]
  cases c
theorem jcr:∀(a:List (List Ed)) (l:LS),(Kq l a).length=a.length
 | [],_=>rfl
 | x::a,l=>by show(Kq (zH l x) a).length+1=a.length+1;rw[jcr a]
theorem Zi:∀(a b:List (List Ed)),xS (a++b)=xS a+xS b
 | [],b=>(jpl _).symm
 | x::a,b=>by show x.length+xS (a++b)=x.length+xS a+xS b;rw[Zi a b];omega
theorem Qy{c:Type}{a:List c}{i:Nat}{b:c}(h:a[i]?=some b):a.take (i+1)=a.take i++[b]:=by rw[jpd,h];rfl
theorem YG(a:List (List Ed))(i:Nat):xS (a.take i)<=xS a:=by have h:=Zi (a.take i) (a.drop i);rw[jpb]at h;omega
theorem jk0{a:List (List Ed)}{i:Nat}{b:List Ed}(h:a[i]?=some b):xS (a.take (i+1))=xS (a.take i)+b.length:=by rw[Qy h,Zi];rfl
def qJ(l:LS)(bs:List (List Ed))(i:Nat):Prop:=∃k b,qA l (bs.take i)=some k/\bs[i]?=some b/\(doB k b).2≠0
theorem jeF{l k:LS}{a:List (List Ed)}(h:qA l a=some k)(i:Nat):∃b,qA l (a.take i)=some b:=by
 rw[<- jpb i a,Jh]at h;cases c:qA l (a.take i) with
 | none=>rw[c]at h;cases h
 | some b=>exact⟨b,rfl⟩
theorem Je{l:LS}{a:List (List Ed)}{i j:Nat}(h:qJ l a i)(n:i<j):qA l (a.take j)=none:=by
 obtain⟨k,b,f,g,m⟩:=h;have e:(a.take j).take (i+1)=a.take i++[b]:=by rw[jrd,jq5 n,Qy g]
 have c:=QP (b:=b) f;rw[if_neg m,<- e]at c;cases o:qA l (a.take j) with
 | none=>rfl
 | some p=>obtain⟨q,d⟩:=jeF o (i+1);rw[c]at d;cases d
theorem qJ.one{l:LS}{c:List (List Ed)}{i j:Nat}(h:qJ l c i)(d:qJ l c j):i=j:=by
 rcases Nat.lt_trichotomy i j with q|q|q
 ·have:=Je h q;obtain⟨k,b,a,_⟩:=d;rw[this]at a;cases a
 ·exact q
 have:=Je d q;obtain⟨k,b,a,_⟩:=h;rw[this]at a;cases a
theorem qJ.lt{l:LS}{a:List (List Ed)}{i:Nat}(h:qJ l a i):i<a.length:=by obtain⟨_,_,_,b,_⟩:=h;exact(List.getElem?_eq_some_iff.1 b).1
theorem qJ.not{l k:LS}{a:List (List Ed)}{i:Nat}(h:qJ l a i)(b:qA l a=some k):False:=by have:=Je h h.lt;rw[jpa,b]at this;cases this
def jiq(bs:List (List Ed)):Prop:=∀b∈bs,b.length<=51/\Kd b/\jbJ b
theorem jiq.take{a:List (List Ed)}(h:jiq a)(i:Nat):jiq (a.take i):=fun b c=>h b (jpM c)
def BtV(w:World)(v:Value)(bs:List (List Ed)):Prop :=
 ∃A cap,v=.slice A bs.length cap/\bs.length<=cap/\∀(i:Nat) b,bs[i]?=some b->∃g off u,A=some ⟨g,off,none⟩/\g<w.heap.size/\w.cell? ⟨g,off+i,none⟩=some u/\EdV w u b
theorem BtV.below{w w':World}{v:Value}{k:List (List Ed)}{N:Nat}(h:BtV w v k)(f:Below N w w')(m:w.heap.size<=N):BtV w' v k:=by obtain⟨A,d,e,j,n⟩:=h;refine⟨A,d,e,j,fun i b q => ?_⟩;obtain⟨g,a,u,l,o,c,r⟩:=n i b q;exact⟨g,a,u,l,jo4 o f.size,(f.cell (p:=⟨g,a+i,none⟩) (show g<N by omega)).trans c,r.below f m⟩
theorem BtV.take{w:World}{A:Option Addr}{n c:Nat}{a:List (List Ed)}(h:BtV w (.slice A n c) a){k:Nat}(q:k<=a.length):BtV w (.slice A k c) (a.take k):=by
 obtain⟨p,f,e,o,m⟩:=h;injection e with g j l;subst g j l;have hl:(a.take k).length=k:=by rw[joS];omega
 refine⟨A,c,by rw[hl],by omega,fun i b d => ?_⟩;rw[jpD]at d;split at d
 ·exact m i b d
 cases d
structure Kf(lo:Nat)(w:World)(gv:Value)(gs:List (List Int))(us:List Value):Prop where
 row:w.ownsRow lo 23 1 gv gs.length us
 each:∀(i:Nat) g u,gs[i]?=some g->us[i]?=some u->w.ownsRow lo 3 1 u g.length (g.map Kr)
theorem Kf.nil(lo:Nat)(w:World):Kf lo w (.slice none 0 0) [] []:=⟨⟨rfl,.inl ⟨rfl,rfl⟩⟩,fun i b u a c=>by simp at a⟩
theorem Kf.len{lo:Nat}{w:World}{c:Value}{a:List (List Int)}{b:List Value}(h:Kf lo w c a b):b.length=a.length:=by have:=h.row.1;omega
def Yb(gen:Int)(s:List UInt8)(A:Option Addr)(n c:Nat)(ea:Option Addr)(en ec:Nat)(tl:ByteArray):Value:=.agg #[.int .i64 gen,.string (B s),.slice A n c,.slice ea en ec,.string tl]
end Rp
section
attribute [local go_sem] joY
def jkQ(_:Nat)(_:World)(Z:Nat->Prop):Prop:=∀r,¬Z r
theorem jek(t:World)(l:Nat)(q:LS)(eds:List Ed):jnC 178 #[] t l q eds jkQ:=by
 refine⟨enters_of func178 (by kernel_rfl) rfl,fun j W Z h r g=>absurd g (h r),fun j W u Z S h _ _=>h,?_⟩;intro j a w W Z s v y m e _ hP n o x p f b;obtain⟨c,d,rfl⟩:=b;have k:Below W.heap.size W (W.alloc (.cells #[.int .i64 a.kind,.int .i64 a.id,.slice c a.fields.length d] 75)):=(joL _ W).alloc (joJ _) _
 have H:Hid (∃i,jkQ (j+1) (W.alloc (.cells #[.int .i64 a.kind,.int .i64 a.id,.slice c a.fields.length d] 75)) i/\jH Z W (W.alloc (.cells #[.int .i64 a.kind,.int .i64 a.id,.slice c a.fields.length d] 75))/\∀r,i r->Z r\/W.heap.size<=r) :=
  ⟨Z,hP,jH.of_below k (joJ _),fun r g=>.inl g⟩
 clear e hP n o p f k;unfold ptr;show Calls _ _ #[.pointer (some ⟨s,0,none⟩),.agg #[.int .i64 a.kind,.int .i64 a.id,.slice c a.fields.length d]] _ _
 go_enter func178,ntmps178;go_wp2_with fail;go_end0;exact⟨rfl,H.out⟩
def DoR(w w':World)(l:LS)(m:Nat)(eds:List Ed)(e:Ending):Prop :=
 Below w.heap.size w w' /\
 (((doB l eds).2≠0/\∃u,e=.returned (.tuple #[.pointer none,.slice none 0 0,u])/\vE w.heap.size w' u (doB l eds).1 (doB l eds).2) \/
 (doB l eds=(-9,0)/\qw eds=(-9,0)/\Wc l eds/\∃lb ev ps gv,e=.returned (.tuple #[ptr lb,gv,.nilIface])/\zM w.heap.size w' lb ev ps (zH l eds) (m+eds.length) /\
  (∀r,Ky lb ev ps (.slice none 0 0) [] r->w.heap.size<=r)/\w'.ownsRow w.heap.size 3 1 gv (zc l eds).length ((zc l eds).map Kr)))
theorem jnF{g:Nat}{w:World}(eds:List Ed)(v:Value)(s:EdV w v eds)(hl:eds.length<=51)(p:Kd eds)(b:jbJ eds)(q:ErrT w)
  {c:Nat} {i:Value} {j:List Pr} {l:LS} {m:Nat} (C:zM g w c i j l m) (J:m<=5000) :
  Calls prog 133 #[ptr c,v] w fun e N=>DoR w N l m eds e:=by
 have f:=joI (UU (joL _ w) eds v s hl p b q C J (jek w w.heap.size l eds) (Z0:=fun _=>False) (fun _ h=>h));obtain⟨A,z,rfl,_⟩:=s;unfold ptr at *
 clear p b q C;go_enter func133,ntmps133;go_wp2_with fail;refine f.out.mono ?_;rintro e y ⟨d,_,⟨E,u,rfl,t⟩|⟨G,H,I,x,D,L,k,Z,rfl,n,_,o,a⟩⟩
 ·have R:Hid (DoR w y l m eds (.returned (.tuple #[.pointer none,.slice none 0 0,u]))):=⟨d,.inl ⟨E,u,rfl,t⟩⟩
  clear t d f;go_wp2_with fail;go_ret3;exact R.out
 have R:Hid (DoR w y l m eds (.returned (.tuple #[.pointer (some ⟨x,0,none⟩),k,.nilIface]))):=⟨d,.inr ⟨G,H,I,x,D,L,k,rfl,n,(fun r K=>(o r K).2),a⟩⟩
 clear n o a d f;unfold ptr;go_wp2_with fail;go_ret3;exact R.out
end
namespace Rp
attribute [local go_sem] joY
theorem jg1:(prog.info? 23).map (fun i=>(i.zero,i.size,i.bytes))=some (some (.slice none 0 0),1,24):=by kernel_rfl
theorem Kf.below{lo:Nat}{w w':World}{b:Value}{a:List (List Int)}{e:List Value}{N:Nat}(h:Kf lo w b a e)(d:Below N w w')(c:w.heap.size<=N):Kf lo w' b a e :=
 ⟨jN h.row d c,fun i g u f j=>jN (h.each i g u f j) d c⟩
theorem Kf.box{lo:Nat}{w w':World}{d:Value}{c:List (List Int)}{k:List Value}{t:TypeId}{b:Nat}{a:Array Value}(h:Kf lo w d c k)(j:ja w b t a)(l:23≠t)(m:3≠t)(o:jH (· = b) w w'):Kf lo w' d c k :=
 ⟨jG h.row o (fun r e q=>jh h.row j l (by rw[e,q])),fun i x u f g=>jG (h.each i x u f g) o (fun r e q=>jh (h.each i x u f g) j m (by rw[e,q]))⟩
theorem Kf.snoc{lo:Nat}{w w':World}{m d u:Value}{f:List (List Int)}{l:List Value}{g:List Int}(h:Kf lo w m f l)(n:w.ownsRow lo 3 1 u g.length (g.map Kr))(k:w'.ownsRow lo 23 1 d (f.length+1) (l++[u]))(o:jH (fun r=>m.ownBlock=some r) w w'):Kf lo w' d (f++[g]) (l++[u]):=by
 refine⟨by rw[joK];exact k,fun i x v c a => ?_⟩;rw[List.getElem?_append]at c a;rw[h.len]at a;split at c
 ·rename_i j;rw[if_pos j]at a;exact jG (h.each i x v c a) o (fun b e q=>jZ h.row (h.each i x v c a) (by decide) b q e)
 rename_i j;rw[if_neg j]at a;rw[List.getElem?_singleton]at c a;split at c
 ·rename_i p;rw[if_pos p]at a;obtain rfl:=joN c;obtain rfl:=joN a;exact jG n o (fun b e q=>jZ h.row n (by decide) b q e)
 cases c
structure jbL(lo:Nat)(w:World)(pb:Nat)(first:Int)(l:LS)(m:Nat)(gs:List (List Int)):Prop where
 is:∃lb ev ps gv us,ja w pb 83 #[ptr lb,.int .i64 first,gv]/\zM lo w lb ev ps l m/\Kf lo w gv gs us
 lo:lo<=pb
theorem jgB(a:World)(T:TypeId)(x:Value):∀(j:Nat) (u:Value),[x][j]?=some u->(a.alloc (.cells #[x] T)).cell? ((⟨a.heap.size,0,none⟩:Addr).add j)=some u:=fun j u h=>by
 have b:(⟨a.heap.size,0,none⟩:Addr).add j=⟨a.heap.size,j,none⟩:=by unfold Addr.add;split<;>simp_all
 rw[b,(ja.new a T #[x]).cell j];simpa using h
def joi(lo:Nat)(w w':World)(pb:Nat)(first:Int)(l:LS)(m:Nat)(gs:List (List Int))(b:List Ed)(e:Ending):Prop :=
 Below lo w w'/\(((doB l b).2≠0/\e=.returned (.bool false))\/((doB l b).2=0/\e=.returned (.bool true)/\jbL lo w' pb first (zH l b) (m+b.length) (gs++[zc l b])))
theorem jnr{lo:Nat}{w:World}{n:Nat}{first:Int}{l:LS}{m:Nat}{d:List (List Int)}(H:jbL lo w n first l m d)(b:List Ed)(v:Value)(hv:EdV w v b)(R:b.length<=51/\Kd b/\jbJ b)(hg:ErrT w)(hm:m<=5000)(aq:d.length<=1000000):
  Calls prog 70 #[.pointer (some ⟨n,0,none⟩),v] w fun e w'=>joi lo w w' n first l m d b e:=by
 obtain⟨i2,ag,aa,ae,af⟩:=info_parts jg1;obtain⟨lb,ev,ps,gv,us,C,CY,G⟩:=H.is;have W:=joI (jnF b v hv R.1 R.2.1 R.2.2 hg CY hm)
 obtain⟨ga,gc,rfl,_⟩:=je G.row;obtain⟨A,ak,rfl,_⟩:=_root_.id hv;have k0:=C.cell 0
 have k2:=C.cell 2;simp only[joQ,joP,joO]at k0 k2;have HC:=joI C
 have HG:=joI G;have ah:=H.lo
 have ai:=C.lt;clear H C CY G hv hg R;unfold ptr at *
 go_enter func70,ntmps70;go_wp2_with fail;refine W.out.mono ?_;rintro e x ⟨s,⟨Q,u,rfl,hz⟩|⟨Q,_,_,a,a8,aj,g1,rfl,C1,K1,f⟩⟩
 ·have V:Hid (Below lo w x):=s.mono (by omega);have t:(∃z,u=.iface 54 (.int .i64 z))\/∃q,u=.iface 87 (.pointer (some ⟨q,0,none⟩)):=by
   obtain⟨_,⟨rfl,_⟩|⟨_,⟨q,_,rfl,_⟩,_,_⟩⟩:=hz
   ·rw[zf _ (by omega)];exact .inl ⟨_,rfl⟩
   exact .inr ⟨q,rfl⟩
  clear hz s W;rcases t with ⟨z,rfl⟩|⟨q,rfl⟩
  all_goals
   go_wp2_with fail;go_ret;exact⟨V.out,.inl ⟨Q,rfl⟩⟩
 obtain⟨J,K,rfl,_⟩:=je f;have o:=jb HC.out s ai
 have D:=HG.out.below s (joJ _);have V:=joI (show Below lo w x from s.mono (by omega))
 have ar:=s.size;have q2:=o.cell 2
 simp only[joQ,joP,joO]at q2;have E:=joI o
 have h:=joI D;have Y:=joI C1
 have I:Hid (∀r,Ky a a8 aj (.slice none 0 0) [] r->w.heap.size<=r):=K1;have Z:=joI f
 have N:lo<=x.heap.size:=by omega
 clear s C1 K1 f W o D k0 k2;unfold ptr;go_wp2_with (at_builtin;refine jz rfl _ _ 38 rfl lo 23 i2 _ 1 24 underlying38 ag aa ae af rfl (by decide) _ _ _ rfl (h.out.row.alloc _) _ 1 1 [.slice J (zc l b).length K] rfl rfl (jgB _ _ _) (by intro u hu;simp at hu;subst hu;rfl) (by unfold maxLen;omega) (by omega) (by simp only[joZ];omega) ?_);intro am P g c a7;have L:Below x.heap.size x (x.alloc (.cells #[.slice J (zc l b).length K] 23)):=(joL _ _).alloc (joJ _) _
 have y:jH (fun r=>(Value.slice ga d.length gc).ownBlock=some r) x P:=(jH.of_below (S:=fun r=>(Value.slice ga d.length gc).ownBlock=some r) L (joJ _)).grown c (fun r e=>.inl e);have G8:=h.out.snoc (jA Z.out (by omega)) g y
 have p:=E.out.only y (fun e=>jh h.out.row E.out (by decide) e);have Y8:=Y.out.only y (fun r O e=>by have:=I.out r O;have:=(HG.out.row.lt r e).2;omega)
 have B8:=V.out.trans (y.to_below N (fun r O e=>by have:=(h.out.row.lt r e).1;omega));obtain⟨j,k,rfl,_⟩:=je g;have K9:=(p.set 0 (.pointer (some ⟨a,0,none⟩))).set 2 (.slice j (d.length+1) k)
 rw[show((#[Value.pointer (some ⟨lb,0,none⟩),.int .i64 first,.slice ga d.length gc]:Array Value).setIfInBounds 0 (.pointer (some ⟨a,0,none⟩))).setIfInBounds 2 (.slice j (d.length+1) k)=#[.pointer (some ⟨a,0,none⟩),.int .i64 first,.slice j (d.length+1) k] from rfl]at K9;have U:jH (· = n) P ((P.setCell ⟨n,0,none⟩ (.pointer (some ⟨a,0,none⟩))).setCell ⟨n,2,none⟩ (.slice j (d.length+1) k)):=((jH.refl (· = n) P).cellS 0 _).cellS 2 _
 have G9:=G8.box p (by decide) (by decide) U;have i:=Y8.only U (fun r O e=>by have:=I.out r O;omega)
 have B9:=joI (B8.trans (U.to_below (by have:=y.size;omega) (fun r O e=>by omega)));have X:=joI (show jbL lo _ n first (zH l b) (m+b.length) (d++[zc l b]) from⟨⟨a,_,_,_,_,K9,⟨i.la,i.es,i.ok,i.sz,by have:=i.lb0;omega,fun b e=>by have:=i.ev0 b e;omega,i.len,i.nx⟩,G9⟩,ah⟩)
 have c0:=p.cell 0;have c2:=p.cell 2
 have f0:=p.frozen 0;have f2:=p.frozen 2
 simp only[joQ,joP,joO]at c0 c2;have hd:=congrArg Prod.snd Q
 clear g c a7 L y G8 p Y8 B8 K9 U G9 i q2 Q;go_wp2_with fail;go_ret;exact⟨B9.out,.inr ⟨hd,rfl,X.out⟩⟩
end Rp
structure jod(a0:Act)(w0:World)(n:Nat)(dst:Nat->Option Nat)(Pv:Nat->Value->World->Prop)(R:World->World->Prop)(l:Array Bool)(a:Act)(w:World):Prop where
 dfr:a.defers=a0.defers
 sz:a.tmps.size=a0.tmps.size
 frm:∀j,(∀k,k<n->dst k≠some j)->a.tmps[j]?=a0.tmps[j]?
 val:∀i d,l.getD i false=true->dst i=some d->∃v,a.tmps[d]?=some v/\Pv i v w
 wd:R w0 w
theorem jea{P:Program}{ops:Array Oper}{Q:Exit->Act->World->Prop}(a0:Act)(g:World)(dst:Nat->Option Nat)(m:Nat->Value->World->Prop)(R:World->World->Prop)
  (Z:R g g) (RT:∀x y,R g x->R x y->R g y) (X:∀i v x y,R g x->R x y->m i v x->m i v y)
  (hd:∀i o,ops[i]?=some o->o.dst=dst i) (W:∀i k d,i<ops.size->k<ops.size->dst i=some d->dst k=some d->i=k) (J:∀i d,i<ops.size->dst i=some d->d<a0.tmps.size)
  (D:∀i o e,ops[i]?=some o->e∈o.after->Region.binds .any e=true->e.on<i)
  (step:∀i o a w,ops[i]?=some o->a.tmps.size=a0.tmps.size->(∀j,(∀k,k<ops.size->dst k≠some j)->a.tmps[j]?=a0.tmps[j]?)->(∀e∈o.after,Region.binds .any e=true->∀d,dst e.on=some d->∃v,a.tmps[d]?=some v/\m e.on v w)->R g w ->
   (Region.wanted o (yielded ops a.tmps)=true/\∀K:Act->World->Prop,(∀v f,R w f->m i v f->K (a.put (dst i) v) f)->Oper.wp P o a w K Q)\/(Region.wanted o (yielded ops a.tmps)=false/\m i undef w))
  (RR:∀w,R g w->R w w)
  (hQ:∀a w,a.defers=a0.defers->a.tmps.size=a0.tmps.size->(∀j,(∀k,k<ops.size->dst k≠some j)->a.tmps[j]?=a0.tmps[j]?)->(∀i d,i<ops.size->dst i=some d->∃v,a.tmps[d]?=some v/\m i v w)->R g w->Q .normal a w) :
  wpAny P .any ops Q ops.size (Array.replicate ops.size false) a0 g:=by
 refine YC (jod a0 g ops.size dst m R) ?step ?done ops.size _ a0 _ ?start (by simp) (by unfold jfC;simp)
 case start =>
  have e:∀i,(Array.replicate ops.size false).getD i false=false:=fun i=>by rw[jpj,jrb];split<;>rfl
  exact⟨rfl,rfl,fun _ _=>rfl,(fun i d h=>absurd ((e i).symm.trans h) (by decide)),Z⟩
 case done =>
  intro l a w I hl hr;have A:=jd6 hl D hr
  exact hQ a w I.dfr I.sz I.frm (fun i d t h=>I.val i d (A i t) h) I.wd
 case step =>
 intro l i o a w I hl V U he;have C:=jeJ U
 have t:i<ops.size:=by omega
 have H:∀e∈o.after,Region.binds .any e=true->∀d,dst e.on=some d->∃v,a.tmps[d]?=some v/\m e.on v w:=fun e n p d h3=>I.val e.on d (he e n p) h3;have G:∀v f,R w f->m i v f->jod a0 g ops.size dst m R (l.setIfInBounds i true) (a.put (dst i) v) f:=by
  intro v f L hP;have E:=RT w f I.wd L
  cases c:dst i with
  | none =>
   refine⟨I.dfr,I.sz,I.frm,fun k d r b => ?_,E⟩;rw[Ys l i C]at r;by_cases q:k=i
   ·rw[q,c]at b;cases b
   rw[if_neg q]at r;obtain⟨u,n,p⟩:=I.val k d r b;exact⟨u,n,X k u w f I.wd L p⟩
  | some s =>
  have N:=J i s t c;have T:∀j,(a.put (some s) v).tmps[j]?=if j=s then some v else a.tmps[j]?:=fun j=>by
   show(a.tmps.setIfInBounds s v)[j]?=_;rw[jps];by_cases h:s=j
   ·subst h;simp[I.sz,N]
   rw[if_neg h,if_neg (jqr h)]
  refine⟨I.dfr,?_,fun j Y => ?_,fun k d r b => ?_,E⟩
  ·show(a.tmps.setIfInBounds s v).size=_;simp[I.sz]
  ·rw[T,if_neg (fun e=>Y i t (by rw[c,e]))];exact I.frm j Y
  rw[T];rw[Ys l i C]at r;by_cases q:k=i
  ·subst q;rw[c]at b;rw[if_pos (joN b).symm];exact⟨v,rfl,hP⟩
  rw[if_neg q]at r;have O:k<ops.size:=by
   rcases jpc k ops.size with z|z
   ·exact z
   rw[jpj,jpv (by omega)]at r;cases r
  rw[if_neg (fun e=>q (W k i d O t b (by rw[c,e])))];obtain⟨u,n,p⟩:=I.val k d r b;exact⟨u,n,X k u w f I.wd L p⟩
 unfold wpOp;rw[V];dsimp only;rcases step i o a w V I.sz I.frm H I.wd with ⟨n,p⟩|⟨n,p⟩
 ·rw[if_pos n];exact .inl (p _ G)
 rw[if_neg (by rw[n];decide),hd i o V];exact G undef w (RR w I.wd) p
def pvL(L:List (Value->World->Prop))(i:Nat)(v:Value)(w:World):Prop:=match L[i]? with | some P=>P v w | none=>True
def jmB:List (Value->World->Prop)->Prop
 | []=>True
 | P::r=>(∀v x y,Below x.heap.size x y->P v x->P v y)/\jmB r
theorem Uz:∀{L:List (Value->World->Prop)} (_:jmB L) {i:Nat} {v:Value} {x y:World},Below x.heap.size x y->pvL L i v x->pvL L i v y
 | [],_,i,v,x,y,_,_=>trivial
 | P::r,h,0,v,x,y,a,b=>h.1 v x y a b
 | P::r,h,i+1,v,x,y,a,b=>Uz (L:=r) h.2 (i:=i) a b
theorem jc0{l:Array Bool}{i:Nat}(h:i<l.size)(hl:l.getD i true=false):jfC (l.setIfInBounds i true)+1=jfC l:=by
 have d:l[i]=false:=by simpa [Array.getD,h]using hl
 have g:∀(a:List Bool) (j:Nat) (c:j<a.length),a[j]=false->((a.set j true).filter (fun b => !b)).length+1=(a.filter (fun b => !b)).length:=by
  intro a
  induction a with
  | nil=>intro j c;simp at c
  | cons x a f =>
  intro j c hx;cases j with
  | zero=>simp at hx;subst hx;simp
  | succ j =>
  have:=f j (by simpa using c) (by simpa using hx);cases x<;>simp at this ⊢ <;> omega
 have k:=g l.toList i (by simpa using h) (by simpa using d);unfold jfC;have e:(l.setIfInBounds i true).toList=l.toList.set i true:=by simp
 rw[e];exact k
theorem jfU{l:Array Bool}{n g:Nat}(d:l.size=n+g)(b:∀i,i<n->l.getD i true=true)(c:∀t,n<=t->t<l.size->l.getD t true=false):l=(List.replicate n true++List.replicate g false).toArray:=by
 apply Array.ext
 ·simp[d]
 intro i a _;have e:l[i]=l.getD i true:=by simp[Array.getD,a]
 rw[e];by_cases h:i<n
 ·rw[b i h];simp[h]
 rw[c i (by omega) a];simp[List.getElem_append,h]
theorem yh{P:Program}{c:List Oper}{Q:Exit->Act->World->Prop}(n g:Nat)(av:n+g=c.length)(hg:0<g)(a0:Act)(G:World)(dst:Nat->Option Nat)(L:List (Value->World->Prop))(M:jmB L)
  (hs:Region.sinkB .any c.toArray n=true) (hc:Region.chainB .any c.toArray n=true) (hq:Region.seqB .any c.toArray g n (List.replicate n true++List.replicate g false).toArray=true)
  (hd:∀i o,i<n->c[i]?=some o->o.dst=dst i) (ar:∀i k d,i<n->k<n->dst i=some d->dst k=some d->i=k) (ag:∀i d,i<n->dst i=some d->d<a0.tmps.size)
  (Z:∀i o e,c[i]?=some o->e∈o.after->Region.binds .any e=true->e.on<i)
  (step:∀i o a w,i<n->c[i]?=some o->a.tmps.size=a0.tmps.size->(∀j,(∀k,k<n->dst k≠some j)->a.tmps[j]?=a0.tmps[j]?)->(∀e∈o.after,Region.binds .any e=true->∀d,dst e.on=some d->∃v,a.tmps[d]?=some v/\pvL L e.on v w)->Below G.heap.size G w ->
   (Region.wanted o (yielded c.toArray a.tmps)=true/\∀K:Act->World->Prop,(∀v E,Below w.heap.size w E->pvL L i v E->K (a.put (dst i) v) E)->Oper.wp P o a w K Q)\/(Region.wanted o (yielded c.toArray a.tmps)=false/\pvL L i undef w))
  (ae:∀a w,a.defers=a0.defers->a.tmps.size=a0.tmps.size->(∀j,(∀k,k<n->dst k≠some j)->a.tmps[j]?=a0.tmps[j]?)->(∀i d,i<n->dst i=some d->∃v,a.tmps[d]?=some v/\pvL L i v w)->Below G.heap.size G w->wpList P c.toArray Q (c.drop n) a w) :
  wpAny P .any c.toArray Q c.toArray.size (Array.replicate c.toArray.size false) a0 G:=by
 have au:∀(m:Nat) (l:Array Bool) (a:Act) (w:World),HeadInv .any c.toArray n l->jod a0 G n dst (pvL L) (fun x y=>Below x.heap.size x y) l a w->jfC l=m->wpAny P .any c.toArray Q m l a w:=by
  intro m
  induction m with
  | zero =>
   intro l a w b I ht;exfalso;have hn:n<l.size:=by rw[b.size];simp;omega
   have p:=jc0 hn (b.tail n (joJ _) (by simp;omega));omega
  | succ m ih =>
  intro l a w b I ht;by_cases hh:∃i,i<n/\l.getD i true=false
  ·obtain⟨R,aj,Y⟩:=hh;have N:=tail_waits hs hc (by simp;omega) b (n-R) R rfl aj Y
   refine⟨fun hr => ?_,fun i D => ?_⟩
   ·exfalso;have H:=jd6 (ops:=c.toArray) b.size (fun i o e ho he hb=>Z i o e (by simpa using ho) he hb) hr R (by simp;omega)
    have W:R<l.size:=by rw[b.size];simp;omega
    have U:l.getD R false=l.getD R true:=by simp[Array.getD,W]
    rw[U,Y]at H;cases H
   have r:i<n:=by
    rcases jpc i n with q|q
    ·exact q
    exact absurd D (N i q)
   obtain⟨o,ho,am,he⟩:=QO D;have a7:c[i]?=some o:=by simpa using ho
   have J:i<l.size:=by rw[b.size];simp;omega
   have af:∀e∈o.after,Region.binds .any e=true->∀d,dst e.on=some d->∃v,a.tmps[d]?=some v/\pvL L e.on v w:=fun e p s d h3=>I.val e.on d (he e p s) h3;have aa:∀v E,Below w.heap.size w E->pvL L i v E->wpAny P .any c.toArray Q m (l.setIfInBounds i true) (a.put (dst i) v) E:=by
    intro v E hR hP;refine ih _ _ _ (b.set D r) ?_ (by have:=jc0 J am;omega);have a8:Below G.heap.size G E:=I.wd.trans (hR.mono I.wd.size)
    cases A:dst i with
    | none =>
     refine⟨I.dfr,I.sz,I.frm,fun k d C f => ?_,a8⟩;rw[Ys l i J]at C;by_cases q:k=i
     ·rw[q,A]at f;cases f
     rw[if_neg q]at C;obtain⟨u,p,s⟩:=I.val k d C f;exact⟨u,p,Uz M hR s⟩
    | some O =>
    have ah:=ag i O r A;have T:∀j,(a.put (some O) v).tmps[j]?=if j=O then some v else a.tmps[j]?:=fun j=>by
     show(a.tmps.setIfInBounds O v)[j]?=_;rw[jps];by_cases h:O=j
     ·subst h;simp[I.sz,ah]
     rw[if_neg h,if_neg (jqr h)]
    refine⟨I.dfr,?_,fun j hj => ?_,fun k d C f => ?_,a8⟩
    ·show(a.tmps.setIfInBounds O v).size=_;simp[I.sz]
    ·rw[T,if_neg (fun e=>hj i r (by rw[A,e]))];exact I.frm j hj
    rw[T];rw[Ys l i J]at C;by_cases q:k=i
    ·subst q;rw[A]at f;rw[if_pos (joN f).symm];exact⟨v,rfl,hP⟩
    rw[if_neg q]at C;have X:k<l.size:=by
     rcases jpc k l.size with z|z
     ·exact z
     rw[jpj,jpv (by omega)]at C;cases C
    have ak:k<n:=by
     rcases jpc k n with z|z
     ·exact z
     have p:=b.tail k z (by rw[<- b.size];exact X);have U:l.getD k false=l.getD k true:=by simp[Array.getD,X]
     rw[U,p]at C;cases C
    rw[if_neg (fun e=>q (ar k i d ak r f (by rw[A,e])))];obtain⟨u,p,s⟩:=I.val k d C f;exact⟨u,p,Uz M hR s⟩
   unfold wpOp;rw[ho];dsimp only;rcases step i o a w r a7 I.sz I.frm af I.wd with ⟨p,s⟩|⟨p,s⟩
   ·rw[if_pos p];exact .inl (s _ aa)
   rw[if_neg (by rw[p];decide),hd i o r a7];exact aa undef w (joL _ _) s
  have p:∀i,i<n->l.getD i true=true:=fun i D=>by
   cases q:l.getD i true with
   | true=>rfl
   | false=>exact absurd ⟨i,D,q⟩ hh
  have aq:l.size=n+g:=by rw[b.size];simp;omega
  have el:=jfU aq p (fun t s h3=>b.tail t s (by rw[<- b.size];exact h3));have ai:∀i,i<n->l.getD i false=true:=fun i D=>by
   have U:l.getD i false=l.getD i true:=by
    have:i<l.size:=by omega
    simp[Array.getD,this]
   rw[U];exact p i D
  have V:(c.drop n).length=g:=by simp;omega
  have hm:m+1=g:=by rw[<- ht,el];unfold jfC;simp[List.filter_append]
  have:=wpAny_of_seq (P:=P) (md:=.any) (ops:=c.toArray) (Q':=Q) (c.drop n) n l a w (fun j=>by simp[List.getElem?_drop]) (by rw[V,el];exact hq)
   (ae a w I.dfr I.sz I.frm (fun i d D h=>I.val i d (ai i D) h) I.wd)
  rw[V]at this;rw[hm];exact this
 refine au c.toArray.size (Array.replicate c.toArray.size false) a0 G ?_ ?_ (by unfold jfC;simp)
 ·exact⟨by simp,fun j oj _ hl=>(by rw[getD_replicate_false]at hl;cases hl),fun t _ ht=>getD_in (by simpa using ht) (getD_replicate_false _ _)⟩
 have e:∀i,(Array.replicate c.toArray.size false).getD i false=false:=fun i=>getD_replicate_false _ i;exact⟨rfl,rfl,fun _ _=>rfl,(fun i d h=>absurd ((e i).symm.trans h) (by decide)),joL _ _⟩
section
attribute [local go_sem] joY
theorem evT{a:Act}{i:Nat}{v:Value}(h:a.tmps[i]?=some v):a.eval (.tmp i)=v:=by show a.tmps.getD i undef=v;rw[jpj,h];rfl
theorem vd{ops:Array Oper}{o:Oper}{a:Act}(h:o.guard=none):Region.wanted o (yielded ops a.tmps)=true:=by unfold Region.wanted;rw[h]
theorem jih:∀(L:List (Nat×Value)) (s t:Array Value),s.size=t.size->(∀p∈L,s[p.1]?=some p.2)->(∀j,j∉L.map Prod.fst->s[j]?=t[j]?)->s=L.foldl (fun u p=>u.setIfInBounds p.1 p.2) t
 | [],s,t,_,_,h=>jqT (fun j=>h j (by simp))
 | p::L,s,t,c,a,d=>by
  rw[List.foldl_cons];refine jih L s _ (by simpa using c) (fun q i=>a q (joU _ i)) (fun j f => ?_);rw[jps];have b:=a p joV
  by_cases q:p.1=j
  ·have:p.1<t.size:=by rw[<- c];exact(Array.getElem?_eq_some_iff.1 b).1
   rw[if_pos q,if_pos this,<- q];exact b
  rw[if_neg q];exact d j (by rw[jpr];intro g;rcases List.mem_cons.1 g with e | e;exact q e.symm;exact f e)
theorem Yz{a a0:Act}(L:List (Nat×Value))(b:a.defers=a0.defers)(f:a.tmps.size=a0.tmps.size)(c:∀p∈L,a.tmps[p.1]?=some p.2)(e:∀j,j∉L.map Prod.fst->a.tmps[j]?=a0.tmps[j]?):a={a0 with tmps:=L.foldl (fun u p=>u.setIfInBounds p.1 p.2) a0.tmps}:=by have:=jih L a.tmps a0.tmps f c e;obtain⟨t,d⟩:=a;obtain⟨h,g⟩:=a0;simp only at this b ⊢;subst this b;rfl
section
variable {o:Oper} {a:Act} {w:World} {K:Act->World->Prop} {Q:Exit->Act->World->Prop}
theorem JZ{v:Value}(e:(execOp a.eval o).run prog w=.ok (.value v) w)(b:K (a.put o.dst v) w):Oper.wp prog o a w K Q:=by unfold Oper.wp;rw[e];exact b
theorem Xh{x:Operand}{v:Value}(c:o.op=Op.move x)(hx:a.eval x=v)(b:K (a.put o.dst v) w):Oper.wp prog o a w K Q :=
 JZ (by simp only[execOp,c,hx];simp[go_sem]) b
theorem jlA{x y:Operand}{m n:Int}(c:o.op=Op.binOp BinOp.eql 3 x y 3)(hx:a.eval x=.int .i64 m)(d:a.eval y=.int .i64 n)(b:K (a.put o.dst (.bool (m==n))) w):Oper.wp prog o a w K Q :=
 JZ (by simp only[execOp,c,hx,d];simp[go_sem]) b
theorem jly{x y:Operand}{m n:Int}(c:o.op=Op.binOp BinOp.neq 3 x y 3)(hx:a.eval x=.int .i64 m)(d:a.eval y=.int .i64 n)(b:K (a.put o.dst (.bool (m != n))) w):Oper.wp prog o a w K Q :=
 JZ (by simp only[execOp,c,hx,d];simp[go_sem]) b
theorem jlz{x y:Operand}{m n:ByteArray}(c:o.op=Op.binOp BinOp.eql 9 x y 9)(hx:a.eval x=.string m)(d:a.eval y=.string n)(b:K (a.put o.dst (.bool (m.toList==n.toList))) w):Oper.wp prog o a w K Q :=
 JZ (by simp only[execOp,c,hx,d];simp[go_sem]) b
theorem Gc{x:Operand}{T:TypeId}{k b i j:Nat}(d:(Instr.fieldAt T (.pointer (some ⟨b,i,none⟩)) k).run prog w=.ok (.pointer (some ⟨b,j,none⟩)) w)(e:o.op=Op.fieldAddr T x k)(hx:a.eval x=.pointer (some ⟨b,i,none⟩))(c:K (a.put o.dst (.pointer (some ⟨b,j,none⟩))) w):Oper.wp prog o a w K Q :=
 JZ (by simp only[execOp,e,hx];simp[d]) c
theorem Jm{x:Operand}{T:TypeId}{b i:Nat}{u:Value}(hl:(Instr.loadAt T (.pointer (some ⟨b,i,none⟩))).run prog w=.ok u w)(d:o.op=Op.load T x)(hx:a.eval x=.pointer (some ⟨b,i,none⟩))(c:K (a.put o.dst u) w):Oper.wp prog o a w K Q :=
 JZ (by simp only[execOp,d,hx];simp[hl]) c
end
section
variable {o:Oper} {a:Act} {w:World} {K:Act->World->Prop} {Q:Exit->Act->World->Prop} {T:Value->World->Prop}
theorem ZQ{x:Operand}{u:Value}(F:Nat){d:TypeId}(j:o.op=Op.call {callee:=Callee.value (Operand.func F),args:=#[x],argTypes:=#[d]})(hx:a.eval x=u)
  (f:∀args w,(callFunc F args).run prog w=.ok (.enter F args) w) (g:Calls prog F #[u] w fun e b=>∃v,e=.returned v/\T v b) (i:∀v b,T v b->K (a.put o.dst v) b):Oper.wp prog o a w K Q:=by
 unfold Oper.wp;have e:(execOp a.eval o).run prog w=.ok (.enter F #[u]) w:=by have c:a.eval (.func F)=.func (.func F) #[] #[]:=rfl;generalize a.eval=k at hx c ⊢;simp only[execOp,j];simp[go_sem,resolve,invoke,hx,c,f]
 rw[e];refine g.mono ?_;rintro e b ⟨v,rfl,h⟩;exact i v b h
theorem ji9{x y:Operand}{u z:Value}(F:Nat){f g:TypeId}(l:o.op=Op.call {callee:=Callee.value (Operand.func F),args:=#[x,y],argTypes:=#[f,g]})(hx:a.eval x=u)(d:a.eval y=z)
  (i:∀args w,(callFunc F args).run prog w=.ok (.enter F args) w) (j:Calls prog F #[u,z] w fun e b=>∃v,e=.returned v/\T v b) (k:∀v b,T v b->K (a.put o.dst v) b):Oper.wp prog o a w K Q:=by
 unfold Oper.wp;have e:(execOp a.eval o).run prog w=.ok (.enter F #[u,z]) w:=by have c:a.eval (.func F)=.func (.func F) #[] #[]:=rfl;generalize a.eval=m at hx d c ⊢;simp only[execOp,l];simp[go_sem,resolve,invoke,hx,d,c,i]
 rw[e];refine j.mono ?_;rintro e b ⟨v,rfl,h⟩;exact k v b h
end
end
end Go.Proofs.YtbapfpekklcicaaGreatDoor
