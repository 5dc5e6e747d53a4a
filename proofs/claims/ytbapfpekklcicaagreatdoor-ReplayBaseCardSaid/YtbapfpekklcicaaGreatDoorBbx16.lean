/- Texts put together:EI,GE,NL,NM,NP,GV,N0,EK,GH. -/
import Derived.Test.YtbapfpekklcicaaGreatDoorBbx15
set_option linter.unusedVariables false
set_option maxRecDepth 100000
set_option maxHeartbeats 16000000
namespace Go.Proofs.YtbapfpekklcicaaGreatDoor
open Go.RowKit Go.Shelf Tryz
section
attribute [local go_sem] jn9
def jbu(eds:List Ed):Prop:=∀ed∈eds,(jM ed.fields).length<=100000/\ed.fields.length<=1000000
def Kb(z:Int):Value:=.int .i64 z
theorem jdg:(prog.info? 3).map (fun i=>(i.zero,i.size,i.bytes))=some (some (.int .i64 0),1,8):=by kernel_rfl
def je6(w0 w w':World)(l:LS)(m:Nat)(eds:List Ed)(P:Nat->World->(Nat->Prop)->Prop)(e:Ending):Prop :=
 Below w0.heap.size w0 w'/\w.heap.size<=w'.heap.size /\
 (((doB l eds).2≠0/\∃u,e=.returned (.tuple #[.pointer none,.slice none 0 0,u])/\vZ w.heap.size w' u (doB l eds).1 (doB l eds).2) \/
 (doB l eds=(-9,0)/\qu eds=(-9,0)/\KK l eds/\∃lb ev ps gv Z,e=.returned (.tuple #[ptr lb,gv,.nilIface])/\zS w.heap.size w' lb ev ps (zE l eds) (m+eds.length)/\P eds.length w' Z /\
  (∀r,Ki lb ev ps (.slice none 0 0) [] r->¬Z r/\w.heap.size<=r)/\w'.ownsRow w.heap.size 3 1 gv (za l eds).length ((za l eds).map Kb)))
theorem Yc{bY:Nat}{D w:World}(au:Below D.heap.size D w)(eds:List Ed)(v:Value)(hv:EdV D v eds)(hl:eds.length<=51)(hf:XO eds)(bL:jbu eds)(hg:ErrT D)
  {aS:Nat} {bz:Value} {aU:List Pr} {l:LS} {m:Nat} (C:zS bY w aS bz aU l m) (hm:m<=5000) {g:Nat} {cb:Array Value} {P:Nat->World->(Nat->Prop)->Prop} (SH:jmS g cb D w.heap.size l eds P) {Z0:Nat->Prop} (hP:P 0 w Z0) :
  Calls prog 177 #[ptr aS,v,.func (.func g) #[] cb] w fun e w'=>je6 D w w' l m eds P e:=by
 obtain⟨i0,hi,ci,cj,ck⟩:=info_parts jdg;have W:=jnS au
 have CK:=jnS (jeW eds v w (hv.below au (jnT _)) (by omega) hf (hg.below au (jnT _)));obtain⟨A,co,rfl,cr,hc⟩:=_root_.id hv;have PC:=jnS hc
 have HF:=jnS hf;have HS:=jnS bL
 have HG:=jnS hg;have HV:=jnS hv
 have HC:=jnS C;have I:=jnS SH
 have HP:=jnS hP;have cp:=SH.eg
 have bF:=jnS (SH.lt 0 w Z0 hP);clear hc hf bL hg hv C hP SH au;unfold ptr;go_enter func177,ntmps177;go_wp2_with fail;refine CK.out.mono ?_;rintro e w1 ⟨u,rfl,b1,hz⟩;have B1:=jnS b1
 by_cases f:(qu eds).2=0;rotate_left
 ·have aj:doB l eds=qu eds:=by unfold doB;rw[if_neg f]
  have V:Hid (je6 D w w1 l m eds P (.returned (.tuple #[.pointer none,.slice none 0 0,u]))):=by show je6 _ _ _ _ _ _ _ _;refine⟨W.out.trans (b1.mono W.out.size),b1.size,.inl ⟨by rw[aj];exact f,u,rfl,by rw[aj];exact hz⟩⟩
  have N:(∃z,u=.iface 54 (.int .i64 z))\/∃q,u=.iface 87 (.pointer (some ⟨q,0,none⟩)):=by
   obtain⟨_,⟨rfl,_⟩|⟨_,⟨q,_,rfl,_⟩,_,_⟩⟩:=hz
   ·rw[zn _ (by omega)];exact .inl ⟨_,rfl⟩
   exact .inr ⟨q,rfl⟩
  clear hz b1 CK;rcases N with ⟨z,rfl⟩|⟨q,rfl⟩
  all_goals
   go_wp2_with fail;go_ret3;exact V.out
 have av:=jbi f;rw[av]at hz;have aj:doB l eds=jha 0 l eds:=by unfold doB;rw[av];rfl
 obtain⟨⟨c1,cm⟩,ak⟩:=vg f;have be:=jnS ak
 have bP:=jnS av;have bi:=jnS aj
 obtain⟨_,⟨rfl,_⟩|⟨_,_,_,hx⟩⟩:=hz;rotate_left
 ·exact absurd rfl hx
 have C1:=HC.out.below b1 (jnT _);have CP:=jnS (jhi aS bz aU l.next w1 C1.la (C1.ents (by omega)))
 have bG:Hid (aU.map Prod.fst=l.es):=C1.es;unfold ptr at CP;clear C1 ak av aj f CK b1;rw[show Zv 0=.nilIface from rfl];go_wp2_with fail;refine CP.out.mono ?_;rintro e w2 ⟨G,aL,aV,rfl,bJ,bK,b2,c8,aP,bH⟩;have bN:=B1.out.size
 have C2:zS w.heap.size w2 G aL aV l m:=by have c:=HC.out;exact⟨bJ,bK.trans bG.out,c.ok,c.sz,by omega,(fun b e=>by have:=aP b e;omega),c.len,c.nx⟩
 have B2:Below w.heap.size w w2:=B1.out.trans (b2.mono bN);have P2:P 0 w2 Z0:=I.out.keep 0 w w2 Z0 (fun _=>False) HP.out (jI.of_below B2 (jnT _)) (fun _ _ e=>e)
 have K2:∀r,Ki G aL aV (.slice none 0 0) [] r->¬Z0 r/\w.heap.size<=r:=by
  intro r E;have c7:w.heap.size<=r:=by
   rcases E with q|q|q|⟨p,hp,_,q⟩|⟨p,hp,_⟩
   ·omega
   ·have:=aP r q;omega
   ·cases q
   ·have:=bH p hp r q;omega
   cases hp
  exact⟨fun hz=>by have:=(bF.out r hz).2;omega,c7⟩
 have aY:Below D.heap.size D w2:=W.out.trans (B2.mono W.out.size);have bO:=jnS C2
 have bV:=jnS P2;have bR:=jnS K2
 have bg:=jnS aY;have cd:=B2.size
 clear C2 P2 K2 aY B2 bJ bK aP bH b2 CP c8 bG HC HP bF;go_wp2_with fail;go_loopw [11,25] (fun gx i wr=>∃(k:Nat) (X:Value) (ps:List Pr) (Z:Nat->Prop) (gv:Value),gv=gx/\k<=eds.length/\i=.int .i64 k/\KK l (eds.take k)/\zS w.heap.size wr G X ps (zE l (eds.take k)) (m+k)/\P k wr Z /\
  (∀r,Ki G X ps (.slice none 0 0) [] r->¬Z r/\w.heap.size<=r)/\wr.ownsRow w.heap.size 3 1 gv (za l (eds.take k)).length ((za l (eds.take k)).map Kb)/\(∀r,gv.ownBlock=some r->¬Z r/\¬Ki G X ps (.slice none 0 0) [] r)/\Below D.heap.size D wr/\w.heap.size<=wr.heap.size) (fun _ i _=>eds.length-(intOf i).toNat)
 case atStart =>
  refine⟨0,aL,aV,Z0,.slice none 0 0,rfl,jn3 _,rfl,trivial,?_,bV.out,bR.out,⟨rfl,.inl ⟨rfl,rfl⟩⟩,(fun r e=>by cases e),bg.out,cd⟩;exact bO.out
 case round =>
 obtain⟨k,X,ps,Z,gv,rfl,hk,rfl,O,hC,ah,hK,o,a7,hB,ce⟩:=hrel;by_cases aQ:k<eds.length
 ·obtain⟨a,K⟩:∃a,eds[k]?=some a:=⟨_,jnW aQ⟩
  obtain⟨b,aT,fv,rfl,aO,c0,c1,c2,ax⟩:=PC.out k a K;obtain⟨fa,fc,rfl⟩:=ax.form;have L:=jn7 K
  replace c0:=(hB.cell (p:=⟨b,aT+k*3,none⟩) aO).trans c0;replace c1:=(hB.cell (p:=⟨b,aT+k*3+1,none⟩) aO).trans c1;replace c2:=(hB.cell (p:=⟨b,aT+k*3+1+1,none⟩) aO).trans c2;obtain⟨U,aA⟩:∃U,U=wr.alloc (.cells #[.int .i64 a.kind,.int .i64 a.id,.slice fa a.fields.length fc] 75):=⟨_,rfl⟩
  have ai:Below wr.heap.size wr U:=by rw[aA];exact(jnV _ wr).alloc (jnT _) _
  have cu:U.heap.size=wr.heap.size+1:=by rw[aA];simp
  have bC:jd U wr.heap.size 75 #[.int .i64 a.kind,.int .i64 a.id,.slice fa a.fields.length fc]:=by rw[aA];exact jd.new _ _ _
  have aM:=hC.below ai (jnT _);have bE:P k U Z:=I.out.keep k wr U Z (fun _=>False) ah (jI.of_below ai (jnT _)) (fun _ _ e=>e)
  have ag:Below D.heap.size D U:=hB.trans (ai.mono hB.size);have H:=I.out.lt k wr Z ah
  have R:∀r,Ki G X ps (.slice none 0 0) [] r->r<wr.heap.size:=fun r E=>hC.str.lt E;have aW:=I.out.ask k a (.slice fa a.fields.length fc) U Z G X ps (m+k) K (be.out a L) bE ag aM (by omega) (fun r E=>(hK r E).1) (ax.below ag (jnT _)) ⟨fa,fc,rfl⟩
  have aG:U.ownsRow w.heap.size 3 1 gv (za l (eds.take k)).length ((za l (eds.take k)).map Kb):=jO o ai (jnT _);obtain⟨ga,gc,rfl⟩:∃A c,gv=.slice A (za l (eds.take k)).length c:=by
   rcases o.2 with ⟨rfl,hn⟩|⟨g',bu,bw,rfl,_⟩
   ·exact⟨none,0,by rw[hn]⟩
   exact⟨_,_,rfl⟩
  have a8:Hid (∀(x:World) (y:Nat->Prop),P (k+1) x y->jI Z U x->(∀r,y r->Z r\/U.heap.size<=r) ->
    zS w.heap.size x G X ps (zE l (eds.take k)) (m+k)/\Qn x (.slice fa a.fields.length fc) a.fields/\jd x wr.heap.size 75 #[.int .i64 a.kind,.int .i64 a.id,.slice fa a.fields.length fc]/\Below D.heap.size D x/\x.ownsRow w.heap.size 3 1 (.slice ga (za l (eds.take k)).length gc) (za l (eds.take k)).length ((za l (eds.take k)).map Kb)/\(∀r,y r->¬(r=G\/X.ownBlock=some r))/\wr.heap.size<x.heap.size):=by
   intro x y J ho am;have bB:Below D.heap.size D x:=ag.trans (ho.to_below ag.size (fun r E e=>by have:=(H r e).1;omega))
   refine⟨aM.only ho (fun r E=>(hK r E).1),ax.below bB (jnT _),bC.only ho (fun e=>by have:=(H _ e).2;omega),bB,jK aG ho (fun r e=>(a7 r e).1),?_,by have:=ho.size;omega⟩;intro r E hs;have Y:Ki G X ps (.slice none 0 0) [] r:=by
    rcases hs with q|q
    ·exact .inl q
    exact .inr (.inl q)
   rcases am r E with q|q
   ·exact(hK r Y).1 q
   have:=R r Y;omega
  have aC:Hid (∀(x d:World) (y:Nat->Prop) (u s:Value) (t:List Pr),P (k+1) x y->jI Z U x->(∀r,y r->Z r\/U.heap.size<=r)->WrR x G X ps (jL (zE l (eds.take k)) a) u d s t ->
    zS w.heap.size d G s t (zE l (eds.take (k+1))) (m+(k+1))/\P (k+1) d y/\(∀r,Ki G s t (.slice none 0 0) [] r->¬y r/\w.heap.size<=r)/\d.ownsRow w.heap.size 3 1 (.slice ga (za l (eds.take k)).length gc) (za l (eds.take k)).length ((za l (eds.take k)).map Kb) /\
    (∀r,(Value.slice ga (za l (eds.take k)).length gc).ownBlock=some r->¬y r/\¬Ki G s t (.slice none 0 0) [] r)/\Below D.heap.size D d/\jd d wr.heap.size 75 #[.int .i64 a.kind,.int .i64 a.id,.slice fa a.fields.length fc]/\wr.heap.size<d.heap.size):=by
   intro x d y u s t J ho am hR;obtain⟨d1,_,d3,d4,d5,d6,d7⟩:=a8.out x y J ho am;have aN:=I.out.lt (k+1) x y J
   have ay:∀r,(Value.slice ga (za l (eds.take k)).length gc).ownBlock=some r->r<wr.heap.size:=fun r e=>(o.lt r e).2;refine⟨?_,I.out.keep (k+1) x d y _ J hR.only d6,?_,jK d5 hR.only ?_,?_,?_,?_,?_⟩
   ·have q:=d1.blkEd (HS.out a L).1 (HS.out a L).2 (by omega) hR;rw[jaI K];exact q
   ·intro r E;rcases hR.blks E with q|q
    ·refine⟨fun e => ?_,(hK r q).2⟩;rcases am r e with e|e
     ·exact(hK r q).1 e
     have:=R r q;omega
    refine⟨fun e=>by have:=(aN r e).2;omega,by omega⟩
   ·intro r e hs;refine(a7 r e).2 ?_;rcases hs with q|q
    ·exact .inl q
    exact .inr (.inl q)
   ·intro r e;have h1:=ay r e
    refine⟨fun z => ?_,fun E => ?_⟩
    ·rcases am r z with q|q
     ·exact(a7 r e).1 q
     omega
    rcases hR.blks E with q|q
    ·exact(a7 r e).2 q
    omega
   ·refine d4.trans (hR.only.to_below d4.size (fun r E e => ?_));have Y:Ki G X ps (.slice none 0 0) [] r:=by
     rcases e with q|q
     ·exact .inl q
     exact .inr (.inl q)
    have h1:=(hK r Y).2;have h2:=W.out.size
    omega
   ·refine d3.only hR.only (fun e => ?_);have Y:Ki G X ps (.slice none 0 0) [] wr.heap.size:=by
     rcases e with q|q
     ·exact .inl q
     exact .inr (.inl q)
    have:=R _ Y;omega
   have:=hR.only.size;omega
  have ar:Hid ((jL (zE l (eds.take k)) a).bad=0->KK l (eds.take (k+1))):=fun h=>jaF K O h;have AT:Hid ((jL (zE l (eds.take k)) a).bad≠0->doB l eds=(((k:Nat):Int),(jL (zE l (eds.take k)) a).bad)):=fun h=>by rw[bi.out];exact jg9 K O h
  have ae:Hid (za l (eds.take (k+1))=za l (eds.take k)++(if a.kind=3 then [(jL (zE l (eds.take k)) a).id] else [])):=Wi K;have cl:(za l (eds.take k)).length<=51:=by have h1:=jaW l (eds.take k);rw[jn2]at h1;omega
  have bZ:=jky (zE l (eds.take k)) a;have F7:=jnS (HF.out a L)
  have aa:=jnS aW;clear K O hC ah hK o a7 hB ai bC aM bE ag H R aW aG ax L;generalize bM:jL (zE l (eds.take k)) a=st at *
  have bW:=jnS bM;clear bM;generalize bI:za l (eds.take k)=aB at *
  clear bI;unfold ptr at aa;subst aA;go_wp2_with fail;refine aa.out.mono ?_;rintro e x ⟨rfl,y,J,aR,ap⟩;obtain⟨d1,d2,d3,d4,d5,d6,d7⟩:=a8.out x y J aR ap;have DO:=jly d1 (by omega) a (.slice fa a.fields.length fc) d2 F7.out
  rw[bW.out]at DO;have DO:=jnS DO
  have e0:x.cell? ⟨wr.heap.size,0,none⟩=some (.int .i64 a.kind):=by rw[d3.cell 0];rfl
  have e1:x.cell? ⟨wr.heap.size,1,none⟩=some (.int .i64 a.id):=by rw[d3.cell 1];rfl
  have e2:x.cell? ⟨wr.heap.size,2,none⟩=some (.slice fa a.fields.length fc):=by rw[d3.cell 2];rfl
  have bU:=jnS J;have bT:=jnS aR
  have bX:=jnS ap;clear d1 d2 d3 d4 d5 d6 J aR ap aa a8;unfold ptr at DO;go_wp2_with fail;refine DO.out.mono ?_;rintro e d ⟨u,s,t,rfl,hR⟩;obtain⟨f1,f2,f3,f4,f5,f6,f7,f8⟩:=aC.out x d y u s t bU.out bT.out bX.out hR;have Q:=hR.err
  clear hR aC DO e0 e1 e2;by_cases f:st.bad=0
  ·obtain⟨_,⟨rfl,_⟩|⟨_,_,_,hx⟩⟩:=Q;rotate_left
   ·exact absurd f hx
   rw[show Zv st.bad=.nilIface by rw[f];rfl];have bm:=jnS (ar.out f)
   have g0:d.cell? ⟨wr.heap.size,0,none⟩=some (.int .i64 a.kind):=by rw[f7.cell 0];rfl
   by_cases h3:a.kind=3
   ·have n:=ae.out;rw[if_pos h3]at n;have n:=jnS n
    have bj:Hid (∀(j:Nat) (u:Value),[Kb st.id][j]?=some u->(d.alloc (.cells #[.int .i64 st.id] 3)).cell? ((⟨d.heap.size,0,none⟩:Addr).add j)=some u):=fun j u h=>by
     have ea:(⟨d.heap.size,0,none⟩:Addr).add j=⟨d.heap.size,j,none⟩:=by unfold Addr.add;split<;>simp_all
     rw[ea,(jd.new d 3 #[.int .i64 st.id]).cell j];simpa [Kb]using h
    have aH:=jnS f1;have aI:=jnS f2
    have bQ:=jnS f3;have aJ:=jnS f4
    have aq:=jnS f5;have aK:=jnS f6
    clear f1 f2 f3 f4 f5 f6 f7 ae AT ar;rw[h3]at g0;go_wp2_with (at_builtin;refine ju rfl _ _ 23 rfl w.heap.size 3 i0 _ 1 8 underlying23 hi ci cj ck rfl (by decide) _ _ _ rfl (aJ.out.alloc _) ⟨d.heap.size,0,none⟩ 1 1 _ rfl rfl bj.out (by intro u hu;simp at hu;subst hu;rfl) (by unfold maxLen;omega) (by omega) (by simp only[joe];omega) ?_);intro bA W4 aF af bo;have aD:=bo.out
    have o4:jI (fun r=>(Value.slice ga aB.length gc).ownBlock=some r) d W4 :=
     (jI.of_below (S:=fun r=>(Value.slice ga aB.length gc).ownBlock=some r) ((jnV _ d).alloc (jnT _) (.cells #[.int .i64 st.id] 3)) (jnT _)).grown af (fun r e=>.inl e)
    have ay:∀r,(Value.slice ga aB.length gc).ownBlock=some r->w.heap.size<=r/\r<d.heap.size:=fun r e=>aJ.out.lt r e;have aE:∀r,Ki G s t (.slice none 0 0) [] r->r<d.heap.size:=fun r E=>aH.out.str.lt E
    have H:=I.out.lt (k+1) d y aI.out;have R1:zS w.heap.size W4 G s t (zE l (eds.take (k+1))) (m+(k+1)):=aH.out.only o4 (fun r E e=>(aq.out r e).2 E)
    have R2:P (k+1) W4 y:=I.out.keep (k+1) d W4 y _ aI.out o4 (fun r E e=>(aq.out r e).1 E);have R4:W4.ownsRow w.heap.size 3 1 bA (za l (eds.take (k+1))).length ((za l (eds.take (k+1))).map Kb):=by rw[n.out,jnU,joB];exact aF
    have R5:∀r,bA.ownBlock=some r->¬y r/\¬Ki G s t (.slice none 0 0) [] r:=by
     intro r e;rcases aD with q|q
     ·exact aq.out r (by rw[<- q];exact e)
     rw[q]at e;have e':d.heap.size+1=r:=by simpa using e
     exact⟨fun z=>by have:=(H r z).2;omega,fun z=>by have:=aE r z;omega⟩
    have R6:Below D.heap.size D W4:=aK.out.trans (o4.to_below aK.out.size (fun r E e=>by have:=(ay r e).1;have:=W.out.size;omega));have ct:=o4.size
    have H1:=jnS R1;have H2:=jnS R2
    have H4:=jnS R4;have H5:=jnS R5
    have H6:=jnS R6;clear R1 R2 R4 R5 R6 o4 ay aE H aF af bo aD bj aH aI aJ aq aK;go_wp2_with fail;go_roundw
    case rel=>exact⟨k+1,s,t,y,_,rfl,aQ,by go_num,bm.out,H1.out,H2.out,bQ.out,H4.out,H5.out,H6.out,by omega⟩
    case measure=>simp[intOf];omega
   have n:=ae.out;rw[if_neg h3,jok]at n;have q3:(a.kind==3)=false:=by simpa using h3
   have R4:d.ownsRow w.heap.size 3 1 (.slice ga aB.length gc) (za l (eds.take (k+1))).length ((za l (eds.take (k+1))).map Kb):=by rw[n];exact f4
   have H1:=jnS f1;have H2:=jnS f2
   have H3:=jnS f3;have H4:=jnS R4
   have H5:=jnS f5;have H6:=jnS f6
   clear f1 f2 f3 f4 f5 f6 f7 ae AT ar R4 n;go_wp2_with fail;go_roundw
   case rel=>exact⟨k+1,s,t,y,_,rfl,aQ,by go_num,bm.out,H1.out,H2.out,H3.out,H4.out,H5.out,H6.out,by omega⟩
   case measure=>simp[intOf];omega
  have FA:=jnS (ja4 k st.bad st.at_ u d Q f (HG.out.below f6 (jnT _)));have aX:=AT.out f
  have N:(∃z,u=.iface 54 (.int .i64 z))\/∃q,u=.iface 87 (.pointer (some ⟨q,0,none⟩)):=by
   obtain⟨_,⟨rfl,_⟩|⟨_,⟨q,_,rfl,_⟩,_,_⟩⟩:=Q
   ·rw[zn st.bad (by omega)];exact .inl ⟨_,rfl⟩
   exact .inr ⟨q,rfl⟩
  have V:Hid (∀W3 u',Below d.heap.size d W3->jz d.heap.size W3 u' k st.bad->je6 D w W3 l m eds P (.returned (.tuple #[.pointer none,.slice none 0 0,u']))):=by intro W3 u' b3 aw;refine⟨f6.trans (b3.mono f6.size),by have:=b3.size;omega,.inl ⟨by rw[aX];exact f,u',rfl,?_⟩⟩;rw[aX];exact vZ.fault (aw.mono (by omega)) f bZ
  clear Q f1 f2 f3 f4 f5 f6 f7 ae AT ar;rcases N with ⟨z,rfl⟩|⟨q,rfl⟩
  all_goals
   go_wp2_with fail;refine FA.out.mono ?_;rintro e w3 ⟨u',rfl,b3,aw⟩;have aZ:=jnS (V.out w3 u' b3 aw)
   clear aw b3;go_wp2_with fail;go_ret3;exact aZ.out
 obtain rfl:k=eds.length:=by omega
 rw[jom]at O hC o;have V:Hid (je6 D w wr l m eds P (.returned (.tuple #[ptr G,gv,.nilIface]))):=by show je6 _ _ _ _ _ _ _ _;exact⟨hB,ce,.inr ⟨by rw[bi.out];exact jg8 0 l eds O,bP.out,O,G,X,ps,gv,Z,rfl,hC,ah,hK,o⟩⟩
 obtain⟨ga,gc,rfl⟩:∃A c,gv=.slice A (za l eds).length c:=by
  rcases o.2 with ⟨rfl,hn⟩|⟨g',bu,bw,rfl,_⟩
  ·exact⟨none,0,by rw[hn]⟩
  exact⟨_,_,rfl⟩
 clear PC O hC o hK a7 ah;unfold ptr at V;go_wp2_with fail;go_ret3;exact V.out
end
namespace Rp
def qq:LS->List (List Ed)->Option LS
 | l,[]=>some l
 | l,b::r=>if (doB l b).2=0 then qq (zE l b) r else none
def Xo:LS->List (List Ed)->List (List Int)
 | _,[]=>[]
 | l,b::r=>za l b::Xo (zE l b) r
def xL:List (List Ed)->Nat
 | []=>0
 | b::r=>b.length+xL r
theorem xZ:∀(a b:List (List Ed)) (l:LS),qq l (a++b)=(qq l a).bind fun k=>qq k b
 | [],_,_=>rfl
 | x::a,b,l=>by
  show(if (doB l x).2=0 then qq (zE l x) (a++b) else none)=(if (doB l x).2=0 then qq (zE l x) a else none).bind _;split
  ·exact xZ a b _
  rfl
theorem QA{l k:LS}{a:List (List Ed)}{b:List Ed}(h:qq l a=some k):qq l (a++[b])=if (doB k b).2=0 then some (zE k b) else none:=by rw[xZ,h];rfl
theorem UX:∀(a:List (List Ed)) (l k:LS) (b:List Ed),qq l a=some k->Xo l (a++[b])=Xo l a++[za k b]
 | [],l,k,b,h=>by cases h;rfl
 | x::a,l,k,b,h=>by
  have c:(if (doB l x).2=0 then qq (zE l x) a else none)=some k:=h;split at c
  ·show za l x::Xo (zE l x) (a++[b])=za l x::(Xo (zE l x) a++[za k b]);rw[UX a _ k b c]
  cases c
theorem jb5:∀(a:List (List Ed)) (l:LS),(Xo l a).length=a.length
 | [],_=>rfl
 | x::a,l=>by show(Xo (zE l x) a).length+1=a.length+1;rw[jb5 a]
theorem Za:∀(a b:List (List Ed)),xL (a++b)=xL a+xL b
 | [],b=>(jov _).symm
 | x::a,b=>by show x.length+xL (a++b)=x.length+xL a+xL b;rw[Za a b];omega
theorem JZ{c:Type}{a:List c}{i:Nat}{b:c}(h:a[i]?=some b):a.take (i+1)=a.take i++[b]:=by rw[jor,h];rfl
theorem Yw(a:List (List Ed))(i:Nat):xL (a.take i)<=xL a:=by have h:=Za (a.take i) (a.drop i);rw[joj]at h;omega
theorem jkt{a:List (List Ed)}{i:Nat}{b:List Ed}(h:a[i]?=some b):xL (a.take (i+1))=xL (a.take i)+b.length:=by rw[JZ h,Za];rfl
def vj(l:LS)(bs:List (List Ed))(i:Nat):Prop:=∃k b,qq l (bs.take i)=some k/\bs[i]?=some b/\(doB k b).2≠0
theorem jec{l k:LS}{a:List (List Ed)}(h:qq l a=some k)(i:Nat):∃b,qq l (a.take i)=some b:=by
 rw[<- joj i a,xZ]at h;cases c:qq l (a.take i) with
 | none=>rw[c]at h;cases h
 | some b=>exact⟨b,rfl⟩
theorem jas{l:LS}{a:List (List Ed)}{i j:Nat}(h:vj l a i)(n:i<j):qq l (a.take j)=none:=by
 obtain⟨k,b,f,g,m⟩:=h;have e:(a.take j).take (i+1)=a.take i++[b]:=by rw[jql,jqf n,JZ g]
 have c:=QA (b:=b) f;rw[if_neg m,<- e]at c;cases o:qq l (a.take j) with
 | none=>rfl
 | some p=>obtain⟨q,d⟩:=jec o (i+1);rw[c]at d;cases d
theorem vj.lt{l:LS}{a:List (List Ed)}{i:Nat}(h:vj l a i):i<a.length:=by obtain⟨_,_,_,b,_⟩:=h;exact(List.getElem?_eq_some_iff.1 b).1
theorem vj.not{l k:LS}{a:List (List Ed)}{i:Nat}(h:vj l a i)(b:qq l a=some k):False:=by have:=jas h h.lt;rw[jom,b]at this;cases this
def jfd(bs:List (List Ed)):Prop:=∀b∈bs,b.length<=51/\XO b/\jbu b
theorem jfd.take{a:List (List Ed)}(h:jfd a)(i:Nat):jfd (a.take i):=fun b c=>h b (joR c)
def BtV(w:World)(v:Value)(bs:List (List Ed)):Prop :=
 ∃A cap,v=.slice A bs.length cap/\bs.length<=cap/\∀(i:Nat) b,bs[i]?=some b->∃g off u,A=some ⟨g,off,none⟩/\g<w.heap.size/\w.cell? ⟨g,off+i,none⟩=some u/\EdV w u b
theorem BtV.below{w w':World}{v:Value}{k:List (List Ed)}{N:Nat}(h:BtV w v k)(f:Below N w w')(m:w.heap.size<=N):BtV w' v k:=by obtain⟨A,d,e,j,n⟩:=h;refine⟨A,d,e,j,fun i b q => ?_⟩;obtain⟨g,a,u,l,o,c,r⟩:=n i b q;exact⟨g,a,u,l,jod o f.size,(f.cell (p:=⟨g,a+i,none⟩) (show g<N by omega)).trans c,r.below f m⟩
theorem BtV.take{w:World}{A:Option Addr}{n c:Nat}{a:List (List Ed)}(h:BtV w (.slice A n c) a){k:Nat}(q:k<=a.length):BtV w (.slice A k c) (a.take k):=by
 obtain⟨p,f,e,o,m⟩:=h;injection e with g j l;subst g j l;have hl:(a.take k).length=k:=by rw[jn2];omega
 refine⟨A,c,by rw[hl],by omega,fun i b d => ?_⟩;rw[joH]at d;split at d
 ·exact m i b d
 cases d
structure XQ(lo:Nat)(w:World)(gv:Value)(gs:List (List Int))(us:List Value):Prop where
 row:w.ownsRow lo 23 1 gv gs.length us
 each:∀(i:Nat) g u,gs[i]?=some g->us[i]?=some u->w.ownsRow lo 3 1 u g.length (g.map Kb)
theorem XQ.nil(lo:Nat)(w:World):XQ lo w (.slice none 0 0) [] []:=⟨⟨rfl,.inl ⟨rfl,rfl⟩⟩,fun i b u a c=>by simp at a⟩
theorem XQ.len{lo:Nat}{w:World}{c:Value}{a:List (List Int)}{b:List Value}(h:XQ lo w c a b):b.length=a.length:=by have:=h.row.1;omega
def JK(gen:Int)(s:List UInt8)(A:Option Addr)(n c:Nat)(ea:Option Addr)(en ec:Nat)(tl:ByteArray):Value:=.agg #[.int .i64 gen,.string (B s),.slice A n c,.slice ea en ec,.string tl]
end Rp
theorem jef{es:List En}(h:(nums es).Nodup):es.Pairwise fun x y=>0<x.2->0<y.2->x.2≠y.2:=by
 unfold nums at h;have c:((es.map Prod.snd).filter fun n=>decide (0<n)).Pairwise (· ≠ ·):=h
 rw[List.pairwise_filter,List.pairwise_map]at c;exact c.imp fun {a b} q d e=>q (by simpa using d) (by simpa using e)
theorem jh7{es:List En}(h:(nums es).Nodup){i j:Nat}{x y:En}(k:es[i]?=some x)(l:es[j]?=some y)(e:0<x.2)(d:x.2=y.2):i=j:=by
 have a:=List.pairwise_iff_getElem.1 (jef h);obtain⟨f,b⟩:=List.getElem?_eq_some_iff.1 k;obtain⟨g,c⟩:=List.getElem?_eq_some_iff.1 l;rcases Nat.lt_trichotomy i j with q|q|q
 ·have:=a i j f g q;rw[b,c]at this;exact absurd d (this e (by omega))
 ·exact q
 have:=a j i g f q;rw[b,c]at this;exact absurd d.symm (this (by omega) e)
theorem jdo{b:List Pr}{es:List En}(a:b.map Prod.fst=es)(wf:WF es)(r:(nums es).Nodup){j:Nat}{e:En}(c:es[j]?=some e)(q:0<e.2):∃p,(yj b e.2).bind (b[·]?)=some p/\p.1=e:=by
 rw[Gc (by rw[a];exact wf),a];have f:(vu es e.2).isSome=true:=by unfold vu;rw[if_pos q,List.findIdx?_isSome,List.any_eq_true];exact⟨e,jn7 c,by simp⟩
 obtain⟨k,m⟩:=Option.isSome_iff_exists.1 f;obtain⟨_,s,d,o,n⟩:=xx m;have g:k=j:=jh7 r d c (by omega) o
 subst g;rw[m];have l:(b.map Prod.fst)[k]?=some e:=by rw[a];exact c
 rw[joI]at l;obtain⟨p,h,i⟩:=Option.map_eq_some_iff.1 l;exact⟨p,h,i⟩
def yW(N:Int)(T:List Int)(e:En):Bool:=decide (0<e.2)&&decide (e.2<N) && !(T.contains e.2)
theorem ZP{N:Int}{T:List Int}{e:En}:yW N T e=true↔0<e.2/\e.2<N/\e.2∉T:=by unfold yW;simp[and_assoc]
theorem jaQ{N:Int}{T:List Int}{id:Int}{a b:List En}(h:a.filter (yW N T)=b.filter (yW N T)):a.filter (yW N (T++[id]))=b.filter (yW N (T++[id])):=by
 have e:∀l:List En,l.filter (yW N (T++[id]))=(l.filter (yW N T)).filter (yW N (T++[id])):=fun l=>by
  rw[List.filter_filter];refine List.filter_congr fun x _ => ?_;cases c:yW N (T++[id]) x with
  | false=>rfl
  | true =>
  obtain⟨a1,a2,a3⟩:=ZP.1 c;have:yW N T x=true:=ZP.2 ⟨a1,a2,fun q=>a3 (List.mem_append.2 (.inl q))⟩
  rw[this];rfl
 rw[e a,e b,h]
theorem ZY{a:Type}(p:a->Bool)(f:a->a):∀(l:List a) (k:Nat),(∀x,l[k]?=some x->p x=false/\p (f x)=false)->(l.modify k f).filter p=l.filter p
 | [],k,_=>by cases k<;>rfl
 | x::r,0,h=>by
  obtain⟨b,c⟩:=h x rfl;show(f x::r).filter p=_
  rw[joP,joP,b,c];rfl
 | x::r,k+1,h=>by show(x::r.modify k f).filter p=_;rw[joP,joP,ZY p f r k (fun y d=>h y (by simpa using d))]
theorem jiG{N:Int}{T:List Int}{es:List En}{k:Nat}{it:It}{e:En}(b:es[k]?=some e)(a:yW N T e=false):(XP es k it).filter (yW N T)=es.filter (yW N T):=by unfold XP;refine ZY _ _ es k fun x hx => ?_;rw[b]at hx;cases hx;exact⟨a,a⟩
theorem jiI{N:Int}{T:List Int}{es:List En}{k:Nat}{e:En}(a:es[k]?=some e)(c:yW N T e=false):(GG es k).filter (yW N T)=es.filter (yW N T):=by
 have d:es=es.take k++e::es.drop (k+1):=by
  obtain⟨hl,b⟩:=List.getElem?_eq_some_iff.1 a
  conv=>lhs;rw[<- joj k es,jou hl,b]
 unfold GG
 conv=>rhs;rw[d]
 rw[jo8,jo8,joP,c];rfl
theorem jiH{N:Int}{T:List Int}{es:List En}{k:Nat}{e:En}(a:yW N T e=false):(Ui es k e).filter (yW N T)=es.filter (yW N T):=by
 unfold Ui
 conv=>rhs;rw[<- joj k es]
 rw[jo8,jo8,joP,a];rfl
def JQ(kind id:Int):List Int:=if kind=1\/kind=2 then [id] else []
theorem jgp{N:Int}{T:List Int}{es0:List En}{l:LS}(h:l.es.filter (yW N T)=es0.filter (yW N T))(m:N<=l.next)(kind id:Int)(fs:List Fld):
  (vU l kind id fs).ls.es.filter (yW N (T++JQ kind id))=es0.filter (yW N (T++JQ kind id))/\N<=(vU l kind id fs).ls.next:=by
 refine⟨?_,Int.le_trans m (Gi l kind id fs).2.1⟩;have a:∀e:En,e.2=id->yW N (T++[id]) e=false:=fun e c=>by
  cases j:yW N (T++[id]) e with
  | false=>rfl
  | true=>exact absurd (List.mem_append.2 (.inr (List.mem_singleton.2 c))) (ZP.1 j).2.2
 by_cases d:kind=1
 ·subst d;rw[show JQ 1 id=[id] from rfl];have b:=jaQ (id:=id) h
  show(zu l id fs).ls.es.filter _=_;unfold zu;split
  ·exact b
  rename_i k g;obtain⟨_,e,c,i,_⟩:=xx g;split
  ·show(XP l.es k (zx fs)).filter _=_;rw[jiG c (a e i)];exact b
  exact b
 by_cases f:kind=2
 ·subst f;rw[show JQ 2 id=[id] from rfl];have b:=jaQ (id:=id) h
  show(zR l id).ls.es.filter _=_;unfold zR;split
  ·exact b
  rename_i k g;obtain⟨_,e,c,i,_⟩:=xx g;show(GG l.es k).filter _=_
  rw[jiI c (a e i)];exact b
 have n:JQ kind id=[]:=by unfold JQ;rw[if_neg (by rintro(q | q);exact d q;exact f q)]
 rw[n,jok,jlw l d f];unfold zh;split
 ·exact h
 split
 ·split
  ·exact h
  show(Ui l.es _ (zx fs,l.next)).filter _=_;rw[jiH ?_]
  ·exact h
  cases j:yW N T (zx fs,l.next) with
  | false=>rfl
  | true =>
  have:=(ZP.1 j).2.1;have:l.next<N:=this
  omega
 exact h
def JP(eds:List Ed):List Int:=eds.flatMap fun ed=>JQ ed.kind ed.id
theorem Yj:∀(n:Int) (f:List It),0<n->(zq n f).Pairwise (fun x y=>0<x.2->0<y.2->x.2<y.2)/\∀m,n<=m->m<jB n f->∃e∈zq n f,e.2=m
 | n,[],_=>⟨List.Pairwise.nil,fun m l g=>by have:m<n:=g;omega⟩
 | n,d::r,h=>by
  by_cases i:d.kind=3
  ·obtain⟨a,b⟩:=Yj (n+1) r (by omega);obtain⟨c,_⟩:=ZK (n+1) r (by omega);have j:zq n (d::r)=(d,n)::zq (n+1) r:=by rw[zq,if_pos i]
   have k:jB n (d::r)=jB (n+1) r:=by rw[jB,if_pos i]
   rw[j,k];refine⟨List.Pairwise.cons (fun y s _ t => ?_) a,fun m l g => ?_⟩
   ·have:y.2∈nums (zq (n+1) r):=by unfold nums;exact List.mem_filter.2 ⟨jpu s,by simpa using t⟩
    have:=(c _ this).1;show n<y.2
    omega
   by_cases q:m=n
   ·exact⟨_,jn5,q.symm⟩
   obtain⟨e,o,p⟩:=b m (by omega) g;exact⟨e,jn4 _ o,p⟩
  obtain⟨a,b⟩:=Yj n r h;have j:zq n (d::r)=(d,0)::zq n r:=by rw[zq,if_neg i]
  have k:jB n (d::r)=jB n r:=by rw[jB,if_neg i]
  rw[j,k];refine⟨List.Pairwise.cons (fun y s u _=>absurd u (by simp)) a,fun m l g => ?_⟩;obtain⟨e,o,p⟩:=b m l g;exact⟨e,jn4 _ o,p⟩
theorem jen{N:Int}{T:List Int}{es es0:List En}(h:es.filter (yW N T)=es0.filter (yW N T)){n:Int}(d:∃e∈es0,e.2=n)(l:0<n)(k:n<N)(g:n∉T):∃e:En,(∃i:Nat,es0[i]?=some e)/\(∃j:Nat,es[j]?=some e)/\e.2=n/\yW N T e=true:=by
 obtain⟨e,a,c⟩:=d;have b:yW N T e=true:=ZP.2 ⟨by omega,by omega,by rw[c];exact g⟩
 have f:e∈es.filter (yW N T):=by rw[h];exact List.mem_filter.2 ⟨a,b⟩
 exact⟨e,jqA a,jqA (List.mem_filter.1 f).1,c,b⟩
namespace Rp
theorem jgo{N:Int}{es0:List En}:∀(b:List Ed) (l:LS) (T:List Int),l.es.filter (yW N T)=es0.filter (yW N T)->N<=l.next->(zE l b).es.filter (yW N (T++JP b))=es0.filter (yW N (T++JP b))/\N<=(zE l b).next
 | [],l,T,h,c=>by
  have e:T++JP []=T:=by simp[JP]
  rw[e];exact⟨h,c⟩
 | a::r,l,T,h,c=>by
  obtain⟨d,f⟩:=jgp h c a.kind a.id a.fields;have:=jgo r (jL l a).ls (T++JQ a.kind a.id) d f
  have e:T++JP (a::r)=T++JQ a.kind a.id++JP r:=by unfold JP;rw[joc,jn8]
  rw[e];exact this
def Vl(bs:List (List Ed)):List Int:=bs.flatMap JP
theorem We{N:Int}{es0:List En}:∀(c:List (List Ed)) (l k:LS) (T:List Int),qq l c=some k->l.es.filter (yW N T)=es0.filter (yW N T)->N<=l.next->k.es.filter (yW N (T++Vl c))=es0.filter (yW N (T++Vl c))
 | [],l,k,T,d,h,f=>by
  cases d;have e:T++Vl []=T:=by simp[Vl]
  rw[e];exact h
 | b::r,l,k,T,d,h,f=>by
  have a:(if (doB l b).2=0 then qq (zE l b) r else none)=some k:=d;split at a
  ·obtain⟨g,i⟩:=jgo b l T h f;have:=We r (zE l b) k (T++JP b) a g i
   have e:T++Vl (b::r)=T++JP b++Vl r:=by unfold Vl;rw[joc,jn8]
   rw[e];exact this
  cases a
def tch(id:Int)(ed:Ed):Bool:=ed.kind != 3&&ed.id==id
def jcD(id:Int)(bs:List (List Ed)):Bool:=bs.any fun b=>b.any (tch id)
theorem jkp{id:Int}{c:List (List Ed)}(h:jcD id c=false):id∉Vl c:=by
 intro k;obtain⟨b,i,f⟩:=List.mem_flatMap.1 k;obtain⟨d,j,a⟩:=List.mem_flatMap.1 f;have g:tch id d=true:=by
  unfold JQ at a;split at a
  ·rename_i q;have:id=d.id:=by simpa using a
   unfold tch;rw[this];rcases q with q|q<;>rw[q]<;>simp
  cases a
 have e:jcD id c=true:=List.any_eq_true.2 ⟨b,i,List.any_eq_true.2 ⟨d,j,g⟩⟩;rw[h]at e;cases e
theorem jjI{s:List UInt8}{its:List It}{g:List (List Ed)}{k:LS}{id:Int}(d:jv s=.ok its)(w:qq (jQ its) g=some k)(r:1<=id)(n:id<(jQ its).next)(x:jcD id g=false)
  {a l:List Pr} (b:a.map Prod.fst=(jQ its).es) (h:l.map Prod.fst=k.es) (c:OkL (jQ its)) (ok:OkL k):∃f p,(yj a id).bind (a[·]?)=some f/\(yj l id).bind (l[·]?)=some p/\f.1=p.1:=by
 have o:=We (N:=(jQ its).next) (es0:=(jQ its).es) g _ k [] w rfl (jpp _);rw[joL]at o;obtain⟨e,⟨i,t⟩,⟨j,u⟩,v,_⟩:=jen o ((Yj 1 its (by decide)).2 id r n) (by omega) n (jkp x);obtain⟨f,a1,a2⟩:=jdo b c.wf c.nd t (by omega);obtain⟨p,m,q⟩:=jdo h ok.wf ok.nd u (by omega);rw[v]at a1 m;exact⟨f,p,a1,m,by rw[a2,q]⟩
end Rp
section
attribute [local go_sem] jn9
def jkj(_:Nat)(_:World)(Z:Nat->Prop):Prop:=∀r,¬Z r
theorem jdU(t:World)(l:Nat)(q:LS)(eds:List Ed):jmS 178 #[] t l q eds jkj:=by
 refine⟨enters_of func178 (by kernel_rfl) rfl,fun j W Z h r g=>absurd g (h r),fun j W u Z S h _ _=>h,?_⟩;intro j a w W Z s v y m e _ hP n o x p f b;obtain⟨c,d,rfl⟩:=b;have k:Below W.heap.size W (W.alloc (.cells #[.int .i64 a.kind,.int .i64 a.id,.slice c a.fields.length d] 75)):=(jnV _ W).alloc (jnT _) _
 have H:Hid (∃i,jkj (j+1) (W.alloc (.cells #[.int .i64 a.kind,.int .i64 a.id,.slice c a.fields.length d] 75)) i/\jI Z W (W.alloc (.cells #[.int .i64 a.kind,.int .i64 a.id,.slice c a.fields.length d] 75))/\∀r,i r->Z r\/W.heap.size<=r) :=
  ⟨Z,hP,jI.of_below k (jnT _),fun r g=>.inl g⟩
 clear e hP n o p f k;unfold ptr;show Calls _ _ #[.pointer (some ⟨s,0,none⟩),.agg #[.int .i64 a.kind,.int .i64 a.id,.slice c a.fields.length d]] _ _
 go_enter func178,ntmps178;go_wp2_with fail;go_end0;exact⟨rfl,H.out⟩
def DoR(w w':World)(l:LS)(m:Nat)(eds:List Ed)(e:Ending):Prop :=
 Below w.heap.size w w' /\
 (((doB l eds).2≠0/\∃u,e=.returned (.tuple #[.pointer none,.slice none 0 0,u])/\vZ w.heap.size w' u (doB l eds).1 (doB l eds).2) \/
 (doB l eds=(-9,0)/\qu eds=(-9,0)/\KK l eds/\∃lb ev ps gv,e=.returned (.tuple #[ptr lb,gv,.nilIface])/\zS w.heap.size w' lb ev ps (zE l eds) (m+eds.length) /\
  (∀r,Ki lb ev ps (.slice none 0 0) [] r->w.heap.size<=r)/\w'.ownsRow w.heap.size 3 1 gv (za l eds).length ((za l eds).map Kb)))
theorem jmW{g:Nat}{w:World}(eds:List Ed)(v:Value)(s:EdV w v eds)(hl:eds.length<=51)(p:XO eds)(b:jbu eds)(q:ErrT w)
  {c:Nat} {i:Value} {j:List Pr} {l:LS} {m:Nat} (C:zS g w c i j l m) (J:m<=5000) :
  Calls prog 133 #[ptr c,v] w fun e N=>DoR w N l m eds e:=by
 have f:=jnS (Yc (jnV _ w) eds v s hl p b q C J (jdU w w.heap.size l eds) (Z0:=fun _=>False) (fun _ h=>h));obtain⟨A,z,rfl,_⟩:=s;unfold ptr at *
 clear p b q C;go_enter func133,ntmps133;go_wp2_with fail;refine f.out.mono ?_;rintro e y ⟨d,_,⟨E,u,rfl,t⟩|⟨G,H,I,x,D,L,k,Z,rfl,n,_,o,a⟩⟩
 ·have R:Hid (DoR w y l m eds (.returned (.tuple #[.pointer none,.slice none 0 0,u]))):=⟨d,.inl ⟨E,u,rfl,t⟩⟩
  clear t d f;go_wp2_with fail;go_ret3;exact R.out
 have R:Hid (DoR w y l m eds (.returned (.tuple #[.pointer (some ⟨x,0,none⟩),k,.nilIface]))):=⟨d,.inr ⟨G,H,I,x,D,L,k,rfl,n,(fun r K=>(o r K).2),a⟩⟩
 clear n o a d f;unfold ptr;go_wp2_with fail;go_ret3;exact R.out
end
namespace Rp
attribute [local go_sem] jn9
theorem jgt:(prog.info? 23).map (fun i=>(i.zero,i.size,i.bytes))=some (some (.slice none 0 0),1,24):=by kernel_rfl
theorem XQ.below{lo:Nat}{w w':World}{b:Value}{a:List (List Int)}{e:List Value}{N:Nat}(h:XQ lo w b a e)(d:Below N w w')(c:w.heap.size<=N):XQ lo w' b a e :=
 ⟨jO h.row d c,fun i g u f j=>jO (h.each i g u f j) d c⟩
theorem XQ.box{lo:Nat}{w w':World}{d:Value}{c:List (List Int)}{k:List Value}{t:TypeId}{b:Nat}{a:Array Value}(h:XQ lo w d c k)(j:jd w b t a)(l:23≠t)(m:3≠t)(o:jI (· = b) w w'):XQ lo w' d c k :=
 ⟨jK h.row o (fun r e q=>jh h.row j l (by rw[e,q])),fun i x u f g=>jK (h.each i x u f g) o (fun r e q=>jh (h.each i x u f g) j m (by rw[e,q]))⟩
theorem XQ.snoc{lo:Nat}{w w':World}{m d u:Value}{f:List (List Int)}{l:List Value}{g:List Int}(h:XQ lo w m f l)(n:w.ownsRow lo 3 1 u g.length (g.map Kb))(k:w'.ownsRow lo 23 1 d (f.length+1) (l++[u]))(o:jI (fun r=>m.ownBlock=some r) w w'):XQ lo w' d (f++[g]) (l++[u]):=by
 refine⟨by rw[jnU];exact k,fun i x v c a => ?_⟩;rw[List.getElem?_append]at c a;rw[h.len]at a;split at c
 ·rename_i j;rw[if_pos j]at a;exact jK (h.each i x v c a) o (fun b e q=>jX h.row (h.each i x v c a) (by decide) b q e)
 rename_i j;rw[if_neg j]at a;rw[List.getElem?_singleton]at c a;split at c
 ·rename_i p;rw[if_pos p]at a;obtain rfl:=jnY c;obtain rfl:=jnY a;exact jK n o (fun b e q=>jX h.row n (by decide) b q e)
 cases c
structure jbv(lo:Nat)(w:World)(pb:Nat)(first:Int)(l:LS)(m:Nat)(gs:List (List Int)):Prop where
 is:∃lb ev ps gv us,jd w pb 83 #[ptr lb,.int .i64 first,gv]/\zS lo w lb ev ps l m/\XQ lo w gv gs us
 lo:lo<=pb
theorem jf2(a:World)(T:TypeId)(x:Value):∀(j:Nat) (u:Value),[x][j]?=some u->(a.alloc (.cells #[x] T)).cell? ((⟨a.heap.size,0,none⟩:Addr).add j)=some u:=fun j u h=>by
 have b:(⟨a.heap.size,0,none⟩:Addr).add j=⟨a.heap.size,j,none⟩:=by unfold Addr.add;split<;>simp_all
 rw[b,(jd.new a T #[x]).cell j];simpa using h
def jnx(lo:Nat)(w w':World)(pb:Nat)(first:Int)(l:LS)(m:Nat)(gs:List (List Int))(b:List Ed)(e:Ending):Prop :=
 Below lo w w'/\(((doB l b).2≠0/\e=.returned (.bool false))\/((doB l b).2=0/\e=.returned (.bool true)/\jbv lo w' pb first (zE l b) (m+b.length) (gs++[za l b])))
theorem jmJ{lo:Nat}{w:World}{n:Nat}{first:Int}{l:LS}{m:Nat}{d:List (List Int)}(H:jbv lo w n first l m d)(b:List Ed)(v:Value)(hv:EdV w v b)(R:b.length<=51/\XO b/\jbu b)(hg:ErrT w)(hm:m<=5000)(ap:d.length<=1000000):
  Calls prog 70 #[.pointer (some ⟨n,0,none⟩),v] w fun e w'=>jnx lo w w' n first l m d b e:=by
 obtain⟨i2,ag,aa,ae,af⟩:=info_parts jgt;obtain⟨lb,ev,ps,gv,us,C,CY,G⟩:=H.is;have W:=jnS (jmW b v hv R.1 R.2.1 R.2.2 hg CY hm)
 obtain⟨ga,gc,rfl,_⟩:=je G.row;obtain⟨A,ak,rfl,_⟩:=_root_.id hv;have k0:=C.cell 0
 have k2:=C.cell 2;simp only[jn0,jnZ,jnX]at k0 k2;have HC:=jnS C
 have HG:=jnS G;have ah:=H.lo
 have ai:=C.lt;clear H C CY G hv hg R;unfold ptr at *
 go_enter func70,ntmps70;go_wp2_with fail;refine W.out.mono ?_;rintro e x ⟨s,⟨Q,u,rfl,hz⟩|⟨Q,_,_,a,a8,aj,g1,rfl,C1,K1,f⟩⟩
 ·have V:Hid (Below lo w x):=s.mono (by omega);have t:(∃z,u=.iface 54 (.int .i64 z))\/∃q,u=.iface 87 (.pointer (some ⟨q,0,none⟩)):=by
   obtain⟨_,⟨rfl,_⟩|⟨_,⟨q,_,rfl,_⟩,_,_⟩⟩:=hz
   ·rw[zn _ (by omega)];exact .inl ⟨_,rfl⟩
   exact .inr ⟨q,rfl⟩
  clear hz s W;rcases t with ⟨z,rfl⟩|⟨q,rfl⟩
  all_goals
   go_wp2_with fail;go_ret;exact⟨V.out,.inl ⟨Q,rfl⟩⟩
 obtain⟨J,K,rfl,_⟩:=je f;have o:=jb HC.out s ai
 have D:=HG.out.below s (jnT _);have V:=jnS (show Below lo w x from s.mono (by omega))
 have aq:=s.size;have q2:=o.cell 2
 simp only[jn0,jnZ,jnX]at q2;have E:=jnS o
 have h:=jnS D;have Y:=jnS C1
 have I:Hid (∀r,Ki a a8 aj (.slice none 0 0) [] r->w.heap.size<=r):=K1;have Z:=jnS f
 have N:lo<=x.heap.size:=by omega
 clear s C1 K1 f W o D k0 k2;unfold ptr;go_wp2_with (at_builtin;refine ju rfl _ _ 38 rfl lo 23 i2 _ 1 24 underlying38 ag aa ae af rfl (by decide) _ _ _ rfl (h.out.row.alloc _) _ 1 1 [.slice J (za l b).length K] rfl rfl (jf2 _ _ _) (by intro u hu;simp at hu;subst hu;rfl) (by unfold maxLen;omega) (by omega) (by simp only[joe];omega) ?_);intro am P g c a7;have L:Below x.heap.size x (x.alloc (.cells #[.slice J (za l b).length K] 23)):=(jnV _ _).alloc (jnT _) _
 have y:jI (fun r=>(Value.slice ga d.length gc).ownBlock=some r) x P:=(jI.of_below (S:=fun r=>(Value.slice ga d.length gc).ownBlock=some r) L (jnT _)).grown c (fun r e=>.inl e);have G8:=h.out.snoc (jE Z.out (by omega)) g y
 have p:=E.out.only y (fun e=>jh h.out.row E.out (by decide) e);have Y8:=Y.out.only y (fun r O e=>by have:=I.out r O;have:=(HG.out.row.lt r e).2;omega)
 have B8:=V.out.trans (y.to_below N (fun r O e=>by have:=(h.out.row.lt r e).1;omega));obtain⟨j,k,rfl,_⟩:=je g;have K9:=(p.set 0 (.pointer (some ⟨a,0,none⟩))).set 2 (.slice j (d.length+1) k)
 rw[show((#[Value.pointer (some ⟨lb,0,none⟩),.int .i64 first,.slice ga d.length gc]:Array Value).setIfInBounds 0 (.pointer (some ⟨a,0,none⟩))).setIfInBounds 2 (.slice j (d.length+1) k)=#[.pointer (some ⟨a,0,none⟩),.int .i64 first,.slice j (d.length+1) k] from rfl]at K9;have U:jI (· = n) P ((P.setCell ⟨n,0,none⟩ (.pointer (some ⟨a,0,none⟩))).setCell ⟨n,2,none⟩ (.slice j (d.length+1) k)):=((jI.refl (· = n) P).cellS 0 _).cellS 2 _
 have G9:=G8.box p (by decide) (by decide) U;have i:=Y8.only U (fun r O e=>by have:=I.out r O;omega)
 have B9:=jnS (B8.trans (U.to_below (by have:=y.size;omega) (fun r O e=>by omega)));have X:=jnS (show jbv lo _ n first (zE l b) (m+b.length) (d++[za l b]) from⟨⟨a,_,_,_,_,K9,⟨i.la,i.es,i.ok,i.sz,by have:=i.lb0;omega,fun b e=>by have:=i.ev0 b e;omega,i.len,i.nx⟩,G9⟩,ah⟩)
 have c0:=p.cell 0;have c2:=p.cell 2
 have f0:=p.frozen 0;have f2:=p.frozen 2
 simp only[jn0,jnZ,jnX]at c0 c2;have hd:=congrArg Prod.snd Q
 clear g c a7 L y G8 p Y8 B8 K9 U G9 i q2 Q;go_wp2_with fail;go_ret;exact⟨B9.out,.inr ⟨hd,rfl,X.out⟩⟩
end Rp
end Go.Proofs.YtbapfpekklcicaaGreatDoor
