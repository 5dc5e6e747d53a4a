/- Texts put together:GO,GP,GZ. -/
import Derived.Test.YtbapfpekklcicaaGreatDoorBbx35
set_option linter.unusedVariables false
set_option maxRecDepth 100000
set_option maxHeartbeats 16000000
namespace Go.Proofs.YtbapfpekklcicaaGreatDoor
open Go.RowKit Go.Shelf Tryz
namespace Rp
open Bk
attribute [local go_sem] jn9
def jgY:List UInt8:=[65,58,32,49,10]
def exE:List Ed:=[⟨2,1,[]⟩]
def jeM:List It:=[⟨3,[65,58,32,49,10],[([65],[49])]⟩]
theorem Wm:jv jgY=.ok jeM:=by kernel_rfl
theorem QW:vH Dc jgY 0 jgY [] [] :=
 ⟨Hd.gen_short (by decide),⟨_,Wm⟩,by kernel_rfl,⟨rfl,fun b h=>by cases h⟩,jc2⟩
theorem jce:(jo exE).length=10:=by kernel_rfl
theorem jcg:(qu exE).2=0:=by decide
theorem jcf:Qd (jo exE)=some exE:=xE.2 ⟨by rw[jce];decide,jcg,fun a h=>by rw[List.mem_singleton.1 h];exact⟨by decide,by decide⟩,rfl⟩
theorem jeN:qq (jQ jeM) (zH ([]++[jo exE]))=some ⟨[],2⟩:=by
 have e:zH ([]++[jo exE])=[exE]:=by
  show [yS (jo exE)]=[exE]
  unfold yS;rw[jcf];rfl
 rw[e];show qq (jQ jeM) [exE]=some (⟨[],2⟩:LS)
 have h:(doB (jQ jeM) exE).2=0:=by kernel_rfl
 show(if (doB (jQ jeM) exE).2=0 then qq (zE (jQ jeM) exE) [] else none)=_;rw[if_pos h];kernel_rfl
def exT:List UInt8:=jgY.take (zd 0 jgY [])++Fr.fullR (jo exE)
theorem jdv:Fr.goodR (jo exE)=true:=Fr.batch_body jcg (by rw[jce];decide)
theorem ja5:vH Dc exT 0 jgY ([]++[jo exE]) []:=jeD QW jdv (by unfold Dc;rw[jcf];rfl)
theorem jgW:exT.length<=60000:=by
 have:=Fr.full_le jdv;have h:(jgY.take (zd 0 jgY [])).length<=5:=by rw[jn2];exact Nat.min_le_right _ _
 unfold exT;rw[jnU];omega
theorem jlt{w:World}{b:Nat}(h:jd w b 75 #[.int .i64 2,.int .i64 1,.slice none 0 0]):EdV w (.slice (some ⟨b,0,none⟩) 1 1) exE:=by
 refine⟨_,1,rfl,jnT _,fun i d a => ?_⟩
 match i with
 | 0 =>
  obtain rfl:(⟨2,1,[]⟩:Ed)=d:=jnY a;exact⟨b,0,.slice none 0 0,rfl,h.lt,(h.cell 0).trans rfl,(h.cell 1).trans rfl,(h.cell 2).trans rfl,⟨none,0,rfl,jnT _,fun i f h=>by simp at h⟩,fun n c e=>by cases e;rfl⟩
 | i+1=>simp[exE]at a
theorem jgX:VQ exE:=fun b h=>by rw[List.mem_singleton.1 h];exact⟨by decide,fun f a=>by cases a⟩
theorem je4.yes{w w':World}{t base c:List UInt8}{n:Nat}{b:List (List UInt8)}{its:List It}{k:LS}{e:Ending}(h:je4 w w' t e)(s:vH Dc t n base b c)(r:jv base=.ok its)(hl:qq (jQ its) (zH b)=some k):
  Below w.heap.size w w'/\∃v i l o,e=.returned (.tuple #[v,ptr i,.nilIface])/\yq w.heap.size w' v n base b c/\zS w.heap.size w' i l o k (base.length+xL (zH b)):=by
 obtain⟨D,h⟩:=h;refine⟨D,?_⟩;rcases h with ⟨a,m,u,d,_⟩|⟨H,j,q,p,v,x,G,i,l,o,E,g,f,rfl,A,C⟩
 ·exact(d.not s r hl).elim
 obtain⟨rfl,rfl,rfl,rfl⟩:=s.same E;rw[r]at g;injection g with y;subst y;rw[hl]at f;injection f with z;subst z;exact⟨v,i,l,o,rfl,A,C⟩
theorem jlN(w:World)(Y:Gu w):Calls prog 6 #[] w fun e w'=>e=.returned (.bool true)/\Below w.heap.size w w':=by
 have O:Hid (∀W,Below w.heap.size w W->Gu W):=fun W hW=>Y.below hW (jnT _);obtain⟨q,c⟩:∃z,w.alloc (.cells #[.int .i64 2,.int .i64 1,.slice none 0 0] 75)=z:=⟨_,rfl⟩
 have A:Below w.heap.size w q:=by rw[<- c];exact(jnV _ w).alloc (jnT _) _
 have N:jd q w.heap.size 75 #[.int .i64 2,.int .i64 1,.slice none 0 0]:=by rw[<- c];exact jd.new _ _ _
 have J:=jnS (jbt jgY (by decide) exE _ q (jlt N) (by decide) jgX (fun ed h=>by rw[List.mem_singleton.1 h];exact⟨by decide,by decide⟩) (O.out q A));have K:=jnS A
 have t:=jnS c;have eB:(⟨#[65,58,32,49,10]⟩:ByteArray)=B jgY:=rfl
 clear Y A N c;go_enter func6,ntmps6;rw[eB];go_wp2_with fail;rw[t.out];refine J.out.mono ?_;rintro e w2 ⟨Q,V⟩;have r:=jnS (K.out.trans (Q.mono K.out.size))
 have hX:e=.returned (.tuple #[.string (B exT),.nilIface]):=by
  rcases V with ⟨a,k,u,hb,_⟩|⟨n,i,D,p,G,⟨hc,_⟩|⟨_,hl,_⟩|⟨_,_,rfl⟩⟩
  ·exact(hb.not QW).elim
  ·exact absurd jcg hc
  ·exact absurd (show(jo exE).length<=50000 by rw[jce];decide) (by omega)
  obtain⟨rfl,rfl,rfl,rfl⟩:=G.same QW;rfl
 subst hX;have P:=jnS (jhY exT (by have:=jgW;omega) (by have:=Vd exT (hl (Hd.genP exT));have:=jgW;omega) (fun n i D p G=>by
  obtain⟨_,rfl,rfl,_⟩:=G.same ja5;have e:zH ([]++[jo exE])=[exE]:=by
   show [yS (jo exE)]=[exE]
   unfold yS;rw[jcf];rfl
  rw[e];decide) w2 (O.out w2 r.out))
 clear J V Q;go_wp2_with fail;refine P.out.mono ?_;rintro e I X;obtain⟨b3,v,Z,R,H,rfl,j,E⟩:=X.yes ja5 Wm jeN;obtain⟨bv,a7,us,rfl,l,m⟩:=j.is;obtain⟨ba,bc,rfl,_⟩:=je l.row;obtain⟨ea,ec,rfl,_⟩:=je m;unfold Vb ptr at *
 obtain⟨w4,f⟩:∃z,I.alloc (.cells #[.int .i64 0,.string (B jgY),.slice ba 1 bc,.slice ea 1 ec,.string (B [])] 28)=z:=⟨_,rfl⟩
 have d:Below I.heap.size I w4:=by rw[<- f];exact(jnV _ _).alloc (jnT _) _
 have L:=jnS (r.out.trans ((b3.trans (d.mono b3.size)).mono r.out.size));have b:=E.below d (jnT _)
 have o:H.length<=1000000:=by have U:=congrArg List.length E.es;rw[joi]at U;rw[U];decide
 have y:=jni Z R H _ w4 b.la.lr b.wf o;rw[b.es]at y;have g:=jnS y
 have s:=jnS b;have x:=jnS f
 clear X j l m b3 E b f d y P;unfold ptr at *
 go_wp2_with fail;rw[x.out];refine g.out.mono ?_;rintro e w5 ⟨rfl,C⟩;have B5:=jnS (L.out.trans (C.mono L.out.size))
 have NX:=jnS (jc8 Z R H _ w5 (s.out.below C (jnT _)).la.lr (by decide));clear C g;rw[show((xp (⟨[],2⟩:LS).es:Nat):Int)=0 from rfl];unfold ptr at *
 go_wp2_with fail;refine NX.out.mono ?_;rintro e w6 ⟨rfl,rfl⟩;go_wp2_with fail;go_ret;exact⟨rfl,B5.out⟩
theorem jlI(t:List UInt8)(id:Int)(w:World)(hT:Gu w):
  Calls prog 5 #[.string (B t),.int .i64 id] w fun e I=>e=.returned (.bool true)/\Below w.heap.size w I:=by
 have AL:=jnS (jlN w hT);have TB:Hid (∀W,Below w.heap.size w W->Gu W):=fun W j=>hT.below j (jnT _)
 have aX:(B t).size=t.length:=jg t;clear hT;by_cases aP:4000<t.length
 ·go_enter func5,ntmps5;go_wp2_with fail;refine AL.out.mono ?_;rintro e w1 ⟨rfl,b1⟩;go_wp2_with fail;go_ret;exact⟨rfl,b1⟩
 have q1:¬(4000:Int)<((B t).size:Int):=by omega
 go_enter func5,ntmps5;go_wp2_with fail;refine AL.out.mono ?_;rintro e w1 ⟨rfl,b1⟩;have B1:=jnS b1
 have RD:=jnS (Js t (by omega) (by have:=Vd t (hl (Hd.genP t));omega) w1 (TB.out w1 b1));clear AL b1;go_wp2_with fail;refine RD.out.mono ?_;rintro e Q hr;obtain⟨b2,h2⟩:=hr.two;have B2:=jnS (B1.out.trans (b2.mono B1.out.size))
 clear RD hr b2;rcases h2 with ⟨a,k,u,Z,rfl,hf⟩|⟨n,d,c,f,v,hS,rfl,G⟩
 ·obtain⟨q,_,rfl,_⟩:=hf;obtain⟨w3,x⟩:∃z,Q.alloc (.cells #[.int .i64 0,.string ⟨#[]⟩,.slice none 0 0,.slice none 0 0,.string ⟨#[]⟩] 28)=z:=⟨_,rfl⟩
  have C:Below Q.heap.size Q w3:=by rw[<- x];exact(jnV _ _).alloc (jnT _) _
  have RR:=jnS (ZE t (by omega) w3);have B3:=jnS (B2.out.trans (C.mono B2.out.size))
  have av:=jnS Z;have ah:=jnS x
  have eZ:Yq=.agg #[.int .i64 0,.string ⟨#[]⟩,.slice none 0 0,.slice none 0 0,.string ⟨#[]⟩]:=rfl;rw[eZ];clear Z C x;go_wp2_with fail;rw[ah.out];refine RR.out.mono ?_;rintro e J hr;obtain⟨b4,h4⟩:=jcU hr;have B4:=jnS (B3.out.trans (b4.mono B3.out.size))
  have hx:∃a' k':Nat,k'≠0/\e=.returned (.tuple #[Yq,.int .i64 a',.int .i64 k']):=by
   rcases h4 with ⟨a',k',am,rfl⟩|⟨n',aj,aC,aq,v',ak,_,_⟩
   ·exact⟨a',k',am.num.1,rfl⟩
   exact(av.out.not ak).elim
  obtain⟨a',k',hk,rfl⟩:=hx;have qm:(((k':Nat):Int) != 0)=true:=by simpa using hk
  have BE:=jnS (B4.out.alloc B4.out.size (.cells #[.int .i64 0,.string ⟨#[]⟩,.slice none 0 0,.slice none 0 0,.string ⟨#[]⟩] 25));rw[eZ];clear hr h4 b4 RR hk;go_wp2_with fail;go_ret;exact⟨rfl,BE.out⟩
 have aK:=G;obtain⟨bv,ev,us,rfl,D,O⟩:=G.is;obtain⟨R,U,rfl,_⟩:=je D.row;obtain⟨V,Y,rfl,_⟩:=je O;obtain⟨aR,hp⟩:=hS.parse;obtain⟨aI,aY,aZ⟩:=Ks hS;unfold Vb at *
 obtain⟨w3,x⟩:∃z,Q.alloc (.cells #[.int .i64 (n:Int),.string (B d),.slice R c.length U,.slice V c.length Y,.string (B f)] 28)=z:=⟨_,rfl⟩
 obtain⟨C,C3⟩:=jhs x;have B3:=jnS (B2.out.trans (C.mono B2.out.size))
 have RR:=jnS (ZE t (by omega) w3);have aL:=jnS ((jcp D).below C (jnT _))
 have ax:=jnS C3;have ah:=jnS x
 have HS:=jnS hS;have HP:=jnS hp
 have L:=jnS aI;clear aK G D O C C3 x hS hp aI;go_wp2_with fail;rw[ah.out];refine RR.out.mono ?_;rintro e J hr;obtain⟨b4,h4⟩:=jcU hr;have hx:∃N g X l,e=.returned (.tuple #[.agg #[.int .i64 (n:Int),.string (B d),.slice N c.length g,.slice X c.length l,.string (B f)],.int .i64 (-9),.int .i64 0])/\BtV J (.slice N c.length g) (zH c):=by
  rcases h4 with ⟨a',k',am,rfl⟩|⟨n',aj,aC,aq,v',ak,rfl,G⟩
  ·exact(am.not HS.out).elim
  obtain⟨rfl,rfl,rfl,rfl⟩:=HS.out.same ak;obtain⟨bv,aV,us,rfl,D,O⟩:=G.is;obtain⟨N,g,rfl,_⟩:=je D.row;obtain⟨X,l,rfl,_⟩:=je O;exact⟨_,_,_,_,rfl,jcp D⟩
 obtain⟨N,g,X,l,rfl,a7⟩:=hx;have B4:=jnS (B3.out.trans (b4.mono B3.out.size))
 have C4:=jb ax.out b4 ax.out.lt;obtain⟨r,H⟩:∃z,J.alloc (.cells #[.int .i64 (n:Int),.string (B d),.slice N c.length g,.slice X c.length l,.string (B f)] 25)=z:=⟨_,rfl⟩
 have E:Below J.heap.size J r:=by rw[<- H];exact(jnV _ _).alloc (jnT _) _
 have D5:jd r J.heap.size 25 #[.int .i64 (n:Int),.string (B d),.slice N c.length g,.slice X c.length l,.string (B f)]:=by rw[<- H];exact jd.new _ _ _
 have C5:=jb C4 E C4.lt;have K:=jnS (B4.out.trans (E.mono B4.out.size))
 have ae:=jnS ((aL.out.below b4 (jnT _)).below E (jnT _));have aN:=jnS (a7.below E (jnT _))
 have BK:Hid (∀W,Below r.heap.size r W->W.cell? ⟨Q.heap.size,0,none⟩=some (.int .i64 (n:Int))/\W.cell? ⟨Q.heap.size,1,none⟩=some (.string (B d))/\W.cell? ⟨Q.heap.size,2,none⟩=some (.slice R c.length U)/\W.cell? ⟨Q.heap.size,3,none⟩=some (.slice V c.length Y)/\W.cell? ⟨Q.heap.size,4,none⟩=some (.string (B f))):=fun W j=>by have k:=jb C5 j C5.lt;exact⟨(k.cell 0).trans rfl,(k.cell 1).trans rfl,(k.cell 2).trans rfl,(k.cell 3).trans rfl,(k.cell 4).trans rfl⟩
 have RK:Hid (∀W,Below r.heap.size r W->W.cell? ⟨J.heap.size,0,none⟩=some (.int .i64 (n:Int))/\W.cell? ⟨J.heap.size,1,none⟩=some (.string (B d))/\W.cell? ⟨J.heap.size,2,none⟩=some (.slice N c.length g)/\W.cell? ⟨J.heap.size,3,none⟩=some (.slice X c.length l)/\W.cell? ⟨J.heap.size,4,none⟩=some (.string (B f))):=fun W j=>by have k:=jb D5 j D5.lt;exact⟨(k.cell 0).trans rfl,(k.cell 1).trans rfl,(k.cell 2).trans rfl,(k.cell 3).trans rfl,(k.cell 4).trans rfl⟩
 have o:=JI c;have PB:Hid (∀W,Below r.heap.size r W->Calls prog 28 #[.agg #[.int .i64 (n:Int),.string (B d),.slice R c.length U,.slice V c.length Y,.string (B f)],.int .i64 id] W fun e I=>(∃b,e=.returned (.bool b)/\(b=true↔jdK d (zH c) id))/\Below W.heap.size W I):=fun W j=>by have h:=Gr (n:Int) d (zH c) R U V c.length Y (B f) id W (by omega) (by omega) (by rw[o];exact ae.out.below j (jnT _)) L.out (TB.out W (K.out.trans (j.mono K.out.size))).tabs.err;rw[o]at h;exact h
 have QB:Hid (∀W,Below r.heap.size r W->Calls prog 29 #[.agg #[.int .i64 (n:Int),.string (B d),.slice N c.length g,.slice X c.length l,.string (B f)],.int .i64 id] W fun e I=>(∃b,e=.returned (.bool b)/\(b=true↔jdK d (zH c) id))/\Below W.heap.size W I):=fun W j=>by have h:=jbM (n:Int) d (zH c) N g X c.length l (B f) id W (by omega) (by omega) (by rw[o];exact aN.out.below j (jnT _)) L.out;rw[o]at h;exact h
 have BH:Hid (∀W,Below r.heap.size r W->Calls prog 21 #[.agg #[.int .i64 (n:Int),.string (B d),.slice R c.length U,.slice V c.length Y,.string (B f)],.int .i64 0] W fun e I=>∃p u,e=.returned (.tuple #[p,u])/\Kj W I d ((zH c).take 0) p u):=fun W j=>by have h:=JH (n:Int) d (zH c) R U V c.length Y (B f) 0 (jn3 _) W (by omega) (by omega) (by rw[o];exact ae.out.below j (jnT _)) L.out (TB.out W (K.out.trans (j.mono K.out.size))).tabs.err;rw[o]at h;exact h
 have OB:Hid (∀W,Below r.heap.size r W->Calls prog 9 #[.agg #[.int .i64 (n:Int),.string (B d),.slice R c.length U,.slice V c.length Y,.string (B f)]] W fun e I=>∃p u,e=.returned (.tuple #[p,u])/\Kj W I d (zH c) p u):=fun W j=>by have h:=jc4 (n:Int) d (zH c) R U V c.length Y (B f) W (by omega) (by omega) (by rw[o];exact ae.out.below j (jnT _)) L.out (TB.out W (K.out.trans (j.mono K.out.size))).tabs.err;rw[o]at h;exact h
 obtain⟨k0,k1,k2,k3,k4⟩:=BK.out r (jnV _ _);have aM:=jnS H
 rw[<- H]at k0 k1 k2 k3 k4;clear hr h4 b4 RR C4 E D5 C5 H a7;go_wp2_with fail;rw[aM.out];refine(PB.out r (jnV _ _)).mono ?_;rintro e w6 ⟨⟨ob,rfl,aF⟩,b6⟩;have B6:=jnS b6
 have af:=jnS aF;obtain⟨r0,r1,r2,r3,r4⟩:=RK.out w6 b6;clear PB aF b6 k0 k1 k2 k3 k4;go_wp2_with fail;refine(QB.out w6 B6.out).mono ?_;rintro e w7 ⟨⟨qb,rfl,aH⟩,b7⟩;have B7:=jnS (B6.out.trans (b7.mono B6.out.size))
 have aQ:qb=ob:=by have h:=af.out;rw[<- aH]at h;cases qb<;>cases ob<;>simp_all
 subst aQ;clear QB aH b7 r0 r1 r2 r3 r4;obtain⟨k0,k1,k2,k3,k4⟩:=BK.out w7 B7.out;cases hq:qb with
 | false =>
  rw[hq]at *
  clear BH OB;go_wp2_with fail;go_ret;exact⟨rfl,K.out.trans (B7.out.mono K.out.size)⟩
 | true =>
 obtain⟨A,k,ap,aG,h1,h2,ht⟩:=af.out.1 hq;have hi:A=aR:=by rw[HP.out]at ap;cases ap;rfl
 subst hi;have ag:=jnS aG
 have HT:=jnS ht;have au:Hid (1<=id/\id<(jQ A).next):=⟨h1,h2⟩
 rw[hq]at *
 clear af hq ap aG ht h1 h2;go_wp2_with fail;refine(BH.out w7 B7.out).mono ?_;rintro e w8 ⟨p,u,rfl,s⟩;have b8:=s.1
 rcases s.2 with ⟨a,m,h,_⟩|⟨y,i,h,hR,_⟩|⟨y,P,aS,aO,aT,h,a8,rfl,rfl,aE⟩
 ·rw[HP.out]at h;cases h
 ·have:=hR.lt;simp at this
 rw[HP.out]at h;cases h;have hk:P=jQ A:=by have h:some (jQ A)=some P:=a8;exact(jnY h).symm
 subst hk;have B8:=jnS (B7.out.trans (b8.mono B7.out.size))
 have aw:=jnS aE;clear BH s b8 aE a8 k0 k1 k2 k3 k4;obtain⟨k0,k1,k2,k3,k4⟩:=BK.out w8 B8.out;unfold ptr at *
 go_wp2_with fail;refine(OB.out w8 B8.out).mono ?_;rintro e w9 ⟨p,u,rfl,s⟩;have b9:=s.1
 rcases s.2 with ⟨a,m,h,_⟩|⟨y,i,h,hR,_⟩|⟨y,P,lb,ev,ps,h,aa,rfl,rfl,hC⟩
 ·rw[HP.out]at h;cases h
 ·rw[HP.out]at h;cases h;exact(hR.not ag.out).elim
 rw[HP.out]at h;cases h;have hk:P=k:=by have h:=ag.out.symm.trans aa;exact(jnY h).symm
 subst hk;have B9:=jnS (B8.out.trans (b9.mono B8.out.size))
 have C0:=aw.out.below b9 (jnT _);obtain⟨p0,p1,e0,e1,aD⟩:=jjI HP.out ag.out au.out.1 au.out.2 HT.out C0.es hC.es C0.ok hC.ok;have aW:xL ((zH c).take 0)=0:=rfl
 have R0:=jfQ aS aO aT _ id w9 C0.la.lr (by have:=C0.plen;omega);have R1:Hid (∀W,Below w9.heap.size w9 W->Calls prog 30 #[.pointer (some ⟨lb,0,none⟩),.int .i64 id] W fun e I=>e=.returned (.tuple #[.string (B p0.1.1.raw),.bool true])/\Below W.heap.size W I):=fun W j=>by have h:=jfQ lb ev ps _ id W (hC.la.lr.below j (jnT _)) (by have:=hC.plen;omega);rw[e1]at h;rw[aD];exact h
 rw[e0]at R0;have ay:=jnS R0
 clear OB s b9 hC aa C0 e0 e1 aD R0 aw k0 k1 k2 k3 k4;unfold ptr at *
 go_wp2_with fail;refine ay.out.mono ?_;rintro e aU ⟨rfl,ai⟩;have ar:=jnS (B9.out.trans (ai.mono B9.out.size))
 have aA:=jnS (R1.out aU ai);clear ai R1 ay;go_wp2_with fail;refine aA.out.mono ?_;rintro e be ⟨rfl,aB⟩;have aJ:=jnS (ar.out.trans (aB.mono ar.out.size))
 clear aB aA;go_wp2_with fail;go_ret;exact⟨rfl,K.out.trans (aJ.out.mono K.out.size)⟩
theorem baseCall(s:ByteArray)(id:Int)(W:World)(_:s.size<=maxLen)(_:(Lit.int .i64 id).wf=true)(a:Gu W):
  Calls prog 5 #[.string s,.int .i64 id] W fun e b=>e=.returned (.bool true)/\Below W.heap.size W b:=by
 have h:=jlI s.data.toList id W a;rw[je8]at h;exact h
end Rp
end Go.Proofs.YtbapfpekklcicaaGreatDoor
