/- Texts put together:SJ,GQ,GY,GR,EX. -/
import Derived.Test.YtbapfpekklcicaaGreatDoorBbx34
set_option linter.unusedVariables false
set_option maxRecDepth 100000
set_option maxHeartbeats 16000000
namespace Go.Proofs.YtbapfpekklcicaaGreatDoor
open Go.RowKit Go.Shelf Tryz
namespace Bk
attribute [local go_sem] jn9
theorem Qx{d:Func}{p u v:Tmp}{e:TypeId}(h:d.results=#[.cell p e,.tmp u,.tmp v])(tmps:Array Value)(P:Program)(w:World):
  (results d tmps).run P w=((asAddr (tmps.getD p undef)).run P w).andThen fun a b=>((loadVar e a).run P b).andThen fun x c=>.ok (.tuple #[x,tmps.getD u undef,tmps.getD v undef]) c:=by
 simp only[results,h];simp[Sem.run_bind,Result.andThen]
theorem Vs{c:Func}{p u v:Tmp}(h:c.results=#[.cell p 25,.tmp u,.tmp v])(tmps:Array Value)(w:World)(b:Nat)(a:Array Value)(e:tmps.getD p undef=.pointer (some ⟨b,0,none⟩))
  (d:jd w b 25 a) (f:a.size=5):(results c tmps).run prog w=.ok (.tuple #[.agg a,tmps.getD u undef,tmps.getD v undef]) w:=by
 have L:=run_loadVar_row (P:=prog) w b 25 25 a (0,0) _ d underlying25 rfl (by rw[f];kernel_rfl);rw[Qx h,e];show((loadVar _ _).run _ _).andThen _=_
 rw[L];rfl
def jnE(w w':World)(t:List UInt8)(e:Ending):Prop:=Below w.heap.size w w' /\
  ((∃a k:Nat,jv (vi (t.drop (hl (Hd.genP t))))=.error (a,k)/\e=.returned (.tuple #[Yq,.int .i64 a,.int .i64 k])) \/
   (∃its bds r,jv (vi (t.drop (hl (Hd.genP t))))=.ok its/\je5 Dc (t.drop (hl (Hd.genP t)+(vi (t.drop (hl (Hd.genP t)))).length)) bds r/\jjR Dc r/\e=.returned (.tuple #[Yq,.int .i64 (bds.length:Nat),.int .i64 10])) \/
   (∃base bds tail v,vH Dc t (Hd.genP t) base bds tail/\e=.returned (.tuple #[v,.int .i64 (-9),.int .i64 0])/\yq w.heap.size w' v (Hd.genP t) base bds tail))
def jm5(w:World)(v:Value)(xs:List Ln):Prop :=
 ∃A cap,v=.slice A xs.length cap/\xs.length<=cap/\∀(i:Nat) (x:Ln),xs[i]?=some x->∃b off,A=some ⟨b,off,none⟩/\b<w.heap.size/\w.cell? ⟨b,off+i*4+1,none⟩=some (.int .i64 (x.at_:Nat))/\w.cell? ⟨b,off+i*4+1+1,none⟩=some (.string (B x.text))
theorem jm5.below{w w':World}{v:Value}{xs:List Ln}{n:Nat}(h:jm5 w v xs)(f:Below n w w')(q:w.heap.size<=n):jm5 w' v xs:=by
 obtain⟨A,e,r,g,m⟩:=h;refine⟨A,e,r,g,fun i x o => ?_⟩;obtain⟨b,c,l,d,j,k⟩:=m i x o;have a:=jod d q
 exact⟨b,c,l,jod d f.size,(f.cell (p:=⟨b,c+i*4+1,none⟩) a).trans j,(f.cell (p:=⟨b,c+i*4+1+1,none⟩) a).trans k⟩
theorem jiz {w : World} {base : Nat} {v : Value} {xs : List Ln} (h : w.ownsRow base 126 4 v xs.length (cellsOf xs)) : jm5 w v xs := by
  rcases joQ h with ⟨e, hn⟩ | ⟨g, cap, e⟩
  . have : xs = [] := List.length_eq_zero_iff.1 hn
    rw [e, this]
    exact ⟨none, 0, rfl, jnT _, fun i it hi => by simp at hi⟩
  refine ⟨some ⟨g, 0, none⟩, cap, e, (by rcases h.2 with ⟨q, _⟩ | ⟨g', cap', cur, q, _, _, q2, _⟩; · rw [e] at q; cases q
                                         rw [e] at q; cases q; exact q2), fun i x hi => ?_⟩
  have hlt : i < xs.length := by
    rcases joo i xs.length with q | q
    . exact q
    rw [jon q] at hi; cases hi
  rw [e] at h
  have hx : xs = xs.take i ++ x :: xs.drop (i + 1) := by
    have e := jou hlt
    rw [jnW hlt] at hi
    rw [jnY hi] at e
    rw [<- e, joj]
  have hti : (xs.take i).length = i := by rw [jn2]; omega
  have c1 : (cellsOf xs)[i * 4 + 1]? = some (.int .i64 (x.at_ : Nat)) := by
    have := vx (xs.take i) x (xs.drop (i + 1)) 1 (by decide)
    rw [hti, <- hx] at this
    exact this
  have c2 : (cellsOf xs)[i * 4 + 2]? = some (.string ⟨x.text.toArray⟩) := by
    have := vx (xs.take i) x (xs.drop (i + 1)) 2 (by decide)
    rw [hti, <- hx] at this
    exact this
  refine ⟨g, 0, rfl, (joV h g rfl).2, ?_, ?_⟩
  . rw [jov, job h (i * 4 + 1) (by omega)]; exact c1
  rw [jov, job h (i * 4 + 1 + 1) (by omega)]; exact c2
theorem jaL:∀a:List Ln,(∀x∈a,1<=x.bytes.length)->a.length<=(a.flatMap Ln.bytes).length
 | [],_=>jnT _
 | x::r,h=>by
  have c:=h x (jn5 ..);have d:=jaL r fun y b=>h y (jn4 _ b)
  rw[joc,jnU,jn1];omega
theorem jlH(b:List UInt8):b.length<=(Fr.fullR b).length:=by rw[Xp];simp only[jnU,jn1];omega
theorem jeU(x:Ln)(r:List Ln)(n:Nat):vV (x::r) n=if Vc x.text=true then x.at_ else vV r n:=by unfold vV;rw[jqh];cases h:Vc x.text<;>simp
theorem jjy{t:List UInt8}{xs:List Ln}(hx:jf t=xs)(k:Nat):vV (xs.drop k) t.length<=t.length:=by
 unfold vV;cases h:(xs.drop k).find? (fun x=>Vc x.text) with
 | none=>exact jnT _
 | some x =>
 obtain⟨_,c,a,f,_⟩:=List.find?_eq_some_iff_append.1 h;have b:jf t=(xs.take k++c)++x::a:=by rw[hx,jn8,<- f,joj]
 obtain⟨_,e⟩:=qR t _ x a b;have d:=jJ t
 rw[b,jow]at d;show x.at_<=t.length
 rw[e,<- d,jnU];omega
theorem jdB{w a:World}(b:Below w.heap.size w a)(c:jd a w.heap.size 25 #[.int .i64 0,.string ⟨#[]⟩,.slice none 0 0,.slice none 0 0,.string ⟨#[]⟩]):
  Below w.heap.size w ((((((a.setCell ⟨w.heap.size,0,none⟩ (.int .i64 0)).setCell ⟨w.heap.size,1,none⟩ (.string ⟨#[]⟩)).setCell ⟨w.heap.size,2,none⟩ (.slice none 0 0)).setCell ⟨w.heap.size,3,none⟩ (.slice none 0 0)).setCell ⟨w.heap.size,4,none⟩ (.string ⟨#[]⟩))).drew /\
  jd ((((((a.setCell ⟨w.heap.size,0,none⟩ (.int .i64 0)).setCell ⟨w.heap.size,1,none⟩ (.string ⟨#[]⟩)).setCell ⟨w.heap.size,2,none⟩ (.slice none 0 0)).setCell ⟨w.heap.size,3,none⟩ (.slice none 0 0)).setCell ⟨w.heap.size,4,none⟩ (.string ⟨#[]⟩))).drew w.heap.size 25 #[.int .i64 0,.string ⟨#[]⟩,.slice none 0 0,.slice none 0 0,.string ⟨#[]⟩]:=by
 obtain⟨d,f⟩:=jhO c (.int .i64 0) (.string ⟨#[]⟩) (.slice none 0 0) (.slice none 0 0) (.string ⟨#[]⟩);exact⟨(b.trans (f.to_below b.size (fun r g e=>by omega))).drew,d.drew⟩
theorem ZE(t:List UInt8)(ht:t.length<=6000)(w:World):
  Calls prog 27 #[.string (B t)] w fun e w'=>jnE w w' t e:=by
 obtain⟨i1,hi,cZ,d8,cU⟩:=info_parts jaU;obtain⟨i2,cT,cJ,cL,cM⟩:=info_parts jgu;have cX:(B t).size=t.length:=jg t
 have G:=Hd.genP_is t;have hn:=Hd.gen_lt G
 have dB:=jiR G;generalize N:Hd.genP t=n at *
 obtain⟨w0,ak⟩:∃z,w.alloc (.cells #[.int .i64 0,.string ⟨#[]⟩,.slice none 0 0,.slice none 0 0,.string ⟨#[]⟩] 25)=z:=⟨_,rfl⟩
 have bV:Below w.heap.size w w0:=by rw[<- ak];exact(jnV _ w).alloc (jnT _) _
 have hz:w0.heap.size=w.heap.size+1:=by rw[<- ak];simp
 have C0:jd w0 w.heap.size 25 #[.int .i64 0,.string ⟨#[]⟩,.slice none 0 0,.slice none 0 0,.string ⟨#[]⟩]:=by rw[<- ak];exact jd.new _ _ _
 have TK:=jnS (Hd.reftake_any (B t) (by rw[jg];omega) n (by rw[jj];exact G) w0);rw[jj,jgx]at TK;have bi:=jnS bV
 have bu:=jnS C0;have cz:=jnS ak
 have q1:¬(120000:Int)<((B t).size:Int):=by omega
 have bZ:(t.drop (hl n)).length<=6000:=by rw[jn6];omega
 have aU:(t.drop (hl n)).length+hl n=t.length:=by rw[jn6];omega
 have HZ:=jnS hz;have bU:∃I,jf (t.drop (hl n))=I:=⟨_,rfl⟩
 obtain⟨I,H⟩:=bU;have bA:=jnS (fun k=>jjy H k)
 have aG:(vi (t.drop (hl n))).length=vV I (t.drop (hl n)).length:=by rw[Qi,H]
 have aN:Hid ((B (t.drop (hl n))).extract 0 (vV I (t.drop (hl n)).length)=B (vi (t.drop (hl n)))):=by show _=_;rw[Fr.ext_take];unfold vi;rw[H]
 have aI:∀x∈I,1<=x.bytes.length:=by rw[<- H];exact xl _ 0 0 _ (jnT _)
 have L:(I.flatMap Ln.bytes)=t.drop (hl n):=by rw[<- H];exact jJ _
 have aH:=jaL I aI;rw[L]at aH;have HJ:=jnS L
 have av:=jnS aG;have bC:=jnS G
 generalize l:vi (t.drop (hl n))=d at *
 have cP:∃g,t.drop (hl n)=g:=⟨_,rfl⟩
 obtain⟨g,aX⟩:=cP;rw[aX]at TK bA av aN HJ bZ aU aH H;have cC:=jnS H
 have cV:(B g).size=g.length:=jg g;clear aI L aG G C0 ak hz bV H;go_enter func27,ntmps27;go_wp2_with fail;rw[cz.out];refine TK.out.mono ?_;rintro e w1 ⟨rfl,b1⟩;have bj:=jnS (bi.out.trans (b1.mono bi.out.size))
 have dG:=b1.size;have bw:=jnS (jb bu.out b1 bu.out.lt)
 have SP:=jnS (yr (B g) (by rw[jg];omega) w1);rw[jj,cC.out]at SP;clear TK b1;go_wp2_with fail;refine SP.out.mono ?_;rintro e wS ⟨lv,rfl,aV,bS⟩;have cD:=jnS (jiz aV)
 obtain⟨la,lc,rfl,_⟩:=je aV;have bo:=jnS (bj.out.trans (bS.mono bj.out.size))
 have dJ:=bS.size;have bB:=jnS (jb bw.out bS bw.out.lt)
 clear SP aV bS;go_wp2_with fail;go_loopw [8,9] (fun cv iv wr=>∃k:Nat,k<=I.length/\iv=.int .i64 ((k:Int)-1)/\cv=.int .i64 (vV (I.drop k) g.length:Nat)/\Below wS.heap.size wS wr) (fun _ iv _=>(intOf iv+1).toNat)
 case atStart=>exact⟨I.length,jnT _,by go_num,by rw[jpc];unfold vV;rw[List.find?_nil,<- cV],jnV _ _⟩
 case round =>
 obtain⟨k,hk,rfl,rfl,Z⟩:=hrel;rcases jpK k with rfl|dD;rotate_left
 ·obtain⟨j,rfl⟩:∃j,k=j+1:=⟨k-1,by omega⟩
  obtain⟨x,hx⟩:∃x,I[j]?=some x:=⟨_,jnW (by omega)⟩
  have bY:I.drop j=x::I.drop (j+1):=by have e:=jou (show j<I.length by omega);rw[jnW (by omega)]at hx;rw[jnY hx]at e;exact e
  have CC:=jnS (jeU x (I.drop (j+1)) g.length);rw[<- bY]at CC;obtain⟨A,dw,e,_,hc⟩:=cD.out.below Z (jnT _);cases e;obtain⟨b,dl,rfl,cS,c1,c2⟩:=hc j x hx;have dM:x.text.length<=6000:=by
   have h1:x.bytes.length<=(I.flatMap Ln.bytes).length:=by obtain⟨p1,p2,e⟩:=jpY (jn7 hx);rw[e,jow,joc,jnU,jnU];omega
   have h2:=congrArg List.length HJ.out;have h3:x.text.length<=x.bytes.length:=by unfold Ln.bytes;simp
   omega
  have BG:=jnS (Fr.refBegins_any (B x.text) (by rw[jg];omega) wr);rw[jj,show(Fr.signB x.text&&decide (jm x.text=5))=Vc x.text from rfl]at BG;have ij:(((j+1:Nat):Int)-1)=(j:Int):=by omega
  have ci:=Z.size;clear hc hx bY;rw[ij];cases bX:Vc x.text with
  | true =>
   rw[bX]at BG CC;rw[if_pos rfl]at CC;go_wp2_with fail;refine BG.out.mono ?_;rintro e wb ⟨rfl,b2⟩;have dv:=(b2.cell (p:=⟨b,dl+j*4+1,none⟩) cS).trans c1
   have V:=jnS (Z.trans (b2.mono ci));clear BG b2 c1 c2;go_wp2_with fail;go_roundw
   case rel=>exact⟨j,by omega,by go_num,by rw[CC.out],V.out⟩
   case measure=>simp[intOf]
  | false =>
  rw[bX]at BG CC;rw[if_neg (by decide)]at CC;go_wp2_with fail;refine BG.out.mono ?_;rintro e wb ⟨rfl,b2⟩;have V:=jnS (Z.trans (b2.mono ci))
  clear BG b2 c1 c2;go_wp2_with fail;go_roundw
  case rel=>exact⟨j,by omega,by go_num,by rw[CC.out],V.out⟩
  case measure=>simp[intOf]
 obtain⟨y,cY⟩:∃z,z=wr:=⟨_,rfl⟩
 subst cY;rw[jpe,<- av.out];have hcut:((d.length:Nat):Int)<=((B g).size:Int):=by have h1:=bA.out 0;rw[jpe,<- av.out]at h1;omega
 rw[<- av.out]at aN;have V:=jnS (bo.out.trans (Z.mono bo.out.size))
 have cW:=Z.size;obtain⟨P,aE⟩:∃z,y.alloc (.cells #[.int .i64 (n:Int),.string (B d),.slice none 0 0,.slice none 0 0,.string ⟨#[]⟩] 25)=z:=⟨_,rfl⟩
 have aS:Below y.heap.size y P:=by rw[<- aE];exact(jnV _ _).alloc (jnT _) _
 have C3:jd P y.heap.size 25 #[.int .i64 (n:Int),.string (B d),.slice none 0 0,.slice none 0 0,.string ⟨#[]⟩]:=by rw[<- aE];exact jd.new _ _ _
 have aw:=jnS (jb bB.out (Z.trans (aS.mono cW)) bB.out.lt);have au:=jnS (V.out.trans (aS.mono V.out.size))
 have PA:=jnS (Vx (B d) (by rw[jg];omega) P);rw[jj]at PA;have bz:=jnS C3
 have cA:=jnS aE;have dt:w.heap.size+1<=y.heap.size:=by have:=HZ.out;omega
 clear aS C3 aE Z;go_wp2_with fail;rw[aN.out];rw[cA.out];refine PA.out.mono ?_;rintro e w4 aD;cases hp:jv d with
 | error an =>
  obtain⟨a,k⟩:=an;obtain⟨b4,rfl⟩:=YE aD hp;have hk:=ZI hp
  have q2:((k:Int) != 0)=true:=by simp;omega
  have bm:=jnS (au.out.trans (b4.mono au.out.size));have o:=jnS (jb aw.out b4 aw.out.lt)
  obtain⟨aJ,aj⟩:=jhO o.out (.int .i64 0) (.string ⟨#[]⟩) (.slice none 0 0) (.slice none 0 0) (.string ⟨#[]⟩);have cr:=jnS (bm.out.trans (aj.to_below bm.out.size (fun r hr e=>by omega)))
  have bF:=jnS aJ;have c0:=o.out.cell 0
  have c1:=o.out.cell 1;have c2:=o.out.cell 2
  have c3:=o.out.cell 3;have c4:=o.out.cell 4
  have f0:=o.out.frozen 0;have f1:=o.out.frozen 1
  have f2:=o.out.frozen 2;have f3:=o.out.frozen 3
  have f4:=o.out.frozen 4;simp only[jn0,jnZ,jnX]at c0 c1 c2 c3 c4;have HP:=jnS hp
  clear aD b4 aJ aj PA hp hk;go_wp2_with fail;refine bodyPost_ret (Vs rfl _ _ w.heap.size _ rfl bF.out rfl) rfl ?_;exact⟨cr.out,.inl ⟨a,k,by rw[N,l];exact HP.out,rfl⟩⟩
 | ok be =>
 obtain⟨b4,u,rfl,_⟩:=jau aD hp;have cR:=au.out.trans (b4.mono au.out.size)
 have cN:=jb aw.out b4 aw.out.lt;have cO:=jb bz.out b4 bz.out.lt
 have HP:=jnS hp;clear aD PA b4 hp;go_wp2_with fail;go_loopw [14] (fun pv wr=>∃(c:List (List UInt8)) (r:List UInt8) (bv ev:Value) (us:List Value),pv=.int .i64 (zd n d c:Nat)/\je5 Dc (t.drop (hl n+d.length)) c r/\jd wr y.heap.size 25 #[.int .i64 (n:Int),.string (B d),bv,ev,.string ⟨#[]⟩]/\XR w.heap.size wr bv c us/\wr.ownsRow w.heap.size 3 1 ev c.length ((qi (hl n+d.length) c).map jjl)/\jd wr w.heap.size 25 #[.int .i64 0,.string ⟨#[]⟩,.slice none 0 0,.slice none 0 0,.string ⟨#[]⟩]/\Below w.heap.size w wr) (fun pv _=>t.length+1-(intOf pv).toNat)
 case atStart=>exact⟨[],_,_,_,[],by unfold zd;go_num,⟨rfl,fun b h=>by cases h⟩,cO,XR.nil _ _,⟨rfl,.inl ⟨rfl,rfl⟩⟩,cN,cR⟩
 case round =>
 obtain⟨c,r,bv,ev,us,rfl,hR,hK,aB,aC,hC,Z⟩:=hrel;obtain⟨ba,bc,rfl,_⟩:=je aB.row;obtain⟨ea,ec,rfl,_⟩:=je aC;have aY:=jaY hR
 rw[jn6]at aY;have dr:=XH c
 have aT:zd n d c=hl n+d.length+(c.flatMap Fr.fullR).length:=rfl;have dp:zd n d c<=t.length:=by omega
 have ai:t.drop (zd n d c)=r:=by rw[aT,Qc,hR.eq,jph]
 have EX:Hid ((B t).extract (zd n d c) t.length=B r):=by show _=_;rw[<- cX,Fr.ext_drop,ai]
 have dF:r.length<=6000:=by omega
 have aZ:r.length<=700000:=by omega
 have cm:yq w.heap.size wr (Vb n d (.slice ba c.length bc) (.slice ea c.length ec) []) n d c []:=⟨_,_,us,rfl,aB,aC⟩
 have k0:=hK.cell 0;have k1:=hK.cell 1
 have k2:=hK.cell 2;have k3:=hK.cell 3
 have k4:=hK.cell 4;simp only[jn0,jnZ,jnX]at k0 k1 k2 k3 k4;have HR:=jnS hR
 have HK:=jnS hK;have ct:=jnS aB
 have cu:=jnS aC;have HC:=jnS hC
 have HB:=jnS Z;have bI:=jnS aT
 have bG:=jnS aY;clear hR aB aC hC Z aY ai aT cm;generalize cQ:zd n d c=W at *
 have FR:=jnS (Fr.refRead_any r aZ wr);clear k0 k1 k2 k3 k4 hK;go_wp2_with fail;rw[EX.out];refine FR.out.mono ?_;rintro e w6 ⟨kk,K,mm,aW,rfl,rfl⟩;have C:=HB
 have K6:=HK.out;have C6:=HC.out
 have T6:=ct.out;have E6:=cu.out
 clear FR;unfold Fr.readV;rcases aW with ⟨O,rfl,rfl⟩|⟨ce,rfl,rfl,rfl⟩|⟨c8,cd,rfl,rfl,rfl⟩
 ·
  have dA:=Fr.good_iff.1 O.1;have DE:=jnS (ZF K (by obtain⟨_,m,e⟩:=O;have h1:=jlH K;have h2:=congrArg List.length e;rw[jnU]at h2;omega) w6)
  have dy:(Fr.fullR K).length<=r.length:=by obtain⟨_,m,e⟩:=O;rw[e,jnU];omega
  go_wp2_with fail;refine DE.out.mono ?_;rintro e w7 ⟨b7,h7⟩;have a7:=jnS (C.out.trans (b7.mono C.out.size))
  have v:=jb K6 b7 K6.lt;have f:=jb C6 b7 C6.lt
  have T7:=T6.below b7;have E7:=jO E6 b7 (jnT _)
  clear DE K6 C6 T6 E6;rcases h7 with ⟨hd,rfl⟩|⟨aA,u7,bL,hd,rfl,hO⟩
  ·have FB:Hid (jjR Dc r):=.inr ⟨K,O,by unfold Dc;rw[hd];rfl⟩;clear O hd T7 E7 b7;have a8:=f.cell 0
   have aa:=f.cell 1;have ae:=f.cell 2
   have af:=f.cell 3;have ag:=f.cell 4
   have bM:=f.frozen 0;have bN:=f.frozen 1
   have bO:=f.frozen 2;have bP:=f.frozen 3
   have bQ:=f.frozen 4;have am:=v.cell 2
   simp only[jn0,jnZ,jnX]at a8 aa ae af ag am;have CR:=jnS (jdB a7.out f)
   clear v f;go_wp2_with fail;go_region
   all_goals go_wp2_with fail
   all_goals
    refine bodyPost_ret (Vs rfl _ _ w.heap.size _ rfl CR.out.2 rfl) rfl ?_;exact⟨CR.out.1,.inr (.inl ⟨be,c,r,by rw[N,l];exact HP.out,by rw[N,l];exact HR.out,FB.out,rfl⟩)⟩
  have bT:yn w.heap.size w7 u7 (yS K) bL:=by
   have:yS K=aA:=by unfold yS;rw[hd];rfl
   rw[this];exact⟨jE hO.row C.out.size,hO.len,fun i ed fv h1 h2=>jE (hO.each i ed fv h1 h2) C.out.size⟩
  have bR:Dc K=true:=by unfold Dc;rw[hd];rfl
  obtain⟨ua,uc,rfl,_⟩:=je hO.row;have RS:=jnS (HR.out.snoc O bR)
  have ES:Hid ((qi (hl n+d.length) (c++[K])).map jjl=(qi (hl n+d.length) c).map jjl++[Value.int .i64 ((W:Int)+((Fr.fullR K).length:Int))]):=by show _=_;rw[vT,joB,<- bI.out];simp[jjl]
  have cB:Hid (zd n d (c++[K])=W+(Fr.fullR K).length):=by show _=_;rw[<- cQ];unfold zd;rw[jow,jnU,joc,jqs,jok];omega
  have dE:=jdn K;have HO:=jnS bT
  have J:=jnS T7;have aM:=jnS E7
  have aR:=jnS v;have aL:=jnS f
  have N1:∀(P:World) (T:TypeId) (x:Value),Hid (∀(j:Nat) (u:Value),[x][j]?=some u->(P.alloc (.cells #[x] T)).cell? ((⟨P.heap.size,0,none⟩:Addr).add j)=some u):=fun P T x j u h=>by
   have ea:(⟨P.heap.size,0,none⟩:Addr).add j=⟨P.heap.size,j,none⟩:=by unfold Addr.add;split<;>simp_all
   rw[ea,(jd.new P T #[x]).cell j];simpa using h
  have cE:∀(P:World) (b:Nat) (T:TypeId) (x:Value),P.heap.size=b->Hid (∀(j:Nat) (u:Value),[x][j]?=some u->(P.alloc (.cells #[x] T)).cell? ((⟨b,0,none⟩:Addr).add j)=some u):=fun P b T x Z j u h=>by rw[<- Z];exact(N1 P T x).out j u h
  have k2:=v.cell 2;have f2:=v.frozen 2
  simp only[jn0,jnZ,jnX]at k2;have c7:w.heap.size<=w7.heap.size:=a7.out.size
  have dC:y.heap.size<w7.heap.size:=v.lt;have dq:c.length+(Fr.fullR K).length<=t.length:=by have:=bG.out;omega
  clear O hd hO bT bR T7 E7 v f b7;generalize hm:(Fr.fullR K).length=m at *
  have dL:IntKind.i64.wrap ((W:Int)+(m:Int))=(W:Int)+(m:Int):=jos _ (by have:=bG.out;have:=bI.out;omega);go_wp2_with (at_builtin;refine ju rfl _ _ 22 rfl w.heap.size 55 i2 _ 1 24 underlying22 cT cJ cL cM rfl (by decide) _ _ _ rfl (J.out.row.alloc _) _ 1 1 [.slice ua aA.length uc] rfl rfl (N1 _ _ _).out (by intro u hu;simp at hu;subst hu;rfl) (by unfold maxLen;omega) (by omega) (by simp only[joe];omega) ?_);intro du W8 ar ah cH;have bW:Below w7.heap.size w7 (w7.alloc (.cells #[.slice ua aA.length uc] 55)):=(jnV _ _).alloc (jnT _) _
  have o8:jI (fun r=>(Value.slice ba c.length bc).ownBlock=some r) w7 W8:=(jI.of_below (S:=fun r=>(Value.slice ba c.length bc).ownBlock=some r) bW (jnT _)).grown ah (fun r e=>.inl e);have T8:=J.out.snoc HO.out ar o8
  have E8:=jK aM.out o8 (fun b e q=>jX J.out.row aM.out (by decide) b q e);have K8:=aR.out.only o8 (fun e=>jh J.out.row aR.out (by decide) e)
  have C8:=aL.out.only o8 (fun e=>jh J.out.row aL.out (by decide) e);have B8:=a7.out.trans (o8.to_below c7 (fun r hr e=>by have:=(J.out.row.lt r e).1;omega))
  have dH:=o8.size;obtain⟨D,E,rfl,_⟩:=je ar;have K9:=K8.set 2 (.slice D (c.length+1) E)
  rw[show(#[Value.int .i64 (n:Int),.string (B d),.slice ba c.length bc,.slice ea c.length ec,.string ⟨#[]⟩]:Array Value).setIfInBounds 2 (.slice D (c.length+1) E)=#[.int .i64 (n:Int),.string (B d),.slice D (c.length+1) E,.slice ea c.length ec,.string ⟨#[]⟩] from rfl]at K9;have o9:jI (· = y.heap.size) W8 (W8.setCell ⟨y.heap.size,2,none⟩ (.slice D (c.length+1) E)):=(jI.refl (· = y.heap.size) W8).cellS 2 _
  have T9:=T8.box K8 (by decide) (by decide) (by decide) o9;have E9:=jK E8 o9 (fun b e q=>jh E8 K8 (by decide) (by rw[e,q]))
  have C9:=C8.only o9 (fun e=>by omega);have B9:=B8.trans (o9.to_below B8.size (fun r hr e=>by omega))
  have ck:=K8.cell 2;have de:=K8.frozen 2
  have cj:=K9.cell 3;have cI:=K9.frozen 3
  simp only[jn0,jnZ,jnX]at ck cj;have bH:=jnS T9
  have X:=jnS E9;have aQ:=jnS K9
  have aP:=jnS C9;have aO:=jnS B9
  have dI:=o9.size;have cy:Hid ((W8.setCell ⟨y.heap.size,2,none⟩ (.slice D (c.length+1) E)).heap.size=W8.heap.size):=by show _=_;simp[World.setCell]
  clear ar ah cH bW o8 T8 E8 K8 C8 B8 K9 o9 T9 E9 C9 B9 J aM aR aL HO k2 f2;go_wp2_with (at_builtin;refine ju rfl _ _ 23 rfl w.heap.size 3 i1 _ 1 8 underlying23 hi cZ d8 cU rfl (by decide) _ _ _ rfl (X.out.alloc _) _ 1 1 [.int .i64 ((W:Int)+(m:Int))] rfl rfl (by first | exact(cE _ _ _ _ cy.out).out | exact(N1 _ _ _).out) (by intro u hu;simp at hu;subst hu;rfl) (by unfold maxLen;omega) (by omega) (by simp only[joe];omega) ?_);intro dm ay s U bK;generalize dK:W8.setCell ⟨y.heap.size,2,none⟩ (.slice D (c.length+1) E)=W9 at *
  have aF:Below W9.heap.size W9 (W9.alloc (.cells #[.int .i64 ((W:Int)+(m:Int))] 3)):=(jnV _ _).alloc (jnT _) _;have ap:jI (fun r=>(Value.slice ea c.length ec).ownBlock=some r) W9 ay:=(jI.of_below (S:=fun r=>(Value.slice ea c.length ec).ownBlock=some r) aF (jnT _)).grown U (fun r e=>.inl e)
  have bJ:=bH.out.beside X.out (by decide) (by decide) (by decide) ap;have Y:=aQ.out.only ap (fun e=>jh X.out aQ.out (by decide) e)
  have bg:=aP.out.only ap (fun e=>jh X.out aP.out (by decide) e);have aK:=aO.out.trans (ap.to_below aO.out.size (fun r hr e=>by have:=(X.out.lt r e).1;omega))
  obtain⟨Q,R,rfl,_⟩:=je s;have ax:=Y.set 3 (.slice Q (c.length+1) R)
  rw[show(#[Value.int .i64 (n:Int),.string (B d),.slice D (c.length+1) E,.slice ea c.length ec,.string ⟨#[]⟩]:Array Value).setIfInBounds 3 (.slice Q (c.length+1) R)=#[.int .i64 (n:Int),.string (B d),.slice D (c.length+1) E,.slice Q (c.length+1) R,.string ⟨#[]⟩] from rfl]at ax;have aq:jI (· = y.heap.size) ay (ay.setCell ⟨y.heap.size,3,none⟩ (.slice Q (c.length+1) R)):=(jI.refl (· = y.heap.size) ay).cellS 3 _
  have cG:=jnS (bJ.box Y (by decide) (by decide) (by decide) aq);have cp:=jnS (jK s aq (fun b e q=>jh s Y (by decide) (by rw[e,q])))
  have co:=jnS (bg.only aq (fun e=>by omega));have cl:=jnS (aK.trans (aq.to_below aK.size (fun r hr e=>by omega)))
  have bE:=jnS ax;have d9:=Y.cell 3
  have dN:=Y.frozen 3;have l2:=ax.cell 2
  simp only[jn0,jnZ,jnX]at d9 l2;clear s U bK aF ap bJ Y bg aK ax aq l2 bH X aQ aP aO ck de cj cI;go_wp2_with fail;go_roundw
  case rel=>exact⟨c++[K],_,_,_,_,by rw[cB.out];go_num,RS.out,bE.out,cG.out,by rw[ES.out,jnU];exact cp.out,co.out,cl.out⟩
  case measure =>
  show t.length+1-((W:Int)+(m:Int)).toNat<t.length+1-((W:Nat):Int).toNat;omega
 ·
  have v:=K6.set 4 (.string (B r));rw[show(#[Value.int .i64 (n:Int),.string (B d),.slice ba c.length bc,.slice ea c.length ec,.string ⟨#[]⟩]:Array Value).setIfInBounds 4 (.string (B r))=#[.int .i64 (n:Int),.string (B d),.slice ba c.length bc,.slice ea c.length ec,.string (B r)] from rfl]at v;have o7:jI (· = y.heap.size) w6 (w6.setCell ⟨y.heap.size,4,none⟩ (.string (B r))):=(jI.refl (· = y.heap.size) w6).cellS 4 _
  have f:=C6.only o7 (fun e=>by omega);have T7:=T6.box K6 (by decide) (by decide) (by decide) o7
  have E7:=jK E6 o7 (fun b e q=>jh E6 K6 (by decide) (by rw[e,q]));obtain⟨P8,o8⟩:=jhO f (.int .i64 (n:Int)) (.string (B d)) (.slice ba c.length bc) (.slice ea c.length ec) (.string (B r));have T8:=T7.box f (by decide) (by decide) (by decide) o8
  have E8:=jK E7 o8 (fun b e q=>jh E7 f (by decide) (by rw[e,q]));have cw:=jnS P8
  have B7:=C.out.trans (o7.to_below C.out.size (fun r hr e=>by omega));have B8:=jnS (B7.trans (o8.to_below B7.size (fun r hr e=>by omega)))
  have BR:=jnS (show yq w.heap.size _ (Vb n d (.slice ba c.length bc) (.slice ea c.length ec) r) n d c r from⟨_,_,us,rfl,T8,E8⟩);have cF:=jnS (show vH Dc t n d c r from⟨bC.out,⟨be,HP.out⟩,l,HR.out,ce⟩)
  have dx:=K6.frozen 4;have df:=K6.cell 4
  have a8:=f.cell 0;have aa:=f.cell 1
  have ae:=f.cell 2;have af:=f.cell 3
  have ag:=f.cell 4;have bM:=f.frozen 0
  have bN:=f.frozen 1;have bO:=f.frozen 2
  have bP:=f.frozen 3;have bQ:=f.frozen 4
  have dh:=v.cell 0;have di:=v.cell 1
  have am:=v.cell 2;have dj:=v.cell 3
  have dk:=v.cell 4;simp only[jn0,jnZ,jnX]at df a8 aa ae af ag dh di am dj dk;clear K6 C6 T6 E6 v o7 f T7 E7 P8 o8 T8 E8 B7 ce;go_upto_region 19 with fail;rw[EX.out];go_wp2_with fail;refine bodyPost_ret (Vs rfl _ _ w.heap.size _ rfl cw.out rfl) rfl ?_;exact⟨B8.out,.inr (.inr ⟨d,c,r,_,by rw[N];exact cF.out,rfl,by rw[N];exact BR.out⟩)⟩
 ·
  have DE:=jnS (ZF [] (by decide) w6);have FB:Hid (jjR Dc r):=.inl ⟨c8,cd⟩
  have DN:=jnS jhc;clear c8 cd;go_wp2_with fail;refine DE.out.mono ?_;rintro e w7 ⟨b7,h7⟩;have a7:=jnS (C.out.trans (b7.mono C.out.size))
  have v:=jb K6 b7 K6.lt;have f:=jb C6 b7 C6.lt
  clear DE K6 C6 T6 E6 b7;rcases h7 with ⟨hd,rfl⟩|⟨aA,u7,bL,hd,_⟩
  rotate_left
  ·rw[DN.out]at hd;cases hd
  have a8:=f.cell 0;have aa:=f.cell 1
  have ae:=f.cell 2;have af:=f.cell 3
  have ag:=f.cell 4;have bM:=f.frozen 0
  have bN:=f.frozen 1;have bO:=f.frozen 2
  have bP:=f.frozen 3;have bQ:=f.frozen 4
  have am:=v.cell 2;simp only[jn0,jnZ,jnX]at a8 aa ae af ag am;have CR:=jnS (jdB a7.out f)
  clear v f;go_wp2_with fail;go_region
  all_goals go_wp2_with fail
  all_goals
   refine bodyPost_ret (Vs rfl _ _ w.heap.size _ rfl CR.out.2 rfl) rfl ?_;exact⟨CR.out.1,.inr (.inl ⟨be,c,r,by rw[N,l];exact HP.out,by rw[N,l];exact HR.out,FB.out,rfl⟩)⟩
end Bk
namespace Rp
open Bk
attribute [local go_sem] jn9
def Gv(w w':World)(s:List UInt8)(bs:List (List Ed))(e:Ending):Prop:=Below w.heap.size w w' /\
  ((∃a n xa xn xc nx,(jv s=.error (a,n)\/∃its,jv s=.ok its/\vj (jQ its) bs a/\n=10)/\e=.returned (.tuple #[.agg #[.slice xa xn xc,.int .i64 nx],.int .i64 (a:Nat),.int .i64 (n:Nat)])) \/
   (∃its k v qs,jv s=.ok its/\qq (jQ its) bs=some k/\e=.returned (.tuple #[.agg #[v,.int .i64 k.next],.int .i64 (-9),.int .i64 0])/\zN w' v qs/\qs.map Prod.fst=k.es))
theorem Qw{d:Func}{p u z:Tmp}{e:TypeId}(h:d.results=#[.cell p e,.tmp u,.tmp z])(tmps:Array Value)(P:Program)(w:World):
  (results d tmps).run P w=((asAddr (tmps.getD p undef)).run P w).andThen fun a b=>((loadVar e a).run P b).andThen fun v c=>.ok (.tuple #[v,tmps.getD u undef,tmps.getD z undef]) c:=by
 simp only[results,h];simp[Sem.run_bind,Result.andThen]
theorem jl8{c:Func}{p u z:Tmp}(h:c.results=#[.cell p 37,.tmp u,.tmp z])(tmps:Array Value)(w:World)(b:Nat)(a:Array Value)(e:tmps.getD p undef=.pointer (some ⟨b,0,none⟩))
  (d:jd w b 37 a) (f:a.size=2):(results c tmps).run prog w=.ok (.tuple #[.agg a,tmps.getD u undef,tmps.getD z undef]) w:=by
 have L:=run_loadVar_row (P:=prog) w b 37 37 a (0,0) _ d underlying37 rfl (by rw[f];kernel_rfl);rw[Qw h,e];show((loadVar _ _).run _ _).andThen _=_
 rw[L];rfl
theorem Gw.form{w w':World}{s:List UInt8}{d:List (List Ed)}{e:Ending}(h:Gw w w' s d e):∃l x m g p r q a f,e=.returned (.tuple #[.agg #[.slice l x m,.int .i64 g],.slice p r q,.int .i64 a,.int .i64 f]) /\
    ((∃o n:Nat,(jv s=.error (o,n)\/∃b,jv s=.ok b/\vj (jQ b) d o/\n=10)/\r=0/\a=o/\f=n) \/
     (∃b k j u,jv s=.ok b/\qq (jQ b) d=some k/\g=k.next/\a = -9/\f=0/\zN w' (.slice l x m) j/\j.map Prod.fst=k.es/\XQ w.heap.size w' (.slice p r q) (Xo (jQ b) d) u)):=by
  obtain⟨_,⟨a,n,v,g,c,rfl,_⟩|⟨b,i,l,x,m,g,c,t,rfl⟩|⟨b,k,v,j,C,u,c,t,rfl,y,A,z⟩⟩:=h
  . exact⟨_,_,_,_,_,_,_,_,_,rfl,.inl ⟨a,n,.inl c,rfl,rfl,rfl⟩⟩
  . exact⟨_,_,_,_,_,_,_,_,_,rfl,.inl ⟨i,10,.inr ⟨b,c,t,rfl⟩,rfl,rfl,rfl⟩⟩
  obtain⟨l,m,rfl,_⟩:=y.empty;obtain⟨p,q,rfl,_⟩:=je z.row;exact⟨_,_,_,_,_,_,_,_,_,rfl,.inr ⟨b,k,j,u,c,t,rfl,rfl,rfl,y,A,z⟩⟩
theorem jbL(j:Int)(s:List UInt8)(g:List (List Ed))(A:Option Addr)(c:Nat)(C:Option Addr)(E D:Nat)(H:ByteArray)(w:World)(hs:s.length+xL g<=5000)(hl:g.length<=100000)(hv:BtV w (.slice A g.length c) g)(hb:jfd g):
  Calls prog 46 #[JK j s A g.length c C E D H] w fun e w'=>Gv w w' s g e:=by
 obtain⟨N,i⟩:∃z,(w.alloc (.cells #[.int .i64 j,.string (B s),.slice A g.length c,.slice C E D,.string H] 25)).alloc (.cells #[.slice none 0 0,.int .i64 0] 37)=z:=⟨_,rfl⟩
 have W:Below w.heap.size w N:=by rw[<- i];exact((jnV _ w).alloc (jnT _) _).alloc (by simp) _
 have t:jd N w.heap.size 25 #[.int .i64 j,.string (B s),.slice A g.length c,.slice C E D,.string H]:=by rw[<- i];exact(jd.new _ _ _).alloc _
 have CR:jd N (w.heap.size+1) 37 #[.slice none 0 0,.int .i64 0]:=by
  rw[<- i];have:=jd.new (w.alloc (.cells #[.int .i64 j,.string (B s),.slice A g.length c,.slice C E D,.string H] 25)) 37 #[.slice none 0 0,.int .i64 0]
  simp only[joe]at this;exact this
 have m:=ZG j s g A c C E D H g.length (jnT _) N hs hl (hv.below W (jnT _)) hb;rw[jom]at m;unfold JK at m;have v:=jnS m
 have k0:=t.cell 0;have k1:=t.cell 1
 have k2:=t.cell 2;have k3:=t.cell 3
 have k4:=t.cell 4;simp only[jn0,jnZ,jnX]at k0 k1 k2 k3 k4;rw[<- i]at k0 k1 k2 k3 k4;have u:=jnS W
 have y:=jnS CR;have R:=jnS i
 clear hv hb W t CR i m;unfold JK;go_enter func46,ntmps46;go_wp2_with fail;rw[R.out];refine v.out.mono ?_;rintro e w3 Y;have b3:=Y.1
 obtain⟨J,L,K,G,ga,gn,gc,a,f,rfl,hF⟩:=Y.form;have B3:=jnS (u.out.trans (b3.mono u.out.size))
 have o:=jb y.out b3 y.out.lt;obtain⟨I,l⟩:∃z,w3.alloc (.cells #[.slice J L K,.int .i64 G] 37)=z:=⟨_,rfl⟩
 have d:Below w3.heap.size w3 I:=by rw[<- l];exact(jnV _ _).alloc (jnT _) _
 have b:=jb o d o.lt;have V:=(b.set 0 (.slice J L K)).set 1 (.int .i64 G)
 rw[Vo]at V;have Q:=jnS V
 have oE:jI (· = w.heap.size+1) I ((I.setCell ⟨w.heap.size+1,0,none⟩ (.slice J L K)).setCell ⟨w.heap.size+1,1,none⟩ (.int .i64 G)):=((jI.refl (· = w.heap.size+1) I).cellS 0 _).cellS 1 _;have O:=B3.out.trans (d.mono B3.out.size)
 have m:=jnS (O.trans (oE.to_below O.size (fun r hr e=>by omega)));have P:Hid (Gv w ((I.setCell ⟨w.heap.size+1,0,none⟩ (.slice J L K)).setCell ⟨w.heap.size+1,1,none⟩ (.int .i64 G)) s g (.returned (.tuple #[.agg #[.slice J L K,.int .i64 G],.int .i64 a,.int .i64 f]))):=by
  show Gv _ _ _ _ _;refine⟨m.out,?_⟩;rcases hF with ⟨a',n,X,_,rfl,rfl⟩|⟨a8,k,qs,us,X,h2,rfl,rfl,rfl,Z,h5,h6⟩
  ·exact .inl ⟨a',n,_,_,_,_,X,rfl⟩
  exact .inr ⟨a8,k,_,qs,X,h2,rfl,(Z.below d (jnT _)).only oE (fun r e q=>jh (Z.below d (jnT _)).row b (by decide) (by rw[e,q])) (fun p hp a7 r e q=>Gb ((Z.each p hp).below d (jnT _)) a7 (by rw[e,q]) b (by intro x hx s;simp at hx;rcases hx with rfl | rfl<;>exact fun h=>by cases h)),h5⟩
 have c0:=b.cell 0;have c1:=b.cell 1
 have f0:=b.frozen 0;have f1:=b.frozen 1
 simp only[jn0,jnZ,jnX]at c0 c1;have U:=jnS l
 rw[<- l]at c0 c1 f0 f1;clear Y b3 hF o d b V oE O m v l k0 k1 k2 k3 k4;go_wp2_with fail;rw[U.out];refine bodyPost_ret (jl8 rfl _ _ (w.heap.size+1) _ rfl Q.out rfl) rfl ?_;exact P.out
theorem jed{s:List UInt8}{its:List It}(h:jv s=.ok its){a:List Pr}(d:a.map Prod.fst=(jQ its).es)(id:Int):decide (0<=Vz (Gz a) id)=(decide (1<=id)&&decide (id<(jQ its).next)):=by
 have ok:=jb9 h;have m:∀y:Stz,y∈Gz a->∃e∈(jQ its).es,0<e.2/\e.2=y.1:=by intro y r;unfold Gz at r;obtain⟨p,g,rfl⟩:=List.mem_map.1 r;obtain⟨b,n⟩:=List.mem_filter.1 g;exact⟨p.1,by rw[<- d];exact jpu b,by simpa using n,rfl⟩
 unfold Vz;cases o:(Gz a).findIdx? fun s=>s.1==id with
 | none =>
  have i:decide ((0:Int)<=-1)=false:=by decide
  show decide ((0:Int)<=-1)=_;rw[i];by_cases c:1<=id/\id<(jQ its).next
  ·obtain⟨e,j,q⟩:=(Yj 1 its (by decide)).2 id c.1 c.2;have l:e∈a.map Prod.fst:=by rw[d];exact j
   obtain⟨p,g,rfl⟩:=List.mem_map.1 l;have u:(p.1.2,p.1.1.fields)∈Gz a:=jpu (f:=fun p:Pr=>(p.1.2,p.1.1.fields)) (List.mem_filter.2 ⟨g,by simp;omega⟩)
   have:=List.findIdx?_eq_none_iff.1 o _ u;simp[q]at this
  symm;rw[Bool.and_eq_false_iff];by_cases b:1<=id
  ·exact .inr (by simp;omega)
  exact .inl (by simpa using b)
 | some k =>
 have i:decide ((0:Int)<=(k:Nat))=true:=by simp
 show decide ((0:Int)<=(k:Nat))=_;rw[i];obtain⟨t,b,_⟩:=List.findIdx?_eq_some_iff_getElem.1 o;obtain⟨e,j,g,q⟩:=m _ (List.getElem_mem t);have n:(Gz a)[k].1=id:=by simpa using b
 have v:=ok.lt e.2 (by unfold nums;exact List.mem_filter.2 ⟨jpu j,by simpa using g⟩);symm;rw[joC];exact⟨by simp;omega,by simp;omega⟩
theorem jbM(r:Int)(s:List UInt8)(d:List (List Ed))(A:Option Addr)(c:Nat)(Z:Option Addr)(en ec:Nat)(tl:ByteArray)(id:Int)(w:World)(hs:s.length+xL d<=5000)(hl:d.length<=100000)(hv:BtV w (.slice A d.length c) d)(l:jfd d):
  Calls prog 29 #[JK r s A d.length c Z en ec tl,.int .i64 id] w fun e w'=>(∃b,e=.returned (.bool b)/\(b=true↔jdK s d id))/\Below w.heap.size w w':=by
 obtain⟨w1,L⟩:∃z,w.alloc (.cells #[.int .i64 r,.string (B s),.slice A d.length c,.slice Z en ec,.string tl] 25)=z:=⟨_,rfl⟩
 have b1:Below w.heap.size w w1:=by rw[<- L];exact(jnV _ w).alloc (jnT _) _
 have U:jd w1 w.heap.size 25 #[.int .i64 r,.string (B s),.slice A d.length c,.slice Z en ec,.string tl]:=by rw[<- L];exact jd.new _ _ _
 have Q:=ZG r s d A c Z en ec tl 0 (jn3 _) w1 hs hl (hv.below b1 (jnT _)) l;have OF:Hid (∀W,Below w.heap.size w W->Calls prog 46 #[.agg #[.int .i64 r,.string (B s),.slice A d.length c,.slice Z en ec,.string tl]] W fun e w'=>Gv W w' s d e):=fun W hW =>
  jbL r s d A c Z en ec tl W hs hl (hv.below hW (jnT _)) l
 unfold JK at Q;have BE:Hid (Calls prog 10 #[.agg #[.int .i64 r,.string (B s),.slice A d.length c,.slice Z en ec,.string tl],.int .i64 0] w1 fun e w'=>Gw w1 w' s (d.take 0) e):=Q
 have k0:=U.cell 0;have k1:=U.cell 1
 have k2:=U.cell 2;have k3:=U.cell 3
 have k4:=U.cell 4;simp only[jn0,jnZ,jnX]at k0 k1 k2 k3 k4;have ah:=jnS b1
 have aE:=jnS L;have ai:=jnS U
 have HV:=jnS hv;have ax:=jnS (fun b h=>(l b h).1)
 clear hv l b1 U L Q;unfold JK;go_enter func29,ntmps29;go_wp2_with fail;rw[aE.out];refine BE.out.mono ?_;rintro e w2 H;have b2:=H.1
 have B2:=jnS (ah.out.trans (b2.mono ah.out.size));have ae:=jnS (jb ai.out b2 ai.out.lt)
 obtain⟨xa,xn,xc,nx,ga,gn,gc,a,f,rfl,hF⟩:=H.form;clear BE H b2 k0 k1 k2 k3 k4;rcases hF with ⟨a',n,E,_,rfl,rfl⟩|⟨j,k,qs,us,hp,au,rfl,rfl,rfl,hq,aa,_⟩
 ·have hp:jv s=.error (a',n):=by
   rcases E with h|⟨j,_,h,_⟩
   ·exact h
   have:=h.lt;simp at this
  have aq:=(ZI hp).1;have qn:(((n:Nat):Int)==0)=false:=by simpa using aq
  have I:=jnS hp;have BE:=jnS (B2.out.alloc B2.out.size (.cells #[.slice xa xn xc,.int .i64 nx] 37))
  clear E hp aq;go_wp2_with fail;go_ret;exact⟨⟨false,rfl,⟨fun h=>(by cases h),fun⟨j,_,h,_⟩=>(by rw[I.out]at h;cases h)⟩⟩,BE.out⟩
 have hk:k=jQ j:=by have h:some (jQ j)=some k:=au;exact(jnY h).symm
 subst hk;obtain⟨w3,G⟩:∃z,w2.alloc (.cells #[.slice xa xn xc,.int .i64 (jQ j).next] 37)=z:=⟨_,rfl⟩
 have J:Below w2.heap.size w2 w3:=by rw[<- G];exact(jnV _ _).alloc (jnT _) _
 have C3:=jnS (show jd w3 w2.heap.size 37 #[.slice xa xn xc,.int .i64 (jQ j).next] from by rw[<- G];exact jd.new _ _ _);have q:=jnS (jb ae.out J ae.out.lt)
 have B3:=jnS (B2.out.trans (J.mono B2.out.size));have ak:=jnS (hq.below J (jnT _))
 have O3:=jnS (OF.out w3 B3.out);have k0:=q.out.cell 0
 have k1:=q.out.cell 1;have k2:=q.out.cell 2
 have k3:=q.out.cell 3;have k4:=q.out.cell 4
 simp only[jn0,jnZ,jnX]at k0 k1 k2 k3 k4;rw[<- G]at k0 k1 k2 k3 k4;have I:=jnS hp
 have aC:=jnS aa;have aF:=jnS G
 have aj:Hid (qs.length<=10000):=by
  show _<=_;have h1:=congrArg List.length aa
  rw[joi]at h1;have H:(jQ j).es.length=j.length:=xv 1 j
  have D:=(vt hp).2.1;omega
 clear hp aa au hq J G OF;generalize ar:(jQ j).next=nx at *
 have X:=jnS ar;clear ar;go_wp2_with fail;rw[aF.out];refine O3.out.mono ?_;rintro e w4 ⟨b4,h4⟩;have B4:=jnS (B3.out.trans (b4.mono B3.out.size))
 have af:=jnS (jb q.out b4 q.out.lt);have C4:=jnS (jb C3.out b4 C3.out.lt)
 have aB:=jnS (ak.out.below b4 (jnT _));clear b4 O3 k0 k1 k2 k3 k4 ak;rcases h4 with ⟨a',n,aK,aM,aL,aI,E,rfl⟩|⟨t,k,v,aJ,a8,O,rfl,av,_⟩
 ·have hr:∃i,vj (jQ j) d i/\n=10:=by
   rcases E with h|⟨t,h,H,D⟩
   ·rw[I.out]at h;cases h
   rw[I.out]at h;cases h;exact⟨_,H,D⟩
  obtain⟨i,hR,rfl⟩:=hr;have HR:=jnS hR
  have BE:=jnS (B4.out.alloc B4.out.size (.cells #[.slice aK aM aL,.int .i64 aI] 37));clear E hR;go_wp2_with fail;go_ret;exact⟨⟨false,rfl,⟨fun h=>(by cases h),fun⟨t,_,h,H,_⟩=>(by
   rw[I.out]at h;cases h;exact(HR.out.not H).elim)⟩⟩,BE.out⟩
 have hi:t=j:=by rw[I.out]at a8;cases a8;rfl
 subst hi;obtain⟨va,vc,rfl,_⟩:=av.empty;have HL:=jnS O
 obtain⟨w5,N⟩:∃z,w4.alloc (.cells #[.slice va aJ.length vc,.int .i64 k.next] 37)=z:=⟨_,rfl⟩
 have C:Below w4.heap.size w4 w5:=by rw[<- N];exact(jnV _ _).alloc (jnT _) _
 have B5:=jnS (B4.out.trans (C.mono B4.out.size));have ag:=jnS (jb af.out C af.out.lt)
 have C5:=jb C4.out C C4.out.lt;have PL:=jnS (WZ qs _ nx id w5 (aB.out.below C (jnT _)) aj.out)
 have PB:=jnS (jed I.out aC.out id);have m0:=C5.cell 0
 have m1:=C5.cell 1;simp only[jn0,jnZ,jnX]at m0 m1;rw[<- N]at m0 m1;have aG:=jnS N
 clear a8 O av N C C5;go_wp2_with fail;rw[aG.out];refine PL.out.mono ?_;rintro e P ⟨rfl,b6⟩;have B6:=jnS (B5.out.trans (b6.mono B5.out.size))
 have V:=jnS (jb ag.out b6 ag.out.lt);have Y:=PB.out
 rw[X.out]at Y;generalize Vz (Gz qs) id=z at *
 have aA:=jnS Y;have CF:Hid (∀W,Below P.heap.size P W->W.cell? ⟨w.heap.size,2,none⟩=some (.slice A d.length c)):=fun W hW=>by rw[(jb V.out hW V.out.lt).cell];rfl
 have aD:=jnS (HV.out.below B6.out (jnT _));clear b6 PL PB Y m0 m1 V;go_wp2_with fail;go_loopw [12,13] (fun o iv wr=>∃i:Nat,i<=d.length/\iv=.int .i64 (i:Nat)/\o=.bool (decide (0<=z) && !jcD id (d.take i))/\Below P.heap.size P wr) (fun _ iv _=>d.length-(intOf iv).toNat)
 case atStart=>exact⟨0,jn3 _,rfl,by simp[jcD],jnV _ _⟩
 case round =>
 obtain⟨i,hi,rfl,rfl,l⟩:=hrel;have d2:=CF.out wr l
 by_cases ap:i<d.length
 ·obtain⟨x,hx⟩:∃x,d[i]?=some x:=⟨_,jnW ap⟩
  obtain⟨A',am,e',_,hc⟩:=aD.out;obtain⟨g,aw,u,eA,aH,cg,hu⟩:=hc i x hx;injection e' with e1 e2 e3;subst e1;subst e3;subst eA;obtain⟨ua,uc,rfl,_⟩:=_root_.id hu;have aO:=ax.out x (jn7 hx)
  have DF:Hid (∀W,Below P.heap.size P W->W.cell? ⟨g,aw+i,none⟩=some (.slice ua x.length uc)):=fun W hW=>(hW.cell (p:=⟨g,aw+i,none⟩) aH).trans cg;have HU:=jnS hu
  have HB:=jnS l;have TN:Hid (jcD id (d.take (i+1))=(jcD id (d.take i) || x.any (tch id))):=Yo (p:=fun b:List Ed=>b.any (tch id)) hx
  clear l hc cg hu hx;generalize jcD id (d.take i)=tb at *
  go_wp2_with fail;go_loopw [12,14] (fun o iv wi=>∃m:Nat,m<=x.length/\iv=.int .i64 (m:Nat)/\o=.bool (decide (0<=z) && !(tb || (x.take m).any (tch id)))/\Below P.heap.size P wi) (fun _ iv _=>x.length-(intOf iv).toNat)
  case atStart=>exact⟨0,jn3 _,rfl,by simp,HB.out⟩
  case round =>
  obtain⟨m,hm,rfl,rfl,l⟩:=hrel;have d3:=CF.out wr l
  have d4:=DF.out wr l;by_cases K:m<x.length
  ·obtain⟨y,a7⟩:∃y,x[m]?=some y:=⟨_,jnW K⟩
   obtain⟨A',am,e',_,hc⟩:=HU.out.below l (jnT _);obtain⟨b,aN,fv,eA,aP,c0,c1,c2,hf⟩:=hc m y a7;injection e' with e1 e2 e3;subst e1;subst e3;subst eA;obtain⟨fa,fc,rfl⟩:=hf.form;have AN:=jnS (Yo (p:=tch id) a7)
   have BX:=jnS (l.alloc l.size (.cells #[.int .i64 y.kind,.int .i64 y.id,.slice fa y.fields.length fc] 75));clear l hc hf a7;cases ho:(decide (0<=z) && !(tb || (x.take m).any (tch id))) with
   | false =>
    have R:Hid ((decide (0<=z) && !(tb || (x.take (m+1)).any (tch id)))=false):=by show _=_;rw[AN.out];revert ho;cases decide (0<=z)<;>cases tb<;>cases (x.take m).any (tch id)<;>simp
    clear ho AN;go_wp2_with fail;go_roundw
    case rel=>exact⟨m+1,K,by go_num,by rw[R.out],BX.out⟩
    case measure=>simp[intOf];omega
   | true =>
   have R:Hid ((decide (0<=z) && !(tb || (x.take (m+1)).any (tch id))) = !tch id y):=by show _=_;rw[AN.out];revert ho;cases decide (0<=z)<;>cases tb<;>cases (x.take m).any (tch id)<;>simp
   clear ho AN;by_cases D:y.kind=3
   ·have ht:tch id y=false:=by unfold tch;rw[D];rfl
    rw[ht]at R;go_wp2_with fail;go_roundw
    case rel=>exact⟨m+1,K,by go_num,by rw[R.out];rfl,by first | exact BX.out | (have:=BX.out;rw[D]at this;exact this)⟩
    case measure=>simp[intOf];omega
   have q3:(y.kind==3)=false:=by simpa using D
   have ht:tch id y=(y.id==id):=by unfold tch;simp[D]
   rw[ht]at R;go_wp2_with fail;go_roundw
   case rel=>exact⟨m+1,K,by go_num,by rw[R.out];rfl,by first | exact BX.out | (have:=BX.out;rw[D]at this;exact this)⟩
   case measure=>simp[intOf];omega
  have he:x.take m=x:=jol (by omega);rw[he];have ay:=jnS l
  clear l;go_wp2_with fail;go_roundw
  case rel=>exact⟨i+1,ap,by go_num,by rw[TN.out],ay.out⟩
  case measure=>simp[intOf];omega
 have he:d.take i=d:=jol (by omega);rw[he];have HB:=jnS l
 clear l;go_wp2_with fail;go_ret;refine⟨⟨_,rfl,?_⟩,B6.out.trans (HB.out.mono B6.out.size)⟩;rw[aA.out];constructor
 ·intro h;simp only[joC,decide_eq_true_eq,jp2]at h;exact⟨_,k,I.out,HL.out,h.1.1,by rw[X.out];exact h.1.2,h.2⟩
 rintro⟨t,k',h1,_,H,D,h4⟩;rw[I.out]at h1;cases h1;rw[X.out]at D;simp[H,D,h4]
theorem jcU{w w':World}{t:List UInt8}{e:Ending}(h:jnE w w' t e):Below w.heap.size w w' /\
  ((∃a k:Nat,Gy t a k/\e=.returned (.tuple #[Yq,.int .i64 a,.int .i64 k]))\/∃n c b d v,vH Dc t n c b d/\e=.returned (.tuple #[v,.int .i64 (-9),.int .i64 0])/\yq w.heap.size w' v n c b d):=by
 obtain⟨m,h⟩:=h;refine⟨m,?_⟩;rcases h with ⟨a,k,f,g⟩|⟨j,b,r,f,g,i,l⟩|⟨c,b,d,v,f,g,i⟩
 ·exact .inl ⟨a,k,.inl f,g⟩
 ·exact .inl ⟨b.length,10,.inr ⟨rfl,j,b,r,f,g,i,rfl⟩,l⟩
 exact .inr ⟨_,c,b,d,v,f,g,i⟩
end Rp
section
attribute [local go_sem] jn9
end
end Go.Proofs.YtbapfpekklcicaaGreatDoor
