/- Texts put together:SC,SD,NS,NT,NU,NV,NW,EC,EO,EW,SE,SF,AO,AD. -/
import Derived.BigFrame
import Derived.Test.YtbapfpekklcicaaGreatDoorBbx26
set_option linter.unusedVariables false
set_option maxRecDepth 100000
set_option maxHeartbeats 16000000
namespace Go.Proofs.YtbapfpekklcicaaGreatDoor
open Go.RowKit Go.Shelf Tryz
namespace Bk
attribute [local go_sem] jn9
structure Gu(w:World):Prop where
 tabs:Tabs w
 max:Hd.MaxL w
theorem Gu.below{w w':World}{N:Nat}(h:Gu w)(b:Below N w w')(a:w.heap.size<=N):Gu w':=⟨h.tabs.below b a,h.max.below b a⟩
theorem Gu.nums{w:World}(h:Gu w):Fr.TabsN w:=⟨h.tabs.pow,h.tabs.syn,h.tabs.ran⟩
theorem Gu.tab{w:World}(h:Gu w):Hd.Tab w:=⟨h.nums,h.max⟩
def Dc(b:List UInt8):Bool:=(Qd b).isSome
def yS(b:List UInt8):List Ed:=(Qd b).getD []
def jjl(n:Nat):Value:=.int .i64 (n:Int)
def Vb(n:Nat)(base:List UInt8)(bv ev:Value)(tail:List UInt8):Value:=.agg #[.int .i64 (n:Int),.string (B base),bv,ev,.string (B tail)]
theorem Ze{lo a n k:Nat}{w w':World}{v u:Value}{eds:List Ed}{fvs xs:List Value}{t:TypeId}(h:yn lo w v eds fvs)(j:w.ownsRow a t k u n xs)(l:t≠75)(m:t≠148)(o:jI (fun r=>u.ownBlock=some r) w w'):yn lo w' v eds fvs :=
 ⟨jK h.row o (fun b e q=>jX j h.row l b q e),h.len,fun i c d f g=>jK (h.each i c d f g) o (fun b e q=>jX j (h.each i c d f g) m b q e)⟩
theorem jir{lo:Nat}{w w':World}{v:Value}{eds:List Ed}{fvs:List Value}{t:TypeId}{b:Nat}{a:Array Value}(h:yn lo w v eds fvs)(j:jd w b t a)(k:75≠t)(l:148≠t)(o:jI (· = b) w w'):yn lo w' v eds fvs :=
 ⟨jK h.row o (fun r e q=>jh h.row j k (by rw[e,q])),h.len,fun i c d f g=>jK (h.each i c d f g) o (fun r e q=>jh (h.each i c d f g) j l (by rw[e,q]))⟩
structure XR(lo:Nat)(w:World)(bv:Value)(bds:List (List UInt8))(us:List Value):Prop where
 row:w.ownsRow lo 55 1 bv bds.length us
 each:∀(i:Nat) b u,bds[i]?=some b->us[i]?=some u->∃fvs,yn lo w u (yS b) fvs
theorem XR.len{lo:Nat}{w:World}{c:Value}{a:List (List UInt8)}{b:List Value}(h:XR lo w c a b):b.length=a.length:=by have:=h.row.1;omega
theorem XR.below{lo:Nat}{w w':World}{d:Value}{a:List (List UInt8)}{f:List Value}(h:XR lo w d a f)(e:Below w.heap.size w w'):XR lo w' d a f :=
 ⟨jO h.row e (jnT _),fun i b u g j=>by
  obtain⟨c,k⟩:=h.each i b u g j;exact⟨c,k.below e (jnT _)⟩⟩
theorem XR.nil(lo:Nat)(w:World):XR lo w (.slice none 0 0) [] []:=⟨⟨rfl,.inl ⟨rfl,rfl⟩⟩,fun i b u a c=>by simp at a⟩
theorem XR.box{lo:Nat}{w w':World}{f:Value}{a:List (List UInt8)}{j:List Value}{t:TypeId}{b:Nat}{c:Array Value}(h:XR lo w f a j)(g:jd w b t c)(n:55≠t)(p:75≠t)(s:148≠t)(o:jI (· = b) w w'):XR lo w' f a j :=
 ⟨jK h.row o (fun r e q=>jh h.row g n (by rw[e,q])),fun i x u k l=>by
  obtain⟨d,m⟩:=h.each i x u k l;exact⟨d,jir m g p s o⟩⟩
theorem XR.beside{lo d n p:Nat}{w w':World}{f u:Value}{a:List (List UInt8)}{j xs:List Value}{t:TypeId}(h:XR lo w f a j)(g:w.ownsRow d t p u n xs)(s:t≠55)(y:t≠75)(z:t≠148)(o:jI (fun r=>u.ownBlock=some r) w w'):XR lo w' f a j :=
 ⟨jK h.row o (fun b e q=>jX g h.row s b q e),fun i x v k l=>by
  obtain⟨c,m⟩:=h.each i x v k l;exact⟨c,Ze m g y z o⟩⟩
theorem XR.snoc{lo:Nat}{w w':World}{l e u:Value}{c:List (List UInt8)}{k:List Value}{b:List UInt8}{fvs:List Value}(h:XR lo w l c k)(m:yn lo w u (yS b) fvs)(j:w'.ownsRow lo 55 1 e (c.length+1) (k++[u]))(o:jI (fun r=>l.ownBlock=some r) w w'):XR lo w' e (c++[b]) (k++[u]):=by
 refine⟨by rw[jnU];exact j,fun i x v d a => ?_⟩;rw[List.getElem?_append]at d a;rw[h.len]at a;split at d
 ·rename_i g;rw[if_pos g]at a;obtain⟨f,n⟩:=h.each i x v d a;exact⟨f,Ze n h.row (by decide) (by decide) o⟩
 rename_i g;rw[if_neg g]at a;rw[List.getElem?_singleton]at d a;split at d
 ·rename_i p;rw[if_pos p]at a;obtain rfl:=jnY d;obtain rfl:=jnY a;exact⟨fvs,Ze m h.row (by decide) (by decide) o⟩
 cases d
structure yq(lo:Nat)(w:World)(v:Value)(n:Nat)(base:List UInt8)(bds:List (List UInt8))(tail:List UInt8):Prop where
 is:∃bv ev us,v=Vb n base bv ev tail/\XR lo w bv bds us/\w.ownsRow lo 3 1 ev bds.length ((qi (hl n+base.length) bds).map jjl)
theorem yq.below{lo:Nat}{w w':World}{v:Value}{n:Nat}{base a:List UInt8}{b:List (List UInt8)}(h:yq lo w v n base b a)(c:Below w.heap.size w w'):yq lo w' v n base b a:=by obtain⟨d,e,j,f,g,i⟩:=h.is;exact⟨d,e,j,f,g.below c,jO i c (jnT _)⟩
theorem jgx(n:Nat):Hd.lenP n=hl n:=rfl
theorem GT{lo:Nat}{w:World}{v:Value}{n:Nat}{base i:List UInt8}{a:List (List UInt8)}(h:yq lo w v n base a i)(hs:zd n base a<=1000000)(Q:Gu w):
  Calls prog 50 #[v] w fun e R=>e=.returned (.int .i64 (zd n base a:Nat))/\Below w.heap.size w R:=by
 obtain⟨bv,ev,us,rfl,L,x⟩:=h.is;obtain⟨V,X,rfl,_⟩:=je L.row;have y:=x
 obtain⟨J,Y,rfl,Z⟩:=je x;obtain⟨o,b⟩:∃z,w.alloc (.cells #[.int .i64 (n:Int),.string (B base),.slice V a.length X,.slice J a.length Y,.string (B i)] 28)=z:=⟨_,rfl⟩
 have c:Below w.heap.size w o:=by rw[<- b];exact(jnV _ w).alloc (jnT _) _
 have p:jd o w.heap.size 28 #[.int .i64 (n:Int),.string (B base),.slice V a.length X,.slice J a.length Y,.string (B i)]:=by rw[<- b];exact jd.new _ _ _
 have k:=jO x c (jnT _);have P:(B base).size=base.length:=jg base
 have C:zd n base a=hl n+base.length+(a.flatMap Fr.fullR).length:=rfl;have q:=jnS c
 have u:=jnS b;unfold Vb;by_cases K:a.length=0
 ·have N:a=[]:=List.length_eq_zero_iff.1 K;subst N;have hq:hl n+base.length<=1000000:=by simpa [zd]using hs
  have D:zd n base []=hl n+base.length:=by simp[zd]
  rw[D];have t:Hid (Value.int .i64 (IntKind.i64.wrap (((hl n:Nat):Int)+((B base).size:Int)))=.int .i64 ((hl n+base.length:Nat):Int)):=by show _=_;rw[P];congr 1;rw[jos _ (by omega)];omega
  have I:Hid (∀W,Below o.heap.size o W->Calls prog 80 #[.int .i64 (n:Int)] W fun e R=>e=.returned (.int .i64 (hl n:Nat))/\Below W.heap.size W R):=fun W hW=>Hd.lenP_call n W ((Q.below c (jnT _)).below hW (jnT _)).tab;have G:Hid (Below o.heap.size o o.drew):=(jnV _ _).drew
  have U:=jnS p;have k0:=p.cell 0
  have k1:=p.cell 1;have E:=p.cell 3
  simp only[jn0,jnZ,jnX]at k0 k1 E;have e0:([]:List (List UInt8)).length=0:=rfl
  simp only[e0]at *
  rw[<- b]at E;clear h L x y k Q c p b C D K;go_enter func50,ntmps50;go_wp2_with fail;rw[u.out];go_region_law (go_simp;go_at_call 80;refine(I.out _ G.out).mono ?_;rintro e w5 ⟨rfl,r⟩;have kk:=jb U.out (G.out.trans r) U.out.lt;have t1:=kk.cell 1;simp only[jn0,jnZ,jnX]at t1;have H:=jnS (G.out.trans r);clear r kk)
  all_goals go_wp2_with fail
  all_goals
   go_ret;exact⟨congrArg Ending.returned t.out,q.out.trans (H.out.mono q.out.size)⟩
 have O:a≠[]:=fun e=>K (by rw[e];rfl);obtain⟨g,a8,A⟩:=joW k (by omega);have f:=Ge (hl n+base.length) a O
 have s:∃g,J=some ⟨g,0,none⟩/\o.cell? ⟨g,a.length-1,none⟩=some (.int .i64 (zd n base a:Nat)):=by have l:=k;rw[A]at l;cases A;refine⟨g,rfl,?_⟩;rw[job l (a.length-1) (by omega),joI,f];rfl
 obtain⟨g',rfl,hc⟩:=s;have a7:(0:Int)<(a.length:Int):=by omega
 have aa:a.length<=1000000:=by have:=XH a;omega
 have d:((a.length:Int)-1)=((a.length-1:Nat):Int):=by omega
 have af:IntKind.i64.wrap ((a.length:Int)-1)=((a.length-1:Nat):Int):=by rw[d];exact jos _ (by omega)
 have ae:((a.length-1:Nat):Int)<(a.length:Int):=by omega
 have E:=p.cell 3;simp only[jn0,jnZ,jnX]at E;rw[<- b]at E hc;generalize zd n base a=W at *
 generalize a.length-1=j at *
 generalize a.length=m at *
 clear h L x y k Q c p b C f d;go_enter func50,ntmps50;go_wp2_with fail;go_ret;exact⟨rfl,by rw[u.out];exact q.out⟩
theorem jdZ{d:Func}{p u:Tmp}{e:TypeId}(h:d.results=#[.cell p e,.tmp u])(tmps:Array Value)(P:Program)(w:World):
  (results d tmps).run P w=((asAddr (tmps.getD p undef)).run P w).andThen fun a b=>((loadVar e a).run P b).andThen fun v c=>.ok (.tuple #[v,tmps.getD u undef]) c:=by
 simp only[results,h];simp[Sem.run_bind,Result.andThen]
theorem Kw{c:Func}{p u:Tmp}(h:c.results=#[.cell p 28,.tmp u])(tmps:Array Value)(w:World)(b:Nat)(a:Array Value)(e:tmps.getD p undef=.pointer (some ⟨b,0,none⟩))
  (d:jd w b 28 a) (f:a.size=5):(results c tmps).run prog w=.ok (.tuple #[.agg a,tmps.getD u undef]) w:=by
 have L:=run_loadVar_row (P:=prog) w b 28 28 a (0,0) _ d underlying28 rfl (by rw[f];kernel_rfl);rw[jdZ h,e];show((loadVar _ _).run _ _).andThen _=_
 rw[L];rfl
theorem jhO{W:World}{b:Nat}{T:TypeId}{a0 a1 a2 a3 a4:Value}(h:jd W b T #[a0,a1,a2,a3,a4])(v0 a c v3 v4:Value):
  jd (((((W.setCell ⟨b,0,none⟩ v0).setCell ⟨b,1,none⟩ a).setCell ⟨b,2,none⟩ c).setCell ⟨b,3,none⟩ v3).setCell ⟨b,4,none⟩ v4) b T #[v0,a,c,v3,v4]/\jI (· = b) W (((((W.setCell ⟨b,0,none⟩ v0).setCell ⟨b,1,none⟩ a).setCell ⟨b,2,none⟩ c).setCell ⟨b,3,none⟩ v3).setCell ⟨b,4,none⟩ v4):=by
 have k:=((((h.set 0 v0).set 1 a).set 2 c).set 3 v3).set 4 v4;refine⟨by simpa [List.setIfInBounds_toArray,List.set]using k,(((((jI.refl (· = b) W).cellS 0 v0).cellS 1 a).cellS 2 c).cellS 3 v3).cellS 4 v4⟩
def Yq:Value:=Vb 0 [] (.slice none 0 0) (.slice none 0 0) []
def jlP(w w':World)(t:List UInt8)(e:Ending):Prop:=Below w.heap.size w w' /\
  ((∃a k u,jv (vi (t.drop (hl (Hd.genP t))))=.error (a,k)/\e=.returned (.tuple #[Yq,u])/\jz w.heap.size w' u a k) \/
   (∃its bds r u,jv (vi (t.drop (hl (Hd.genP t))))=.ok its/\je5 Dc (t.drop (hl (Hd.genP t)+(vi (t.drop (hl (Hd.genP t)))).length)) bds r/\jjR Dc r/\e=.returned (.tuple #[Yq,u])/\jz w.heap.size w' u bds.length 10) \/
   (∃base bds tail v,vH Dc t (Hd.genP t) base bds tail/\e=.returned (.tuple #[v,.nilIface])/\yq w.heap.size w' v (Hd.genP t) base bds tail))
theorem jgu:(prog.info? 55).map (fun i=>(i.zero,i.size,i.bytes))=some (some (.slice none 0 0),1,24):=by kernel_rfl
theorem jaU:(prog.info? 3).map (fun i=>(i.zero,i.size,i.bytes))=some (some (.int .i64 0),1,8):=by kernel_rfl
def jiC(w:World)(b:Nat):Nat:=match w.cell? ⟨b,2,none⟩ with | some (.slice _ n _)=>n | _=>0
theorem jaY{D:List UInt8->Bool}{s r:List UInt8}{a:List (List UInt8)}(h:je5 D s a r):s.length=(a.flatMap Fr.fullR).length+r.length:=by rw[h.eq,jnU]
theorem jhc:Qd []=none:=by
 cases h:Qd []with
 | none=>rfl
 | some b =>
 obtain⟨_,c,_,d⟩:=xE.1 h;cases b with
 | nil=>exact absurd c (by decide)
 | cons a r =>
 have:=congrArg List.length d;unfold jo zl jg4 jp at this;simp at this
theorem jgV{lo:Nat}{W:World}{q k:Nat}(a:lo<=q)(h:jd W q 90 #[.int .i64 (k:Int),.iface 54 (.int .i64 10)]):jz lo W (.iface 87 (.pointer (some ⟨q,0,none⟩))) k 10 :=
 ⟨q,a,rfl,by rw[zn 10 (by decide)];exact h⟩
theorem jdD{w a:World}(b:Below w.heap.size w a)(c:jd a w.heap.size 28 #[.int .i64 0,.string ⟨#[]⟩,.slice none 0 0,.slice none 0 0,.string ⟨#[]⟩])(k:Nat):
  Below w.heap.size w ((((((a.alloc (.cells #[.int .i64 (k:Int),.iface 54 (.int .i64 10)] 90)).setCell ⟨w.heap.size,0,none⟩ (.int .i64 0)).setCell ⟨w.heap.size,1,none⟩ (.string ⟨#[]⟩)).setCell ⟨w.heap.size,2,none⟩ (.slice none 0 0)).setCell ⟨w.heap.size,3,none⟩ (.slice none 0 0)).setCell ⟨w.heap.size,4,none⟩ (.string ⟨#[]⟩)).drew /\
  jd ((((((a.alloc (.cells #[.int .i64 (k:Int),.iface 54 (.int .i64 10)] 90)).setCell ⟨w.heap.size,0,none⟩ (.int .i64 0)).setCell ⟨w.heap.size,1,none⟩ (.string ⟨#[]⟩)).setCell ⟨w.heap.size,2,none⟩ (.slice none 0 0)).setCell ⟨w.heap.size,3,none⟩ (.slice none 0 0)).setCell ⟨w.heap.size,4,none⟩ (.string ⟨#[]⟩)).drew w.heap.size 28 #[.int .i64 0,.string ⟨#[]⟩,.slice none 0 0,.slice none 0 0,.string ⟨#[]⟩] /\
  jz w.heap.size ((((((a.alloc (.cells #[.int .i64 (k:Int),.iface 54 (.int .i64 10)] 90)).setCell ⟨w.heap.size,0,none⟩ (.int .i64 0)).setCell ⟨w.heap.size,1,none⟩ (.string ⟨#[]⟩)).setCell ⟨w.heap.size,2,none⟩ (.slice none 0 0)).setCell ⟨w.heap.size,3,none⟩ (.slice none 0 0)).setCell ⟨w.heap.size,4,none⟩ (.string ⟨#[]⟩)).drew (.iface 87 (.pointer (some ⟨a.heap.size,0,none⟩))) k 10:=by
 have h:=jd.new a 90 #[.int .i64 (k:Int),.iface 54 (.int .i64 10)];have f:Below w.heap.size w (a.alloc (.cells #[.int .i64 (k:Int),.iface 54 (.int .i64 10)] 90)):=b.alloc b.size _
 obtain⟨g,d⟩:=jhO (c.alloc (.cells #[.int .i64 (k:Int),.iface 54 (.int .i64 10)] 90)) (.int .i64 0) (.string ⟨#[]⟩) (.slice none 0 0) (.slice none 0 0) (.string ⟨#[]⟩);have i:=c.lt
 exact⟨(f.trans (d.to_below f.size (fun r j e=>by omega))).drew,g.drew,jgV b.size ((h.only d (fun e=>by omega)).drew)⟩
theorem jdC{w a:World}(b:Below w.heap.size w a)(f:jd a w.heap.size 28 #[.int .i64 0,.string ⟨#[]⟩,.slice none 0 0,.slice none 0 0,.string ⟨#[]⟩])(k:Nat):
  Below w.heap.size w ((((((a.setCell ⟨w.heap.size,0,none⟩ (.int .i64 0)).setCell ⟨w.heap.size,1,none⟩ (.string ⟨#[]⟩)).setCell ⟨w.heap.size,2,none⟩ (.slice none 0 0)).setCell ⟨w.heap.size,3,none⟩ (.slice none 0 0)).setCell ⟨w.heap.size,4,none⟩ (.string ⟨#[]⟩)).alloc (.cells #[.int .i64 (k:Int),.iface 54 (.int .i64 10)] 90)).drew /\
  jd ((((((a.setCell ⟨w.heap.size,0,none⟩ (.int .i64 0)).setCell ⟨w.heap.size,1,none⟩ (.string ⟨#[]⟩)).setCell ⟨w.heap.size,2,none⟩ (.slice none 0 0)).setCell ⟨w.heap.size,3,none⟩ (.slice none 0 0)).setCell ⟨w.heap.size,4,none⟩ (.string ⟨#[]⟩)).alloc (.cells #[.int .i64 (k:Int),.iface 54 (.int .i64 10)] 90)).drew w.heap.size 28 #[.int .i64 0,.string ⟨#[]⟩,.slice none 0 0,.slice none 0 0,.string ⟨#[]⟩] /\
  jz w.heap.size ((((((a.setCell ⟨w.heap.size,0,none⟩ (.int .i64 0)).setCell ⟨w.heap.size,1,none⟩ (.string ⟨#[]⟩)).setCell ⟨w.heap.size,2,none⟩ (.slice none 0 0)).setCell ⟨w.heap.size,3,none⟩ (.slice none 0 0)).setCell ⟨w.heap.size,4,none⟩ (.string ⟨#[]⟩)).alloc (.cells #[.int .i64 (k:Int),.iface 54 (.int .i64 10)] 90)).drew (.iface 87 (.pointer (some ⟨a.heap.size,0,none⟩))) k 10:=by
 obtain⟨g,h⟩:=jhO f (.int .i64 0) (.string ⟨#[]⟩) (.slice none 0 0) (.slice none 0 0) (.string ⟨#[]⟩);have d:=b.trans (h.to_below b.size (fun r j e=>by omega))
 have i:(((((a.setCell ⟨w.heap.size,0,none⟩ (.int .i64 0)).setCell ⟨w.heap.size,1,none⟩ (.string ⟨#[]⟩)).setCell ⟨w.heap.size,2,none⟩ (.slice none 0 0)).setCell ⟨w.heap.size,3,none⟩ (.slice none 0 0)).setCell ⟨w.heap.size,4,none⟩ (.string ⟨#[]⟩)).heap.size=a.heap.size:=by simp[World.setCell]
 have c:=jd.new (((((a.setCell ⟨w.heap.size,0,none⟩ (.int .i64 0)).setCell ⟨w.heap.size,1,none⟩ (.string ⟨#[]⟩)).setCell ⟨w.heap.size,2,none⟩ (.slice none 0 0)).setCell ⟨w.heap.size,3,none⟩ (.slice none 0 0)).setCell ⟨w.heap.size,4,none⟩ (.string ⟨#[]⟩)) 90 #[.int .i64 (k:Int),.iface 54 (.int .i64 10)];rw[i]at c;exact⟨(d.alloc d.size _).drew,(g.alloc _).drew,jgV b.size c.drew⟩
theorem Js(t:List UInt8)(ht:t.length<=100000)(cO:(vi (t.drop (hl (Hd.genP t)))).length<=60000)(w:World)(hT:Gu w):
  Calls prog 26 #[.string (B t)] w fun e w'=>jlP w w' t e:=by
 obtain⟨i1,hi,cS,cT,cQ⟩:=info_parts jaU;obtain⟨i2,cP,cF,cG,cH⟩:=info_parts jgu;have cR:(B t).size=t.length:=jg t
 have ai:=Hd.genP_is t;have hn:=Hd.gen_lt ai
 have dt:=jiR ai;generalize p:Hd.genP t=n at *
 obtain⟨w0,aj⟩:∃z,w.alloc (.cells #[.int .i64 0,.string ⟨#[]⟩,.slice none 0 0,.slice none 0 0,.string ⟨#[]⟩] 28)=z:=⟨_,rfl⟩
 have aS:Below w.heap.size w w0:=by rw[<- aj];exact(jnV _ w).alloc (jnT _) _
 have hz:w0.heap.size=w.heap.size+1:=by rw[<- aj];simp
 have C0:jd w0 w.heap.size 28 #[.int .i64 0,.string ⟨#[]⟩,.slice none 0 0,.slice none 0 0,.string ⟨#[]⟩]:=by rw[<- aj];exact jd.new _ _ _
 have TB:Hid (∀W,Below w.heap.size w W->Gu W):=fun W hW=>hT.below hW (jnT _);have aQ:=Hd.take_any t ht w0 (TB.out w0 aS).tab
 rw[p]at aQ;have TK:=jnS aQ
 have aY:=jnS aS;have bi:=jnS C0
 have cj:=jnS aj;have q1:¬(120000:Int)<((B t).size:Int):=by omega
 have bO:(t.drop (hl n)).length<=100000:=by rw[jn6];omega
 have HZ:=jnS hz;clear hT aQ aS C0 aj hz;go_enter func26,ntmps26;go_wp2_with fail;rw[cj.out];refine TK.out.mono ?_;rintro e w1 ⟨rfl,b1⟩;have aZ:=jnS (aY.out.trans (b1.mono aY.out.size))
 have dv:=b1.size;have bj:=jnS (jb bi.out b1 bi.out.lt)
 have BS:=jnS (Gr (t.drop (hl n)) bO w1);have ce:=jnS (XJ (t.drop (hl n)))
 have dk:=jnS (jcn (t.drop (hl n)));have cM:(vi (t.drop (hl n))).length<=(t.drop (hl n)).length:=by have:=congrArg List.length ce.out;rw[jnU]at this;omega
 clear TK b1;rw[jgx];generalize g:vi (t.drop (hl n))=d at *
 go_wp2_with fail;refine BS.out.mono ?_;rintro e y ⟨rfl,b2⟩;have be:=jnS (aZ.out.trans (b2.mono aZ.out.size))
 have dw:=b2.size;obtain⟨J,aE⟩:∃z,y.alloc (.cells #[.int .i64 (n:Int),.string (B d),.slice none 0 0,.slice none 0 0,.string ⟨#[]⟩] 28)=z:=⟨_,rfl⟩
 have aA:Below y.heap.size y J:=by rw[<- aE];exact(jnV _ _).alloc (jnT _) _
 have C3:jd J y.heap.size 28 #[.int .i64 (n:Int),.string (B d),.slice none 0 0,.slice none 0 0,.string ⟨#[]⟩]:=by rw[<- aE];exact jd.new _ _ _
 have aw:=jnS (jb bj.out (b2.trans (aA.mono b2.size)) bj.out.lt);have av:=jnS (be.out.trans (aA.mono be.out.size))
 have PA:=jnS (YP (B d) (by rw[jg];exact cO) J);rw[jj]at PA;have bm:=jnS C3
 have ck:=jnS aE;have dx:=aA.size
 have dj:=C3.lt;have di:w.heap.size+1<=y.heap.size:=by have:=HZ.out;omega
 clear BS b2 aA C3 aE;go_wp2_with fail;rw[ck.out];refine PA.out.mono ?_;rintro e w4 Q;cases hp:jv d with
 | error an =>
  obtain⟨a,k⟩:=an;unfold Qm at Q;rw[hp]at Q;obtain⟨b4,u,rfl,hf⟩:=Q;have bg:=jnS (av.out.trans (b4.mono av.out.size))
  have s:=jnS (jb aw.out b4 aw.out.lt);obtain⟨aG,I⟩:=jhO s.out (.int .i64 0) (.string ⟨#[]⟩) (.slice none 0 0) (.slice none 0 0) (.string ⟨#[]⟩);have HF:Hid (jz w.heap.size (((((w4.setCell ⟨w.heap.size,0,none⟩ (.int .i64 0)).setCell ⟨w.heap.size,1,none⟩ (.string ⟨#[]⟩)).setCell ⟨w.heap.size,2,none⟩ (.slice none 0 0)).setCell ⟨w.heap.size,3,none⟩ (.slice none 0 0)).setCell ⟨w.heap.size,4,none⟩ (.string ⟨#[]⟩)) u a k):=by obtain⟨q,h0,h1,h2⟩:=hf;exact⟨q,by omega,h1,h2.only I (fun e=>by omega)⟩
  have bZ:=jnS (bg.out.trans (I.to_below bg.out.size (fun r hr e=>by omega)));have bw:=jnS aG
  obtain⟨q,_,rfl,_⟩:=hf;have c0:=s.out.cell 0
  have c1:=s.out.cell 1;have c2:=s.out.cell 2
  have c3:=s.out.cell 3;have c4:=s.out.cell 4
  have f0:=s.out.frozen 0;have f1:=s.out.frozen 1
  have f2:=s.out.frozen 2;have f3:=s.out.frozen 3
  have f4:=s.out.frozen 4;simp only[jn0,jnZ,jnX]at c0 c1 c2 c3 c4;have HP:=jnS hp
  clear b4 aG I PA hp;go_wp2_with fail;refine bodyPost_ret (Kw rfl _ _ w.heap.size _ rfl bw.out rfl) rfl ?_;exact⟨bZ.out,.inl ⟨a,k,_,by rw[p,g];exact HP.out,rfl,HF.out⟩⟩
 | ok ak =>
 unfold Qm at Q;rw[hp]at Q;obtain⟨b4,u,rfl,_⟩:=Q;have cL:=av.out.trans (b4.mono av.out.size)
 have cI:=jb aw.out b4 aw.out.lt;have cJ:=jb bm.out b4 bm.out.lt
 have HP:=jnS hp;have bo:=jnS ai
 clear PA b4 hp;go_wp2_with fail;go_loopw [9] (fun _ wr=>∃(c:List (List UInt8)) (r:List UInt8) (bv ev:Value) (us:List Value),je5 Dc (t.drop (hl n+d.length)) c r/\jd wr y.heap.size 28 #[.int .i64 (n:Int),.string (B d),bv,ev,.string ⟨#[]⟩]/\XR w.heap.size wr bv c us/\wr.ownsRow w.heap.size 3 1 ev c.length ((qi (hl n+d.length) c).map jjl)/\jd wr w.heap.size 28 #[.int .i64 0,.string ⟨#[]⟩,.slice none 0 0,.slice none 0 0,.string ⟨#[]⟩]/\Below w.heap.size w wr) (fun _ wr=>t.length+1-jiC wr y.heap.size)
 case atStart=>exact⟨[],_,_,_,[],⟨rfl,fun b h=>by cases h⟩,cJ,XR.nil _ _,⟨rfl,.inl ⟨rfl,rfl⟩⟩,cI,cL⟩
 case round =>
 obtain⟨c,r,bv,ev,us,hR,hK,aC,aD,hC,hb⟩:=hrel;obtain⟨ba,bc,rfl,_⟩:=je aC.row;obtain⟨X,ec,rfl,_⟩:=je aD;have aU:=jaY hR
 rw[jn6]at aU;have dh:=XH c
 have cN:d.length+hl n<=t.length:=by rw[jn6]at cM;omega
 have aR:zd n d c=hl n+d.length+(c.flatMap Fr.fullR).length:=rfl;have de:zd n d c<=t.length:=by omega
 have ah:t.drop (zd n d c)=r:=by rw[aR,Qc,hR.eq,jph]
 have EX:Hid ((B t).extract (zd n d c) t.length=B r):=by show _=_;rw[<- cR,Fr.ext_drop,ah]
 have aV:r.length<=700000:=by omega
 have aW:yq w.heap.size wr (Vb n d (.slice ba c.length bc) (.slice X c.length ec) []) n d c []:=⟨_,_,us,rfl,aC,aD⟩
 have WH:=jnS (GT aW (by omega) (TB.out wr hb));have k0:=hK.cell 0
 have k1:=hK.cell 1;have k2:=hK.cell 2
 have k3:=hK.cell 3;have k4:=hK.cell 4
 simp only[jn0,jnZ,jnX]at k0 k1 k2 k3 k4;have HR:=jnS hR
 have HK:=jnS hK;have c7:=jnS aC
 have c8:=jnS aD;have HC:=jnS hC
 have HB:=jnS hb;have bB:=jnS aR
 have bz:=jnS aU;unfold Vb at WH;clear hR aC aD hC hb aU ah aR aW;generalize dp:zd n d c=W at *
 go_wp2_with fail;refine WH.out.mono ?_;rintro e w5 ⟨rfl,b5⟩;have aL:=jnS (HB.out.trans (b5.mono HB.out.size))
 have FR:=jnS (Fr.read_any r aV w5 (TB.out w5 aL.out).nums);have aI:=jnS b5
 clear WH b5 k0 k1 k2 k3 k4 hK;go_wp2_with fail;rw[EX.out];refine FR.out.mono ?_;rintro e w6 ⟨kk,Z,mm,aT,rfl,b6⟩;have v:=jnS (aL.out.trans (b6.mono aL.out.size))
 have au:=jnS (aI.out.trans (b6.mono aI.out.size));have U:=jb HK.out au.out HK.out.lt
 have C6:=jb HC.out au.out HC.out.lt;have T6:=c7.out.below au.out
 have E6:=jO c8.out au.out (jnT _);clear FR b6 aI;unfold Fr.readV;rcases aT with ⟨R,rfl,rfl⟩|⟨bT,rfl,rfl,rfl⟩|⟨bQ,bR,rfl,rfl,rfl⟩
 ·
  have dr:=Fr.good_iff.1 R.1;have DE:=jnS (Wq Z (by unfold maxLen;omega) w6 (TB.out w6 v.out).tabs)
  have dq:(Fr.fullR Z).length<=r.length:=by obtain⟨_,m,e⟩:=R;rw[e,jnU];omega
  go_wp2_with fail;refine DE.out.mono ?_;rintro e l ⟨V,h7⟩;have G:=jnS (v.out.trans (V.mono v.out.size))
  have C:=jb U V U.lt;have f:=jb C6 V C6.lt
  have T7:=T6.below V;have E7:=jO E6 V (jnT _)
  clear DE U C6 T6 E6;rcases h7 with ⟨hd,rfl⟩|⟨aB,u7,bF,hd,rfl,hO⟩
  ·have FB:Hid (jjR Dc r):=.inr ⟨Z,R,by unfold Dc;rw[hd];rfl⟩;clear R hd T7 E7 V;have a7:=f.cell 0
   have a8:=f.cell 1;have aa:=f.cell 2
   have ae:=f.cell 3;have af:=f.cell 4
   have bG:=f.frozen 0;have bH:=f.frozen 1
   have bI:=f.frozen 2;have bJ:=f.frozen 3
   have bK:=f.frozen 4;have am:=C.cell 2
   simp only[jn0,jnZ,jnX]at a7 a8 aa ae af am;have cr:∀o,(l.alloc o).cell? ⟨w.heap.size,0,none⟩=_:=fun o=>((f.alloc o).cell 0).trans rfl
   have ct:∀o,(l.alloc o).cell? ⟨w.heap.size,1,none⟩=_:=fun o=>((f.alloc o).cell 1).trans rfl;have cu:∀o,(l.alloc o).cell? ⟨w.heap.size,2,none⟩=_:=fun o=>((f.alloc o).cell 2).trans rfl
   have cw:∀o,(l.alloc o).cell? ⟨w.heap.size,3,none⟩=_:=fun o=>((f.alloc o).cell 3).trans rfl;have cy:∀o,(l.alloc o).cell? ⟨w.heap.size,4,none⟩=_:=fun o=>((f.alloc o).cell 4).trans rfl
   have cA:∀o,(l.alloc o).frozen? ⟨w.heap.size,0,none⟩=false:=fun o=>(f.alloc o).frozen 0;have cB:∀o,(l.alloc o).frozen? ⟨w.heap.size,1,none⟩=false:=fun o=>(f.alloc o).frozen 1
   have cC:∀o,(l.alloc o).frozen? ⟨w.heap.size,2,none⟩=false:=fun o=>(f.alloc o).frozen 2;have cD:∀o,(l.alloc o).frozen? ⟨w.heap.size,3,none⟩=false:=fun o=>(f.alloc o).frozen 3
   have cE:∀o,(l.alloc o).frozen? ⟨w.heap.size,4,none⟩=false:=fun o=>(f.alloc o).frozen 4;have CA:=jnS (jdD G.out f c.length)
   have CB:=jnS (jdC G.out f c.length);clear C f;go_wp2_with fail;go_region
   all_goals go_wp2_with fail
   ·refine bodyPost_ret (Kw rfl _ _ w.heap.size _ rfl CA.out.2.1 rfl) rfl ?_;exact⟨CA.out.1,.inr (.inl ⟨ak,c,r,_,by rw[p,g];exact HP.out,by rw[p,g];exact HR.out,FB.out,rfl,CA.out.2.2⟩)⟩
   refine bodyPost_ret (Kw rfl _ _ w.heap.size _ rfl CB.out.2.1 rfl) rfl ?_;exact⟨CB.out.1,.inr (.inl ⟨ak,c,r,_,by rw[p,g];exact HP.out,by rw[p,g];exact HR.out,FB.out,rfl,CB.out.2.2⟩)⟩
  have bM:yn w.heap.size l u7 (yS Z) bF:=by
   have:yS Z=aB:=by unfold yS;rw[hd];rfl
   rw[this];exact⟨jE hO.row v.out.size,hO.len,fun i ed fv h1 h2=>jE (hO.each i ed fv h1 h2) v.out.size⟩
  have bL:Dc Z=true:=by unfold Dc;rw[hd];rfl
  obtain⟨ua,uc,rfl,_⟩:=je hO.row;have RS:=jnS (HR.out.snoc R bL)
  have ES:Hid ((qi (hl n+d.length) (c++[Z])).map jjl=(qi (hl n+d.length) c).map jjl++[Value.int .i64 ((W:Int)+((Fr.fullR Z).length:Int))]):=by show _=_;rw[vT,joB,<- bB.out];simp[jjl]
  have HO:=jnS bM;have H:=jnS T7
  have aK:=jnS E7;have aP:=jnS C
  have aJ:=jnS f;have N1:∀(J:World) (T:TypeId) (x:Value),Hid (∀(j:Nat) (u:Value),[x][j]?=some u->(J.alloc (.cells #[x] T)).cell? ((⟨J.heap.size,0,none⟩:Addr).add j)=some u):=fun J T x j u h=>by
   have X:(⟨J.heap.size,0,none⟩:Addr).add j=⟨J.heap.size,j,none⟩:=by unfold Addr.add;split<;>simp_all
   rw[X,(jd.new J T #[x]).cell j];simpa using h
  have cl:∀(J:World) (b:Nat) (T:TypeId) (x:Value),J.heap.size=b->Hid (∀(j:Nat) (u:Value),[x][j]?=some u->(J.alloc (.cells #[x] T)).cell? ((⟨b,0,none⟩:Addr).add j)=some u):=fun J b T x hb j u h=>by rw[<- hb];exact(N1 J T x).out j u h
  have k2:=C.cell 2;have f2:=C.frozen 2
  simp only[jn0,jnZ,jnX]at k2;have bP:w.heap.size<=l.heap.size:=G.out.size
  have du:y.heap.size<l.heap.size:=C.lt;have df:c.length+(Fr.fullR Z).length<=t.length:=by have:=bz.out;omega
  clear R hd hO bM bL T7 E7 C f V;generalize hm:(Fr.fullR Z).length=m at *
  have dC:IntKind.i64.wrap ((W:Int)+(m:Int))=(W:Int)+(m:Int):=jos _ (by have:=bz.out;have:=bB.out;omega);go_wp2_with (at_builtin;refine ju rfl _ _ 22 rfl w.heap.size 55 i2 _ 1 24 underlying22 cP cF cG cH rfl (by decide) _ _ _ rfl (H.out.row.alloc _) _ 1 1 [.slice ua aB.length uc] rfl rfl (N1 _ _ _).out (by intro u hu;simp at hu;subst hu;rfl) (by unfold maxLen;omega) (by omega) (by simp only[joe];omega) ?_);intro dl W8 ar ag cp;have bN:Below l.heap.size l (l.alloc (.cells #[.slice ua aB.length uc] 55)):=(jnV _ _).alloc (jnT _) _
  have Y:jI (fun r=>(Value.slice ba c.length bc).ownBlock=some r) l W8:=(jI.of_below (S:=fun r=>(Value.slice ba c.length bc).ownBlock=some r) bN (jnT _)).grown ag (fun r e=>.inl e);have T8:=H.out.snoc HO.out ar Y
  have E8:=jK aK.out Y (fun b e q=>jX H.out.row aK.out (by decide) b q e);have K8:=aP.out.only Y (fun e=>jh H.out.row aP.out (by decide) e)
  have C8:=aJ.out.only Y (fun e=>jh H.out.row aJ.out (by decide) e);have B8:=G.out.trans (Y.to_below bP (fun r hr e=>by have:=(H.out.row.lt r e).1;omega))
  have dy:=Y.size;obtain⟨D,E,rfl,_⟩:=je ar;have K9:=K8.set 2 (.slice D (c.length+1) E)
  rw[show(#[Value.int .i64 (n:Int),.string (B d),.slice ba c.length bc,.slice X c.length ec,.string ⟨#[]⟩]:Array Value).setIfInBounds 2 (.slice D (c.length+1) E)=#[.int .i64 (n:Int),.string (B d),.slice D (c.length+1) E,.slice X c.length ec,.string ⟨#[]⟩] from rfl]at K9;have o9:jI (· = y.heap.size) W8 (W8.setCell ⟨y.heap.size,2,none⟩ (.slice D (c.length+1) E)):=(jI.refl (· = y.heap.size) W8).cellS 2 _
  have T9:=T8.box K8 (by decide) (by decide) (by decide) o9;have E9:=jK E8 o9 (fun b e q=>jh E8 K8 (by decide) (by rw[e,q]))
  have C9:=C8.only o9 (fun e=>by omega);have B9:=B8.trans (o9.to_below B8.size (fun r hr e=>by omega))
  have bV:=K8.cell 2;have cV:=K8.frozen 2
  have bU:=K9.cell 3;have cz:=K9.frozen 3
  simp only[jn0,jnZ,jnX]at bV bU;have bA:=jnS T9
  have O:=jnS E9;have aO:=jnS K9
  have aN:=jnS C9;have aM:=jnS B9
  have dA:=o9.size;have ci:Hid ((W8.setCell ⟨y.heap.size,2,none⟩ (.slice D (c.length+1) E)).heap.size=W8.heap.size):=by show _=_;simp[World.setCell]
  clear ar ag cp bN Y T8 E8 K8 C8 B8 K9 o9 T9 E9 C9 B9 H aK aP aJ HO k2 f2;go_wp2_with (at_builtin;refine ju rfl _ _ 23 rfl w.heap.size 3 i1 _ 1 8 underlying23 hi cS cT cQ rfl (by decide) _ _ _ rfl (O.out.alloc _) _ 1 1 [.int .i64 ((W:Int)+(m:Int))] rfl rfl (by first | exact(cl _ _ _ _ ci.out).out | exact(N1 _ _ _).out) (by intro u hu;simp at hu;subst hu;rfl) (by unfold maxLen;omega) (by omega) (by simp only[joe];omega) ?_);intro d9 ay A N bE;generalize dB:W8.setCell ⟨y.heap.size,2,none⟩ (.slice D (c.length+1) E)=W9 at *
  have aF:Below W9.heap.size W9 (W9.alloc (.cells #[.int .i64 ((W:Int)+(m:Int))] 3)):=(jnV _ _).alloc (jnT _) _;have ap:jI (fun r=>(Value.slice X c.length ec).ownBlock=some r) W9 ay:=(jI.of_below (S:=fun r=>(Value.slice X c.length ec).ownBlock=some r) aF (jnT _)).grown N (fun r e=>.inl e)
  have bC:=bA.out.beside O.out (by decide) (by decide) (by decide) ap;have P:=aO.out.only ap (fun e=>jh O.out aO.out (by decide) e)
  have aX:=aN.out.only ap (fun e=>jh O.out aN.out (by decide) e);have aH:=aM.out.trans (ap.to_below aM.out.size (fun r hr e=>by have:=(O.out.lt r e).1;omega))
  obtain⟨K,L,rfl,_⟩:=je A;have ax:=P.set 3 (.slice K (c.length+1) L)
  rw[show(#[Value.int .i64 (n:Int),.string (B d),.slice D (c.length+1) E,.slice X c.length ec,.string ⟨#[]⟩]:Array Value).setIfInBounds 3 (.slice K (c.length+1) L)=#[.int .i64 (n:Int),.string (B d),.slice D (c.length+1) E,.slice K (c.length+1) L,.string ⟨#[]⟩] from rfl]at ax;have aq:jI (· = y.heap.size) ay (ay.setCell ⟨y.heap.size,3,none⟩ (.slice K (c.length+1) L)):=(jI.refl (· = y.heap.size) ay).cellS 3 _
  have co:=jnS (bC.box P (by decide) (by decide) (by decide) aq);have bY:=jnS (jK A aq (fun b e q=>jh A P (by decide) (by rw[e,q])))
  have bX:=jnS (aX.only aq (fun e=>by omega));have bW:=jnS (aH.trans (aq.to_below aH.size (fun r hr e=>by omega)))
  have bu:=jnS ax;have cU:=P.cell 3
  have dD:=P.frozen 3;have l2:=ax.cell 2
  simp only[jn0,jnZ,jnX]at cU l2;have L2:=jnS l2
  have LW:=jnS (show jiC wr y.heap.size=c.length by unfold jiC;rw[HK.out.cell];rfl);clear A N bE aF ap bC P aX aH ax aq l2 bA O aO aN aM bV cV bU cz;go_wp2_with fail;go_roundw
  case rel=>exact⟨c++[Z],_,_,_,_,RS.out,bu.out,co.out,by rw[ES.out,jnU];exact bY.out,bX.out,bW.out⟩
  case measure =>
  have h1:=LW.out;rw[h1];unfold jiC;rw[L2.out];show t.length+1-(c.length+1)<t.length+1-c.length
  omega
 ·
  have C:=U.set 4 (.string (B r));rw[show(#[Value.int .i64 (n:Int),.string (B d),.slice ba c.length bc,.slice X c.length ec,.string ⟨#[]⟩]:Array Value).setIfInBounds 4 (.string (B r))=#[.int .i64 (n:Int),.string (B d),.slice ba c.length bc,.slice X c.length ec,.string (B r)] from rfl]at C;have o7:jI (· = y.heap.size) w6 (w6.setCell ⟨y.heap.size,4,none⟩ (.string (B r))):=(jI.refl (· = y.heap.size) w6).cellS 4 _
  have f:=C6.only o7 (fun e=>by omega);have T7:=T6.box U (by decide) (by decide) (by decide) o7
  have E7:=jK E6 o7 (fun b e q=>jh E6 U (by decide) (by rw[e,q]));obtain⟨P8,Y⟩:=jhO f (.int .i64 (n:Int)) (.string (B d)) (.slice ba c.length bc) (.slice X c.length ec) (.string (B r));have T8:=T7.box f (by decide) (by decide) (by decide) Y
  have E8:=jK E7 Y (fun b e q=>jh E7 f (by decide) (by rw[e,q]));have cd:=jnS P8
  have B7:=v.out.trans (o7.to_below v.out.size (fun r hr e=>by omega));have B8:=jnS (B7.trans (Y.to_below B7.size (fun r hr e=>by omega)))
  have BR:=jnS (show yq w.heap.size _ (Vb n d (.slice ba c.length bc) (.slice X c.length ec) r) n d c r from⟨_,_,us,rfl,T8,E8⟩);have cm:=jnS (show vH Dc t n d c r from⟨bo.out,⟨ak,HP.out⟩,g,HR.out,bT⟩)
  have dm:=U.frozen 4;have cW:=U.cell 4
  have a7:=f.cell 0;have a8:=f.cell 1
  have aa:=f.cell 2;have ae:=f.cell 3
  have af:=f.cell 4;have bG:=f.frozen 0
  have bH:=f.frozen 1;have bI:=f.frozen 2
  have bJ:=f.frozen 3;have bK:=f.frozen 4
  have cX:=C.cell 0;have cY:=C.cell 1
  have am:=C.cell 2;have cZ:=C.cell 3
  have d8:=C.cell 4;simp only[jn0,jnZ,jnX]at cW a7 a8 aa ae af cX cY am cZ d8;clear U C6 T6 E6 C o7 f T7 E7 P8 Y T8 E8 B7 bT;go_upto_region 12 with fail;rw[EX.out];go_wp2_with fail;refine bodyPost_ret (Kw rfl _ _ w.heap.size _ rfl cd.out rfl) rfl ?_;exact⟨B8.out,.inr (.inr ⟨d,c,r,_,by rw[p];exact cm.out,rfl,by rw[p];exact BR.out⟩)⟩
 ·
  have DE:=jnS (Wq [] (by decide) w6 (TB.out w6 v.out).tabs);have FB:Hid (jjR Dc r):=.inl ⟨bQ,bR⟩
  have DN:=jnS jhc;clear bQ bR;go_wp2_with fail;refine DE.out.mono ?_;rintro e l ⟨V,h7⟩;have G:=jnS (v.out.trans (V.mono v.out.size))
  have C:=jb U V U.lt;have f:=jb C6 V C6.lt
  clear DE U C6 T6 E6 V;rcases h7 with ⟨hd,rfl⟩|⟨aB,u7,bF,hd,_⟩
  rotate_left
  ·rw[DN.out]at hd;cases hd
  have a7:=f.cell 0;have a8:=f.cell 1
  have aa:=f.cell 2;have ae:=f.cell 3
  have af:=f.cell 4;have bG:=f.frozen 0
  have bH:=f.frozen 1;have bI:=f.frozen 2
  have bJ:=f.frozen 3;have bK:=f.frozen 4
  have am:=C.cell 2;simp only[jn0,jnZ,jnX]at a7 a8 aa ae af am;have cr:∀o,(l.alloc o).cell? ⟨w.heap.size,0,none⟩=_:=fun o=>((f.alloc o).cell 0).trans rfl
  have ct:∀o,(l.alloc o).cell? ⟨w.heap.size,1,none⟩=_:=fun o=>((f.alloc o).cell 1).trans rfl;have cu:∀o,(l.alloc o).cell? ⟨w.heap.size,2,none⟩=_:=fun o=>((f.alloc o).cell 2).trans rfl
  have cw:∀o,(l.alloc o).cell? ⟨w.heap.size,3,none⟩=_:=fun o=>((f.alloc o).cell 3).trans rfl;have cy:∀o,(l.alloc o).cell? ⟨w.heap.size,4,none⟩=_:=fun o=>((f.alloc o).cell 4).trans rfl
  have cA:∀o,(l.alloc o).frozen? ⟨w.heap.size,0,none⟩=false:=fun o=>(f.alloc o).frozen 0;have cB:∀o,(l.alloc o).frozen? ⟨w.heap.size,1,none⟩=false:=fun o=>(f.alloc o).frozen 1
  have cC:∀o,(l.alloc o).frozen? ⟨w.heap.size,2,none⟩=false:=fun o=>(f.alloc o).frozen 2;have cD:∀o,(l.alloc o).frozen? ⟨w.heap.size,3,none⟩=false:=fun o=>(f.alloc o).frozen 3
  have cE:∀o,(l.alloc o).frozen? ⟨w.heap.size,4,none⟩=false:=fun o=>(f.alloc o).frozen 4;have CA:=jnS (jdD G.out f c.length)
  have CB:=jnS (jdC G.out f c.length);clear C f;go_wp2_with fail;go_region
  all_goals go_wp2_with fail
  ·refine bodyPost_ret (Kw rfl _ _ w.heap.size _ rfl CA.out.2.1 rfl) rfl ?_;exact⟨CA.out.1,.inr (.inl ⟨ak,c,r,_,by rw[p,g];exact HP.out,by rw[p,g];exact HR.out,FB.out,rfl,CA.out.2.2⟩)⟩
  refine bodyPost_ret (Kw rfl _ _ w.heap.size _ rfl CB.out.2.1 rfl) rfl ?_;exact⟨CB.out.1,.inr (.inl ⟨ak,c,r,_,by rw[p,g];exact HP.out,by rw[p,g];exact HR.out,FB.out,rfl,CB.out.2.2⟩)⟩
end Bk
section
attribute [local go_sem] jn9
def Szs(w:World)(v:Value)(rs:List Stz):Prop :=
 ∃A cap,v=.slice A rs.length cap/\rs.length<=cap/\∀(i:Nat) (s:Stz),rs[i]?=some s->∃b off fv,A=some ⟨b,off,none⟩/\b<w.heap.size/\w.cell? ⟨b,off+i*2,none⟩=some (.int .i64 s.1)/\w.cell? ⟨b,off+i*2+1,none⟩=some fv/\vK w fv s.2
theorem jdP {w : World} {base : Nat} {v : Value} {rs : List Stz} {fvs : List Value} (h : w.ownsRow base 100 2 v rs.length (qK rs fvs)) (hl : fvs.length = rs.length) (he : ∀ (j : Nat) s x, rs[j]? = some s -> fvs[j]? = some x -> vK w x s.2) : Szs w v rs := by
  rcases joQ h with ⟨rfl, hn⟩ | ⟨g, cap, rfl⟩
  . have : rs = [] := List.length_eq_zero_iff.1 hn
    subst this
    exact ⟨none, 0, rfl, jnT _, fun i s h => by simp at h⟩
  refine ⟨_, cap, rfl, (by rcases h.2 with ⟨q, _⟩ | ⟨g', cap', cur, q, _, _, q2, _⟩; · cases q
                           cases q; exact q2), fun i s hi => ?_⟩
  have hlt : i < rs.length := (List.getElem?_eq_some_iff.1 hi).1
  obtain ⟨x, hx⟩ : ∃ x, fvs[i]? = some x := ⟨_, jnW (by omega)⟩
  obtain ⟨a0, a1⟩ := Yx rs fvs i s x hi hx
  exact ⟨g, 0, x, rfl, (joV h g rfl).2, by rw [jov, job h (i * 2) (by omega)]; exact a0, by rw [jov, job h (i * 2 + 1) (by omega)]; exact a1, he i s x hi hx⟩
structure jhR(w wr:World)(v:Value)(fvs:List Value)(rs:List Stz):Prop where
 row:wr.ownsRow w.heap.size 100 2 v rs.length (qK rs fvs)
 len:fvs.length=rs.length
 each:∀(j:Nat) s x,rs[j]?=some s->fvs[j]?=some x->vK w x s.2
 below:Below w.heap.size w wr
theorem jhR.szs{w wr:World}{v:Value}{fvs:List Value}{a:List Stz}(h:jhR w wr v fvs a):Szs wr v a :=
 jdP h.row h.len fun j s x b c=>(h.each j s x b c).below h.below (jnT _)
theorem jhR.kept{w wr w2:World}{v:Value}{fvs:List Value}{b:List Stz}(h:jhR w wr v fvs b)(a:Below wr.heap.size wr w2):jhR w w2 v fvs b :=
 ⟨zf h.row a (jnT _),h.len,h.each,h.below.trans (a.mono h.below.size)⟩
theorem jhR.snoc{w W f d:World}{v i x:Value}{fvs:List Value}{b:List Stz}{s:Stz}(h:jhR w W v fvs b)(hx:vK w x s.2)(n:d.ownsRow w.heap.size 100 2 i (b.length+1) (qK b fvs++[.int .i64 s.1,x]))(l:Below W.heap.size W f)(m:f.grownBy d v.ownBlock):jhR w d i (fvs++[x]) (b++[s]):=by
 have g:=h.kept l;refine⟨by rw[jnU,Zz _ _ _ _ h.len];exact n,by simp[h.len],fun j y z c a => ?_,g.below.grown m g.below.size (fun k e=>(h.row.lt k e).1)⟩;rcases jbH c with ⟨q,c⟩|⟨q,rfl⟩
 ·rw[joq (by rw[h.len];exact q)]at a;exact h.each j y z c a
 rw[q,<- h.len,joh (jnT _)]at a;simp at a;subst a;exact hx
theorem jiq{W j:World}{lo K n m:Nat}{t:TypeId}{i:Nat}{v e:Value}{xs k:List Value}(h:W.ownsRow lo t i v n xs)(g:j.ownsRow 0 t i e m k)(a:e.ownBlock=v.ownBlock\/e.ownBlock=some K)(o:lo<=K):j.ownsRow lo t i e m k:=by
 rcases g.2 with ⟨q,l⟩|⟨f,b,c,q,_,d⟩
 ·exact⟨g.1,.inl ⟨q,l⟩⟩
 refine⟨g.1,.inr ⟨f,b,c,q,?_,d⟩⟩;rcases a with a|a
 ·exact(h.lt f (by rw[<- a,q];rfl)).1
 rw[q]at a;have:f=K:=jnY a
 omega
def Gz(ps:List Pr):List Stz:=(ps.filter fun p=>decide (0<p.1.2)).map fun p=>(p.1.2,p.1.1.fields)
theorem jfv(b:List Pr)(k:Nat)(p:Pr)(h:b[k]?=some p):Gz (b.take (k+1))=Gz (b.take k)++if 0<p.1.2 then [(p.1.2,p.1.1.fields)] else []:=by
 unfold Gz;rw[jor,h,Option.toList_some,jo8,joB];congr 1;by_cases a:0<p.1.2
 ·rw[if_pos a,joP,if_pos (by simpa using a)];rfl
 rw[if_neg a,joP,if_neg (by simpa using a)];rfl
theorem jcL(a:List Pr):(Gz a).length<=a.length:=by unfold Gz;rw[joi];exact jqt _ _
theorem YD(b:List Pr)(v:Value)(K:Int)(w:World)(h:zN w v b)(a8:b.length<=10000):
  Calls prog 19 #[.agg #[v,.int .i64 K]] w fun e w'=>∃u d,e=.returned u/\jhR w w' u d (Gz b):=by
 obtain⟨i0,hi,V,W,X⟩:=info_parts jk9;have H:=jnS h
 obtain⟨A,l,rfl,a7⟩:=h.empty;have HB:=jnS ((jnV w.heap.size w).alloc (jnT _) (.cells #[.slice A b.length l,.int .i64 K] 37))
 have BX:=jnS (jd.new w 37 #[.slice A b.length l,.int .i64 K]);clear h;go_enter func19,ntmps19;go_wp2_with fail;go_loopw [3,4] (fun u i wr=>∃(k:Nat) (d:List Value),k<=b.length/\i=.int .i64 k/\jhR w wr u d (Gz (b.take k))/\jd wr w.heap.size 37 #[.slice A b.length l,.int .i64 K]) (fun _ i _=>b.length-(intOf i).toNat)
 case atStart=>exact⟨0,[],jn3 _,rfl,⟨⟨rfl,.inl ⟨rfl,rfl⟩⟩,rfl,(fun j it x h=>by simp[Gz]at h),HB.out⟩,BX.out⟩
 case round =>
 obtain⟨k,d,hk,rfl,a,c⟩:=hrel;have c0:wr.cell? ⟨w.heap.size,0,none⟩=some (.slice A b.length l):=c.cell 0
 by_cases r:k<b.length
 ·obtain⟨p,G⟩:∃p,b[k]?=some p:=⟨_,jnW r⟩
  have J:=a.below;have P:=H.out.below J (jnT _)
  obtain⟨g,z,Y,Z,e1,_,hg,O,d0,d1,d2,d3⟩:=P.here G;cases e1;have m:=H.out.each p (jn7 G)
  rw[O]at d2 m;have L:=jnS m
  have SN:=jnS (jfv b k p G);have U:=jcL (b.take k)
  rw[jn2]at U;have ae:=J.size
  by_cases R:0<p.1.2
  ·have n:=jnS a;have I:=a.row
   have HO:=jnS (jE a.row (jn3 _));obtain⟨ua,uc,rfl,_⟩:=je a.row;have o:=jnS c
   have N:=jnS (jh a.row c (by decide));clear a P m G c O d0 d1 J;generalize (Gz (b.take k))=rs at *
   go_wp2_with fail;go_region_law (refine jZ rfl (.tmp 19) (.tmp 34) 48 rfl 100 i0 _ 2 32 underlying48 hi V W X rfl (by decide) (.slice ua rs.length uc) rs.length (qK rs d) (by simp[Act.eval]) (by exact(HO.out.alloc _).drew) ⟨wr.heap.size,0,none⟩ 1 1 [.int .i64 p.1.2,.slice Y p.1.1.fields.length Z] (by simp[Act.eval]) rfl (jC wr 100 [.int .i64 p.1.2,.slice Y p.1.1.fields.length Z]) (by intro u hu;simp at hu;rcases hu with rfl | rfl<;>rfl) (by unfold maxLen;omega) (by omega) ?_;intro v' w3 Q f C;have t:=jnS (jiq I Q C (by simp;omega));have E:=jnS f;obtain⟨g',z,rfl⟩:=ownsRow_succ Q;clear Q f C)
   all_goals go_wp2_with fail
   all_goals
    have q:=n.out.snoc (s:=(p.1.2,p.1.1.fields)) L.out t.out (((jnV wr.heap.size wr).alloc (jnT _) _).drew) E.out;have D:=((o.out.alloc (.cells #[.int .i64 p.1.2,.slice Y p.1.1.fields.length Z] 100)).drew).grown E.out (fun e=>N.out e.symm)
    go_roundw
    case rel=>exact⟨k+1,_,r,by go_num,by rw[SN.out,if_pos R];exact q,D⟩
    case measure=>simp[intOf];omega
  have aa:decide (0<p.1.2)=false:=decide_eq_false R;have n:=jnS a
  have o:=jnS c;clear a P m G c O d0 d1 J;go_wp2_with fail;go_roundw
  case rel=>exact⟨k+1,_,r,by go_num,by rw[SN.out,if_neg R,jok];exact n.out,o.out⟩
  case measure=>simp[intOf];omega
 obtain rfl:k=b.length:=by omega
 rw[jom]at a;have y:=jnS a
 clear a c;go_wp2_with fail;go_ret;exact⟨_,d,rfl,y.out⟩
end
section
attribute [local go_sem] jn9
def Vz(rs:List Stz)(id:Int):Int:=match rs.findIdx? fun s=>s.1==id with | none => -1 | some k=>(k:Nat)
theorem WZ(f:List Pr)(v:Value)(C id:Int)(w:World)(h:zN w v f)(y:f.length<=10000):
  Calls prog 61 #[.agg #[v,.int .i64 C],.int .i64 id] w fun e w'=>e=.returned (.int .i64 (Vz (Gz f) id))/\Below w.heap.size w w':=by
 obtain⟨A,q,rfl,U⟩:=h.empty;have r:=(jnV w.heap.size w).alloc (jnT _) (.cells #[.slice A f.length q,.int .i64 C] 37)
 have E:=jnS (YD f _ C _ (h.below r (jnT _)) y);have I:=jnS r
 clear h r;go_enter func61,ntmps61;go_wp2_with fail;refine E.out.mono ?_;rintro e w1 ⟨u,O,rfl,c⟩;have m:=jnS (I.out.trans (c.below.mono (by simp)))
 have Y:=jcL f;obtain⟨ua,uc,rfl,_⟩:=je c.row;have K:=jnS c.szs
 generalize o:Gz f=a at *
 have l:=jnS o;clear c E o;go_wp2_with fail;go_loopw [6] (fun i W=>∃k:Nat,k<=a.length/\i=.int .i64 k/\(∀s∈a.take k,s.1≠id)/\W=w1) (fun i _=>a.length-(intOf i).toNat)
 case atStart=>exact⟨0,jn3 _,rfl,(fun s h=>by simp at h),rfl⟩
 case round =>
 obtain⟨k,hk,rfl,H,rfl⟩:=hrel;have p:=jnS H
 clear H;by_cases d:k<a.length
 ·obtain⟨s,z⟩:∃s,a[k]?=some s:=⟨_,jnW d⟩
  obtain⟨_,_,N,_,G⟩:=K.out;cases N;obtain⟨b,Z,fv,rfl,P,L,c1,Q⟩:=G k s z;obtain⟨fa,fc,rfl,_,_⟩:=Q;have D:=jnS z
  clear z G;by_cases g:s.1=id
  ·rw[g]at L;have t:Hid (s.1=id):=g
   clear g;go_wp2_with fail;go_ret;refine⟨?_,m.out⟩;have:(a.findIdx? fun s=>s.1==id)=some k:=by
    refine List.findIdx?_eq_some_iff_getElem.2 ⟨d,?_,fun j R => ?_⟩
    ·have:a[k]=s:=(List.getElem?_eq_some_iff.1 D.out).2;rw[this];simpa using t.out
    have V:a[j]∈a.take k:=by refine jn7 (i:=j) ?_;rw[joH,if_pos R,jnW (by omega)]
    simpa using p.out _ V
   unfold Vz;rw[l.out,this];rfl
  have X:((s.1:Int)==id)=false:=beq_eq_false_iff_ne.2 g;have J:=jnS g
  clear g;go_wp2_with fail;go_roundw
  case rel =>
   refine⟨k+1,d,by go_num,fun x hx => ?_,by first | rfl | trivial⟩;rw[jor,D.out]at hx;rcases List.mem_append.1 hx with hx|hx
   ·exact p.out x hx
   simp at hx;rw[hx];exact J.out
  case measure=>simp[intOf];omega
 obtain rfl:k=a.length:=by omega
 have n:Hid (Vz a id = -1):=by
  show Vz a id = -1;have:=p.out
  rw[jom]at this;unfold Vz;rw[List.findIdx?_eq_none_iff.2 (fun x hx=>by simpa using this x hx)]
 go_wp2_with fail;go_ret;exact⟨by rw[l.out,n.out];rfl,m.out⟩
section
variable {w:World} {lb:Nat} {ev v:Value} {ps qs:List Pr} {nx:Int}
end
end
section
attribute [local go_sem] jn9
theorem zS.plen{S0:Nat}{w:World}{lb:Nat}{b:Value}{a:List Pr}{l:LS}{m:Nat}(h:zS S0 w lb b a l m):a.length<=m:=by have:=h.len;rw[<- h.es,joi]at this;exact this
end
namespace Bk
attribute [local go_sem] jn9
theorem Vd(t:List UInt8)(n:Nat):(vi (t.drop n)).length<=t.length:=by
 have a:=Qi (t.drop n);have b:=jdA (t.drop n)
 have c:(t.drop n).length<=t.length:=by rw[jn6];omega
 omega
theorem jhs{w w2:World}{n:Nat}{base a:List UInt8}{b e:Option Addr}{d c g f:Nat}(h:w.alloc (.cells #[.int .i64 (n:Int),.string (B base),.slice b d c,.slice e g f,.string (B a)] 28)=w2):
  Below w.heap.size w w2/\jd w2 w.heap.size 28 #[.int .i64 (n:Int),.string (B base),.slice b d c,.slice e g f,.string (B a)]:=by
 rw[<- h];exact⟨(jnV _ _).alloc (jnT _) _,jd.new _ _ _⟩
theorem jnc(l:List UInt8):((B l).toList==(B l).toList)=true:=by simp
end Bk
section
open Go.Maps Go.ChangeShapes Go.Joins Go.WideShapes
end
theorem je0{eds:List Ed}(h:∀a∈eds,zG a=0):∀l∈zl eds,∃r,l=32::r:=by
 intro l hl;obtain⟨a,c,b⟩:=List.mem_flatMap.1 hl;rcases List.mem_cons.1 b with rfl|b
 ·unfold zg;rw[if_pos (yO (h a c))];exact⟨_,rfl⟩
 obtain⟨x,_,rfl⟩:=List.mem_map.1 b;exact⟨_,rfl⟩
theorem Kp(l:List UInt8)(r:List (List UInt8)):jp (l::r)=l++10::jp r:=by unfold jp;simp
theorem jfr(ls:List (List UInt8))(a:ls≠[]):(jp ls)[(jp ls).length-1]?=some 10:=by rw[<- jpU];rw[<- List.dropLast_concat_getLast a];unfold jp;simp
end Go.Proofs.YtbapfpekklcicaaGreatDoor
