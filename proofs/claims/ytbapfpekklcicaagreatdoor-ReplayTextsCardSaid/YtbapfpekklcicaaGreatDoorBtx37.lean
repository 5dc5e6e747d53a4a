/- Texts put together:GJ,GM,SJ. -/
import Derived.Test.YtbapfpekklcicaaGreatDoorBtx36
set_option linter.unusedVariables false
set_option maxRecDepth 100000
set_option maxHeartbeats 16000000
namespace Go.Proofs.YtbapfpekklcicaaGreatDoor
open Go.RowKit Go.Shelf Tryz
namespace Rp
open Bk
attribute [local go_sem] joY
def jae(w w':World)(s:List UInt8)(bs:List (List Ed))(p u:Value):Prop:=Below w.heap.size w w' /\
  ((∃a n,jD s=.error (a,n)/\p=.pointer none/\jB w.heap.size w' u a n) \/
   (∃its i,jD s=.ok its/\qJ (zF its) bs i/\p=.pointer none/\jB w.heap.size w' u i 10) \/
   (∃its k lb ev ps,jD s=.ok its/\qA (zF its) bs=some k/\p=ptr lb/\u=.nilIface/\zM w.heap.size w' lb ev ps k (s.length+xS bs)))
theorem jby{lo a:Nat}{w:World}{lb:Nat}{c:Value}{d:List Pr}{l:LS}{m:Nat}(h:zM lo w lb c d l m)(hl:a<=lo):zM a w lb c d l m :=
 ⟨h.la,h.es,h.ok,h.sz,jpg hl h.lb0,fun b e=>jpg hl (h.ev0 b e),h.len,h.nx⟩
theorem jae.low{w o w':World}{s:List UInt8}{l:List (List Ed)}{p u:Value}(h:jae o w' s l p u)(m:Below w.heap.size w o):jae w w' s l p u:=by
 obtain⟨b,h⟩:=h;have g:=m.size
 refine⟨m.trans (b.mono g),?_⟩;rcases h with ⟨a,n,d,e,f⟩|⟨c,i,d,e,f,j⟩|⟨c,k,t,q,v,d,e,f,j,r⟩
 ·exact .inl ⟨a,n,d,e,f.mono g⟩
 ·exact .inr (.inl ⟨c,i,d,e,f,j.mono g⟩)
 exact .inr (.inr ⟨c,k,t,q,v,d,e,f,j,jby r g⟩)
theorem jae.form{w w':World}{s:List UInt8}{c:List (List Ed)}{p u:Value}(h:jae w w' s c p u):(∃q:Option Addr,p=.pointer q)/\(u=.nilIface\/∃q,u=.iface 87 (.pointer (some ⟨q,0,none⟩))):=by
 obtain⟨_,⟨a,n,_,rfl,q,_,rfl,_⟩|⟨b,i,_,_,rfl,q,_,rfl,_⟩|⟨b,k,e,d,f,_,_,rfl,rfl,_⟩⟩:=h
 ·exact⟨⟨_,rfl⟩,.inr ⟨q,rfl⟩⟩
 ·exact⟨⟨_,rfl⟩,.inr ⟨q,rfl⟩⟩
 exact⟨⟨_,rfl⟩,.inl rfl⟩
theorem jd7.beh{w w':World}{s:List UInt8}{j:List (List Ed)}{e:Ending}(h:jd7 w w' s j e):∃(p:Value) (n:Int) (a:Option Addr) (m c:Nat) (u:Value),e=.returned (.tuple #[.agg #[p,.int .i64 n,.slice a m c],u])/\jae w w' s j p u:=by
 obtain⟨b,⟨a,n,u,f,rfl,o⟩|⟨d,i,u,f,g,rfl,q⟩|⟨d,k,v,l,x,A,C,f,g,rfl,r,t⟩⟩:=h
 ·exact⟨_,_,_,_,_,_,rfl,b,.inl ⟨a,n,f,rfl,o⟩⟩
 ·exact⟨_,_,_,_,_,_,rfl,b,.inr (.inl ⟨d,i,f,g,rfl,q⟩)⟩
 obtain⟨y,z,rfl,_⟩:=je t.row;exact⟨_,_,_,_,_,_,rfl,b,.inr (.inr ⟨d,k,v,l,x,f,g,rfl,rfl,r⟩)⟩
theorem jae.only{w K w' j:World}{s:List UInt8}{J:List (List Ed)}{p u:Value}{b:Nat}{T:TypeId}{l:Array Value}(h:jae K w' s J p u)(o:jH (· = b) w' j)(t:ja w' b T l)(Q:∀x∈l,∀s,x ≠ .string s)(N:T≠90)(C:T≠98)(D:109≠T)(O:Below w.heap.size w K)(W:w.heap.size<=b):jae w j s J p u:=by
 obtain⟨I,h⟩:=h.low O;refine⟨I.trans (o.to_below I.size (fun r V e=>by omega)),?_⟩;have H:∀{a n:Nat},jB w.heap.size w' u a n->jB w.heap.size j u a n:=fun P=>by
  obtain⟨q,d,f,c⟩:=P;refine⟨q,d,f,c.only o (fun e => ?_)⟩;subst e;have v:=t.symm.trans c
  injection v with y;injection y with _ z;exact N z
 rcases h with ⟨a,n,d,f,c⟩|⟨g,i,d,f,c,A⟩|⟨g,k,R,L,U,d,f,c,A,m⟩
 ·exact .inl ⟨a,n,d,f,H c⟩
 ·exact .inr (.inl ⟨g,i,d,f,c,H A⟩)
 refine .inr (.inr ⟨g,k,R,L,U,d,f,c,A,m.only o ?_⟩);rintro r (rfl|h|h|⟨p,G,E,h⟩|⟨p,G,_⟩) e
 ·subst e;have v:=t.symm.trans m.la.lr.head
  injection v with y;injection y with _ z;exact C z
 ·exact jh m.la.lr.ents.row t D (by rw[h,e])
 ·cases h
 ·exact XE (m.la.lr.ents.each p G).1 E (by rw[h,e]) t Q
 cases G
theorem jae.grow{w w' g:World}{s:List UInt8}{o:List (List Ed)}{p u:Value}(h:jae w w' s o p u)(l:Below w'.heap.size w' g):jae w g s o p u:=by
 obtain⟨b,h⟩:=h;have m:∀{a n:Nat},jB w.heap.size w' u a n->jB w.heap.size g u a n:=fun v=>by obtain⟨q,d,e,c⟩:=v;exact⟨q,d,e,jb c l c.lt⟩
 refine⟨b.trans (l.mono b.size),?_⟩;rcases h with ⟨a,n,d,e,c⟩|⟨f,i,d,e,c,j⟩|⟨f,k,x,r,y,d,e,c,j,t⟩
 ·exact .inl ⟨a,n,d,e,m c⟩
 ·exact .inr (.inl ⟨f,i,d,e,c,m j⟩)
 exact .inr (.inr ⟨f,k,x,r,y,d,e,c,j,t.below l (joJ _)⟩)
theorem joA{w a W d:World}{s:List UInt8}{b:List (List Ed)}{p u:Value}{o:Obj}(c:Below w.heap.size w a)(e:Below a.heap.size a W)(h:jae W d s b p u):jae w (d.alloc o) s b p u :=
 (h.low (c.trans (e.mono c.size))).grow ((joL _ _).alloc (joJ _) _)
theorem jor{w a W b:World}{s:List UInt8}{d:List (List Ed)}{p u i v:Value}(c:Below w.heap.size w a)(j:Below a.heap.size a W)(h:jae W b s d p u)(e:ja b a.heap.size 83 #[.pointer none,.int .i64 0,.slice none 0 0]):
  jae w (((b.setCell ⟨a.heap.size,0,none⟩ p).setCell ⟨a.heap.size,1,none⟩ i).setCell ⟨a.heap.size,2,none⟩ v) s d p u/\ja (((b.setCell ⟨a.heap.size,0,none⟩ p).setCell ⟨a.heap.size,1,none⟩ i).setCell ⟨a.heap.size,2,none⟩ v) a.heap.size 83 #[p,i,v]:=by
 obtain⟨f,g⟩:=jnJ e p i v;exact⟨h.only g e (by intro x hx s;simp at hx;rcases hx with rfl | rfl | rfl<;>exact fun h=>by cases h) (by decide) (by decide) (by decide) (c.trans (j.mono c.size)) c.size,f⟩
theorem Vh(k:Int)(s:List UInt8)(a:List (List Ed))(A:Option Addr)(c:Nat)(E:Option Addr)(H G:Nat)(L:ByteArray)(n:Nat)(hn:n<=a.length)(w:World)(hs:s.length+xS a<=5000)(hl:a.length<=100000)(J:BtV w (.slice A a.length c) a)(U:jiq a)(X:ErrT w):
  Calls prog 21 #[Yb k s A a.length c E H G L,.int .i64 (n:Nat)] w fun e N=>∃p u,e=.returned (.tuple #[p,u])/\jae w N s (a.take n) p u:=by
 obtain⟨f,g⟩:∃z,w.alloc (.cells #[.int .i64 k,.string (B s),.slice A a.length c,.slice E H G,.string L] 28)=z:=⟨_,rfl⟩
 have y:Below w.heap.size w f:=by rw[<- g];exact(joL _ w).alloc (joJ _) _
 have t:ja f w.heap.size 28 #[.int .i64 k,.string (B s),.slice A a.length c,.slice E H G,.string L]:=by rw[<- g];exact ja.new _ _ _
 have V:a.length<=c:=by obtain⟨_,_,e',hc,_⟩:=J;injection e' with _ _ e3;omega
 have I:=YG a n;have Q:Hid (∀W,Below f.heap.size f W->Calls prog 37 #[.string (B s),.slice A n c] W fun e N=>jd7 W N s (a.take n) e):=fun W hW=>by have b:=y.trans (hW.mono y.size);exact UU s (a.take n) _ W (by omega) (by rw[joS];omega) (BtV.take (J.below b (joJ _)) hn) (U.take n) (X.below b (joJ _))
 have d1:decide (((a.length:Nat):Int)<(n:Int))=false:=by simp;omega
 have q1:¬((n:Int)<0):=by omega
 have q2:¬((a.length:Int)<(n:Int)):=by omega
 have q3:(n:Int)<=(c:Int):=by omega
 have k1:=t.cell 1;have k2:=t.cell 2
 simp only[joQ,joP,joO]at k1 k2;have j:=joI y
 have D:=joI g;have m:=joI t
 clear J U X y t g I;unfold Yb;go_enter func21,ntmps21;go_upto_region 3 with fail;rw[D.out];have O:Hid (Below f.heap.size f f.drew):=(joL _ _).drew
 have C:Hid (Below f.heap.size f (f.alloc (.cells #[.pointer none,.int .i64 0,.slice none 0 0] 83)).drew):=((joL _ _).alloc (joJ _) _).drew;have l:=joI (show ja (f.alloc (.cells #[.pointer none,.int .i64 0,.slice none 0 0] 83)).drew f.heap.size 83 #[.pointer none,.int .i64 0,.slice none 0 0] from(ja.new _ _ _).drew)
 have a7:∀o,(f.alloc o).cell? ⟨w.heap.size,1,none⟩=some (.string (B s)):=fun o=>((m.out.alloc o).cell 1).trans rfl;have a8:∀o,(f.alloc o).cell? ⟨w.heap.size,2,none⟩=some (.slice A a.length c):=fun o=>((m.out.alloc o).cell 2).trans rfl
 go_cut [6,7] (fun c d Y=>∃K q i v,c=.pointer (some ⟨K,0,none⟩)/\jae w Y s (a.take n) (.pointer q) d/\ja Y K 83 #[.pointer q,i,v])
 case first =>
  go_region_law (go_simp;go_at_call 37;first
   | (refine(Q.out _ O.out).mono ?_;rintro e w5 r;obtain⟨p5,nx,a5,m5,c5,u5,rfl,b⟩:=r.beh;obtain⟨⟨q5,rfl⟩,_⟩:=b.form;have x:=joI b;clear r b)
   | (refine(Q.out _ C.out).mono ?_;rintro e w5 r;obtain⟨p5,nx,a5,m5,c5,u5,rfl,b⟩:=r.beh;obtain⟨⟨q5,rfl⟩,_⟩:=b.form;have h:=jb l.out b.1 l.out.lt;have t0:=h.cell 0;have t1:=h.cell 1;have t2:=h.cell 2;have aa:=h.frozen 0;have ae:=h.frozen 1;have af:=h.frozen 2;simp only[joQ,joP,joO]at t0 t1 t2;have P:=joI h;have x:=joI b;clear r b h))
  all_goals (try go_wp2_with fail)
  all_goals go_meet
  all_goals first
   | exact⟨_,_,_,_,rfl,joA j.out O.out x.out,ja.new _ _ _⟩
   | exact⟨_,_,_,_,rfl,(jor j.out C.out x.out P.out).1,(jor j.out C.out x.out P.out).2⟩
 case rest =>
 obtain⟨K,q,i,v,rfl,b,R⟩:=hcut;have c0:=R.cell 0
 simp only[joQ,joP]at c0;have Z:=joI b
 clear b R;go_wp2_with fail;go_ret2;exact⟨_,_,rfl,Z.out⟩
theorem ji3(b:Int)(s:List UInt8)(a:List (List Ed))(A:Option Addr)(c:Nat)(j:Option Addr)(l k:Nat)(m:ByteArray)(w:World)(C:s.length+xS a<=5000)(hl:a.length<=100000)(x:BtV w (.slice A a.length c) a)(t:jiq a)(v:ErrT w):
  Calls prog 9 #[Yb b s A a.length c j l k m] w fun e J=>∃p u,e=.returned (.tuple #[p,u])/\jae w J s a p u:=by
 obtain⟨q,d⟩:∃z,w.alloc (.cells #[.int .i64 b,.string (B s),.slice A a.length c,.slice j l k,.string m] 28)=z:=⟨_,rfl⟩
 have i:Below w.heap.size w q:=by rw[<- d];exact(joL _ w).alloc (joJ _) _
 have f:ja q w.heap.size 28 #[.int .i64 b,.string (B s),.slice A a.length c,.slice j l k,.string m]:=by rw[<- d];exact ja.new _ _ _
 have h:=Vh b s a A c j l k m a.length (joJ _) q C hl (x.below i (joJ _)) t (v.below i (joJ _));rw[jpa]at h;unfold Yb at h;have g:=joI h
 have D:=f.cell 0;have E:=f.cell 1
 have G:=f.cell 2;have H:=f.cell 3
 have I:=f.cell 4;simp only[joQ,joP,joO]at D E G H I;have n:=joI i
 have o:=joI d;clear x t v i f d h;unfold Yb;go_enter func9,ntmps9;go_wp2_with fail;rw[o.out];refine g.out.mono ?_;rintro e K ⟨p,u,rfl,r⟩;have y:=joI (r.low n.out)
 clear r g;go_wp2_with fail;go_ret2;exact⟨_,_,rfl,y.out⟩
theorem QM{d:Func}{p u z:Tmp}{e:TypeId}(h:d.results=#[.cell p e,.tmp u,.tmp z])(tmps:Array Value)(P:Program)(w:World):
  (results d tmps).run P w=((asAddr (tmps.getD p undef)).run P w).andThen fun a b=>((loadVar e a).run P b).andThen fun v c=>.ok (.tuple #[v,tmps.getD u undef,tmps.getD z undef]) c:=by
 simp only[results,h];simp[Sem.run_bind,Result.andThen]
theorem Vv{c:Func}{p u z:Tmp}(h:c.results=#[.cell p 28,.tmp u,.tmp z])(tmps:Array Value)(w:World)(b:Nat)(a:Array Value)(e:tmps.getD p undef=.pointer (some ⟨b,0,none⟩))
  (d:ja w b 28 a) (f:a.size=5):(results c tmps).run prog w=.ok (.tuple #[.agg a,tmps.getD u undef,tmps.getD z undef]) w:=by
 have L:=run_loadVar_row (P:=prog) w b 28 28 a (0,0) _ d underlying28 rfl (by rw[f];kernel_rfl);rw[QM h,e];show((loadVar _ _).run _ _).andThen _=_
 rw[L];rfl
def yH(t:List UInt8)(a k:Nat):Prop:=Yf t a k\/∃n base bds tail its,vp Dc t n base bds tail/\jD base=.ok its/\qJ (zF its) (qu bds) a/\k=10
theorem yH.num{t:List UInt8}{a k:Nat}(h:yH t a k):k≠0/\k<=11:=by
 rcases h with h|⟨_,_,_,_,_,_,_,_,rfl⟩
 ·exact h.num
 decide
theorem yH.one{t:List UInt8}{a k f i:Nat}(h:yH t a k)(b:yH t f i):a=f/\k=i:=by
 rcases h with h|⟨_,_,_,_,m,s,j,l,rfl⟩
 ·rcases b with b|⟨_,_,_,_,_,s,_,_,rfl⟩
  ·exact h.one b
  exact(h.not s).elim
 rcases b with b|⟨_,_,_,_,g,n,c,d,rfl⟩
 ·exact(b.not s).elim
 obtain⟨_,rfl,rfl,_⟩:=s.same n;rw[j]at c;injection c with e;subst e;exact⟨l.one d,rfl⟩
theorem yH.not{t:List UInt8}{a k n:Nat}{base c:List UInt8}{b:List (List UInt8)}{its:List It}{l:LS}(h:yH t a k)(s:vp Dc t n base b c)(i:jD base=.ok its)(hl:qA (zF its) (qu b)=some l):False:=by
 rcases h with h|⟨_,_,_,_,f,j,d,g,rfl⟩
 ·exact h.not s
 obtain⟨_,rfl,rfl,_⟩:=s.same j;rw[i]at d;injection d with e;subst e;exact g.not hl
def jcQ(w w':World)(t:List UInt8)(e:Ending):Prop:=Below w.heap.size w w' /\
  ((∃a k u,yH t a k/\e=.returned (.tuple #[Qt,.pointer none,u])/\jB w.heap.size w' u a k) \/
   (∃n base bds tail v its k lb ev ps,vp Dc t n base bds tail/\jD base=.ok its/\qA (zF its) (qu bds)=some k/\e=.returned (.tuple #[v,ptr lb,.nilIface])/\BookR w.heap.size w' v n base bds tail/\zM w.heap.size w' lb ev ps k (base.length+xS (qu bds))))
theorem BookR.low{lo d:Nat}{w:World}{v:Value}{n:Nat}{base a:List UInt8}{c:List (List UInt8)}(h:BookR lo w v n base c a)(hl:d<=lo):BookR d w v n base c a:=by obtain⟨l,q,t,g,e,s⟩:=h.is;refine⟨l,q,t,g,⟨jA e.row hl,fun i b u m o => ?_⟩,jA s hl⟩;obtain⟨f,k⟩:=e.each i b u m o;exact⟨f,jA k.row hl,k.len,fun j p r g e=>jA (k.each j p r g e) hl⟩
theorem BookR.box{lo:Nat}{w w':World}{v:Value}{n:Nat}{base a:List UInt8}{c:List (List UInt8)}{b:Nat}{T:TypeId}{d:Array Value}(h:BookR lo w v n base c a)(g:ja w b T d)(o:jH (· = b) w w')(m:55≠T)(p:75≠T)(s:148≠T)(t3:3≠T):BookR lo w' v n base c a:=by obtain⟨i,j,t,k,l,f⟩:=h.is;exact⟨i,j,t,k,l.box g m p s o,jG f o (fun r e q=>jh f g t3 (by rw[e,q]))⟩
theorem jhi{w:World}{v:Value}{fs:List Fld}{b:Nat}{T:TypeId}{c:Array Value}(h:vP w v fs)(i:fs≠[])(p:v.ownBlock=some b)(m:ja w b T c)(t:∀(j:Nat) (x y:ByteArray),c[j]?=some (.string x)->c[j+1]?≠some (.string y)):False:=by
 obtain⟨A,o,rfl,s,g⟩:=h;obtain⟨f,q⟩:∃f,fs[0]?=some f:=by
  cases fs with
  | nil=>exact absurd rfl i
  | cons a r=>exact⟨a,rfl⟩
 obtain⟨n,d,rfl,_,k,l⟩:=g 0 f q;have e:n=b:=by cases p;rfl
 subst e;rw[Nat.zero_mul,jqk,m.cell d]at k;rw[Nat.zero_mul,jqk,m.cell (d+1)]at l;exact t d _ _ k l
theorem jd1(n:Int)(x y:ByteArray)(a b:Option Addr)(e d g f:Nat):∀(j:Nat) (u v:ByteArray),(#[.int .i64 n,.string x,.slice a e d,.slice b g f,.string y]:Array Value)[j]?=some (.string u)->(#[.int .i64 n,.string x,.slice a e d,.slice b g f,.string y]:Array Value)[j+1]?≠some (.string v):=by
 intro j u v c h
 match j with
 | 0=>simp at c
 | 1=>simp at h
 | 2=>simp at c
 | 3=>simp at c
 | 4=>simp at h
 | j+5=>simp at c
theorem jc2(t:List UInt8)(ht:t.length<=100000)(af:(vo (t.drop (hl (Hd.genP t)))).length<=60000)(G:∀n c f g,vp Dc t n c f g->c.length+xS (qu f)<=5000)(w:World)(hT:WY w):
  Calls prog 24 #[.string (B t)] w fun e w'=>jcQ w w' t e:=by
 obtain⟨w0,A⟩:∃z,w.alloc (.cells #[.int .i64 0,.string ⟨#[]⟩,.slice none 0 0,.slice none 0 0,.string ⟨#[]⟩] 28)=z:=⟨_,rfl⟩
 have R:Below w.heap.size w w0:=by rw[<- A];exact(joL _ w).alloc (joJ _) _
 have aq:w0.heap.size=w.heap.size+1:=by rw[<- A];simp
 have C0:ja w0 w.heap.size 28 #[.int .i64 0,.string ⟨#[]⟩,.slice none 0 0,.slice none 0 0,.string ⟨#[]⟩]:=by rw[<- A];exact ja.new _ _ _
 have TB:Hid (∀W,Below w.heap.size w W->WY W):=fun W hW=>hT.below hW (joJ _);have RD:=joI (VX t ht af w0 (TB.out w0 R))
 have K:=joI R;have a7:=joI C0
 have aD:=joI A;have aa:=joI aq
 have a8:=joI G;clear hT R C0 A aq af G;go_enter func24,ntmps24;go_wp2_with fail;rw[aD.out];refine RD.out.mono ?_;rintro e w1 hr;obtain⟨b1,h1⟩:=hr.two;have B1:=joI (K.out.trans (b1.mono K.out.size))
 have ag:=K.out.size;have C1:=joI (jb a7.out b1 a7.out.lt)
 have aK:=b1.size;clear RD hr b1;rcases h1 with ⟨a,k,u,E,rfl,hf⟩|⟨n,c,f,g,v,hS,rfl,P⟩
 ·obtain⟨q,hq,rfl,x⟩:=hf;obtain⟨w2,l⟩:∃z,w1.alloc (.cells #[.int .i64 0,.string ⟨#[]⟩,.slice none 0 0,.slice none 0 0,.string ⟨#[]⟩] 28)=z:=⟨_,rfl⟩
  have d:Below w1.heap.size w1 w2:=by rw[<- l];exact(joL _ _).alloc (joJ _) _
  have o:=jb C1.out d C1.out.lt;obtain⟨P2,o2⟩:=jfE o (.int .i64 0) (.string ⟨#[]⟩) (.slice none 0 0) (.slice none 0 0) (.string ⟨#[]⟩);have C:=B1.out.trans (d.mono B1.out.size)
  have V:=joI (C.trans (o2.to_below C.size (fun r hr e=>by omega)));have aA:=joI P2
  have HF:=joI (show jB w.heap.size _ (.iface 87 (.pointer (some ⟨q,0,none⟩))) a k from⟨q,by omega,rfl,(jb x d x.lt).only o2 (fun e=>by have:=aa.out;omega)⟩);have Y:=joI E
  have c0:=o.cell 0;have c1:=o.cell 1
  have c2:=o.cell 2;have c3:=o.cell 3
  have c4:=o.cell 4;have f0:=o.frozen 0
  have f1:=o.frozen 1;have f2:=o.frozen 2
  have f3:=o.frozen 3;have f4:=o.frozen 4
  simp only[joQ,joP,joO]at c0 c1 c2 c3 c4;have O:=joI l
  rw[<- l]at c0 c1 c2 c3 c4 f0 f1 f2 f3 f4;have eZ:Qt=.agg #[.int .i64 0,.string ⟨#[]⟩,.slice none 0 0,.slice none 0 0,.string ⟨#[]⟩]:=rfl
  rw[eZ];clear x E d o P2 o2 C l;go_wp2_with fail;rw[O.out];refine bodyPost_ret (Vv rfl _ _ w.heap.size _ rfl aA.out rfl) rfl ?_;exact⟨V.out,.inl ⟨a,k,_,.inl Y.out,rfl,HF.out⟩⟩
 have X:=P;obtain⟨bv,ev,us,rfl,Q,ae⟩:=P.is;obtain⟨ba,bc,rfl,_⟩:=je Q.row;obtain⟨ea,ec,rfl,_⟩:=je ae;obtain⟨ar,U⟩:=hS.parse;obtain⟨av,aJ,aM⟩:=JH hS;unfold Qi at *
 obtain⟨w2,l⟩:∃z,w1.alloc (.cells #[.int .i64 (n:Int),.string (B c),.slice ba f.length bc,.slice ea f.length ec,.string (B g)] 28)=z:=⟨_,rfl⟩
 obtain⟨d,o⟩:=jh2 l;have C:=joI (B1.out.trans (d.mono B1.out.size))
 have OF:=ji3 (n:Int) c (qu f) ba bc ea f.length ec (B g) w2 (a8.out _ _ _ _ hS) (by rw[yA];omega) (by rw[yA];exact(jh4 Q).below d (joJ _)) av (TB.out w2 C.out).tabs.err;rw[yA]at OF;unfold Yb at OF;have L:=joI OF
 have ax:=joI o;have D:=joI (jb C1.out d C1.out.lt)
 have aw:=joI (BookR.low (X.below d) ag);have O:=joI l
 have HS:=joI hS;have HP:=joI U
 have ah:=o.lt;clear X P Q ae d o l OF hS U av aJ;go_wp2_with fail;rw[O.out];refine L.out.mono ?_;rintro e w3 ⟨p,u,rfl,h3⟩;have s:=h3.1
 have B3:=joI (C.out.trans (s.mono C.out.size));have J:=jb ax.out s ah
 have b:=jb D.out s D.out.lt;have I:=aw.out.below s
 obtain⟨ai,am⟩:=h3.form;have H3:=joI h3
 have l0:=b.cell 0;have l1:=b.cell 1
 have l2:=b.cell 2;have l3:=b.cell 3
 have l4:=b.cell 4;have f0:=b.frozen 0
 have f1:=b.frozen 1;have f2:=b.frozen 2
 have f3:=b.frozen 3;have f4:=b.frozen 4
 have c0:=J.cell 0;have c1:=J.cell 1
 have c2:=J.cell 2;have c3:=J.cell 3
 have c4:=J.cell 4;simp only[joQ,joP,joO]at l0 l1 l2 l3 l4 c0 c1 c2 c3 c4;have aF:=C.out.size
 have aL:=aa.out;rcases h3 with ⟨_,⟨a,m,j,_⟩|⟨au,i,j,ak,rfl,aG⟩|⟨au,k,lb,aE,aI,j,aj,rfl,rfl,y⟩⟩
 ·rw[HP.out]at j;cases j
 ·rw[HP.out]at j;injection j with e1;subst e1;obtain⟨q,hq,rfl,x⟩:=aG;obtain⟨P3,H⟩:=jfE b (.int .i64 0) (.string ⟨#[]⟩) (.slice none 0 0) (.slice none 0 0) (.string ⟨#[]⟩);have V:=joI (B3.out.trans (H.to_below B3.out.size (fun r hr e=>by omega)))
  have N:=joI P3;have HF:=joI (show jB w.heap.size _ (.iface 87 (.pointer (some ⟨q,0,none⟩))) i 10 from⟨q,by omega,rfl,x.only H (fun e=>by omega)⟩)
  have aC:=joI ak;clear s J b I H3 ak x P3 H L ai am;go_wp2_with fail;refine bodyPost_ret (Vv rfl _ _ w.heap.size _ rfl N.out rfl) rfl ?_;exact⟨V.out,.inl ⟨i,10,_,.inr ⟨_,_,_,_,ar,HS.out,HP.out,aC.out,rfl⟩,rfl,HF.out⟩⟩
 rw[HP.out]at j;injection j with e1;subst e1;obtain⟨P3,H⟩:=jfE b (.int .i64 (n:Int)) (.string (B c)) (.slice ba f.length bc) (.slice ea f.length ec) (.string (B g));have V:=joI (B3.out.trans (H.to_below B3.out.size (fun r hr e=>by omega)))
 have N:=joI P3;have Z:=joI (BookR.box I b H (by decide) (by decide) (by decide) (by decide))
 have ay:=joI (jby (y.only H (S0:=w2.heap.size) (by
  rintro r (rfl|h|h|⟨p,U,aH,h⟩|⟨p,U,_⟩) e
  ·have:=y.lb0;omega
  ·have:=y.ev0 r h;omega
  ·cases h
  ·exact jhi (y.la.lr.ents.each p U).1 aH (by rw[h,e]) b (jd1 _ _ _ _ _ _ _ _ _)
  cases U)) aF)
 have aB:=joI aj;clear s J b I H3 aj y P3 H L ai am;unfold ptr at *
 go_wp2_with fail;refine bodyPost_ret (Vv rfl _ _ w.heap.size _ rfl N.out rfl) rfl ?_;exact⟨V.out,.inr ⟨n,c,f,g,_,ar,k,lb,aE,aI,HS.out,HP.out,aB.out,rfl,Z.out,ay.out⟩⟩
end Rp
namespace Bk
attribute [local go_sem] joY
theorem QM{d:Func}{p u v:Tmp}{e:TypeId}(h:d.results=#[.cell p e,.tmp u,.tmp v])(tmps:Array Value)(P:Program)(w:World):
  (results d tmps).run P w=((asAddr (tmps.getD p undef)).run P w).andThen fun a b=>((loadVar e a).run P b).andThen fun x c=>.ok (.tuple #[x,tmps.getD u undef,tmps.getD v undef]) c:=by
 simp only[results,h];simp[Sem.run_bind,Result.andThen]
theorem Vv{c:Func}{p u v:Tmp}(h:c.results=#[.cell p 25,.tmp u,.tmp v])(tmps:Array Value)(w:World)(b:Nat)(a:Array Value)(e:tmps.getD p undef=.pointer (some ⟨b,0,none⟩))
  (d:ja w b 25 a) (f:a.size=5):(results c tmps).run prog w=.ok (.tuple #[.agg a,tmps.getD u undef,tmps.getD v undef]) w:=by
 have L:=run_loadVar_row (P:=prog) w b 25 25 a (0,0) _ d underlying25 rfl (by rw[f];kernel_rfl);rw[QM h,e];show((loadVar _ _).run _ _).andThen _=_
 rw[L];rfl
def jot(w w':World)(t:List UInt8)(e:Ending):Prop:=Below w.heap.size w w' /\
  ((∃a k:Nat,jD (vo (t.drop (hl (Hd.genP t))))=.error (a,k)/\e=.returned (.tuple #[Qt,.int .i64 a,.int .i64 k])) \/
   (∃its bds r,jD (vo (t.drop (hl (Hd.genP t))))=.ok its/\jfx Dc (t.drop (hl (Hd.genP t)+(vo (t.drop (hl (Hd.genP t)))).length)) bds r/\jkn Dc r/\e=.returned (.tuple #[Qt,.int .i64 (bds.length:Nat),.int .i64 10])) \/
   (∃base bds tail v,vp Dc t (Hd.genP t) base bds tail/\e=.returned (.tuple #[v,.int .i64 (-9),.int .i64 0])/\BookR w.heap.size w' v (Hd.genP t) base bds tail))
def jnO(w:World)(v:Value)(xs:List Ln):Prop :=
 ∃A cap,v=.slice A xs.length cap/\xs.length<=cap/\∀(i:Nat) (x:Ln),xs[i]?=some x->∃b off,A=some ⟨b,off,none⟩/\b<w.heap.size/\w.cell? ⟨b,off+i*4+1,none⟩=some (.int .i64 (x.at_:Nat))/\w.cell? ⟨b,off+i*4+1+1,none⟩=some (.string (B x.text))
theorem jnO.below{w w':World}{v:Value}{xs:List Ln}{n:Nat}(h:jnO w v xs)(f:Below n w w')(q:w.heap.size<=n):jnO w' v xs:=by
 obtain⟨A,e,r,g,m⟩:=h;refine⟨A,e,r,g,fun i x o => ?_⟩;obtain⟨b,c,l,d,j,k⟩:=m i x o;have a:=jo4 d q
 exact⟨b,c,l,jo4 d f.size,(f.cell (p:=⟨b,c+i*4+1,none⟩) a).trans j,(f.cell (p:=⟨b,c+i*4+1+1,none⟩) a).trans k⟩
theorem jja {w : World} {base : Nat} {v : Value} {xs : List Ln} (h : w.ownsRow base 126 4 v xs.length (cellsOf xs)) : jnO w v xs := by
  rcases jpH h with ⟨e, hn⟩ | ⟨g, cap, e⟩
  . have : xs = [] := List.length_eq_zero_iff.1 hn
    rw [e, this]
    exact ⟨none, 0, rfl, joJ _, fun i it hi => by simp at hi⟩
  refine ⟨some ⟨g, 0, none⟩, cap, e, (by rcases h.2 with ⟨q, _⟩ | ⟨g', cap', cur, q, _, _, q2, _⟩; · rw [e] at q; cases q
                                         rw [e] at q; cases q; exact q2), fun i x hi => ?_⟩
  have hlt : i < xs.length := by
    rcases jpc i xs.length with q | q
    . exact q
    rw [jpe q] at hi; cases hi
  rw [e] at h
  have hx : xs = xs.take i ++ x :: xs.drop (i + 1) := by
    have e := jpp hlt
    rw [joM hlt] at hi
    rw [joN hi] at e
    rw [<- e, jpb]
  have hti : (xs.take i).length = i := by rw [joS]; omega
  have c1 : (cellsOf xs)[i * 4 + 1]? = some (.int .i64 (x.at_ : Nat)) := by
    have := vA (xs.take i) x (xs.drop (i + 1)) 1 (by decide)
    rw [hti, <- hx] at this
    exact this
  have c2 : (cellsOf xs)[i * 4 + 2]? = some (.string ⟨x.text.toArray⟩) := by
    have := vA (xs.take i) x (xs.drop (i + 1)) 2 (by decide)
    rw [hti, <- hx] at this
    exact this
  refine ⟨g, 0, rfl, (jpJ h g rfl).2, ?_, ?_⟩
  . rw [jpl, jo1 h (i * 4 + 1) (by omega)]; exact c1
  rw [jpl, jo1 h (i * 4 + 1 + 1) (by omega)]; exact c2
theorem jaX:∀a:List Ln,(∀x∈a,1<=x.bytes.length)->a.length<=(a.flatMap Ln.bytes).length
 | [],_=>joJ _
 | x::r,h=>by
  have c:=h x (joV ..);have d:=jaX r fun y b=>h y (joU _ b)
  rw[jo5,joK,joR];omega
theorem jml(b:List UInt8):b.length<=(Fr.fullR b).length:=by rw[XC];simp only[joK,joR];omega
theorem jfl(x:Ln)(r:List Ln)(n:Nat):ya (x::r) n=if Vi x.text=true then x.at_ else ya r n:=by unfold ya;rw[jq8];cases h:Vi x.text<;>simp
theorem jj4{t:List UInt8}{xs:List Ln}(hx:jf t=xs)(k:Nat):ya (xs.drop k) t.length<=t.length:=by
 unfold ya;cases h:(xs.drop k).find? (fun x=>Vi x.text) with
 | none=>exact joJ _
 | some x =>
 obtain⟨_,c,a,f,_⟩:=List.find?_eq_some_iff_append.1 h;have b:jf t=(xs.take k++c)++x::a:=by rw[hx,jo0,<- f,jpb]
 obtain⟨_,e⟩:=qX t _ x a b;have d:=jL t
 rw[b,jpo]at d;show x.at_<=t.length
 rw[e,<- d,joK];omega
theorem jdX{w a:World}(b:Below w.heap.size w a)(c:ja a w.heap.size 25 #[.int .i64 0,.string ⟨#[]⟩,.slice none 0 0,.slice none 0 0,.string ⟨#[]⟩]):
  Below w.heap.size w ((((((a.setCell ⟨w.heap.size,0,none⟩ (.int .i64 0)).setCell ⟨w.heap.size,1,none⟩ (.string ⟨#[]⟩)).setCell ⟨w.heap.size,2,none⟩ (.slice none 0 0)).setCell ⟨w.heap.size,3,none⟩ (.slice none 0 0)).setCell ⟨w.heap.size,4,none⟩ (.string ⟨#[]⟩))).drew /\
  ja ((((((a.setCell ⟨w.heap.size,0,none⟩ (.int .i64 0)).setCell ⟨w.heap.size,1,none⟩ (.string ⟨#[]⟩)).setCell ⟨w.heap.size,2,none⟩ (.slice none 0 0)).setCell ⟨w.heap.size,3,none⟩ (.slice none 0 0)).setCell ⟨w.heap.size,4,none⟩ (.string ⟨#[]⟩))).drew w.heap.size 25 #[.int .i64 0,.string ⟨#[]⟩,.slice none 0 0,.slice none 0 0,.string ⟨#[]⟩]:=by
 obtain⟨d,f⟩:=jfE c (.int .i64 0) (.string ⟨#[]⟩) (.slice none 0 0) (.slice none 0 0) (.string ⟨#[]⟩);exact⟨(b.trans (f.to_below b.size (fun r g e=>by omega))).drew,d.drew⟩
theorem Uq(t:List UInt8)(ht:t.length<=6000)(w:World):
  Calls prog 27 #[.string (B t)] w fun e w'=>jot w w' t e:=by
 obtain⟨i1,hi,d9,de,cW⟩:=info_parts ja6;obtain⟨i2,cV,cM,cN,cO⟩:=info_parts jg2;have cZ:(B t).size=t.length:=jg t
 have G:=Hd.genP_is t;have hn:=Hd.gen_lt G
 have dD:=jjp G;generalize N:Hd.genP t=n at *
 obtain⟨w0,ak⟩:∃z,w.alloc (.cells #[.int .i64 0,.string ⟨#[]⟩,.slice none 0 0,.slice none 0 0,.string ⟨#[]⟩] 25)=z:=⟨_,rfl⟩
 have bX:Below w.heap.size w w0:=by rw[<- ak];exact(joL _ w).alloc (joJ _) _
 have hz:w0.heap.size=w.heap.size+1:=by rw[<- ak];simp
 have C0:ja w0 w.heap.size 25 #[.int .i64 0,.string ⟨#[]⟩,.slice none 0 0,.slice none 0 0,.string ⟨#[]⟩]:=by rw[<- ak];exact ja.new _ _ _
 have TK:=joI (Hd.reftake_any (B t) (by rw[jg];omega) n (by rw[jj];exact G) w0);rw[jj,jg5]at TK;have bj:=joI bX
 have bw:=joI C0;have cB:=joI ak
 have q1:¬(120000:Int)<((B t).size:Int):=by omega
 have c8:(t.drop (hl n)).length<=6000:=by rw[joX];omega
 have aV:(t.drop (hl n)).length+hl n=t.length:=by rw[joX];omega
 have HZ:=joI hz;have bW:∃I,jf (t.drop (hl n))=I:=⟨_,rfl⟩
 obtain⟨I,H⟩:=bW;have bB:=joI (fun k=>jj4 H k)
 have aH:(vo (t.drop (hl n))).length=ya I (t.drop (hl n)).length:=by rw[Ql,H]
 have aO:Hid ((B (t.drop (hl n))).extract 0 (ya I (t.drop (hl n)).length)=B (vo (t.drop (hl n)))):=by show _=_;rw[Fr.ext_take];unfold vo;rw[H]
 have aJ:∀x∈I,1<=x.bytes.length:=by rw[<- H];exact xw _ 0 0 _ (joJ _)
 have L:(I.flatMap Ln.bytes)=t.drop (hl n):=by rw[<- H];exact jL _
 have aI:=jaX I aJ;rw[L]at aI;have HJ:=joI L
 have aw:=joI aH;have bE:=joI G
 generalize l:vo (t.drop (hl n))=d at *
 have cR:∃g,t.drop (hl n)=g:=⟨_,rfl⟩
 obtain⟨g,aY⟩:=cR;rw[aY]at TK bB aw aO HJ c8 aV aI H;have cE:=joI H
 have cX:(B g).size=g.length:=jg g;clear aJ L aH G C0 ak hz bX H;go_enter func27,ntmps27;go_wp2_with fail;rw[cB.out];refine TK.out.mono ?_;rintro e w1 ⟨rfl,b1⟩;have bm:=joI (bj.out.trans (b1.mono bj.out.size))
 have dI:=b1.size;have bz:=joI (jb bw.out b1 bw.out.lt)
 have SP:=joI (yv (B g) (by rw[jg];omega) w1);rw[jj,cE.out]at SP;clear TK b1;go_wp2_with fail;refine SP.out.mono ?_;rintro e wS ⟨lv,rfl,aW,bS⟩;have cF:=joI (jja aW)
 obtain⟨la,lc,rfl,_⟩:=je aW;have bu:=joI (bm.out.trans (bS.mono bm.out.size))
 have dL:=bS.size;have bC:=joI (jb bz.out bS bz.out.lt)
 clear SP aW bS;go_wp2_with fail;go_loopw [8,9] (fun cv iv wr=>∃k:Nat,k<=I.length/\iv=.int .i64 ((k:Int)-1)/\cv=.int .i64 (ya (I.drop k) g.length:Nat)/\Below wS.heap.size wS wr) (fun _ iv _=>(intOf iv+1).toNat)
 case atStart=>exact⟨I.length,joJ _,by go_num,by rw[jp0];unfold ya;rw[List.find?_nil,<- cX],joL _ _⟩
 case round =>
 obtain⟨k,hk,rfl,rfl,Z⟩:=hrel;rcases jp3 k with rfl|dF;rotate_left
 ·obtain⟨j,rfl⟩:∃j,k=j+1:=⟨k-1,by omega⟩
  obtain⟨x,hx⟩:∃x,I[j]?=some x:=⟨_,joM (by omega)⟩
  have c7:I.drop j=x::I.drop (j+1):=by have e:=jpp (show j<I.length by omega);rw[joM (by omega)]at hx;rw[joN hx]at e;exact e
  have CC:=joI (jfl x (I.drop (j+1)) g.length);rw[<- c7]at CC;obtain⟨A,dy,e,_,hc⟩:=cF.out.below Z (joJ _);cases e;obtain⟨b,dp,rfl,cU,c1,c2⟩:=hc j x hx;have dO:x.text.length<=6000:=by
   have h1:x.bytes.length<=(I.flatMap Ln.bytes).length:=by obtain⟨p1,p2,e⟩:=jqR (joW hx);rw[e,jpo,jo5,joK,joK];omega
   have h2:=congrArg List.length HJ.out;have h3:x.text.length<=x.bytes.length:=by unfold Ln.bytes;simp
   omega
  have BG:=joI (Fr.refBegins_any (B x.text) (by rw[jg];omega) wr);rw[jj,show(Fr.signB x.text&&decide (jm x.text=5))=Vi x.text from rfl]at BG;have ij:(((j+1:Nat):Int)-1)=(j:Int):=by omega
  have ck:=Z.size;clear hc hx c7;rw[ij];cases bZ:Vi x.text with
  | true =>
   rw[bZ]at BG CC;rw[if_pos rfl]at CC;go_wp2_with fail;refine BG.out.mono ?_;rintro e wb ⟨rfl,b2⟩;have dx:=(b2.cell (p:=⟨b,dp+j*4+1,none⟩) cU).trans c1
   have V:=joI (Z.trans (b2.mono ck));clear BG b2 c1 c2;go_wp2_with fail;go_roundw
   case rel=>exact⟨j,by omega,by go_num,by rw[CC.out],V.out⟩
   case measure=>simp[intOf]
  | false =>
  rw[bZ]at BG CC;rw[if_neg (by decide)]at CC;go_wp2_with fail;refine BG.out.mono ?_;rintro e wb ⟨rfl,b2⟩;have V:=joI (Z.trans (b2.mono ck))
  clear BG b2 c1 c2;go_wp2_with fail;go_roundw
  case rel=>exact⟨j,by omega,by go_num,by rw[CC.out],V.out⟩
  case measure=>simp[intOf]
 obtain⟨y,d8⟩:∃z,z=wr:=⟨_,rfl⟩
 subst d8;rw[jp2,<- aw.out];have hcut:((d.length:Nat):Int)<=((B g).size:Int):=by have h1:=bB.out 0;rw[jp2,<- aw.out]at h1;omega
 rw[<- aw.out]at aO;have V:=joI (bu.out.trans (Z.mono bu.out.size))
 have cY:=Z.size;obtain⟨P,aF⟩:∃z,y.alloc (.cells #[.int .i64 (n:Int),.string (B d),.slice none 0 0,.slice none 0 0,.string ⟨#[]⟩] 25)=z:=⟨_,rfl⟩
 have aT:Below y.heap.size y P:=by rw[<- aF];exact(joL _ _).alloc (joJ _) _
 have C3:ja P y.heap.size 25 #[.int .i64 (n:Int),.string (B d),.slice none 0 0,.slice none 0 0,.string ⟨#[]⟩]:=by rw[<- aF];exact ja.new _ _ _
 have ax:=joI (jb bC.out (Z.trans (aT.mono cY)) bC.out.lt);have av:=joI (V.out.trans (aT.mono V.out.size))
 have PA:=joI (VA (B d) (by rw[jg];omega) P);rw[jj]at PA;have bA:=joI C3
 have cC:=joI aF;have dv:w.heap.size+1<=y.heap.size:=by have:=HZ.out;omega
 clear aT C3 aF Z;go_wp2_with fail;rw[aO.out];rw[cC.out];refine PA.out.mono ?_;rintro e w4 aE;cases hp:jD d with
 | error an =>
  obtain⟨a,k⟩:=an;obtain⟨b4,rfl⟩:=YP aE hp;have hk:=Yo hp
  have q2:((k:Int) != 0)=true:=by simp;omega
  have bo:=joI (av.out.trans (b4.mono av.out.size));have o:=joI (jb ax.out b4 ax.out.lt)
  obtain⟨aK,aj⟩:=jfE o.out (.int .i64 0) (.string ⟨#[]⟩) (.slice none 0 0) (.slice none 0 0) (.string ⟨#[]⟩);have cu:=joI (bo.out.trans (aj.to_below bo.out.size (fun r hr e=>by omega)))
  have bG:=joI aK;have c0:=o.out.cell 0
  have c1:=o.out.cell 1;have c2:=o.out.cell 2
  have c3:=o.out.cell 3;have c4:=o.out.cell 4
  have f0:=o.out.frozen 0;have f1:=o.out.frozen 1
  have f2:=o.out.frozen 2;have f3:=o.out.frozen 3
  have f4:=o.out.frozen 4;simp only[joQ,joP,joO]at c0 c1 c2 c3 c4;have HP:=joI hp
  clear aE b4 aK aj PA hp hk;go_wp2_with fail;refine bodyPost_ret (Vv rfl _ _ w.heap.size _ rfl bG.out rfl) rfl ?_;exact⟨cu.out,.inl ⟨a,k,by rw[N,l];exact HP.out,rfl⟩⟩
 | ok bg =>
 obtain⟨b4,u,rfl,_⟩:=jaE aE hp;have cT:=av.out.trans (b4.mono av.out.size)
 have cP:=jb ax.out b4 ax.out.lt;have cQ:=jb bA.out b4 bA.out.lt
 have HP:=joI hp;clear aE PA b4 hp;go_wp2_with fail;go_loopw [14] (fun pv wr=>∃(c:List (List UInt8)) (r:List UInt8) (bv ev:Value) (us:List Value),pv=.int .i64 (zg n d c:Nat)/\jfx Dc (t.drop (hl n+d.length)) c r/\ja wr y.heap.size 25 #[.int .i64 (n:Int),.string (B d),bv,ev,.string ⟨#[]⟩]/\Kg w.heap.size wr bv c us/\wr.ownsRow w.heap.size 3 1 ev c.length ((ql (hl n+d.length) c).map jjR)/\ja wr w.heap.size 25 #[.int .i64 0,.string ⟨#[]⟩,.slice none 0 0,.slice none 0 0,.string ⟨#[]⟩]/\Below w.heap.size w wr) (fun pv _=>t.length+1-(intOf pv).toNat)
 case atStart=>exact⟨[],_,_,_,[],by unfold zg;go_num,⟨rfl,fun b h=>by cases h⟩,cQ,Kg.nil _ _,⟨rfl,.inl ⟨rfl,rfl⟩⟩,cP,cT⟩
 case round =>
 obtain⟨c,r,bv,ev,us,rfl,hR,hK,aC,aD,hC,Z⟩:=hrel;obtain⟨ba,bc,rfl,_⟩:=je aC.row;obtain⟨ea,ec,rfl,_⟩:=je aD;have aZ:=jbb hR
 rw[joX]at aZ;have du:=XT c
 have aU:zg n d c=hl n+d.length+(c.flatMap Fr.fullR).length:=rfl;have dr:zg n d c<=t.length:=by omega
 have ai:t.drop (zg n d c)=r:=by rw[aU,Qe,hR.eq,jp8]
 have EX:Hid ((B t).extract (zg n d c) t.length=B r):=by show _=_;rw[<- cZ,Fr.ext_drop,ai]
 have dH:r.length<=6000:=by omega
 have be:r.length<=700000:=by omega
 have cp:BookR w.heap.size wr (Qi n d (.slice ba c.length bc) (.slice ea c.length ec) []) n d c []:=⟨_,_,us,rfl,aC,aD⟩
 have k0:=hK.cell 0;have k1:=hK.cell 1
 have k2:=hK.cell 2;have k3:=hK.cell 3
 have k4:=hK.cell 4;simp only[joQ,joP,joO]at k0 k1 k2 k3 k4;have HR:=joI hR
 have HK:=joI hK;have cw:=joI aC
 have cy:=joI aD;have HC:=joI hC
 have HB:=joI Z;have bJ:=joI aU
 have bH:=joI aZ;clear hR aC aD hC Z aZ ai aU cp;generalize cS:zg n d c=W at *
 have FR:=joI (Fr.refRead_any r be wr);clear k0 k1 k2 k3 k4 hK;go_wp2_with fail;rw[EX.out];refine FR.out.mono ?_;rintro e w6 ⟨kk,K,mm,aX,rfl,rfl⟩;have C:=HB
 have K6:=HK.out;have C6:=HC.out
 have T6:=cw.out;have E6:=cy.out
 clear FR;unfold Fr.readV;rcases aX with ⟨O,rfl,rfl⟩|⟨cj,rfl,rfl,rfl⟩|⟨ce,ci,rfl,rfl,rfl⟩
 ·
  have dC:=Fr.good_iff.1 O.1;have DE:=joI (ZM K (by obtain⟨_,m,e⟩:=O;have h1:=jml K;have h2:=congrArg List.length e;rw[joK]at h2;omega) w6)
  have dB:(Fr.fullR K).length<=r.length:=by obtain⟨_,m,e⟩:=O;rw[e,joK];omega
  go_wp2_with fail;refine DE.out.mono ?_;rintro e w7 ⟨b7,h7⟩;have a7:=joI (C.out.trans (b7.mono C.out.size))
  have v:=jb K6 b7 K6.lt;have f:=jb C6 b7 C6.lt
  have T7:=T6.below b7;have E7:=jN E6 b7 (joJ _)
  clear DE K6 C6 T6 E6;rcases h7 with ⟨hd,rfl⟩|⟨aB,u7,bM,hd,rfl,hO⟩
  ·have FB:Hid (jkn Dc r):=.inr ⟨K,O,by unfold Dc;rw[hd];rfl⟩;clear O hd T7 E7 b7;have a8:=f.cell 0
   have aa:=f.cell 1;have ae:=f.cell 2
   have af:=f.cell 3;have ag:=f.cell 4
   have bN:=f.frozen 0;have bO:=f.frozen 1
   have bP:=f.frozen 2;have bQ:=f.frozen 3
   have bR:=f.frozen 4;have am:=v.cell 2
   simp only[joQ,joP,joO]at a8 aa ae af ag am;have CR:=joI (jdX a7.out f)
   clear v f;go_wp2_with fail;go_region
   all_goals go_wp2_with fail
   all_goals
    refine bodyPost_ret (Vv rfl _ _ w.heap.size _ rfl CR.out.2 rfl) rfl ?_;exact⟨CR.out.1,.inr (.inl ⟨bg,c,r,by rw[N,l];exact HP.out,by rw[N,l];exact HR.out,FB.out,rfl⟩)⟩
  have bU:yr w.heap.size w7 u7 (yZ K) bM:=by
   have:yZ K=aB:=by unfold yZ;rw[hd];rfl
   rw[this];exact⟨jA hO.row C.out.size,hO.len,fun i ed fv h1 h2=>jA (hO.each i ed fv h1 h2) C.out.size⟩
  have bT:Dc K=true:=by unfold Dc;rw[hd];rfl
  obtain⟨ua,uc,rfl,_⟩:=je hO.row;have RS:=joI (HR.out.snoc O bT)
  have ES:Hid ((ql (hl n+d.length) (c++[K])).map jjR=(ql (hl n+d.length) c).map jjR++[Value.int .i64 ((W:Int)+((Fr.fullR K).length:Int))]):=by show _=_;rw[vZ,jpt,<- bJ.out];simp[jjR]
  have cD:Hid (zg n d (c++[K])=W+(Fr.fullR K).length):=by show _=_;rw[<- cS];unfold zg;rw[jpo,joK,jo5,jqM,jo9];omega
  have dG:=jdJ K;have HO:=joI bU
  have J:=joI T7;have aN:=joI E7
  have aS:=joI v;have aM:=joI f
  have N1:∀(P:World) (T:TypeId) (x:Value),Hid (∀(j:Nat) (u:Value),[x][j]?=some u->(P.alloc (.cells #[x] T)).cell? ((⟨P.heap.size,0,none⟩:Addr).add j)=some u):=fun P T x j u h=>by
   have ea:(⟨P.heap.size,0,none⟩:Addr).add j=⟨P.heap.size,j,none⟩:=by unfold Addr.add;split<;>simp_all
   rw[ea,(ja.new P T #[x]).cell j];simpa using h
  have cG:∀(P:World) (b:Nat) (T:TypeId) (x:Value),P.heap.size=b->Hid (∀(j:Nat) (u:Value),[x][j]?=some u->(P.alloc (.cells #[x] T)).cell? ((⟨b,0,none⟩:Addr).add j)=some u):=fun P b T x Z j u h=>by rw[<- Z];exact(N1 P T x).out j u h
  have k2:=v.cell 2;have f2:=v.frozen 2
  simp only[joQ,joP,joO]at k2;have cd:w.heap.size<=w7.heap.size:=a7.out.size
  have dE:y.heap.size<w7.heap.size:=v.lt;have dt:c.length+(Fr.fullR K).length<=t.length:=by have:=bH.out;omega
  clear O hd hO bU bT T7 E7 v f b7;generalize hm:(Fr.fullR K).length=m at *
  have dN:IntKind.i64.wrap ((W:Int)+(m:Int))=(W:Int)+(m:Int):=jph _ (by have:=bH.out;have:=bJ.out;omega);go_wp2_with (at_builtin;refine jz rfl _ _ 22 rfl w.heap.size 55 i2 _ 1 24 underlying22 cV cM cN cO rfl (by decide) _ _ _ rfl (J.out.row.alloc _) _ 1 1 [.slice ua aB.length uc] rfl rfl (N1 _ _ _).out (by intro u hu;simp at hu;subst hu;rfl) (by unfold maxLen;omega) (by omega) (by simp only[joZ];omega) ?_);intro dw W8 au ah cJ;have bY:Below w7.heap.size w7 (w7.alloc (.cells #[.slice ua aB.length uc] 55)):=(joL _ _).alloc (joJ _) _
  have o8:jH (fun r=>(Value.slice ba c.length bc).ownBlock=some r) w7 W8:=(jH.of_below (S:=fun r=>(Value.slice ba c.length bc).ownBlock=some r) bY (joJ _)).grown ah (fun r e=>.inl e);have T8:=J.out.snoc HO.out au o8
  have E8:=jG aN.out o8 (fun b e q=>jZ J.out.row aN.out (by decide) b q e);have K8:=aS.out.only o8 (fun e=>jh J.out.row aS.out (by decide) e)
  have C8:=aM.out.only o8 (fun e=>jh J.out.row aM.out (by decide) e);have B8:=a7.out.trans (o8.to_below cd (fun r hr e=>by have:=(J.out.row.lt r e).1;omega))
  have dJ:=o8.size;obtain⟨D,E,rfl,_⟩:=je au;have K9:=K8.set 2 (.slice D (c.length+1) E)
  rw[show(#[Value.int .i64 (n:Int),.string (B d),.slice ba c.length bc,.slice ea c.length ec,.string ⟨#[]⟩]:Array Value).setIfInBounds 2 (.slice D (c.length+1) E)=#[.int .i64 (n:Int),.string (B d),.slice D (c.length+1) E,.slice ea c.length ec,.string ⟨#[]⟩] from rfl]at K9;have o9:jH (· = y.heap.size) W8 (W8.setCell ⟨y.heap.size,2,none⟩ (.slice D (c.length+1) E)):=(jH.refl (· = y.heap.size) W8).cellS 2 _
  have T9:=T8.box K8 (by decide) (by decide) (by decide) o9;have E9:=jG E8 o9 (fun b e q=>jh E8 K8 (by decide) (by rw[e,q]))
  have C9:=C8.only o9 (fun e=>by omega);have B9:=B8.trans (o9.to_below B8.size (fun r hr e=>by omega))
  have cm:=K8.cell 2;have dh:=K8.frozen 2
  have cl:=K9.cell 3;have cL:=K9.frozen 3
  simp only[joQ,joP,joO]at cm cl;have bI:=joI T9
  have X:=joI E9;have aR:=joI K9
  have aQ:=joI C9;have aP:=joI B9
  have dK:=o9.size;have cA:Hid ((W8.setCell ⟨y.heap.size,2,none⟩ (.slice D (c.length+1) E)).heap.size=W8.heap.size):=by show _=_;simp[World.setCell]
  clear au ah cJ bY o8 T8 E8 K8 C8 B8 K9 o9 T9 E9 C9 B9 J aN aS aM HO k2 f2;go_wp2_with (at_builtin;refine jz rfl _ _ 23 rfl w.heap.size 3 i1 _ 1 8 underlying23 hi d9 de cW rfl (by decide) _ _ _ rfl (X.out.alloc _) _ 1 1 [.int .i64 ((W:Int)+(m:Int))] rfl rfl (by first | exact(cG _ _ _ _ cA.out).out | exact(N1 _ _ _).out) (by intro u hu;simp at hu;subst hu;rfl) (by unfold maxLen;omega) (by omega) (by simp only[joZ];omega) ?_);intro dq aA s U bL;generalize dM:W8.setCell ⟨y.heap.size,2,none⟩ (.slice D (c.length+1) E)=W9 at *
  have aG:Below W9.heap.size W9 (W9.alloc (.cells #[.int .i64 ((W:Int)+(m:Int))] 3)):=(joL _ _).alloc (joJ _) _;have aq:jH (fun r=>(Value.slice ea c.length ec).ownBlock=some r) W9 aA:=(jH.of_below (S:=fun r=>(Value.slice ea c.length ec).ownBlock=some r) aG (joJ _)).grown U (fun r e=>.inl e)
  have bK:=bI.out.beside X.out (by decide) (by decide) (by decide) aq;have Y:=aR.out.only aq (fun e=>jh X.out aR.out (by decide) e)
  have bi:=aQ.out.only aq (fun e=>jh X.out aQ.out (by decide) e);have aL:=aP.out.trans (aq.to_below aP.out.size (fun r hr e=>by have:=(X.out.lt r e).1;omega))
  obtain⟨Q,R,rfl,_⟩:=je s;have ay:=Y.set 3 (.slice Q (c.length+1) R)
  rw[show(#[Value.int .i64 (n:Int),.string (B d),.slice D (c.length+1) E,.slice ea c.length ec,.string ⟨#[]⟩]:Array Value).setIfInBounds 3 (.slice Q (c.length+1) R)=#[.int .i64 (n:Int),.string (B d),.slice D (c.length+1) E,.slice Q (c.length+1) R,.string ⟨#[]⟩] from rfl]at ay;have ar:jH (· = y.heap.size) aA (aA.setCell ⟨y.heap.size,3,none⟩ (.slice Q (c.length+1) R)):=(jH.refl (· = y.heap.size) aA).cellS 3 _
  have cI:=joI (bK.box Y (by decide) (by decide) (by decide) ar);have ct:=joI (jG s ar (fun b e q=>jh s Y (by decide) (by rw[e,q])))
  have cr:=joI (bi.only ar (fun e=>by omega));have co:=joI (aL.trans (ar.to_below aL.size (fun r hr e=>by omega)))
  have bF:=joI ay;have df:=Y.cell 3
  have dP:=Y.frozen 3;have l2:=ay.cell 2
  simp only[joQ,joP,joO]at df l2;clear s U bL aG aq bK Y bi aL ay ar l2 bI X aR aQ aP cm dh cl cL;go_wp2_with fail;go_roundw
  case rel=>exact⟨c++[K],_,_,_,_,by rw[cD.out];go_num,RS.out,bF.out,cI.out,by rw[ES.out,joK];exact ct.out,cr.out,co.out⟩
  case measure =>
  show t.length+1-((W:Int)+(m:Int)).toNat<t.length+1-((W:Nat):Int).toNat;omega
 ·
  have v:=K6.set 4 (.string (B r));rw[show(#[Value.int .i64 (n:Int),.string (B d),.slice ba c.length bc,.slice ea c.length ec,.string ⟨#[]⟩]:Array Value).setIfInBounds 4 (.string (B r))=#[.int .i64 (n:Int),.string (B d),.slice ba c.length bc,.slice ea c.length ec,.string (B r)] from rfl]at v;have o7:jH (· = y.heap.size) w6 (w6.setCell ⟨y.heap.size,4,none⟩ (.string (B r))):=(jH.refl (· = y.heap.size) w6).cellS 4 _
  have f:=C6.only o7 (fun e=>by omega);have T7:=T6.box K6 (by decide) (by decide) (by decide) o7
  have E7:=jG E6 o7 (fun b e q=>jh E6 K6 (by decide) (by rw[e,q]));obtain⟨P8,o8⟩:=jfE f (.int .i64 (n:Int)) (.string (B d)) (.slice ba c.length bc) (.slice ea c.length ec) (.string (B r));have T8:=T7.box f (by decide) (by decide) (by decide) o8
  have E8:=jG E7 o8 (fun b e q=>jh E7 f (by decide) (by rw[e,q]));have cz:=joI P8
  have B7:=C.out.trans (o7.to_below C.out.size (fun r hr e=>by omega));have B8:=joI (B7.trans (o8.to_below B7.size (fun r hr e=>by omega)))
  have BR:=joI (show BookR w.heap.size _ (Qi n d (.slice ba c.length bc) (.slice ea c.length ec) r) n d c r from⟨_,_,us,rfl,T8,E8⟩);have cH:=joI (show vp Dc t n d c r from⟨bE.out,⟨bg,HP.out⟩,l,HR.out,cj⟩)
  have dA:=K6.frozen 4;have di:=K6.cell 4
  have a8:=f.cell 0;have aa:=f.cell 1
  have ae:=f.cell 2;have af:=f.cell 3
  have ag:=f.cell 4;have bN:=f.frozen 0
  have bO:=f.frozen 1;have bP:=f.frozen 2
  have bQ:=f.frozen 3;have bR:=f.frozen 4
  have dj:=v.cell 0;have dk:=v.cell 1
  have am:=v.cell 2;have dl:=v.cell 3
  have dm:=v.cell 4;simp only[joQ,joP,joO]at di a8 aa ae af ag dj dk am dl dm;clear K6 C6 T6 E6 v o7 f T7 E7 P8 o8 T8 E8 B7 cj;go_upto_region 19 with fail;rw[EX.out];go_wp2_with fail;refine bodyPost_ret (Vv rfl _ _ w.heap.size _ rfl cz.out rfl) rfl ?_;exact⟨B8.out,.inr (.inr ⟨d,c,r,_,by rw[N];exact cH.out,rfl,by rw[N];exact BR.out⟩)⟩
 ·
  have DE:=joI (ZM [] (by decide) w6);have FB:Hid (jkn Dc r):=.inl ⟨ce,ci⟩
  have DN:=joI jhM;clear ce ci;go_wp2_with fail;refine DE.out.mono ?_;rintro e w7 ⟨b7,h7⟩;have a7:=joI (C.out.trans (b7.mono C.out.size))
  have v:=jb K6 b7 K6.lt;have f:=jb C6 b7 C6.lt
  clear DE K6 C6 T6 E6 b7;rcases h7 with ⟨hd,rfl⟩|⟨aB,u7,bM,hd,_⟩
  rotate_left
  ·rw[DN.out]at hd;cases hd
  have a8:=f.cell 0;have aa:=f.cell 1
  have ae:=f.cell 2;have af:=f.cell 3
  have ag:=f.cell 4;have bN:=f.frozen 0
  have bO:=f.frozen 1;have bP:=f.frozen 2
  have bQ:=f.frozen 3;have bR:=f.frozen 4
  have am:=v.cell 2;simp only[joQ,joP,joO]at a8 aa ae af ag am;have CR:=joI (jdX a7.out f)
  clear v f;go_wp2_with fail;go_region
  all_goals go_wp2_with fail
  all_goals
   refine bodyPost_ret (Vv rfl _ _ w.heap.size _ rfl CR.out.2 rfl) rfl ?_;exact⟨CR.out.1,.inr (.inl ⟨bg,c,r,by rw[N,l];exact HP.out,by rw[N,l];exact HR.out,FB.out,rfl⟩)⟩
end Bk
end Go.Proofs.YtbapfpekklcicaaGreatDoor
