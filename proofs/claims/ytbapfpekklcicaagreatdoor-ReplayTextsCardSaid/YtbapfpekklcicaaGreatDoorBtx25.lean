/- Texts put together:DC,DE,CB,CC. -/
import Derived.WideShapes
import Derived.Test.YtbapfpekklcicaaGreatDoorBtx24
set_option linter.unusedVariables false
set_option maxRecDepth 100000
set_option maxHeartbeats 16000000
namespace Go.Proofs.YtbapfpekklcicaaGreatDoor
open Go.RowKit Go.Shelf Tryz
abbrev jpY:=@Go.Lib.decDigits_length
abbrev jpZ:=@Go.Lib.itoa_nonneg
abbrev jp1:=@List.takeWhile_sublist
abbrev jqt:=@Go.Lib.decDigits_one
abbrev jqA:=@Go.Lib.nDigits_le20
abbrev jqE:=@Array.getElem?_modify
abbrev jqJ:=@Go.IntWalk.wrap64_in
abbrev jqO:=@Go.IntKind.wrap_u64
abbrev jqV:=@List.head?_eq_getElem?
namespace Fr
open Go.Lib
def qH:List UInt8:=[48,48,48,48,48,48,48,48]
def qq:List UInt8:=[37,97,109,101,110,100,32,53,48,48,48,48,32,48,48,48,48,48,48,48,48]
theorem yg:Vb qH:=vV.2 ⟨rfl,by decide⟩
theorem Wj:qq=jP 50000 qH:=by unfold jP;rw[xF (by omega),xF (by omega),xF (by omega),xF (by omega),decDigits_one (by omega)];rfl
theorem jcH:decDigits 10=[49,48]:=by rw[xF (by omega),decDigits_one (by omega)];rfl
theorem jop:decDigits 1=[49]:=by rw[decDigits_one (by omega)];rfl
theorem JG{a b x y:List UInt8}(h:a++x=b++y):(∃q,b=a++q/\x=q++y)\/(∃c q,a=b++c::q/\y=c::q++x):=by
 rcases List.append_eq_append_iff.1 h with ⟨q,d,e⟩|⟨q,d,e⟩
 ·exact .inl ⟨q,d,e⟩
 cases q with
 | nil=>exact .inl ⟨[],by simpa using d.symm,by simpa using e.symm⟩
 | cons c q=>exact .inr ⟨c,q,d,e⟩
theorem jjL{r z f:List UInt8}(b:Vb f)(h:r++z=f):Vb (r++qH.drop r.length):=by
 obtain⟨d,hx⟩:=vV.1 b;have hl:r.length<=8:=by have:=congrArg List.length h;simp at this;omega
 refine vV.2 ⟨by simp[qH];omega,?_⟩;rw[jqi,jpk];rw[<- h,jqi,jpk]at hx;exact⟨hx.1,List.all_eq_true.2 fun c a=>by have:=jpz a;simp[qH]at this;subst this;decide⟩
theorem jhu{r:List UInt8}(hl:r.length<=8)(hx:r.all Xv=true):Vb (r++qH.drop r.length):=by refine vV.2 ⟨by simp[qH];omega,?_⟩;rw[jqi,jpk];exact⟨hx,List.all_eq_true.2 fun c a=>by have:=jpz a;simp[qH]at this;subst this;decide⟩
theorem jeZ{l:List UInt8}:yc l↔∃g,g<=21/\∃n f,jbM (l++qq.drop g) n f:=by
 constructor
 ·rintro⟨n,f,z,r,s,u,t⟩;unfold jP at t;rcases JG t with ⟨q,e,o⟩|⟨c,q,e,o⟩
  ·have x:q=AMD.drop l.length:=by rw[e];simp
   have hl:l.length<=7:=by have:=congrArg List.length e;simp[AMD]at this;omega
   refine⟨l.length,by omega,50000,qH,by omega,by omega,yg,?_⟩;rw[<- Wj];have b:qq=l++(q++qq.drop 7):=by rw[<- jo0,<- e];rfl
   have i:qq.drop l.length=q++qq.drop 7:=by rw[b,jp8,<- b]
   rw[i];exact b.symm
  rcases JG o with ⟨a,b,i⟩|⟨d,a,b,i⟩
  ·
   cases a with
   | nil =>
    rw[jo9]at b;refine⟨12,by omega,n,qH,r,s,yg,?_⟩;rw[e,b];unfold jP;rw[jo0];rfl
   | cons d a =>
   rw[jo6]at i;injection i with j p;subst j;have hl:a.length<=8:=by have:=congrArg List.length p;have:=xC u;simp at *;omega
   refine⟨13+a.length,by omega,n,a++qH.drop a.length,r,s,jjL u p.symm,?_⟩;rw[e,b];unfold jP;have:qq.drop (13+a.length)=qH.drop a.length:=by rw[<- jp7];rfl
   rw[this];simp
  ·
   obtain⟨v,j,y,k⟩:=WL n (c::q) (d::a) (by simp) b.symm;have w:=k (by omega)
   by_cases m:v=1
   ·subst m;refine⟨11,by omega,10,qH,by omega,by omega,yg,?_⟩;rw[e,j];unfold jP;rw[jcH,jop];rfl
   refine⟨12,by omega,v,qH,by omega,by omega,yg,?_⟩;rw[e,j];unfold jP;rw[jo0];rfl
 rintro⟨g,_,n,f,h⟩;exact⟨n,f,_,h.lo,h.hi,h.fig,h.eq⟩
theorem jiW{l:List UInt8}(h:yc l):l.length<=21:=by
 obtain⟨n,f,z,c,d,b,a⟩:=h;have:=congrArg List.length a
 have:=xG (show n<=99999 by omega);have:=xC b
 unfold jP AMD at *
 simp at *
 omega
def jim(t:List UInt8):Prop:=∃n f z y,2<=n/\n<=50000/\Vb f/\t++z=jP n f++10::y
theorem Wd{t:List UInt8}(h:¬jim t):jT t 3 [] 0:=by
 refine .inr (.inr ⟨?_,?_,rfl,rfl,rfl⟩)
 ·rintro⟨n,f,b,z,a,i,g,e,j⟩;obtain⟨c,d,_,_⟩:=good_iff.1 a;exact h ⟨n,f,z,_,by omega,by omega,g,e⟩
 rintro⟨b,a,zJ,rfl⟩;obtain⟨c,d,_,_⟩:=good_iff.1 a;exact h ⟨_,_,[],b++zj b.length++zJ,c,d,qR b,by unfold fullR;rw[qV];simp⟩
theorem UV{t:List UInt8}(h:yc t):jT t 2 [] 0:=by
 have a:(10:UInt8)∉t:=by obtain⟨n,f,z,e,g,c,b⟩:=h;intro d;exact vJ (n:=n) c (by rw[<- b];simp[d])
 exact .inr (.inl ⟨(jaP a).2 h,rfl,rfl,rfl⟩)
theorem jmo{t q:List UInt8}(h:AMD=t++q):jT t 2 [] 0 :=
 UV ⟨50000,qH,q++(decDigits 50000++32::qH),by omega,by omega,yg,by unfold jP;rw[<- jo0,<- h]⟩
theorem jnA{t:List UInt8}(hl:t.length<=7)(h:¬∃q,AMD=t++q):jT t 3 [] 0:=Wd (by
 rintro⟨n,f,z,y,d,e,g,b⟩;unfold jP at b;rw[jo0]at b;rcases JG b with ⟨q,a,_⟩|⟨c,q,a,_⟩
 ·exact h ⟨q,a⟩
 have:=congrArg List.length a;simp[AMD]at this;omega)
theorem ji8{t:List UInt8}(hl:7<=t.length)(h:¬∃q,t=AMD++q):jT t 3 [] 0:=Wd (by
 rintro⟨n,f,z,y,d,e,g,b⟩;unfold jP at b;rw[jo0]at b;rcases JG b with ⟨q,a,_⟩|⟨c,q,a,_⟩
 ·have:=congrArg List.length a;simp[AMD]at this;obtain rfl:q=[]:=jpP (by omega);exact h ⟨[],by rw[a];simp⟩
 exact h ⟨_,a⟩)
def dgB(c:UInt8):Bool:=decide (48<=c.toNat)&&decide (c.toNat<=57)
theorem jj6{s:List UInt8}(h:jim (AMD++s)):∃n f z y,2<=n/\n<=50000/\Vb f/\s++z=decDigits n++32::(f++10::y):=by obtain⟨n,f,z,y,b,c,d,a⟩:=h;unfold jP at a;rw[jo0,jo0]at a;exact⟨n,f,z,y,b,c,d,by rw[jqx a];simp⟩
theorem Yx{i r:List UInt8}(p:∀c∈i,dgB c=true)(t:∀c b,r=c::b->dgB c=false)(h:jim (AMD++(i++r))):
  ∃n,2<=n/\n<=50000/\((r=[]/\∃q,i++q=decDigits n)\/(i=decDigits n/\∃f z y b,Vb f/\r=32::b/\b++z=f++10::y)):=by
 obtain⟨n,f,z,y,m,o,s,l⟩:=jj6 h;refine⟨n,m,o,?_⟩;rw[jo0]at l;rcases JG l with ⟨q,e,a⟩|⟨c,q,e,a⟩
 ·cases r with
  | nil=>exact .inl ⟨rfl,q,e.symm⟩
  | cons c b =>
  cases q with
  | nil =>
   rw[jo6,jpC]at a;injection a with g j;subst g;exact .inr ⟨by rw[e];simp,f,z,y,b,s,rfl,j⟩
  | cons d q =>
  rw[jo6]at a;injection a with g j;subst g;have:=za n c (by rw[e];simp)
  have k:=t c b rfl;unfold dgB at k;simp[this.1,this.2]at k
 rw[jo6]at a;injection a with g j;subst g;have:=p 32 (by rw[e];simp)
 exact absurd this (by decide)
theorem jnu{a r:List UInt8}(d:∀c∈a,dgB c=true)(g:∀c i,r=c::i->dgB c=false)(h:5<a.length):jT (AMD++(a++r)) 3 [] 0:=Wd (by
 intro b;obtain⟨n,j,k,f⟩:=Yx d g b;have:=xG (show n<=99999 by omega)
 rcases f with ⟨_,q,e⟩|⟨e,_⟩
 ·have:=congrArg List.length e;simp at this;omega
 rw[<- e]at this;omega)
theorem jhR{a r:List UInt8}(j:∀c∈a,dgB c=true)(l:∀c o,r=c::o->dgB c=false)(m:a++r≠[])(h:∀v,1<=v->v<=50000->a≠decDigits v):jT (AMD++(a++r)) 3 [] 0:=Wd (by
 intro i;obtain⟨n,p,g,k⟩:=Yx j l i;rcases k with ⟨rfl,q,e⟩|⟨e,_⟩
 ·have b:a≠[]:=by simpa using m
  obtain⟨v,d,s,f⟩:=WL n a q b e;exact h v (f (by omega)) (by omega) d
 exact h n (by omega) g e)
theorem jnt{v:Nat}(c:1<=v)(a:v<=50000):jT (AMD++decDigits v) 2 [] 0:=UV (by
 by_cases b:v=1
 ·subst b;exact⟨10,qH,48::32::qH,by omega,by omega,yg,by unfold jP;rw[jcH,jop];rfl⟩
 exact⟨v,qH,32::qH,by omega,a,yg,by unfold jP;rw[jo0]⟩)
theorem jkM(v:Nat):∀c∈decDigits v,dgB c=true:=fun c a=>by have:=za v c a;simp[dgB,this.1,this.2]
theorem jhQ{v:Nat}{c:UInt8}{r:List UInt8}(p:v<=50000)(d:dgB c=false)(h:c≠32\/v<2):jT (AMD++(decDigits v++c::r)) 3 [] 0:=Wd (by
 intro i;obtain⟨n,l,m,g⟩:=Yx (jkM v) (fun k j e=>by injection e with e _;rw[<- e];exact d) i;rcases g with ⟨e,_⟩|⟨e,f,z,y,j,o,a,_⟩
 ·cases e
 injection a with b _;have:=jhO (by omega) (by omega) e
 rcases h with h|h
 ·exact h b
 omega)
def hx(l:List UInt8):Nat:=((l.take 8).takeWhile Xv).length
theorem jnd{n:Nat}{r:List UInt8}(b:2<=n)(c:n<=50000)(h:hx r=r.length):jT (AMD++(decDigits n++32::r)) 2 [] 0:=UV (by
 have a:r.length<=8:=by rw[<- h];unfold hx;exact jpg (jp1 _).length_le (by simp;omega)
 have d:r.all Xv=true:=by
  unfold hx at h;rw[jpi a]at h;have e:r.takeWhile Xv=r:=(jp1 _).eq_of_length h
  rw[<- e];exact jqd
 exact⟨n,r++qH.drop r.length,qH.drop r.length,b,c,jhu a d,by unfold jP;simp⟩)
theorem jnb{f y:List UInt8}(d:Vb f):hx (f++y)=8:=by
 obtain⟨a,b⟩:=vV.1 d;unfold hx;rw[jqw (by omega),jpi (by omega)];have:f.takeWhile Xv=f:=by
  have:∀l:List UInt8,l.all Xv=true->l.takeWhile Xv=l:=by
   intro l
   induction l with
   | nil=>intro _;rfl
   | cons c l e=>intro h;simp only[jqG,jpk]at h;rw[jpy,if_pos h.1,e h.2]
  exact this f b
 rw[this,a]
theorem jna{r z f:List UInt8}(b:Vb f)(h:r++z=f):hx r=r.length:=by
 obtain⟨e,a⟩:=vV.1 b;have hl:r.length<=8:=by have:=congrArg List.length h;simp at this;omega
 unfold hx;rw[jpi hl];rw[<- h,jqi,jpk]at a;have:∀l:List UInt8,l.all Xv=true->l.takeWhile Xv=l:=by
  intro l
  induction l with
  | nil=>intro _;rfl
  | cons c l d=>intro h;simp only[jqG,jpk]at h;rw[jpy,if_pos h.1,d h.2]
 rw[this r a.1]
theorem jne{n:Nat}{r:List UInt8}(v:n<=50000)(h:hx r≠r.length)(a:hx r<8\/r[8]?≠some 10):jT (AMD++(decDigits n++32::r)) 3 [] 0:=Wd (by
 intro s;obtain⟨w,m,o,p⟩:=Yx (jkM n) (fun u t e=>by injection e with e _;rw[<- e];decide) s;rcases p with ⟨e,_⟩|⟨e,f,z,y,t,b,i,j⟩
 ·cases e
 injection i with _ k;subst k;rcases JG j with ⟨q,d,_⟩|⟨c,q,d,g⟩
 ·exact h (jna b d.symm)
 rw[jo6]at g;injection g with l _;subst l;rw[d,jnb b]at a;rcases a with a|a
 ·omega
 apply a;rw[jo7 (by rw[xC b];omega),xC b];rfl)
theorem jnf{r:List UInt8}(b:hx r=8)(a:r[8]?=some 10):∃f q,Vb f/\r=f++10::q/\f=r.take 8/\q=r.drop 9:=by
 have hl:8<r.length:=by
  rcases jpc 8 r.length with h|h
  ·exact h
  rw[jpe h]at a;cases a
 refine⟨r.take 8,r.drop 9,vV.2 ⟨by simp;omega,?_⟩,?_,rfl,rfl⟩
 ·unfold hx at b;have e:(r.take 8).takeWhile Xv=r.take 8:=(jp1 _).eq_of_length (by rw[b];simp;omega)
  rw[<- e];exact jqd
 have e:=List.getElem?_eq_some_iff.1 a;obtain⟨c,e⟩:=e;have:=jpp c
 rw[e]at this;rw[<- this,jpb]
end Fr
namespace Fr
attribute [local go_sem] joY
theorem yi{P:Program}{w w':World}{N:Nat}{a:String}{c:Array Value}(h:w.var? P a=some c)(e:Below N w w')(i:w.heap.size<=N):w'.var? P a=some c:=by
 unfold World.var? at *
 cases d:P.globalNamed a with
 | none=>simp[d]at h
 | some g =>
 simp only[d,Option.bind_some]at h ⊢;have f:g<w.heap.size:=by
  rcases jpc g w.heap.size with b|b
  ·exact b
  rw[jpv b]at h;simp at h
 rw[e.block g (by omega)];exact h
structure TabsN(w:World):Prop where
 pow:Lib.TabIs prog w "internal/strconv.uint64pow10" .u64 Lib.pow10Tab
 syn:∃tp p,w.var? prog "strconv.ErrSyntax" = some #[.iface tp p]
 ran:∃tp p,w.var? prog "strconv.ErrRange" = some #[.iface tp p]
theorem TabsN.below{w w':World}{N:Nat}(h:TabsN w)(e:Below N w w')(b:w.heap.size<=N):TabsN w':=by obtain⟨a,⟨i,f,c⟩,⟨j,g,d⟩⟩:=h;exact⟨yi a e b,⟨i,f,yi c e b⟩,⟨j,g,yi d e b⟩⟩
theorem Jv{N:Nat}{w w':World}(h:Below N w w'){p:Addr}(c:N<=p.block)(k:Nat):Below N w (w'.freeze p k):=by
 unfold World.freeze;by_cases a:k=0
 ·rw[if_pos a];exact h
 rw[if_neg a];refine⟨h.os,h.tape,h.output,?_,fun j b => ?_⟩
 ·simp;exact h.size
 simp only[jqE];rw[if_neg (by omega)];exact h.block j b
theorem ZB(w:World)(e:TypeId)(s:ByteArray):Below w.heap.size w (Lib.bytesWorld w e s):=by unfold Lib.bytesWorld;exact Jv ((joL _ w).drew.alloc (joJ _) _) (joJ _) _
theorem atoi_any(l:List UInt8)(hl:l.length<=1000000)(w:World)(f:TabsN w):
  Calls prog 137 #[.string (B l)] w fun e a=>(∃T q,e=.returned (.tuple #[.int .i64 (qt l),.nilIface])\/e=.returned (.tuple #[.int .i64 (qt l),.iface T q]))/\Below w.heap.size w a:=by
 cases h:Lib.atoiAll l with
 | ok v =>
  refine(Tryz.strconv_Atoi_ok (B l) (by rw[jg];omega) v (by rw[jj];exact h) w).mono ?_;rintro e a ⟨rfl,g⟩;refine⟨⟨0,undef,.inl (by unfold qt;rw[h])⟩,?_⟩;rcases g with rfl|⟨t,rfl⟩
  ·exact joL _ _
  exact ZB _ _ _
 | range =>
  obtain⟨d,p,c⟩:=f.ran;refine(Tryz.strconv_Atoi_range_var (B l) (by rw[jg];omega) (by rw[jj];exact h) d p w c).mono ?_;rintro e a ⟨N,rfl,_,_,b⟩;exact⟨⟨_,_,.inr (by unfold qt;rw[h,jj])⟩,b⟩
 | _ =>
 obtain⟨d,p,c⟩:=f.syn;refine(Tryz.strconv_Atoi_syntax_var (B l) (by rw[jg];omega) (by rw[jj];exact h) d p w c).mono ?_;rintro e a ⟨N,rfl,_,_,b⟩;exact⟨⟨_,_,.inr (by unfold qt;rw[h])⟩,b⟩
theorem vF(u:Nat)(d:u<18446744073709551616)(w:World):Calls prog 197 #[.int .u64 u] w fun e f=>e=.returned (.string (B (Lib.decDigits u)))/\f=w:=by
 induction u using Nat.strongRecOn generalizing w with
 | _ u a =>
 by_cases h:u<10
 ·rw[jqt h];clear a d;obtain rfl|rfl|rfl|rfl|rfl|rfl|rfl|rfl|rfl|rfl:u=0\/u=1\/u=2\/u=3\/u=4\/u=5\/u=6\/u=7\/u=8\/u=9:=by omega
  all_goals
   go_enter func197,ntmps197;go_wp2_with fail;go_ret;exact⟨by kernel_rfl,rfl⟩
 have q:¬(u:Int)<10:=by omega
 have b:=joI (a (u / 10) (by omega) (by omega));have c:=joI (a (u % 10) (by omega) (by omega))
 rw[Int.natCast_ediv]at b;rw[Int.natCast_emod]at c;have E:Hid (B (Lib.decDigits (u / 10))++B (Lib.decDigits (u % 10))=B (Lib.decDigits u)):=by
  show _=_;rw[jn,jqt (i:=u % 10) (by omega)];congr 1
  conv=>rhs;rw[Lib.decDigits,dif_neg h]
 have j:(B (Lib.decDigits (u / 10))).size<=30:=by
  rw[jg,jpY];have:=jqA (u / 10) (by omega)
  omega
 have k:(B (Lib.decDigits (u % 10))).size<=30:=by rw[jg,jqt (by omega)];exact(by decide:1<=30)
 clear a;generalize B (Lib.decDigits (u / 10))=x at *
 generalize B (Lib.decDigits (u % 10))=y at *
 go_enter func197,ntmps197;go_wp2_with fail;refine(b.out _).mono ?_;rintro e g ⟨rfl,rfl⟩;go_wp2_with fail;refine(c.out _).mono ?_;rintro e g ⟨rfl,rfl⟩;go_wp2_with fail;go_ret;exact⟨by rw[<- E.out];rfl,rfl⟩
theorem figures_any(n:Int)(c:I64 n)(w:World):Calls prog 154 #[.int .i64 n] w fun e d=>e=.returned (.string (B (Lib.itoa n)))/\d=w:=by
 obtain⟨i,j⟩:=c;by_cases h:n<0
 ·obtain⟨u,rfl⟩:∃u:Nat,n = -((u:Int)+1):=⟨(-n-1).toNat,by omega⟩
  have b:IntKind.i64.wrap (-((u:Int)+1)+1) = -(u:Int):=by rw[show -((u:Int)+1)+1 = -(u:Int) by omega];exact jph _ (by omega)
  have k:IntKind.i64.wrap (u:Int)=(u:Int):=jph _ (by omega);have f:IntKind.u64.wrap (u:Int)=(u:Int):=by rw[jqO];omega
  have l:IntKind.u64.wrap ((u:Int)+1)=(u:Int)+1:=by rw[jqO];omega
  have a:=joI (vF (u+1) (by omega) w);rw[Int.natCast_add,show((1:Nat):Int)=1 from rfl]at a;have E:Hid ((⟨#[45]⟩:ByteArray)++B (Lib.decDigits (u+1))=B (Lib.itoa (-((u:Int)+1)))):=by show _=_;rw[show -((u:Int)+1) = -((u+1:Nat):Int) by omega,Lib.itoa_neg _ (by omega),show(⟨#[45]⟩:ByteArray)=B [45] from rfl,jn];rfl
  have g:(B (Lib.decDigits (u+1))).size<=30:=by
   rw[jg,jpY];have:=jqA (u+1) (by omega)
   omega
  generalize B (Lib.decDigits (u+1))=x at *
  go_enter func154,ntmps154;go_wp2_with fail;refine a.out.mono ?_;rintro e b ⟨rfl,rfl⟩;go_wp2_with fail;go_ret;exact⟨by rw[<- E.out];rfl,rfl⟩
 obtain⟨u,rfl⟩:∃u:Nat,n=(u:Int):=⟨n.toNat,by omega⟩
 have f:IntKind.u64.wrap (u:Int)=(u:Int):=by rw[jqO];omega
 have a:=joI (vF u (by omega) w);rw[jpZ];generalize B (Lib.decDigits u)=x at *
 go_enter func154,ntmps154;go_wp2_with fail;refine a.out.mono ?_;rintro e b ⟨rfl,rfl⟩;go_wp2_with fail;go_ret;exact⟨rfl,rfl⟩
def numL(l:List UInt8):Option Int:=if -9223372036854775808<=qt l/\qt l<=9223372036854775807/\Lib.itoa (qt l)=l then some (qt l) else none
theorem numL_some{l:List UInt8}{i:Int}:numL l=some i↔I64 i/\Lib.itoa i=l:=by
 unfold numL;constructor
 ·intro h;split at h
  ·rename_i q;injection h with h;subst h;exact⟨⟨q.1,q.2.1⟩,q.2.2⟩
  cases h
 rintro⟨a,rfl⟩;rw[vB a,if_pos ⟨a.1,a.2,rfl⟩]
theorem Xf{l:List UInt8}(h:∀i,I64 i->Lib.itoa i≠l):numL l=none:=by
 cases e:numL l with
 | none=>rfl
 | some i=>exact absurd (numL_some.1 e).2 (h i (numL_some.1 e).1)
def numEnd(l:List UInt8):Ending:=.returned (.tuple #[.int .i64 ((numL l).getD 0),.bool (numL l).isSome])
theorem qB{l:List UInt8}(h:∀i,I64 i->Lib.itoa i≠l):numEnd l=.returned (.tuple #[.int .i64 0,.bool false]):=by unfold numEnd;rw[Xf h];rfl
theorem yQ{l:List UInt8}{i:Int}(h:I64 i)(e:Lib.itoa i=l):numEnd l=.returned (.tuple #[.int .i64 i,.bool true]):=by unfold numEnd;rw[numL_some.2 ⟨h,e⟩];rfl
theorem XM(u:Nat)(h:u<18446744073709551616):1<=(Lib.decDigits u).length/\(Lib.decDigits u).length<=20:=by
 refine⟨?_,by rw[jpY];exact jqA u h⟩;rcases jp3 (Lib.decDigits u).length with q|q
 ·exact absurd (List.length_eq_zero_iff.1 q) (WS u)
 exact q
theorem Gh{i:Int}(h:I64 i):1<=(Lib.itoa i).length/\(Lib.itoa i).length<=20:=by
 obtain⟨d,e⟩:=h;have a:∀u:Nat,u<=9223372036854775808->(Lib.decDigits u).length<=19:=fun u f=>by
  rcases jpc 19 (Lib.decDigits u).length with q|q
  ·exfalso;rw[jpY]at q;have:∀n u:Nat,n<Lib.nDigits u->10 ^ n<=u\/n=0:=by
    intro n
    induction n with
    | zero=>exact fun _ _=>.inr rfl
    | succ n c =>
    intro u b;rw[Lib.nDigits]at b;split at b
    ·omega
    rcases c (u / 10) (by omega) with z|z
    ·left;rw[jrc];omega
    subst z;left;omega
   rcases this 19 u q with z|z
   ·have:(10:Nat) ^ 19=10000000000000000000:=by decide
    omega
   omega
  exact q
 unfold Lib.itoa;split
 ·rw[joR];have:=a i.natAbs (by omega)
  omega
 exact⟨(XM _ (by omega)).1,(XM _ (by omega)).2⟩
theorem jbR(z:Int):I64 (wrap64 z):=by unfold I64 wrap64;omega
theorem yT{i:Int}(f:I64 i){l:List UInt8}(h:Lib.itoa i=l)(a:Nat)(b:a=if l.head?=some 45 then 1 else 0):
  ∃u:Nat,u<=9223372036854775808/\l.drop a=Lib.decDigits u/\i=(if a=1 then -(u:Int) else u):=by
 obtain⟨g,j⟩:=f;subst h;by_cases c:i<0
 ·have e:Lib.itoa i=45::Lib.decDigits i.natAbs:=by unfold Lib.itoa;rw[if_pos c]
  rw[e]at b ⊢;rw[if_pos (by rfl)]at b;subst b;exact⟨i.natAbs,by omega,rfl,by simp;omega⟩
 have e:Lib.itoa i=Lib.decDigits i.toNat:=by unfold Lib.itoa;rw[if_neg c]
 have d:(Lib.decDigits i.toNat).head?≠some 45:=fun q=>by have:=za i.toNat 45 (List.mem_of_mem_head? q);simp at this
 rw[e]at b ⊢;rw[if_neg d]at b;subst b;exact⟨i.toNat,by omega,rfl,by simp;omega⟩
theorem ZP{u:Nat}(i:u<=9223372036854775808){a:List UInt8}(d:a=Lib.decDigits u){j:Nat}{x:UInt8}(hx:a[j]?=some x):
  wrap64 (wrap64 (10*Jk 0 (a.take j))-((x.toNat:Int)-48))=Jk 0 (a.take (j+1)):=by
 subst d;have e:(Lib.decDigits u).take (j+1)=(Lib.decDigits u).take j++[x]:=by rw[jpd,hx];rfl
 obtain⟨k,b,f⟩:=JM u (j+1);obtain⟨m,c,h⟩:=JM u j;have g:=za u x (joW hx)
 rw[e,QV,c]at b ⊢;rw[jqJ (10 * -(m:Int)) (by omega),jqJ _ (by omega)]
theorem QU(s:ByteArray)(h1:1<=s.size)(U:s.size<=20)(Z:((s[0].toNat:Int)==45)=true)(w:World):
  Calls prog 95 #[.string s] w fun e I=>e=numEnd s.data.toList/\I=w:=by
 have h2:decide ((s.size:Int)<1)=false:=by simp;omega
 have h3:decide (20<(s.size:Int))=false:=by simp;omega
 have t:∀(k:Nat) (h:k<s.size),s.data.toList[k]?=some s[k]:=fun k h=>by rw[joM (by rw[<- jo2];exact h)];rfl
 have n:s.data.toList.head?=some s[0]:=by rw[jqV];exact t 0 (by omega)
 have J:1=if s.data.toList.head?=some 45 then 1 else 0:=by rw[n];rw[if_pos (by congr 1;apply UInt8.toNat_inj.1;have e3:(45:UInt8).toNat=45:=rfl;have:=eq_of_beq Z;omega)]
 have A:Hid (∀i,I64 i->Lib.itoa i=s.data.toList->∃u:Nat,u<=9223372036854775808/\s.data.toList.drop 1=Lib.decDigits u/\i=(if 1=1 then -(u:Int) else u)):=fun i c e=>yT c e 1 J;have x:=joI t
 have p:s.data.toList.length=s.size:=(jo2 s).symm;clear t J n;go_enter func95,ntmps95;go_wp2_with fail;go_loop [5,6] (fun o i=>∃(j:Nat) (z:Int),1<=j/\j<=s.size/\i=.int .i64 j/\o=.int .i64 z/\I64 z/\((∃i,I64 i/\Lib.itoa i=s.data.toList)->z=Jk 0 ((s.data.toList.drop 1).take (j-1)))) (fun _ i=>s.size-(intOf i).toNat)
 case atStart=>exact⟨1,0,joJ _,by omega,rfl,rfl,⟨by decide,by decide⟩,fun _=>rfl⟩
 case round =>
 obtain⟨j,z,W,hj,rfl,rfl,P,a⟩:=hrel;by_cases q:j<s.size
 ·have hb:=s[j].toNat_lt;have hx:=x.out j q
  by_cases H:¬(48<=s[j].toNat/\s[j].toNat<=57)
  ·have r:=joI (qB (l:=s.data.toList) (fun i c e=>by
    obtain⟨u,_,g,_⟩:=A.out i c e;have N:s[j]∈s.data.toList.drop 1:=joW (i:=j-1) (by rw[jpq,show 1+(j-1)=j by omega];exact hx)
    rw[g]at N;exact H (za u _ N)))
   clear a hx P;by_cases hc:s[j].toNat<48
   ·have Q:decide ((s[j].toNat:Int)<48)=true:=by simp;omega
    go_wp2_with fail;go_ret2;exact⟨by rw[r.out];rfl,rfl⟩
   have Q:decide ((s[j].toNat:Int)<48)=false:=by simp;omega
   have q2:decide (57<(s[j].toNat:Int))=true:=by simp;omega
   go_wp2_with fail;go_ret2;exact⟨by rw[r.out];rfl,rfl⟩
  replace H:=Classical.not_not.1 H;have Q:decide ((s[j].toNat:Int)<48)=false:=by simp;omega
  have q2:decide (57<(s[j].toNat:Int))=false:=by simp;omega
  have R:Hid ((∃i,I64 i/\Lib.itoa i=s.data.toList)->wrap64 (wrap64 (10*z)-((s[j].toNat:Int)-48))=Jk 0 ((s.data.toList.drop 1).take (j+1-1))):=fun m=>by obtain⟨i,c,e⟩:=_root_.id m;obtain⟨u,O,g,_⟩:=A.out i c e;rw[a m,show j+1-1=(j-1)+1 by omega];exact ZP O g (by rw[jpq,show 1+(j-1)=j by omega];exact hx)
  clear a hx;go_wp2_with fail;go_round
  case rel=>exact⟨j+1,_,by omega,q,by go_num,rfl,jbR _,R.out⟩
  case measure=>simp[intOf];omega
 obtain rfl:j=s.size:=by omega
 obtain⟨d,b⟩:∃d,d=z:=⟨_,rfl⟩
 have L:I64 d:=by rw[b];exact P
 have C:∀i,I64 i->Lib.itoa i=s.data.toList->d=i:=fun i c e=>by
  obtain⟨u,O,g,E⟩:=A.out i c e;have X:=a ⟨i,c,e⟩
  rw[jpi (by rw[joX,p];exact joJ _),g,Jj]at X;simp at E;omega
 have v:=joI (figures_any d L w);by_cases f:Lib.itoa d=s.data.toList
 ·have D:=joI (yQ L f);have K:B (Lib.itoa d)=s:=by rw[f];rfl
  rw[K]at v;clear a C f K;have y:=joI b
  clear b;go_wp2_with fail;rw[<- y.out];refine v.out.mono ?_;rintro e I ⟨rfl,rfl⟩;go_wp2_with fail;go_ret2;exact⟨by rw[D.out];rfl,rfl⟩
 have r:=joI (qB (l:=s.data.toList) (fun i c e=>f (by rw[C i c e];exact e)));have G:¬(B (Lib.itoa d)).toList=s.toList:=fun e=>f (by rw[jpn,jpn,jj]at e;exact e)
 have Y:((B (Lib.itoa d)).toList==s.toList)=false:=by simpa using G
 clear a C f;have y:=joI b
 clear b;generalize B (Lib.itoa d)=V at *
 go_wp2_with fail;rw[<- y.out];refine v.out.mono ?_;rintro e I ⟨rfl,rfl⟩;go_wp2_with fail;go_ret2;exact⟨by rw[r.out];rfl,rfl⟩
theorem QT(s:ByteArray)(h1:1<=s.size)(W:s.size<=20)(O:((s[0].toNat:Int)==45)=false)(w:World):
  Calls prog 95 #[.string s] w fun e I=>e=numEnd s.data.toList/\I=w:=by
 have h2:decide ((s.size:Int)<1)=false:=by simp;omega
 have h3:decide (20<(s.size:Int))=false:=by simp;omega
 have t:∀(k:Nat) (h:k<s.size),s.data.toList[k]?=some s[k]:=fun k h=>by rw[joM (by rw[<- jo2];exact h)];rfl
 have n:s.data.toList.head?=some s[0]:=by rw[jqV];exact t 0 (by omega)
 have J:0=if s.data.toList.head?=some 45 then 1 else 0:=by rw[n];rw[if_neg (fun e=>by have U:=congrArg UInt8.toNat (joN e);rw[U]at O;simp at O)]
 have A:Hid (∀i,I64 i->Lib.itoa i=s.data.toList->∃u:Nat,u<=9223372036854775808/\s.data.toList.drop 0=Lib.decDigits u/\i=(if 0=1 then -(u:Int) else u)):=fun i c e=>yT c e 0 J;have x:=joI t
 have p:s.data.toList.length=s.size:=(jo2 s).symm;clear t J n;go_enter func95,ntmps95;go_wp2_with fail;go_loop [5,6] (fun o i=>∃(j:Nat) (z:Int),0<=j/\j<=s.size/\i=.int .i64 j/\o=.int .i64 z/\I64 z/\((∃i,I64 i/\Lib.itoa i=s.data.toList)->z=Jk 0 ((s.data.toList.drop 0).take (j-0)))) (fun _ i=>s.size-(intOf i).toNat)
 case atStart=>exact⟨0,0,joJ _,by omega,rfl,rfl,⟨by decide,by decide⟩,fun _=>rfl⟩
 case round =>
 obtain⟨j,z,X,hj,rfl,rfl,hz,a⟩:=hrel;by_cases q:j<s.size
 ·have hb:=s[j].toNat_lt;have hx:=x.out j q
  by_cases H:¬(48<=s[j].toNat/\s[j].toNat<=57)
  ·have r:=joI (qB (l:=s.data.toList) (fun i c e=>by
    obtain⟨u,_,g,_⟩:=A.out i c e;have N:s[j]∈s.data.toList.drop 0:=joW (i:=j-0) (by rw[jpq,show 0+(j-0)=j by omega];exact hx)
    rw[g]at N;exact H (za u _ N)))
   clear a hx hz;by_cases hc:s[j].toNat<48
   ·have Q:decide ((s[j].toNat:Int)<48)=true:=by simp;omega
    go_wp2_with fail;go_ret2;exact⟨by rw[r.out];rfl,rfl⟩
   have Q:decide ((s[j].toNat:Int)<48)=false:=by simp;omega
   have q2:decide (57<(s[j].toNat:Int))=true:=by simp;omega
   go_wp2_with fail;go_ret2;exact⟨by rw[r.out];rfl,rfl⟩
  replace H:=Classical.not_not.1 H;have Q:decide ((s[j].toNat:Int)<48)=false:=by simp;omega
  have q2:decide (57<(s[j].toNat:Int))=false:=by simp;omega
  have R:Hid ((∃i,I64 i/\Lib.itoa i=s.data.toList)->wrap64 (wrap64 (10*z)-((s[j].toNat:Int)-48))=Jk 0 ((s.data.toList.drop 0).take (j+1-0))):=fun m=>by obtain⟨i,c,e⟩:=_root_.id m;obtain⟨u,P,g,_⟩:=A.out i c e;rw[a m,show j+1-0=(j-0)+1 by omega];exact ZP P g (by rw[jpq,show 0+(j-0)=j by omega];exact hx)
  clear a hx;go_wp2_with fail;go_round
  case rel=>exact⟨j+1,_,by omega,q,by go_num,rfl,jbR _,R.out⟩
  case measure=>simp[intOf];omega
 obtain rfl:j=s.size:=by omega
 obtain⟨d,b⟩:∃d,d=wrap64 (-z):=⟨_,rfl⟩
 have L:I64 d:=by rw[b];exact jbR _
 have C:∀i,I64 i->Lib.itoa i=s.data.toList->d=i:=fun i c e=>by
  obtain⟨u,P,g,E⟩:=A.out i c e;have Y:=a ⟨i,c,e⟩
  rw[jpi (by rw[joX,p];exact joJ _),g,Jj]at Y;obtain⟨i0,i1⟩:=c;simp at E;rw[b,jqJ _ (by omega)];omega
 have v:=joI (figures_any d L w);by_cases f:Lib.itoa d=s.data.toList
 ·have D:=joI (yQ L f);have K:B (Lib.itoa d)=s:=by rw[f];rfl
  rw[K]at v;clear a C f K;have y:=joI b
  clear b;go_wp2_with fail;rw[<- y.out];refine v.out.mono ?_;rintro e I ⟨rfl,rfl⟩;go_wp2_with fail;go_ret2;exact⟨by rw[D.out];rfl,rfl⟩
 have r:=joI (qB (l:=s.data.toList) (fun i c e=>f (by rw[C i c e];exact e)));have G:¬(B (Lib.itoa d)).toList=s.toList:=fun e=>f (by rw[jpn,jpn,jj]at e;exact e)
 have Z:((B (Lib.itoa d)).toList==s.toList)=false:=by simpa using G
 clear a C f;have y:=joI b
 clear b;generalize B (Lib.itoa d)=V at *
 go_wp2_with fail;rw[<- y.out];refine v.out.mono ?_;rintro e I ⟨rfl,rfl⟩;go_wp2_with fail;go_ret2;exact⟨by rw[r.out];rfl,rfl⟩
theorem number_any(l:List UInt8)(hl:l.length<=1000000)(w:World):
  Calls prog 95 #[.string (B l)] w fun e h=>e=numEnd l/\h=w:=by
 have d:=jg l;by_cases a:1<=(B l).size/\(B l).size<=20
 ·cases c:(((B l)[0]'(by omega)).toNat:Int)==45 with
  | true=>exact QU (B l) a.1 a.2 c w
  | false=>exact QT (B l) a.1 a.2 c w
 have b:=joI (qB (l:=l) (fun i f e=>by
  apply a;rw[d,<- e];exact Gh f))
 generalize B l=s at *
 by_cases j:s.size<1
 ·have g:decide ((s.size:Int)<1)=true:=by simp;omega
  go_enter func95,ntmps95;go_wp2_with fail;go_ret2;exact⟨by rw[b.out];rfl,rfl⟩
 have g:decide ((s.size:Int)<1)=false:=by simp;omega
 have k:decide (20<(s.size:Int))=true:=by simp;omega
 go_enter func95,ntmps95;go_wp2_with fail;go_ret2;exact⟨by rw[b.out];rfl,rfl⟩
end Fr
namespace Sm
theorem take_snoc(s:ByteArray)(k:Nat)(h:k<s.size):s.data.toList.take (k+1)=s.data.toList.take k++[s[k]]:=by rw[jqo (by simpa using h)];rfl
theorem joj(x c:Nat)(hx:x<4294967296)(a:c<256):bits .xor .u32 (x:Int) ((c:Int)*16777216)=((x ^^^ c*16777216:Nat):Int):=by
 have h:=M.m24 c a;have e:((c:Int)*16777216)=((c*16777216:Nat):Int):=by omega
 rw[e];exact u32_xor_nat _ _ hx h
theorem jb3{k:IntKind}{a b:Int}(h:a=b):Ending.returned (.int k a)=.returned (.int k b):=by rw[h]
theorem jks(z:Nat)(c:z<4294967296)(h:((z:Int) / 2147483648==1)=true):bits .xor .u32 ((z:Int)*2 % 4294967296) 79764919=((M.st z:Nat):Int):=by
 have b:(z:Int) / 2147483648=1:=by simpa using h
 have a:z / 2147483648=1:=by omega
 unfold M.st;rw[if_pos a];have e:((z:Int)*2 % 4294967296)=((z*2 % 4294967296:Nat):Int):=by omega
 rw[e];exact u32_xor_nat _ 79764919 (jq2 _ (by decide)) (by decide)
theorem jmL(z:Nat)(h:((z:Int) / 2147483648==1)=false):((z:Int)*2 % 4294967296)=((M.st z:Nat):Int):=by
 have b:¬(z:Int) / 2147483648=1:=by simpa using h
 have a:¬z / 2147483648=1:=by omega
 unfold M.st;rw[if_neg a];omega
theorem jeA(a:Nat)(A:a<4294967296)(s:ByteArray)(w:World)(q:s.size<=maxLen):
  Calls prog 158 #[.int .u32 a,.string s] w fun e u=>e=.returned (.int .u32 ((4294967295-M.feed (4294967295-a) s.data.toList:Nat):Int))/\w=u:=by
 unfold maxLen at q;go_enter func158,ntmps158;go_wp2;go_loop [5,6] (fun x i=>∃k:Nat,k<=s.size/\i=.int .i64 k/\x=.int .u32 (M.feed (4294967295-a) (s.data.toList.take k):Nat)) (fun _ i=>s.size-(intOf i).toNat)
 case atStart=>exact⟨0,joT _,rfl,by simp[M.feed];omega⟩
 case round =>
 obtain⟨k,D,rfl,rfl⟩:=hrel;by_cases d:k<s.size
 ·have hx:=M.feed_lt (s.data.toList.take k) (4294967295-a) (by omega);have l:=s[k].toNat_lt
  have m:Hid (M.feed (4294967295-a) (s.data.toList.take (k+1))=M.stn 8 (M.feed (4294967295-a) (s.data.toList.take k) ^^^ s[k].toNat*16777216)):=by rw[take_snoc s k d,M.feed_snoc];rfl
  have r:M.feed (4294967295-a) (s.data.toList.take k) ^^^ s[k].toNat*16777216<4294967296:=jqC (n:=32) hx (M.m24 _ l);have X:=joj _ _ hx l
  go_wp2;clear X;generalize M.feed (4294967295-a) (s.data.toList.take k)=v at *
  generalize g:v ^^^ s[k].toNat*16777216=y at *
  clear g;go_loop [5,7] (fun x i=>∃j:Nat,j<=8/\i=.int .i64 j/\x=.int .u32 (M.stn j y:Nat)) (fun _ i=>8-(intOf i).toNat)
  case atStart=>exact⟨0,by omega,rfl,rfl⟩
  case round =>
  obtain⟨j,C,rfl,rfl⟩:=hrel;have t:=M.stn_lt j y r
  have b:=M.stn_succ j y;generalize c:M.stn j y=z at *
  have o:=joI c;clear c;have h:=joI b
  clear b;go_wp2
  ·have f:((z:Int) / 2147483648==1)=true:=by assumption
   go_round
   case rel=>exact⟨j+1,by omega,by go_num,by rw[h.out,jks z t f]⟩
   case measure=>simp[intOf];omega
  ·have f:((z:Int) / 2147483648==1)=false:=by assumption
   go_round
   case rel=>exact⟨j+1,by omega,by go_num,by rw[h.out,jmL z f]⟩
   case measure=>simp[intOf];omega
  have:j=8:=by omega
  go_round
  case rel=>exact⟨k+1,by omega,by go_num,by rw[m.out,<- o.out,this]⟩
  case measure=>simp[intOf];omega
 go_wp2;have:k=s.size:=by omega
 subst this;go_ret;have p:=M.feed_lt s.data.toList (4294967295-a) (by omega)
 exact⟨by rw[jpi (by simp)];exact jb3 (by omega),rfl⟩
def T(k j:Nat):Nat:=if j<k then M.stn 4 (j*268435456) else 0
def tab(k:Nat):Array Value:=#[.int .u32 (T k 0:Nat),.int .u32 (T k 1:Nat),.int .u32 (T k 2:Nat),.int .u32 (T k 3:Nat),.int .u32 (T k 4:Nat),.int .u32 (T k 5:Nat),.int .u32 (T k 6:Nat),.int .u32 (T k 7:Nat),.int .u32 (T k 8:Nat),.int .u32 (T k 9:Nat),.int .u32 (T k 10:Nat),.int .u32 (T k 11:Nat),.int .u32 (T k 12:Nat),.int .u32 (T k 13:Nat),.int .u32 (T k 14:Nat),.int .u32 (T k 15:Nat)]
theorem Yh(k:Nat):(tab k).size=16:=rfl
theorem Uc(k j:Nat)(h:j<16):(tab k)[j]?=some (.int .u32 (T k j:Nat)):=by
 match j,h with
 | 0,_ | 1,_ | 2,_ | 3,_ | 4,_ | 5,_ | 6,_ | 7,_ | 8,_ | 9,_ | 10,_ | 11,_ | 12,_ | 13,_ | 14,_ | 15,_=>rfl
 | n+16,h=>omega
theorem jkX(k:Nat)(h:k<16):(tab k).setIfInBounds k (.int .u32 (M.stn 4 (k*268435456):Nat))=tab (k+1):=by
 apply jqT;intro j;rw[jps];by_cases b:j<16
 ·rw[Uc _ _ b,Uc _ _ b,Yh];by_cases e:k=j
  ·subst e;simp[h,T]
  have:T (k+1) j=T k j:=by unfold T;by_cases a:j<k<;>simp[a]<;>omega
  rw[if_neg e,this]
 have:k≠j:=by omega
 rw[if_neg this,jpv (by rw[Yh];omega),jpv (by rw[Yh];omega)]
theorem je1(w:World):
  Calls prog 171 #[] w fun e n=>e=.returned (.agg (tab 16))/\Below w.heap.size w n:=by
 go_enter func171,ntmps171;go_wp2;go_loopw [3,5] (fun r i wr=>∃k:Nat,k<=16/\i=.int .i64 k/\wr=(w.alloc (.cells #[Value.int IntKind.u32 0,Value.int IntKind.u32 0,Value.int IntKind.u32 0,Value.int IntKind.u32 0,Value.int IntKind.u32 0,Value.int IntKind.u32 0,Value.int IntKind.u32 0,Value.int IntKind.u32 0,Value.int IntKind.u32 0,Value.int IntKind.u32 0,Value.int IntKind.u32 0,Value.int IntKind.u32 0,Value.int IntKind.u32 0,Value.int IntKind.u32 0,Value.int IntKind.u32 0,Value.int IntKind.u32 0] 240)).alloc (.cells (tab k) 240)) (fun _ i _=>16-(intOf i).toNat)
 case atStart=>exact⟨0,by omega,rfl,rfl⟩
 case round =>
 obtain⟨k,p,rfl,rfl⟩:=hrel;by_cases b:k<16
 ·have hx:k*268435456<4294967296:=by omega
  go_wp2;go_loop [3,11] (fun x i=>∃j:Nat,j<=4/\i=.int .i64 j/\x=.int .u32 (M.stn j (k*268435456):Nat)) (fun _ i=>4-(intOf i).toNat)
  case atStart=>exact⟨0,by omega,rfl,by simp[M.stn]⟩
  case round =>
  obtain⟨j,o,rfl,rfl⟩:=hrel;have m:=M.stn_lt j _ hx
  have c:=M.stn_succ j (k*268435456);have f:=Uc k k b
  have a:=jkX k b;generalize d:M.stn j (k*268435456)=z at *
  have l:=joI d;have g:=joI c
  have h:=joI a;clear d c a;go_wp2
  ·have f:((z:Int) / 2147483648==1)=true:=by assumption
   go_round
   case rel=>exact⟨j+1,by omega,by go_num,by rw[g.out,jks z m f]⟩
   case measure=>simp[intOf];omega
  ·have f:((z:Int) / 2147483648==1)=false:=by assumption
   go_round
   case rel=>exact⟨j+1,by omega,by go_num,by rw[g.out,jmL z f]⟩
   case measure=>simp[intOf];omega
  have:j=4:=by omega
  go_roundw
  case rel=>exact⟨k+1,by omega,by go_num,by rw[<- h.out,<- l.out,this]⟩
  case measure=>simp[intOf];omega
 have:k=16:=by omega
 subst this;simp only[tab];go_wp2;exact bodyPost_ret (v:=.agg (tab 16)) (by simp[results,results171,go_sem,tab]) rfl ⟨rfl,by repeat (first | exact joL _ _ | (refine Below.alloc ?_ (by simp) _) | (refine Below.setCell ?_ (by simp) _))⟩
theorem jnn(y:Nat)(a:y<4294967296):(tab 16)[y / 268435456]?=some (.int .u32 (M.stn 4 (y / 268435456*268435456):Nat)):=by
 have h:y / 268435456<16:=by omega
 rw[Uc 16 _ h];unfold T;rw[if_pos h]
theorem joo(y:Nat)(c:y<4294967296):bits .xor .u32 ((y:Int)*16 % 4294967296) (M.stn 4 (y / 268435456*268435456):Nat)=((M.stn 4 y:Nat):Int):=by
 have a:y / 268435456*268435456<4294967296:=by omega
 have b:=M.stn_lt 4 _ a;rw[M.four y c];have e:((y:Int)*16 % 4294967296)=((y*16 % 4294967296:Nat):Int):=by omega
 rw[e];exact u32_xor_nat _ _ (jq2 _ (by decide)) b
theorem jjN(x:Nat)(hx:x<4294967296)(s:ByteArray)(w:World)(j:s.size<=maxLen):
  Calls prog 172 #[.int .u32 x,.agg (tab 16),.string s] w fun e l=>e=.returned (.int .u32 (M.feed x s.data.toList:Nat))/\Below w.heap.size w l:=by
 unfold maxLen at j;go_enter func172,ntmps172;go_wp2;go_loop [0,10] (fun r i=>∃k:Nat,k<=s.size/\i=.int .i64 k/\r=.int .u32 (M.feed x (s.data.toList.take k):Nat)) (fun _ i=>s.size-(intOf i).toNat)
 case atStart=>exact⟨0,by omega,rfl,rfl⟩
 case round =>
 obtain⟨k,p,rfl,rfl⟩:=hrel;by_cases b:k<s.size
 ·have a:=M.feed_lt (s.data.toList.take k) x hx;have d:=s[k].toNat_lt
  have h:Hid (M.feed x (s.data.toList.take (k+1))=M.stn 4 (M.stn 4 (M.feed x (s.data.toList.take k) ^^^ s[k].toNat*16777216))):=by rw[take_snoc s k b,M.feed_snoc];rfl
  generalize M.feed x (s.data.toList.take k)=g at *
  have X:=joj _ _ a d;have c:g ^^^ s[k].toNat*16777216<4294967296:=jqC (n:=32) a (M.m24 _ d)
  generalize g ^^^ s[k].toNat*16777216=y at *
  have f:=M.stn_lt 4 y c;have m:=jnn y c
  have q:=joo y c;generalize M.stn 4 y=z at *
  have o:=jnn z f;have t:=joo z f
  go_wp2;go_round
  case rel=>exact⟨k+1,by omega,by go_num,by rw[h.out]⟩
  case measure=>simp[intOf];omega
 go_wp2;have:k=s.size:=by omega
 subst this;go_ret;exact⟨by rw[jpi (by simp)];rfl,(joL _ _).alloc (joJ _) _⟩
def Strs(w:World)(v:Value)(ss:List ByteArray):Prop :=
 ∃A cap,v=.slice A ss.length cap/\(∀i s,ss[i]?=some s->∃b off,A=some ⟨b,off,none⟩/\b<w.heap.size/\w.cell? ⟨b,off+i,none⟩=some (.string s))
theorem jc8:(prog.info? 240).map (·.size)=some (tab 16).size:=by kernel_rfl
theorem jkY:(tab 16).all (·.oneCell')=true:=by kernel_rfl
theorem jn8(x:Nat)(h:x<4294967296):bits .xor .u32 IntKind.u32.max (x:Int)=((4294967295-x:Nat):Int):=by
 have e:IntKind.u32.max=((4294967295:Nat):Int):=by decide
 rw[e,u32_xor_nat _ _ (by decide) h];congr 1;apply jrs;intro i;have b:(4294967295-x)=2 ^ 32-(x+1):=by omega
 have c:(4294967295:Nat)=2 ^ 32-1:=by decide
 rw[b,jq9,Nat.testBit_two_pow_sub_succ h,c,Nat.testBit_two_pow_sub_one];by_cases a:i<32
 ·simp[a]
 have d:2 ^ 32<=2 ^ i:=Nat.pow_le_pow_right (by decide) (by omega);have:x.testBit i=false:=Nat.testBit_lt_two_pow (jo4 h d)
 simp[a,this]
def jnD(w:World)(B:Nat):Prop:=w.heap[B]?=some (.cells (tab 16) 240 (0,0))
theorem sum_any(v:Value)(a:List ByteArray)(w:World)(J:Strs w v a)(hl:a.length<=maxLen)(E:∀(i:Nat) (s:ByteArray),a[i]?=some s->s.size<=maxLen):
  Calls prog 126 #[v] w fun e K=>e=.returned (.int .u32 (4294967295-M.feed 4294967295 (cat a):Nat))/\Below w.heap.size w K:=by
 obtain⟨A,H,rfl,C⟩:=J;unfold maxLen at hl;go_enter func126,ntmps126;go_wp2_with (go_at_call 171;refine(je1 _).mono ?_;rintro e g ⟨rfl,d⟩;have y:=run_storeCells_new (P:=prog) g 240 #[Value.int IntKind.u32 0,Value.int IntKind.u32 0,Value.int IntKind.u32 0,Value.int IntKind.u32 0,Value.int IntKind.u32 0,Value.int IntKind.u32 0,Value.int IntKind.u32 0,Value.int IntKind.u32 0,Value.int IntKind.u32 0,Value.int IntKind.u32 0,Value.int IntKind.u32 0,Value.int IntKind.u32 0,Value.int IntKind.u32 0,Value.int IntKind.u32 0,Value.int IntKind.u32 0,Value.int IntKind.u32 0] (tab 16) jc8 (by rfl) jkY;have m:=Yh 16);clear y m;have j:jnD (g.alloc (.cells (tab 16) 240)) g.heap.size:=heap_alloc_last _ _
 have n:Below w.heap.size w (g.alloc (.cells (tab 16) 240)):=d.alloc d.size _;have o:w.heap.size<=g.heap.size:=d.size
 have h:g.heap.size<(g.alloc (.cells (tab 16) 240)).heap.size:=by simp
 generalize (g.alloc (.cells (tab 16) 240))=O at *
 generalize g.heap.size=L at *
 clear d;go_loopw [4,10] (fun r i wr=>∃k:Nat,k<=a.length/\i=.int .i64 k/\r=.int .u32 (M.feed 4294967295 (cat (a.take k)):Nat)/\Below w.heap.size w wr/\jnD wr L/\L<wr.heap.size) (fun _ i _=>a.length-(intOf i).toNat)
 case atStart=>exact⟨0,by omega,rfl,rfl,n,j,h⟩
 case round =>
 obtain⟨k,N,rfl,rfl,t,D,z⟩:=hrel;by_cases o:k<a.length
 ·obtain⟨s,f⟩:∃s,a[k]?=some s:=⟨_,joM o⟩
  obtain⟨b,q,rfl,u,c⟩:=C k s f;have I:wr.cell? ⟨b,q+k,none⟩=some (.string s):=(t.cell (p:=⟨b,q+k,none⟩) u).trans c
  have hx:=M.feed_lt (cat (a.take k)) 4294967295 (by decide);have G:Hid (M.feed 4294967295 (cat (a.take (k+1)))=M.feed (M.feed 4294967295 (cat (a.take k))) s.data.toList):=by rw[jj9 a k s f,M.feed_append];rfl
  have m:=E k s f;generalize M.feed 4294967295 (cat (a.take k))=R at *
  clear C c n j h E f;go_wp2_with (first | (refine wpList_load_row rfl 240 _ rfl L rfl 240 (tab 16) (0,0) _ D underlying240 rfl jc8 ?_) | (go_at_call 172;refine(jjN _ hx _ _ m).mono ?_;rintro e Q ⟨rfl,l⟩));go_roundw
  case rel=>exact⟨k+1,by omega,by go_num,by rw[G.out],t.trans (l.mono t.size),(l.block _ z).trans D,jo4 z l.size⟩
  case measure=>simp[intOf];omega
 have:k=a.length:=by omega
 subst this;have x:=M.feed_lt (cat a) 4294967295 (by decide)
 rw[jpa];go_wp2;go_ret;exact⟨jb3 (jn8 _ x),t⟩
theorem refSum_any(s:ByteArray)(w:World)(a:s.size<=maxLen):
  Calls prog 109 #[.string s] w fun e b=>e=.returned (.int .u32 (M.crc s.data.toList:Nat))/\w=b:=by
 go_enter func109,ntmps109;go_wp2_with (go_at_call 158;refine(jeA 0 (by omega) _ _ a).mono ?_;rintro e c ⟨rfl,rfl⟩);go_ret;exact⟨rfl,rfl⟩
def F(x k j:Nat):Nat:=if j<k then (dg (x / 16 ^ (7-j) % 16)).toNat else 0
def jl2(x k:Nat):Array Value:=#[.int .u8 (F x k 0:Nat),.int .u8 (F x k 1:Nat),.int .u8 (F x k 2:Nat),.int .u8 (F x k 3:Nat),.int .u8 (F x k 4:Nat),.int .u8 (F x k 5:Nat),.int .u8 (F x k 6:Nat),.int .u8 (F x k 7:Nat)]
theorem Yt(x k j:Nat)(h:j<8):(jl2 x k)[j]?=some (.int .u8 (F x k j:Nat)):=by
 match j,h with
 | 0,_ | 1,_ | 2,_ | 3,_ | 4,_ | 5,_ | 6,_ | 7,_=>rfl
 | n+8,h=>omega
theorem XD(x k:Nat):(jl2 x k).size=8:=rfl
theorem jjC(x k:Nat)(h:k<8):(jl2 x k).setIfInBounds k (.int .u8 ((dg (x / 16 ^ (7-k) % 16)).toNat:Nat))=jl2 x (k+1):=by
 apply jqT;intro j;rw[jps];by_cases b:j<8
 ·rw[Yt _ _ _ b,Yt _ _ _ b,XD];by_cases e:k=j
  ·subst e;simp[h,F]
  have:F x (k+1) j=F x k j:=by unfold F;by_cases a:j<k<;>simp[a]<;>omega
  rw[if_neg e,this]
 have:k≠j:=by omega
 rw[if_neg this,jpv (by rw[XD];omega),jpv (by rw[XD];omega)]
theorem jhL(d:Nat)(h:d<16)(a:d<(⟨#[48,49,50,51,52,53,54,55,56,57,97,98,99,100,101,102]⟩:ByteArray).size):
  (⟨#[48,49,50,51,52,53,54,55,56,57,97,98,99,100,101,102]⟩:ByteArray)[d]=dg d:=by
 match d,h with
 | 0,_ | 1,_ | 2,_ | 3,_ | 4,_ | 5,_ | 6,_ | 7,_ | 8,_ | 9,_ | 10,_ | 11,_ | 12,_ | 13,_ | 14,_ | 15,_=>rfl
 | n+16,h=>omega
theorem nib(x k:Nat)(hx:x<4294967296)(h:k<8):x*16 ^ k % 4294967296 / 268435456=x / 16 ^ (7-k) % 16:=by
 match k,h with
 | 0,_ | 1,_ | 2,_ | 3,_ | 4,_ | 5,_ | 6,_ | 7,_=>simp only[Nat.reduceSub,Nat.reducePow];omega
 | n+8,h=>omega
theorem jou(x k:Nat):((x*16 ^ k % 4294967296:Nat):Int)*16 % 4294967296=((x*16 ^ (k+1) % 4294967296:Nat):Int):=by rw[jrc,<- Nat.mul_assoc];omega
def jjE(x:Nat):List Int:=[(F x 8 0:Nat),(F x 8 1:Nat),(F x 8 2:Nat),(F x 8 3:Nat),(F x 8 4:Nat),(F x 8 5:Nat),(F x 8 6:Nat),(F x 8 7:Nat)]
theorem jhh(x i:Nat)(h:i<8):(jjE x).getD i 0=(F x 8 i:Nat):=by
 match i,h with
 | 0,_ | 1,_ | 2,_ | 3,_ | 4,_ | 5,_ | 6,_ | 7,_=>rfl
 | n+8,h=>omega
theorem jhg(x:Nat):strOfNums (jjE x)=figs x:=by simp[strOfNums,jjE,figs,F]
theorem figures_any(x:Nat)(hx:x<4294967296)(w:World):
  Calls prog 125 #[.int .u32 x] w fun e j=>e=.returned (.string (figs x))/\Below w.heap.size w j:=by
 go_enter func125,ntmps125;go_wp2;go_loopw [0,5] (fun r i wr=>∃k:Nat,k<=8/\i=.int .i64 k/\r=.int .u32 (x*16 ^ k % 4294967296:Nat)/\wr=w.alloc (.cells (jl2 x k) 238)) (fun _ i _=>8-(intOf i).toNat)
 case atStart=>exact⟨0,by omega,rfl,by simp;omega,rfl⟩
 case round =>
 obtain⟨k,l,rfl,rfl,rfl⟩:=hrel;by_cases a:k<8
 ·have n:x*16 ^ k % 4294967296<4294967296:=jq2 _ (by decide);have d:=nib x k hx a
  have f:=jou x k;generalize x*16 ^ k % 4294967296=y at *
  have g:=joI d;have h:=joI f
  clear d f;have m:(jl2 x k)[k]?=some (.int .u8 (F x k k:Nat)):=Yt x k k a
  go_wp2;go_round
  case rel =>
   refine⟨k+1,by omega,by go_num,by rw[h.out],?_⟩;rw[jhL _ (by omega),g.out,jjC x k a]
  case measure=>simp[intOf];omega
 have:k=8:=by omega
 subst this;have b:=run_convert_bytes_arg (P:=prog) (w.alloc (.cells (jl2 x 8) 238)) 189 5 underlying189 underlying5 w.heap.size 0 8 8 (jjE x) rfl (fun i c=>by
  rw[jqg _ _ _ _ rfl,jpl,Yt x 8 i c,jhh x i c]) 9 underlying9
 rw[jhg]at b;go_wp2;go_ret;exact⟨rfl,(joL _ _).alloc (joJ _) _⟩
theorem jle(y:Nat)(w:World):(Instr.slice 9 (.string ⟨#[48,49,50,51,52,53,54,55,56,57,97,98,99,100,101,102]⟩) (some (.int .u32 ((y:Int) % 16))) (some (.int .u32 ((y:Int) % 16+1))) none).run prog w=.ok (.string ⟨#[dg (y % 16)]⟩) w:=by
 have a:y % 16<16:=jq2 _ (by decide);have e:(y:Int) % 16=((y % 16:Nat):Int):=by omega
 rw[e];generalize y % 16=d at *
 rw[run_slice_string _ _ _ _ _ _ _ underlying9 (by omega) (by omega) (by show(d:Int)+1<=(16:Nat);omega)]
 match d,a with
 | 0,_ | 1,_ | 2,_ | 3,_ | 4,_ | 5,_ | 6,_ | 7,_ | 8,_ | 9,_ | 10,_ | 11,_ | 12,_ | 13,_ | 14,_ | 15,_=>rfl
 | n+16,h=>omega
theorem jm6(c:UInt8)(l:List UInt8):(⟨#[c]⟩ ++ ⟨l.toArray⟩:ByteArray)=⟨(c::l).toArray⟩:=by apply jp5;simp
theorem jn6(x k:Nat):((x / 16 ^ k:Nat):Int) / 16=((x / 16 ^ (k+1):Nat):Int):=by rw[jrc,<- Nat.div_div_eq_div_mul];omega
theorem refFigures_any(x:Nat)(hx:x<4294967296)(w:World):
  Calls prog 108 #[.int .u32 x] w fun e g=>e=.returned (.string (figs x))/\w=g:=by
 go_enter func108,ntmps108;go_wp2;go_loop [0,3,4] (fun r s i=>∃k:Nat,k<=8/\i=.int .i64 k/\r=.int .u32 (x / 16 ^ k:Nat)/\s=.string ⟨((figs x).data.toList.drop (8-k)).toArray⟩) (fun _ _ i=>8-(intOf i).toNat)
 case atStart=>exact⟨0,by omega,rfl,by simp,rfl⟩
 case round =>
 obtain⟨k,h,rfl,rfl,rfl⟩:=hrel;by_cases a:k<8
 ·have j:x / 16 ^ k<4294967296:=Nat.lt_of_le_of_lt (Nat.div_le_self _ _) hx;have c:=joI (jht x k a)
  have b:=joI (jn6 x k);generalize x / 16 ^ k=y at *
  have f:=jle y w;have d:(figs x).size<=8:=joJ 8
  go_wp2;go_round
  case rel=>exact⟨k+1,by omega,by go_num,by rw[b.out],by rw[c.out,jm6]⟩
  case measure=>simp[intOf];omega
 have:k=8:=by omega
 subst this;go_wp2;go_ret;exact⟨rfl,rfl⟩
end Sm
end Go.Proofs.YtbapfpekklcicaaGreatDoor
