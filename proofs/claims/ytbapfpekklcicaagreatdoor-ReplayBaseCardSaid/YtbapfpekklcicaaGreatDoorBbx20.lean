/- Texts put together:MA,MB,DB,SA,DC. -/
import Derived.Lib.CutLaws
import Derived.Test.YtbapfpekklcicaaGreatDoorBbx19
set_option linter.unusedVariables false
set_option maxRecDepth 100000
set_option maxHeartbeats 16000000
namespace Go.Proofs.YtbapfpekklcicaaGreatDoor
abbrev jo7:=@List.isPrefixOf_iff_prefix
abbrev jpd:=@List.takeWhile_sublist
abbrev jph:=@List.drop_left
abbrev jp8:=@List.take_left
end Go.Proofs.YtbapfpekklcicaaGreatDoor
namespace Go.Proofs.YtbapfpekklcicaaGreatDoor.Hd
open Go.Lib
def Ql:List UInt8:=[35,37,103,101,110,32]
def zF(g:Nat):List UInt8:=Ql++(decDigits g++[10,10])
def Of(t:List UInt8)(g:Nat):Prop:=1<=g/\g<=2147483648/\∃r,t=zF g++r
def yV(t:List UInt8)(n:Nat):Prop:=Of t n\/(n=0/\∀g,¬Of t g)
theorem jcl(n:Nat):(10:UInt8)∉decDigits n:=fun h=>by have:=jY n _ h;simp at this
theorem jlA{a b:Nat}(c:a<=2147483648)(d:b<=2147483648)(h:decDigits a=decDigits b):a=b:=by
 have e:itoa (a:Int)=itoa (b:Int):=by rw[itoa_nonneg,itoa_nonneg,h]
 have:=jiJ (by constructor<;>omega) (by constructor<;>omega) e;omega
theorem zp(g:Nat)(r:List UInt8):zF g++r=Ql++(decDigits g++10::(10::r)):=by unfold zF;simp
theorem jdj{a b:Nat}(e:a<=2147483648)(f:b<=2147483648){r q:List UInt8}(h:zF a++r=zF b++q):a=b/\r=q:=by rw[zp,zp]at h;obtain⟨c,d⟩:=Fr.split_at (jcl a) (jcl b) (jpG h);exact⟨jlA e f c,by simpa using d⟩
theorem jmc{t:List UInt8}{a b:Nat}(h:Of t a)(d:Of t b):a=b:=by obtain⟨_,f,r,e⟩:=h;obtain⟨_,g,q,c⟩:=d;exact(jdj f g (e.symm.trans c)).1
theorem gen_one{t:List UInt8}{a b:Nat}(h:yV t a)(c:yV t b):a=b:=by
 rcases h with h|⟨rfl,h⟩<;>rcases c with c|⟨rfl,c⟩
 ·exact jmc h c
 ·exact absurd h (c _)
 ·exact absurd c (h _)
 rfl
theorem jhd(g:Nat)(b:g<=2147483648):1<=(decDigits g).length/\(decDigits g).length<=20:=by
 constructor
 ·have:=Ws g;cases h:decDigits g with
  | nil=>exact absurd h this
  | cons a l=>simp
 rw[decDigits_length];exact nDigits_le20 g (by omega)
theorem jiS(g:Nat)(a:g<=2147483648):9<=(zF g).length/\(zF g).length<=28:=by have:=jhd g a;unfold zF Ql;simp only[jnU,jn1,joz];omega
theorem Uw{a b:Nat}(c:a<=2147483648)(d:b<=2147483648):zF a=zF b↔a=b :=
 ⟨fun h=>(jdj (r:=[]) (q:=[]) c d (by rw[h])).1,fun h=>by rw[h]⟩
theorem jdh:∀(a r:List UInt8),(10:UInt8)∉a->index (a++10::10::r) [10,10]=a.length
 | [],r,_=>by simp[index]
 | c::a,r,h=>by
  have d:c≠10:=fun e=>h (by simp[e]);have g:=jdh a r (fun q=>h (jn4 _ q))
  have f:List.isPrefixOf [10,10] (c::(a++10::10::r))=false:=by
   have b:((10:UInt8)==c)=false:=by simpa using fun e=>d e.symm
   simp[List.isPrefixOf,b]
  rw[jog,index,f,g];simp only[Bool.false_eq_true,if_false];rw[if_neg (by simp)];simp
theorem jmN(a r:List UInt8)(h:(10:UInt8)∉a):(cut (a++10::10::r) [10,10]).1=a:=by unfold cut;rw[jdh a r h,if_pos (by omega)];simp
theorem jfn(r:List UInt8):trimPrefix (Ql++r) Ql=r:=by unfold trimPrefix hasPrefix Ql;rw[if_pos (by simp[List.isPrefixOf])];simp
def figs(t:List UInt8):List UInt8:=(cut (trimPrefix t Ql) [10,10]).1
theorem jlr{t:List UInt8}{g:Nat}(h:Of t g):figs t=decDigits g:=by obtain⟨_,_,r,rfl⟩:=h;unfold figs;rw[zp,jfn,jmN _ _ (jcl g)]
theorem jjd(t:List UInt8):(figs t).length<=t.length:=by
 unfold figs cut;split
 ·rw[jn2];unfold trimPrefix;split
  ·rw[jn6];omega
  omega
 show(trimPrefix t Ql).length<=_;unfold trimPrefix;split
 ·rw[jn6];omega
 omega
theorem jaG{t:List UInt8}{g:Nat}(a:1<=g)(b:g<=2147483648):hasPrefix t (zF g)=true↔Of t g:=by unfold hasPrefix;rw[jo7];exact⟨fun⟨r,e⟩=>⟨a,b,r,e.symm⟩,fun⟨_,_,r,e⟩=>⟨r,e.symm⟩⟩
theorem ji4(t:List UInt8):yV t (if 1<=qt (figs t)/\qt (figs t)<=2147483648/\hasPrefix t (zF (qt (figs t)).toNat)=true then (qt (figs t)).toNat else 0):=by
 split
 ·rename_i h;obtain⟨b,c,d⟩:=h;exact .inl ((jaG (by omega) (by omega)).1 d)
 rename_i h;refine .inr ⟨rfl,fun g a=>h ?_⟩;have e:=jlr a
 have f:qt (figs t)=g:=by rw[e,<- itoa_nonneg];obtain⟨b,c,_⟩:=a;exact vy (by constructor<;>omega)
 rw[f];have b:=a.1
 have c:=a.2.1;refine⟨by omega,by omega,?_⟩;rw[jpA];exact(jaG b c).2 a
theorem gen_lt{t:List UInt8}{n:Nat}(h:yV t n):n<=2147483648:=by
 rcases h with h|⟨rfl,_⟩
 ·exact h.2.1
 omega
theorem jli{t:List UInt8}{n:Nat}(h:yV t n)(a:1<=n):∃r,t=zF n++r:=by
 rcases h with h|⟨rfl,_⟩
 ·exact h.2.2
 omega
theorem jlh{a r:List UInt8}(d:(10:UInt8)∉a){g:Nat}(b:1<=g)(c:g<=2147483648)(e:a=decDigits g):yV (Ql++(a++10::10::r)) g:=.inl ⟨b,c,r,by rw[e,zp]⟩
theorem jgB{a r:List UInt8}(b:(10:UInt8)∉a)(h:∀g,1<=g->g<=2147483648->a≠decDigits g\/∀q,r≠10::10::q)(j:r=[]\/∃q,r=10::q):yV (Ql++(a++r)) 0:=by
 refine .inr ⟨rfl,?_⟩;rintro g ⟨f,i,q,e⟩;rw[zp]at e;have e:=jpG e
 rcases j with rfl|⟨p,rfl⟩
 ·have:(10:UInt8)∈a++[]:=by rw[e];simp
  exact b (by simpa using this)
 obtain⟨c,d⟩:=Fr.split_at b (jcl g) e;rcases h g f i with h|h
 ·exact h c
 exact h q (by rw[d])
theorem gen_short{t:List UInt8}(h:t.length<9):yV t 0:=.inr ⟨rfl,by
 rintro g ⟨b,a,r,rfl⟩;have:=jiS g a
 simp only[jnU]at h;omega⟩
theorem jeC{t:List UInt8}(h:t.take 6≠Ql):yV t 0:=.inr ⟨rfl,by
 rintro g ⟨a,b,r,rfl⟩;apply h;rw[zp];unfold Ql;simp⟩
theorem YX(l:List UInt8)(r:List UInt8)(no c:Nat)(h:(10:UInt8)∉l):jP no c (l++10::r)=⟨no,c,l,true⟩::jP (no+1) (c+l.length+1) r:=by
 obtain⟨a,b⟩:=Xj l r h;have e:qF (l++10::r)=l.length+1:=by unfold qF;rw[a,b];rfl
 have d:(l++10::r).drop (l.length+1)=r:=by rw[show l++10::r=(l++[10])++r by simp];exact jpi (by simp)
 rw[jx _ _ _ (by simp),a,b,e,d];rfl
def two(g:Nat):List It:=[⟨2,Ql++(decDigits g++[10]),[]⟩,⟨1,[10],[]⟩]
end Go.Proofs.YtbapfpekklcicaaGreatDoor.Hd
namespace Go.Proofs.YtbapfpekklcicaaGreatDoor.Fr
open Go.Lib
theorem qo:∀(a b:List UInt8) (s:Bool),sp s (a++b)=(sp s a&&sp (fresh s a) b)
 | [],b,s=>by simp[sp,fresh]
 | c::a,b,s=>by
  have e:fresh s (c::a)=fresh (c==10) a:=by unfold fresh;rw[List.getLast?_cons];cases a.getLast?<;>simp
  simp only[jog,sp,qo a b (c==10),e,Bool.and_assoc]
theorem VI(a b:List UInt8)(s:Bool)(h:b≠[]):fresh s (a++b)=fresh true b:=by
 unfold fresh;rw[List.getLast?_append];cases d:b.getLast? with
 | none=>exact absurd (List.getLast?_eq_none_iff.1 d) h
 | some c=>simp
theorem ZA:∀(k:Nat) (s:Bool),sp s (List.replicate k 32)=true
 | 0,s=>by cases s<;>rfl
 | k+1,s=>by rw[List.replicate_succ];unfold sp;rw[ZA k];simp
theorem Jl(k:Nat)(s:Bool):fresh s (List.replicate k 32)=(s&&decide (k=0)):=by
 cases k with
 | zero=>simp[fresh]
 | succ k=>unfold fresh;rw[List.getLast?_replicate];simp
theorem good_iff{l:List UInt8}:goodR l=true↔2<=l.length/\l.length<=50000/\vD l=true/\sp true l=true:=by unfold goodR;simp[and_assoc]
theorem jb2{n:Nat}(a:2<=n)(b:n<=50000):goodR (List.replicate (n-1) 32++[10])=true:=by
 rw[good_iff,qo,ZA,Jl];have:¬n-1=0:=by omega
 refine⟨by simp;omega,by simp;omega,by simp[vD],?_⟩;simp[sp,this]
def vW(t:List UInt8)(n:Nat):Bool:=sp true t && !(fresh true t&&decide (n-t.length<2))
theorem jbl{t:List UInt8}{n:Nat}(f:2<=n)(i:n<=50000)(hl:t.length<n):(∃z,goodR (t++z)=true/\(t++z).length=n)↔vW t n=true:=by
 unfold vW;constructor
 ·rintro⟨z,k,d⟩;obtain⟨_,_,g,e⟩:=good_iff.1 k;rw[qo]at e;simp only[joC]at e ⊢;refine⟨e.1,?_⟩;cases j:fresh true t with
  | false=>rfl
  | true =>
  rw[j]at e;rw[jnU]at d;by_cases l:n-t.length<2
  ·exfalso;obtain⟨c,rfl⟩:∃c,z=[c]:=by
    match z,d with
    | [],d=>simp at d;omega
    | [c],_=>exact⟨c,rfl⟩
    | a::b::z,d=>simp at d;omega
   have i:=e.2;unfold vD at g;simp[sp]at g i;subst g;cases i
  simp[l]
 intro h;simp only[joC]at h;refine⟨List.replicate (n-t.length-1) 32++[10],?_,by simp;omega⟩;rw[good_iff];refine⟨by simp;omega,by simp;omega,by simp[vD],?_⟩;rw[qo,h.1,jpD,qo,ZA,Jl];cases j:fresh true t with
 | false=>simp[sp]
 | true =>
 have f:=h.2;rw[j]at f;have:¬n-t.length-1=0:=by simp at f;omega
 simp[sp,this]
theorem jho{t:List UInt8}{n:Nat}(a:2<=n)(b:n<=50000)(hl:t.length<n):goodR (t++(List.replicate (n-t.length-1) 32++[10]))=vW t n:=by
 rw[joS];constructor
 ·intro h;exact(jbl a b hl).1 ⟨_,h,by simp;omega⟩
 intro h;unfold vW at h;simp only[joC]at h;rw[good_iff];refine⟨by simp;omega,by simp;omega,by simp[vD],?_⟩;rw[qo,h.1,jpD,qo,ZA,Jl];cases c:fresh true t with
 | false=>simp[sp]
 | true =>
 have a:=h.2;rw[c]at a;have:¬n-t.length-1=0:=by simp at a;omega
 simp[sp,this]
def vY(l:List UInt8):Prop:=∃n f z,2<=n/\n<=50000/\QV f/\l++z=jN n f
theorem yx{a b z:List UInt8}(h:a++z=b)(k:Nat)(c:a.length<=k):∃y,a++y=b.take k:=⟨z.take (k-a.length),by rw[<- h,List.take_append,jol c]⟩
theorem qP(n:Nat)(f b:List UInt8):recR n f b=jN n f++10::(b++zi n):=rfl
theorem jaD{t:List UInt8}(h:(10:UInt8)∉t):xK t↔vY t:=by
 constructor
 ·rintro⟨n,f,b,z,k,l,d,c,m⟩;obtain⟨g,i,_,_⟩:=good_iff.1 k;refine⟨n,f,?_⟩;by_cases hl:t.length<=(jN n f).length
  ·obtain⟨y,a⟩:=yx c (jN n f).length hl;rw[qP,jp8]at a;exact⟨y,by omega,by omega,d,a⟩
  exfalso;have j:(jN n f++[10]).length<=t.length:=by simp;omega
  have e:jN n f++[10]++(b++zi n)=t++z:=by rw[c,qP];simp
  obtain⟨y,a⟩:=yx e t.length j;rw[jp8]at a;exact h (by rw[<- a];simp)
 rintro⟨n,f,z,g,i,d,c⟩;refine⟨n,f,List.replicate (n-1) 32++[10],z++10::((List.replicate (n-1) 32++[10])++zi n),jb2 g i,by simp;omega,d,?_,by simp⟩;rw[qP,<- c];simp
theorem Un{t b:List UInt8}(h:(10:UInt8)∉t):¬vG t b:=by rintro⟨_,zI,rfl⟩;exact h (by unfold fullR;rw[qP];simp)
theorem jit{l r:List UInt8}(hl:(10:UInt8)∉l)(h:¬∃n f,jbw l n f):¬xK (l++10::r)/\¬∃b,vG (l++10::r) b:=by
 constructor
 ·rintro⟨n,f,b,z,c,i,g,a,j⟩;obtain⟨d,e,_,_⟩:=good_iff.1 c;rw[qP,jn8,jog]at a;exact h ⟨n,f,by omega,by omega,g,(split_at hl (vF g) a).1⟩
 rintro⟨b,c,zI,a⟩;obtain⟨d,e,_,_⟩:=good_iff.1 c;unfold fullR at a;rw[qP,jn8,jog]at a;exact h ⟨b.length,vn b,d,e,qL b,(split_at hl (vF (qL b)) a).1⟩
theorem YL{n:Nat}{f r:List UInt8}(p:2<=n)(l:n<=50000)(h:QV f):xK (jN n f++10::r)↔∃b z,goodR b=true/\b.length=n/\r++z=b++zi n/\z≠[]:=by
 constructor
 ·rintro⟨q,o,b,z,c,e,d,a,g⟩;obtain⟨k,m,_,_⟩:=good_iff.1 c;rw[qP,jn8,jog]at a;obtain⟨i,j⟩:=split_at (vF h) (vF d) a;obtain⟨rfl,rfl⟩:=Uw l (by omega) i;exact⟨b,z,c,e,j,g⟩
 rintro⟨b,z,c,e,a,g⟩;exact⟨n,f,b,z,c,e,h,by rw[qP,<- a];simp,g⟩
theorem Vk{n:Nat}{f r b:List UInt8}(k:2<=n)(h:n<=50000)(j:QV f):vG (jN n f++10::r) b↔goodR b=true/\b.length=n/\vn b=f/\∃zI,r=b++(zi n++zI):=by
 constructor
 ·rintro⟨a,zI,c⟩;obtain⟨g,i,_,_⟩:=good_iff.1 a;unfold fullR at c;rw[qP,jn8,jog]at c;obtain⟨d,e⟩:=split_at (vF j) (vF (qL b)) c;obtain⟨rfl,rfl⟩:=Uw h (by omega) d;exact⟨a,rfl,rfl,zI,by rw[e];simp⟩
 rintro⟨a,rfl,rfl,zI,rfl⟩;exact⟨a,zI,by unfold fullR;rw[qP];simp⟩
theorem Kt{n:Nat}{f r:List UInt8}(a:2<=n)(c:n<=50000)(g:QV f)(hl:r.length<n):(xK (jN n f++10::r)↔vW r n=true)/\¬∃b,vG (jN n f++10::r) b:=by
 constructor
 ·rw[YL a c g,<- jbl a c hl];constructor
  ·rintro⟨b,z,d,i,k,j⟩;obtain⟨y,e⟩:=yx k b.length (by omega);rw[jp8]at e;exact⟨y,by rw[e];exact d,by rw[e];exact i⟩
  rintro⟨z,d,j⟩;exact⟨r++z,z++zi n,d,j,by simp,by intro q;have:=(List.append_eq_nil_iff.1 q).2;simp[zi,END]at this⟩
 rintro⟨b,h⟩;obtain⟨_,i,_,zI,rfl⟩:=(Vk a c g).1 h;simp at hl;omega
theorem yL{n:Nat}{f b r:List UInt8}(i:2<=n)(j:n<=50000)(k:QV f)(hl:b.length=n):
  (xK (jN n f++10::(b++r))↔goodR b=true/\∃z,r++z=zi n/\z≠[])/\(∀e,vG (jN n f++10::(b++r)) e↔e=b/\goodR b=true/\vn b=f/\∃zI,r=zi n++zI):=by
 constructor
 ·rw[YL i j k];constructor
  ·rintro⟨e,z,c,l,d,h⟩;rw[jn8]at d;obtain⟨rfl,g⟩:=List.append_inj d (by omega);exact⟨c,z,g,h⟩
  rintro⟨c,z,d,h⟩;exact⟨b,z,c,hl,by rw[jn8,d],h⟩
 intro e;rw[Vk i j k];constructor
 ·rintro⟨c,l,a,zI,d⟩;obtain⟨rfl,g⟩:=List.append_inj d (by omega);exact⟨rfl,c,a,zI,g⟩
 rintro⟨rfl,c,a,zI,rfl⟩;exact⟨c,hl,a,zI,rfl⟩
theorem JO{t b:List UInt8}(h:vG t b):¬xK t:=by
 obtain⟨g,zI,rfl⟩:=h;obtain⟨d,f,_,_⟩:=good_iff.1 g;intro a;have e:fullR b++zI=jN b.length (vn b)++10::(b++(zi b.length++zI)):=by unfold fullR;rw[qP];simp
 rw[e]at a;obtain⟨_,z,i,c⟩:=(yL d f (qL b) rfl).1.1 a;have:=congrArg List.length i
 simp only[jnU]at this;exact c (joX (by omega))
theorem GS{t b a:List UInt8}(h:vG t b)(c:vG t a):b=a:=by
 obtain⟨g,zI,rfl⟩:=h;obtain⟨d,f,_,_⟩:=good_iff.1 g;have e:fullR b++zI=jN b.length (vn b)++10::(b++(zi b.length++zI)):=by unfold fullR;rw[qP];simp
 rw[e]at c;exact(((yL d f (qL b) rfl).2 a).1 c).1.symm
theorem jb7{b:List UInt8}(a:goodR b=true){k:Nat}(c:k<(fullR b).length):xK ((fullR b).take k) :=
 ⟨b.length,vn b,b,(fullR b).drop k,a,rfl,qL b,joj _ _,fun q=>by have:=congrArg List.length q;simp at this;omega⟩
end Go.Proofs.YtbapfpekklcicaaGreatDoor.Fr
namespace Go.Proofs.YtbapfpekklcicaaGreatDoor.Bk
open Go.Lib Go.Proofs.YtbapfpekklcicaaGreatDoor.Fr Go.Proofs.YtbapfpekklcicaaGreatDoor.Hd
def Vc(l:List UInt8):Bool:=hasPrefix l [37]&&decide (jm l=5)
def vV(xs:List Ln)(n:Nat):Nat:=match xs.find? (fun x=>Vc x.text) with | some x=>x.at_ | none=>n
def vi(t:List UInt8):List UInt8:=t.take (vV (jf t) t.length)
def jby(l:List UInt8):Prop:=l=[]\/∃r,l=r++[10]
theorem JF(l:List UInt8):(10:UInt8)∉head l:=fun h=>by have:=List.all_eq_true.1 (jpm (p:=fun c:UInt8=>c != 10) (l:=l)) 10 h;simp at this
theorem Ji:∀{l:List UInt8},(10:UInt8)∉l->head l=l
 | [],_=>rfl
 | c::l,h=>by
  have a:(c != 10)=true:=by simp only[bne_iff_ne];rintro rfl;exact h jn5
  unfold head;rw[joG,if_pos a];exact congrArg (c :: ·) (Ji fun b=>h (jn4 _ b))
theorem jkB{l:List UInt8}(h:(10:UInt8)∈l):l=head l++10::l.drop (qF l):=by
 have a:nl l=true:=by unfold nl;simpa using h
 have:=zp l;rw[a,if_pos rfl]at this;rw[jn8]at this;exact this
theorem jjj{l:List UInt8}(h:jby l)(a:l≠[]):(10:UInt8)∈l:=by
 rcases h with h|⟨r,h⟩
 ·exact absurd h a
 rw[h];simp
theorem jg1{a b:List UInt8}(h:jby (a++b)):jby b:=by
 rcases jpk b with d|⟨e,c,d⟩
 ·exact .inl d
 rw[jpl]at d;subst d;rcases h with h|⟨r,h⟩
 ·simp at h
 rw[<- jn8]at h;obtain⟨_,f⟩:=List.append_inj' h rfl;exact .inr ⟨e,by rw[f]⟩
theorem jaM:∀(n:Nat) (b x:List UInt8) (c a:Nat),b.length<=n->jby b->∃k,jP c a (b++x)=jP c a b++jP (c+k) (a+b.length) x
 | 0,b,x,c,a,h,_=>by have:b=[]:=List.length_eq_zero_iff.1 (by omega);subst this;exact⟨0,by simp[jq]⟩
 | n+1,b,x,c,a,h,j=>by
  by_cases g:b=[]
  ·subst g;exact⟨0,by simp[jq]⟩
  have q:=jjj j g;have f:=jkB q
  generalize s:b.drop (qF b)=r at f;generalize o:head b=d at f;have i:(10:UInt8)∉d:=by rw[<- o];exact JF b
  subst f;have e:jby r:=jg1 (a:=d++[10]) (by rw[jn8];exact j)
  obtain⟨k,p⟩:=jaM n r x (c+1) (a+d.length+1) (by simp at h;omega) e;refine⟨k+1,?_⟩;rw[jn8,jog,YX _ _ _ _ i,YX _ _ _ _ i,p];simp only[jog,jnU,jn1];have l:c+1+k=c+(k+1):=by omega
  have m:a+d.length+1+r.length=a+(d.length+(r.length+1)):=by omega
  rw[l,m]
theorem jeP{l:List UInt8}(h:∀x∈jf l,x.ended=true):jby l:=by
 have b:=jJ l;rcases jpk (jf l) with a|⟨c,x,a⟩
 ·rw[a]at b;exact .inl b.symm
 rw[jpl]at a;rw[a]at b h;have hx:=h x (by simp)
 refine .inr ⟨c.flatMap Ln.bytes++x.text,?_⟩;rw[<- b,jow];unfold Ln.bytes;simp[hx]
theorem jam(t:List UInt8):∀(b:List Ln) (p q:PS),qO t p b=.ok q->∀x∈b,jm x.text≠5/\x.ended=true
 | [],_,_,_,x,hx=>by cases hx
 | y::b,p,q,h,x,hx=>by
  unfold qO at h;cases c:zo t p y with
  | error e=>rw[c]at h;cases h
  | ok d =>
  rw[c]at h;obtain⟨_,a,_⟩:=yE c;unfold zO at a;rcases List.mem_cons.1 hx with e|hx
  ·subst e;simp only[Bool.or_eq_false_iff,Bool.not_eq_false']at a;exact⟨by simpa using a.1.1,a.2⟩
  exact jam t b d q h x hx
theorem YN{t:List UInt8}{its:List It}(h:jv t=.ok its):∀x∈jf t,jm x.text≠5/\x.ended=true:=by
 unfold jv at h;cases a:qO t PS.new (jf t) with
 | error e=>rw[a]at h;cases h
 | ok p=>exact jam t _ _ _ a
theorem KJ{t:List UInt8}{its:List It}(h:jv t=.ok its):jby t:=jeP fun x hx=>(YN h x hx).2
theorem jee{t:List UInt8}{its:List It}(h:jv t=.ok its):∀x∈jf t,Vc x.text=false:=fun x hx=>by unfold Vc;rw[decide_eq_false (YN h x hx).1,Bool.and_false]
theorem jdA(t:List UInt8):vV (jf t) t.length<=t.length:=by
 unfold vV;cases h:(jf t).find? (fun x=>Vc x.text) with
 | none=>exact jnT _
 | some x =>
 obtain⟨_,b,a,c,_⟩:=List.find?_eq_some_iff_append.1 h;obtain⟨_,e⟩:=qR t b x a c;have d:=jJ t
 rw[c,jow]at d;show x.at_<=t.length
 rw[e,<- d,jnU];omega
theorem Qi(t:List UInt8):(vi t).length=vV (jf t) t.length:=by unfold vi;rw[jn2];have:=jdA t;omega
theorem XJ(t:List UInt8):t=vi t++t.drop (vi t).length:=by have h:=Qi t;rw[h];exact(joj _ t).symm
theorem jcn(t:List UInt8):t.drop (vi t).length=[]\/Vc (head (t.drop (vi t).length))=true:=by
 rw[Qi];unfold vV;cases h:(jf t).find? (fun x=>Vc x.text) with
 | none=>left;simp
 | some x =>
 obtain⟨r,c,b,m,_⟩:=List.find?_eq_some_iff_append.1 h;obtain⟨_,w⟩:=qR t c x b m;have o:∀y∈c,y.ended=true:=by
  intro y d;have f:∀(j:List Ln) (p a:Nat) (l:List UInt8) (z:Ln) (q:List Ln),jP p a l=j++z::q->∀y∈j,y.ended=true:=by
   intro j
   induction j with
   | nil=>intro p a l z q _ y d;cases d
   | cons u G E =>
   intro p a l z q e y d;have hl:l≠[]:=by rintro rfl;rw[jq]at e;cases e
   rw[jx _ _ _ hl,jog]at e;obtain⟨s,k⟩:=List.cons.inj e;rcases List.mem_cons.1 d with d|d
   ·subst d;rw[<- s];show nl l=true
    cases i:nl l with
    | true=>rfl
    | false =>
    exfalso;have C:=zp l
    rw[i]at C;have D:qF l=(head l).length:=by unfold qF;rw[i];rfl
    have v:l.drop (qF l)=[]:=by
     have A:(10:UInt8)∉l:=by unfold nl at i;simpa using i
     have:head l=l:=Ji A;rw[D,this];exact jpc
    rw[v,jq]at k;cases G<;>cases k
   exact E _ _ _ _ _ k y d
  exact f c 0 0 t x b m y d
 obtain⟨_,g⟩:=YY c (x::b) 0 0 t m o;right;show Vc (head (t.drop x.at_))=true
 rw[w];have n:t.drop (c.flatMap Ln.bytes).length≠[]:=by intro e;rw[e,jq]at g;cases g
 rw[jx _ _ _ n]at g;have:=(List.cons.inj g).1
 rw[this]at r;exact r
theorem je1{b x:List UInt8}(f:jby b)(d:∀y∈jf b,Vc y.text=false)(hx:x=[]\/Vc (head x)=true):vi (b++x)=b:=by
 obtain⟨k,g⟩:=jaM _ b x 0 0 (jnT _) f;have e:vV (jf (b++x)) (b++x).length=b.length:=by
  unfold vV jf;rw[g,jqm];have c:(jP 0 0 b).find? (fun x=>Vc x.text)=none:=List.find?_eq_none.2 fun y h=>by rw[d y h];simp
  rw[c];rcases hx with rfl|hx
  ·simp[jq]
  have a:x≠[]:=by rintro rfl;exact absurd hx (by decide)
  rw[jx _ _ _ a,Option.none_or,jqh];simp only[hx];simp
 unfold vi;rw[e,List.take_left'];rfl
theorem jiE{l r:List UInt8}(h:l=37::r)(a:(10:UInt8)∉l)(b:(58:UInt8)∉l):Vc l=true:=by
 subst h;have d:qH (37::r) 10=false:=by rw[Bool.eq_false_iff];intro c;exact a (by simpa [qH]using c)
 have e:qH (37::r) 58=false:=by rw[Bool.eq_false_iff];intro c;exact b (by simpa [qH]using c)
 have f:jm (37::r)=5:=by
  unfold jm;rw[d,e];have g:jR (37::r)=false:=by unfold jR;rw[jpQ];rfl
  have i:Zi (37::r)=false:=rfl;have j:vh (37::r)=false:=rfl
  rw[g,i,j];simp
 unfold Vc;rw[f];simp[hasPrefix]
theorem jnk{c:UInt8}(h:Xi c=true):c≠58:=by rintro rfl;exact absurd h (by decide)
theorem Uz{n:Nat}{f:List UInt8}(a:QV f):(10:UInt8)∉jN n f/\(58:UInt8)∉jN n f:=by
 refine⟨vF a,?_⟩;unfold jN AMD;intro h;simp only[jog,joL,List.mem_cons,List.mem_append]at h;rcases h with h|h|h|h|h|h|h|h|h|h
 all_goals first
  | exact absurd h (by decide)
  | skip
 ·have:=jY n _ h;simp at this
 exact jnk (List.all_eq_true.1 (vP.1 a).2 _ h) rfl
theorem jiT{a r:List UInt8}(h:(10:UInt8)∉a):head (a++10::r)=a:=(Xj a r h).1
theorem Xp(b:List UInt8):fullR b=jN b.length (vn b)++10::(b++zi b.length):=rfl
theorem jdF(b m:List UInt8):Vc (head (fullR b++m))=true:=by have a:=qL b;rw[Xp,jn8,jog,jiT (Uz a).1];exact jiE (r:=(jN b.length (vn b)).tail) rfl (Uz a).1 (Uz a).2
structure je5(D:List UInt8->Bool)(s:List UInt8)(bds:List (List UInt8))(rest:List UInt8):Prop where
 eq:s=bds.flatMap fullR++rest
 good:∀b∈bds,goodR b=true/\D b=true
def jjR(D:List UInt8->Bool)(r:List UInt8):Prop:=(¬xK r/\¬∃b,vG r b)\/∃b,vG r b/\D b=false
def Fin(D:List UInt8->Bool)(r:List UInt8):Prop:=xK r\/jjR D r
theorem jgS{D:List UInt8->Bool}{r b:List UInt8}(h:Fin D r)(a:vG r b)(c:D b=true):False:=by
 rcases h with h|⟨_,h⟩|⟨e,d,h⟩
 ·exact JO a h
 ·exact h ⟨b,a⟩
 rw[GS a d]at c;rw[c]at h;cases h
theorem jjc{D:List UInt8->Bool}{r:List UInt8}(h:xK r)(a:jjR D r):False:=by
 rcases a with ⟨c,_⟩|⟨b,d,_⟩
 ·exact c h
 exact JO d h
theorem Uf{D:List UInt8->Bool}:∀{s:List UInt8} {x y:List (List UInt8)} {r q:List UInt8},je5 D s x r->je5 D s y q->Fin D r->Fin D q->x=y/\r=q
 | s,[],[],r,q,h,a,_,_=>⟨rfl,by have e:=h.eq;rw[a.eq]at e;simpa using e.symm⟩
 | s,[],b::y,r,q,h,a,k,_=>by
  exfalso;have e:=h.eq
  have f:=a.eq;rw[jqs,joL]at e;rw[joc,jn8]at f;obtain⟨g,d⟩:=a.good b jn5;exact jgS k ⟨g,_,e.symm.trans f⟩ d
 | s,b::x,[],r,q,h,a,_,k=>by
  exfalso;have e:=h.eq
  have f:=a.eq;rw[jqs,joL]at f;rw[joc,jn8]at e;obtain⟨g,d⟩:=h.good b jn5;exact jgS k ⟨g,_,f.symm.trans e⟩ d
 | s,b::x,c::y,r,q,h,a,t,p=>by
  have e:=h.eq;have f:=a.eq
  rw[joc,jn8]at e f;obtain⟨g,d⟩:=h.good b jn5;obtain⟨m,u⟩:=a.good c jn5;have j:b=c:=GS ⟨g,_,e⟩ ⟨m,_,f⟩
  subst j;have l:=jpG (e.symm.trans f)
  obtain⟨n,o⟩:=Uf (s:=x.flatMap fullR++r) ⟨rfl,fun b i=>h.good b (jn4 _ i)⟩ ⟨l,fun b i=>a.good b (jn4 _ i)⟩ t p;exact⟨by rw[n],o⟩
theorem je5.snoc{D:List UInt8->Bool}{s r b:List UInt8}{a:List (List UInt8)}(h:je5 D s a r)(i:vG r b)(e:D b=true):je5 D s (a++[b]) (r.drop (fullR b).length):=by
 obtain⟨g,m,f⟩:=i;refine⟨?_,fun c d => ?_⟩
 ·rw[h.eq,f,jph,jow];simp
 rcases List.mem_append.1 d with d|d
 ·exact h.good c d
 rw[List.mem_singleton.1 d];exact⟨g,e⟩
def qi:Nat->List (List UInt8)->List Nat
 | _,[]=>[]
 | s,b::r=>(s+(fullR b).length)::qi (s+(fullR b).length) r
theorem vT:∀(s:Nat) (a:List (List UInt8)) (b:List UInt8),qi s (a++[b])=qi s a++[s+(a.flatMap fullR).length+(fullR b).length]
 | s,[],b=>by simp[qi]
 | s,c::r,b=>by have:=vT (s+(fullR c).length) r b;simp only[jog,qi];rw[this];simp only[joc,jnU,jpC]
theorem Jn:∀(s:Nat) (a:List (List UInt8)),(qi s a).length=a.length
 | _,[]=>rfl
 | s,b::r=>by simp[qi,Jn]
theorem Ge(s:Nat)(a:List (List UInt8))(h:a≠[]):(qi s a)[a.length-1]?=some (s+(a.flatMap fullR).length):=by
 rcases jpk a with c|⟨r,b,c⟩
 ·exact absurd c h
 rw[jpl]at c;subst c;rw[vT,joh (by rw[Jn];simp),Jn];simp[Nat.add_assoc]
theorem jdn(b:List UInt8):7<=(fullR b).length:=by unfold fullR recR jN AMD;simp
theorem XH:∀(a:List (List UInt8)),a.length<=(a.flatMap fullR).length
 | []=>jnT _
 | b::r=>by
  have h:=XH r;have:=jdn b
  rw[joc,jnU,jn1];omega
def hl(n:Nat):Nat:=if 1<=n/\n<=2147483648 then (zF n).length else 0
theorem jiR{t:List UInt8}{n:Nat}(h:yV t n):hl n<=t.length:=by
 unfold hl;split
 ·rename_i a;rcases h with ⟨_,_,r,e⟩|⟨rfl,_⟩
  ·rw[e];simp
  omega
 omega
theorem jiU{g i:Nat}(h:(zF g)[i]?=some 37):i=1:=by
 unfold zF Ql at h
 match i,h with
 | 0,h=>simp at h
 | 1,_=>rfl
 | 2,h=>simp at h
 | 3,h=>simp at h
 | 4,h=>simp at h
 | 5,h=>simp at h
 | i+6,h =>
 exfalso;have a:(decDigits g++[10,10])[i]?=some 37:=by simpa using h
 have:=jn7 a;rcases List.mem_append.1 this with h|h
 ·have:=jY g _ h;simp at this
 exact absurd h (by decide)
theorem ji3{t p q x:List UInt8}{n:Nat}(h:yV t n)(o:t=p++q)(m:hl n<=p.length)(c:jby p)(hx:x=[]\/∃y,x=37::y):yV (p++x) n:=by
 rcases h with ⟨i,j,r,e⟩|⟨rfl,l⟩
 ·left;refine⟨i,j,?_⟩;have k:hl n=(zF n).length:=by unfold hl;rw[if_pos ⟨i,j⟩]
  rw[k]at m;have s:p=zF n++p.drop (zF n).length:=by
   have b:(p++q).take (zF n).length=zF n:=by rw[<- o,e];simp
   rw[jpF m]at b;have:=joj (zF n).length p
   rw[b]at this;exact this.symm
  exact⟨p.drop (zF n).length++x,by rw[<- jn8,<- s]⟩
 right;refine⟨rfl,fun g v => ?_⟩;obtain⟨i,j,r,e⟩:=v;by_cases d:(zF g).length<=p.length
 ·have b:(zF g++r).take (zF g).length=zF g:=by simp
  rw[<- e,jpF d]at b;have:=joj (zF g).length p
  rw[b]at this;exact l g ⟨i,j,p.drop (zF g).length++q,by rw[o,<- jn8,this]⟩
 rcases hx with rfl|⟨y,rfl⟩
 ·rw[jok]at e;have:=congrArg List.length e
  simp at this;omega
 have u:(zF g)[p.length]?=some 37:=by
  have:(zF g++r)[p.length]?=some 37:=by rw[<- e];simp
  rwa [joq (by omega)]at this
 have a:=jiU u;have f:(zF g++r)[0]?=some 35:=by unfold zF Ql;rfl
 rw[<- e]at f;rcases c with c|⟨z,c⟩
 ·rw[c]at a;simp at a
 rw[c]at a f;have w:z=[]:=by simpa using a
 rw[w]at f;simp at f
structure vH(D:List UInt8->Bool)(t:List UInt8)(n:Nat)(base:List UInt8)(bds:List (List UInt8))(tail:List UInt8):Prop where
 gen:yV t n
 parse:∃its,jv base=.ok its
 isB:vi (t.drop (hl n))=base
 recd:je5 D (t.drop (hl n+base.length)) bds tail
 fin:xK tail
theorem jc2:xK []:=jb7 (b:=[32,10]) (by decide) (k:=0) (by decide)
def zd(n:Nat)(base:List UInt8)(bds:List (List UInt8)):Nat:=hl n+base.length+(bds.flatMap fullR).length
theorem Qc(t:List UInt8)(a b:Nat):t.drop (a+b)=(t.drop a).drop b:=by rw[jpg]
structure jnq(t:List UInt8)(n:Nat)(base:List UInt8)(bds:List (List UInt8))(tail:List UInt8):Prop where
 eq:t=t.take (hl n)++(base++(bds.flatMap fullR++tail))
 take:t.take (zd n base bds)=t.take (hl n)++(base++bds.flatMap fullR)
 len:t.length=zd n base bds+tail.length
 tail:t.drop (zd n base bds)=tail
theorem vH.parts{D:List UInt8->Bool}{t base a:List UInt8}{n:Nat}{b:List (List UInt8)}(h:vH D t n base b a):jnq t n base b a:=by
 have j:=jiR h.gen;have c:=XJ (t.drop (hl n))
 rw[h.isB]at c;have f:=h.recd.eq
 rw[Qc]at f;rw[f]at c;have g:t=t.take (hl n)++(base++(b.flatMap fullR++a)):=by rw[<- c];exact(joj _ t).symm
 have i:(t.take (hl n)).length=hl n:=by rw[jn2];omega
 have d:t=(t.take (hl n)++(base++b.flatMap fullR))++a:=by rw[jn8,jn8];exact g
 have e:(t.take (hl n)++(base++b.flatMap fullR)).length=zd n base b:=by unfold zd;simp only[jnU,i];omega
 refine⟨g,?_,?_,?_⟩
 ·conv=>lhs;rw[d]
  rw[<- e,jp8]
 ·conv=>lhs;rw[d]
  rw[jnU,e]
 conv=>lhs;rw[d]
 rw[<- e,jph]
theorem Gg{a b:List UInt8}(c:jby a)(d:jby b):jby (a++b):=by
 rcases d with rfl|⟨r,rfl⟩
 ·rw[jok];exact c
 exact .inr ⟨a++r,by rw[jn8]⟩
theorem jg2(b:List UInt8):jby (fullR b):=.inr ⟨jN b.length (vn b)++10::(b++(END++decDigits b.length)),by
 rw[Xp];unfold zi;simp⟩
theorem ja9:∀a:List (List UInt8),jby (a.flatMap fullR)
 | []=>.inl rfl
 | b::r=>by rw[joc];exact Gg (jg2 b) (ja9 r)
theorem jjk{t:List UInt8}{n:Nat}(h:yV t n):jby (t.take (hl n)):=by
 rcases h with ⟨b,c,r,e⟩|⟨rfl,_⟩
 ·have a:hl n=(zF n).length:=by unfold hl;rw[if_pos ⟨b,c⟩]
  rw[a,e,jp8];exact .inr ⟨Ql++(decDigits n++[10]),by unfold zF;simp⟩
 exact .inl (by unfold hl;simp)
theorem jhq{x:List UInt8}(h:Vc (head x)=true):∃y,x=37::y:=by
 unfold Vc at h;simp only[joC]at h;obtain⟨h,_⟩:=h;cases x with
 | nil=>exact absurd h (by decide)
 | cons c r =>
 unfold head at h;rw[joG]at h;split at h
 ·unfold hasPrefix at h;simp[List.isPrefixOf]at h;exact⟨r,by rw[h]⟩
 exact absurd h (by decide)
theorem vH.again{D:List UInt8->Bool}{t base f x:List UInt8}{n:Nat}{a zI:List (List UInt8)}{c:List UInt8}(h:vH D t n base a f)(hx:x=[]\/Vc (head x)=true)(m:je5 D x zI c)(p:xK c):
  vH D (t.take (zd n base a)++x) n base (a++zI) c:=by
 have P:=h.parts;have q:=jiR h.gen
 have l:(t.take (hl n)).length=hl n:=by rw[jn2];omega
 obtain⟨j,g⟩:=h.parse;have s:hl n<=(t.take (zd n base a)).length:=by rw[P.take,jnU,l];omega
 have o:jby (t.take (zd n base a)):=by rw[P.take];exact Gg (jjk h.gen) (Gg (KJ g) (ja9 a))
 have i:x=[]\/∃y,x=37::y:=hx.imp id jhq;have k:(t.take (zd n base a)++x).drop (hl n)=base++(a.flatMap fullR++x):=by rw[P.take,jn8,jn8];exact jpi l
 have d:a.flatMap fullR++x=[]\/Vc (head (a.flatMap fullR++x))=true:=by
  cases a with
  | nil=>exact hx
  | cons b r=>right;rw[joc,jn8];exact jdF b _
 have e:vi (base++(a.flatMap fullR++x))=base:=je1 (KJ g) (jee g) d;refine⟨ji3 h.gen (joj _ t).symm s o i,⟨j,g⟩,by rw[k];exact e,?_,p⟩;rw[Qc,k,jph];refine⟨by rw[m.eq,jow,jn8],fun b d => ?_⟩;rcases List.mem_append.1 d with d|d
 ·exact h.recd.good b d
 exact m.good b d
end Go.Proofs.YtbapfpekklcicaaGreatDoor.Bk
namespace Go.Proofs.YtbapfpekklcicaaGreatDoor.Fr
open Go.Lib
def qD:List UInt8:=[48,48,48,48,48,48,48,48]
def qr:List UInt8:=[37,97,109,101,110,100,32,53,48,48,48,48,32,48,48,48,48,48,48,48,48]
theorem yc:QV qD:=vP.2 ⟨rfl,by decide⟩
theorem KV:qr=jN 50000 qD:=by unfold jN;rw[xC (by omega),xC (by omega),xC (by omega),xC (by omega),decDigits_one (by omega)];rfl
theorem jcl:decDigits 10=[49,48]:=by rw[xC (by omega),decDigits_one (by omega)];rfl
theorem jnC:decDigits 1=[49]:=by rw[decDigits_one (by omega)];rfl
theorem Jy{a b x y:List UInt8}(h:a++x=b++y):(∃q,b=a++q/\x=q++y)\/(∃c q,a=b++c::q/\y=c::q++x):=by
 rcases List.append_eq_append_iff.1 h with ⟨q,d,e⟩|⟨q,d,e⟩
 ·exact .inl ⟨q,d,e⟩
 cases q with
 | nil=>exact .inl ⟨[],by simpa using d.symm,by simpa using e.symm⟩
 | cons c q=>exact .inr ⟨c,q,d,e⟩
theorem jjf{r z f:List UInt8}(b:QV f)(h:r++z=f):QV (r++qD.drop r.length):=by
 obtain⟨d,hx⟩:=vP.1 b;have hl:r.length<=8:=by have:=congrArg List.length h;simp at this;omega
 refine vP.2 ⟨by simp[qD];omega,?_⟩;rw[jpt,joC];rw[<- h,jpt,joC]at hx;exact⟨hx.1,List.all_eq_true.2 fun c a=>by have:=joJ a;simp[qD]at this;subst this;decide⟩
theorem jgU{r:List UInt8}(hl:r.length<=8)(hx:r.all Xi=true):QV (r++qD.drop r.length):=by refine vP.2 ⟨by simp[qD];omega,?_⟩;rw[jpt,joC];exact⟨hx,List.all_eq_true.2 fun c a=>by have:=joJ a;simp[qD]at this;subst this;decide⟩
theorem jey{l:List UInt8}:vY l↔∃g,g<=21/\∃n f,jbw (l++qr.drop g) n f:=by
 constructor
 ·rintro⟨n,f,z,r,s,u,t⟩;unfold jN at t;rcases Jy t with ⟨q,e,o⟩|⟨c,q,e,o⟩
  ·have x:q=AMD.drop l.length:=by rw[e];simp
   have hl:l.length<=7:=by have:=congrArg List.length e;simp[AMD]at this;omega
   refine⟨l.length,by omega,50000,qD,by omega,by omega,yc,?_⟩;rw[<- KV];have b:qr=l++(q++qr.drop 7):=by rw[<- jn8,<- e];rfl
   have i:qr.drop l.length=q++qr.drop 7:=by rw[b,jph,<- b]
   rw[i];exact b.symm
  rcases Jy o with ⟨a,b,i⟩|⟨d,a,b,i⟩
  ·
   cases a with
   | nil =>
    rw[jok]at b;refine⟨12,by omega,n,qD,r,s,yc,?_⟩;rw[e,b];unfold jN;rw[jn8];rfl
   | cons d a =>
   rw[jog]at i;injection i with j p;subst j;have hl:a.length<=8:=by have:=congrArg List.length p;have:=xy u;simp at *;omega
   refine⟨13+a.length,by omega,n,a++qD.drop a.length,r,s,jjf u p.symm,?_⟩;rw[e,b];unfold jN;have:qr.drop (13+a.length)=qD.drop a.length:=by rw[<- jpg];rfl
   rw[this];simp
  ·
   obtain⟨v,j,y,k⟩:=Wr n (c::q) (d::a) (by simp) b.symm;have w:=k (by omega)
   by_cases m:v=1
   ·subst m;refine⟨11,by omega,10,qD,by omega,by omega,yc,?_⟩;rw[e,j];unfold jN;rw[jcl,jnC];rfl
   refine⟨12,by omega,v,qD,by omega,by omega,yc,?_⟩;rw[e,j];unfold jN;rw[jn8];rfl
 rintro⟨g,_,n,f,h⟩;exact⟨n,f,_,h.lo,h.hi,h.fig,h.eq⟩
theorem jim{l:List UInt8}(h:vY l):l.length<=21:=by
 obtain⟨n,f,z,c,d,b,a⟩:=h;have:=congrArg List.length a
 have:=xD (show n<=99999 by omega);have:=xy b
 unfold jN AMD at *
 simp at *
 omega
def jhK(t:List UInt8):Prop:=∃n f z y,2<=n/\n<=50000/\QV f/\t++z=jN n f++10::y
theorem KL{t:List UInt8}(h:¬jhK t):jS t 3 [] 0:=by
 refine .inr (.inr ⟨?_,?_,rfl,rfl,rfl⟩)
 ·rintro⟨n,f,b,z,a,i,g,e,j⟩;obtain⟨c,d,_,_⟩:=good_iff.1 a;exact h ⟨n,f,z,_,by omega,by omega,g,e⟩
 rintro⟨b,a,zI,rfl⟩;obtain⟨c,d,_,_⟩:=good_iff.1 a;exact h ⟨_,_,[],b++zi b.length++zI,c,d,qL b,by unfold fullR;rw[qP];simp⟩
theorem Uj{t:List UInt8}(h:vY t):jS t 2 [] 0:=by
 have a:(10:UInt8)∉t:=by obtain⟨n,f,z,e,g,c,b⟩:=h;intro d;exact vF (n:=n) c (by rw[<- b];simp[d])
 exact .inr (.inl ⟨(jaD a).2 h,rfl,rfl,rfl⟩)
theorem jlK{t q:List UInt8}(h:AMD=t++q):jS t 2 [] 0 :=
 Uj ⟨50000,qD,q++(decDigits 50000++32::qD),by omega,by omega,yc,by unfold jN;rw[<- jn8,<- h]⟩
theorem jmQ{t:List UInt8}(hl:t.length<=7)(h:¬∃q,AMD=t++q):jS t 3 [] 0:=KL (by
 rintro⟨n,f,z,y,d,e,g,b⟩;unfold jN at b;rw[jn8]at b;rcases Jy b with ⟨q,a,_⟩|⟨c,q,a,_⟩
 ·exact h ⟨q,a⟩
 have:=congrArg List.length a;simp[AMD]at this;omega)
theorem jix{t:List UInt8}(hl:7<=t.length)(h:¬∃q,t=AMD++q):jS t 3 [] 0:=KL (by
 rintro⟨n,f,z,y,d,e,g,b⟩;unfold jN at b;rw[jn8]at b;rcases Jy b with ⟨q,a,_⟩|⟨c,q,a,_⟩
 ·have:=congrArg List.length a;simp[AMD]at this;obtain rfl:q=[]:=joX (by omega);exact h ⟨[],by rw[a];simp⟩
 exact h ⟨_,a⟩)
def dgB(c:UInt8):Bool:=decide (48<=c.toNat)&&decide (c.toNat<=57)
theorem jjA{s:List UInt8}(h:jhK (AMD++s)):∃n f z y,2<=n/\n<=50000/\QV f/\s++z=decDigits n++32::(f++10::y):=by obtain⟨n,f,z,y,b,c,d,a⟩:=h;unfold jN at a;rw[jn8,jn8]at a;exact⟨n,f,z,y,b,c,d,by rw[jpG a];simp⟩
theorem Ym{i r:List UInt8}(p:∀c∈i,dgB c=true)(t:∀c b,r=c::b->dgB c=false)(h:jhK (AMD++(i++r))):
  ∃n,2<=n/\n<=50000/\((r=[]/\∃q,i++q=decDigits n)\/(i=decDigits n/\∃f z y b,QV f/\r=32::b/\b++z=f++10::y)):=by
 obtain⟨n,f,z,y,m,o,s,l⟩:=jjA h;refine⟨n,m,o,?_⟩;rw[jn8]at l;rcases Jy l with ⟨q,e,a⟩|⟨c,q,e,a⟩
 ·cases r with
  | nil=>exact .inl ⟨rfl,q,e.symm⟩
  | cons c b =>
  cases q with
  | nil =>
   rw[jog,joL]at a;injection a with g j;subst g;exact .inr ⟨by rw[e];simp,f,z,y,b,s,rfl,j⟩
  | cons d q =>
  rw[jog]at a;injection a with g j;subst g;have:=jY n c (by rw[e];simp)
  have k:=t c b rfl;unfold dgB at k;simp[this.1,this.2]at k
 rw[jog]at a;injection a with g j;subst g;have:=p 32 (by rw[e];simp)
 exact absurd this (by decide)
theorem jmM{a r:List UInt8}(d:∀c∈a,dgB c=true)(g:∀c i,r=c::i->dgB c=false)(h:5<a.length):jS (AMD++(a++r)) 3 [] 0:=KL (by
 intro b;obtain⟨n,j,k,f⟩:=Ym d g b;have:=xD (show n<=99999 by omega)
 rcases f with ⟨_,q,e⟩|⟨e,_⟩
 ·have:=congrArg List.length e;simp at this;omega
 rw[<- e]at this;omega)
theorem jhh{a r:List UInt8}(j:∀c∈a,dgB c=true)(l:∀c o,r=c::o->dgB c=false)(m:a++r≠[])(h:∀v,1<=v->v<=50000->a≠decDigits v):jS (AMD++(a++r)) 3 [] 0:=KL (by
 intro i;obtain⟨n,p,g,k⟩:=Ym j l i;rcases k with ⟨rfl,q,e⟩|⟨e,_⟩
 ·have b:a≠[]:=by simpa using m
  obtain⟨v,d,s,f⟩:=Wr n a q b e;exact h v (f (by omega)) (by omega) d
 exact h n (by omega) g e)
theorem jmL{v:Nat}(c:1<=v)(a:v<=50000):jS (AMD++decDigits v) 2 [] 0:=Uj (by
 by_cases b:v=1
 ·subst b;exact⟨10,qD,48::32::qD,by omega,by omega,yc,by unfold jN;rw[jcl,jnC];rfl⟩
 exact⟨v,qD,32::qD,by omega,a,yc,by unfold jN;rw[jn8]⟩)
theorem jkf(v:Nat):∀c∈decDigits v,dgB c=true:=fun c a=>by have:=jY v c a;simp[dgB,this.1,this.2]
theorem jhg{v:Nat}{c:UInt8}{r:List UInt8}(p:v<=50000)(d:dgB c=false)(h:c≠32\/v<2):jS (AMD++(decDigits v++c::r)) 3 [] 0:=KL (by
 intro i;obtain⟨n,l,m,g⟩:=Ym (jkf v) (fun k j e=>by injection e with e _;rw[<- e];exact d) i;rcases g with ⟨e,_⟩|⟨e,f,z,y,j,o,a,_⟩
 ·cases e
 injection a with b _;have:=jhe (by omega) (by omega) e
 rcases h with h|h
 ·exact h b
 omega)
def hx(l:List UInt8):Nat:=((l.take 8).takeWhile Xi).length
theorem jmu{n:Nat}{r:List UInt8}(b:2<=n)(c:n<=50000)(h:hx r=r.length):jS (AMD++(decDigits n++32::r)) 2 [] 0:=Uj (by
 have a:r.length<=8:=by rw[<- h];unfold hx;exact jop (jpd _).length_le (by simp;omega)
 have d:r.all Xi=true:=by
  unfold hx at h;rw[jol a]at h;have e:r.takeWhile Xi=r:=(jpd _).eq_of_length h
  rw[<- e];exact jpm
 exact⟨n,r++qD.drop r.length,qD.drop r.length,b,c,jgU a d,by unfold jN;simp⟩)
theorem jms{f y:List UInt8}(d:QV f):hx (f++y)=8:=by
 obtain⟨a,b⟩:=vP.1 d;unfold hx;rw[jpF (by omega),jol (by omega)];have:f.takeWhile Xi=f:=by
  have:∀l:List UInt8,l.all Xi=true->l.takeWhile Xi=l:=by
   intro l
   induction l with
   | nil=>intro _;rfl
   | cons c l e=>intro h;simp only[jpQ,joC]at h;rw[joG,if_pos h.1,e h.2]
  exact this f b
 rw[this,a]
theorem jmr{r z f:List UInt8}(b:QV f)(h:r++z=f):hx r=r.length:=by
 obtain⟨e,a⟩:=vP.1 b;have hl:r.length<=8:=by have:=congrArg List.length h;simp at this;omega
 unfold hx;rw[jol hl];rw[<- h,jpt,joC]at a;have:∀l:List UInt8,l.all Xi=true->l.takeWhile Xi=l:=by
  intro l
  induction l with
  | nil=>intro _;rfl
  | cons c l d=>intro h;simp only[jpQ,joC]at h;rw[joG,if_pos h.1,d h.2]
 rw[this r a.1]
theorem jmv{n:Nat}{r:List UInt8}(v:n<=50000)(h:hx r≠r.length)(a:hx r<8\/r[8]?≠some 10):jS (AMD++(decDigits n++32::r)) 3 [] 0:=KL (by
 intro s;obtain⟨w,m,o,p⟩:=Ym (jkf n) (fun u t e=>by injection e with e _;rw[<- e];decide) s;rcases p with ⟨e,_⟩|⟨e,f,z,y,t,b,i,j⟩
 ·cases e
 injection i with _ k;subst k;rcases Jy j with ⟨q,d,_⟩|⟨c,q,d,g⟩
 ·exact h (jmr b d.symm)
 rw[jog]at g;injection g with l _;subst l;rw[d,jms b]at a;rcases a with a|a
 ·omega
 apply a;rw[joh (by rw[xy b];omega),xy b];rfl)
theorem jmw{r:List UInt8}(b:hx r=8)(a:r[8]?=some 10):∃f q,QV f/\r=f++10::q/\f=r.take 8/\q=r.drop 9:=by
 have hl:8<r.length:=by
  rcases joo 8 r.length with h|h
  ·exact h
  rw[jon h]at a;cases a
 refine⟨r.take 8,r.drop 9,vP.2 ⟨by simp;omega,?_⟩,?_,rfl,rfl⟩
 ·unfold hx at b;have e:(r.take 8).takeWhile Xi=r.take 8:=(jpd _).eq_of_length (by rw[b];simp;omega)
  rw[<- e];exact jpm
 have e:=List.getElem?_eq_some_iff.1 a;obtain⟨c,e⟩:=e;have:=jou c
 rw[e]at this;rw[<- this,joj]
end Go.Proofs.YtbapfpekklcicaaGreatDoor.Fr
