/- Texts put together:DA,MA,MB,DB,SA. -/
import Derived.Lib.CutLaws
import Derived.Test.YtbapfpekklcicaaGreatDoorBtx23
set_option linter.unusedVariables false
set_option maxRecDepth 100000
set_option maxHeartbeats 16000000
namespace Go.Proofs.YtbapfpekklcicaaGreatDoor
abbrev jpP:=@List.eq_nil_of_length_eq_zero
abbrev jpW:=@List.isPrefixOf_iff_prefix
abbrev jp8:=@List.drop_left
abbrev jqb:=@List.eq_nil_or_concat
abbrev jqc:=@List.concat_eq_append
abbrev jqx:=@List.append_cancel_left
abbrev jqH:=@Bool.true_and
abbrev jq0:=@List.take_left
end Go.Proofs.YtbapfpekklcicaaGreatDoor
namespace Go.Proofs.YtbapfpekklcicaaGreatDoor.Fr
open Go.Lib
def sp:Bool->List UInt8->Bool
 | _,[]=>true
 | s,c::l=>(!s || c==32)&&sp (c==10) l
def fresh(s:Bool)(l:List UInt8):Bool:=match l.getLast? with | none=>s | some c=>c==10
def vH(l:List UInt8):Bool:=l.getLast?==some 10
def goodR(l:List UInt8):Bool:=decide (2<=l.length)&&decide (l.length<=50000)&&vH l&&sp true l
def AMD:List UInt8:=[37,97,109,101,110,100,32]
def END:List UInt8:=[37,101,110,100,32]
def jP(n:Nat)(f:List UInt8):List UInt8:=AMD++(decDigits n++32::f)
def zj(n:Nat):List UInt8:=END++(decDigits n++[10])
def recR(n:Nat)(f b:List UInt8):List UInt8:=jP n f++10::(b++zj n)
def vt(b:List UInt8):List UInt8:=(Sm.figs (Sm.M.crc b)).data.toList
def fullR(b:List UInt8):List UInt8:=recR b.length (vt b) b
def Vb(f:List UInt8):Prop:=∃x,Sm.takes f=some x
structure jbM(l:List UInt8)(n:Nat)(f:List UInt8):Prop where
 lo:2<=n
 hi:n<=50000
 fig:Vb f
 eq:l=jP n f
def xO(t:List UInt8):Prop:=∃n f b z,goodR b=true/\b.length=n/\Vb f/\t++z=recR n f b/\z≠[]
def vK(t b:List UInt8):Prop:=goodR b=true/\∃zJ,t=fullR b++zJ
def jT(t:List UInt8)(k:Nat)(b:List UInt8)(n:Nat):Prop :=
 (vK t b/\k=1/\n=(fullR b).length)\/(xO t/\k=2/\b=[]/\n=0)\/(¬xO t/\(¬∃b,vK t b)/\k=3/\b=[]/\n=0)
theorem jhO{a b:Nat}(d:a<18446744073709551616)(e:b<18446744073709551616)(h:decDigits a=decDigits b):a=b:=by have c:=ZO a d;rw[h,ZO b e]at c;injection c with c;exact c.symm
theorem xF{n:Nat}(h:¬n<10):decDigits n=decDigits (n / 10)++[UInt8.ofNat (48+n % 10)]:=by rw[decDigits,dif_neg h]
theorem xG{n:Nat}(h:n<=99999):(decDigits n).length<=5:=by
 have step:∀(k m:Nat),(m<10 ^ k->(decDigits m).length<=k)->∀u,u<10 ^ (k+1)->(u / 10=m\/u<10)->(decDigits u).length<=k+1:=by
  intro k m d u c b;by_cases a:u<10
  ·rw[decDigits_one a];simp
  rcases b with b|b
  ·rw[xF a,joK,b];have:m<10 ^ k:=by rw[jrc]at c;omega
   have:=d this;simp;omega
  exact absurd b a
 have f:∀k u:Nat,1<=k->u<10 ^ k->(decDigits u).length<=k:=by
  intro k
  induction k with
  | zero=>intro u e;omega
  | succ k d =>
  intro u _ c;by_cases e:k=0
  ·subst e;rw[decDigits_one (by simpa using c)];simp
  exact step k (u / 10) (d (u / 10) (by omega)) u c (.inl rfl)
 exact f 5 n (by omega) (by omega)
theorem WL:∀(n:Nat) (a r:List UInt8),a≠[]->a++r=decDigits n->∃v,a=decDigits v/\v<=n/\(1<=n->1<=v):=by
 intro n
 induction n using Nat.strongRecOn with
 | _ n i =>
 intro a r f h;by_cases b:n<10
 ·rw[decDigits_one b]at h;cases a with
  | nil=>exact absurd rfl f
  | cons c a =>
  have hl:=congrArg List.length h;simp only[joK,joR,jpm]at hl;obtain⟨rfl,rfl⟩:a=[]/\r=[]:=by constructor<;>apply jpP<;>omega
  exact⟨n,by rw[decDigits_one b];simpa using h,joJ _,id⟩
 rcases jqb r with rfl|⟨j,x,rfl⟩
 ·exact⟨n,by simpa using h,joJ _,id⟩
 rw[xF b,jqc,<- jo0]at h;have g:=(List.append_inj' h rfl).1
 obtain⟨v,e,k,d⟩:=i (n / 10) (by omega) a j f g;exact⟨v,e,by omega,fun _=>d (by omega)⟩
theorem jjU(n:Nat):(10:UInt8)∉decDigits n:=fun h=>by have:=za n _ h;simp at this
theorem GS(n:Nat):(32:UInt8)∉decDigits n:=fun h=>by have:=za n _ h;simp at this
theorem xC{f:List UInt8}(h:Vb f):f.length=8:=by
 obtain⟨x,h⟩:=h;unfold Sm.takes at h;split at h
 ·assumption
 cases h
def Xv(c:UInt8):Bool:=(Sm.val c.toNat).isSome
theorem jkr:∀(l:List UInt8) (a:Nat),(∃x,Sm.tk a l=some x)↔l.all Xv=true
 | [],a=>by simp[Sm.tk]
 | c::l,a=>by
  unfold Sm.tk;cases b:Sm.val c.toNat with
  | none=>simp[Xv,b]
  | some d=>simp only[jqG,Xv,b,Option.isSome_some,jqH];exact jkr l _
theorem vV{f:List UInt8}:Vb f↔f.length=8/\f.all Xv=true:=by
 unfold Vb Sm.takes;by_cases h:f.length=8
 ·simp only[h,if_true,true_and];exact jkr f 0
 simp[h]
theorem jnc{c:UInt8}(h:Xv c=true):c≠10/\c≠32:=by constructor<;>(rintro rfl;revert h;decide)
theorem jjK{f:List UInt8}(h:Vb f):(10:UInt8)∉f:=fun a=>(jnc (List.all_eq_true.1 (vV.1 h).2 _ a)).1 rfl
theorem qR(b:List UInt8):Vb (vt b):=⟨_,Sm.takes_figs _ (Sm.M.crc_lt b)⟩
theorem vJ{n:Nat}{f:List UInt8}(h:Vb f):(10:UInt8)∉jP n f:=by
 unfold jP AMD;have:=jjU n
 have:=jjK h;simp_all
theorem split_at{m:UInt8}:∀{a b x y:List UInt8},m∉a->m∉b->a++m::x=b++m::y->a=b/\x=y
 | [],[],x,y,_,_,h=>by simpa using h
 | [],c::b,x,y,_,f,h=>by simp at h;exact absurd (h.1▸joV) f
 | c::a,[],x,y,e,_,h=>by simp at h;exact absurd (h.1▸joV) e
 | c::a,d::b,x,y,e,f,h=>by simp only[jo6,jqD]at h;obtain⟨rfl,h⟩:=h;obtain⟨rfl,rfl⟩:=split_at (fun q=>e (joU _ q)) (fun q=>f (joU _ q)) h;exact⟨rfl,rfl⟩
theorem Gj{n a:Nat}{f b:List UInt8}(i:n<=50000)(g:a<=50000)(h:jP n f=jP a b):n=a/\f=b:=by
 unfold jP at h;have c:=jqx h
 obtain⟨d,e⟩:=split_at (GS n) (GS a) c;exact⟨jhO (by omega) (by omega) d,e⟩
end Go.Proofs.YtbapfpekklcicaaGreatDoor.Fr
namespace Go.Proofs.YtbapfpekklcicaaGreatDoor.Hd
open Go.Lib
def Qp:List UInt8:=[35,37,103,101,110,32]
def zE(g:Nat):List UInt8:=Qp++(decDigits g++[10,10])
def Of(t:List UInt8)(g:Nat):Prop:=1<=g/\g<=2147483648/\∃r,t=zE g++r
def xi(t:List UInt8)(n:Nat):Prop:=Of t n\/(n=0/\∀g,¬Of t g)
theorem jcH(n:Nat):(10:UInt8)∉decDigits n:=fun h=>by have:=za n _ h;simp at this
theorem jme{a b:Nat}(c:a<=2147483648)(d:b<=2147483648)(h:decDigits a=decDigits b):a=b:=by
 have e:itoa (a:Int)=itoa (b:Int):=by rw[itoa_nonneg,itoa_nonneg,h]
 have:=jjj (by constructor<;>omega) (by constructor<;>omega) e;omega
theorem zu(g:Nat)(r:List UInt8):zE g++r=Qp++(decDigits g++10::(10::r)):=by unfold zE;simp
theorem jdG{a b:Nat}(e:a<=2147483648)(f:b<=2147483648){r q:List UInt8}(h:zE a++r=zE b++q):a=b/\r=q:=by rw[zu,zu]at h;obtain⟨c,d⟩:=Fr.split_at (jcH a) (jcH b) (jqx h);exact⟨jme e f c,by simpa using d⟩
theorem jmU{t:List UInt8}{a b:Nat}(h:Of t a)(d:Of t b):a=b:=by obtain⟨_,f,r,e⟩:=h;obtain⟨_,g,q,c⟩:=d;exact(jdG f g (e.symm.trans c)).1
theorem gen_one{t:List UInt8}{a b:Nat}(h:xi t a)(c:xi t b):a=b:=by
 rcases h with h|⟨rfl,h⟩<;>rcases c with c|⟨rfl,c⟩
 ·exact jmU h c
 ·exact absurd h (c _)
 ·exact absurd c (h _)
 rfl
theorem jhN(g:Nat)(b:g<=2147483648):1<=(decDigits g).length/\(decDigits g).length<=20:=by
 constructor
 ·have:=WS g;cases h:decDigits g with
  | nil=>exact absurd h this
  | cons a l=>simp
 rw[decDigits_length];exact nDigits_le20 g (by omega)
theorem jjq(g:Nat)(a:g<=2147483648):9<=(zE g).length/\(zE g).length<=28:=by have:=jhN g a;unfold zE Qp;simp only[joK,joR,jpm];omega
theorem Gj{a b:Nat}(c:a<=2147483648)(d:b<=2147483648):zE a=zE b↔a=b :=
 ⟨fun h=>(jdG (r:=[]) (q:=[]) c d (by rw[h])).1,fun h=>by rw[h]⟩
theorem jdE:∀(a r:List UInt8),(10:UInt8)∉a->index (a++10::10::r) [10,10]=a.length
 | [],r,_=>by simp[index]
 | c::a,r,h=>by
  have d:c≠10:=fun e=>h (by simp[e]);have g:=jdE a r (fun q=>h (joU _ q))
  have f:List.isPrefixOf [10,10] (c::(a++10::10::r))=false:=by
   have b:((10:UInt8)==c)=false:=by simpa using fun e=>d e.symm
   simp[List.isPrefixOf,b]
  rw[jo6,index,f,g];simp only[Bool.false_eq_true,if_false];rw[if_neg (by simp)];simp
theorem jnv(a r:List UInt8)(h:(10:UInt8)∉a):(cut (a++10::10::r) [10,10]).1=a:=by unfold cut;rw[jdE a r h,if_pos (by omega)];simp
theorem jfR(r:List UInt8):trimPrefix (Qp++r) Qp=r:=by unfold trimPrefix hasPrefix Qp;rw[if_pos (by simp[List.isPrefixOf])];simp
def figs(t:List UInt8):List UInt8:=(cut (trimPrefix t Qp) [10,10]).1
theorem jl5{t:List UInt8}{g:Nat}(h:Of t g):figs t=decDigits g:=by obtain⟨_,_,r,rfl⟩:=h;unfold figs;rw[zu,jfR,jnv _ _ (jcH g)]
theorem jjJ(t:List UInt8):(figs t).length<=t.length:=by
 unfold figs cut;split
 ·rw[joS];unfold trimPrefix;split
  ·rw[joX];omega
  omega
 show(trimPrefix t Qp).length<=_;unfold trimPrefix;split
 ·rw[joX];omega
 omega
theorem jaS{t:List UInt8}{g:Nat}(a:1<=g)(b:g<=2147483648):hasPrefix t (zE g)=true↔Of t g:=by unfold hasPrefix;rw[jpW];exact⟨fun⟨r,e⟩=>⟨a,b,r,e.symm⟩,fun⟨_,_,r,e⟩=>⟨r,e.symm⟩⟩
theorem jjA(t:List UInt8):xi t (if 1<=qt (figs t)/\qt (figs t)<=2147483648/\hasPrefix t (zE (qt (figs t)).toNat)=true then (qt (figs t)).toNat else 0):=by
 split
 ·rename_i h;obtain⟨b,c,d⟩:=h;exact .inl ((jaS (by omega) (by omega)).1 d)
 rename_i h;refine .inr ⟨rfl,fun g a=>h ?_⟩;have e:=jl5 a
 have f:qt (figs t)=g:=by rw[e,<- itoa_nonneg];obtain⟨b,c,_⟩:=a;exact vB (by constructor<;>omega)
 rw[f];have b:=a.1
 have c:=a.2.1;refine⟨by omega,by omega,?_⟩;rw[jqs];exact(jaS b c).2 a
theorem gen_lt{t:List UInt8}{n:Nat}(h:xi t n):n<=2147483648:=by
 rcases h with h|⟨rfl,_⟩
 ·exact h.2.1
 omega
theorem jlW{t:List UInt8}{n:Nat}(h:xi t n)(a:1<=n):∃r,t=zE n++r:=by
 rcases h with h|⟨rfl,_⟩
 ·exact h.2.2
 omega
theorem jlV{a r:List UInt8}(d:(10:UInt8)∉a){g:Nat}(b:1<=g)(c:g<=2147483648)(e:a=decDigits g):xi (Qp++(a++10::10::r)) g:=.inl ⟨b,c,r,by rw[e,zu]⟩
theorem jg9{a r:List UInt8}(b:(10:UInt8)∉a)(h:∀g,1<=g->g<=2147483648->a≠decDigits g\/∀q,r≠10::10::q)(j:r=[]\/∃q,r=10::q):xi (Qp++(a++r)) 0:=by
 refine .inr ⟨rfl,?_⟩;rintro g ⟨f,i,q,e⟩;rw[zu]at e;have e:=jqx e
 rcases j with rfl|⟨p,rfl⟩
 ·have:(10:UInt8)∈a++[]:=by rw[e];simp
  exact b (by simpa using this)
 obtain⟨c,d⟩:=Fr.split_at b (jcH g) e;rcases h g f i with h|h
 ·exact h c
 exact h q (by rw[d])
theorem gen_short{t:List UInt8}(h:t.length<9):xi t 0:=.inr ⟨rfl,by
 rintro g ⟨b,a,r,rfl⟩;have:=jjq g a
 simp only[joK]at h;omega⟩
theorem je3{t:List UInt8}(h:t.take 6≠Qp):xi t 0:=.inr ⟨rfl,by
 rintro g ⟨a,b,r,rfl⟩;apply h;rw[zu];unfold Qp;simp⟩
theorem Xj(l:List UInt8)(r:List UInt8)(no c:Nat)(h:(10:UInt8)∉l):jR no c (l++10::r)=⟨no,c,l,true⟩::jR (no+1) (c+l.length+1) r:=by
 obtain⟨a,b⟩:=Xw l r h;have e:qK (l++10::r)=l.length+1:=by unfold qK;rw[a,b];rfl
 have d:(l++10::r).drop (l.length+1)=r:=by rw[show l++10::r=(l++[10])++r by simp];exact jp9 (by simp)
 rw[jC _ _ _ (by simp),a,b,e,d];rfl
def two(g:Nat):List It:=[⟨2,Qp++(decDigits g++[10]),[]⟩,⟨1,[10],[]⟩]
end Go.Proofs.YtbapfpekklcicaaGreatDoor.Hd
namespace Go.Proofs.YtbapfpekklcicaaGreatDoor.Fr
open Go.Lib
theorem qo:∀(a b:List UInt8) (s:Bool),sp s (a++b)=(sp s a&&sp (fresh s a) b)
 | [],b,s=>by simp[sp,fresh]
 | c::a,b,s=>by
  have e:fresh s (c::a)=fresh (c==10) a:=by unfold fresh;rw[List.getLast?_cons];cases a.getLast?<;>simp
  simp only[jo6,sp,qo a b (c==10),e,Bool.and_assoc]
theorem VM(a b:List UInt8)(s:Bool)(h:b≠[]):fresh s (a++b)=fresh true b:=by
 unfold fresh;rw[List.getLast?_append];cases d:b.getLast? with
 | none=>exact absurd (List.getLast?_eq_none_iff.1 d) h
 | some c=>simp
theorem ZI:∀(k:Nat) (s:Bool),sp s (List.replicate k 32)=true
 | 0,s=>by cases s<;>rfl
 | k+1,s=>by rw[List.replicate_succ];unfold sp;rw[ZI k];simp
theorem Ju(k:Nat)(s:Bool):fresh s (List.replicate k 32)=(s&&decide (k=0)):=by
 cases k with
 | zero=>simp[fresh]
 | succ k=>unfold fresh;rw[List.getLast?_replicate];simp
theorem good_iff{l:List UInt8}:goodR l=true↔2<=l.length/\l.length<=50000/\vH l=true/\sp true l=true:=by unfold goodR;simp[and_assoc]
theorem jco{n:Nat}(a:2<=n)(b:n<=50000):goodR (List.replicate (n-1) 32++[10])=true:=by
 rw[good_iff,qo,ZI,Ju];have:¬n-1=0:=by omega
 refine⟨by simp;omega,by simp;omega,by simp[vH],?_⟩;simp[sp,this]
def yb(t:List UInt8)(n:Nat):Bool:=sp true t && !(fresh true t&&decide (n-t.length<2))
theorem jbz{t:List UInt8}{n:Nat}(f:2<=n)(i:n<=50000)(hl:t.length<n):(∃z,goodR (t++z)=true/\(t++z).length=n)↔yb t n=true:=by
 unfold yb;constructor
 ·rintro⟨z,k,d⟩;obtain⟨_,_,g,e⟩:=good_iff.1 k;rw[qo]at e;simp only[jpk]at e ⊢;refine⟨e.1,?_⟩;cases j:fresh true t with
  | false=>rfl
  | true =>
  rw[j]at e;rw[joK]at d;by_cases l:n-t.length<2
  ·exfalso;obtain⟨c,rfl⟩:∃c,z=[c]:=by
    match z,d with
    | [],d=>simp at d;omega
    | [c],_=>exact⟨c,rfl⟩
    | a::b::z,d=>simp at d;omega
   have i:=e.2;unfold vH at g;simp[sp]at g i;subst g;cases i
  simp[l]
 intro h;simp only[jpk]at h;refine⟨List.replicate (n-t.length-1) 32++[10],?_,by simp;omega⟩;rw[good_iff];refine⟨by simp;omega,by simp;omega,by simp[vH],?_⟩;rw[qo,h.1,jqH,qo,ZI,Ju];cases j:fresh true t with
 | false=>simp[sp]
 | true =>
 have f:=h.2;rw[j]at f;have:¬n-t.length-1=0:=by simp at f;omega
 simp[sp,this]
theorem jhY{t:List UInt8}{n:Nat}(a:2<=n)(b:n<=50000)(hl:t.length<n):goodR (t++(List.replicate (n-t.length-1) 32++[10]))=yb t n:=by
 rw[jpI];constructor
 ·intro h;exact(jbz a b hl).1 ⟨_,h,by simp;omega⟩
 intro h;unfold yb at h;simp only[jpk]at h;rw[good_iff];refine⟨by simp;omega,by simp;omega,by simp[vH],?_⟩;rw[qo,h.1,jqH,qo,ZI,Ju];cases c:fresh true t with
 | false=>simp[sp]
 | true =>
 have a:=h.2;rw[c]at a;have:¬n-t.length-1=0:=by simp at a;omega
 simp[sp,this]
def yc(l:List UInt8):Prop:=∃n f z,2<=n/\n<=50000/\Vb f/\l++z=jP n f
theorem yB{a b z:List UInt8}(h:a++z=b)(k:Nat)(c:a.length<=k):∃y,a++y=b.take k:=⟨z.take (k-a.length),by rw[<- h,List.take_append,jpi c]⟩
theorem qV(n:Nat)(f b:List UInt8):recR n f b=jP n f++10::(b++zj n):=rfl
theorem jaP{t:List UInt8}(h:(10:UInt8)∉t):xO t↔yc t:=by
 constructor
 ·rintro⟨n,f,b,z,k,l,d,c,m⟩;obtain⟨g,i,_,_⟩:=good_iff.1 k;refine⟨n,f,?_⟩;by_cases hl:t.length<=(jP n f).length
  ·obtain⟨y,a⟩:=yB c (jP n f).length hl;rw[qV,jq0]at a;exact⟨y,by omega,by omega,d,a⟩
  exfalso;have j:(jP n f++[10]).length<=t.length:=by simp;omega
  have e:jP n f++[10]++(b++zj n)=t++z:=by rw[c,qV];simp
  obtain⟨y,a⟩:=yB e t.length j;rw[jq0]at a;exact h (by rw[<- a];simp)
 rintro⟨n,f,z,g,i,d,c⟩;refine⟨n,f,List.replicate (n-1) 32++[10],z++10::((List.replicate (n-1) 32++[10])++zj n),jco g i,by simp;omega,d,?_,by simp⟩;rw[qV,<- c];simp
theorem UZ{t b:List UInt8}(h:(10:UInt8)∉t):¬vK t b:=by rintro⟨_,zJ,rfl⟩;exact h (by unfold fullR;rw[qV];simp)
theorem ji4{l r:List UInt8}(hl:(10:UInt8)∉l)(h:¬∃n f,jbM l n f):¬xO (l++10::r)/\¬∃b,vK (l++10::r) b:=by
 constructor
 ·rintro⟨n,f,b,z,c,i,g,a,j⟩;obtain⟨d,e,_,_⟩:=good_iff.1 c;rw[qV,jo0,jo6]at a;exact h ⟨n,f,by omega,by omega,g,(split_at hl (vJ g) a).1⟩
 rintro⟨b,c,zJ,a⟩;obtain⟨d,e,_,_⟩:=good_iff.1 c;unfold fullR at a;rw[qV,jo0,jo6]at a;exact h ⟨b.length,vt b,d,e,qR b,(split_at hl (vJ (qR b)) a).1⟩
theorem YW{n:Nat}{f r:List UInt8}(p:2<=n)(l:n<=50000)(h:Vb f):xO (jP n f++10::r)↔∃b z,goodR b=true/\b.length=n/\r++z=b++zj n/\z≠[]:=by
 constructor
 ·rintro⟨q,o,b,z,c,e,d,a,g⟩;obtain⟨k,m,_,_⟩:=good_iff.1 c;rw[qV,jo0,jo6]at a;obtain⟨i,j⟩:=split_at (vJ h) (vJ d) a;obtain⟨rfl,rfl⟩:=Gj l (by omega) i;exact⟨b,z,c,e,j,g⟩
 rintro⟨b,z,c,e,a,g⟩;exact⟨n,f,b,z,c,e,h,by rw[qV,<- a];simp,g⟩
theorem Vp{n:Nat}{f r b:List UInt8}(k:2<=n)(h:n<=50000)(j:Vb f):vK (jP n f++10::r) b↔goodR b=true/\b.length=n/\vt b=f/\∃zJ,r=b++(zj n++zJ):=by
 constructor
 ·rintro⟨a,zJ,c⟩;obtain⟨g,i,_,_⟩:=good_iff.1 a;unfold fullR at c;rw[qV,jo0,jo6]at c;obtain⟨d,e⟩:=split_at (vJ j) (vJ (qR b)) c;obtain⟨rfl,rfl⟩:=Gj h (by omega) d;exact⟨a,rfl,rfl,zJ,by rw[e];simp⟩
 rintro⟨a,rfl,rfl,zJ,rfl⟩;exact⟨a,zJ,by unfold fullR;rw[qV];simp⟩
theorem KK{n:Nat}{f r:List UInt8}(a:2<=n)(c:n<=50000)(g:Vb f)(hl:r.length<n):(xO (jP n f++10::r)↔yb r n=true)/\¬∃b,vK (jP n f++10::r) b:=by
 constructor
 ·rw[YW a c g,<- jbz a c hl];constructor
  ·rintro⟨b,z,d,i,k,j⟩;obtain⟨y,e⟩:=yB k b.length (by omega);rw[jq0]at e;exact⟨y,by rw[e];exact d,by rw[e];exact i⟩
  rintro⟨z,d,j⟩;exact⟨r++z,z++zj n,d,j,by simp,by intro q;have:=(List.append_eq_nil_iff.1 q).2;simp[zj,END]at this⟩
 rintro⟨b,h⟩;obtain⟨_,i,_,zJ,rfl⟩:=(Vp a c g).1 h;simp at hl;omega
theorem yR{n:Nat}{f b r:List UInt8}(i:2<=n)(j:n<=50000)(k:Vb f)(hl:b.length=n):
  (xO (jP n f++10::(b++r))↔goodR b=true/\∃z,r++z=zj n/\z≠[])/\(∀e,vK (jP n f++10::(b++r)) e↔e=b/\goodR b=true/\vt b=f/\∃zJ,r=zj n++zJ):=by
 constructor
 ·rw[YW i j k];constructor
  ·rintro⟨e,z,c,l,d,h⟩;rw[jo0]at d;obtain⟨rfl,g⟩:=List.append_inj d (by omega);exact⟨c,z,g,h⟩
  rintro⟨c,z,d,h⟩;exact⟨b,z,c,hl,by rw[jo0,d],h⟩
 intro e;rw[Vp i j k];constructor
 ·rintro⟨c,l,a,zJ,d⟩;obtain⟨rfl,g⟩:=List.append_inj d (by omega);exact⟨rfl,c,a,zJ,g⟩
 rintro⟨rfl,c,a,zJ,rfl⟩;exact⟨c,hl,a,zJ,rfl⟩
theorem JV{t b:List UInt8}(h:vK t b):¬xO t:=by
 obtain⟨g,zJ,rfl⟩:=h;obtain⟨d,f,_,_⟩:=good_iff.1 g;intro a;have e:fullR b++zJ=jP b.length (vt b)++10::(b++(zj b.length++zJ)):=by unfold fullR;rw[qV];simp
 rw[e]at a;obtain⟨_,z,i,c⟩:=(yR d f (qR b) rfl).1.1 a;have:=congrArg List.length i
 simp only[joK]at this;exact c (jpP (by omega))
theorem jah{t b a:List UInt8}(h:vK t b)(c:vK t a):b=a:=by
 obtain⟨g,zJ,rfl⟩:=h;obtain⟨d,f,_,_⟩:=good_iff.1 g;have e:fullR b++zJ=jP b.length (vt b)++10::(b++(zj b.length++zJ)):=by unfold fullR;rw[qV];simp
 rw[e]at c;exact(((yR d f (qR b) rfl).2 a).1 c).1.symm
theorem jct{b:List UInt8}(a:goodR b=true){k:Nat}(c:k<(fullR b).length):xO ((fullR b).take k) :=
 ⟨b.length,vt b,b,(fullR b).drop k,a,rfl,qR b,jpb _ _,fun q=>by have:=congrArg List.length q;simp at this;omega⟩
end Go.Proofs.YtbapfpekklcicaaGreatDoor.Fr
namespace Go.Proofs.YtbapfpekklcicaaGreatDoor.Bk
open Go.Lib Go.Proofs.YtbapfpekklcicaaGreatDoor.Fr Go.Proofs.YtbapfpekklcicaaGreatDoor.Hd
def Vi(l:List UInt8):Bool:=hasPrefix l [37]&&decide (jm l=5)
def ya(xs:List Ln)(n:Nat):Nat:=match xs.find? (fun x=>Vi x.text) with | some x=>x.at_ | none=>n
def vo(t:List UInt8):List UInt8:=t.take (ya (jf t) t.length)
def jbQ(l:List UInt8):Prop:=l=[]\/∃r,l=r++[10]
theorem JO(l:List UInt8):(10:UInt8)∉head l:=fun h=>by have:=List.all_eq_true.1 (jqd (p:=fun c:UInt8=>c != 10) (l:=l)) 10 h;simp at this
theorem Jr:∀{l:List UInt8},(10:UInt8)∉l->head l=l
 | [],_=>rfl
 | c::l,h=>by
  have a:(c != 10)=true:=by simp only[bne_iff_ne];rintro rfl;exact h joV
  unfold head;rw[jpy,if_pos a];exact congrArg (c :: ·) (Jr fun b=>h (joU _ b))
theorem jk9{l:List UInt8}(h:(10:UInt8)∈l):l=head l++10::l.drop (qK l):=by
 have a:nl l=true:=by unfold nl;simpa using h
 have:=zu l;rw[a,if_pos rfl]at this;rw[jo0]at this;exact this
theorem jjP{l:List UInt8}(h:jbQ l)(a:l≠[]):(10:UInt8)∈l:=by
 rcases h with h|⟨r,h⟩
 ·exact absurd h a
 rw[h];simp
theorem jhB{a b:List UInt8}(h:jbQ (a++b)):jbQ b:=by
 rcases jqb b with d|⟨e,c,d⟩
 ·exact .inl d
 rw[jqc]at d;subst d;rcases h with h|⟨r,h⟩
 ·simp at h
 rw[<- jo0]at h;obtain⟨_,f⟩:=List.append_inj' h rfl;exact .inr ⟨e,by rw[f]⟩
theorem jaY:∀(n:Nat) (b x:List UInt8) (c a:Nat),b.length<=n->jbQ b->∃k,jR c a (b++x)=jR c a b++jR (c+k) (a+b.length) x
 | 0,b,x,c,a,h,_=>by have:b=[]:=List.length_eq_zero_iff.1 (by omega);subst this;exact⟨0,by simp[jr]⟩
 | n+1,b,x,c,a,h,j=>by
  by_cases g:b=[]
  ·subst g;exact⟨0,by simp[jr]⟩
  have q:=jjP j g;have f:=jk9 q
  generalize s:b.drop (qK b)=r at f;generalize o:head b=d at f;have i:(10:UInt8)∉d:=by rw[<- o];exact JO b
  subst f;have e:jbQ r:=jhB (a:=d++[10]) (by rw[jo0];exact j)
  obtain⟨k,p⟩:=jaY n r x (c+1) (a+d.length+1) (by simp at h;omega) e;refine⟨k+1,?_⟩;rw[jo0,jo6,Xj _ _ _ _ i,Xj _ _ _ _ i,p];simp only[jo6,joK,joR];have l:c+1+k=c+(k+1):=by omega
  have m:a+d.length+1+r.length=a+(d.length+(r.length+1)):=by omega
  rw[l,m]
theorem jfg{l:List UInt8}(h:∀x∈jf l,x.ended=true):jbQ l:=by
 have b:=jL l;rcases jqb (jf l) with a|⟨c,x,a⟩
 ·rw[a]at b;exact .inl b.symm
 rw[jqc]at a;rw[a]at b h;have hx:=h x (by simp)
 refine .inr ⟨c.flatMap Ln.bytes++x.text,?_⟩;rw[<- b,jpo];unfold Ln.bytes;simp[hx]
theorem jaw(t:List UInt8):∀(b:List Ln) (p q:PS),qU t p b=.ok q->∀x∈b,jm x.text≠5/\x.ended=true
 | [],_,_,_,x,hx=>by cases hx
 | y::b,p,q,h,x,hx=>by
  unfold qU at h;cases c:zq t p y with
  | error e=>rw[c]at h;cases h
  | ok d =>
  rw[c]at h;obtain⟨_,a,_⟩:=yK c;unfold zQ at a;rcases List.mem_cons.1 hx with e|hx
  ·subst e;simp only[Bool.or_eq_false_iff,Bool.not_eq_false']at a;exact⟨by simpa using a.1.1,a.2⟩
  exact jaw t b d q h x hx
theorem YY{t:List UInt8}{its:List It}(h:jD t=.ok its):∀x∈jf t,jm x.text≠5/\x.ended=true:=by
 unfold jD at h;cases a:qU t PS.new (jf t) with
 | error e=>rw[a]at h;cases h
 | ok p=>exact jaw t _ _ _ a
theorem Wb{t:List UInt8}{its:List It}(h:jD t=.ok its):jbQ t:=jfg fun x hx=>(YY h x hx).2
theorem jeG{t:List UInt8}{its:List It}(h:jD t=.ok its):∀x∈jf t,Vi x.text=false:=fun x hx=>by unfold Vi;rw[decide_eq_false (YY h x hx).1,Bool.and_false]
theorem jdW(t:List UInt8):ya (jf t) t.length<=t.length:=by
 unfold ya;cases h:(jf t).find? (fun x=>Vi x.text) with
 | none=>exact joJ _
 | some x =>
 obtain⟨_,b,a,c,_⟩:=List.find?_eq_some_iff_append.1 h;obtain⟨_,e⟩:=qX t b x a c;have d:=jL t
 rw[c,jpo]at d;show x.at_<=t.length
 rw[e,<- d,joK];omega
theorem Ql(t:List UInt8):(vo t).length=ya (jf t) t.length:=by unfold vo;rw[joS];have:=jdW t;omega
theorem XV(t:List UInt8):t=vo t++t.drop (vo t).length:=by have h:=Ql t;rw[h];exact(jpb _ t).symm
theorem jcK(t:List UInt8):t.drop (vo t).length=[]\/Vi (head (t.drop (vo t).length))=true:=by
 rw[Ql];unfold ya;cases h:(jf t).find? (fun x=>Vi x.text) with
 | none=>left;simp
 | some x =>
 obtain⟨r,c,b,m,_⟩:=List.find?_eq_some_iff_append.1 h;obtain⟨_,w⟩:=qX t c x b m;have o:∀y∈c,y.ended=true:=by
  intro y d;have f:∀(j:List Ln) (p a:Nat) (l:List UInt8) (z:Ln) (q:List Ln),jR p a l=j++z::q->∀y∈j,y.ended=true:=by
   intro j
   induction j with
   | nil=>intro p a l z q _ y d;cases d
   | cons u G E =>
   intro p a l z q e y d;have hl:l≠[]:=by rintro rfl;rw[jr]at e;cases e
   rw[jC _ _ _ hl,jo6]at e;obtain⟨s,k⟩:=List.cons.inj e;rcases List.mem_cons.1 d with d|d
   ·subst d;rw[<- s];show nl l=true
    cases i:nl l with
    | true=>rfl
    | false =>
    exfalso;have C:=zu l
    rw[i]at C;have D:qK l=(head l).length:=by unfold qK;rw[i];rfl
    have v:l.drop (qK l)=[]:=by
     have A:(10:UInt8)∉l:=by unfold nl at i;simpa using i
     have:head l=l:=Jr A;rw[D,this];exact jp0
    rw[v,jr]at k;cases G<;>cases k
   exact E _ _ _ _ _ k y d
  exact f c 0 0 t x b m y d
 obtain⟨_,g⟩:=Xk c (x::b) 0 0 t m o;right;show Vi (head (t.drop x.at_))=true
 rw[w];have n:t.drop (c.flatMap Ln.bytes).length≠[]:=by intro e;rw[e,jr]at g;cases g
 rw[jC _ _ _ n]at g;have:=(List.cons.inj g).1
 rw[this]at r;exact r
theorem jft{b x:List UInt8}(f:jbQ b)(d:∀y∈jf b,Vi y.text=false)(hx:x=[]\/Vi (head x)=true):vo (b++x)=b:=by
 obtain⟨k,g⟩:=jaY _ b x 0 0 (joJ _) f;have e:ya (jf (b++x)) (b++x).length=b.length:=by
  unfold ya jf;rw[g,jrf];have c:(jR 0 0 b).find? (fun x=>Vi x.text)=none:=List.find?_eq_none.2 fun y h=>by rw[d y h];simp
  rw[c];rcases hx with rfl|hx
  ·simp[jr]
  have a:x≠[]:=by rintro rfl;exact absurd hx (by decide)
  rw[jC _ _ _ a,Option.none_or,jq8];simp only[hx];simp
 unfold vo;rw[e,List.take_left'];rfl
theorem jjf{l r:List UInt8}(h:l=37::r)(a:(10:UInt8)∉l)(b:(58:UInt8)∉l):Vi l=true:=by
 subst h;have d:qM (37::r) 10=false:=by rw[Bool.eq_false_iff];intro c;exact a (by simpa [qM]using c)
 have e:qM (37::r) 58=false:=by rw[Bool.eq_false_iff];intro c;exact b (by simpa [qM]using c)
 have f:jm (37::r)=5:=by
  unfold jm;rw[d,e];have g:jS (37::r)=false:=by unfold jS;rw[jqG];rfl
  have i:Zp (37::r)=false:=rfl;have j:vn (37::r)=false:=rfl
  rw[g,i,j];simp
 unfold Vi;rw[f];simp[hasPrefix]
theorem jn3{c:UInt8}(h:Xv c=true):c≠58:=by rintro rfl;exact absurd h (by decide)
theorem Gm{n:Nat}{f:List UInt8}(a:Vb f):(10:UInt8)∉jP n f/\(58:UInt8)∉jP n f:=by
 refine⟨vJ a,?_⟩;unfold jP AMD;intro h;simp only[jo6,jpC,List.mem_cons,List.mem_append]at h;rcases h with h|h|h|h|h|h|h|h|h|h
 all_goals first
  | exact absurd h (by decide)
  | skip
 ·have:=za n _ h;simp at this
 exact jn3 (List.all_eq_true.1 (vV.1 a).2 _ h) rfl
theorem jjr{a r:List UInt8}(h:(10:UInt8)∉a):head (a++10::r)=a:=(Xw a r h).1
theorem XC(b:List UInt8):fullR b=jP b.length (vt b)++10::(b++zj b.length):=rfl
theorem jd2(b m:List UInt8):Vi (head (fullR b++m))=true:=by have a:=qR b;rw[XC,jo0,jo6,jjr (Gm a).1];exact jjf (r:=(jP b.length (vt b)).tail) rfl (Gm a).1 (Gm a).2
structure jfx(D:List UInt8->Bool)(s:List UInt8)(bds:List (List UInt8))(rest:List UInt8):Prop where
 eq:s=bds.flatMap fullR++rest
 good:∀b∈bds,goodR b=true/\D b=true
def jkn(D:List UInt8->Bool)(r:List UInt8):Prop:=(¬xO r/\¬∃b,vK r b)\/∃b,vK r b/\D b=false
def Fin(D:List UInt8->Bool)(r:List UInt8):Prop:=xO r\/jkn D r
theorem jhs{D:List UInt8->Bool}{r b:List UInt8}(h:Fin D r)(a:vK r b)(c:D b=true):False:=by
 rcases h with h|⟨_,h⟩|⟨e,d,h⟩
 ·exact JV a h
 ·exact h ⟨b,a⟩
 rw[jah a d]at c;rw[c]at h;cases h
theorem jjI{D:List UInt8->Bool}{r:List UInt8}(h:xO r)(a:jkn D r):False:=by
 rcases a with ⟨c,_⟩|⟨b,d,_⟩
 ·exact c h
 exact JV d h
theorem Ym{D:List UInt8->Bool}:∀{s:List UInt8} {x y:List (List UInt8)} {r q:List UInt8},jfx D s x r->jfx D s y q->Fin D r->Fin D q->x=y/\r=q
 | s,[],[],r,q,h,a,_,_=>⟨rfl,by have e:=h.eq;rw[a.eq]at e;simpa using e.symm⟩
 | s,[],b::y,r,q,h,a,k,_=>by
  exfalso;have e:=h.eq
  have f:=a.eq;rw[jqM,jpC]at e;rw[jo5,jo0]at f;obtain⟨g,d⟩:=a.good b joV;exact jhs k ⟨g,_,e.symm.trans f⟩ d
 | s,b::x,[],r,q,h,a,_,k=>by
  exfalso;have e:=h.eq
  have f:=a.eq;rw[jqM,jpC]at f;rw[jo5,jo0]at e;obtain⟨g,d⟩:=h.good b joV;exact jhs k ⟨g,_,f.symm.trans e⟩ d
 | s,b::x,c::y,r,q,h,a,t,p=>by
  have e:=h.eq;have f:=a.eq
  rw[jo5,jo0]at e f;obtain⟨g,d⟩:=h.good b joV;obtain⟨m,u⟩:=a.good c joV;have j:b=c:=jah ⟨g,_,e⟩ ⟨m,_,f⟩
  subst j;have l:=jqx (e.symm.trans f)
  obtain⟨n,o⟩:=Ym (s:=x.flatMap fullR++r) ⟨rfl,fun b i=>h.good b (joU _ i)⟩ ⟨l,fun b i=>a.good b (joU _ i)⟩ t p;exact⟨by rw[n],o⟩
theorem jfx.snoc{D:List UInt8->Bool}{s r b:List UInt8}{a:List (List UInt8)}(h:jfx D s a r)(i:vK r b)(e:D b=true):jfx D s (a++[b]) (r.drop (fullR b).length):=by
 obtain⟨g,m,f⟩:=i;refine⟨?_,fun c d => ?_⟩
 ·rw[h.eq,f,jp8,jpo];simp
 rcases List.mem_append.1 d with d|d
 ·exact h.good c d
 rw[List.mem_singleton.1 d];exact⟨g,e⟩
def ql:Nat->List (List UInt8)->List Nat
 | _,[]=>[]
 | s,b::r=>(s+(fullR b).length)::ql (s+(fullR b).length) r
theorem vZ:∀(s:Nat) (a:List (List UInt8)) (b:List UInt8),ql s (a++[b])=ql s a++[s+(a.flatMap fullR).length+(fullR b).length]
 | s,[],b=>by simp[ql]
 | s,c::r,b=>by have:=vZ (s+(fullR c).length) r b;simp only[jo6,ql];rw[this];simp only[jo5,joK,jqu]
theorem Jw:∀(s:Nat) (a:List (List UInt8)),(ql s a).length=a.length
 | _,[]=>rfl
 | s,b::r=>by simp[ql,Jw]
theorem Gy(s:Nat)(a:List (List UInt8))(h:a≠[]):(ql s a)[a.length-1]?=some (s+(a.flatMap fullR).length):=by
 rcases jqb a with c|⟨r,b,c⟩
 ·exact absurd c h
 rw[jqc]at c;subst c;rw[vZ,jo7 (by rw[Jw];simp),Jw];simp[Nat.add_assoc]
theorem jdJ(b:List UInt8):7<=(fullR b).length:=by unfold fullR recR jP AMD;simp
theorem XT:∀(a:List (List UInt8)),a.length<=(a.flatMap fullR).length
 | []=>joJ _
 | b::r=>by
  have h:=XT r;have:=jdJ b
  rw[jo5,joK,joR];omega
def hl(n:Nat):Nat:=if 1<=n/\n<=2147483648 then (zE n).length else 0
theorem jjp{t:List UInt8}{n:Nat}(h:xi t n):hl n<=t.length:=by
 unfold hl;split
 ·rename_i a;rcases h with ⟨_,_,r,e⟩|⟨rfl,_⟩
  ·rw[e];simp
  omega
 omega
theorem jjs{g i:Nat}(h:(zE g)[i]?=some 37):i=1:=by
 unfold zE Qp at h
 match i,h with
 | 0,h=>simp at h
 | 1,_=>rfl
 | 2,h=>simp at h
 | 3,h=>simp at h
 | 4,h=>simp at h
 | 5,h=>simp at h
 | i+6,h =>
 exfalso;have a:(decDigits g++[10,10])[i]?=some 37:=by simpa using h
 have:=joW a;rcases List.mem_append.1 this with h|h
 ·have:=za g _ h;simp at this
 exact absurd h (by decide)
theorem jjz{t p q x:List UInt8}{n:Nat}(h:xi t n)(o:t=p++q)(m:hl n<=p.length)(c:jbQ p)(hx:x=[]\/∃y,x=37::y):xi (p++x) n:=by
 rcases h with ⟨i,j,r,e⟩|⟨rfl,l⟩
 ·left;refine⟨i,j,?_⟩;have k:hl n=(zE n).length:=by unfold hl;rw[if_pos ⟨i,j⟩]
  rw[k]at m;have s:p=zE n++p.drop (zE n).length:=by
   have b:(p++q).take (zE n).length=zE n:=by rw[<- o,e];simp
   rw[jqw m]at b;have:=jpb (zE n).length p
   rw[b]at this;exact this.symm
  exact⟨p.drop (zE n).length++x,by rw[<- jo0,<- s]⟩
 right;refine⟨rfl,fun g v => ?_⟩;obtain⟨i,j,r,e⟩:=v;by_cases d:(zE g).length<=p.length
 ·have b:(zE g++r).take (zE g).length=zE g:=by simp
  rw[<- e,jqw d]at b;have:=jpb (zE g).length p
  rw[b]at this;exact l g ⟨i,j,p.drop (zE g).length++q,by rw[o,<- jo0,this]⟩
 rcases hx with rfl|⟨y,rfl⟩
 ·rw[jo9]at e;have:=congrArg List.length e
  simp at this;omega
 have u:(zE g)[p.length]?=some 37:=by
  have:(zE g++r)[p.length]?=some 37:=by rw[<- e];simp
  rwa [jpf (by omega)]at this
 have a:=jjs u;have f:(zE g++r)[0]?=some 35:=by unfold zE Qp;rfl
 rw[<- e]at f;rcases c with c|⟨z,c⟩
 ·rw[c]at a;simp at a
 rw[c]at a f;have w:z=[]:=by simpa using a
 rw[w]at f;simp at f
structure vp(D:List UInt8->Bool)(t:List UInt8)(n:Nat)(base:List UInt8)(bds:List (List UInt8))(tail:List UInt8):Prop where
 gen:xi t n
 parse:∃its,jD base=.ok its
 isB:vo (t.drop (hl n))=base
 recd:jfx D (t.drop (hl n+base.length)) bds tail
 fin:xO tail
theorem jdq:xO []:=jct (b:=[32,10]) (by decide) (k:=0) (by decide)
def zg(n:Nat)(base:List UInt8)(bds:List (List UInt8)):Nat:=hl n+base.length+(bds.flatMap fullR).length
theorem Qe(t:List UInt8)(a b:Nat):t.drop (a+b)=(t.drop a).drop b:=by rw[jp7]
structure joa(t:List UInt8)(n:Nat)(base:List UInt8)(bds:List (List UInt8))(tail:List UInt8):Prop where
 eq:t=t.take (hl n)++(base++(bds.flatMap fullR++tail))
 take:t.take (zg n base bds)=t.take (hl n)++(base++bds.flatMap fullR)
 len:t.length=zg n base bds+tail.length
 tail:t.drop (zg n base bds)=tail
theorem vp.parts{D:List UInt8->Bool}{t base a:List UInt8}{n:Nat}{b:List (List UInt8)}(h:vp D t n base b a):joa t n base b a:=by
 have j:=jjp h.gen;have c:=XV (t.drop (hl n))
 rw[h.isB]at c;have f:=h.recd.eq
 rw[Qe]at f;rw[f]at c;have g:t=t.take (hl n)++(base++(b.flatMap fullR++a)):=by rw[<- c];exact(jpb _ t).symm
 have i:(t.take (hl n)).length=hl n:=by rw[joS];omega
 have d:t=(t.take (hl n)++(base++b.flatMap fullR))++a:=by rw[jo0,jo0];exact g
 have e:(t.take (hl n)++(base++b.flatMap fullR)).length=zg n base b:=by unfold zg;simp only[joK,i];omega
 refine⟨g,?_,?_,?_⟩
 ·conv=>lhs;rw[d]
  rw[<- e,jq0]
 ·conv=>lhs;rw[d]
  rw[joK,e]
 conv=>lhs;rw[d]
 rw[<- e,jp8]
theorem GA{a b:List UInt8}(c:jbQ a)(d:jbQ b):jbQ (a++b):=by
 rcases d with rfl|⟨r,rfl⟩
 ·rw[jo9];exact c
 exact .inr ⟨a++r,by rw[jo0]⟩
theorem jhC(b:List UInt8):jbQ (fullR b):=.inr ⟨jP b.length (vt b)++10::(b++(END++decDigits b.length)),by
 rw[XC];unfold zj;simp⟩
theorem jbn:∀a:List (List UInt8),jbQ (a.flatMap fullR)
 | []=>.inl rfl
 | b::r=>by rw[jo5];exact GA (jhC b) (jbn r)
theorem jjQ{t:List UInt8}{n:Nat}(h:xi t n):jbQ (t.take (hl n)):=by
 rcases h with ⟨b,c,r,e⟩|⟨rfl,_⟩
 ·have a:hl n=(zE n).length:=by unfold hl;rw[if_pos ⟨b,c⟩]
  rw[a,e,jq0];exact .inr ⟨Qp++(decDigits n++[10]),by unfold zE;simp⟩
 exact .inl (by unfold hl;simp)
theorem jh0{x:List UInt8}(h:Vi (head x)=true):∃y,x=37::y:=by
 unfold Vi at h;simp only[jpk]at h;obtain⟨h,_⟩:=h;cases x with
 | nil=>exact absurd h (by decide)
 | cons c r =>
 unfold head at h;rw[jpy]at h;split at h
 ·unfold hasPrefix at h;simp[List.isPrefixOf]at h;exact⟨r,by rw[h]⟩
 exact absurd h (by decide)
theorem vp.again{D:List UInt8->Bool}{t base f x:List UInt8}{n:Nat}{a zJ:List (List UInt8)}{c:List UInt8}(h:vp D t n base a f)(hx:x=[]\/Vi (head x)=true)(m:jfx D x zJ c)(p:xO c):
  vp D (t.take (zg n base a)++x) n base (a++zJ) c:=by
 have P:=h.parts;have q:=jjp h.gen
 have l:(t.take (hl n)).length=hl n:=by rw[joS];omega
 obtain⟨j,g⟩:=h.parse;have s:hl n<=(t.take (zg n base a)).length:=by rw[P.take,joK,l];omega
 have o:jbQ (t.take (zg n base a)):=by rw[P.take];exact GA (jjQ h.gen) (GA (Wb g) (jbn a))
 have i:x=[]\/∃y,x=37::y:=hx.imp id jh0;have k:(t.take (zg n base a)++x).drop (hl n)=base++(a.flatMap fullR++x):=by rw[P.take,jo0,jo0];exact jp9 l
 have d:a.flatMap fullR++x=[]\/Vi (head (a.flatMap fullR++x))=true:=by
  cases a with
  | nil=>exact hx
  | cons b r=>right;rw[jo5,jo0];exact jd2 b _
 have e:vo (base++(a.flatMap fullR++x))=base:=jft (Wb g) (jeG g) d;refine⟨jjz h.gen (jpb _ t).symm s o i,⟨j,g⟩,by rw[k];exact e,?_,p⟩;rw[Qe,k,jp8];refine⟨by rw[m.eq,jpo,jo0],fun b d => ?_⟩;rcases List.mem_append.1 d with d|d
 ·exact h.recd.good b d
 exact m.good b d
end Go.Proofs.YtbapfpekklcicaaGreatDoor.Bk
