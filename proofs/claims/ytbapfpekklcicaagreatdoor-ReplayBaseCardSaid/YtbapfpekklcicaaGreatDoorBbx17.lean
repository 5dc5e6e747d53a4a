/- Texts put together:QC,WM,FT,FU. -/
import Derived.Test.YtbapfpekklcicaaGreatDoorBbx13
import Derived.Test.YtbapfpekklcicaaGreatDoorBbx8
set_option linter.unusedVariables false
set_option maxRecDepth 100000
set_option maxHeartbeats 16000000
namespace Go.Proofs.YtbapfpekklcicaaGreatDoor
open Go.RowKit Go.Shelf Tryz
def zI:List Ln->List (List UInt8)
 | []=>[]
 | x::xs=>if jm x.text=3 then x.text::zI xs else []
structure RS where
 out:List It
 kind:Int
 raw:List UInt8
 fields:List Fld
 records:Nat
 prev:Nat
def RS.new:RS:=⟨[],2,[],[],0,0⟩
def zv(s:RS)(x:Ln)(xs:List Ln):Nat :=
 if jm x.text=5\/(jm x.text=3/\¬(s.prev=4\/s.prev=3))\/x.ended=false then 2
 else if jm x.text≠4 then 0
 else if jt (x.text::zI xs)≠0 then jt (x.text::zI xs)
 else if 40<=s.fields.length\/(s.fields.length=0/\400<=s.records) then 11 else 0
def RS.block(s:RS):List It:=if s.raw=[] then [] else [⟨s.kind,s.raw,s.fields⟩]
def vC(s:RS)(x:Ln)(xs:List Ln):RS :=
 if jm x.text=1 then ⟨s.out++s.block++[⟨1,x.text++[10],[]⟩],2,[],[],s.records,1⟩
 else if jm x.text=4 then ⟨s.out,3,s.raw++x.text++[10],s.fields++[(jU (x.text::zI xs),jT (x.text::zI xs))],if s.kind=2 then s.records+1 else s.records,4⟩
 else {s with raw:=s.raw++x.text++[10],prev:=jm x.text}
def ZD:RS->List Ln->Res RS
 | s,[]=>.ok s
 | s,x::xs=>if zv s x xs≠0 then .error (x.no,zv s x xs) else ZD (vC s x xs) xs
def yG(t:List UInt8):Res (List It) :=
 match ZD RS.new (jf t) with
 | .error e=>.error e
 | .ok s=>.ok (s.out++s.block)
def jm8:List Ln->Prop
 | []=>True
 | x::xs=>(x.ended=false->xs=[])/\jm8 xs
theorem jex(l:List UInt8)(h:nl l=false):head l=l:=by
 have b:(10:UInt8)∉l:=by
  intro a;have:nl l=true:=by unfold nl;simpa using a
  rw[this]at h;cases h
 unfold head;clear h
 induction l with
 | nil=>rfl
 | cons c t f =>
 have a:c≠10:=fun e=>b (by rw[e];exact jn5);rw[joG,if_pos (by simp[a]),f (fun d=>b (jn4 _ d))]
theorem VL:∀(n b a:Nat) (l:List UInt8),l.length<=n->jm8 (jP b a l)
 | 0,b,a,l,h=>by have:l=[]:=List.length_eq_zero_iff.1 (by omega);subst this;rw[jq];trivial
 | n+1,b,a,l,h=>by
  by_cases hl:l=[]
  ·subst hl;rw[jq];trivial
  have e:=qJ l hl;rw[jx _ _ _ hl];refine⟨fun c => ?_,VL n _ _ _ (by simp only[jn6];omega)⟩;have d:qF l=(head l).length:=by unfold qF;rw[show nl l=false from c];rfl
  have:l.drop (qF l)=[]:=by rw[d,jex l c,jpc]
  rw[this,jq]
def yy(p:PS)(xs:List Ln):Nat:=if jt (p.said++zI xs)≠0 then jt (p.said++zI xs) else if vO p then 11 else 0
def VK(t:List UInt8)(r:Res PS):Res (List It):=match r with | .error e=>.error e | .ok q=>ZM t q
theorem jfG{t:List UInt8}{p q:PS}{x:Ln}{xs:List Ln}(h:zo t p x=.ok q):qO t p (x::xs)=qO t q xs:=by show(match zo t p x with | .error e=>Except.error e | .ok q=>qO t q xs)=_;rw[h]
theorem Zm{t:List UInt8}{p q:PS}{x:Ln}{xs:List Ln}(h:zo t p x=.ok q):VK t (qO t p (x::xs))=VK t (qO t q xs):=by unfold VK;rw[jfG h]
theorem Xs{t:List UInt8}{p:PS}{e:Nat×Nat}{x:Ln}{xs:List Ln}(h:zo t p x=.error e):VK t (qO t p (x::xs))=.error e:=by
 unfold VK;show(match (match zo t p x with | .error e=>Except.error e | .ok q=>qO t q xs) with | .error e=>_ | .ok q=>_)=_
 rw[h]
theorem Jo{p:PS}(h:p.said≠[]):ji p=if jt p.said≠0 then jt p.said else if vO p then 11 else 0:=by unfold ji;rw[if_neg h]
theorem jcF{t:List UInt8}{p:PS}{x:Ln}(a:qW p x=true)(b:ji (zy p x)≠0):zo t p x=.error ((zy p x).begin_,ji (zy p x)):=by unfold zo;rw[if_pos ⟨a,b⟩]
theorem jft{t:List UInt8}{p:PS}{x:Ln}(a:ji (zy p x)=0)(b:zO p x=true):zo t p x=.error (x.no,2):=by unfold zo;rw[if_neg (fun h=>h.2 a),b];rfl
theorem xV{p:PS}(h:p.said≠[]):p.said.isEmpty=false:=by
 cases b:p.said with
 | nil=>exact absurd b h
 | cons a l=>rfl
theorem jcR(t:List UInt8):∀(a:List Ln) (p:PS),jm8 a->p.said≠[]->yy p a≠0->VK t (qO t p a)=.error (p.begin_,yy p a)
 | [],p,_,l,k=>by
  have e:ji p=yy p []:=by rw[Jo l];unfold yy zI;rw[jok]
  show ZM t p=_;unfold ZM;rw[e,if_pos k]
 | x::a,p,⟨r,m⟩,l,k=>by
  by_cases g:jm x.text=3
  ·have f:vf p x=true:=by unfold vf;rw[g,xV l];rfl
   have i:zy p x={p with said:=p.said++[x.text]}:=by unfold zy;rw[f,if_pos rfl]
   have d:yy {p with said:=p.said++[x.text]} a=yy p (x::a):=by
    have o:(p.said++[x.text])++zI a=p.said++zI (x::a):=by
     show _=p.said++(if jm x.text=3 then x.text::zI a else [])
     rw[if_pos g];simp
    have q:vO {p with said:=p.said++[x.text]}=vO p:=rfl;unfold yy;rw[q];show(if jt ((p.said++[x.text])++zI a)≠0 then jt ((p.said++[x.text])++zI a) else _)=_
    rw[o]
   cases hx:x.ended with
   | true =>
    have c:zO p x=false:=by unfold zO;rw[g,f,hx];rfl
    have b:qW p x=false:=by unfold qW;rw[c,f];rfl
    have u:zo t p x=.ok {p with said:=p.said++[x.text]}:=by rw[yx (by rw[b];intro h;cases h) c];unfold qN;rw[b,if_neg (by decide),i];unfold JC;rw[g];rfl
    rw[Zm u,jcR t a _ m (by simp) (by rw[d];exact k),d]
   | false =>
   have n:=r hx;subst n;have c:zO p x=true:=by unfold zO;rw[hx];simp
   have b:qW p x=true:=by unfold qW;rw[c];rfl
   have j:ji (zy p x)=yy p [x]:=by rw[i,<- d,Jo (by simp)];unfold yy zI;rw[jok]
   rw[Xs (jcF b (by rw[j];exact k)),j,i]
  have f:vf p x=false:=ZT g;have i:zy p x=p:=by unfold zy;rw[f];rfl
  have b:qW p x=true:=by unfold qW;rw[f];simp
  have s:zI (x::a)=[]:=if_neg g;have j:ji (zy p x)=yy p (x::a):=by rw[i,Jo l];unfold yy;rw[s,jok]
  rw[Xs (jcF b (by rw[j];exact k)),j,i]
structure Rel(t:List UInt8)(c:Nat)(p:PS)(s:RS)(xs:List Ln):Prop where
 items:s.out=p.items
 raw:s.raw=(t.take c).drop p.at_
 at_:p.at_<=c
 full:c<=t.length
 rest:t.drop c=xs.flatMap Ln.bytes
 recd:s.records=p.stanzas+if p.fields=[]/\p.said=[] then 0 else 1
 kind:s.kind=if p.fields=[]/\p.said=[] then 2 else 3
 fields:s.fields=p.fields++if p.said=[] then [] else [(jU (p.said++zI xs),jT (p.said++zI xs))]
 ok:p.said≠[]->yy p xs=0
 prev:(s.prev=4\/s.prev=3)↔p.said≠[]
 began:p.fields=[]/\p.said=[]\/p.at_<c
 st:p.stanzas<=400
 st':¬(p.fields=[]/\p.said=[])->p.stanzas<=399
 fl:p.fields.length<=40
theorem Rel.new(t:List UInt8):Rel t 0 PS.new RS.new (jf t) :=
 ⟨rfl,rfl,jnT _,jn3 _,(jJ t).symm,rfl,rfl,rfl,fun h=>absurd rfl h,⟨(fun h=>by rcases h with h | h<;>(exact absurd h (by decide))),fun h=>absurd rfl h⟩,.inl ⟨rfl,rfl⟩,by decide,fun a=>absurd ⟨rfl,rfl⟩ a,by decide⟩
theorem jh1{t:List UInt8}{c:Nat}{x:Ln}{xs:List Ln}(h:t.drop c=(x::xs).flatMap Ln.bytes)(a:c<=t.length):t.take (c+x.bytes.length)=t.take c++x.bytes/\t.drop (c+x.bytes.length)=xs.flatMap Ln.bytes/\c+x.bytes.length<=t.length:=by
 rw[joc]at h;have hl:=congrArg List.length h
 rw[jn6,jnU]at hl;refine⟨?_,?_,by omega⟩
 ·rw[List.take_add,h];simp
 rw[<- jpg,h];simp
theorem jcY{t:List UInt8}{c a:Nat}{x:Ln}(h:t.take (c+x.bytes.length)=t.take c++x.bytes)(b:a<=c)(d:c<=t.length):(t.take (c+x.bytes.length)).drop a=(t.take c).drop a++x.bytes:=by rw[h,jpE];rw[jn2];omega
theorem KQ{x:Ln}{xs:List Ln}(h:jm x.text=3):zI (x::xs)=x.text::zI xs:=if_pos h
theorem jaH{x:Ln}{xs:List Ln}(h:jm x.text≠3):zI (x::xs)=[]:=if_neg h
theorem jaB{p:PS}{xs:List Ln}(b:p.said≠[])(a:zI xs=[]):yy p xs=ji p:=by rw[Jo b];unfold yy;rw[a,jok]
theorem Zn(p:PS):(ja p).fields=p.fields++if p.said=[] then [] else [(jU p.said,jT p.said)]:=by
 unfold ja;split
 ·rw[jok]
 rfl
theorem zD(p:PS):(ja p).stanzas=p.stanzas:=by unfold ja;split<;>rfl
theorem yQ(p:PS):(ja p).fields=[]↔p.fields=[]/\p.said=[]:=by
 rw[Zn];constructor
 ·intro h;by_cases a:p.said=[]
  ·rw[if_pos a,jok]at h;exact⟨h,a⟩
  rw[if_neg a]at h;simp at h
 rintro⟨b,c⟩;rw[b,if_pos c];rfl
theorem Rel.fields_end{t:List UInt8}{c:Nat}{p:PS}{s:RS}{xs:List Ln}(h:Rel t c p s xs)(a:zI xs=[]):s.fields=(ja p).fields:=by rw[h.fields,Zn,a,jok]
theorem vJ(p:PS):(ja p).at_=p.at_:=Zp p
theorem yR(p:PS):(ja p).items=p.items:=by unfold ja;split<;>rfl
theorem jbm{t:List UInt8}{c:Nat}{p:PS}{s:RS}{xs:List Ln}(h:Rel t c p s xs)(n:zI xs=[]):
  (jk t (ja p) c).items=s.out++s.block/\(jk t (ja p) c).stanzas=s.records/\(jk t (ja p) c).fields=[]/\(jk t (ja p) c).said=[]/\(jk t (ja p) c).at_=c:=by
 have l:=h.fields_end n;have j:=h.at_
 have a:=Gf t (ja p) c;rw[ql]at a;have b:=yl t (ja p) c (by rw[vJ];exact j)
 by_cases i:p.at_=c
 ·have f:p.fields=[]/\p.said=[]:=by
   rcases h.began with k|k
   ·exact k
   omega
  have e:jk t (ja p) c=ja p:=by unfold jk;rw[if_pos (by rw[vJ];exact i)]
  have g:s.raw=[]:=by rw[h.raw,i,jpw];rw[jn2];omega
  refine⟨?_,?_,?_,a,b⟩
  ·rw[e,yR,h.items];unfold RS.block;rw[if_pos g,jok]
  ·rw[e,zD,h.recd,if_pos f,jpv]
  rw[e];exact(yQ p).2 f
 have g:s.raw≠[]:=by
  intro e;have:=congrArg List.length e
  rw[h.raw,jn6,jn2]at this;have:=h.full
  simp at *;omega
 by_cases f:(ja p).fields.length=0
 ·have d:=(yQ p).1 (List.length_eq_zero_iff.1 f);have e:jk t (ja p) c=zk t (ja p) 2 c:=by unfold jk;rw[if_neg (by rw[vJ];exact i),if_pos f]
  refine⟨?_,?_,?_,a,b⟩
  ·rw[e];show(ja p).items++[⟨((2:Nat):Int),(t.take c).drop (ja p).at_,(ja p).fields⟩]=_
   unfold RS.block;rw[if_neg g,yR,vJ,h.items,h.kind,if_pos d,h.raw,l];rfl
  ·rw[e];show(ja p).stanzas=_
   rw[zD,h.recd,if_pos d,jpv]
  rw[e];rfl
 have d:¬(p.fields=[]/\p.said=[]):=fun m=>f (by rw[(yQ p).2 m];rfl);have e:jk t (ja p) c={zk t (ja p) 3 c with stanzas:=(ja p).stanzas+1}:=by unfold jk;rw[if_neg (by rw[vJ];exact i),if_neg f]
 refine⟨?_,?_,?_,a,b⟩
 ·rw[e];show(ja p).items++[⟨((3:Nat):Int),(t.take c).drop (ja p).at_,(ja p).fields⟩]=_
  unfold RS.block;rw[if_neg g,yR,vJ,h.items,h.kind,if_neg d,h.raw,l];rfl
 ·rw[e];show(ja p).stanzas+1=_
  rw[zD,h.recd,if_neg d]
 rw[e];rfl
theorem Rel.fl_end{t:List UInt8}{c:Nat}{p:PS}{s:RS}{xs:List Ln}(h:Rel t c p s xs):(ja p).fields.length<=40:=by
 have fl:=h.fl;rw[Zn,jnU];by_cases d:p.said=[]
 ·rw[if_pos d];simpa using fl
 rw[if_neg d];have b:=h.ok d
 unfold yy at b;have a:vO p=false:=by
  split at b
  ·rename_i f;exact absurd b f
  cases e:vO p with
  | false=>rfl
  | true=>rw[e]at b;simp at b
 unfold vO at a;split at a
 ·simp;omega
 have:p.fields.length≠40:=by simpa using a
 simp;omega
theorem Rel.records_le{t:List UInt8}{c:Nat}{p:PS}{s:RS}{xs:List Ln}(h:Rel t c p s xs):s.records<=400:=by
 have st:=h.st;rw[h.recd];split
 ·omega
 rename_i a;have:=h.st' a;omega
theorem jk3{l:List UInt8}(_:(10:UInt8)∉l):jm l=1\/jm l=2\/jm l=3\/jm l=4\/jm l=5:=by
 unfold jm;split;· simp
 split;· simp
 split;· simp
 split;· simp
 split<;>simp
theorem YA(t:List UInt8):∀(xs:List Ln) (L c:Nat) (p:PS) (s:RS),jm3 L c xs->jm8 xs->(∀x∈xs,(10:UInt8)∉x.text)->Rel t c p s xs ->
  VK t (qO t p xs)=match ZD s xs with | .error e=>.error e | .ok s'=>.ok (s'.out++s'.block)
 | [],L,c,p,s,_,_,_,h=>by
  have D:c=t.length:=by
   have:=congrArg List.length h.rest;rw[jn6]at this;have:=h.full
   simp at *;omega
  have h0:ji p=0:=by
   by_cases d:p.said=[]
   ·unfold ji;rw[if_pos d]
   rw[<- jaB d (xs:=[]) rfl];exact h.ok d
  show ZM t p=Except.ok (s.out++s.block);unfold ZM;rw[if_neg (by rw[h0];decide),<- D,(jbm h rfl).1]
 | x::xs,L,c,p,s,⟨r1,r2,r3,V⟩,⟨he,v⟩,D,h=>by
  obtain⟨t1,W,t3⟩:=jh1 h.rest h.full;have P:(10:UInt8)∉x.text:=D x jn5
  have l:∀y∈xs,(10:UInt8)∉y.text:=fun y hy=>D y (jn4 _ hy);show VK t (qO t p (x::xs))=match (if zv s x xs≠0 then Except.error (x.no,zv s x xs) else ZD (vC s x xs) xs) with | .error e=>_ | .ok s'=>_
  have O:p.said≠[]->zI (x::xs)=[]->ji p=0:=fun d R=>by rw[<- jaB d R];exact h.ok d
  by_cases b:jm x.text=5\/(jm x.text=3/\¬(s.prev=4\/s.prev=3))\/x.ended=false
  ·
   have ae:zv s x xs=2:=by unfold zv;rw[if_pos b]
   rw[ae,if_pos (by decide)];have u:zO p x=true:=by
    unfold zO;rcases b with I|⟨k,hp⟩|hx
    ·rw[I];rfl
    ·have d:p.said=[]:=Classical.byContradiction fun a7=>hp (h.prev.2 a7);have:vf p x=false:=by unfold vf;rw[d];simp
     rw[k,this];simp
    rw[hx];simp
   have n:ji (zy p x)=0:=by
    cases g:vf p x with
    | true =>
     have o:jm x.text=3:=by unfold vf at g;simp at g;exact g.1
     have d:p.said≠[]:=by unfold vf at g;simp at g;exact g.2
     have hx:x.ended=false:=by
      rcases b with I|⟨_,hp⟩|hx
      ·omega
      ·exact absurd (h.prev.2 d) hp
      exact hx
     have af:=he hx;have G:zy p x={p with said:=p.said++[x.text]}:=by unfold zy;rw[g,if_pos rfl]
     have q:=h.ok d;rw[G,Jo (by simp)];unfold yy at q;rw[KQ o,af]at q;exact q
    | false =>
    have G:zy p x=p:=by unfold zy;rw[g];rfl
    rw[G];by_cases d:p.said=[]
    ·unfold ji;rw[if_pos d]
    refine O d (jaH ?_);intro k;unfold vf at g;rw[k,xV d]at g;simp at g
   rw[Xs (jft n u)]
  have hx:x.ended=true:=by
   cases hx:x.ended with
   | true=>rfl
   | false=>exact absurd (.inr (.inr hx)) b
  have I:jm x.text≠5:=fun I=>b (.inl I);have X:x.bytes=x.text++[10]:=by unfold Ln.bytes;rw[hx];rfl
  have z:(t.take (c+x.bytes.length)).drop p.at_=s.raw++x.text++[10]:=by rw[jcY t1 h.at_ h.full,<- h.raw,X,jn8]
  have Y:x.bytes.length=x.text.length+1:=by rw[X];simp
  by_cases k:jm x.text=3
  ·
   have K:s.prev=4\/s.prev=3:=Classical.byContradiction fun m=>b (.inr (.inl ⟨k,m⟩));have d:=h.prev.1 K
   have g:vf p x=true:=by unfold vf;rw[k,xV d];rfl
   have G:zy p x={p with said:=p.said++[x.text]}:=by unfold zy;rw[g,if_pos rfl]
   have u:zO p x=false:=by unfold zO;rw[k,g,hx];rfl
   have n:qW p x=false:=by unfold qW;rw[u,g];rfl
   have ht:zo t p x=.ok {p with said:=p.said++[x.text]}:=by rw[yx (by rw[n];intro h;cases h) u];unfold qN;rw[n,if_neg (by decide),G];unfold JC;rw[k];rfl
   have C:zv s x xs=0:=by unfold zv;rw[if_neg b,if_pos (by omega)]
   have f:vC s x xs={s with raw:=s.raw++x.text++[10],prev:=3}:=by unfold vC;rw[if_neg (by omega),if_neg (by omega),k]
   rw[Zm ht,C,if_neg (by decide),f];have E:(p.said++[x.text])++zI xs=p.said++zI (x::xs):=by rw[KQ k];simp
   refine YA t xs (L+1) (c+x.bytes.length) _ _ V v l ⟨h.items,?_,?_,t3,W,?_,?_,?_,?_,?_,?_,h.st,fun _=>h.st' (fun a=>d a.2),h.fl⟩
   ·exact z.symm
   ·show p.at_<=_;have:=h.at_;omega
   ·show s.records=p.stanzas+if p.fields=[]/\p.said++[x.text]=[] then 0 else 1
    rw[h.recd,if_neg (fun a=>d a.2),if_neg (by simp)]
   ·show s.kind=if p.fields=[]/\p.said++[x.text]=[] then 2 else 3
    rw[h.kind,if_neg (fun a=>d a.2),if_neg (by simp)]
   ·show s.fields=p.fields++if p.said++[x.text]=[] then [] else [(jU ((p.said++[x.text])++zI xs),jT ((p.said++[x.text])++zI xs))]
    rw[h.fields,if_neg d,if_neg (by simp),E]
   ·intro _;have q:=h.ok d
    unfold yy at q ⊢;show(if jt ((p.said++[x.text])++zI xs)≠0 then jt ((p.said++[x.text])++zI xs) else if vO p then 11 else 0)=0
    rw[E];exact q
   ·exact⟨fun _=>by simp,fun _=>.inr rfl⟩
   exact .inr (by show p.at_<_;have:=h.at_;omega)
  ·
   have R:zI (x::xs)=[]:=jaH k;have hN:ji p=0:=by
    by_cases d:p.said=[]
    ·unfold ji;rw[if_pos d]
    exact O d R
   have g:vf p x=false:=ZT k;have G:zy p x=p:=by unfold zy;rw[g];rfl
   have u:zO p x=false:=by unfold zO;rw[g,hx];simp[k,I]
   have n:qW p x=true:=by unfold qW;rw[g];simp
   have aa:qN p x=ja p:=by unfold qN;rw[n,if_pos rfl,G]
   have ht:zo t p x=.ok (JC t (ja p) x):=by rw[yx (by rw[G];exact fun _=>hN) u,aa]
   have U:=h.fields_end R;have Q:=h.fl_end
   rw[Zm ht];rcases jk3 P with o|o|o|o|o
   ·
    have C:zv s x xs=0:=by unfold zv;rw[if_neg b,if_pos (by omega)]
    have f:vC s x xs=⟨s.out++s.block++[⟨1,x.text++[10],[]⟩],2,[],[],s.records,1⟩:=by unfold vC;rw[if_pos o]
    obtain⟨b1,b2,b3,H,b5⟩:=jbm h R;have hP:JC t (ja p) x=zk t (jk t (ja p) c) 1 (c+x.bytes.length):=by unfold JC;rw[if_neg (by omega),if_pos o,r2,Y];rfl
    have Z:(t.take (c+x.bytes.length)).drop c=x.text++[10]:=by rw[jcY t1 (jnT _) h.full,X,jpw (by rw[jn2];omega)];rfl
    rw[C,if_neg (by decide),f,hP];refine YA t xs (L+1) (c+x.bytes.length) _ _ V v l ⟨?_,?_,jnT _,t3,W,?_,?_,?_,?_,?_,?_,?_,?_,?_⟩
    ·show s.out++s.block++[_]=(jk t (ja p) c).items++[⟨((1:Nat):Int),(t.take (c+x.bytes.length)).drop (jk t (ja p) c).at_,(jk t (ja p) c).fields⟩]
     rw[b1,b3,b5,Z];rfl
    ·show []=(t.take (c+x.bytes.length)).drop (c+x.bytes.length);rw[jpw];rw[jn2];omega
    ·show s.records=(jk t (ja p) c).stanzas+if ([]:List Fld)=[]/\(jk t (ja p) c).said=[] then 0 else 1
     rw[b2,if_pos ⟨rfl,H⟩];rfl
    ·show(2:Int)=if ([]:List Fld)=[]/\(jk t (ja p) c).said=[] then 2 else 3
     rw[if_pos ⟨rfl,H⟩]
    ·show []=[]++if (jk t (ja p) c).said=[] then [] else _
     rw[if_pos H];rfl
    ·exact fun m=>absurd H m
    ·exact⟨fun a=>by rcases a with a | a;exact absurd (show(1:Nat)=4 from a) (by decide);exact absurd (show(1:Nat)=3 from a) (by decide),fun a=>absurd H a⟩
    ·exact .inl ⟨rfl,H⟩
    ·show(jk t (ja p) c).stanzas<=400;rw[b2];exact h.records_le
    ·exact fun m=>absurd ⟨rfl,H⟩ m
    show([]:List Fld).length<=40;decide
   ·
    have C:zv s x xs=0:=by unfold zv;rw[if_neg b,if_pos (by omega)]
    have f:vC s x xs={s with raw:=s.raw++x.text++[10],prev:=2}:=by unfold vC;rw[if_neg (by omega),if_neg (by omega),o]
    have hP:JC t (ja p) x=ja p:=by unfold JC;rw[if_neg (by omega),if_neg (by omega)]
    have j:((ja p).fields=[]/\(ja p).said=[])↔(p.fields=[]/\p.said=[]):=by rw[yQ];exact⟨fun a=>a.1,fun a=>⟨a,ql p⟩⟩
    rw[C,if_neg (by decide),f,hP];refine YA t xs (L+1) (c+x.bytes.length) _ _ V v l ⟨?_,?_,?_,t3,W,?_,?_,?_,?_,?_,?_,?_,?_,Q⟩
    ·rw[yR];exact h.items
    ·rw[vJ];exact z.symm
    ·rw[vJ];have:=h.at_;omega
    ·rw[zD];show s.records=_;rw[h.recd];congr 1;simp only[j]
    ·show s.kind=_;rw[h.kind];simp only[j]
    ·show s.fields=_;rw[U,if_pos (ql p),jok]
    ·exact fun m=>absurd (ql p) m
    ·exact⟨fun a=>by rcases a with a | a;exact absurd (show(2:Nat)=4 from a) (by decide);exact absurd (show(2:Nat)=3 from a) (by decide),fun a=>absurd (ql p) a⟩
    ·rw[vJ];exact .inr (by have:=h.at_;omega)
    ·rw[zD];exact h.st
    rw[zD];exact fun m=>h.st' (fun a=>m (j.2 a))
   ·exact absurd o k
   ·
    have hP:JC t (ja p) x={ja p with begin_:=x.no,said:=[x.text]}:=by unfold JC;rw[if_pos o]
    have A:(ja p).fields.length=0->s.records=p.stanzas:=fun N=>by rw[h.recd,if_pos ((yQ p).1 (List.length_eq_zero_iff.1 N)),jpv]
    have ag:=h.st;have w:vO {ja p with begin_:=x.no,said:=[x.text]}=decide (40<=s.fields.length\/(s.fields.length=0/\400<=s.records)):=by
     unfold vO;show(if (ja p).fields.length=0 then (ja p).stanzas==400 else (ja p).fields.length==40)=_
     rw[U,zD];split
     ·rename_i N;have:=A N
      rw[joS,beq_iff_eq,decide_eq_true_iff];omega
     rename_i N;rw[joS,beq_iff_eq,decide_eq_true_iff];omega
    have J:zv s x xs=yy {ja p with begin_:=x.no,said:=[x.text]} xs:=by
     unfold zv yy;rw[if_neg b,if_neg (by omega),w];show(if jt (x.text::zI xs)≠0 then _ else _)=(if jt ([x.text]++zI xs)≠0 then _ else _)
     simp only[jog,joL,decide_eq_true_eq]
    rw[hP];by_cases m:zv s x xs=0
    ·rw[m,if_neg (by decide)];have f:vC s x xs=⟨s.out,3,s.raw++x.text++[10],s.fields++[(jU (x.text::zI xs),jT (x.text::zI xs))],if s.kind=2 then s.records+1 else s.records,4⟩:=by unfold vC;rw[if_neg (by omega),if_pos o]
     rw[f];have r:yy {ja p with begin_:=x.no,said:=[x.text]} xs=0:=by rw[<- J];exact m
     have a8:¬(40<=s.fields.length\/(s.fields.length=0/\400<=s.records)):=by
      intro a;unfold yy at r;rw[w,decide_eq_true a]at r;split at r
      ·rename_i hu;exact hu r
      simp at r
     refine YA t xs (L+1) (c+x.bytes.length) _ _ V v l ⟨?_,?_,?_,t3,W,?_,?_,?_,?_,?_,?_,?_,?_,Q⟩
     ·show s.out=(ja p).items;rw[yR];exact h.items
     ·show s.raw++x.text++[10]=(t.take (c+x.bytes.length)).drop (ja p).at_;rw[vJ];exact z.symm
     ·show(ja p).at_<=_;rw[vJ];have:=h.at_;omega
     ·show(if s.kind=2 then s.records+1 else s.records)=(ja p).stanzas+if (ja p).fields=[]/\[x.text]=[] then 0 else 1
      have e1:¬((ja p).fields=[]/\[x.text]=[]):=fun a=>by cases a.2
      rw[zD,if_neg e1,h.kind,h.recd];by_cases i:p.fields=[]/\p.said=[]
      ·rw[if_pos i,if_pos i,if_pos rfl]
      rw[if_neg i,if_neg i,if_neg (by decide)]
     ·show(3:Int)=if (ja p).fields=[]/\[x.text]=[] then 2 else 3
      rw[if_neg (fun a=>by cases a.2)]
     ·show s.fields++_=(ja p).fields++if [x.text]=[] then [] else [(jU ([x.text]++zI xs),jT ([x.text]++zI xs))]
      rw[if_neg (by simp),U];rfl
     ·exact fun _=>r
     ·exact⟨fun _=>by show [x.text]≠[];simp,fun _=>.inl rfl⟩
     ·show _\/(ja p).at_<_;rw[vJ];exact .inr (by have:=h.at_;omega)
     ·show(ja p).stanzas<=400;rw[zD];exact h.st
     intro _;show(ja p).stanzas<=399
     rw[zD];by_cases i:p.fields=[]/\p.said=[]
     ·have N:(ja p).fields.length=0:=by rw[(yQ p).2 i];rfl
      have:=A N;rw[U]at a8;omega
     exact h.st' i
    rw[if_pos m,jcR t xs _ v (by show [x.text]≠[];simp) (by rw[<- J];exact m),<- J]
   exact absurd o I
theorem YM(t:List UInt8):jv t=yG t:=by have h:=YA t (jf t) 0 0 PS.new RS.new (xW _ 0 0 t (jnT _)) (VL _ 0 0 t (jnT _)) (vN _ 0 0 t (jnT _)) (Rel.new t);exact h
theorem jgy:∀(l:List UInt8) (k:Nat),l[k]?=some 10->(∀j,j<k->l[j]?≠some 10)->head l=l.take k/\nl l=true/\qF l=k+1
 | [],k,h,_=>by simp at h
 | a::t,0,h,_=>by
  have:a=10:=by simpa using h
  subst this;exact⟨rfl,rfl,rfl⟩
 | a::t,k+1,h,f=>by
  have d:a≠10:=fun e=>f 0 (by omega) (by rw[e];rfl);obtain⟨g,i,m⟩:=jgy t k (by simpa using h) (fun j n=>by have:=f (j+1) (by omega);simpa using this);have b:head (a::t)=a::head t:=by simp[head,d]
  have c:nl (a::t)=nl t:=by simp[nl,Ne.symm d]
  refine⟨by rw[b,g];rfl,by rw[c,i],?_⟩;unfold qF at m ⊢;rw[b,c,jn1];omega
theorem Ji:∀(l:List UInt8),(∀j:Nat,l[j]?≠some 10)->head l=l/\nl l=false/\qF l=l.length
 | [],_=>⟨rfl,rfl,rfl⟩
 | a::t,f=>by
  have d:a≠10:=fun e=>f 0 (by rw[e];rfl);obtain⟨g,h,i⟩:=Ji t (fun j=>by have:=f (j+1);simpa using this);have b:head (a::t)=a::head t:=by simp[head,d]
  have c:nl (a::t)=nl t:=by simp[nl,Ne.symm d]
  refine⟨by rw[b,g],by rw[c,h],?_⟩;unfold qF at i ⊢;rw[b,c,jn1];simp only[jn1];omega
def cellsOf(xs:List Ln):List Value:=xs.flatMap fun x=>(qg x).toList
theorem VP(xs:List Ln)(x:Ln):cellsOf (xs++[x])=cellsOf xs++(qg x).toList:=by unfold cellsOf;simp
theorem Xa(x:Ln):(qg x).toList.length=4:=rfl
theorem vx:∀(b:List Ln) (x:Ln) (a:List Ln) (j:Nat),j<4->(cellsOf (b++x::a))[b.length*4+j]?=(qg x).toList[j]?
 | [],x,a,j,c=>by show((qg x).toList++cellsOf a)[_]?=_;rw[joq (by rw[Xa];simp;omega)];simp
 | y::b,x,a,j,c=>by show((qg y).toList++cellsOf (b++x::a))[_]?=_;rw[joh (by rw[Xa];simp;omega),Xa];rw[show(y::b).length*4+j-4=b.length*4+j by simp;omega];exact vx b x a j c
theorem jmp:(prog.info? 126).map (fun i=>(i.zero,i.size,i.bytes))=some (some (.agg #[.int .i64 0,.int .i64 0,.string ⟨#[]⟩,.bool false]),4,40):=by kernel_rfl
theorem jaN(W:World)(x:Ln)(t:TypeId):∀j u,(qg x).toList[j]?=some u->(W.alloc (.cells (qg x) t)).cell? ((⟨W.heap.size,0,none⟩:Addr).add j)=some u:=by
 intro j u h;have a:(⟨W.heap.size,0,none⟩:Addr).add j=⟨W.heap.size,j,none⟩:=by unfold Addr.add;split<;>simp_all
 rw[a];have:=(jd.new W t (qg x)).cell j
 rw[this];simpa using h
theorem jeL(s:ByteArray)(a b:Nat):s.extract a b=⟨((s.data.toList.drop a).take (b-a)).toArray⟩:=by rw[<- jp0 (s.extract a b),jo3]
structure jfc(l:List UInt8)(k at_:Nat)(pre:List Ln):Prop where
 split:jf l=pre++jP pre.length at_ (l.drop at_)
 le:at_<=k
 none:∀j,at_<=j->j<k->l[j]?≠some 10
 short:pre.length<=at_
theorem jfc.start(l:List UInt8):jfc l 0 0 []:=⟨rfl,jnT _,fun j _ h=>absurd h (jqg j),jnT _⟩
theorem jfc.step{l:List UInt8}{k at_:Nat}{c:List Ln}(h:jfc l k at_ c)(d:l[k]?≠some 10):jfc l (k+1) at_ c :=
 ⟨h.split,Nat.le_succ_of_le h.le,fun j a b=>by
  by_cases e:j=k
  ·subst e;exact d
  exact h.none j a (by omega),h.short⟩
theorem jfc.line{l:List UInt8}{k at_:Nat}{d:List Ln}(h:jfc l k at_ d)(n:l[k]?=some 10):
  jfc l (k+1) (k+1) (d++[⟨d.length,at_,(l.drop at_).take (k-at_),true⟩]):=by
 have o:=h.le;have f:(l.drop at_)[k-at_]?=some 10:=by rw[jox,show at_+(k-at_)=k by omega];exact n
 have m:∀j,j<k-at_->(l.drop at_)[j]?≠some 10:=fun j p=>by rw[jox];exact h.none _ (by omega) (by omega)
 obtain⟨a,b,c⟩:=jgy _ _ f m;have g:l.drop at_≠[]:=by intro e;rw[e]at f;simp at f
 have i:=h.split;rw[jx _ _ _ g,a,b,c,jpg,show at_+(k-at_+1)=k+1 by omega]at i;refine⟨?_,jnT _,fun j x y=>by omega,by rw[jnU];have:=h.short;simp;omega⟩;rw[i,jn8,jnU];rfl
theorem jfc.last{l:List UInt8}{k at_:Nat}{d:List Ln}(h:jfc l k at_ d)(n:k=l.length):
  jf l=if at_<l.length then d++[⟨d.length,at_,l.drop at_,false⟩] else d:=by
 have g:=h.split;by_cases f:at_<l.length
 ·rw[if_pos f];have i:l.drop at_≠[]:=by intro e;have:=congrArg List.length e;simp at this;omega
  have m:∀j:Nat,(l.drop at_)[j]?≠some 10:=fun j=>by
   rw[jox];by_cases q:at_+j<k
   ·exact h.none _ (by omega) q
   rw[jon (by omega)];simp
  obtain⟨a,b,c⟩:=Ji _ m;rw[jx _ _ _ i,a,b,c,jpc,jq]at g;exact g
 rw[if_neg f];rw[joO (by omega),jq,jok]at g;exact g
theorem yr(s:ByteArray)(hs:s.size<=1000000)(w:World):
  Calls prog 54 #[.string s] w fun e U=>∃v,e=.returned v/\U.ownsRow w.heap.size 126 4 v (jf s.data.toList).length (cellsOf (jf s.data.toList))/\Below w.heap.size w U:=by
 have I:=jnS (joa s);obtain⟨P,O,y,z,A⟩:=info_parts jmp;go_enter func54,ntmps54;go_wp2;go_loopw [3,4,5] (fun v a i wr=>∃(k b:Nat) (h:List Ln),k<=s.size/\i=.int .i64 k/\a=.int .i64 b/\jfc s.data.toList k b h/\(∃C o,v=.slice C h.length o/\wr.ownsRow w.heap.size 126 4 (.slice C h.length o) h.length (cellsOf h))/\Below w.heap.size w wr)
  (fun _ _ i _=>s.size-(intOf i).toNat)
 case atStart=>exact⟨0,0,[],jn3 _,rfl,rfl,jfc.start _,⟨none,0,rfl,World.ownsRow_nil _ _ _ _⟩,jnV _ _⟩
 case round =>
 obtain⟨k,b,h,Z,rfl,rfl,m,⟨C,o,rfl,f⟩,n⟩:=hrel;by_cases r:k<s.size
 ·have e:s.data.toList[k]?=some s[k]:=by rw[jnW (by rw[<- joa];exact r)];rfl
  have E:=jnS e;clear e;have Q:=qQ (c:=s[k]) (d:=10) 10 rfl
  cases D:(s[k]==10) with
  | false =>
   rw[D]at Q;have t:=m.step (k:=k) (by rw[E.out];simpa using D)
   go_wp2;go_roundw
   case rel=>exact⟨k+1,b,h,r,by go_num,rfl,t,⟨C,o,rfl,f⟩,n⟩
   case measure=>simp[intOf];omega
  | true =>
  rw[D]at Q;have t:=m.line (k:=k) (by rw[E.out];simpa using D)
  have W:=jeL s b k;generalize (s.data.toList.drop b).take (k-b)=K at *
  have X:=m.le;have Y:=m.short
  have q:=jaN wr ⟨h.length,b,K,true⟩ 126;dsimp only[qg]at q;have G:=jnS q
  clear q;go_wp2_with (at_builtin;refine wpList_append_own _ rfl _ _ 123 rfl w.heap.size 126 P _ 4 40 underlying123 O y z A rfl (by decide) _ _ _ rfl (f.alloc _) ⟨wr.heap.size,0,none⟩ 1 1 _ rfl rfl G.out ?c2 ?c3 ?c4 ?c5 ?_)
  case c2=>intro u m;simp at m;rcases m with rfl | rfl | rfl | rfl<;>rfl
  case c3=>unfold maxLen;omega
  case c4=>omega
  case c5=>have:=n.size;simp;omega
  intro R L g l _;obtain⟨V,x,rfl⟩:=ownsRow_succ g;have p:Below w.heap.size w L:=(n.alloc n.size _).grown l (by have:=n.size;simp;omega) (fun j J=>(f.lt j J).1)
  go_wp2;go_roundw
  case rel =>
   refine⟨k+1,k+1,_,r,by go_num,by go_num,t,⟨some ⟨V,0,none⟩,x,?_,?_⟩,p⟩
   ·rw[jnU];rfl
   rw[jnU,VP];exact g
  case measure=>simp[intOf];omega
 obtain rfl:k=s.size:=by omega
 have hl:=m.last I.out;have X:=m.le
 have Y:=m.short;by_cases N:b<s.size
 ·rw[if_pos (by rw[<- I.out];exact N)]at hl;have H:=jnS hl
  have W:s.extract b s.size=⟨(s.data.toList.drop b).toArray⟩:=by rw[<- jp0 (s.extract b s.size),jpL]
  clear hl m;generalize s.data.toList.drop b=K at *
  have q:=jaN wr ⟨h.length,b,K,false⟩ 126;dsimp only[qg]at q;have G:=jnS q
  clear q;go_wp2_with (at_builtin;refine wpList_append_own _ rfl _ _ 123 rfl w.heap.size 126 P _ 4 40 underlying123 O y z A rfl (by decide) _ _ _ rfl (f.alloc _) ⟨wr.heap.size,0,none⟩ 1 1 _ rfl rfl G.out ?d2 ?d3 ?d4 ?d5 ?_)
  case d2=>intro u m;simp at m;rcases m with rfl | rfl | rfl | rfl<;>rfl
  case d3=>unfold maxLen;omega
  case d4=>omega
  case d5=>have:=n.size;simp;omega
  intro R L g l _;have p:Below w.heap.size w L:=(n.alloc n.size _).grown l (by have:=n.size;simp;omega) (fun j J=>(f.lt j J).1)
  go_wp2;go_ret;refine⟨R,rfl,?_,p⟩;rw[H.out,jnU,VP];exact g
 rw[if_neg (by rw[<- I.out];exact N)]at hl;have H:=jnS hl
 clear hl m;go_wp2;go_ret;refine⟨_,rfl,?_,n⟩;rw[H.out];exact f
theorem VE:∀(a:List (List UInt8)) (y:List UInt8),a≠[]->zX (a++[y])=zX a++10::y
 | [],_,h=>absurd rfl h
 | [p],y,_=>rfl
 | p::q::r,y,_=>by show p++10::zX ((q::r)++[y])=(p++10::zX (q::r))++10::y;rw[VE (q::r) y (by simp)];simp
theorem Xd:∀(b a:List (List UInt8)),(zX b).length<=(zX (b++a)).length
 | [],a=>by simp[zX]
 | [p],[]=>by simp
 | [p],q::r=>by show p.length<=(p++10::zX (q::r)).length;simp
 | p::q::r,a=>by
  show(p++10::zX (q::r)).length<=(p++10::zX ((q::r)++a)).length;have:=Xd (q::r) a
  simp only[jnU,jn1]at this ⊢;omega
def Yp(a:List UInt8)(r:List (List UInt8))(k:Nat):List UInt8:=zX (vo (qU a)::(r.take k).map fun l=>zw l.tail)
theorem jhG(a:List UInt8)(r:List (List UInt8))(k:Nat)(x:List UInt8)(hx:r[k]?=some x):Yp a r (k+1)=Yp a r k++10::zw x.tail:=by unfold Yp;rw[jor,hx,show(some x).toList=[x] from rfl,joB,<- jog];exact VE _ _ (by simp)
theorem jlO(a:List UInt8)(r:List (List UInt8))(k:Nat):(Yp a r k).length<=(qE (a::r)).length:=by
 unfold Yp qE Yz;simp only[List.headD_cons,List.tail_cons];have:=Xd (vo (qU a)::(r.take k).map fun l=>zw l.tail) ((r.drop k).map fun l=>zw l.tail)
 rw[jog,<- joB,joj]at this;exact this
theorem jjN(a:List UInt8)(r:List (List UInt8)):Yp a r r.length=qE (a::r):=by unfold Yp qE Yz;rw[jom];rfl
theorem jhC(r:List (List UInt8))(k:Nat)(x:List UInt8)(h:r[k]?=some x):WT 3 (r.drop k)=((jm x==3)&&WT 3 (r.drop (k+1))):=jak r k 3 x h
theorem jal{a:List UInt8}{r:List (List UInt8)}(h:jm a=4):GA (a::r)=WT 3 r:=by
 rw[jbI];show(decide (0<(a::r).length)&&((jm a==4)&&WT 3 r))=_
 simp[h]
theorem Vw(ls:List (List UInt8))(v:Value)(w:World)(z:Strs w v (ls.map B))(hl:∀l∈ls,l.length<=100000)(I:ls.length<=100000)(q:ls=[]\/∃a r,ls=a::r/\jm a≠4):
  Calls prog 99 #[v] w fun e D=>e=.returned (.tuple #[.agg #[.string ⟨#[]⟩,.string ⟨#[]⟩],.int .i64 2])/\Below w.heap.size w D:=by
 obtain⟨A,p,rfl,x,m⟩:=z;have c:=jjC m
 clear m;rcases q with rfl|⟨a,r,rfl,j⟩
 ·clear c;rw[joi,joz];go_enter func99,ntmps99;go_wp2_with fail;have f:=jd.new w 148 #[.string ⟨#[]⟩,.string ⟨#[]⟩]
  refine bodyPost_ret (Vr rfl _ _ w.heap.size _ rfl f rfl) rfl ?_;exact⟨rfl,(jnV _ _).alloc (jnT _) _⟩
 obtain⟨b,C,rfl,t,i⟩:=c 0 a rfl;rw[jpv]at i;clear c;have s:=hl a (by simp)
 have k:=fun w=>vr (B a) (by rw[jg];omega) w;rw[jj]at k;have u:((jm a:Int) != 4)=true:=by simp;omega
 rw[joi,jn1]at *
 have y:((r.length:Int)+1==0)=false:=by rw[beq_eq_false_iff_ne];omega
 clear j;generalize jm a=J at *
 generalize B a=X at *
 go_enter func99,ntmps99;go_wp2_with fail;refine(k _).mono ?_;rintro e E ⟨rfl,g⟩;have d:=jb (jd.new w 148 #[.string ⟨#[]⟩,.string ⟨#[]⟩]) g (by simp)
 have n:=d.cell 0;have o:=d.cell 1
 have G:=d.frozen 0;have H:=d.frozen 1
 have h:Below w.heap.size w E:=((jnV _ _).alloc (jnT _) _).trans (g.mono (by simp));simp only[jn0,jnZ,jnX]at n o;have f:=(d.set 0 (.string ⟨#[]⟩)).set 1 (.string ⟨#[]⟩)
 rw[Vo]at f;clear g;go_wp2_with fail;refine bodyPost_ret (Vr rfl _ _ w.heap.size _ rfl f rfl) rfl ?_;exact⟨rfl,(h.setCell (jnT _) _).setCell (jnT _) _⟩
theorem xe(a:List UInt8)(r:List (List UInt8))(v:Value)(w:World)(hs:Strs w v ((a::r).map B))(hl:∀l∈a::r,l.length<=100000)(hn:(a::r).length<=100000)(hj:(qE (a::r)).length<=1000000)(L:jm a=4):
  Calls prog 99 #[v] w fun e w'=>e=.returned (.tuple #[zC (jU (a::r)) (jT (a::r)),.int .i64 (jt (a::r):Nat)])/\Below w.heap.size w w':=by
 obtain⟨A,aF,rfl,aJ,R⟩:=hs;have k:=jjC R
 clear R;obtain⟨b,D,rfl,K,aa⟩:=k 0 a rfl;have ar:=jnS (fun(j:Nat) x (hx:r[j]?=some x)=>(show w.cell? ⟨b,D+(j+1),none⟩=some (.string (B x)) by
  obtain⟨b',aE,e,_,h⟩:=k (j+1) x (by simpa using hx);cases e;exact h))
 rw[jpv]at aa;clear k;have ai:=hl a (by simp)
 have ax:∀x∈r,x.length<=100000:=fun x hx=>hl x (jn4 _ hx);have H:=fun w=>vr (B a) (by rw[jg];omega) w
 rw[jj,L]at H;obtain⟨k1,k2,k3⟩:=jk4 L;have RC:=fun w=>Ky (B a) (by rw[jg];omega) w (by rw[jj];exact k1) (by rw[jj];exact k2) (by rw[jj];exact k3)
 rw[jma,jj6]at RC;rw[joi,jn1]at *
 have aL:((r.length:Int)+1==0)=false:=by rw[beq_eq_false_iff_ne];omega
 have a7:(qU a).length<=a.length:=by unfold qU;rw[jn6];omega
 have f:B (Yp a r 0)=B (vo (qU a)):=by unfold Yp;rfl
 unfold zC;clear k1 k2 k3 hl;generalize hX:B a=X at *
 clear hX;generalize hK:B (before a)=KB at *
 have HK:=jnS hK;clear hK;go_enter func99,ntmps99;go_wp2_with fail;refine(H _).mono ?_;rintro e w1 ⟨rfl,b1⟩;have R1:=jb (jd.new w 148 #[.string ⟨#[]⟩,.string ⟨#[]⟩]) b1 (by simp)
 have a8:Below w.heap.size w w1:=((jnV _ _).alloc (jnT _) _).trans (b1.mono (by simp));have aj:=(a8.cell (p:=⟨b,D,none⟩) K).trans aa
 have ay:=b1.size;simp only[joe]at ay;clear b1 aa H;go_wp2_with fail;refine(RC _).mono ?_;rintro e w2 ⟨rfl,b2⟩;have R2:=jb R1 b2 (by omega)
 have BW:=jnS (a8.trans (b2.mono (by omega)));clear b2 R1 a8 aj RC;rcases J:qU a with _|⟨c,t⟩
 case' nil =>
  rw[J]at f;have U:Hid (B (Yp a r 0)=⟨#[]⟩):=f
  rw[show B []=⟨#[]⟩ from rfl];clear f J;go_wp2_with fail
 case' cons =>
  rw[J]at f a7;have aq:=jg (c::t)
  have aA:t.length<=1000000:=by simp only[jn1]at a7;omega
  have z1:(B (c::t)).size=t.length+1:=aq;have af:=jcI c t
  rw[z1]at af;have av:∀h:0<(B (c::t)).size,(B (c::t))[0]'h=c:=fun _=>rfl
  have aw:0<(B (c::t)).size:=by omega
  have q2:=qQ (c:=c) (d:=32) 32 rfl;have au:(c=32/\B (Yp a r 0)=B t)\/(c≠32/\B (Yp a r 0)=B (c::t)):=by
   by_cases h:c=32
   ·exact .inl ⟨h,by rw[f];unfold vo;rw[h];rfl⟩
   exact .inr ⟨h,by rw[f];unfold vo;simp[h]⟩
  clear f J aq a7;have y1:=jg t
  generalize B (c::t)=Y0 at *
  generalize B t=Z0 at *
  rcases au with ⟨R,f⟩|⟨R,f⟩
 case' cons.inl =>
  have k:(c==32)=true:=by simp[R]
  rw[k]at q2;have U:=jnS f
  clear f R;go_wp2_with fail
 case' cons.inr =>
  have k:(c==32)=false:=by simp[R]
  rw[k]at q2;have U:=jnS f
  clear f R;go_wp2_with fail
 all_goals
  go_loopw [5,7] (fun s i wr=>∃n:Nat,n<=r.length/\i=.int .i64 ((n:Int)+1)/\s=.string (B (Yp a r n))/\WT 3 r=WT 3 (r.drop n)/\jd wr w.heap.size 148 #[.string ⟨#[]⟩,.string ⟨#[]⟩]/\Below w.heap.size w wr) (fun _ i _=>r.length+1-(intOf i).toNat)
  case atStart=>exact⟨0,jn3 _,rfl,by rw[U.out],rfl,R2,BW.out⟩
  case round =>
  obtain⟨n,aK,rfl,rfl,I,q,E⟩:=hrel;have ai:=jlO a r n
  have C:=E.size;have aG:=q.lt
  by_cases ag:n<r.length
  ·obtain⟨x,hx⟩:∃x,r[n]?=some x:=⟨_,jnW ag⟩
   have z:=(E.cell (p:=⟨b,D+(n+1),none⟩) K).trans (ar.out n x hx);have aB:=ax x (jn7 hx)
   have aC:=jg x;have H:=fun w=>vr (B x) (by omega) w
   rw[jj]at H;have g:=jhG a r n x hx
   rw[jhC r n x hx]at I;by_cases u:jm x=3
   ·obtain⟨c,d,t,rfl⟩:=jmm u;have G2:Hid (WT 3 r=WT 3 (r.drop (n+1))):=by show _=_;rw[I,u];simp
    rw[u]at H;rw[List.tail_cons]at g;have af:=jcI c (d::t)
    have am:=jcI d t;have z1:(B (c::d::t)).size=t.length+2:=by rw[jg];rfl
    have z2:(B (d::t)).size=t.length+1:=by rw[jg];rfl
    have z3:(B t).size=t.length:=jg t;have aA:t.length<=1000000:=by simp only[jn1]at aB;omega
    rw[z1]at af;rw[z2]at am;have av:∀h:0<(B (d::t)).size,(B (d::t))[0]'h=d:=fun _=>rfl
    have aw:0<(B (d::t)).size:=by omega
    have aH:0<(B (c::d::t)).size:=by omega
    have q2:=qQ (c:=d) (d:=46) 46 rfl;have y1:=jg (Yp a r n)
    have y2:(B (Yp a r n) ++ ⟨#[10]⟩).size=(Yp a r n).length+1:=by rw[show(⟨#[10]⟩:ByteArray)=B [10] from rfl,jn,jg];simp
    have aD:(Yp a r n).length<=1000000:=by omega
    clear hx I u aC ai;by_cases hd:d=46
    ·have SB:Hid (B (Yp a r (n+1))=(B (Yp a r n) ++ ⟨#[10]⟩)++B t):=by show _=_;rw[g,show(⟨#[10]⟩:ByteArray)=B [10] from rfl,jn,jn];simp[zw,hd]
     have ae:(d==46)=true:=by simp[hd]
     rw[ae]at q2;clear g hd;generalize B (Yp a r n)=ah at *
     generalize B (c::d::t)=X at *
     generalize B (d::t)=Y at *
     generalize B t=Z at *
     go_wp2_with fail;refine(H _).mono ?_;rintro e w4 ⟨rfl,o⟩;have ak:=(o.cell (p:=⟨b,D+(n+1),none⟩) (jod K C)).trans z
     have G:=jb q o (by omega);have y:=E.trans (o.mono C)
     clear q o z E;go_wp2_with fail;go_roundw
     case rel=>exact⟨n+1,ag,by go_num,by rw[SB.out],G2.out,G,y⟩
     case measure=>simp[intOf];omega
    have SB:Hid (B (Yp a r (n+1))=(B (Yp a r n) ++ ⟨#[10]⟩)++B (d::t)):=by show _=_;rw[g,show(⟨#[10]⟩:ByteArray)=B [10] from rfl,jn,jn];simp[zw,hd]
    have ae:(d==46)=false:=by simp[hd]
    rw[ae]at q2;clear g hd;generalize B (Yp a r n)=ah at *
    generalize B (c::d::t)=X at *
    generalize B (d::t)=Y at *
    generalize B t=Z at *
    go_wp2_with fail;refine(H _).mono ?_;rintro e w4 ⟨rfl,o⟩;have ak:=(o.cell (p:=⟨b,D+(n+1),none⟩) (jod K C)).trans z
    have G:=jb q o (by omega);have y:=E.trans (o.mono C)
    clear q o z E;go_wp2_with fail;go_roundw
    case rel=>exact⟨n+1,ag,by go_num,by rw[SB.out],G2.out,G,y⟩
    case measure=>simp[intOf];omega
   have W:GA (a::r)=false:=by rw[jal L,I];simp[u]
   obtain⟨O,P,Q⟩:=xQ W;have ET:Hid (jt (a::r)=2/\jU (a::r)=[]/\jT (a::r)=[]):=⟨O,P,Q⟩
   have aI:((jm x:Int) != 3)=true:=by simp;omega
   clear hx I u O P Q W g;generalize jm x=kx at *
   generalize B (Yp a r n)=ah at *
   generalize B x=X at *
   go_wp2_with fail;refine(H _).mono ?_;rintro e w4 ⟨rfl,o⟩;have G:=jb q o (by omega)
   have y:=E.trans (o.mono C);have c0:=G.cell 0
   have c1:=G.cell 1;have f0:=G.frozen 0
   have f1:=G.frozen 1;simp only[jn0,jnZ,jnX]at c0 c1;have N:=(G.set 0 (.string ⟨#[]⟩)).set 1 (.string ⟨#[]⟩)
   rw[Vo]at N;clear q o z E;go_wp2_with fail;refine bodyPost_ret (Vr rfl _ _ w.heap.size _ rfl N rfl) rfl ?_;obtain⟨O,P,Q⟩:=ET.out;exact⟨by rw[O,P,Q];rfl,(y.setCell (jnT _) _).setCell (jnT _) _⟩
  obtain rfl:n=r.length:=by omega
  rw[jjN]at *
  rw[jpc]at I;have W:GA (a::r)=true:=by rw[jal L,I];rfl
  have c0:=q.cell 0;have c1:=q.cell 1
  have f0:=q.frozen 0;have f1:=q.frozen 1
  simp only[jn0,jnZ,jnX]at c0 c1;have ap:=jg (qE (a::r))
  by_cases m:(qE (a::r)).length<=1000
  ·have ET:Hid _:=Qo W m;have N:=(q.set 0 (.string KB)).set 1 (.string (B (qE (a::r))))
   rw[Vo]at N;rw[<- ap]at m;clear W I;generalize hV:B (qE (a::r))=V at *
   have HV:=jnS hV;clear hV;go_wp2_with fail;refine bodyPost_ret (Vr rfl _ _ w.heap.size _ rfl N rfl) rfl ?_;obtain⟨O,P,Q⟩:=ET.out;exact⟨by rw[O,P,Q,HV.out,HK.out];rfl,(E.setCell (jnT _) _).setCell (jnT _) _⟩
  have ET:Hid _:=JX W m;have N:=(q.set 0 (.string ⟨#[]⟩)).set 1 (.string ⟨#[]⟩)
  rw[Vo]at N;rw[<- ap]at m;clear W I;generalize B (qE (a::r))=V at *
  go_wp2_with fail;refine bodyPost_ret (Vr rfl _ _ w.heap.size _ rfl N rfl) rfl ?_;obtain⟨O,P,Q⟩:=ET.out;exact⟨by rw[O,P,Q];rfl,(E.setCell (jnT _) _).setCell (jnT _) _⟩
end Go.Proofs.YtbapfpekklcicaaGreatDoor
