/- Texts put together:QC,FT. -/
import Derived.Test.YtmdhainabeljpaaGreatDoorBxr15
import Derived.Test.YtmdhainabeljpaaGreatDoorBxr13
set_option linter.unusedVariables false
set_option maxRecDepth 100000
set_option maxHeartbeats 16000000
namespace Go.Proofs.YtmdhainabeljpaaGreatDoor
def zv:List Ln->List (List UInt8)
 | []=>[]
 | x::xs=>if jk x.text=3 then x.text::zv xs else []
structure RS where
 out:List It
 kind:Int
 raw:List UInt8
 fields:List Fld
 records:Nat
 prev:Nat
def RS.new:RS:=⟨[],2,[],[],0,0⟩
def ze(s:RS)(x:Ln)(xs:List Ln):Nat :=
 if jk x.text=5\/(jk x.text=3/\¬(s.prev=4\/s.prev=3))\/x.ended=false then 2
 else if jk x.text≠4 then 0
 else if jo (x.text::zv xs)≠0 then jo (x.text::zv xs)
 else if 40<=s.fields.length\/(s.fields.length=0/\400<=s.records) then 11 else 0
def RS.block(s:RS):List It:=if s.raw=[] then [] else [⟨s.kind,s.raw,s.fields⟩]
def vd(s:RS)(x:Ln)(xs:List Ln):RS :=
 if jk x.text=1 then ⟨s.out++s.block++[⟨1,x.text++[10],[]⟩],2,[],[],s.records,1⟩
 else if jk x.text=4 then ⟨s.out,3,s.raw++x.text++[10],s.fields++[(jF (x.text::zv xs),jE (x.text::zv xs))],if s.kind=2 then s.records+1 else s.records,4⟩
 else {s with raw:=s.raw++x.text++[10],prev:=jk x.text}
def JC:RS->List Ln->Res RS
 | s,[]=>.ok s
 | s,x::xs=>if ze s x xs≠0 then .error (x.no,ze s x xs) else JC (vd s x xs) xs
def yl(t:List UInt8):Res (List It) :=
 match JC RS.new (jf t) with
 | .error e=>.error e
 | .ok s=>.ok (s.out++s.block)
def jhy:List Ln->Prop
 | []=>True
 | x::xs=>(x.ended=false->xs=[])/\jhy xs
theorem jaQ(l:List UInt8)(h:nl l=false):zY l=l:=by
 have hm:(10:UInt8)∉l:=by
  intro hc
  have:nl l=true:=by unfold nl;simpa using hc
  rw[this]at h;cases h
 unfold zY
 clear h
 induction l with
 | nil=>rfl
 | cons c t ih =>
 have hc:c≠10:=fun e=>hm (by rw[e];exact jig)
 rw[jiR,if_pos (by simp[hc]),ih (fun he=>hm (jif _ he))]
theorem ZX:∀(n no at_:Nat) (l:List UInt8),l.length<=n->jhy (jS no at_ l)
 | 0,no,at_,l,h=>by
  have:l=[]:=List.length_eq_zero_iff.1 (by omega)
  subst this;rw[jq];trivial
 | n+1,no,at_,l,h=>by
  by_cases hl:l=[]
  ·subst hl;rw[jq];trivial
  have hp:=qu l hl
  rw[js _ _ _ hl]
  refine⟨fun he => ?_,ZX n _ _ _ (by simp only[jik];omega)⟩
  have hu:qy l=(zY l).length:=by unfold qy;rw[show nl l=false from he];rfl
  have:l.drop (qy l)=[]:=by rw[hu,jaQ l he,ji6]
  rw[this,jq]
def ya(p:PS)(xs:List Ln):Nat:=if jo (p.said++zv xs)≠0 then jo (p.said++zv xs) else if vr p then 11 else 0
def ZV(t:List UInt8)(r:Res PS):Res (List It):=match r with | .error e=>.error e | .ok q=>JK t q
theorem jbP{t:List UInt8}{p q:PS}{x:Ln}{xs:List Ln}(h:jL t p x=.ok q):qF t p (x::xs)=qF t q xs:=by
 show(match jL t p x with | .error e=>Except.error e | .ok q=>qF t q xs)=_
 rw[h]
theorem Jg{t:List UInt8}{p q:PS}{x:Ln}{xs:List Ln}(h:jL t p x=.ok q):ZV t (qF t p (x::xs))=ZV t (qF t q xs):=by
 unfold ZV
 rw[jbP h]
theorem Vi{t:List UInt8}{p:PS}{e:Nat×Nat}{x:Ln}{xs:List Ln}(h:jL t p x=.error e):ZV t (qF t p (x::xs))=.error e:=by
 unfold ZV
 show(match (match jL t p x with | .error e=>Except.error e | .ok q=>qF t q xs) with | .error e=>_ | .ok q=>_)=_
 rw[h]
theorem xx{p:PS}(h:p.said≠[]):jh p=if jo p.said≠0 then jo p.said else if vr p then 11 else 0:=by
 unfold jh;rw[if_neg h]
theorem Ga{t:List UInt8}{p:PS}{x:Ln}(h1:zS p x=true)(h2:jh (zb p x)≠0):jL t p x=.error ((zb p x).begin_,jh (zb p x)):=by
 unfold jL;rw[if_pos ⟨h1,h2⟩]
theorem jbG{t:List UInt8}{p:PS}{x:Ln}(h1:jh (zb p x)=0)(h2:jD p x=true):jL t p x=.error (x.no,2):=by
 unfold jL;rw[if_neg (fun h=>h.2 h1),h2];rfl
theorem yZ{p:PS}(h:p.said≠[]):p.said.isEmpty=false:=by
 cases hs:p.said with
 | nil=>exact absurd hs h
 | cons a l=>rfl
theorem Gh(t:List UInt8):∀(xs:List Ln) (p:PS),jhy xs->p.said≠[]->ya p xs≠0->ZV t (qF t p xs)=.error (p.begin_,ya p xs)
 | [],p,_,hs,hn=>by
  have e:jh p=ya p []:=by rw[xx hs];unfold ya zv;rw[jix]
  show JK t p=_
  unfold JK
  rw[e,if_pos hn]
 | x::xs,p,⟨he,hes⟩,hs,hn=>by
  by_cases hk:jk x.text=3
  ·have hg:zU p x=true:=by unfold zU;rw[hk,yZ hs];rfl
   have hw:zb p x={p with said:=p.said++[x.text]}:=by unfold zb;rw[hg,if_pos rfl]
   have hpe:ya {p with said:=p.said++[x.text]} xs=ya p (x::xs):=by
    have e1:(p.said++[x.text])++zv xs=p.said++zv (x::xs):=by
     show _=p.said++(if jk x.text=3 then x.text::zv xs else [])
     rw[if_pos hk];simp
    have e2:vr {p with said:=p.said++[x.text]}=vr p:=rfl
    unfold ya
    rw[e2]
    show(if jo ((p.said++[x.text])++zv xs)≠0 then jo ((p.said++[x.text])++zv xs) else _)=_
    rw[e1]
   cases hx:x.ended with
   | true =>
    have hwr:jD p x=false:=by unfold jD;rw[hk,hg,hx];rfl
    have hen:zS p x=false:=by unfold zS;rw[hwr,hg];rfl
    have ht:jL t p x=.ok {p with said:=p.said++[x.text]}:=by
     rw[vZ (by rw[hen];intro h;cases h) hwr]
     unfold zK;rw[hen,if_neg (by decide),hw]
     unfold yT;rw[hk];rfl
    rw[Jg ht,Gh t xs _ hes (by simp) (by rw[hpe];exact hn),hpe]
   | false =>
   have hxs:=he hx
   subst hxs
   have hwr:jD p x=true:=by unfold jD;rw[hx];simp
   have hen:zS p x=true:=by unfold zS;rw[hwr];rfl
   have hE:jh (zb p x)=ya p [x]:=by
    rw[hw,<- hpe,xx (by simp)]
    unfold ya zv;rw[jix]
   rw[Vi (Ga hen (by rw[hE];exact hn)),hE,hw]
  have hg:zU p x=false:=xt hk
  have hw:zb p x=p:=by unfold zb;rw[hg];rfl
  have hen:zS p x=true:=by unfold zS;rw[hg];simp
  have hm:zv (x::xs)=[]:=if_neg hk
  have hE:jh (zb p x)=ya p (x::xs):=by
   rw[hw,xx hs];unfold ya;rw[hm,jix]
  rw[Vi (Ga hen (by rw[hE];exact hn)),hE,hw]
structure Rel(t:List UInt8)(c:Nat)(p:PS)(s:RS)(xs:List Ln):Prop where
 items:s.out=p.items
 raw:s.raw=(t.take c).drop p.at_
 at_:p.at_<=c
 full:c<=t.length
 rest:t.drop c=xs.flatMap Ln.bytes
 recd:s.records=p.stanzas+if p.fields=[]/\p.said=[] then 0 else 1
 kind:s.kind=if p.fields=[]/\p.said=[] then 2 else 3
 fields:s.fields=p.fields++if p.said=[] then [] else [(jF (p.said++zv xs),jE (p.said++zv xs))]
 ok:p.said≠[]->ya p xs=0
 prev:(s.prev=4\/s.prev=3)↔p.said≠[]
 began:p.fields=[]/\p.said=[]\/p.at_<c
 st:p.stanzas<=400
 st':¬(p.fields=[]/\p.said=[])->p.stanzas<=399
 fl:p.fields.length<=40
theorem Rel.new(t:List UInt8):Rel t 0 PS.new RS.new (jf t) :=
 ⟨rfl,rfl,jh6 _,jii _,(jB t).symm,rfl,rfl,rfl,fun h=>absurd rfl h,⟨(fun h=>by rcases h with h | h<;>(exact absurd h (by decide))),fun h=>absurd rfl h⟩,.inl ⟨rfl,rfl⟩,by decide,fun hn=>absurd ⟨rfl,rfl⟩ hn,by decide⟩
theorem jds{t:List UInt8}{c:Nat}{x:Ln}{xs:List Ln}(h:t.drop c=(x::xs).flatMap Ln.bytes)(hc:c<=t.length):t.take (c+x.bytes.length)=t.take c++x.bytes/\t.drop (c+x.bytes.length)=xs.flatMap Ln.bytes/\c+x.bytes.length<=t.length:=by
 rw[jio]at h
 have hl:=congrArg List.length h
 rw[jik,jh7]at hl
 refine⟨?_,?_,by omega⟩
 ·rw[List.take_add,h];simp
 rw[<- jji,h];simp
theorem Gn{t:List UInt8}{c a:Nat}{x:Ln}(h:t.take (c+x.bytes.length)=t.take c++x.bytes)(ha:a<=c)(hc:c<=t.length):(t.take (c+x.bytes.length)).drop a=(t.take c).drop a++x.bytes:=by
 rw[h,jjz]
 rw[jiE];omega
theorem Yp{x:Ln}{xs:List Ln}(h:jk x.text=3):zv (x::xs)=x.text::zv xs:=if_pos h
theorem Kw{x:Ln}{xs:List Ln}(h:jk x.text≠3):zv (x::xs)=[]:=if_neg h
theorem Ko{p:PS}{xs:List Ln}(hs:p.said≠[])(hm:zv xs=[]):ya p xs=jh p:=by
 rw[xx hs];unfold ya;rw[hm,jix]
theorem Jh(p:PS):(ja p).fields=p.fields++if p.said=[] then [] else [(jF p.said,jE p.said)]:=by
 unfold ja
 split
 ·rw[jix]
 rfl
theorem zm(p:PS):(ja p).stanzas=p.stanzas:=by unfold ja;split<;>rfl
theorem yt(p:PS):(ja p).fields=[]↔p.fields=[]/\p.said=[]:=by
 rw[Jh]
 constructor
 ·intro h
  by_cases hs:p.said=[]
  ·rw[if_pos hs,jix]at h;exact⟨h,hs⟩
  rw[if_neg hs]at h;simp at h
 rintro⟨h1,h2⟩;rw[h1,if_pos h2];rfl
theorem Rel.fields_end{t:List UInt8}{c:Nat}{p:PS}{s:RS}{xs:List Ln}(h:Rel t c p s xs)(hm:zv xs=[]):s.fields=(ja p).fields:=by
 rw[h.fields,Jh,hm,jix]
theorem vj(p:PS):(ja p).at_=p.at_:=Jj p
theorem yu(p:PS):(ja p).items=p.items:=by unfold ja;split<;>rfl
theorem Wg{t:List UInt8}{c:Nat}{p:PS}{s:RS}{xs:List Ln}(h:Rel t c p s xs)(hm:zv xs=[]):
  (jm t (ja p) c).items=s.out++s.block/\(jm t (ja p) c).stanzas=s.records/\(jm t (ja p) c).fields=[]/\(jm t (ja p) c).said=[]/\(jm t (ja p) c).at_=c:=by
 have hf:=h.fields_end hm
 have hat:=h.at_
 have hsaid:=XB t (ja p) c
 rw[zP]at hsaid
 have hat2:=vL t (ja p) c (by rw[vj];exact hat)
 by_cases hz:p.at_=c
 ·have hn:p.fields=[]/\p.said=[]:=by
   rcases h.began with h1|h1
   ·exact h1
   omega
  have e:jm t (ja p) c=ja p:=by unfold jm;rw[if_pos (by rw[vj];exact hz)]
  have hr:s.raw=[]:=by
   rw[h.raw,hz,jjY];rw[jiE];omega
  refine⟨?_,?_,?_,hsaid,hat2⟩
  ·rw[e,yu,h.items];unfold RS.block;rw[if_pos hr,jix]
  ·rw[e,zm,h.recd,if_pos hn,jj0]
  rw[e];exact(yt p).2 hn
 have hr:s.raw≠[]:=by
  intro e
  have:=congrArg List.length e
  rw[h.raw,jik,jiE]at this
  have:=h.full
  simp at *;omega
 by_cases hn:(ja p).fields.length=0
 ·have hn':=(yt p).1 (List.length_eq_zero_iff.1 hn)
  have e:jm t (ja p) c=jX t (ja p) 2 c:=by
   unfold jm;rw[if_neg (by rw[vj];exact hz),if_pos hn]
  refine⟨?_,?_,?_,hsaid,hat2⟩
  ·rw[e]
   show(ja p).items++[⟨((2:Nat):Int),(t.take c).drop (ja p).at_,(ja p).fields⟩]=_
   unfold RS.block
   rw[if_neg hr,yu,vj,h.items,h.kind,if_pos hn',h.raw,hf];rfl
  ·rw[e]
   show(ja p).stanzas=_
   rw[zm,h.recd,if_pos hn',jj0]
  rw[e];rfl
 have hn':¬(p.fields=[]/\p.said=[]):=fun hh=>hn (by rw[(yt p).2 hh];rfl)
 have e:jm t (ja p) c={jX t (ja p) 3 c with stanzas:=(ja p).stanzas+1}:=by
  unfold jm;rw[if_neg (by rw[vj];exact hz),if_neg hn]
 refine⟨?_,?_,?_,hsaid,hat2⟩
 ·rw[e]
  show(ja p).items++[⟨((3:Nat):Int),(t.take c).drop (ja p).at_,(ja p).fields⟩]=_
  unfold RS.block
  rw[if_neg hr,yu,vj,h.items,h.kind,if_neg hn',h.raw,hf];rfl
 ·rw[e]
  show(ja p).stanzas+1=_
  rw[zm,h.recd,if_neg hn']
 rw[e];rfl
theorem Rel.fl_end{t:List UInt8}{c:Nat}{p:PS}{s:RS}{xs:List Ln}(h:Rel t c p s xs):(ja p).fields.length<=40:=by
 have fl:=h.fl
 rw[Jh,jh7]
 by_cases hs:p.said=[]
 ·rw[if_pos hs];simpa using fl
 rw[if_neg hs]
 have hok:=h.ok hs
 unfold ya at hok
 have hfull:vr p=false:=by
  split at hok
  ·rename_i hu;exact absurd hok hu
  cases hf:vr p with
  | false=>rfl
  | true=>rw[hf]at hok;simp at hok
 unfold vr at hfull
 split at hfull
 ·simp;omega
 have:p.fields.length≠40:=by simpa using hfull
 simp;omega
theorem Rel.records_le{t:List UInt8}{c:Nat}{p:PS}{s:RS}{xs:List Ln}(h:Rel t c p s xs):s.records<=400:=by
 have st:=h.st
 rw[h.recd]
 split
 ·omega
 rename_i hn;have:=h.st' hn;omega
theorem jfU{l:List UInt8}(_:(10:UInt8)∉l):jk l=1\/jk l=2\/jk l=3\/jk l=4\/jk l=5:=by
 unfold jk
 split;· simp
 split;· simp
 split;· simp
 split;· simp
 split<;>simp
theorem Qz(t:List UInt8):∀(xs:List Ln) (no c:Nat) (p:PS) (s:RS),jhr no c xs->jhy xs->(∀x∈xs,(10:UInt8)∉x.text)->Rel t c p s xs ->
  ZV t (qF t p xs)=match JC s xs with | .error e=>.error e | .ok s'=>.ok (s'.out++s'.block)
 | [],no,c,p,s,_,_,_,h=>by
  have hcl:c=t.length:=by
   have:=congrArg List.length h.rest
   rw[jik]at this
   have:=h.full
   simp at *;omega
  have h0:jh p=0:=by
   by_cases hs:p.said=[]
   ·unfold jh;rw[if_pos hs]
   rw[<- Ko hs (xs:=[]) rfl];exact h.ok hs
  show JK t p=Except.ok (s.out++s.block)
  unfold JK
  rw[if_neg (by rw[h0];decide),<- hcl,(Wg h rfl).1]
 | x::xs,no,c,p,s,⟨r1,r2,r3,r4⟩,⟨he,hes⟩,hcl,h=>by
  obtain⟨t1,t2,t3⟩:=jds h.rest h.full
  have hclx:(10:UInt8)∉x.text:=hcl x jig
  have hcl':∀y∈xs,(10:UInt8)∉y.text:=fun y hy=>hcl y (jif _ hy)
  show ZV t (qF t p (x::xs))=match (if ze s x xs≠0 then Except.error (x.no,ze s x xs) else JC (vd s x xs) xs) with | .error e=>_ | .ok s'=>_
  have hE0:p.said≠[]->zv (x::xs)=[]->jh p=0:=fun hs hm=>by rw[<- Ko hs hm];exact h.ok hs
  by_cases hbad:jk x.text=5\/(jk x.text=3/\¬(s.prev=4\/s.prev=3))\/x.ended=false
  ·
   have hw2:ze s x xs=2:=by unfold ze;rw[if_pos hbad]
   rw[hw2,if_pos (by decide)]
   have hwr:jD p x=true:=by
    unfold jD
    rcases hbad with h5|⟨h3,hp⟩|hx
    ·rw[h5];rfl
    ·have hs:p.said=[]:=Classical.byContradiction fun hne=>hp (h.prev.2 hne)
     have:zU p x=false:=by unfold zU;rw[hs];simp
     rw[h3,this];simp
    rw[hx];simp
   have hen:jh (zb p x)=0:=by
    cases hg:zU p x with
    | true =>
     have hk:jk x.text=3:=by unfold zU at hg;simp at hg;exact hg.1
     have hs:p.said≠[]:=by unfold zU at hg;simp at hg;exact hg.2
     have hx:x.ended=false:=by
      rcases hbad with h5|⟨_,hp⟩|hx
      ·omega
      ·exact absurd (h.prev.2 hs) hp
      exact hx
     have hxs:=he hx
     have hw:zb p x={p with said:=p.said++[x.text]}:=by unfold zb;rw[hg,if_pos rfl]
     have hok:=h.ok hs
     rw[hw,xx (by simp)]
     unfold ya at hok
     rw[Yp hk,hxs]at hok
     exact hok
    | false =>
    have hw:zb p x=p:=by unfold zb;rw[hg];rfl
    rw[hw]
    by_cases hs:p.said=[]
    ·unfold jh;rw[if_pos hs]
    refine hE0 hs (Kw ?_)
    intro h3
    unfold zU at hg
    rw[h3,yZ hs]at hg
    simp at hg
   rw[Vi (jbG hen hwr)]
  have hx:x.ended=true:=by
   cases hx:x.ended with
   | true=>rfl
   | false=>exact absurd (.inr (.inr hx)) hbad
  have h5:jk x.text≠5:=fun h5=>hbad (.inl h5)
  have hb:x.bytes=x.text++[10]:=by unfold Ln.bytes;rw[hx];rfl
  have hraw:(t.take (c+x.bytes.length)).drop p.at_=s.raw++x.text++[10]:=by
   rw[Gn t1 h.at_ h.full,<- h.raw,hb,jip]
  have hbl:x.bytes.length=x.text.length+1:=by rw[hb];simp
  by_cases h3:jk x.text=3
  ·
   have hprev:s.prev=4\/s.prev=3:=Classical.byContradiction fun hn=>hbad (.inr (.inl ⟨h3,hn⟩))
   have hs:=h.prev.1 hprev
   have hg:zU p x=true:=by unfold zU;rw[h3,yZ hs];rfl
   have hw:zb p x={p with said:=p.said++[x.text]}:=by unfold zb;rw[hg,if_pos rfl]
   have hwr:jD p x=false:=by unfold jD;rw[h3,hg,hx];rfl
   have hen:zS p x=false:=by unfold zS;rw[hwr,hg];rfl
   have ht:jL t p x=.ok {p with said:=p.said++[x.text]}:=by
    rw[vZ (by rw[hen];intro h;cases h) hwr]
    unfold zK;rw[hen,if_neg (by decide),hw]
    unfold yT;rw[h3];rfl
   have hw0:ze s x xs=0:=by unfold ze;rw[if_neg hbad,if_pos (by omega)]
   have hput:vd s x xs={s with raw:=s.raw++x.text++[10],prev:=3}:=by unfold vd;rw[if_neg (by omega),if_neg (by omega),h3]
   rw[Jg ht,hw0,if_neg (by decide),hput]
   have hall:(p.said++[x.text])++zv xs=p.said++zv (x::xs):=by rw[Yp h3];simp
   refine Qz t xs (no+1) (c+x.bytes.length) _ _ r4 hes hcl' ⟨h.items,?_,?_,t3,t2,?_,?_,?_,?_,?_,?_,h.st,fun _=>h.st' (fun hh=>hs hh.2),h.fl⟩
   ·exact hraw.symm
   ·show p.at_<=_;have:=h.at_;omega
   ·show s.records=p.stanzas+if p.fields=[]/\p.said++[x.text]=[] then 0 else 1
    rw[h.recd,if_neg (fun hh=>hs hh.2),if_neg (by simp)]
   ·show s.kind=if p.fields=[]/\p.said++[x.text]=[] then 2 else 3
    rw[h.kind,if_neg (fun hh=>hs hh.2),if_neg (by simp)]
   ·show s.fields=p.fields++if p.said++[x.text]=[] then [] else [(jF ((p.said++[x.text])++zv xs),jE ((p.said++[x.text])++zv xs))]
    rw[h.fields,if_neg hs,if_neg (by simp),hall]
   ·intro _
    have hok:=h.ok hs
    unfold ya at hok ⊢
    show(if jo ((p.said++[x.text])++zv xs)≠0 then jo ((p.said++[x.text])++zv xs) else if vr p then 11 else 0)=0
    rw[hall];exact hok
   ·exact⟨fun _=>by simp,fun _=>.inr rfl⟩
   exact .inr (by show p.at_<_;have:=h.at_;omega)
  -- it goes on with none
  have hm:zv (x::xs)=[]:=Kw h3
  have hN:jh p=0:=by
   by_cases hs:p.said=[]
   ·unfold jh;rw[if_pos hs]
   exact hE0 hs hm
  have hg:zU p x=false:=xt h3
  have hw:zb p x=p:=by unfold zb;rw[hg];rfl
  have hwr:jD p x=false:=by unfold jD;rw[hg,hx];simp[h3,h5]
  have hen:zS p x=true:=by unfold zS;rw[hg];simp
  have hth:zK p x=ja p:=by unfold zK;rw[hen,if_pos rfl,hw]
  have ht:jL t p x=.ok (yT t (ja p) x):=by
   rw[vZ (by rw[hw];exact fun _=>hN) hwr,hth]
  have hf:=h.fields_end hm
  have hfl:=h.fl_end
  rw[Jg ht]
  rcases jfU hclx with hk|hk|hk|hk|hk
  ·
   have hw0:ze s x xs=0:=by unfold ze;rw[if_neg hbad,if_pos (by omega)]
   have hput:vd s x xs=⟨s.out++s.block++[⟨1,x.text++[10],[]⟩],2,[],[],s.records,1⟩:=by unfold vd;rw[if_pos hk]
   obtain⟨b1,b2,b3,b4,b5⟩:=Wg h hm
   have hP:yT t (ja p) x=jX t (jm t (ja p) c) 1 (c+x.bytes.length):=by
    unfold yT;rw[if_neg (by omega),if_pos hk,r2,hbl];rfl
   have hbr:(t.take (c+x.bytes.length)).drop c=x.text++[10]:=by
    rw[Gn t1 (jh6 _) h.full,hb,jjY (by rw[jiE];omega)];rfl
   rw[hw0,if_neg (by decide),hput,hP]
   refine Qz t xs (no+1) (c+x.bytes.length) _ _ r4 hes hcl' ⟨?_,?_,jh6 _,t3,t2,?_,?_,?_,?_,?_,?_,?_,?_,?_⟩
   ·show s.out++s.block++[_]=(jm t (ja p) c).items++[⟨((1:Nat):Int),(t.take (c+x.bytes.length)).drop (jm t (ja p) c).at_,(jm t (ja p) c).fields⟩]
    rw[b1,b3,b5,hbr];rfl
   ·show []=(t.take (c+x.bytes.length)).drop (c+x.bytes.length)
    rw[jjY];rw[jiE];omega
   ·show s.records=(jm t (ja p) c).stanzas+if ([]:List Fld)=[]/\(jm t (ja p) c).said=[] then 0 else 1
    rw[b2,if_pos ⟨rfl,b4⟩];rfl
   ·show(2:Int)=if ([]:List Fld)=[]/\(jm t (ja p) c).said=[] then 2 else 3
    rw[if_pos ⟨rfl,b4⟩]
   ·show []=[]++if (jm t (ja p) c).said=[] then [] else _
    rw[if_pos b4];rfl
   ·exact fun hn=>absurd b4 hn
   ·exact⟨fun hh=>by rcases hh with hh | hh;exact absurd (show(1:Nat)=4 from hh) (by decide);exact absurd (show(1:Nat)=3 from hh) (by decide),fun hh=>absurd b4 hh⟩
   ·exact .inl ⟨rfl,b4⟩
   ·show(jm t (ja p) c).stanzas<=400
    rw[b2];exact h.records_le
   ·exact fun hn=>absurd ⟨rfl,b4⟩ hn
   show([]:List Fld).length<=40;decide
  ·
   have hw0:ze s x xs=0:=by unfold ze;rw[if_neg hbad,if_pos (by omega)]
   have hput:vd s x xs={s with raw:=s.raw++x.text++[10],prev:=2}:=by unfold vd;rw[if_neg (by omega),if_neg (by omega),hk]
   have hP:yT t (ja p) x=ja p:=by unfold yT;rw[if_neg (by omega),if_neg (by omega)]
   have hcond:((ja p).fields=[]/\(ja p).said=[])↔(p.fields=[]/\p.said=[]):=by
    rw[yt];exact⟨fun hh=>hh.1,fun hh=>⟨hh,zP p⟩⟩
   rw[hw0,if_neg (by decide),hput,hP]
   refine Qz t xs (no+1) (c+x.bytes.length) _ _ r4 hes hcl' ⟨?_,?_,?_,t3,t2,?_,?_,?_,?_,?_,?_,?_,?_,hfl⟩
   ·rw[yu];exact h.items
   ·rw[vj];exact hraw.symm
   ·rw[vj];have:=h.at_;omega
   ·rw[zm];show s.records=_;rw[h.recd];congr 1;simp only[hcond]
   ·show s.kind=_;rw[h.kind];simp only[hcond]
   ·show s.fields=_;rw[hf,if_pos (zP p),jix]
   ·exact fun hn=>absurd (zP p) hn
   ·exact⟨fun hh=>by rcases hh with hh | hh;exact absurd (show(2:Nat)=4 from hh) (by decide);exact absurd (show(2:Nat)=3 from hh) (by decide),fun hh=>absurd (zP p) hh⟩
   ·rw[vj];exact .inr (by have:=h.at_;omega)
   ·rw[zm];exact h.st
   rw[zm];exact fun hn=>h.st' (fun hh=>hn (hcond.2 hh))
  ·exact absurd hk h3
  ·
   have hP:yT t (ja p) x={ja p with begin_:=x.no,said:=[x.text]}:=by unfold yT;rw[if_pos hk]
   have hrec0:(ja p).fields.length=0->s.records=p.stanzas:=fun hz=>by
    rw[h.recd,if_pos ((yt p).1 (List.length_eq_zero_iff.1 hz)),jj0]
   have hst:=h.st
   have hfull:vr {ja p with begin_:=x.no,said:=[x.text]}=decide (40<=s.fields.length\/(s.fields.length=0/\400<=s.records)):=by
    unfold vr
    show(if (ja p).fields.length=0 then (ja p).stanzas==400 else (ja p).fields.length==40)=_
    rw[hf,zm]
    split
    ·rename_i hz
     have:=hrec0 hz
     rw[jiX,beq_iff_eq,decide_eq_true_iff];omega
    rename_i hz
    rw[jiX,beq_iff_eq,decide_eq_true_iff];omega
   have hpn:ze s x xs=ya {ja p with begin_:=x.no,said:=[x.text]} xs:=by
    unfold ze ya
    rw[if_neg hbad,if_neg (by omega),hfull]
    show(if jo (x.text::zv xs)≠0 then _ else _)=(if jo ([x.text]++zv xs)≠0 then _ else _)
    simp only[jiq,ji4,decide_eq_true_eq]
   rw[hP]
   by_cases hn:ze s x xs=0
   ·rw[hn,if_neg (by decide)]
    have hput:vd s x xs=⟨s.out,3,s.raw++x.text++[10],s.fields++[(jF (x.text::zv xs),jE (x.text::zv xs))],if s.kind=2 then s.records+1 else s.records,4⟩:=by unfold vd;rw[if_neg (by omega),if_pos hk]
    rw[hput]
    have hp0:ya {ja p with begin_:=x.no,said:=[x.text]} xs=0:=by rw[<- hpn];exact hn
    have hnf:¬(40<=s.fields.length\/(s.fields.length=0/\400<=s.records)):=by
     intro hh
     unfold ya at hp0
     rw[hfull,decide_eq_true hh]at hp0
     split at hp0
     ·rename_i hu;exact hu hp0
     simp at hp0
    refine Qz t xs (no+1) (c+x.bytes.length) _ _ r4 hes hcl' ⟨?_,?_,?_,t3,t2,?_,?_,?_,?_,?_,?_,?_,?_,hfl⟩
    ·show s.out=(ja p).items;rw[yu];exact h.items
    ·show s.raw++x.text++[10]=(t.take (c+x.bytes.length)).drop (ja p).at_
     rw[vj];exact hraw.symm
    ·show(ja p).at_<=_;rw[vj];have:=h.at_;omega
    ·show(if s.kind=2 then s.records+1 else s.records)=(ja p).stanzas+if (ja p).fields=[]/\[x.text]=[] then 0 else 1
     have e1:¬((ja p).fields=[]/\[x.text]=[]):=fun hh=>by cases hh.2
     rw[zm,if_neg e1,h.kind,h.recd]
     by_cases hc0:p.fields=[]/\p.said=[]
     ·rw[if_pos hc0,if_pos hc0,if_pos rfl]
     rw[if_neg hc0,if_neg hc0,if_neg (by decide)]
    ·show(3:Int)=if (ja p).fields=[]/\[x.text]=[] then 2 else 3
     rw[if_neg (fun hh=>by cases hh.2)]
    ·show s.fields++_=(ja p).fields++if [x.text]=[] then [] else [(jF ([x.text]++zv xs),jE ([x.text]++zv xs))]
     rw[if_neg (by simp),hf];rfl
    ·exact fun _=>hp0
    ·exact⟨fun _=>by show [x.text]≠[];simp,fun _=>.inl rfl⟩
    ·show _\/(ja p).at_<_;rw[vj];exact .inr (by have:=h.at_;omega)
    ·show(ja p).stanzas<=400;rw[zm];exact h.st
    intro _
    show(ja p).stanzas<=399
    rw[zm]
    by_cases hc0:p.fields=[]/\p.said=[]
    ·have hz:(ja p).fields.length=0:=by rw[(yt p).2 hc0];rfl
     have:=hrec0 hz
     rw[hf]at hnf
     omega
    exact h.st' hc0
   rw[if_pos hn,Gh t xs _ hes (by show [x.text]≠[];simp) (by rw[<- hpn];exact hn),<- hpn]
  exact absurd hk h5
theorem Kr(t:List UInt8):za t=yl t:=by
 have h:=Qz t (jf t) 0 0 PS.new RS.new (xe _ 0 0 t (jh6 _)) (ZX _ 0 0 t (jh6 _)) (vo _ 0 0 t (jh6 _)) (Rel.new t)
 exact h
end Go.Proofs.YtmdhainabeljpaaGreatDoor
namespace Go.Proofs.YtmdhainabeljpaaGreatDoor
open Go.RowKit Go.Shelf
theorem ZT:∀(xs:List (List UInt8)) (y:List UInt8),xs≠[]->zR (xs++[y])=zR xs++10::y
 | [],_,h=>absurd rfl h
 | [p],y,_=>rfl
 | p::q::r,y,_=>by
  show p++10::zR ((q::r)++[y])=(p++10::zR (q::r))++10::y
  rw[ZT (q::r) y (by simp)];simp
theorem QY:∀(xs ys:List (List UInt8)),(zR xs).length<=(zR (xs++ys)).length
 | [],ys=>by simp[zR]
 | [p],[]=>by simp
 | [p],q::r=>by show p.length<=(p++10::zR (q::r)).length;simp
 | p::q::r,ys=>by
  show(p++10::zR (q::r)).length<=(p++10::zR ((q::r)++ys)).length
  have:=QY (q::r) ys
  simp only[jh7,jic]at this ⊢;omega
def vA(a:List UInt8)(r:List (List UInt8))(k:Nat):List UInt8:=zR (qP (qB a)::(r.take k).map fun l=>jY l.tail)
theorem Vz(a:List UInt8)(r:List (List UInt8))(k:Nat)(x:List UInt8)(hx:r[k]?=some x):vA a r (k+1)=vA a r k++10::jY x.tail:=by
 unfold vA
 rw[jiK,hx,show(some x).toList=[x] from rfl,ji1,<- jiq]
 exact ZT _ _ (by simp)
theorem Ux(a:List UInt8)(r:List (List UInt8))(k:Nat):(vA a r k).length<=(zy (a::r)).length:=by
 unfold vA zy Qy
 simp only[List.headD_cons,jjZ]
 have:=QY (qP (qB a)::(r.take k).map fun l=>jY l.tail) ((r.drop k).map fun l=>jY l.tail)
 rw[jiq,<- ji1,jiy]at this
 exact this
theorem XN(a:List UInt8)(r:List (List UInt8)):vA a r r.length=zy (a::r):=by
 unfold vA zy Qy
 rw[jiF];rfl
theorem Vx(r:List (List UInt8))(k:Nat)(x:List UInt8)(h:r[k]?=some x):Zh 3 (r.drop k)=((jk x==3)&&Zh 3 (r.drop (k+1))):=Kb r k 3 x h
theorem yk{a:List UInt8}{r:List (List UInt8)}(h:jk a=4):VB (a::r)=Zh 3 r:=by
 rw[Ww]
 show(decide (0<(a::r).length)&&((jk a==4)&&Zh 3 r))=_
 simp[h]
theorem ZM(ls:List (List UInt8))(v:Value)(w:World)(hs:Strs w v (ls.map B))(hl:∀l∈ls,l.length<=100000)(hn:ls.length<=100000)(h0:ls=[]\/∃a r,ls=a::r/\jk a≠4):
  Calls Tryz.prog 48 #[v] w fun e w'=>e=.returned (.tuple #[.agg #[.string ⟨#[]⟩,.string ⟨#[]⟩],.int .i64 2])/\Below w.heap.size w w':=by
 obtain⟨A,cap,rfl,hle,hc⟩:=hs
 have hcb:=jeC hc
 clear hc
 rcases h0 with rfl|⟨a,r,rfl,hka⟩
 ·clear hcb
  rw[jiA,jiW]
  go_enter Tryz.func48,Tryz.ntmps48
  go_wp2_with fail
  have RE:=jd.new w 71 #[.string ⟨#[]⟩,.string ⟨#[]⟩]
  refine bodyPost_ret (vQ rfl _ _ w.heap.size _ rfl RE rfl) rfl ?_
  exact⟨rfl,(jh8 _ _).alloc (jh6 _) _⟩
 obtain⟨b,off,rfl,hbb,hca⟩:=hcb 0 a rfl
 rw[jj0]at hca
 clear hcb
 have hal:=hl a (by simp)
 have RK:=fun w=>zL (B a) (by rw[je];omega) w
 rw[ji]at RK
 have hki:((jk a:Int) != 4)=true:=by simp;omega
 rw[jiA,jic]at *
 have hnz:((r.length:Int)+1==0)=false:=by rw[beq_eq_false_iff_ne];omega
 clear hka
 generalize jk a=ka at *
 generalize B a=X at *
 go_enter Tryz.func48,Tryz.ntmps48
 go_wp2_with fail
 refine(RK _).mono ?_
 rintro e w1 ⟨rfl,b1⟩
 have R1:=jb (jd.new w 71 #[.string ⟨#[]⟩,.string ⟨#[]⟩]) b1 (by simp)
 have c0:=R1.cell 0
 have c1:=R1.cell 1
 have f0:=R1.frozen 0
 have f1:=R1.frozen 1
 have hb1:Below w.heap.size w w1:=((jh8 _ _).alloc (jh6 _) _).trans (b1.mono (by simp))
 simp only[jie,jid,jib]at c0 c1
 have RE:=(R1.set 0 (.string ⟨#[]⟩)).set 1 (.string ⟨#[]⟩)
 rw[Gf]at RE
 clear b1
 go_wp2_with fail
 refine bodyPost_ret (vQ rfl _ _ w.heap.size _ rfl RE rfl) rfl ?_
 exact⟨rfl,(hb1.setCell (jh6 _) _).setCell (jh6 _) _⟩
end Go.Proofs.YtmdhainabeljpaaGreatDoor
