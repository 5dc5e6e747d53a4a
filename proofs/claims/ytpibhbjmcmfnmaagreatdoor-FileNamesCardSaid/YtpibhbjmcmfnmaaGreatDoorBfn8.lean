/- Texts put together:PA,PO,PQ,PR,PU,TA,FL,PB. -/
import Derived.Laws.AppendOwn
import Derived.Laws.OwnMore
import Derived.Lib.SmallJoins
import Derived.Test.YtpibhbjmcmfnmaaGreatDoorBfn7
set_option linter.unusedVariables false
set_option maxRecDepth 100000
set_option maxHeartbeats 16000000
namespace Go.Proofs.YtpibhbjmcmfnmaaGreatDoor
abbrev jmg:=@List.getElem?_cons_succ
abbrev jmG:=@Go.World.ownsRow.cellAt
abbrev jmL:=@List.flatMap_append
abbrev jmP:=@Nat.zero_add
abbrev jmQ:=@List.take_append_drop
abbrev jmZ:=@List.getElem?_eq_none
abbrev jnm:=@Go.Joins.ownsRow_forms
abbrev jnx:=@List.drop_left'
abbrev jnD:=@List.drop_drop
abbrev jnE:=@Go.World.ownsRow.lt
abbrev jnM:=@Nat.add_assoc
end Go.Proofs.YtpibhbjmcmfnmaaGreatDoor
namespace Go.Proofs.YtpibhbjmcmfnmaaGreatDoor
abbrev Fld:=List UInt8×List UInt8
structure It where
 kind:Int
 raw:List UInt8
 fields:List Fld
deriving DecidableEq
structure PS where
 begin_:Nat
 said:List (List UInt8)
 items:List It
 stanzas:Nat
 at_:Nat
 fields:List Fld
deriving DecidableEq
def PS.new:PS:=⟨0,[],[],0,0,[]⟩
abbrev Res(α:Type):=Except (Nat×Nat) α
def JV(p:PS):Bool:=if p.fields.length=0 then p.stanzas==400 else p.fields.length==40
def ji(p:PS):Nat:=if p.said=[] then 0 else if jZ p.said≠0 then jZ p.said else if JV p then 11 else 0
def jb(p:PS):PS:=if p.said=[] then p else {p with fields:=p.fields++[(zZ p.said,zY p.said)],said:=[]}
def zi(text:List UInt8)(p:PS)(kind end_:Nat):PS:={p with items:=p.items++[⟨kind,(text.take end_).drop p.at_,p.fields⟩],at_:=end_,fields:=[]}
def js(text:List UInt8)(p:PS)(end_:Nat):PS :=
 if p.at_=end_ then p else if p.fields.length=0 then zi text p 2 end_ else {zi text p 3 end_ with stanzas:=p.stanzas+1}
def xO(p:PS)(x:Ln):Bool:=jJ x.text==3 && !(p.said.isEmpty)
def qv(p:PS)(x:Ln):PS:=if xO p x then {p with said:=p.said++[x.text]} else p
def vH(p:PS)(x:Ln):Bool:=jJ x.text==5 || (jJ x.text==3 && !xO p x) || !x.ended
def yW(p:PS)(x:Ln):Bool:=vH p x || !xO p x
def Qk(text:List UInt8)(p:PS)(x:Ln):PS :=
 if jJ x.text=4 then {p with begin_:=x.no,said:=[x.text]}
 else if jJ x.text=1 then zi text (js text p x.at_) 1 (x.at_+x.text.length+1)
 else p
def vj(p:PS)(x:Ln):PS:=if yW p x then jb (qv p x) else qv p x
def zJ(text:List UInt8)(p:PS)(x:Ln):Res PS :=
 if yW p x=true/\ji (qv p x)≠0 then .error ((qv p x).begin_,ji (qv p x))
 else if vH p x then .error (x.no,2)
 else .ok (Qk text (vj p x) x)
def vK(text:List UInt8):PS->List Ln->Res PS
 | p,[]=>.ok p
 | p,x::xs=>match zJ text p x with
  | .error e=>.error e
  | .ok q=>vK text q xs
def Wv(text:List UInt8)(p:PS):Res (List It) :=
 if ji p≠0 then .error (p.begin_,ji p) else .ok (js text (jb p) text.length).items
def jI(text:List UInt8):Res (List It) :=
 match vK text PS.new (je text) with
 | .error e=>.error e
 | .ok p=>Wv text p
theorem qM(text:List UInt8):∀(p:PS) (a b:List Ln),vK text p (a++b)=match vK text p a with | .error e=>.error e | .ok q=>vK text q b
 | p,[],b=>rfl
 | p,x::a,b=>by
  show(match zJ text p x with | .error e=>_ | .ok q=>vK text q (a++b))=match (match zJ text p x with | .error e=>_ | .ok q=>vK text q a) with | .error e=>_ | .ok q=>_
  cases zJ text p x with
  | error e=>rfl
  | ok q=>exact qM text q a b
theorem jbG(ls:List (List UInt8)):jZ ls<=6:=by
 unfold jZ
 split
 ·split<;>decide
 decide
structure Inv(p:PS)(c:Nat):Prop where
 at_:p.at_<=c
 items:p.items.length<=p.at_
 stanzas:p.stanzas<=p.at_
 begin_:p.begin_<=c
 fields:p.fields.length<=c
 said:(p.said.map List.length).sum+p.said.length<=c
 both:p.fields.length+p.said.length<=c
theorem Inv.new:Inv PS.new 0:=⟨jma _,jma _,jma _,jma _,jma _,jma _,jma _⟩
theorem Inv.mono{p:PS}{c d:Nat}(h:Inv p c)(hd:c<=d):Inv p d :=
 ⟨jmy h.at_ hd,h.items,h.stanzas,jmy h.begin_ hd,jmy h.fields hd,jmy h.said hd,jmy h.both hd⟩
theorem Inv.endField{p:PS}{c:Nat}(h:Inv p c):Inv (jb p) c:=by
 unfold jb
 split
 ·exact h
 rename_i hs
 have hb:=h.both
 have:1<=p.said.length:=by cases hp:p.said with | nil=>exact absurd hp hs | cons a l=>simp
 exact⟨h.at_,h.items,h.stanzas,h.begin_,by simp;omega,by simp,by simp;omega⟩
theorem Inv.endItem{p:PS}{c:Nat}(text:List UInt8)(kind e:Nat)(h:Inv p c)(h1:p.at_<e)(h2:e<=c):Inv (zi text p kind e) c:=by
 have a:=h.items;have b:=h.stanzas
 refine⟨h2,?_,?_,h.begin_,by simp[zi],h.said,?_⟩
 ·simp[zi];omega
 ·simp[zi];omega
 have:=h.both;simp[zi];omega
theorem Inv.endBlock{p:PS}{c:Nat}(text:List UInt8)(e:Nat)(h:Inv p c)(h1:p.at_<=e)(h2:e<=c):Inv (js text p e) c:=by
 unfold js
 split
 ·exact h
 split
 ·exact h.endItem text 2 e (by omega) h2
 have g:=h.endItem text 3 e (by omega) h2
 exact⟨g.at_,g.items,by have:=h.stanzas;show p.stanzas+1<=e;omega,g.begin_,g.fields,g.said,g.both⟩
theorem Vx(p:PS):(jb p).at_=p.at_:=by unfold jb;split<;>rfl
theorem Kl(p:PS):(jb p).said=[]:=by unfold jb;split<;>simp_all
theorem yK(text:List UInt8)(p:PS)(e:Nat)(h:p.at_<=e):(js text p e).at_=e:=by
 unfold js
 split
 ·assumption
 split<;>rfl
theorem jar(p:PS)(x:Ln):(qv p x).at_=p.at_:=by unfold qv;split<;>rfl
theorem Inv.went{p:PS}{x:Ln}{c:Nat}(h:Inv p c):Inv (qv p x) (c+x.text.length+1):=by
 unfold qv
 split
 ·have a:=h.said;have b:=h.both
  refine⟨by have:=h.at_;show p.at_<=_;omega,h.items,h.stanzas,by have:=h.begin_;show p.begin_<=_;omega,by have:=h.fields;show p.fields.length<=_;omega,?_,?_⟩
  ·simp;omega
  simp;omega
 exact h.mono (by omega)
theorem Inv.then_{p:PS}{x:Ln}{c:Nat}(h:Inv p c):Inv (vj p x) (c+x.text.length+1):=by
 unfold vj
 split
 ·exact h.went.endField
 exact h.went
theorem jaA(p:PS)(x:Ln):(vj p x).at_=p.at_:=by
 unfold vj
 split
 ·rw[Vx,jar]
 exact jar p x
theorem WI{p:PS}{x:Ln}(h:jJ x.text≠3):xO p x=false:=by unfold xO;simp[h]
theorem Inv.take{text:List UInt8}{p q:PS}{x:Ln}(h:Inv p x.at_)(hno:x.no<=x.at_)(he:zJ text p x=.ok q):Inv q (x.at_+x.bytes.length)/\x.ended=true:=by
 unfold zJ at he
 split at he
 ·cases he
 split at he
 ·cases he
 rename_i hw
 have hen:x.ended=true:=by
  cases hx:x.ended with
  | true=>rfl
  | false=>exact absurd (by unfold vH;rw[hx];simp) hw
 have hb:x.at_+x.bytes.length=x.at_+x.text.length+1:=by unfold Ln.bytes;rw[hen];simp;omega
 refine⟨?_,hen⟩
 rw[hb]
 cases he
 have t:=h.then_ (x:=x)
 unfold Qk
 split
 ·rename_i hk
  refine⟨t.at_,t.items,t.stanzas,by show x.no<=_;omega,t.fields,by simp,?_⟩
  have hf:(vj p x).fields.length<=x.at_:=by
   have g:=WI (p:=p) (x:=x) (by omega)
   unfold vj yW qv
   rw[g]
   simp only[Bool.not_false,Bool.or_true,if_true]
   exact(Inv.endField h).fields
  simp;omega
 split
 ·have ta:=jaA p x
  have ha:=h.at_
  refine Inv.endItem text 1 _ (t.endBlock text x.at_ (by omega) (by omega)) ?_ (by omega)
  rw[yK text _ _ (by omega)];omega
 exact t
structure ZJ(t:List UInt8)(p:PS):Prop where
 st:p.stanzas<=400
 st':p.fields≠[]->p.stanzas<=399
 fl:p.fields.length<=40
 each:∀it∈p.items,it.fields.length<=40
 join:p.items.flatMap It.raw=t.take p.at_
theorem ZJ.new(t:List UInt8):ZJ t PS.new:=⟨by decide,fun h=>absurd rfl h,by decide,(fun it h=>by cases h),rfl⟩
theorem ZJ.endField{t:List UInt8}{p:PS}(h:ZJ t p)(h0:ji p=0):ZJ t (jb p):=by
 unfold jb
 split
 ·exact h
 rename_i hs
 unfold ji at h0
 rw[if_neg hs]at h0
 split at h0
 ·rename_i hu;exact absurd h0 hu
 have hfull:JV p=false:=by
  cases hf:JV p with
  | false=>rfl
  | true=>rw[hf]at h0;simp at h0
 unfold JV at hfull
 have fl:=h.fl
 have st:=h.st
 refine⟨h.st,fun _ => ?_,?_,h.each,h.join⟩
 ·show p.stanzas<=399
  split at hfull
  ·have:p.stanzas≠400:=by simpa using hfull
   omega
  rename_i hz
  exact h.st' (fun e=>hz (by rw[e];rfl))
 show(p.fields++[_]).length<=40
 rw[jmb]
 split at hfull
 ·simp;omega
 have:p.fields.length≠40:=by simpa using hfull
 simp;omega
theorem Yr(t:List UInt8)(a e:Nat)(h:a<=e):t.take a++(t.take e).drop a=t.take e:=by
 conv=>rhs;rw[<- jmQ a (t.take e),List.take_take,Nat.min_eq_left h]
theorem ZJ.endItem{t:List UInt8}{p:PS}(h:ZJ t p)(kind e:Nat)(hle:p.at_<=e):ZJ t (zi t p kind e):=by
 refine⟨h.st,fun hn=>absurd rfl hn,by simp[zi],?_,?_⟩
 ·intro it hi
  rcases List.mem_append.1 hi with hi|hi
  ·exact h.each it hi
  rw[List.mem_singleton.1 hi];exact h.fl
 show(p.items++[_]).flatMap It.raw=t.take e
 rw[jmL,h.join]
 simp only[jmt,List.flatMap_nil,jmT]
 exact Yr t p.at_ e hle
theorem ZJ.endBlock{t:List UInt8}{p:PS}(h:ZJ t p)(e:Nat)(hle:p.at_<=e):ZJ t (js t p e):=by
 unfold js
 split
 ·exact h
 split
 ·exact h.endItem 2 e hle
 rename_i hz
 have g:=h.endItem 3 e hle
 have:=h.st' (fun e=>hz (by rw[e];rfl))
 exact⟨by show p.stanzas+1<=400;omega,fun hn=>absurd rfl hn,g.fl,g.each,g.join⟩
theorem ZJ.went{t:List UInt8}{p:PS}(h:ZJ t p)(x:Ln):ZJ t (qv p x):=by
 unfold qv
 split
 ·exact⟨h.st,h.st',h.fl,h.each,h.join⟩
 exact h
theorem xH{t:List UInt8}{p q:PS}{x:Ln}(he:zJ t p x=.ok q):(yW p x=true->ji (qv p x)=0)/\vH p x=false/\q=Qk t (vj p x) x:=by
 unfold zJ at he
 split at he
 ·cases he
 rename_i h1
 split at he
 ·cases he
 rename_i h2
 cases he
 refine⟨fun hn => ?_,by simpa using h2,rfl⟩
 rcases Nat.decEq (ji (qv p x)) 0 with e|e
 ·exact absurd ⟨hn,e⟩ h1
 exact e
theorem Jb{t:List UInt8}{p:PS}{x:Ln}(h1:yW p x=true->ji (qv p x)=0)(h2:vH p x=false):zJ t p x=.ok (Qk t (vj p x) x):=by
 unfold zJ
 rw[if_neg (fun h=>h.2 (h1 h.1)),h2];rfl
theorem ZJ.then_{t:List UInt8}{p:PS}{x:Ln}(h:ZJ t p)(h1:yW p x=true->ji (qv p x)=0):ZJ t (vj p x):=by
 unfold vj
 split
 ·rename_i he;exact(h.went x).endField (h1 he)
 exact h.went x
theorem ZJ.put{t:List UInt8}{p:PS}{x:Ln}(h:ZJ t p)(ha:p.at_<=x.at_):ZJ t (Qk t p x):=by
 unfold Qk
 split
 ·exact⟨h.st,h.st',h.fl,h.each,h.join⟩
 split
 ·refine(h.endBlock x.at_ ha).endItem 1 _ ?_
  rw[yK t p _ ha];omega
 exact h
theorem ZJ.take{t:List UInt8}{p q:PS}{x:Ln}(h:ZJ t p)(ha:p.at_<=x.at_)(he:zJ t p x=.ok q):ZJ t q:=by
 obtain⟨h1,_,rfl⟩:=xH he
 exact(h.then_ h1).put (by rw[jaA];exact ha)
def jlr:Nat->Nat->List Ln->Prop
 | _,_,[]=>True
 | no,c,x::xs=>x.no=no/\x.at_=c/\1<=x.bytes.length/\jlr (no+1) (c+x.bytes.length) xs
theorem ZU:∀(n no at_:Nat) (l:List UInt8),l.length<=n->jlr no at_ (za no at_ l)
 | 0,no,at_,l,h=>by
  have:l=[]:=List.length_eq_zero_iff.1 (by omega)
  subst this;rw[jr];trivial
 | n+1,no,at_,l,h=>by
  by_cases hl:l=[]
  ·subst hl;rw[jr];trivial
  have hp:=qz l hl
  rw[jA _ _ _ hl]
  have hb:(Ln.bytes ⟨no,at_,head l,nl l⟩).length=qI l:=by
   unfold Ln.bytes qI;simp only[jmb];split<;>rfl
  refine⟨rfl,rfl,by rw[hb];exact hp,?_⟩
  rw[hb]
  exact ZU n _ _ _ (by simp only[jmn];omega)
theorem jaJ(t:List UInt8):∀(xs:List Ln) (no c:Nat) (p q:PS),jlr no c xs->no<=c->Inv p c->ZJ t p->vK t p xs=.ok q->Inv q (c+(xs.flatMap Ln.bytes).length)/\ZJ t q/\∀x∈xs,x.ended=true
 | [],no,c,p,q,_,_,hi,hg,he=>by
  cases he
  exact⟨by simpa using hi,hg,fun x h=>by cases h⟩
 | x::xs,no,c,p,q,hr,hn,hi,hg,he=>by
  obtain⟨r1,r2,r3,r4⟩:=hr
  unfold vK at he
  cases ht:zJ t p x with
  | error e=>rw[ht]at he;cases he
  | ok p1 =>
  rw[ht]at he
  dsimp only at he
  rw[<- r2]at hi
  obtain⟨i1,e1⟩:=Inv.take hi (by omega) ht
  have g1:=hg.take hi.at_ ht
  rw[r2]at i1
  obtain⟨a,b,d⟩:=jaJ t xs (no+1) (c+x.bytes.length) p1 q r4 (by omega) i1 g1 he
  refine⟨?_,b,fun y hy => ?_⟩
  ·rw[jmt,jmb,<- jnM];exact a
  rcases List.mem_cons.1 hy with rfl|hy
  ·exact e1
  exact d y hy
theorem Zs{t:List UInt8}{its:List It}(h:jI t=.ok its):∃p,vK t PS.new (je t)=.ok p/\ji p=0/\its=(js t (jb p) t.length).items/\ZJ t (js t (jb p) t.length)/\Inv (js t (jb p) t.length) t.length/\(jb p).at_<=t.length:=by
 unfold jI at h
 cases hr:vK t PS.new (je t) with
 | error e=>rw[hr]at h;cases h
 | ok p =>
 rw[hr]at h
 dsimp only at h
 unfold Wv at h
 split at h
 ·cases h
 rename_i h0
 have h0:ji p=0:=by simpa using h0
 cases h
 obtain⟨a,b,_⟩:=jaJ t _ 0 0 _ _ (ZU _ 0 0 t (jma _)) (jma _) Inv.new (ZJ.new t) hr
 rw[show za 0 0 t=je t from rfl,zg,jmP]at a
 exact⟨p,rfl,h0,rfl,(b.endField h0).endBlock _ a.endField.at_,a.endField.endBlock t _ a.endField.at_ (jma _),a.endField.at_⟩
theorem xJ{t:List UInt8}{its:List It}(h:jI t=.ok its):its.flatMap It.raw=t/\its.length<=t.length/\∀it∈its,it.fields.length<=40/\it.raw.length<=t.length:=by
 obtain⟨p,_,_,rfl,g,i,hle⟩:=Zs h
 have ha:=yK t (jb p) t.length hle
 have hj:=g.join
 rw[ha,jmJ]at hj
 refine⟨hj,by have:=i.items;rw[ha]at this;exact this,fun it hi=>⟨g.each it hi,?_⟩⟩
 obtain⟨a,b,e⟩:=List.append_of_mem hi
 rw[e,jmL,jmt]at hj
 have:=congrArg List.length hj
 simp only[jmb]at this
 omega
def sh(d e:Nat)(x:Ln):Ln:=⟨d+x.no,e+x.at_,x.text,x.ended⟩
theorem Vh:∀(a b:List Ln) (no at_:Nat) (l:List UInt8),za no at_ l=a++b->(∀x∈a,x.ended=true) ->
  za no at_ (l.take (a.flatMap Ln.bytes).length)=a/\b=za (no+a.length) (at_+(a.flatMap Ln.bytes).length) (l.drop (a.flatMap Ln.bytes).length)
 | [],b,no,at_,l,h,_=>by
  refine⟨by simp[jr],?_⟩
  simpa using h.symm
 | x::a,b,no,at_,l,h,he=>by
  have hl:l≠[]:=by rintro rfl;rw[jr]at h;cases h
  rw[jA _ _ _ hl,jmu]at h
  obtain⟨hx,ht⟩:=List.cons.inj h
  have hb:x.bytes.length=qI l:=by
   rw[<- hx];unfold Ln.bytes qI;simp only[jmb];split<;>rfl
  have hen:nl l=true:=by have:=he x jml;rw[<- hx]at this;exact this
  obtain⟨i1,i2⟩:=Vh a b (no+1) (at_+qI l) (l.drop (qI l)) ht (fun y hy=>he y (jmj _ hy))
  have hsp:=zA l
  rw[hen,if_pos rfl]at hsp
  have hu:qI l=(head l).length+1:=by unfold qI;rw[hen];rfl
  have hcl:=yE _ no at_ l (jma _) ⟨no,at_,head l,nl l⟩ (by rw[jA _ _ _ hl];exact jml)
  have hlen:((x::a).flatMap Ln.bytes).length=qI l+(a.flatMap Ln.bytes).length:=by rw[jmt,jmb,hb]
  rw[hlen]
  rw[hen]at hx
  clear hlen hb hen
  generalize head l=hd at *
  generalize hr:l.drop (qI l)=r at *
  rw[hu]at *
  have hl2:l=hd++10::r:=by rw[hsp];simp
  clear hsp hu
  generalize (a.flatMap Ln.bytes).length=m at *
  have htk:l.take (hd.length+1+m)=hd++10::r.take m:=by
   rw[hl2,List.take_append,jmH (by omega),show hd.length+1+m-hd.length=m+1 by omega]
   simp
  refine⟨?_,?_⟩
  ·rw[htk,jA _ _ _ (by simp)]
   obtain⟨h1,h2⟩:=Gy hd (r.take m) hcl
   have hu2:qI (hd++10::r.take m)=hd.length+1:=by unfold qI;rw[h1,h2];rfl
   have hd2:(hd++10::r.take m).drop (hd.length+1)=r.take m:=by
    rw[show hd++10::r.take m=(hd++[10])++r.take m by simp]
    exact jnx (by simp)
   rw[h1,h2,hu2,hd2,i1,<- hx]
  rw[i2,<- hr,jnD,jme,jnM no,Nat.add_comm 1,jnM at_]
def up(q:PS)(d e:Nat)(s:PS):PS:=⟨d+s.begin_,s.said,q.items++s.items,q.stanzas+s.stanzas,e+s.at_,s.fields⟩
def re(p:PS)(n:Nat):PS:={p with begin_:=n}
def num:Nat->Nat->List (List UInt8)->List Ln
 | _,_,[]=>[]
 | no,c,l::r=>⟨no,c,l,true⟩::num (no+1) (c+l.length+1) r
theorem Ji:∀(ts:List (List UInt8)) (no c:Nat),(∀l∈ts,(10:UInt8)∉l)->za no c (jl ts)=num no c ts
 | [],no,c,_=>rfl
 | l::r,no,c,h=>by
  have e:jl (l::r)=l++10::jl r:=by unfold jl;simp
  obtain⟨h1,h2⟩:=Gy l (jl r) (h l jml)
  have hu:qI (l++10::jl r)=l.length+1:=by unfold qI;rw[h1,h2];rfl
  rw[e,jA _ _ _ (by simp),h1,h2,hu]
  have hd:(l++10::jl r).drop (l.length+1)=jl r:=by
   rw[show l++10::jl r=(l++[10])++jl r by simp]
   exact jnx (by simp)
  rw[hd,Ji r _ _ (fun y hy=>h y (jmj _ hy))]
  rfl
theorem xK:∀(a b:List (List UInt8)) (no c:Nat),num no c (a++b)=num no c a++num (no+a.length) (c+(jl a).length) b
 | [],b,no,c=>rfl
 | l::a,b,no,c=>by
  have:=xK a b (no+1) (c+l.length+1)
  show _::num _ _ (a++b)=_::_++_
  rw[this]
  have e:(jl (l::a)).length=l.length+1+(jl a).length:=by unfold jl;simp;omega
  rw[e,jme,show c+(l.length+1+(jl a).length)=c+l.length+1+(jl a).length by omega,show no+(a.length+1)=no+1+a.length by omega]
  rfl
theorem Qr{t:List UInt8}{p q:PS}{x:Ln}{xs:List Ln}(h:zJ t p x=.ok q):vK t p (x::xs)=vK t q xs:=by
 show(match zJ t p x with | .error e=>Except.error e | .ok q=>vK t q xs)=_
 rw[h]
theorem jaI(t:List UInt8):∀(r:List (List UInt8)) (p:PS) (no c:Nat),p.said≠[]->(∀l∈r,jJ l=3)->vK t p (num no c r)=.ok {p with said:=p.said++r}
 | [],p,no,c,_,_=>by show Except.ok p=_;rw[jmT]
 | l::r,p,no,c,hs,hk=>by
  have h3:=hk l jml
  have hg:xO p ⟨no,c,l,true⟩=true:=by
   unfold xO;rw[h3]
   cases hq:p.said with
   | nil=>exact absurd hq hs
   | cons a b=>rfl
  have hw:vH p ⟨no,c,l,true⟩=false:=by unfold vH;rw[hg,h3];rfl
  have he:yW p ⟨no,c,l,true⟩=false:=by unfold yW;rw[hw,hg];rfl
  have ht:zJ t p ⟨no,c,l,true⟩=.ok {p with said:=p.said++[l]}:=by
   rw[Jb (by rw[he];intro h;cases h) hw]
   have e1:vj p ⟨no,c,l,true⟩={p with said:=p.said++[l]}:=by
    unfold vj;rw[he,if_neg (by decide)];unfold qv;rw[hg,if_pos rfl]
   rw[e1]
   unfold Qk
   rw[h3];rfl
  show vK t p (⟨no,c,l,true⟩::num (no+1) (c+l.length+1) r)=_
  rw[Qr ht,jaI t r _ _ _ (by simp) (fun y hy=>hk y (jmj _ hy))]
  simp
theorem KT{t:List UInt8}{p:PS}{no c:Nat}{l:List UInt8}(hk:jJ l≠3)(h5:jJ l≠5)(h0:ji p=0):zJ t p ⟨no,c,l,true⟩=.ok (Qk t (jb p) ⟨no,c,l,true⟩):=by
 have hg:xO p ⟨no,c,l,true⟩=false:=WI hk
 have hw:vH p ⟨no,c,l,true⟩=false:=by unfold vH;rw[hg];simp[hk,h5]
 have he:yW p ⟨no,c,l,true⟩=true:=by unfold yW;rw[hg];simp
 have hwent:qv p ⟨no,c,l,true⟩=p:=by unfold qv;rw[hg];rfl
 rw[Jb (by rw[hwent];exact fun _=>h0) hw]
 unfold vj
 rw[he,if_pos rfl,hwent]
def jz(fs:List Fld):List (List UInt8):=fs.flatMap fun f=>zm f.1 f.2
theorem Jh{k v:List UInt8}(hk:jT k=true):∃x r,zm k v=x::r/\jJ x=4/\∀l∈r,jJ l=3:=by
 have h:=Wu (v:=v) hk
 have e:zm k v=qF k ((jE v).headD [])::(jE v).tail.map jM:=rfl
 rw[e]at h ⊢
 refine⟨_,_,rfl,?_⟩
 unfold jbU at h
 simp only[jmv,beq_iff_eq,jmR]at h
 exact h
theorem YR(t:List UInt8):∀(fs:List Fld) (p:PS) (no c:Nat),ji p=0->(∀f∈fs,jT f.1=true/\f.2.length<=1000)->(jb p).fields.length+fs.length<=40->(jb p).stanzas<=399 ->
  ∃q,vK t p (num no c (jz fs))=.ok q/\ji q=0/\(jb q).fields=(jb p).fields++fs/\(jb q).items=(jb p).items/\(jb q).stanzas=(jb p).stanzas/\(jb q).at_=(jb p).at_
 | [],p,no,c,h0,_,_,_=>⟨p,rfl,h0,by simp,rfl,rfl,rfl⟩
 | f::fs,p,no,c,h0,hg,hn,hs=>by
  obtain⟨g1,g2⟩:=hg f jml
  obtain⟨x,r,e,kx,kr⟩:=Jh (v:=f.2) g1
  obtain⟨u1,u2,u3⟩:=Wt g1 g2
  have hl:jz (f::fs)=(x::r)++jz fs:=by unfold jz;rw[jmt,e]
  have ht:zJ t p ⟨no,c,x,true⟩=.ok {jb p with begin_:=no,said:=[x]}:=by
   rw[KT (by omega) (by omega) h0]
   unfold Qk
   rw[if_pos kx]
  have hrun:vK t p (num no c (x::r))=.ok {jb p with begin_:=no,said:=x::r}:=by
   show vK t p (⟨no,c,x,true⟩::num _ _ r)=_
   rw[Qr ht,jaI t r _ _ _ (by simp) kr];rfl
  rw[hl,xK,qM,hrun]
  dsimp only
  rw[jme]at hn
  have hN:ji {jb p with begin_:=no,said:=x::r}=0:=by
   unfold ji
   rw[if_neg (by simp)]
   show(if jZ (x::r)≠0 then _ else _)=0
   rw[<- e,u1,if_neg (by simp)]
   have:JV {jb p with begin_:=no,said:=zm f.1 f.2}=false:=by
    unfold JV
    show(if (jb p).fields.length=0 then (jb p).stanzas==400 else (jb p).fields.length==40)=false
    split
    ·simp;omega
    simp;omega
   rw[this];rfl
  have hP:jb {jb p with begin_:=no,said:=x::r}={jb p with begin_:=no,said:=[],fields:=(jb p).fields++[f]}:=by
   unfold jb
   rw[if_neg (by simp)]
   show {jb p with begin_:=no,said:=[],fields:=(jb p).fields++[(zZ (x::r),zY (x::r))]}=_
   rw[<- e,u2,u3];rfl
  obtain⟨q,q1,q2,q3,q4,q5,q6⟩:=YR t fs {jb p with begin_:=no,said:=x::r} (no+(x::r).length) (c+(jl (x::r)).length) hN (fun y hy=>hg y (jmj _ hy)) (by rw[hP];simp;omega) (by rw[hP];exact hs)
  refine⟨q,q1,q2,?_,?_,?_,?_⟩
  ·rw[q3,hP];simp
  ·rw[q4,hP]
  ·rw[q5,hP]
  rw[q6,hP]
def mv(b st a:Nat)(its:List It)(p:PS):PS:=⟨b,p.said,its,st,a,p.fields⟩
def ml(no c:Nat)(x:Ln):Ln:=⟨no,c,x.text,x.ended⟩
theorem jd0(b st a:Nat)(its:List It)(p:PS)(no c:Nat)(x:Ln):qv (mv b st a its p) (ml no c x)=mv b st a its (qv p x):=by
 unfold qv
 rw[show xO (mv b st a its p) (ml no c x)=xO p x from rfl]
 split<;>rfl
theorem Jg(b st a:Nat)(its:List It)(p:PS):jb (mv b st a its p)=mv b st a its (jb p):=by
 unfold jb
 rw[show(mv b st a its p).said=p.said from rfl]
 split<;>rfl
theorem xg(b st a:Nat)(its:List It)(p:PS)(hst:st<=399)(h:ji p=0):ji (mv b st a its p)=0:=by
 unfold ji at h ⊢
 rw[show(mv b st a its p).said=p.said from rfl]
 split
 ·rfl
 rename_i hs
 rw[if_neg hs]at h
 split
 ·rename_i hu;rw[if_pos hu]at h;exact absurd h hu
 rename_i hu
 rw[if_neg hu]at h
 have hf:JV p=false:=by
  cases hf:JV p with
  | false=>rfl
  | true=>rw[hf]at h;simp at h
 have:JV (mv b st a its p)=false:=by
  unfold JV at hf ⊢
  rw[show(mv b st a its p).fields=p.fields from rfl,show(mv b st a its p).stanzas=st from rfl]
  split
  ·have:st≠400:=by omega
   simpa using this
  rename_i hz
  rw[if_neg hz]at hf
  exact hf
 rw[this];rfl
theorem jir(b st a:Nat)(its:List It)(p:PS)(no c:Nat)(x:Ln):vj (mv b st a its p) (ml no c x)=mv b st a its (vj p x):=by
 unfold vj
 rw[show yW (mv b st a its p) (ml no c x)=yW p x from rfl,jd0,Jg]
 split<;>rfl
theorem jj0(t t':List UInt8)(b st a:Nat)(its:List It)(p:PS)(no c:Nat)(x:Ln)(hk:jJ x.text≠1):∃b',Qk t' (mv b st a its p) (ml no c x)=mv b' st a its (Qk t p x):=by
 unfold Qk
 rw[show(ml no c x).text=x.text from rfl,if_neg hk,if_neg hk]
 split
 ·exact⟨no,rfl⟩
 exact⟨b,rfl⟩
theorem jis{t t':List UInt8}{b st a:Nat}{its:List It}{p q:PS}{no c:Nat}{x:Ln}(hst:st<=399)(hk:jJ x.text≠1)(h:zJ t p x=.ok q):∃b',zJ t' (mv b st a its p) (ml no c x)=.ok (mv b' st a its q):=by
 obtain⟨h1,h2,rfl⟩:=xH h
 obtain⟨b',hb⟩:=jj0 t t' b st a its (vj p x) no c x hk
 refine⟨b',?_⟩
 have hT:=Jb (t:=t') (p:=mv b st a its p) (x:=ml no c x) (by rw[show yW (mv b st a its p) (ml no c x)=yW p x from rfl,jd0];exact fun he=>xg _ _ _ _ _ hst (h1 he)) h2
 rw[hT,jir,hb]
def jl5(ts said:List (List UInt8))(fields:List Fld):Prop :=
 ∀(t:List UInt8) (b st a no c:Nat) (its:List It),st<=399->∃b',vK t ⟨b,[],its,st,a,[]⟩ (num no c ts)=.ok ⟨b',said,its,st,a,fields⟩
structure Blk(it:It):Prop where
 kind:it.kind=if it.fields=[] then 2 else 3
 pos:it.raw≠[]
 does:∃ts said fields,it.raw=jl ts/\(∀l∈ts,(10:UInt8)∉l)/\jl5 ts said fields/\ji ⟨0,said,[],0,0,fields⟩=0/\(jb ⟨0,said,[],0,0,fields⟩).fields=it.fields
theorem Blk.kind1{it:It}(h:Blk it):it.kind≠1:=by
 rw[h.kind];split<;>decide
def ZF:Bool->List It->List It
 | _,[]=>[]
 | b,x::r=>(if b=true/\x.kind≠1 then [⟨1,[10],[]⟩] else [])++x::ZF (x.kind != 1) r
def yu(its:List It):List It:=ZF false its
theorem vV:∀(ts:List (List UInt8)) (no c:Nat) (l:List UInt8),(∀x∈ts,(10:UInt8)∉x)->za no c (jl ts++l)=num no c ts++za (no+ts.length) (c+(jl ts).length) l
 | [],no,c,l,_=>rfl
 | x::r,no,c,l,h=>by
  have e:jl (x::r)++l=x++10::(jl r++l):=by unfold jl;simp
  have e3:(jl (x::r)).length=x.length+1+(jl r).length:=by unfold jl;simp;omega
  obtain⟨h1,h2⟩:=Gy x (jl r++l) (h x jml)
  have hu:qI (x++10::(jl r++l))=x.length+1:=by unfold qI;rw[h1,h2];rfl
  rw[e,jA _ _ _ (by simp),h1,h2,hu]
  have hd:(x++10::(jl r++l)).drop (x.length+1)=jl r++l:=by
   rw[show x++10::(jl r++l)=(x++[10])++(jl r++l) by simp]
   exact jnx (by simp)
  rw[hd,vV r _ _ l (fun y hy=>h y (jmj _ hy)),e3,jme]
  rw[show no+1+r.length=no+(r.length+1) by omega,show c+(x.length+1)+(jl r).length=c+(x.length+1+(jl r).length) by omega]
  rfl
def jki(t:List UInt8)(r:Res PS):Res (List It):=match r with | .error e=>.error e | .ok q=>Wv t q
theorem jdQ(t:List UInt8):jI t=jki t (vK t PS.new (je t)):=rfl
theorem Zy(t:List UInt8)(p q:PS)(a b:List Ln)(h:vK t p a=.ok q):jki t (vK t p (a++b))=jki t (vK t q b):=by
 rw[qM,h]
theorem Blk.ends{it:It}{said:List (List UInt8)}{fields:List Fld}(hk:it.kind=if it.fields=[] then 2 else 3)(h0:ji ⟨0,said,[],0,0,fields⟩=0)(hf:(jb ⟨0,said,[],0,0,fields⟩).fields=it.fields)
  (t:List UInt8) (b st a e:Nat) (its:List It) (hst:st<=399) (hr:(t.take e).drop a=it.raw) (hae:a<e) :
  ji ⟨b,said,its,st,a,fields⟩=0/\(js t (jb ⟨b,said,its,st,a,fields⟩) e).items=its++[it]/\(js t (jb ⟨b,said,its,st,a,fields⟩) e).stanzas<=st+1/\(js t (jb ⟨b,said,its,st,a,fields⟩) e).said=[]/\(js t (jb ⟨b,said,its,st,a,fields⟩) e).fields=[]/\(js t (jb ⟨b,said,its,st,a,fields⟩) e).at_=e:=by
 have e0:=xg b st a its ⟨0,said,[],0,0,fields⟩ hst h0
 have e1:=Jg b st a its ⟨0,said,[],0,0,fields⟩
 refine⟨e0,?_⟩
 rw[show(⟨b,said,its,st,a,fields⟩:PS)=mv b st a its ⟨0,said,[],0,0,fields⟩ from rfl,e1]
 have es:=Kl ⟨0,said,[],0,0,fields⟩
 generalize jb ⟨0,said,[],0,0,fields⟩=p at *
 unfold js
 rw[show(mv b st a its p).at_=a from rfl,show(mv b st a its p).fields=p.fields from rfl,hf,if_neg (by omega)]
 split
 ·rename_i hz
  rw[if_pos (List.length_eq_zero_iff.1 hz)]at hk
  refine⟨?_,by show st<=st+1;omega,es,rfl,rfl⟩
  show its++[⟨(2:Nat),(t.take e).drop a,p.fields⟩]=_
  rw[hr,hf]
  obtain⟨k,r,f⟩:=it
  simp only at hk ⊢
  rw[hk];rfl
 rename_i hz
 rw[if_neg (fun h=>hz (by rw[h];rfl))]at hk
 refine⟨?_,by show st+1<=st+1;omega,es,rfl,rfl⟩
 show its++[⟨(3:Nat),(t.take e).drop a,p.fields⟩]=_
 rw[hr,hf]
 obtain⟨k,r,f⟩:=it
 simp only at hk ⊢
 rw[hk];rfl
theorem ja9(t:List UInt8):∀(bs:List It) (x:It) (b st no c:Nat) (its:List It),st+(x::bs).length<=400->(∀it∈x::bs,Blk it)->t.drop c=(yu (x::bs)).flatMap It.raw->c<=t.length ->
  jki t (vK t ⟨b,[],its,st,c,[]⟩ (za no c (t.drop c)))=.ok (its++yu (x::bs))
 | [],x,b,st,no,c,its,hst,hb,ht,hct=>by
  have bx:=hb x jml
  have hp:=bx.pos
  have hk:=bx.kind
  obtain⟨ts,said,fields,d1,d2,d3,d4,d5⟩:=bx.does
  have ht':t.drop c=x.raw:=by rw[ht];simp[yu,ZF]
  have hlen:c+x.raw.length=t.length:=by have:=congrArg List.length ht';simp at this;omega
  have hpos:0<x.raw.length:=List.length_pos_iff.2 hp
  obtain⟨b',hr⟩:=d3 t b st c no c its (by simp at hst;omega)
  rw[ht',d1,<- jmT (jl ts),vV ts no c [] d2,Zy _ _ _ _ _ hr,jr]
  obtain⟨k1,k2,_⟩:=Blk.ends hk d4 d5 t b' st c t.length its (by simp at hst;omega) (by rw[jmJ,ht']) (by omega)
  show Wv t _=_
  unfold Wv
  rw[k1,if_neg (by simp),k2]
  simp[yu,ZF]
 | y::bs,x,b,st,no,c,its,hst,hb,ht,hct=>by
  have bx:=hb x jml
  have by_:=hb y (jmj _ jml)
  have hp:=bx.pos
  have hk:=bx.kind
  obtain⟨ts,said,fields,d1,d2,d3,d4,d5⟩:=bx.does
  have hpos:0<x.raw.length:=List.length_pos_iff.2 hp
  have hap:yu (x::y::bs)=x::⟨1,[10],[]⟩::yu (y::bs):=by
   have hx1:(x.kind != 1)=true:=by have:=bx.kind1;simpa using this
   show([]:List It)++x::((if (x.kind != 1)=true/\y.kind≠1 then [(⟨1,[10],[]⟩:It)] else [])++y::ZF (y.kind != 1) bs)=_
   rw[if_pos ⟨hx1,by_.kind1⟩]
   simp[yu,ZF]
  rw[hap]at ht ⊢
  have ht':t.drop c=x.raw++(10::(yu (y::bs)).flatMap It.raw):=by rw[ht];simp
  generalize hR:(yu (y::bs)).flatMap It.raw=R at *
  have hlen:c+x.raw.length+1+R.length=t.length:=by have:=congrArg List.length ht';simp at this;omega
  simp only[jme]at hst
  obtain⟨b',hr⟩:=d3 t b st c no c its (by omega)
  have hde:t.drop (c+x.raw.length+1)=R:=by
   rw[jnM,<- jnD,ht',show x.raw++10::R=(x.raw++[10])++R by simp]
   exact jnx (by simp)
  have htk:(t.take (c+x.raw.length)).drop c=x.raw:=by
   rw[List.take_add,ht',List.drop_append_of_le_length (by rw[jmi];omega),jm1 (by rw[jmi];omega)];simp
  have htb:(t.take (c+x.raw.length+1)).drop (c+x.raw.length)=[10]:=by
   rw[List.take_add,List.drop_append_of_le_length (by rw[jmi];omega),jm1 (by rw[jmi];omega),<- jnD,ht']
   simp
  have e10:(10::R)=jl [[]]++R:=rfl
  rw[ht',e10]
  conv=>lhs;rw[d1]
  rw[vV ts no c _ d2,Zy _ _ _ _ _ hr,vV [[]] _ _ _ (by intro z hz;rw[List.mem_singleton.1 hz];simp),<- d1]
  have k1:jJ []=1:=by decide
  obtain⟨z1,z2,z3,z4,z5,z6⟩:=Blk.ends hk d4 d5 t b' st c (c+x.raw.length) its (by omega) htk (by omega)
  have tk:=KT (t:=t) (p:=⟨b',said,its,st,c,fields⟩) (no:=no+ts.length) (c:=c+x.raw.length) (l:=[]) (by rw[k1];decide) (by rw[k1];decide) z1
  have hput:Qk t (jb ⟨b',said,its,st,c,fields⟩) ⟨no+ts.length,c+x.raw.length,[],true⟩=zi t (js t (jb ⟨b',said,its,st,c,fields⟩) (c+x.raw.length)) 1 (c+x.raw.length+1):=by
   unfold Qk
   rw[if_neg (by show ¬jJ []=4;rw[k1];decide),if_pos k1];rfl
  rw[hput]at tk
  generalize js t (jb ⟨b',said,its,st,c,fields⟩) (c+x.raw.length)=p at *
  have hp2:zi t p 1 (c+x.raw.length+1)=⟨p.begin_,[],its++[x]++[⟨1,[10],[]⟩],p.stanzas,c+x.raw.length+1,[]⟩:=by
   unfold zi
   rw[z2,z4,z5,z6,htb];rfl
  rw[hp2]at tk
  have hrun:vK t ⟨b',said,its,st,c,fields⟩ (num (no+ts.length) (c+x.raw.length) [[]])=.ok ⟨p.begin_,[],its++[x]++[⟨1,[10],[]⟩],p.stanzas,c+x.raw.length+1,[]⟩:=by
   show vK t _ (⟨no+ts.length,c+x.raw.length,[],true⟩::[])=_
   rw[Qr tk];rfl
  rw[Zy _ _ _ _ _ hrun]
  have ih:=ja9 t bs y p.begin_ p.stanzas (no+ts.length+1) (c+x.raw.length+1) (its++[x]++[⟨1,[10],[]⟩]) (by simp only[jme];omega) (fun it hi=>hb it (jmj _ hi)) (by rw[hde,hR]) (by omega)
  rw[hde]at ih
  show jki t (vK t _ (za (no+ts.length+1) (c+x.raw.length+1) R))=_
  rw[ih];simp
theorem XY(bs:List It)(hn:bs.length<=400)(hb:∀it∈bs,Blk it):jI ((yu bs).flatMap It.raw)=.ok (yu bs):=by
 cases bs with
 | nil=>rfl
 | cons x bs =>
 rw[jdQ]
 have:=ja9 ((yu (x::bs)).flatMap It.raw) bs x 0 0 0 0 [] (by rw[jmP];exact hn) hb rfl (jmo _)
 exact this
theorem jcU(fs:List Fld)(hg:∀f∈fs,jT f.1=true/\f.2.length<=1000)(h0:fs≠[])(hl:fs.length<=40):Blk ⟨3,jl (jz fs),fs⟩:=by
 have hclean:∀l∈jz fs,(10:UInt8)∉l:=by
  intro l hl
  unfold jz at hl
  obtain⟨f,hf1,hf2⟩:=List.mem_flatMap.1 hl
  exact ZW _ (hg f hf1).1 l hf2
 have hne:jl (jz fs)≠[]:=by
  cases fs with
  | nil=>exact absurd rfl h0
  | cons f r =>
  obtain⟨x,r',e,_⟩:=Jh (v:=f.2) (hg f jml).1
  unfold jz
  rw[jmt,e]
  unfold jl;simp
 obtain⟨q,q1,q2,q3,q4,q5,q6⟩:=YR [] fs PS.new 0 0 rfl hg (by show 0+fs.length<=40;omega) (by decide)
 have hany:∀(t:List UInt8) (b st a no c:Nat) (its:List It),st<=399->∃b',vK t ⟨b,[],its,st,a,[]⟩ (num no c (jz fs))=.ok ⟨b',q.said,its,st,a,q.fields⟩:=by
  have key:∀(ts:List (List UInt8)) (p q:PS) (n0 c0:Nat),(∀l∈ts,jJ l≠1)->vK [] p (num n0 c0 ts)=.ok q->∀(t:List UInt8) (b st a no c:Nat) (its:List It),st<=399->∃b',vK t (mv b st a its p) (num no c ts)=.ok (mv b' st a its q):=by
   intro ts
   induction ts with
   | nil=>intro p q n0 c0 _ h t b st a no c its _;cases h;exact⟨b,rfl⟩
   | cons l r ih =>
   intro p q n0 c0 hk h t b st a no c its hst
   have h':(match zJ [] p ⟨n0,c0,l,true⟩ with | .error e=>Except.error e | .ok q'=>vK [] q' (num (n0+1) (c0+l.length+1) r))=.ok q:=h
   cases ht:zJ [] p ⟨n0,c0,l,true⟩ with
   | error e=>rw[ht]at h';cases h'
   | ok p1 =>
   rw[ht]at h'
   obtain⟨b1,hb1⟩:=jis (t':=t) (b:=b) (st:=st) (a:=a) (its:=its) (no:=no) (c:=c) hst (by exact hk l jml) ht
   obtain⟨b2,hb2⟩:=ih p1 q _ _ (fun y hy=>hk y (jmj _ hy)) h' t b1 st a (no+1) (c+l.length+1) its hst
   refine⟨b2,?_⟩
   show vK t _ (⟨no,c,l,true⟩::num (no+1) (c+l.length+1) r)=_
   rw[Qr (by exact hb1)]
   exact hb2
  have hkinds:∀l∈jz fs,jJ l≠1:=by
   intro l hl
   unfold jz at hl
   obtain⟨f,hf1,hf2⟩:=List.mem_flatMap.1 hl
   obtain⟨x,r,e,kx,kr⟩:=Jh (v:=f.2) (hg f hf1).1
   rw[e]at hf2
   rcases List.mem_cons.1 hf2 with rfl|h
   ·rw[kx];decide
   rw[kr l h];decide
  intro t b st a no c its hst
  exact key (jz fs) PS.new q 0 0 hkinds q1 t b st a no c its hst
 refine⟨by rw[if_neg h0],hne,jz fs,q.said,q.fields,rfl,hclean,hany,xg 0 0 0 [] q (by decide) q2,?_⟩
 have:=Jg 0 0 0 [] q
 rw[show(⟨0,q.said,[],0,0,q.fields⟩:PS)=mv 0 0 0 [] q from rfl,this]
 show(jb q).fields=fs
 rw[q3];rfl
end Go.Proofs.YtpibhbjmcmfnmaaGreatDoor
namespace Go.Proofs.YtpibhbjmcmfnmaaGreatDoor
open Go.RowKit
def Yo(w:World)(v:Value)(fs:List (List UInt8×List UInt8)):Prop :=
 ∃A cap,v=.slice A fs.length cap/\fs.length<=cap/\∀(i:Nat) (f:List UInt8×List UInt8),fs[i]?=some f->∃b off,A=some ⟨b,off,none⟩/\b<w.heap.size/\w.cell? ⟨b,off+i*2,none⟩=some (.string (B f.1))/\w.cell? ⟨b,off+i*2+1,none⟩=some (.string (B f.2))
theorem Yo.below{w w':World}{v:Value}{fs:List (List UInt8×List UInt8)}{n:Nat}(h:Yo w v fs)(hb:Below n w w')(hn:w.heap.size<=n):Yo w' v fs:=by
 obtain⟨A,cap,hv,hle,hc⟩:=h
 refine⟨A,cap,hv,hle,fun i s hs => ?_⟩
 obtain⟨b,off,hA,hlt,c0,c1⟩:=hc i s hs
 exact⟨b,off,hA,jmp hlt hb.size,(hb.cell (p:=⟨b,off+i*2,none⟩) (jmp hlt hn)).trans c0,(hb.cell (p:=⟨b,off+i*2+1,none⟩) (jmp hlt hn)).trans c1⟩
def jG(fs:List (List UInt8×List UInt8)):List Value:=fs.flatMap fun f=>[.string (B f.1),.string (B f.2)]
theorem xN:∀fs,(jG fs).length=fs.length*2
 | []=>rfl
 | f::r=>by
  have:=xN r
  show(Value.string (B f.1)::Value.string (B f.2)::jG r).length=_
  simp only[jme,this];omega
theorem Yf:∀(fs:List (List UInt8×List UInt8)) (i:Nat) (f:List UInt8×List UInt8),fs[i]?=some f->(jG fs)[i*2]?=some (.string (B f.1))/\(jG fs)[i*2+1]?=some (.string (B f.2))
 | [],i,f,h=>by simp at h
 | a::r,0,f,h=>by simp at h;subst h;exact⟨rfl,rfl⟩
 | a::r,i+1,f,h=>by
  have ih:=Yf r i f (by simpa using h)
  have e:jG (a::r)=Value.string (B a.1)::Value.string (B a.2)::jG r:=rfl
  rw[e,show(i+1)*2=i*2+1+1 by omega]
  simpa using ih
theorem Gw:(Tryz.prog.info? 155).map (fun i=>(i.zero,i.size,i.bytes))=some (some (.agg #[.string ⟨#[]⟩,.string ⟨#[]⟩]),2,32):=by kernel_rfl
theorem Vt{w:World}{base:Nat}{v:Value}{fs:List (List UInt8×List UInt8)}(h:w.ownsRow base 155 2 v fs.length (jG fs)):Yo w v fs:=by
 rcases jnm h with ⟨rfl,hn⟩|⟨g,cap,rfl⟩
 ·have:fs=[]:=by cases fs with | nil=>rfl | cons _ _=>simp at hn
  subst this
  exact⟨none,0,rfl,jma _,fun i f h=>by simp at h⟩
 refine⟨_,cap,rfl,(by rcases h.2 with ⟨q,_⟩ | ⟨g',cap',cur,q,_,_,q2,_⟩;cases q;cases q;exact q2),fun i f hf=>⟨g,0,rfl,(jnE h g rfl).2,?_⟩⟩
 have hi:i<fs.length:=by
  rcases jmF i fs.length with q|q
  ·exact q
  rw[jmZ q]at hf;cases hf
 obtain⟨a,b⟩:=Yf fs i f hf
 rw[jmP,jmG h (i*2) (by omega),jmG h (i*2+1) (by omega)]
 exact⟨a,b⟩
structure PV where
 v1:Value
 v3:Value
 v6:Value
 fvs:List Value
def vT(p:PS)(text:ByteArray)(v1 v3 v6:Value):Array Value:=#[.int .i64 p.begin_,v1,.string text,v3,.int .i64 p.stanzas,.int .i64 p.at_,v6]
def xk(it:It)(v:Value):List Value:=[.int .i64 it.kind,.string (B it.raw),v]
def zh:List It->List Value->List Value
 | it::l,v::vs=>xk it v++zh l vs
 | _,_=>[]
theorem xj:∀(l:List It) (vs:List Value) (it:It) (v:Value),vs.length=l.length->zh (l++[it]) (vs++[v])=zh l vs++xk it v
 | [],[],it,v,_=>by simp[zh]
 | [],_::_,_,_,h=>by simp at h
 | a::l,[],it,v,h=>by simp at h
 | a::l,u::vs,it,v,h=>by
  have:=xj l vs it v (by simpa using h)
  simp only[jmu,zh,this,jmA]
theorem yF:∀(l:List It) (vs:List Value) (i:Nat) (it:It) (v:Value),l[i]?=some it->vs[i]?=some v->(zh l vs)[i*3]?=some (.int .i64 it.kind)/\(zh l vs)[i*3+1]?=some (.string (B it.raw))/\(zh l vs)[i*3+1+1]?=some v
 | [],_,i,it,v,h,_=>by simp at h
 | a::l,[],i,it,v,_,h=>by simp at h
 | a::l,u::vs,0,it,v,h,h'=>by simp at h h';subst h h';exact⟨rfl,rfl,rfl⟩
 | a::l,u::vs,i+1,it,v,h,h'=>by
  obtain⟨x,y,z⟩:=yF l vs i it v (by simpa using h) (by simpa using h')
  have e:zh (a::l) (u::vs)=.int .i64 a.kind :: .string (B a.raw)::u::zh l vs:=rfl
  have k:(i+1)*3=i*3+1+1+1:=by omega
  have k1:i*3+1+1+1+1=(i*3+1)+1+1+1:=by omega
  have k2:i*3+1+1+1+1+1=(i*3+1+1)+1+1+1:=by omega
  rw[e,k]
  refine⟨?_,?_,?_⟩
  ·rw[jmg,jmg,jmg];exact x
  ·rw[k1,jmg,jmg,jmg];exact y
  rw[k2,jmg,jmg,jmg];exact z
theorem jad(l:List Fld)(f:Fld):jG (l++[f])=jG l++[.string (B f.1),.string (B f.2)]:=by unfold jG;simp
def qB(l:List (List UInt8)):List Value:=l.map fun x=>.string (B x)
structure jB(w:World)(T:Nat->Nat)(R b:Nat)(text:ByteArray)(p:PS)(V:PV):Prop where
 cells:ja w b 168 (vT p text V.v1 V.v3 V.v6)
 tp:T b=1
 r1:w.ownsRow 0 9 1 V.v1 p.said.length (qB p.said)
 t1:jD T V.v1.ownBlock 2
 r3:w.ownsRow 0 236 3 V.v3 p.items.length (zh p.items V.fvs)
 t3:jD T V.v3.ownBlock 3
 r6:w.ownsRow 0 155 2 V.v6 p.fields.length (jG p.fields)
 t6:jD T V.v6.ownBlock 4
 nf:V.fvs.length=p.items.length
 rf:∀(i:Nat) (it:It) (v:Value),p.items[i]?=some it->V.fvs[i]?=some v->w.ownsRow 0 155 2 v it.fields.length (jG it.fields)/\jD T v.ownBlock 5
 low:∀k,T k≠0->R<=k/\k<w.heap.size
def jC(w:World)(T:Nat->Nat)(R b:Nat)(text:ByteArray)(p:PS):Prop:=∃V,jB w T R b text p V
structure zE(w:World)(T:Nat->Nat)(w':World)(T':Nat->Nat):Prop where
 only:jt (fun r=>T r≠0) w w'
 old:∀r,r<w.heap.size->(T' r=0↔T r=0)
theorem zE.refl(w:World)(T:Nat->Nat):zE w T w T:=⟨jt.refl _ _,fun _ _=>Iff.rfl⟩
theorem zE.trans{w w1 w2:World}{T T1 T2:Nat->Nat}(h:zE w T w1 T1)(g:zE w1 T1 w2 T2):zE w T w2 T2 :=
 ⟨h.only.trans g.only (fun r hr hn=>fun e=>hn ((h.old r hr).2 e)),fun r hr=>(g.old r (jmp hr h.only.size)).trans (h.old r hr)⟩
theorem zE.below{w w':World}{T:Nat->Nat}(h:Below w.heap.size w w'):zE w T w' T:=⟨jt.of_below h (jma _),fun _ _=>Iff.rfl⟩
theorem zE.drewN{w w':World}{T T':Nat->Nat}(h:zE w T w' T')(n:Nat):zE w T (w'.drewN n) T':=⟨h.only.drewN n,h.old⟩
theorem jB.same{w w':World}{T:Nat->Nat}{R b:Nat}{text:ByteArray}{p:PS}{V:PV}(h:jB w T R b text p V)(hs:∀k,T k≠0->w'.heap[k]?=w.heap[k]?)(hz:w.heap.size<=w'.heap.size):jB w' T R b text p V:=by
 have s:∀{o:Option Nat} {t:Nat},jD T o t->t≠0->∀k,o=some k->w'.heap[k]?=w.heap[k]?:=fun ht hne k hk=>hs k (by rw[ht k hk];exact hne)
 exact⟨(hs b (by rw[h.tp];decide)).trans h.cells,h.tp,jm h.r1 (s h.t1 (by decide)),h.t1,jm h.r3 (s h.t3 (by decide)),h.t3,jm h.r6 (s h.t6 (by decide)),h.t6,h.nf,
  fun i it v h1 h2=>⟨jm (h.rf i it v h1 h2).1 (s (h.rf i it v h1 h2).2 (by decide)),(h.rf i it v h1 h2).2⟩,fun k hk=>⟨(h.low k hk).1,jmp (h.low k hk).2 hz⟩⟩
theorem jB.below{w w':World}{T:Nat->Nat}{R b:Nat}{text:ByteArray}{p:PS}{V:PV}(h:jB w T R b text p V)(hb:Below w.heap.size w w'):jB w' T R b text p V :=
 h.same (fun k hk=>hb.block k (h.low k hk).2) hb.size
theorem jC.below{w w':World}{T:Nat->Nat}{R b:Nat}{text:ByteArray}{p:PS}(h:jC w T R b text p)(hb:Below w.heap.size w w'):jC w' T R b text p:=by
 obtain⟨V,h⟩:=h;exact⟨V,h.below hb⟩
theorem jB.lt{w:World}{T:Nat->Nat}{R b:Nat}{text:ByteArray}{p:PS}{V:PV}(h:jB w T R b text p V):b<w.heap.size:=h.cells.lt
theorem jB.new(w:World)(text:ByteArray)(R:Nat)(hR:R<=w.heap.size):jB (w.alloc (.cells #[.int .i64 0,.slice none 0 0,.string text,.slice none 0 0,.int .i64 0,.int .i64 0,.slice none 0 0] 168)) (fun k=>if k=w.heap.size then 1 else 0) R w.heap.size text PS.new ⟨.slice none 0 0,.slice none 0 0,.slice none 0 0,[]⟩:=by
 have tn:∀t,jD (fun k=>if k=w.heap.size then 1 else 0) (Value.slice none 0 0).ownBlock t:=fun t k h=>by cases h
 have rn:∀e size,(w.alloc (.cells #[.int .i64 0,.slice none 0 0,.string text,.slice none 0 0,.int .i64 0,.int .i64 0,.slice none 0 0] 168)).ownsRow 0 e size (.slice none 0 0) 0 []:=fun e size=>⟨by simp,.inl ⟨rfl,rfl⟩⟩
 refine⟨ja.new _ _ _,if_pos rfl,rn _ _,tn 2,rn _ _,tn 3,rn _ _,tn 4,rfl,(fun i it v h _=>by cases h),fun k hk => ?_⟩
 have:k=w.heap.size:=by
  rcases Nat.decEq k w.heap.size with h|h
  ·rw[if_neg h]at hk;exact absurd rfl hk
  exact h
 subst this
 exact⟨hR,by simp⟩
theorem jf{w:World}{base:Nat}{e:TypeId}{size:Nat}{v:Value}{n:Nat}{xs:List Value}(h:w.ownsRow base e size v n xs):∃a cap,v=.slice a n cap/\n<=cap:=by
 rcases h.2 with ⟨rfl,rfl⟩|⟨g,cap,cur,rfl,_,_,hle,_⟩
 ·exact⟨none,0,rfl,jma _⟩
 exact⟨_,cap,rfl,hle⟩
theorem yh{w:World}{T:Nat->Nat}{R b:Nat}{text:ByteArray}{p:PS}{V:PV}(h:jB w T R b text p V):
  Calls Tryz.prog 142 #[.pointer (some ⟨b,0,none⟩)] w fun e w'=>e=.returned (.bool (!p.said.isEmpty))/\w=w':=by
 obtain⟨a,cap,e1,hc⟩:=jf h.r1
 have c1:w.cell? ⟨b,1,none⟩=some (.slice a p.said.length cap):=by rw[<- e1];exact h.cells.cell 1
 have hb:(!p.said.isEmpty)=decide (0<p.said.length):=by cases p.said<;>simp
 rw[hb]
 clear h
 go_enter Tryz.func142,Tryz.ntmps142
 go_wp2
 go_ret
 exact⟨rfl,rfl⟩
theorem jgM{w:World}{T:Nat->Nat}{R b:Nat}{text:ByteArray}{p:PS}{V:PV}(h:jB w T R b text p V):
  Calls Tryz.prog 147 #[.pointer (some ⟨b,0,none⟩)] w fun e w'=>e=.returned (.bool (JV p))/\w=w':=by
 obtain⟨a,cap,e1,hc⟩:=jf h.r6
 have c1:w.cell? ⟨b,6,none⟩=some (.slice a p.fields.length cap):=by rw[<- e1];exact h.cells.cell 6
 have c2:w.cell? ⟨b,4,none⟩=some (.int .i64 p.stanzas):=h.cells.cell 4
 have hl:=h.lt
 unfold JV
 clear h
 by_cases h0:p.fields.length=0
 ·rw[if_pos h0]
  rw[h0]at c1
  have e2:(p.stanzas==400)=((p.stanzas:Int)==400):=by rw[jm8];simp;omega
  rw[e2]
  go_enter Tryz.func147,Tryz.ntmps147
  go_wp2
  go_ret
  exact⟨rfl,rfl⟩
 rw[if_neg h0]
 have e2:(p.fields.length==40)=((p.fields.length:Int)==40):=by rw[jm8];simp;omega
 have e3:((p.fields.length:Int)==0)=false:=beq_eq_false_iff_ne.2 (by omega)
 rw[e2]
 go_enter Tryz.func147,Tryz.ntmps147
 go_wp2
 go_ret
 exact⟨rfl,rfl⟩
end Go.Proofs.YtpibhbjmcmfnmaaGreatDoor
