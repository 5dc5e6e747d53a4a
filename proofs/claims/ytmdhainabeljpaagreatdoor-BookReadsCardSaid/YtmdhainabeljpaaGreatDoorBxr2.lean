/- Texts put together:PA,PO,PQ,PR,MB,DB,SA,DC,FS. -/
import Derived.Test.YtmdhainabeljpaaGreatDoorChecked
import Derived.WalkKit
import Derived.ProofKit
import Derived.OpenShut
import Derived.Below
import Derived.Lib.Hide
import Derived.Deep.QuietTactic
import Derived.BigQuiet
import Derived.Test.YtmdhainabeljpaaGreatDoorBxr1
set_option linter.unusedVariables false
set_option maxRecDepth 100000
set_option maxHeartbeats 16000000
namespace Go.Proofs.YtmdhainabeljpaaGreatDoor
abbrev jh8:=@Go.RowKit.Below.refl
abbrev jih:=@Nat.lt_of_lt_of_le
abbrev jiv:=@Nat.le_trans
abbrev jiy:=@List.take_append_drop
abbrev jiB:=@List.drop_eq_getElem_cons
abbrev jiD:=@List.getElem?_append_right
abbrev jiF:=@List.take_length
abbrev jiH:=@Nat.zero_add
abbrev ji6:=@List.drop_length
abbrev ji9:=@List.takeWhile_sublist
abbrev jjf:=@ByteArray.ext
abbrev jji:=@List.drop_drop
abbrev jjj:=@List.drop_left
abbrev jjo:=@List.all_append
abbrev jjs:=@List.drop_left'
abbrev jjL:=@Nat.add_assoc
abbrev jjN:=@List.mem_of_mem_drop
abbrev jjT:=@List.append_of_mem
abbrev jkf:=@List.take_left
abbrev jkm:=@List.flatMap_nil
end Go.Proofs.YtmdhainabeljpaaGreatDoor
namespace Go.Proofs.YtmdhainabeljpaaGreatDoor
abbrev Fld:=List UInt8×List UInt8
structure It where
 kind:Int
 raw:List UInt8
 fields:List Fld
deriving DecidableEq
structure PS where
 begin_:Nat
 said:List (List UInt8)
 items:List It
 stanzas:Nat
 at_:Nat
 fields:List Fld
deriving DecidableEq
def PS.new:PS:=⟨0,[],[],0,0,[]⟩
abbrev Res(α:Type):=Except (Nat×Nat) α
def vr(p:PS):Bool:=if p.fields.length=0 then p.stanzas==400 else p.fields.length==40
def jh(p:PS):Nat:=if p.said=[] then 0 else if jo p.said≠0 then jo p.said else if vr p then 11 else 0
def ja(p:PS):PS:=if p.said=[] then p else {p with fields:=p.fields++[(jF p.said,jE p.said)],said:=[]}
def jX(text:List UInt8)(p:PS)(kind end_:Nat):PS:={p with items:=p.items++[⟨kind,(text.take end_).drop p.at_,p.fields⟩],at_:=end_,fields:=[]}
def jm(text:List UInt8)(p:PS)(end_:Nat):PS :=
 if p.at_=end_ then p else if p.fields.length=0 then jX text p 2 end_ else {jX text p 3 end_ with stanzas:=p.stanzas+1}
def zU(p:PS)(x:Ln):Bool:=jk x.text==3 && !(p.said.isEmpty)
def zb(p:PS)(x:Ln):PS:=if zU p x then {p with said:=p.said++[x.text]} else p
def jD(p:PS)(x:Ln):Bool:=jk x.text==5 || (jk x.text==3 && !zU p x) || !x.ended
def zS(p:PS)(x:Ln):Bool:=jD p x || !zU p x
def yT(text:List UInt8)(p:PS)(x:Ln):PS :=
 if jk x.text=4 then {p with begin_:=x.no,said:=[x.text]}
 else if jk x.text=1 then jX text (jm text p x.at_) 1 (x.at_+x.text.length+1)
 else p
def zK(p:PS)(x:Ln):PS:=if zS p x then ja (zb p x) else zb p x
def jL(text:List UInt8)(p:PS)(x:Ln):Res PS :=
 if zS p x=true/\jh (zb p x)≠0 then .error ((zb p x).begin_,jh (zb p x))
 else if jD p x then .error (x.no,2)
 else .ok (yT text (zK p x) x)
def qF(text:List UInt8):PS->List Ln->Res PS
 | p,[]=>.ok p
 | p,x::xs=>match jL text p x with
  | .error e=>.error e
  | .ok q=>qF text q xs
def JK(text:List UInt8)(p:PS):Res (List It) :=
 if jh p≠0 then .error (p.begin_,jh p) else .ok (jm text (ja p) text.length).items
def za(text:List UInt8):Res (List It) :=
 match qF text PS.new (jf text) with
 | .error e=>.error e
 | .ok p=>JK text p
theorem qR(text:List UInt8):∀(p:PS) (a b:List Ln),qF text p (a++b)=match qF text p a with | .error e=>.error e | .ok q=>qF text q b
 | p,[],b=>rfl
 | p,x::a,b=>by
  show(match jL text p x with | .error e=>_ | .ok q=>qF text q (a++b))=match (match jL text p x with | .error e=>_ | .ok q=>qF text q a) with | .error e=>_ | .ok q=>_
  cases jL text p x with
  | error e=>rfl
  | ok q=>exact qR text q a b
theorem Zf(ls:List (List UInt8)):jo ls<=6:=by
 unfold jo
 split
 ·split<;>decide
 decide
theorem ZZ(p:PS):jh p<=11:=by
 unfold jh
 have:=Zf p.said
 split
 ·decide
 split
 ·omega
 split<;>decide
structure Inv(p:PS)(c:Nat):Prop where
 at_:p.at_<=c
 items:p.items.length<=p.at_
 stanzas:p.stanzas<=p.at_
 begin_:p.begin_<=c
 fields:p.fields.length<=c
 said:(p.said.map List.length).sum+p.said.length<=c
 both:p.fields.length+p.said.length<=c
theorem Inv.new:Inv PS.new 0:=⟨jh6 _,jh6 _,jh6 _,jh6 _,jh6 _,jh6 _,jh6 _⟩
theorem Inv.mono{p:PS}{c d:Nat}(h:Inv p c)(hd:c<=d):Inv p d :=
 ⟨jiv h.at_ hd,h.items,h.stanzas,jiv h.begin_ hd,jiv h.fields hd,jiv h.said hd,jiv h.both hd⟩
theorem Inv.endField{p:PS}{c:Nat}(h:Inv p c):Inv (ja p) c:=by
 unfold ja
 split
 ·exact h
 rename_i hs
 have hb:=h.both
 have:1<=p.said.length:=by cases hp:p.said with | nil=>exact absurd hp hs | cons a l=>simp
 exact⟨h.at_,h.items,h.stanzas,h.begin_,by simp;omega,by simp,by simp;omega⟩
theorem Inv.endItem{p:PS}{c:Nat}(text:List UInt8)(kind e:Nat)(h:Inv p c)(h1:p.at_<e)(h2:e<=c):Inv (jX text p kind e) c:=by
 have a:=h.items;have b:=h.stanzas
 refine⟨h2,?_,?_,h.begin_,by simp[jX],h.said,?_⟩
 ·simp[jX];omega
 ·simp[jX];omega
 have:=h.both;simp[jX];omega
theorem Inv.endBlock{p:PS}{c:Nat}(text:List UInt8)(e:Nat)(h:Inv p c)(h1:p.at_<=e)(h2:e<=c):Inv (jm text p e) c:=by
 unfold jm
 split
 ·exact h
 split
 ·exact h.endItem text 2 e (by omega) h2
 have g:=h.endItem text 3 e (by omega) h2
 exact⟨g.at_,g.items,by have:=h.stanzas;show p.stanzas+1<=e;omega,g.begin_,g.fields,g.said,g.both⟩
theorem Jj(p:PS):(ja p).at_=p.at_:=by unfold ja;split<;>rfl
theorem zP(p:PS):(ja p).said=[]:=by unfold ja;split<;>simp_all
theorem vL(text:List UInt8)(p:PS)(e:Nat)(h:p.at_<=e):(jm text p e).at_=e:=by
 unfold jm
 split
 ·assumption
 split<;>rfl
theorem XB(text:List UInt8)(p:PS)(e:Nat):(jm text p e).said=p.said:=by
 unfold jm
 split
 ·rfl
 split<;>rfl
theorem UU(p:PS)(x:Ln):(zb p x).at_=p.at_:=by unfold zb;split<;>rfl
theorem Inv.went{p:PS}{x:Ln}{c:Nat}(h:Inv p c):Inv (zb p x) (c+x.text.length+1):=by
 unfold zb
 split
 ·have a:=h.said;have b:=h.both
  refine⟨by have:=h.at_;show p.at_<=_;omega,h.items,h.stanzas,by have:=h.begin_;show p.begin_<=_;omega,by have:=h.fields;show p.fields.length<=_;omega,?_,?_⟩
  ·simp;omega
  simp;omega
 exact h.mono (by omega)
theorem Inv.then_{p:PS}{x:Ln}{c:Nat}(h:Inv p c):Inv (zK p x) (c+x.text.length+1):=by
 unfold zK
 split
 ·exact h.went.endField
 exact h.went
theorem UZ(p:PS)(x:Ln):(zK p x).at_=p.at_:=by
 unfold zK
 split
 ·rw[Jj,UU]
 exact UU p x
theorem jah{p:PS}{x:Ln}(h:zU p x=false):(zK p x).said=[]:=by
 unfold zK zS
 rw[h]
 simp only[Bool.not_false,Bool.or_true,if_true]
 exact zP _
theorem xt{p:PS}{x:Ln}(h:jk x.text≠3):zU p x=false:=by unfold zU;simp[h]
theorem Inv.take{text:List UInt8}{p q:PS}{x:Ln}(h:Inv p x.at_)(hno:x.no<=x.at_)(he:jL text p x=.ok q):Inv q (x.at_+x.bytes.length)/\x.ended=true:=by
 unfold jL at he
 split at he
 ·cases he
 split at he
 ·cases he
 rename_i hw
 have hen:x.ended=true:=by
  cases hx:x.ended with
  | true=>rfl
  | false=>exact absurd (by unfold jD;rw[hx];simp) hw
 have hb:x.at_+x.bytes.length=x.at_+x.text.length+1:=by unfold Ln.bytes;rw[hen];simp;omega
 refine⟨?_,hen⟩
 rw[hb]
 cases he
 have t:=h.then_ (x:=x)
 unfold yT
 split
 ·rename_i hk
  have e:=jah (xt (p:=p) (x:=x) (by omega))
  refine⟨t.at_,t.items,t.stanzas,by show x.no<=_;omega,t.fields,by simp,?_⟩
  have hf:(zK p x).fields.length<=x.at_:=by
   have g:=xt (p:=p) (x:=x) (by omega)
   unfold zK zS zb
   rw[g]
   simp only[Bool.not_false,Bool.or_true,if_true]
   exact(Inv.endField h).fields
  simp;omega
 split
 ·have ta:=UZ p x
  have ha:=h.at_
  refine Inv.endItem text 1 _ (t.endBlock text x.at_ (by omega) (by omega)) ?_ (by omega)
  rw[vL text _ _ (by omega)];omega
 exact t
structure ZD(t:List UInt8)(p:PS):Prop where
 st:p.stanzas<=400
 st':p.fields≠[]->p.stanzas<=399
 fl:p.fields.length<=40
 each:∀it∈p.items,it.fields.length<=40
 join:p.items.flatMap It.raw=t.take p.at_
theorem ZD.new(t:List UInt8):ZD t PS.new:=⟨by decide,fun h=>absurd rfl h,by decide,(fun it h=>by cases h),rfl⟩
theorem ZD.endField{t:List UInt8}{p:PS}(h:ZD t p)(h0:jh p=0):ZD t (ja p):=by
 unfold ja
 split
 ·exact h
 rename_i hs
 unfold jh at h0
 rw[if_neg hs]at h0
 split at h0
 ·rename_i hu;exact absurd h0 hu
 have hfull:vr p=false:=by
  cases hf:vr p with
  | false=>rfl
  | true=>rw[hf]at h0;simp at h0
 unfold vr at hfull
 have fl:=h.fl
 have st:=h.st
 refine⟨h.st,fun _ => ?_,?_,h.each,h.join⟩
 ·show p.stanzas<=399
  split at hfull
  ·have:p.stanzas≠400:=by simpa using hfull
   omega
  rename_i hz
  exact h.st' (fun e=>hz (by rw[e];rfl))
 show(p.fields++[_]).length<=40
 rw[jh7]
 split at hfull
 ·simp;omega
 have:p.fields.length≠40:=by simpa using hfull
 simp;omega
theorem VN(t:List UInt8)(a e:Nat)(h:a<=e):t.take a++(t.take e).drop a=t.take e:=by
 conv=>rhs;rw[<- jiy a (t.take e),List.take_take,Nat.min_eq_left h]
theorem ZD.endItem{t:List UInt8}{p:PS}(h:ZD t p)(kind e:Nat)(hle:p.at_<=e):ZD t (jX t p kind e):=by
 refine⟨h.st,fun hn=>absurd rfl hn,by simp[jX],?_,?_⟩
 ·intro it hi
  rcases List.mem_append.1 hi with hi|hi
  ·exact h.each it hi
  rw[List.mem_singleton.1 hi];exact h.fl
 show(p.items++[_]).flatMap It.raw=t.take e
 rw[jiG,h.join]
 simp only[jio,jkm,jix]
 exact VN t p.at_ e hle
theorem ZD.endBlock{t:List UInt8}{p:PS}(h:ZD t p)(e:Nat)(hle:p.at_<=e):ZD t (jm t p e):=by
 unfold jm
 split
 ·exact h
 split
 ·exact h.endItem 2 e hle
 rename_i hz
 have g:=h.endItem 3 e hle
 have:=h.st' (fun e=>hz (by rw[e];rfl))
 exact⟨by show p.stanzas+1<=400;omega,fun hn=>absurd rfl hn,g.fl,g.each,g.join⟩
theorem ZD.went{t:List UInt8}{p:PS}(h:ZD t p)(x:Ln):ZD t (zb p x):=by
 unfold zb
 split
 ·exact⟨h.st,h.st',h.fl,h.each,h.join⟩
 exact h
theorem xE{t:List UInt8}{p q:PS}{x:Ln}(he:jL t p x=.ok q):(zS p x=true->jh (zb p x)=0)/\jD p x=false/\q=yT t (zK p x) x:=by
 unfold jL at he
 split at he
 ·cases he
 rename_i h1
 split at he
 ·cases he
 rename_i h2
 cases he
 refine⟨fun hn => ?_,by simpa using h2,rfl⟩
 rcases Nat.decEq (jh (zb p x)) 0 with e|e
 ·exact absurd ⟨hn,e⟩ h1
 exact e
theorem vZ{t:List UInt8}{p:PS}{x:Ln}(h1:zS p x=true->jh (zb p x)=0)(h2:jD p x=false):jL t p x=.ok (yT t (zK p x) x):=by
 unfold jL
 rw[if_neg (fun h=>h.2 (h1 h.1)),h2];rfl
theorem ZD.then_{t:List UInt8}{p:PS}{x:Ln}(h:ZD t p)(h1:zS p x=true->jh (zb p x)=0):ZD t (zK p x):=by
 unfold zK
 split
 ·rename_i he;exact(h.went x).endField (h1 he)
 exact h.went x
theorem ZD.put{t:List UInt8}{p:PS}{x:Ln}(h:ZD t p)(ha:p.at_<=x.at_):ZD t (yT t p x):=by
 unfold yT
 split
 ·exact⟨h.st,h.st',h.fl,h.each,h.join⟩
 split
 ·refine(h.endBlock x.at_ ha).endItem 1 _ ?_
  rw[vL t p _ ha];omega
 exact h
theorem ZD.take{t:List UInt8}{p q:PS}{x:Ln}(h:ZD t p)(ha:p.at_<=x.at_)(he:jL t p x=.ok q):ZD t q:=by
 obtain⟨h1,_,rfl⟩:=xE he
 exact(h.then_ h1).put (by rw[UZ];exact ha)
def jhr:Nat->Nat->List Ln->Prop
 | _,_,[]=>True
 | no,c,x::xs=>x.no=no/\x.at_=c/\1<=x.bytes.length/\jhr (no+1) (c+x.bytes.length) xs
theorem xe:∀(n no at_:Nat) (l:List UInt8),l.length<=n->jhr no at_ (jS no at_ l)
 | 0,no,at_,l,h=>by
  have:l=[]:=List.length_eq_zero_iff.1 (by omega)
  subst this;rw[jq];trivial
 | n+1,no,at_,l,h=>by
  by_cases hl:l=[]
  ·subst hl;rw[jq];trivial
  have hp:=qu l hl
  rw[js _ _ _ hl]
  have hb:(Ln.bytes ⟨no,at_,zY l,nl l⟩).length=qy l:=by
   unfold Ln.bytes qy;simp only[jh7];split<;>rfl
  refine⟨rfl,rfl,by rw[hb];exact hp,?_⟩
  rw[hb]
  exact xe n _ _ _ (by simp only[jik];omega)
theorem Gj(t:List UInt8):∀(xs:List Ln) (no c:Nat) (p q:PS),jhr no c xs->no<=c->Inv p c->ZD t p->qF t p xs=.ok q->Inv q (c+(xs.flatMap Ln.bytes).length)/\ZD t q/\∀x∈xs,x.ended=true
 | [],no,c,p,q,_,_,hi,hg,he=>by
  cases he
  exact⟨by simpa using hi,hg,fun x h=>by cases h⟩
 | x::xs,no,c,p,q,hr,hn,hi,hg,he=>by
  obtain⟨r1,r2,r3,r4⟩:=hr
  unfold qF at he
  cases ht:jL t p x with
  | error e=>rw[ht]at he;cases he
  | ok p1 =>
  rw[ht]at he
  dsimp only at he
  rw[<- r2]at hi
  obtain⟨i1,e1⟩:=Inv.take hi (by omega) ht
  have g1:=hg.take hi.at_ ht
  rw[r2]at i1
  obtain⟨a,b,d⟩:=Gj t xs (no+1) (c+x.bytes.length) p1 q r4 (by omega) i1 g1 he
  refine⟨?_,b,fun y hy => ?_⟩
  ·rw[jio,jh7,<- jjL];exact a
  rcases List.mem_cons.1 hy with rfl|hy
  ·exact e1
  exact d y hy
theorem Zp{t:List UInt8}{its:List It}(h:za t=.ok its):∃p,qF t PS.new (jf t)=.ok p/\jh p=0/\its=(jm t (ja p) t.length).items/\ZD t (jm t (ja p) t.length)/\Inv (jm t (ja p) t.length) t.length/\(ja p).at_<=t.length:=by
 unfold za at h
 cases hr:qF t PS.new (jf t) with
 | error e=>rw[hr]at h;cases h
 | ok p =>
 rw[hr]at h
 dsimp only at h
 unfold JK at h
 split at h
 ·cases h
 rename_i h0
 have h0:jh p=0:=by simpa using h0
 cases h
 obtain⟨a,b,_⟩:=Gj t _ 0 0 _ _ (xe _ 0 0 t (jh6 _)) (jh6 _) Inv.new (ZD.new t) hr
 rw[show jS 0 0 t=jf t from rfl,jB,jiH]at a
 exact⟨p,rfl,h0,rfl,(b.endField h0).endBlock _ a.endField.at_,a.endField.endBlock t _ a.endField.at_ (jh6 _),a.endField.at_⟩
theorem Yl{t:List UInt8}{its:List It}(h:za t=.ok its):its.flatMap It.raw=t/\its.length<=t.length/\∀it∈its,it.fields.length<=40/\it.raw.length<=t.length:=by
 obtain⟨p,_,_,rfl,g,i,hle⟩:=Zp h
 have ha:=vL t (ja p) t.length hle
 have hj:=g.join
 rw[ha,jiF]at hj
 refine⟨hj,by have:=i.items;rw[ha]at this;exact this,fun it hi=>⟨g.each it hi,?_⟩⟩
 obtain⟨a,b,e⟩:=jjT hi
 rw[e,jiG,jio]at hj
 have:=congrArg List.length hj
 simp only[jh7]at this
 omega
theorem QT:∀(a b:List Ln) (no at_:Nat) (l:List UInt8),jS no at_ l=a++b->(∀x∈a,x.ended=true) ->
  jS no at_ (l.take (a.flatMap Ln.bytes).length)=a/\b=jS (no+a.length) (at_+(a.flatMap Ln.bytes).length) (l.drop (a.flatMap Ln.bytes).length)
 | [],b,no,at_,l,h,_=>by
  refine⟨by simp[jq],?_⟩
  simpa using h.symm
 | x::a,b,no,at_,l,h,he=>by
  have hl:l≠[]:=by rintro rfl;rw[jq]at h;cases h
  rw[js _ _ _ hl,jiq]at h
  obtain⟨hx,ht⟩:=List.cons.inj h
  have hb:x.bytes.length=qy l:=by
   rw[<- hx];unfold Ln.bytes qy;simp only[jh7];split<;>rfl
  have hen:nl l=true:=by have:=he x jig;rw[<- hx]at this;exact this
  obtain⟨i1,i2⟩:=QT a b (no+1) (at_+qy l) (l.drop (qy l)) ht (fun y hy=>he y (jif _ hy))
  have hsp:=zg l
  rw[hen,if_pos rfl]at hsp
  have hu:qy l=(zY l).length+1:=by unfold qy;rw[hen];rfl
  have hcl:=vo _ no at_ l (jh6 _) ⟨no,at_,zY l,nl l⟩ (by rw[js _ _ _ hl];exact jig)
  have hlen:((x::a).flatMap Ln.bytes).length=qy l+(a.flatMap Ln.bytes).length:=by rw[jio,jh7,hb]
  rw[hlen]
  rw[hen]at hx
  clear hlen hb hen
  generalize zY l=hd at *
  generalize hr:l.drop (qy l)=r at *
  rw[hu]at *
  have hl2:l=hd++10::r:=by rw[hsp];simp
  clear hsp hu
  generalize (a.flatMap Ln.bytes).length=m at *
  have htk:l.take (hd.length+1+m)=hd++10::r.take m:=by
   rw[hl2,List.take_append,jiC (by omega),show hd.length+1+m-hd.length=m+1 by omega]
   simp
  refine⟨?_,?_⟩
  ·rw[htk,js _ _ _ (by simp)]
   obtain⟨h1,h2⟩:=Ua hd (r.take m) hcl
   have hu2:qy (hd++10::r.take m)=hd.length+1:=by unfold qy;rw[h1,h2];rfl
   have hd2:(hd++10::r.take m).drop (hd.length+1)=r.take m:=by
    rw[show hd++10::r.take m=(hd++[10])++r.take m by simp]
    exact jjs (by simp)
   rw[h1,h2,hu2,hd2,i1,<- hx]
  rw[i2,<- hr,jji,jic,jjL no,Nat.add_comm 1,jjL at_]
def re(p:PS)(n:Nat):PS:={p with begin_:=n}
end Go.Proofs.YtmdhainabeljpaaGreatDoor
namespace Go.Proofs.YtmdhainabeljpaaGreatDoor.Hd
open Go.Lib
def two(g:Nat):List It:=[⟨2,Qc++(decDigits g++[10]),[]⟩,⟨1,[10],[]⟩]
end Go.Proofs.YtmdhainabeljpaaGreatDoor.Hd
namespace Go.Proofs.YtmdhainabeljpaaGreatDoor.Fr
open Go.Lib
theorem qg:∀(a b:List UInt8) (s:Bool),sp s (a++b)=(sp s a&&sp (fresh s a) b)
 | [],b,s=>by simp[sp,fresh]
 | c::a,b,s=>by
  have e:fresh s (c::a)=fresh (c==10) a:=by
   unfold fresh
   rw[List.getLast?_cons]
   cases a.getLast?<;>simp
  simp only[jiq,sp,qg a b (c==10),e,Bool.and_assoc]
theorem KP(a b:List UInt8)(s:Bool)(h:b≠[]):fresh s (a++b)=fresh true b:=by
 unfold fresh
 rw[List.getLast?_append]
 cases hb:b.getLast? with
 | none=>exact absurd (List.getLast?_eq_none_iff.1 hb) h
 | some c=>simp
theorem Jz:∀(k:Nat) (s:Bool),sp s (List.replicate k 32)=true
 | 0,s=>by cases s<;>rfl
 | k+1,s=>by rw[List.replicate_succ];unfold sp;rw[Jz k];simp
theorem xv(k:Nat)(s:Bool):fresh s (List.replicate k 32)=(s&&decide (k=0)):=by
 cases k with
 | zero=>simp[fresh]
 | succ k=>unfold fresh;rw[List.getLast?_replicate];simp
theorem good_iff{l:List UInt8}:qD l=true↔2<=l.length/\l.length<=50000/\vI l=true/\sp true l=true:=by unfold qD;simp[and_assoc]
theorem Ub{n:Nat}(h2:2<=n)(h5:n<=50000):qD (List.replicate (n-1) 32++[10])=true:=by
 rw[good_iff,qg,Jz,xv]
 have:¬n-1=0:=by omega
 refine⟨by simp;omega,by simp;omega,by simp[vI],?_⟩
 simp[sp,this]
def vu(t:List UInt8)(n:Nat):Bool:=sp true t && !(fresh true t&&decide (n-t.length<2))
theorem Wf{t:List UInt8}{n:Nat}(h2:2<=n)(h5:n<=50000)(hl:t.length<n):(∃z,qD (t++z)=true/\(t++z).length=n)↔vu t n=true:=by
 unfold vu
 constructor
 ·rintro⟨z,hg,hz⟩
  obtain⟨_,_,h3,h4⟩:=good_iff.1 hg
  rw[qg]at h4
  simp only[jiL]at h4 ⊢
  refine⟨h4.1,?_⟩
  cases hf:fresh true t with
  | false=>rfl
  | true =>
  rw[hf]at h4
  rw[jh7]at hz
  by_cases hk:n-t.length<2
  ·exfalso
   obtain⟨c,rfl⟩:∃c,z=[c]:=by
    match z,hz with
    | [],hz=>simp at hz;omega
    | [c],_=>exact⟨c,rfl⟩
    | a::b::z,hz=>simp at hz;omega
   have h5:=h4.2
   unfold vI at h3
   simp[sp]at h3 h5
   subst h3
   cases h5
  simp[hk]
 intro h
 simp only[jiL]at h
 refine⟨List.replicate (n-t.length-1) 32++[10],?_,by simp;omega⟩
 rw[good_iff]
 refine⟨by simp;omega,by simp;omega,by simp[vI],?_⟩
 rw[qg,h.1,jjK,qg,Jz,xv]
 cases hf:fresh true t with
 | false=>simp[sp]
 | true =>
 have h2:=h.2
 rw[hf]at h2
 have:¬n-t.length-1=0:=by simp at h2;omega
 simp[sp,this]
theorem jc4{t:List UInt8}{n:Nat}(h2:2<=n)(h5:n<=50000)(hl:t.length<n):qD (t++(List.replicate (n-t.length-1) 32++[10]))=vu t n:=by
 rw[jiX]
 constructor
 ·intro h
  exact(Wf h2 h5 hl).1 ⟨_,h,by simp;omega⟩
 intro h
 unfold vu at h
 simp only[jiL]at h
 rw[good_iff]
 refine⟨by simp;omega,by simp;omega,by simp[vI],?_⟩
 rw[qg,h.1,jjK,qg,Jz,xv]
 cases hf:fresh true t with
 | false=>simp[sp]
 | true =>
 have h2:=h.2
 rw[hf]at h2
 have:¬n-t.length-1=0:=by simp at h2;omega
 simp[sp,this]
def vv(l:List UInt8):Prop:=∃n f z,2<=n/\n<=50000/\ZW f/\l++z=jH n f
theorem vZ{a b z:List UInt8}(h:a++z=b)(k:Nat)(hk:a.length<=k):∃y,a++y=b.take k:=⟨z.take (k-a.length),by rw[<- h,List.take_append,jiC hk]⟩
theorem qx(n:Nat)(f b:List UInt8):jgJ n f b=jH n f++10::(b++jW n):=rfl
theorem Kq{t:List UInt8}(h:(10:UInt8)∉t):xB t↔vv t:=by
 constructor
 ·rintro⟨n,f,b,z,hg,hn,hf,he,hz⟩
  obtain⟨h2,h5,_,_⟩:=good_iff.1 hg
  refine⟨n,f,?_⟩
  by_cases hl:t.length<=(jH n f).length
  ·obtain⟨y,hy⟩:=vZ he (jH n f).length hl
   rw[qx,jkf]at hy
   exact⟨y,by omega,by omega,hf,hy⟩
  exfalso
  have h1:(jH n f++[10]).length<=t.length:=by simp;omega
  have e:jH n f++[10]++(b++jW n)=t++z:=by rw[he,qx];simp
  obtain⟨y,hy⟩:=vZ e t.length h1
  rw[jkf]at hy
  exact h (by rw[<- hy];simp)
 rintro⟨n,f,z,h2,h5,hf,he⟩
 refine⟨n,f,List.replicate (n-1) 32++[10],z++10::((List.replicate (n-1) 32++[10])++jW n),Ub h2 h5,by simp;omega,hf,?_,by simp⟩
 rw[qx,<- he];simp
theorem Xi{t b:List UInt8}(h:(10:UInt8)∉t):¬vh t b:=by
 rintro⟨_,zv,rfl⟩
 exact h (by unfold fullR;rw[qx];simp)
theorem jdN{l r:List UInt8}(hl:(10:UInt8)∉l)(h:¬∃n f,Wn l n f):¬xB (l++10::r)/\¬∃b,vh (l++10::r) b:=by
 constructor
 ·rintro⟨n,f,b,z,hg,hn,hf,he,hz⟩
  obtain⟨h2,h5,_,_⟩:=good_iff.1 hg
  rw[qx,jip,jiq]at he
  exact h ⟨n,f,by omega,by omega,hf,(split_at hl (vK hf) he).1⟩
 rintro⟨b,hg,zv,he⟩
 obtain⟨h2,h5,_,_⟩:=good_iff.1 hg
 unfold fullR at he
 rw[qx,jip,jiq]at he
 exact h ⟨b.length,vf b,h2,h5,qK b,(split_at hl (vK (qK b)) he).1⟩
theorem QO{n:Nat}{f r:List UInt8}(h2:2<=n)(h5:n<=50000)(hf:ZW f):xB (jH n f++10::r)↔∃b z,qD b=true/\b.length=n/\r++z=b++jW n/\z≠[]:=by
 constructor
 ·rintro⟨n',f',b,z,hg,hn,hf',he,hz⟩
  obtain⟨h2',h5',_,_⟩:=good_iff.1 hg
  rw[qx,jip,jiq]at he
  obtain⟨e1,e2⟩:=split_at (vK hf) (vK hf') he
  obtain⟨rfl,rfl⟩:=Xq h5 (by omega) e1
  exact⟨b,z,hg,hn,e2,hz⟩
 rintro⟨b,z,hg,hn,he,hz⟩
 exact⟨n,f,b,z,hg,hn,hf,by rw[qx,<- he];simp,hz⟩
theorem ZG{n:Nat}{f r b:List UInt8}(h2:2<=n)(h5:n<=50000)(hf:ZW f):vh (jH n f++10::r) b↔qD b=true/\b.length=n/\vf b=f/\∃zv,r=b++(jW n++zv):=by
 constructor
 ·rintro⟨hg,zv,he⟩
  obtain⟨h2',h5',_,_⟩:=good_iff.1 hg
  unfold fullR at he
  rw[qx,jip,jiq]at he
  obtain⟨e1,e2⟩:=split_at (vK hf) (vK (qK b)) he
  obtain⟨rfl,rfl⟩:=Xq h5 (by omega) e1
  exact⟨hg,rfl,rfl,zv,by rw[e2];simp⟩
 rintro⟨hg,rfl,rfl,zv,rfl⟩
 exact⟨hg,zv,by unfold fullR;rw[qx];simp⟩
theorem Ya{n:Nat}{f r:List UInt8}(h2:2<=n)(h5:n<=50000)(hf:ZW f)(hl:r.length<n):(xB (jH n f++10::r)↔vu r n=true)/\¬∃b,vh (jH n f++10::r) b:=by
 constructor
 ·rw[QO h2 h5 hf,<- Wf h2 h5 hl]
  constructor
  ·rintro⟨b,z,hg,hn,he,hz⟩
   obtain⟨y,hy⟩:=vZ he b.length (by omega)
   rw[jkf]at hy
   exact⟨y,by rw[hy];exact hg,by rw[hy];exact hn⟩
  rintro⟨z,hg,hz⟩
  exact⟨r++z,z++jW n,hg,hz,by simp,by intro q;have:=(List.append_eq_nil_iff.1 q).2;simp[jW,END]at this⟩
 rintro⟨b,h⟩
 obtain⟨_,hn,_,zv,rfl⟩:=(ZG h2 h5 hf).1 h
 simp at hl;omega
theorem yp{n:Nat}{f b r:List UInt8}(h2:2<=n)(h5:n<=50000)(hf:ZW f)(hl:b.length=n):
  (xB (jH n f++10::(b++r))↔qD b=true/\∃z,r++z=jW n/\z≠[])/\(∀b',vh (jH n f++10::(b++r)) b'↔b'=b/\qD b=true/\vf b=f/\∃zv,r=jW n++zv):=by
 constructor
 ·rw[QO h2 h5 hf]
  constructor
  ·rintro⟨b',z,hg,hn,he,hz⟩
   rw[jip]at he
   obtain⟨rfl,e2⟩:=List.append_inj he (by omega)
   exact⟨hg,z,e2,hz⟩
  rintro⟨hg,z,he,hz⟩
  exact⟨b,z,hg,hl,by rw[jip,he],hz⟩
 intro b'
 rw[ZG h2 h5 hf]
 constructor
 ·rintro⟨hg,hn,hfg,zv,he⟩
  obtain⟨rfl,e2⟩:=List.append_inj he (by omega)
  exact⟨rfl,hg,hfg,zv,e2⟩
 rintro⟨rfl,hg,hfg,zv,rfl⟩
 exact⟨hg,hl,hfg,zv,rfl⟩
theorem xS{t b:List UInt8}(h:vh t b):¬xB t:=by
 obtain⟨hg,zv,rfl⟩:=h
 obtain⟨h2,h5,_,_⟩:=good_iff.1 hg
 intro hp
 have e:fullR b++zv=jH b.length (vf b)++10::(b++(jW b.length++zv)):=by unfold fullR;rw[qx];simp
 rw[e]at hp
 obtain⟨_,z,hz,h0⟩:=(yp h2 h5 (qK b) rfl).1.1 hp
 have:=congrArg List.length hz
 simp only[jh7]at this
 exact h0 (ji2 (by omega))
theorem XR{t b b':List UInt8}(h:vh t b)(h':vh t b'):b=b':=by
 obtain⟨hg,zv,rfl⟩:=h
 obtain⟨h2,h5,_,_⟩:=good_iff.1 hg
 have e:fullR b++zv=jH b.length (vf b)++10::(b++(jW b.length++zv)):=by unfold fullR;rw[qx];simp
 rw[e]at h'
 exact(((yp h2 h5 (qK b) rfl).2 b').1 h').1.symm
theorem full_begins{b:List UInt8}(hg:qD b=true){k:Nat}(hk:k<(fullR b).length):xB ((fullR b).take k) :=
 ⟨b.length,vf b,b,(fullR b).drop k,hg,rfl,qK b,jiy _ _,fun q=>by have:=congrArg List.length q;simp at this;omega⟩
end Go.Proofs.YtmdhainabeljpaaGreatDoor.Fr
namespace Go.Proofs.YtmdhainabeljpaaGreatDoor.Bk
open Go.Lib Go.Proofs.YtmdhainabeljpaaGreatDoor.Fr Go.Proofs.YtmdhainabeljpaaGreatDoor.Hd
def Up(l:List UInt8):Bool:=hasPrefix l [37]&&decide (jk l=5)
def vP(xs:List Ln)(n:Nat):Nat:=match xs.find? (fun x=>Up x.text) with | some x=>x.at_ | none=>n
def vk(t:List UInt8):List UInt8:=t.take (vP (jf t) t.length)
theorem Zt(l:List UInt8):(10:UInt8)∉zY l:=fun h=>by
 have:=List.all_eq_true.1 (jjh (p:=fun c:UInt8=>c != 10) (l:=l)) 10 h
 simp at this
theorem xo:∀{l:List UInt8},(10:UInt8)∉l->zY l=l
 | [],_=>rfl
 | c::l,h=>by
  have hc:(c != 10)=true:=by
   simp only[bne_iff_ne]
   rintro rfl
   exact h jig
  unfold zY
  rw[jiR,if_pos hc]
  exact congrArg (c :: ·) (xo fun hm=>h (jif _ hm))
theorem GX(t:List UInt8):vP (jf t) t.length<=t.length:=by
 unfold vP
 cases h:(jf t).find? (fun x=>Up x.text) with
 | none=>exact jh6 _
 | some x =>
 obtain⟨_,pre,post,he,_⟩:=List.find?_eq_some_iff_append.1 h
 obtain⟨_,ha⟩:=qz t pre x post he
 have hj:=jB t
 rw[he,jiG]at hj
 show x.at_<=t.length
 rw[ha,<- hj,jh7]
 omega
theorem JZ(t:List UInt8):(vk t).length=vP (jf t) t.length:=by
 unfold vk;rw[jiE];have:=GX t;omega
theorem Vu(t:List UInt8):t=vk t++t.drop (vk t).length:=by
 have h:=JZ t
 rw[h]
 exact(jiy _ t).symm
theorem Uo(t:List UInt8):t.drop (vk t).length=[]\/Up (zY (t.drop (vk t).length))=true:=by
 rw[JZ]
 unfold vP
 cases h:(jf t).find? (fun x=>Up x.text) with
 | none=>left;simp
 | some x =>
 obtain⟨hb,pre,post,he,_⟩:=List.find?_eq_some_iff_append.1 h
 obtain⟨_,ha⟩:=qz t pre x post he
 have hpe:∀y∈pre,y.ended=true:=by
  intro y hy
  have hall:∀(xs:List Ln) (no a:Nat) (l:List UInt8) (z:Ln) (zs:List Ln),jS no a l=xs++z::zs->∀y∈xs,y.ended=true:=by
   intro xs
   induction xs with
   | nil=>intro no a l z zs _ y hy;cases hy
   | cons u us ih =>
   intro no a l z zs e y hy
   have hl:l≠[]:=by rintro rfl;rw[jq]at e;cases e
   rw[js _ _ _ hl,jiq]at e
   obtain⟨e1,e2⟩:=List.cons.inj e
   rcases List.mem_cons.1 hy with hy|hy
   ·subst hy
    rw[<- e1]
    show nl l=true
    cases hn:nl l with
    | true=>rfl
    | false =>
    exfalso
    have hs:=zg l
    rw[hn]at hs
    have hu:qy l=(zY l).length:=by unfold qy;rw[hn];rfl
    have h9:l.drop (qy l)=[]:=by
     have hm:(10:UInt8)∉l:=by unfold nl at hn;simpa using hn
     have:zY l=l:=xo hm
     rw[hu,this]
     exact ji6
    rw[h9,jq]at e2
    cases us<;>cases e2
   exact ih _ _ _ _ _ e2 y hy
  exact hall pre 0 0 t x post he y hy
 obtain⟨_,c2⟩:=QT pre (x::post) 0 0 t he hpe
 right
 show Up (zY (t.drop x.at_))=true
 rw[ha]
 have hne:t.drop (pre.flatMap Ln.bytes).length≠[]:=by
  intro e
  rw[e,jq]at c2
  cases c2
 rw[js _ _ _ hne]at c2
 have:=(List.cons.inj c2).1
 rw[this]at hb
 exact hb
theorem jcC(b:List UInt8):fullR b=jH b.length (vf b)++10::(b++jW b.length):=rfl
structure jbm(D:List UInt8->Bool)(s:List UInt8)(bds:List (List UInt8))(rest:List UInt8):Prop where
 eq:s=bds.flatMap fullR++rest
 good:∀b∈bds,qD b=true/\D b=true
def jeR(D:List UInt8->Bool)(r:List UInt8):Prop:=(¬xB r/\¬∃b,vh r b)\/∃b,vh r b/\D b=false
def Fin(D:List UInt8->Bool)(r:List UInt8):Prop:=xB r\/jeR D r
theorem jcI{D:List UInt8->Bool}{r b:List UInt8}(h:Fin D r)(hw:vh r b)(hd:D b=true):False:=by
 rcases h with h|⟨_,h⟩|⟨b',hb,h⟩
 ·exact xS hw h
 ·exact h ⟨b,hw⟩
 rw[XR hw hb]at hd;rw[hd]at h;cases h
theorem GP{D:List UInt8->Bool}{r:List UInt8}(h:xB r)(h':jeR D r):False:=by
 rcases h' with ⟨h1,_⟩|⟨b,hb,_⟩
 ·exact h1 h
 exact xS hb h
theorem xH{D:List UInt8->Bool}:∀{s:List UInt8} {x y:List (List UInt8)} {r q:List UInt8},jbm D s x r->jbm D s y q->Fin D r->Fin D q->x=y/\r=q
 | s,[],[],r,q,h,h',_,_=>⟨rfl,by have e:=h.eq;rw[h'.eq]at e;simpa using e.symm⟩
 | s,[],b::y,r,q,h,h',hf,_=>by
  exfalso
  have e:=h.eq
  have e':=h'.eq
  rw[jkm,ji4]at e
  rw[jio,jip]at e'
  obtain⟨g,d⟩:=h'.good b jig
  exact jcI hf ⟨g,_,e.symm.trans e'⟩ d
 | s,b::x,[],r,q,h,h',_,hf=>by
  exfalso
  have e:=h.eq
  have e':=h'.eq
  rw[jkm,ji4]at e'
  rw[jio,jip]at e
  obtain⟨g,d⟩:=h.good b jig
  exact jcI hf ⟨g,_,e'.symm.trans e⟩ d
 | s,b::x,c::y,r,q,h,h',hr,hq=>by
  have e:=h.eq
  have e':=h'.eq
  rw[jio,jip]at e e'
  obtain⟨g,d⟩:=h.good b jig
  obtain⟨g',d'⟩:=h'.good c jig
  have hbc:b=c:=XR ⟨g,_,e⟩ ⟨g',_,e'⟩
  subst hbc
  have e2:=jjA (e.symm.trans e')
  obtain⟨h1,h2⟩:=xH (s:=x.flatMap fullR++r) ⟨rfl,fun b hb=>h.good b (jif _ hb)⟩ ⟨e2,fun b hb=>h'.good b (jif _ hb)⟩ hr hq
  exact⟨by rw[h1],h2⟩
theorem jbm.snoc{D:List UInt8->Bool}{s r b:List UInt8}{bds:List (List UInt8)}(h:jbm D s bds r)(hw:vh r b)(hd:D b=true):jbm D s (bds++[b]) (r.drop (fullR b).length):=by
 obtain⟨g,m,hm⟩:=hw
 refine⟨?_,fun c hc => ?_⟩
 ·rw[h.eq,hm,jjj,jiG]
  simp
 rcases List.mem_append.1 hc with hc|hc
 ·exact h.good c hc
 rw[List.mem_singleton.1 hc];exact⟨g,hd⟩
def zh:Nat->List (List UInt8)->List Nat
 | _,[]=>[]
 | s,b::r=>(s+(fullR b).length)::zh (s+(fullR b).length) r
theorem vt:∀(s:Nat) (bds:List (List UInt8)) (b:List UInt8),zh s (bds++[b])=zh s bds++[s+(bds.flatMap fullR).length+(fullR b).length]
 | s,[],b=>by simp[zh]
 | s,c::r,b=>by
  have:=vt (s+(fullR c).length) r b
  simp only[jiq,zh]
  rw[this]
  simp only[jio,jh7,jjL]
theorem vg:∀(s:Nat) (bds:List (List UInt8)),(zh s bds).length=bds.length
 | _,[]=>rfl
 | s,b::r=>by simp[zh,vg]
theorem XA(s:Nat)(bds:List (List UInt8))(h:bds≠[]):(zh s bds)[bds.length-1]?=some (s+(bds.flatMap fullR).length):=by
 rcases jjH bds with hb|⟨r,b,hb⟩
 ·exact absurd hb h
 rw[jjI]at hb
 subst hb
 rw[vt,jiD (by rw[vg];simp),vg]
 simp[Nat.add_assoc]
theorem Xw(b:List UInt8):7<=(fullR b).length:=by unfold fullR jgJ jH AMD;simp
theorem Vs:∀(bds:List (List UInt8)),bds.length<=(bds.flatMap fullR).length
 | []=>jh6 _
 | b::r=>by
  have h:=Vs r
  have:=Xw b
  rw[jio,jh7,jic]
  omega
def hl(n:Nat):Nat:=if 1<=n/\n<=2147483648 then (qS n).length else 0
theorem jf4{t:List UInt8}{n:Nat}(h:xC t n):hl n<=t.length:=by
 unfold hl
 split
 ·rename_i h1
  rcases h with ⟨_,_,r,e⟩|⟨rfl,_⟩
  ·rw[e];simp
  omega
 omega
structure xO(D:List UInt8->Bool)(t:List UInt8)(n:Nat)(base:List UInt8)(bds:List (List UInt8))(tail:List UInt8):Prop where
 gen:xC t n
 parse:∃its,za base=.ok its
 isB:vk (t.drop (hl n))=base
 recd:jbm D (t.drop (hl n+base.length)) bds tail
 fin:xB tail
def jN(n:Nat)(base:List UInt8)(bds:List (List UInt8)):Nat:=hl n+base.length+(bds.flatMap fullR).length
theorem Vk(t:List UInt8)(a b:Nat):t.drop (a+b)=(t.drop a).drop b:=by rw[jji]
structure jhL(t:List UInt8)(n:Nat)(base:List UInt8)(bds:List (List UInt8))(tail:List UInt8):Prop where
 eq:t=t.take (hl n)++(base++(bds.flatMap fullR++tail))
 take:t.take (jN n base bds)=t.take (hl n)++(base++bds.flatMap fullR)
 len:t.length=jN n base bds+tail.length
 tail:t.drop (jN n base bds)=tail
theorem xO.parts{D:List UInt8->Bool}{t base tail:List UInt8}{n:Nat}{bds:List (List UInt8)}(h:xO D t n base bds tail):jhL t n base bds tail:=by
 have hle:=jf4 h.gen
 have e1:=Vu (t.drop (hl n))
 rw[h.isB]at e1
 have e2:=h.recd.eq
 rw[Vk]at e2
 rw[e2]at e1
 have e3:t=t.take (hl n)++(base++(bds.flatMap fullR++tail)):=by
  rw[<- e1];exact(jiy _ t).symm
 have hk:(t.take (hl n)).length=hl n:=by rw[jiE];omega
 have e4:t=(t.take (hl n)++(base++bds.flatMap fullR))++tail:=by
  rw[jip,jip];exact e3
 have hw:(t.take (hl n)++(base++bds.flatMap fullR)).length=jN n base bds:=by
  unfold jN;simp only[jh7,hk];omega
 refine⟨e3,?_,?_,?_⟩
 ·conv=>lhs;rw[e4]
  rw[<- hw,jkf]
 ·conv=>lhs;rw[e4]
  rw[jh7,hw]
 conv=>lhs;rw[e4]
 rw[<- hw,jjj]
end Go.Proofs.YtmdhainabeljpaaGreatDoor.Bk
namespace Go.Proofs.YtmdhainabeljpaaGreatDoor.Fr
open Go.Lib
def qq:List UInt8:=[48,48,48,48,48,48,48,48]
def zT:List UInt8:=[37,97,109,101,110,100,32,53,48,48,48,48,32,48,48,48,48,48,48,48,48]
theorem vB:ZW qq:=vW.2 ⟨rfl,by decide⟩
theorem Yt:zT=jH 50000 qq:=by
 unfold jH
 rw[yM (by omega),yM (by omega),yM (by omega),yM (by omega),decDigits_one (by omega)]
 rfl
theorem Ul:decDigits 10=[49,48]:=by rw[yM (by omega),decDigits_one (by omega)];rfl
theorem jhV:decDigits 1=[49]:=by rw[decDigits_one (by omega)];rfl
theorem xD{a b x y:List UInt8}(h:a++x=b++y):(∃q,b=a++q/\x=q++y)\/(∃c q,a=b++c::q/\y=c::q++x):=by
 rcases List.append_eq_append_iff.1 h with ⟨q,h1,h2⟩|⟨q,h1,h2⟩
 ·exact .inl ⟨q,h1,h2⟩
 cases q with
 | nil=>exact .inl ⟨[],by simpa using h1.symm,by simpa using h2.symm⟩
 | cons c q=>exact .inr ⟨c,q,h1,h2⟩
theorem jel{r z f:List UInt8}(hf:ZW f)(h:r++z=f):ZW (r++qq.drop r.length):=by
 obtain⟨h8,hx⟩:=vW.1 hf
 have hl:r.length<=8:=by have:=congrArg List.length h;simp at this;omega
 refine vW.2 ⟨by simp[qq];omega,?_⟩
 rw[jjo,jiL]
 rw[<- h,jjo,jiL]at hx
 exact⟨hx.1,List.all_eq_true.2 fun c hc=>by have:=jjN hc;simp[qq]at this;subst this;decide⟩
theorem jcK{r:List UInt8}(hl:r.length<=8)(hx:r.all VC=true):ZW (r++qq.drop r.length):=by
 refine vW.2 ⟨by simp[qq];omega,?_⟩
 rw[jjo,jiL]
 exact⟨hx,List.all_eq_true.2 fun c hc=>by have:=jjN hc;simp[qq]at this;subst this;decide⟩
theorem jaR{l:List UInt8}:vv l↔∃at_,at_<=21/\∃n f,Wn (l++zT.drop at_) n f:=by
 constructor
 ·rintro⟨n,f,z,h2,h5,hf,he⟩
  unfold jH at he
  rcases xD he with ⟨q,e1,e2⟩|⟨c,q,e1,e2⟩
  ·have hq:q=AMD.drop l.length:=by rw[e1];simp
   have hl:l.length<=7:=by have:=congrArg List.length e1;simp[AMD]at this;omega
   refine⟨l.length,by omega,50000,qq,by omega,by omega,vB,?_⟩
   rw[<- Yt]
   have e3:zT=l++(q++zT.drop 7):=by rw[<- jip,<- e1];rfl
   have e4:zT.drop l.length=q++zT.drop 7:=by rw[e3,jjj,<- e3]
   rw[e4];exact e3.symm
  rcases xD e2 with ⟨q2,e3,e4⟩|⟨d,q2,e3,e4⟩
  ·
   cases q2 with
   | nil =>
    rw[jix]at e3
    refine⟨12,by omega,n,qq,h2,h5,vB,?_⟩
    rw[e1,e3];unfold jH;rw[jip];rfl
   | cons d q2 =>
   rw[jiq]at e4
   injection e4 with e5 e6
   subst e5
   have hl:q2.length<=8:=by have:=congrArg List.length e6;have:=yJ hf;simp at *;omega
   refine⟨13+q2.length,by omega,n,q2++qq.drop q2.length,h2,h5,jel hf e6.symm,?_⟩
   rw[e1,e3];unfold jH
   have:zT.drop (13+q2.length)=qq.drop q2.length:=by rw[<- jji];rfl
   rw[this];simp
  -- within the number
  obtain⟨v,e5,hv,h1v⟩:=YH n (c::q) (d::q2) (by simp) e3.symm
  have h1:=h1v (by omega)
  by_cases hv1:v=1
  ·subst hv1
   refine⟨11,by omega,10,qq,by omega,by omega,vB,?_⟩
   rw[e1,e5];unfold jH;rw[Ul,jhV];rfl
  refine⟨12,by omega,v,qq,by omega,by omega,vB,?_⟩
  rw[e1,e5];unfold jH;rw[jip];rfl
 rintro⟨at_,_,n,f,h⟩
 exact⟨n,f,_,h.lo,h.hi,h.fig,h.eq⟩
theorem jdH{l:List UInt8}(h:vv l):l.length<=21:=by
 obtain⟨n,f,z,h2,h5,hf,he⟩:=h
 have:=congrArg List.length he
 have:=yN (show n<=99999 by omega)
 have:=yJ hf
 unfold jH AMD at *
 simp at *
 omega
def jdj(t:List UInt8):Prop:=∃n f z y,2<=n/\n<=50000/\ZW f/\t++z=jH n f++10::y
theorem Ym{t:List UInt8}(h:¬jdj t):jG t 3 [] 0:=by
 refine .inr (.inr ⟨?_,?_,rfl,rfl,rfl⟩)
 ·rintro⟨n,f,b,z,hg,hn,hf,he,hz⟩
  obtain⟨h2,h5,_,_⟩:=good_iff.1 hg
  exact h ⟨n,f,z,_,by omega,by omega,hf,he⟩
 rintro⟨b,hg,zv,rfl⟩
 obtain⟨h2,h5,_,_⟩:=good_iff.1 hg
 exact h ⟨_,_,[],b++jW b.length++zv,h2,h5,qK b,by unfold fullR;rw[qx];simp⟩
theorem Xf{t:List UInt8}(h:vv t):jG t 2 [] 0:=by
 have h10:(10:UInt8)∉t:=by
  obtain⟨n,f,z,h2,h5,hf,he⟩:=h
  intro hm
  exact vK (n:=n) hf (by rw[<- he];simp[hm])
 exact .inr (.inl ⟨(Kq h10).2 h,rfl,rfl,rfl⟩)
theorem jgs{t q:List UInt8}(h:AMD=t++q):jG t 2 [] 0 :=
 Xf ⟨50000,qq,q++(decDigits 50000++32::qq),by omega,by omega,vB,by unfold jH;rw[<- jip,<- h]⟩
theorem jhk{t:List UInt8}(hl:t.length<=7)(h:¬∃q,AMD=t++q):jG t 3 [] 0:=Ym (by
 rintro⟨n,f,z,y,h2,h5,hf,he⟩
 unfold jH at he
 rw[jip]at he
 rcases xD he with ⟨q,e1,_⟩|⟨c,q,e1,_⟩
 ·exact h ⟨q,e1⟩
 have:=congrArg List.length e1
 simp[AMD]at this;omega)
theorem jdS{t:List UInt8}(hl:7<=t.length)(h:¬∃q,t=AMD++q):jG t 3 [] 0:=Ym (by
 rintro⟨n,f,z,y,h2,h5,hf,he⟩
 unfold jH at he
 rw[jip]at he
 rcases xD he with ⟨q,e1,_⟩|⟨c,q,e1,_⟩
 ·have:=congrArg List.length e1
  simp[AMD]at this
  obtain rfl:q=[]:=ji2 (by omega)
  exact h ⟨[],by rw[e1];simp⟩
 exact h ⟨_,e1⟩)
def dgB(c:UInt8):Bool:=decide (48<=c.toNat)&&decide (c.toNat<=57)
theorem jeA{s:List UInt8}(h:jdj (AMD++s)):∃n f z y,2<=n/\n<=50000/\ZW f/\s++z=decDigits n++32::(f++10::y):=by
 obtain⟨n,f,z,y,h2,h5,hf,he⟩:=h
 unfold jH at he
 rw[jip,jip]at he
 exact⟨n,f,z,y,h2,h5,hf,by rw[jjA he];simp⟩
theorem Qr{ds r:List UInt8}(hd:∀c∈ds,dgB c=true)(hr:∀c r',r=c::r'->dgB c=false)(h:jdj (AMD++(ds++r))):
  ∃n,2<=n/\n<=50000/\((r=[]/\∃q,ds++q=decDigits n)\/(ds=decDigits n/\∃f z y r',ZW f/\r=32::r'/\r'++z=f++10::y)):=by
 obtain⟨n,f,z,y,h2,h5,hf,he⟩:=jeA h
 refine⟨n,h2,h5,?_⟩
 rw[jip]at he
 rcases xD he with ⟨q,e1,e2⟩|⟨c,q,e1,e2⟩
 ·cases r with
  | nil=>exact .inl ⟨rfl,q,e1.symm⟩
  | cons c r' =>
  cases q with
  | nil =>
   rw[jiq,ji4]at e2
   injection e2 with e3 e4
   subst e3
   exact .inr ⟨by rw[e1];simp,f,z,y,r',hf,rfl,e4⟩
  | cons d q =>
  rw[jiq]at e2
  injection e2 with e3 e4
  subst e3
  have:=jZ n c (by rw[e1];simp)
  have h0:=hr c r' rfl
  unfold dgB at h0
  simp[this.1,this.2]at h0
 rw[jiq]at e2
 injection e2 with e3 e4
 subst e3
 have:=hd 32 (by rw[e1];simp)
 exact absurd this (by decide)
theorem jhg{ds r:List UInt8}(hd:∀c∈ds,dgB c=true)(hr:∀c r',r=c::r'->dgB c=false)(h:5<ds.length):jG (AMD++(ds++r)) 3 [] 0:=Ym (by
 intro hc
 obtain⟨n,h2,h5,hh⟩:=Qr hd hr hc
 have:=yN (show n<=99999 by omega)
 rcases hh with ⟨_,q,e⟩|⟨e,_⟩
 ·have:=congrArg List.length e
  simp at this;omega
 rw[<- e]at this;omega)
theorem jcZ{ds r:List UInt8}(hd:∀c∈ds,dgB c=true)(hr:∀c r',r=c::r'->dgB c=false)(hs:ds++r≠[])(h:∀v,1<=v->v<=50000->ds≠decDigits v):jG (AMD++(ds++r)) 3 [] 0:=Ym (by
 intro hc
 obtain⟨n,h2,h5,hh⟩:=Qr hd hr hc
 rcases hh with ⟨rfl,q,e⟩|⟨e,_⟩
 ·have hne:ds≠[]:=by simpa using hs
  obtain⟨v,e1,hv,h1⟩:=YH n ds q hne e
  exact h v (h1 (by omega)) (by omega) e1
 exact h n (by omega) h5 e)
theorem jhf{v:Nat}(h1:1<=v)(h5:v<=50000):jG (AMD++decDigits v) 2 [] 0:=Xf (by
 by_cases hv:v=1
 ·subst hv
  exact⟨10,qq,48::32::qq,by omega,by omega,vB,by unfold jH;rw[Ul,jhV];rfl⟩
 exact⟨v,qq,32::qq,by omega,h5,vB,by unfold jH;rw[jip]⟩)
theorem jfc(v:Nat):∀c∈decDigits v,dgB c=true:=fun c hc=>by have:=jZ v c hc;simp[dgB,this.1,this.2]
theorem jcY{v:Nat}{c:UInt8}{r:List UInt8}(hv:v<=50000)(hc:dgB c=false)(h:c≠32\/v<2):jG (AMD++(decDigits v++c::r)) 3 [] 0:=Ym (by
 intro hq
 obtain⟨n,h2,h5,hh⟩:=Qr (jfc v) (fun c' r' e=>by injection e with e _;rw[<- e];exact hc) hq
 rcases hh with ⟨e,_⟩|⟨e,f,z,y,r',hf,e2,_⟩
 ·cases e
 injection e2 with e3 _
 have:=jcW (by omega) (by omega) e
 rcases h with h|h
 ·exact h e3
 omega)
def hx(l:List UInt8):Nat:=((l.take 8).takeWhile VC).length
theorem jg4{n:Nat}{r:List UInt8}(h2:2<=n)(h5:n<=50000)(h:hx r=r.length):jG (AMD++(decDigits n++32::r)) 2 [] 0:=Xf (by
 have h8:r.length<=8:=by
  rw[<- h];unfold hx
  exact jiv (ji9 _).length_le (by simp;omega)
 have ha:r.all VC=true:=by
  unfold hx at h
  rw[jiC h8]at h
  have e:r.takeWhile VC=r:=(ji9 _).eq_of_length h
  rw[<- e]
  exact jjh
 exact⟨n,r++qq.drop r.length,qq.drop r.length,h2,h5,jcK h8 ha,by unfold jH;simp⟩)
theorem jg2{f y:List UInt8}(hf:ZW f):hx (f++y)=8:=by
 obtain⟨h8,ha⟩:=vW.1 hf
 unfold hx
 rw[List.take_append_of_le_length (by omega),jiC (by omega)]
 have:f.takeWhile VC=f:=by
  have:∀l:List UInt8,l.all VC=true->l.takeWhile VC=l:=by
   intro l
   induction l with
   | nil=>intro _;rfl
   | cons c l ih=>intro h;simp only[jjS,jiL]at h;rw[jiR,if_pos h.1,ih h.2]
  exact this f ha
 rw[this,h8]
theorem jg1{r z f:List UInt8}(hf:ZW f)(h:r++z=f):hx r=r.length:=by
 obtain⟨h8,ha⟩:=vW.1 hf
 have hl:r.length<=8:=by have:=congrArg List.length h;simp at this;omega
 unfold hx
 rw[jiC hl]
 rw[<- h,jjo,jiL]at ha
 have:∀l:List UInt8,l.all VC=true->l.takeWhile VC=l:=by
  intro l
  induction l with
  | nil=>intro _;rfl
  | cons c l ih=>intro h;simp only[jjS,jiL]at h;rw[jiR,if_pos h.1,ih h.2]
 rw[this r ha.1]
theorem jg5{n:Nat}{r:List UInt8}(h5:n<=50000)(h:hx r≠r.length)(h8:hx r<8\/r[8]?≠some 10):jG (AMD++(decDigits n++32::r)) 3 [] 0:=Ym (by
 intro hq
 obtain⟨n',h2',h5',hh⟩:=Qr (jfc n) (fun c' r' e=>by injection e with e _;rw[<- e];decide) hq
 rcases hh with ⟨e,_⟩|⟨e,f,z,y,r',hf,e2,e3⟩
 ·cases e
 injection e2 with _ e4
 subst e4
 rcases xD e3 with ⟨q,e5,_⟩|⟨c,q,e5,e6⟩
 ·exact h (jg1 hf e5.symm)
 rw[jiq]at e6
 injection e6 with e7 _
 subst e7
 rw[e5,jg2 hf]at h8
 rcases h8 with h8|h8
 ·omega
 apply h8
 rw[jiD (by rw[yJ hf];omega),yJ hf];rfl)
theorem jg6{r:List UInt8}(h8:hx r=8)(h10:r[8]?=some 10):∃f q,ZW f/\r=f++10::q/\f=r.take 8/\q=r.drop 9:=by
 have hl:8<r.length:=by
  rcases jir 8 r.length with h|h
  ·exact h
  rw[jis h]at h10;cases h10
 refine⟨r.take 8,r.drop 9,vW.2 ⟨by simp;omega,?_⟩,?_,rfl,rfl⟩
 ·unfold hx at h8
  have e:(r.take 8).takeWhile VC=r.take 8:=(ji9 _).eq_of_length (by rw[h8];simp;omega)
  rw[<- e]
  exact jjh
 have e:=List.getElem?_eq_some_iff.1 h10
 obtain⟨hk,e⟩:=e
 have:=jiB hk
 rw[e]at this
 rw[<- this,jiy]
end Go.Proofs.YtmdhainabeljpaaGreatDoor.Fr
namespace Go.Proofs.YtmdhainabeljpaaGreatDoor
open Go.RowKit Go.WideShapes Go.ChangeAt Go.ChangeShapes
theorem qT{B:Nat}{a w:World}(h:Below B a w)(n:Nat):Below B a (w.drewN n):=⟨h.os,h.tape,h.output,h.size,h.block⟩
def Strs(w:World)(v:Value)(ss:List ByteArray):Prop :=
 ∃A cap,v=.slice A ss.length cap/\ss.length<=cap/\∀(i:Nat) (s:ByteArray),ss[i]?=some s->∃b off,A=some ⟨b,off,none⟩/\b<w.heap.size/\w.cell? ⟨b,off+i,none⟩=some (.string s)
theorem Strs.below{w w':World}{v:Value}{ss:List ByteArray}{n:Nat}(h:Strs w v ss)(hb:Below n w w')(hn:w.heap.size<=n):Strs w' v ss:=by
 obtain⟨A,cap,hv,hle,hc⟩:=h
 refine⟨A,cap,hv,hle,fun i s hs => ?_⟩
 obtain⟨b,off,hA,hlt,hcell⟩:=hc i s hs
 exact⟨b,off,hA,jih hlt hb.size,(hb.cell (p:=⟨b,off+i,none⟩) (jih hlt hn)).trans hcell⟩
theorem Strs.alloc{w:World}{v:Value}{ss:List ByteArray}(h:Strs w v ss)(o:Obj):Strs (w.alloc o) v ss :=
 h.below ((jh8 w.heap.size w).alloc (jh6 _) o) (jh6 _)
theorem Strs.none(w:World)(c:Nat):Strs w (.slice none 0 c) []:=⟨_,c,rfl,jii _,fun i s h=>by simp at h⟩
def B(l:List UInt8):ByteArray:=⟨l.toArray⟩
theorem ji(l:List UInt8):(B l).data.toList=l:=by simp[B]
theorem jbh(s:ByteArray):B s.data.toList=s:=by cases s;simp[B]
theorem je(l:List UInt8):(B l).size=l.length:=by simp[B,ByteArray.size]
theorem jj(a b:List UInt8):B a++B b=B (a++b):=by
 apply jjf;simp[B]
def Zy(n:Nat):Value:=if n=0 then .nilIface else .iface 43 (.int .i64 (n:Int))
theorem qL:Zy 0=.nilIface:=rfl
theorem GR:Zy 2=.iface 43 (.int .i64 2):=rfl
theorem jg9:Zy 5=.iface 43 (.int .i64 5):=rfl
theorem je8:Zy 6=.iface 43 (.int .i64 6):=rfl
theorem zk(n:Nat)(h:0<n):Zy n=.iface 43 (.int .i64 (n:Int)):=by unfold Zy;rw[if_neg (by omega)]
attribute [local go_sem] qL
theorem jdc(n:Int)(w:World):(Instr.typeAssert (.iface 43 (.int .i64 n)) 28 43 true).run Tryz.prog w=.ok (.tuple #[.int .i64 n,.bool true]) w:=by kernel_rfl
attribute [local go_sem] jdc
theorem jfF(n:Nat)(hn:n<=1000)(w:World):Calls Tryz.prog 8 #[Zy n] w fun e w'=>e=.returned (.int .i64 n)/\w=w':=by
 by_cases h0:n=0
 ·subst h0
  go_enter Tryz.func8,Tryz.ntmps8
  go_wp2
  refine wp_loop_rounds 1 ?_
  rw[rounds_succ]
  go_wp2
  go_ret
  exact⟨rfl,rfl⟩
 rw[zk n (by omega)]
 have hne:((n:Int) != 0)=true:=by simp;omega
 have hne2:((n:Int)==0)=false:=by simp;omega
 clear h0
 go_enter Tryz.func8,Tryz.ntmps8
 go_wp2
 refine wp_loop_rounds 1 ?_
 rw[rounds_succ]
 go_wp2
 go_ret
 exact⟨rfl,rfl⟩
end Go.Proofs.YtmdhainabeljpaaGreatDoor
