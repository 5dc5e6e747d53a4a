/- Texts put together:TA,FS,FL,OB,OC,PB,PC. -/
import Derived.Test.YtimfhnfcmhmjcaaGreatDoorChecked
import Derived.WalkKit
import Derived.ProofKit
import Derived.OpenShut
import Derived.Below
import Derived.Lib.Hide
import Derived.Lib.Strings
import Derived.Deep.QuietTactic
import Derived.BigQuiet
import Derived.OwnWalk
import Derived.Laws.AppendOwn
import Derived.Laws.OwnMore
import Derived.Lib.SmallJoins
import Derived.Test.YtimfhnfcmhmjcaaGreatDoorProg
import Derived.Maps.Own
import Derived.Maps.OwnSet
import Derived.Maps.AppendAt
import Derived.Deep.Quiet
import Derived.Deep.WholeRow
import Derived.Deep.RegionLaw
import Derived.RegionTactic
import Derived.Test.YtimfhnfcmhmjcaaGreatDoorBgr1
set_option linter.unusedVariables false
set_option maxRecDepth 100000
set_option maxHeartbeats 16000000
namespace Go.Proofs.YtimfhnfcmhmjcaaGreatDoor
abbrev jii:=@Go.Lib.hid
abbrev jil:=@Go.RowKit.Below.refl
abbrev jio:=@List.getElem?_cons_succ
abbrev jiq:=@List.length_take
abbrev jiv:=@List.getElem?_toArray
abbrev jix:=@List.append_assoc
abbrev jiB:=@Go.World.size_alloc
abbrev jiD:=@Nat.zero_le
abbrev jiF:=@Nat.lt_of_lt_of_le
abbrev jiG:=@Go.World.ownsRow.cellAt
abbrev jiK:=@Nat.lt_or_ge
abbrev jiS:=@Go.RowKit.Below.heap_setCell
abbrev jiW:=@List.getElem?_eq_none
abbrev ji7:=@Array.getElem?_eq_getElem
abbrev jjd:=@Go.Joins.ownsRow_forms
abbrev jjf:=@List.drop_of_length_le
abbrev jjr:=@Go.World.ownsRow.lt
abbrev jjv:=@Go.RowKit.Below.heap_alloc
abbrev jkc:=@ByteArray.ext
end Go.Proofs.YtimfhnfcmhmjcaaGreatDoor
namespace Go.Proofs.YtimfhnfcmhmjcaaGreatDoor
def mv(b st a:Nat)(its:List It)(p:PS):PS:=⟨b,p.said,its,st,a,p.fields⟩
def ml(no c:Nat)(x:Ln):Ln:=⟨no,c,x.text,x.ended⟩
theorem jbz(b st a:Nat)(its:List It)(p:PS)(no c:Nat)(x:Ln):zv (mv b st a its p) (ml no c x)=mv b st a its (zv p x):=by
 unfold zv
 rw[show qE (mv b st a its p) (ml no c x)=qE p x from rfl]
 split<;>rfl
theorem yS(b st a:Nat)(its:List It)(p:PS):jd (mv b st a its p)=mv b st a its (jd p):=by
 unfold jd
 rw[show(mv b st a its p).said=p.said from rfl]
 split<;>rfl
theorem yn(b st a:Nat)(its:List It)(p:PS)(hst:st<=399)(h:jh p=0):jh (mv b st a its p)=0:=by
 unfold jh at h ⊢
 rw[show(mv b st a its p).said=p.said from rfl]
 split
 ·rfl
 rename_i hs
 rw[if_neg hs]at h
 split
 ·rename_i hu;rw[if_pos hu]at h;exact absurd h hu
 rename_i hu
 rw[if_neg hu]at h
 have hf:xB p=false:=by
  cases hf:xB p with
  | false=>rfl
  | true=>rw[hf]at h;simp at h
 have:xB (mv b st a its p)=false:=by
  unfold xB at hf ⊢
  rw[show(mv b st a its p).fields=p.fields from rfl,show(mv b st a its p).stanzas=st from rfl]
  split
  ·have:st≠400:=by omega
   simpa using this
  rename_i hz
  rw[if_neg hz]at hf
  exact hf
 rw[this];rfl
theorem jfy(b st a:Nat)(its:List It)(p:PS)(no c:Nat)(x:Ln):zC (mv b st a its p) (ml no c x)=mv b st a its (zC p x):=by
 unfold zC
 rw[show qv (mv b st a its p) (ml no c x)=qv p x from rfl,jbz,yS]
 split<;>rfl
theorem jgU(t t':List UInt8)(b st a:Nat)(its:List It)(p:PS)(no c:Nat)(x:Ln)(hk:jz x.text≠1):∃b',xv t' (mv b st a its p) (ml no c x)=mv b' st a its (xv t p x):=by
 unfold xv
 rw[show(ml no c x).text=x.text from rfl,if_neg hk,if_neg hk]
 split
 ·exact⟨no,rfl⟩
 exact⟨b,rfl⟩
theorem jfz{t t':List UInt8}{b st a:Nat}{its:List It}{p q:PS}{no c:Nat}{x:Ln}(hst:st<=399)(hk:jz x.text≠1)(h:jW t p x=.ok q):∃b',jW t' (mv b st a its p) (ml no c x)=.ok (mv b' st a its q):=by
 obtain⟨h1,h2,rfl⟩:=vv h
 obtain⟨b',hb⟩:=jgU t t' b st a its (zC p x) no c x hk
 refine⟨b',?_⟩
 have hT:=yP (t:=t') (p:=mv b st a its p) (x:=ml no c x) (by rw[show qv (mv b st a its p) (ml no c x)=qv p x from rfl,jbz];exact fun he=>yn _ _ _ _ _ hst (h1 he)) h2
 rw[hT,jfy,hb]
def jih(ts said:List (List UInt8))(fields:List Fld):Prop :=
 ∀(t:List UInt8) (b st a no c:Nat) (its:List It),st<=399->∃b',qG t ⟨b,[],its,st,a,[]⟩ (num no c ts)=.ok ⟨b',said,its,st,a,fields⟩
structure Blk(it:It):Prop where
 kind:it.kind=if it.fields=[] then 2 else 3
 pos:it.raw≠[]
 does:∃ts said fields,it.raw=jk ts/\(∀l∈ts,(10:UInt8)∉l)/\jih ts said fields/\jh ⟨0,said,[],0,0,fields⟩=0/\(jd ⟨0,said,[],0,0,fields⟩).fields=it.fields
theorem Blk.kind1{it:It}(h:Blk it):it.kind≠1:=by
 rw[h.kind];split<;>decide
def zG:Bool->List It->List It
 | _,[]=>[]
 | b,x::r=>(if b=true/\x.kind≠1 then [⟨1,[10],[]⟩] else [])++x::zG (x.kind != 1) r
def zb(its:List It):List It:=zG false its
def Qj:Bool->List It->Bool
 | b,[]=>b
 | _,x::r=>Qj (x.kind != 1) r
theorem yM:∀(b:Bool) (l r:List It),zG b (l++r)=zG b l++zG (Qj b l) r
 | b,[],r=>rfl
 | b,x::l,r=>by
  show _++x::zG (x.kind != 1) (l++r)=(_++x::zG (x.kind != 1) l)++_
  rw[yM _ l r];simp[Qj]
theorem JA:∀(b:Bool) (l r:List It),Qj b (l++r)=Qj (Qj b l) r
 | b,[],r=>rfl
 | b,x::l,r=>JA _ l r
theorem vm:∀(ts:List (List UInt8)) (no c:Nat) (l:List UInt8),(∀x∈ts,(10:UInt8)∉x)->jF no c (jk ts++l)=num no c ts++jF (no+ts.length) (c+(jk ts).length) l
 | [],no,c,l,_=>rfl
 | x::r,no,c,l,h=>by
  have e:jk (x::r)++l=x++10::(jk r++l):=by unfold jk;simp
  have e3:(jk (x::r)).length=x.length+1+(jk r).length:=by unfold jk;simp;omega
  obtain⟨h1,h2⟩:=ZF x (jk r++l) (h x jis)
  have hu:zY (x++10::(jk r++l))=x.length+1:=by unfold zY;rw[h1,h2];rfl
  rw[e,jq _ _ _ (by simp),h1,h2,hu]
  have hd:(x++10::(jk r++l)).drop (x.length+1)=jk r++l:=by
   rw[show x++10::(jk r++l)=(x++[10])++(jk r++l) by simp]
   exact jjo (by simp)
  rw[hd,vm r _ _ l (fun y hy=>h y (jir _ hy)),e3,jin]
  rw[show no+1+r.length=no+(r.length+1) by omega,show c+(x.length+1)+(jk r).length=c+(x.length+1+(jk r).length) by omega]
  rfl
def jg4(t:List UInt8)(r:Res PS):Res (List It):=match r with | .error e=>.error e | .ok q=>Xc t q
theorem jbo(t:List UInt8):jA t=jg4 t (qG t PS.new (jg t)):=rfl
theorem Jh(t:List UInt8)(p q:PS)(a b:List Ln)(h:qG t p a=.ok q):jg4 t (qG t p (a++b))=jg4 t (qG t q b):=by
 rw[qr,h]
theorem Blk.ends{it:It}{said:List (List UInt8)}{fields:List Fld}(hk:it.kind=if it.fields=[] then 2 else 3)(h0:jh ⟨0,said,[],0,0,fields⟩=0)(hf:(jd ⟨0,said,[],0,0,fields⟩).fields=it.fields)
  (t:List UInt8) (b st a e:Nat) (its:List It) (hst:st<=399) (hr:(t.take e).drop a=it.raw) (hae:a<e) :
  jh ⟨b,said,its,st,a,fields⟩=0/\(jr t (jd ⟨b,said,its,st,a,fields⟩) e).items=its++[it]/\(jr t (jd ⟨b,said,its,st,a,fields⟩) e).stanzas<=st+1/\(jr t (jd ⟨b,said,its,st,a,fields⟩) e).said=[]/\(jr t (jd ⟨b,said,its,st,a,fields⟩) e).fields=[]/\(jr t (jd ⟨b,said,its,st,a,fields⟩) e).at_=e:=by
 have e0:=yn b st a its ⟨0,said,[],0,0,fields⟩ hst h0
 have e1:=yS b st a its ⟨0,said,[],0,0,fields⟩
 refine⟨e0,?_⟩
 rw[show(⟨b,said,its,st,a,fields⟩:PS)=mv b st a its ⟨0,said,[],0,0,fields⟩ from rfl,e1]
 have es:=xG ⟨0,said,[],0,0,fields⟩
 generalize jd ⟨0,said,[],0,0,fields⟩=p at *
 unfold jr
 rw[show(mv b st a its p).at_=a from rfl,show(mv b st a its p).fields=p.fields from rfl,hf,if_neg (by omega)]
 split
 ·rename_i hz
  rw[if_pos (List.length_eq_zero_iff.1 hz)]at hk
  refine⟨?_,by show st<=st+1;omega,es,rfl,rfl⟩
  show its++[⟨(2:Nat),(t.take e).drop a,p.fields⟩]=_
  rw[hr,hf]
  obtain⟨k,r,f⟩:=it
  simp only at hk ⊢
  rw[hk];rfl
 rename_i hz
 rw[if_neg (fun h=>hz (by rw[h];rfl))]at hk
 refine⟨?_,by show st+1<=st+1;omega,es,rfl,rfl⟩
 show its++[⟨(3:Nat),(t.take e).drop a,p.fields⟩]=_
 rw[hr,hf]
 obtain⟨k,r,f⟩:=it
 simp only at hk ⊢
 rw[hk];rfl
theorem Uc(t:List UInt8):∀(bs:List It) (x:It) (b st no c:Nat) (its:List It),st+(x::bs).length<=400->(∀it∈x::bs,Blk it)->t.drop c=(zb (x::bs)).flatMap It.raw->c<=t.length ->
  jg4 t (qG t ⟨b,[],its,st,c,[]⟩ (jF no c (t.drop c)))=.ok (its++zb (x::bs))
 | [],x,b,st,no,c,its,hst,hb,ht,hct=>by
  have bx:=hb x jis
  have hp:=bx.pos
  have hk:=bx.kind
  obtain⟨ts,said,fields,d1,d2,d3,d4,d5⟩:=bx.does
  have ht':t.drop c=x.raw:=by rw[ht];simp[zb,zG]
  have hlen:c+x.raw.length=t.length:=by have:=congrArg List.length ht';simp at this;omega
  have hpos:0<x.raw.length:=List.length_pos_iff.2 hp
  obtain⟨b',hr⟩:=d3 t b st c no c its (by simp at hst;omega)
  rw[ht',d1,<- jiO (jk ts),vm ts no c [] d2,Jh _ _ _ _ _ hr,jn]
  obtain⟨k1,k2,_⟩:=Blk.ends hk d4 d5 t b' st c t.length its (by simp at hst;omega) (by rw[jiL,ht']) (by omega)
  show Xc t _=_
  unfold Xc
  rw[k1,if_neg (by simp),k2]
  simp[zb,zG]
 | y::bs,x,b,st,no,c,its,hst,hb,ht,hct=>by
  have bx:=hb x jis
  have by_:=hb y (jir _ jis)
  have hp:=bx.pos
  have hk:=bx.kind
  obtain⟨ts,said,fields,d1,d2,d3,d4,d5⟩:=bx.does
  have hpos:0<x.raw.length:=List.length_pos_iff.2 hp
  have hap:zb (x::y::bs)=x::⟨1,[10],[]⟩::zb (y::bs):=by
   have hx1:(x.kind != 1)=true:=by have:=bx.kind1;simpa using this
   show([]:List It)++x::((if (x.kind != 1)=true/\y.kind≠1 then [(⟨1,[10],[]⟩:It)] else [])++y::zG (y.kind != 1) bs)=_
   rw[if_pos ⟨hx1,by_.kind1⟩]
   simp[zb,zG]
  rw[hap]at ht ⊢
  have ht':t.drop c=x.raw++(10::(zb (y::bs)).flatMap It.raw):=by rw[ht];simp
  generalize hR:(zb (y::bs)).flatMap It.raw=R at *
  have hlen:c+x.raw.length+1+R.length=t.length:=by have:=congrArg List.length ht';simp at this;omega
  simp only[jin]at hst
  obtain⟨b',hr⟩:=d3 t b st c no c its (by omega)
  have hde:t.drop (c+x.raw.length+1)=R:=by
   rw[jjE,<- jjC,ht',show x.raw++10::R=(x.raw++[10])++R by simp]
   exact jjo (by simp)
  have htk:(t.take (c+x.raw.length)).drop c=x.raw:=by
   rw[List.take_add,ht',List.drop_append_of_le_length (by rw[jiq];omega),jjf (by rw[jiq];omega)];simp
  have htb:(t.take (c+x.raw.length+1)).drop (c+x.raw.length)=[10]:=by
   rw[List.take_add,List.drop_append_of_le_length (by rw[jiq];omega),jjf (by rw[jiq];omega),<- jjC,ht']
   simp
  have e10:(10::R)=jk [[]]++R:=rfl
  rw[ht',e10]
  conv=>lhs;rw[d1]
  rw[vm ts no c _ d2,Jh _ _ _ _ _ hr,vm [[]] _ _ _ (by intro z hz;rw[List.mem_singleton.1 hz];simp),<- d1]
  have k1:jz []=1:=by decide
  obtain⟨z1,z2,z3,z4,z5,z6⟩:=Blk.ends hk d4 d5 t b' st c (c+x.raw.length) its (by omega) htk (by omega)
  have tk:=YE (t:=t) (p:=⟨b',said,its,st,c,fields⟩) (no:=no+ts.length) (c:=c+x.raw.length) (l:=[]) (by rw[k1];decide) (by rw[k1];decide) z1
  have hput:xv t (jd ⟨b',said,its,st,c,fields⟩) ⟨no+ts.length,c+x.raw.length,[],true⟩=jY t (jr t (jd ⟨b',said,its,st,c,fields⟩) (c+x.raw.length)) 1 (c+x.raw.length+1):=by
   unfold xv
   rw[if_neg (by show ¬jz []=4;rw[k1];decide),if_pos k1];rfl
  rw[hput]at tk
  generalize jr t (jd ⟨b',said,its,st,c,fields⟩) (c+x.raw.length)=p at *
  have hp2:jY t p 1 (c+x.raw.length+1)=⟨p.begin_,[],its++[x]++[⟨1,[10],[]⟩],p.stanzas,c+x.raw.length+1,[]⟩:=by
   unfold jY
   rw[z2,z4,z5,z6,htb];rfl
  rw[hp2]at tk
  have hrun:qG t ⟨b',said,its,st,c,fields⟩ (num (no+ts.length) (c+x.raw.length) [[]])=.ok ⟨p.begin_,[],its++[x]++[⟨1,[10],[]⟩],p.stanzas,c+x.raw.length+1,[]⟩:=by
   show qG t _ (⟨no+ts.length,c+x.raw.length,[],true⟩::[])=_
   rw[JV tk];rfl
  rw[Jh _ _ _ _ _ hrun]
  have ih:=Uc t bs y p.begin_ p.stanzas (no+ts.length+1) (c+x.raw.length+1) (its++[x]++[⟨1,[10],[]⟩]) (by simp only[jin];omega) (fun it hi=>hb it (jir _ hi)) (by rw[hde,hR]) (by omega)
  rw[hde]at ih
  show jg4 t (qG t _ (jF (no+ts.length+1) (c+x.raw.length+1) R))=_
  rw[ih];simp
theorem VO(bs:List It)(hn:bs.length<=400)(hb:∀it∈bs,Blk it):jA ((zb bs).flatMap It.raw)=.ok (zb bs):=by
 cases bs with
 | nil=>rfl
 | cons x bs =>
 rw[jbo]
 have:=Uc ((zb (x::bs)).flatMap It.raw) bs x 0 0 0 0 [] (by rw[jiP];exact hn) hb rfl (jiD _)
 exact this
theorem jaw(fs:List Fld)(hg:∀f∈fs,jR f.1=true/\f.2.length<=1000)(h0:fs≠[])(hl:fs.length<=40):Blk ⟨3,jk (jp fs),fs⟩:=by
 have hclean:∀l∈jp fs,(10:UInt8)∉l:=by
  intro l hl
  unfold jp at hl
  obtain⟨f,hf1,hf2⟩:=List.mem_flatMap.1 hl
  exact Jy _ (hg f hf1).1 l hf2
 have hne:jk (jp fs)≠[]:=by
  cases fs with
  | nil=>exact absurd rfl h0
  | cons f r =>
  obtain⟨x,r',e,_⟩:=yU (v:=f.2) (hg f jis).1
  unfold jp
  rw[jiy,e]
  unfold jk;simp
 obtain⟨q,q1,q2,q3,q4,q5,q6⟩:=Qy [] fs PS.new 0 0 rfl hg (by show 0+fs.length<=40;omega) (by decide)
 have hany:∀(t:List UInt8) (b st a no c:Nat) (its:List It),st<=399->∃b',qG t ⟨b,[],its,st,a,[]⟩ (num no c (jp fs))=.ok ⟨b',q.said,its,st,a,q.fields⟩:=by
  have key:∀(ts:List (List UInt8)) (p q:PS) (n0 c0:Nat),(∀l∈ts,jz l≠1)->qG [] p (num n0 c0 ts)=.ok q->∀(t:List UInt8) (b st a no c:Nat) (its:List It),st<=399->∃b',qG t (mv b st a its p) (num no c ts)=.ok (mv b' st a its q):=by
   intro ts
   induction ts with
   | nil=>intro p q n0 c0 _ h t b st a no c its _;cases h;exact⟨b,rfl⟩
   | cons l r ih =>
   intro p q n0 c0 hk h t b st a no c its hst
   have h':(match jW [] p ⟨n0,c0,l,true⟩ with | .error e=>Except.error e | .ok q'=>qG [] q' (num (n0+1) (c0+l.length+1) r))=.ok q:=h
   cases ht:jW [] p ⟨n0,c0,l,true⟩ with
   | error e=>rw[ht]at h';cases h'
   | ok p1 =>
   rw[ht]at h'
   obtain⟨b1,hb1⟩:=jfz (t':=t) (b:=b) (st:=st) (a:=a) (its:=its) (no:=no) (c:=c) hst (by exact hk l jis) ht
   obtain⟨b2,hb2⟩:=ih p1 q _ _ (fun y hy=>hk y (jir _ hy)) h' t b1 st a (no+1) (c+l.length+1) its hst
   refine⟨b2,?_⟩
   show qG t _ (⟨no,c,l,true⟩::num (no+1) (c+l.length+1) r)=_
   rw[JV (by exact hb1)]
   exact hb2
  have hkinds:∀l∈jp fs,jz l≠1:=by
   intro l hl
   unfold jp at hl
   obtain⟨f,hf1,hf2⟩:=List.mem_flatMap.1 hl
   obtain⟨x,r,e,kx,kr⟩:=yU (v:=f.2) (hg f hf1).1
   rw[e]at hf2
   rcases List.mem_cons.1 hf2 with rfl|h
   ·rw[kx];decide
   rw[kr l h];decide
  intro t b st a no c its hst
  exact key (jp fs) PS.new q 0 0 hkinds q1 t b st a no c its hst
 refine⟨by rw[if_neg h0],hne,jp fs,q.said,q.fields,rfl,hclean,hany,yn 0 0 0 [] q (by decide) q2,?_⟩
 have:=yS 0 0 0 [] q
 rw[show(⟨0,q.said,[],0,0,q.fields⟩:PS)=mv 0 0 0 [] q from rfl,this]
 show(jd q).fields=fs
 rw[q3];rfl
end Go.Proofs.YtimfhnfcmhmjcaaGreatDoor
namespace Go.Proofs.YtimfhnfcmhmjcaaGreatDoor
open Go.RowKit Go.WideShapes Go.ChangeAt Go.ChangeShapes
theorem vf{B:Nat}{a w:World}(h:Below B a w)(n:Nat):Below B a (w.drewN n):=⟨h.os,h.tape,h.output,h.size,h.block⟩
def Strs(w:World)(v:Value)(ss:List ByteArray):Prop :=
 ∃A cap,v=.slice A ss.length cap/\ss.length<=cap/\∀(i:Nat) (s:ByteArray),ss[i]?=some s->∃b off,A=some ⟨b,off,none⟩/\b<w.heap.size/\w.cell? ⟨b,off+i,none⟩=some (.string s)
theorem Strs.below{w w':World}{v:Value}{ss:List ByteArray}{n:Nat}(h:Strs w v ss)(hb:Below n w w')(hn:w.heap.size<=n):Strs w' v ss:=by
 obtain⟨A,cap,hv,hle,hc⟩:=h
 refine⟨A,cap,hv,hle,fun i s hs => ?_⟩
 obtain⟨b,off,hA,hlt,hcell⟩:=hc i s hs
 exact⟨b,off,hA,jiF hlt hb.size,(hb.cell (p:=⟨b,off+i,none⟩) (jiF hlt hn)).trans hcell⟩
theorem Strs.alloc{w:World}{v:Value}{ss:List ByteArray}(h:Strs w v ss)(o:Obj):Strs (w.alloc o) v ss :=
 h.below ((jil w.heap.size w).alloc (jij _) o) (jij _)
theorem Strs.none(w:World)(c:Nat):Strs w (.slice none 0 c) []:=⟨_,c,rfl,jiD _,fun i s h=>by simp at h⟩
def B(l:List UInt8):ByteArray:=⟨l.toArray⟩
theorem jo(l:List UInt8):(B l).data.toList=l:=by simp[B]
theorem jc4(s:ByteArray):B s.data.toList=s:=by cases s;simp[B]
theorem jm(l:List UInt8):(B l).size=l.length:=by simp[B,ByteArray.size]
theorem jE(a b:List UInt8):B a++B b=B (a++b):=by
 apply jkc;simp[B]
def xl(n:Nat):Value:=if n=0 then .nilIface else .iface 54 (.int .i64 (n:Int))
theorem zV:xl 0=.nilIface:=rfl
theorem Xs:xl 2=.iface 54 (.int .i64 2):=rfl
theorem jg6:xl 5=.iface 54 (.int .i64 5):=rfl
theorem jeS:xl 6=.iface 54 (.int .i64 6):=rfl
theorem jQ(n:Nat)(h:0<n):xl n=.iface 54 (.int .i64 (n:Int)):=by unfold xl;rw[if_neg (by omega)]
attribute [local go_sem] zV
theorem jcN(n:Int)(w:World):(Instr.typeAssert (.iface 54 (.int .i64 n)) 32 54 true).run Tryz.prog w=.ok (.tuple #[.int .i64 n,.bool true]) w:=by kernel_rfl
attribute [local go_sem] jcN
end Go.Proofs.YtimfhnfcmhmjcaaGreatDoor
namespace Go.Proofs.YtimfhnfcmhmjcaaGreatDoor
open Go.RowKit
def yH(w:World)(v:Value)(fs:List (List UInt8×List UInt8)):Prop :=
 ∃A cap,v=.slice A fs.length cap/\fs.length<=cap/\∀(i:Nat) (f:List UInt8×List UInt8),fs[i]?=some f->∃b off,A=some ⟨b,off,none⟩/\b<w.heap.size/\w.cell? ⟨b,off+i*2,none⟩=some (.string (B f.1))/\w.cell? ⟨b,off+i*2+1,none⟩=some (.string (B f.2))
theorem yH.below{w w':World}{v:Value}{fs:List (List UInt8×List UInt8)}{n:Nat}(h:yH w v fs)(hb:Below n w w')(hn:w.heap.size<=n):yH w' v fs:=by
 obtain⟨A,cap,hv,hle,hc⟩:=h
 refine⟨A,cap,hv,hle,fun i s hs => ?_⟩
 obtain⟨b,off,hA,hlt,c0,c1⟩:=hc i s hs
 exact⟨b,off,hA,jiF hlt hb.size,(hb.cell (p:=⟨b,off+i*2,none⟩) (jiF hlt hn)).trans c0,(hb.cell (p:=⟨b,off+i*2+1,none⟩) (jiF hlt hn)).trans c1⟩
def js(fs:List (List UInt8×List UInt8)):List Value:=fs.flatMap fun f=>[.string (B f.1),.string (B f.2)]
theorem yE:∀fs,(js fs).length=fs.length*2
 | []=>rfl
 | f::r=>by
  have:=yE r
  show(Value.string (B f.1)::Value.string (B f.2)::js r).length=_
  simp only[jin,this];omega
theorem ZW:∀(fs:List (List UInt8×List UInt8)) (i:Nat) (f:List UInt8×List UInt8),fs[i]?=some f->(js fs)[i*2]?=some (.string (B f.1))/\(js fs)[i*2+1]?=some (.string (B f.2))
 | [],i,f,h=>by simp at h
 | a::r,0,f,h=>by simp at h;subst h;exact⟨rfl,rfl⟩
 | a::r,i+1,f,h=>by
  have ih:=ZW r i f (by simpa using h)
  have e:js (a::r)=Value.string (B a.1)::Value.string (B a.2)::js r:=rfl
  rw[e,show(i+1)*2=i*2+1+1 by omega]
  simpa using ih
theorem Kq:(Tryz.prog.info? 155).map (fun i=>(i.zero,i.size,i.bytes))=some (some (.agg #[.string ⟨#[]⟩,.string ⟨#[]⟩]),2,32):=by kernel_rfl
theorem vR{w:World}{base:Nat}{v:Value}{fs:List (List UInt8×List UInt8)}(h:w.ownsRow base 155 2 v fs.length (js fs)):yH w v fs:=by
 rcases jjd h with ⟨rfl,hn⟩|⟨g,cap,rfl⟩
 ·have:fs=[]:=by cases fs with | nil=>rfl | cons _ _=>simp at hn
  subst this
  exact⟨none,0,rfl,jij _,fun i f h=>by simp at h⟩
 refine⟨_,cap,rfl,(by rcases h.2 with ⟨q,_⟩ | ⟨g',cap',cur,q,_,_,q2,_⟩;cases q;cases q;exact q2),fun i f hf=>⟨g,0,rfl,(jjr h g rfl).2,?_⟩⟩
 have hi:i<fs.length:=by
  rcases jiK i fs.length with q|q
  ·exact q
  rw[jiW q]at hf;cases hf
 obtain⟨a,b⟩:=ZW fs i f hf
 rw[jiP,jiG h (i*2) (by omega),jiG h (i*2+1) (by omega)]
 exact⟨a,b⟩
end Go.Proofs.YtimfhnfcmhmjcaaGreatDoor
namespace Go.RowKit
end Go.RowKit
namespace Go.Proofs.YtimfhnfcmhmjcaaGreatDoor
open Go.RowKit
structure jB(S:Nat->Prop)(W W':World):Prop where
 os:W'.os=W.os
 tape:W'.tape=W.tape
 output:W'.output=W.output
 size:W.heap.size<=W'.heap.size
 same:∀r,r<W.heap.size->¬S r->W'.heap[r]?=W.heap[r]?
section
variable {S:Nat->Prop} {X Y Z:World}
theorem jB.refl(S:Nat->Prop)(W:World):jB S W W:=⟨rfl,rfl,rfl,jij _,fun _ _ _=>rfl⟩
theorem jB.trans{S':Nat->Prop}(h:jB S X Y)(g:jB S' Y Z)(hs:∀r,r<X.heap.size->S' r->S r):jB S X Z :=
 ⟨g.os.trans h.os,g.tape.trans h.tape,g.output.trans h.output,jiI h.size g.size,fun r a b=>(g.same r (jiF a h.size) (fun c=>b (hs r a c))).trans (h.same r a b)⟩
theorem jB.alloc(h:jB S X Y)(o:Obj):jB S X (Y.alloc o) :=
 ⟨h.os,h.tape,h.output,by simp;have:=h.size;omega,fun r a b=>(jjv _ _ _ (jiF a h.size)).trans (h.same r a b)⟩
theorem jB.setCell(h:jB S X Y){p:Addr}(hp:S p.block\/X.heap.size<=p.block)(u:Value):jB S X (Y.setCell p u) :=
 ⟨h.os,h.tape,h.output,by simp only[World.setCell,Array.size_modify];exact h.size,fun r a b=>(jiS _ _ _ _ (by rintro rfl;rcases hp with hp | hp;exact b hp;omega)).trans (h.same r a b)⟩
theorem jB.cellS{p:Nat}(h:jB (· = p) X Y)(o:Nat)(u:Value):jB (· = p) X (Y.setCell ⟨p,o,none⟩ u):=h.setCell (p:=⟨p,o,none⟩) (.inl rfl) u
theorem jB.drew(h:jB S X Y):jB S X Y.drew:=⟨h.os,h.tape,h.output,h.size,h.same⟩
theorem jB.drewN(h:jB S X Y)(n:Nat):jB S X (Y.drewN n):=⟨h.os,h.tape,h.output,h.size,h.same⟩
theorem jB.grown(h:jB S X Y){row:Option Nat}(g:Y.grownBy Z row)(hr:∀k,row=some k->S k\/X.heap.size<=k):jB S X Z :=
 ⟨g.os.trans h.os,g.tape.trans h.tape,g.output.trans h.output,jiI h.size g.size,fun r a b=>(g.block r (jiF a h.size) (fun e=>by rcases hr r e.symm with c | c;exact b c;omega)).trans (h.same r a b)⟩
theorem jB.below(h:jB S X Y){B:Nat}(g:Below B Y Z)(hB:X.heap.size<=B):jB S X Z :=
 ⟨g.os.trans h.os,g.tape.trans h.tape,g.output.trans h.output,jiI h.size g.size,fun r a b=>(g.block r (by omega)).trans (h.same r a b)⟩
theorem jB.to_below(h:jB S X Y){B:Nat}(hB:B<=X.heap.size)(hs:∀r,r<B->¬S r):Below B X Y :=
 ⟨h.os,h.tape,h.output,h.size,fun r a=>h.same r (by omega) (hs r a)⟩
theorem jB.of_below{B:Nat}(g:Below B X Y)(hB:X.heap.size<=B):jB S X Y:=(jB.refl S X).below g hB
theorem jB.mono{S':Nat->Prop}(h:jB S X Y)(hs:∀r,r<X.heap.size->S r->S' r):jB S' X Y:=⟨h.os,h.tape,h.output,h.size,fun r a b=>h.same r a (fun c=>b (hs r a c))⟩
end
theorem jP{W W':World}{base:Nat}{e:TypeId}{size:Nat}{v:Value}{n:Nat}{xs:List Value}(h:W.ownsRow base e size v n xs)(hs:∀b,v.ownBlock=some b->W'.heap[b]?=W.heap[b]?):W'.ownsRow base e size v n xs:=by
 refine⟨h.1,?_⟩
 rcases h.2 with hn|⟨g,cap,cur,rfl,hbase,hg,rest⟩
 ·exact .inl hn
 exact .inr ⟨g,cap,cur,rfl,hbase,(hs g rfl).trans hg,rest⟩
theorem jJ{W W':World}{S:Nat->Prop}{base:Nat}{e:TypeId}{size:Nat}{v:Value}{n:Nat}{xs:List Value}(h:W.ownsRow base e size v n xs)(g:jB S W W')(hs:∀b,v.ownBlock=some b->¬S b):W'.ownsRow base e size v n xs :=
 jP h fun b hb=>g.same b (h.lt b hb).2 (hs b hb)
theorem zn{W W':World}{B:Nat}{base:Nat}{e:TypeId}{size:Nat}{v:Value}{n:Nat}{xs:List Value}(h:W.ownsRow base e size v n xs)(g:Below B W W')(hB:W.heap.size<=B):W'.ownsRow base e size v n xs :=
 jP h fun b hb=>g.block b (jiF (h.lt b hb).2 hB)
theorem jv{W:World}{base:Nat}{e:TypeId}{size:Nat}{v:Value}{n:Nat}{xs:List Value}(h:W.ownsRow base e size v n xs){p:Addr}(hp:v.ownBlock≠some p.block)(u:Value):(W.setCell p u).ownsRow base e size v n xs :=
 jP h fun b hb=>jiS _ _ _ _ (fun e=>hp (by rw[hb,e]))
def ja(W:World)(b:Nat)(t:TypeId)(cur:Array Value):Prop:=W.heap[b]?=some (.cells cur t (0,0))
section
variable {W W':World} {b:Nat} {t:TypeId} {cur:Array Value}
theorem ja.lt(h:ja W b t cur):b<W.heap.size:=(Array.getElem?_eq_some_iff.1 (show W.heap[b]?=_ from h)).1
theorem ja.new(W:World)(t:TypeId)(cur:Array Value):ja (W.alloc (.cells cur t)) W.heap.size t cur:=heap_alloc_new W _
theorem ja.alloc(h:ja W b t cur)(o:Obj):ja (W.alloc o) b t cur:=(jjv _ _ _ h.lt).trans h
theorem ja.drewN(h:ja W b t cur)(n:Nat):ja (W.drewN n) b t cur:=h
theorem ja.drew(h:ja W b t cur):ja W.drew b t cur:=h
theorem ja.other(h:ja W b t cur){p:Addr}(hp:b≠p.block)(u:Value):ja (W.setCell p u) b t cur:=(jiS _ _ _ _ hp).trans h
theorem ja.set(h:ja W b t cur)(i:Nat)(u:Value):ja (W.setCell ⟨b,i,none⟩ u) b t (cur.setIfInBounds i u):=by
 obtain⟨hlt,hk⟩:=Array.getElem?_eq_some_iff.1 (show W.heap[b]?=_ from h)
 show(W.heap.modify b _)[b]?=_
 rw[ji7 (by rw[Array.size_modify];exact hlt),Array.getElem_modify_self,hk]
 rfl
theorem ja.cell(h:ja W b t cur)(i:Nat):W.cell? ⟨b,i,none⟩=cur[i]?:=by
 simp[World.cell?,show W.heap[b]?=_ from h]
theorem ja.frozen(h:ja W b t cur)(i:Nat):W.frozen? ⟨b,i,none⟩=false:=by
 simp[World.frozen?,show W.heap[b]?=_ from h]
theorem ja.only{S:Nat->Prop}(h:ja W b t cur)(g:jB S W W')(hb:¬S b):ja W' b t cur:=(g.same b h.lt hb).trans h
theorem ja.below{B:Nat}(h:ja W b t cur)(g:Below B W W')(hb:b<B):ja W' b t cur:=(g.block b hb).trans h
end
theorem zm{P:Program}{ops:Array Oper}{o:Oper}{a:Act}{w:World}{K:Act->World->Prop}{Q:Exit->Act->World->Prop}{E:Prop}
  (hg:o.guard=none) (s x:Operand) (t:TypeId) (hop:o.op=Op.call {callee:=Callee.builtin Builtin.append,args:=#[s,x],argTypes:=#[t,t]})
  (e:TypeId) (i:TypeInfo) (z:Value) (size bytes:Nat) (ht:P.underlying t=some (.slice e)) (hi:P.info? e=some i) (hz:i.zero=some z)
  (hsize:i.size=size) (hby:i.bytes=bytes) (hzs:z.cells.size=size) (hsz:0<size)
  (v:Value) (n:Nat) (xs:List Value) (hs:a.eval s=v) (hown:w.ownsRow 0 e size v n xs)
  (ad:Addr) (m c:Nat) (news:List Value) (hx:a.eval x=.slice (some ad) m c) (hl:news.length=m*size) (hnews:∀j u,news[j]?=some u->w.cell? (ad.add j)=some u) (h1:∀u∈news,u.oneCell'=true)
  (h63:n+m<=maxLen) (hbytes:(n+m)*bytes<=140737488355328)
  (hK:∀v' w',w'.ownsRow 0 e size v' (n+m) (xs++news)->w.grownBy w' v.ownBlock->(v'.ownBlock=v.ownBlock\/v'.ownBlock=some w.heap.size)->K (a.put o.dst v') w') :
  if Region.wanted o (yielded ops a.tmps)=true then Oper.wp P o a w K Q else E:=by
 have hw:Region.wanted o (yielded ops a.tmps)=true:=by simp[Region.wanted,hg]
 rw[if_pos hw]
 obtain⟨v',w',hr,h2,h3,h4,h5⟩:=run_append_own_at (P:=P) w 0 t o.type e i z size bytes ht hi hz hsize hby hzs hsz v n xs hown ad m c news hl hnews h1 h63 hbytes (jiD _)
 unfold Oper.wp
 simp[execOp,hop,resolve,invoke,builtin,hs,hx,hr,Result.andThen]
 exact hK v' w' h2 h3 h5
theorem jV(w:World)(t:TypeId)(cs:List Value):∀j u,cs[j]?=some u->(w.alloc (.cells cs.toArray t)).cell? ((⟨w.heap.size,0,none⟩:Addr).add j)=some u:=by
 intro j u hj
 have:=(ja.new w t cs.toArray).cell j
 have e:(⟨w.heap.size,0,none⟩:Addr).add j=⟨w.heap.size,j,none⟩:=by unfold Addr.add;split<;>simp_all
 rw[e,this,jiv,hj]
theorem YK{w:World}{base:Nat}{e:TypeId}{size:Nat}{v:Value}{n:Nat}{xs:List Value}(h:w.ownsRow base e size v (n+1) xs):∃g cap,v=.slice (some ⟨g,0,none⟩) (n+1) cap:=by
 rcases h.2 with ⟨_,h⟩|⟨g,cap,_,h,_⟩
 ·omega
 exact⟨g,cap,h⟩
theorem xM{w W w':World}{g:Nat}{t:TypeId}{cur:Array Value}(hg:ja w g t cur){vw v':Value}{n:Nat}{xs A:List Value}{e:TypeId}{size:Nat}(hown:w.ownsRow 0 e size vw n xs)(hne:vw.ownBlock≠some g)
  (hb:Below w.heap.size w W) (ho:w'.ownsRow 0 e size v' (n+1) (xs++A)) (hgr:W.grownBy w' vw.ownBlock) (hbk:v'.ownBlock=vw.ownBlock\/v'.ownBlock=some W.heap.size) :
  (∃g' cap,v'=.slice (some ⟨g',0,none⟩) (n+1) cap)/\ja w' g t cur/\(∀r,w.heap.size<=r->r<W.heap.size->w'.heap[r]?=W.heap[r]?) /\
   (v'.ownBlock=vw.ownBlock\/∃k,v'.ownBlock=some k/\w.heap.size<=k/\k<w'.heap.size)/\jB (fun r=>some r=vw.ownBlock) w w':=by
 have hs:=hb.size
 refine⟨YK ho,(hgr.block g (jiF hg.lt hs) (fun e=>hne e.symm)).trans ((hb.block g hg.lt).trans hg),fun r h1 h2=>hgr.block r h2 (fun e => ?_),?_,?_⟩
 ·have:=(hown.lt r e.symm).2;omega
 ·rcases hbk with h|h
  ·exact .inl h
  exact .inr ⟨_,h,hs,(ho.lt _ h).2⟩
 exact(jB.of_below hb (jij _)).grown hgr (fun k hk=>.inl hk.symm)
def zD(T:Nat->Nat)(o:Option Nat)(t:Nat):Prop:=∀b,o=some b->T b=t
def Qi(T:Nat->Nat)(lo:Nat)(o:Option Nat)(t:Nat):Nat->Nat:=fun b=>if lo<=b/\o=some b then t else T b
def vZ(lo hi:Nat)(a b:Option Nat):Prop:=b=a\/∃k,b=some k/\lo<=k/\k<hi
theorem qX{T:Nat->Nat}{lo:Nat}{o:Option Nat}{t b:Nat}(h:b<lo):Qi T lo o t b=T b:=by
 unfold Qi;rw[if_neg (by omega)]
theorem xV{T:Nat->Nat}{lo hi:Nat}{a b:Option Nat}{t:Nat}(h:vZ lo hi a b)(ha:zD T a t):zD (Qi T lo b t) b t:=by
 intro k hk
 unfold Qi
 split
 ·rfl
 rename_i hn
 rcases h with h|⟨j,h,h1,_⟩
 ·exact ha k (by rw[<- h];exact hk)
 rw[h]at hk;cases hk;exact absurd ⟨h1,h⟩ hn
theorem zE{T:Nat->Nat}{lo:Nat}{o c:Option Nat}{t u:Nat}(hc:zD T c u)(hl:∀k,c=some k->k<lo):zD (Qi T lo o t) c u:=by
 intro k hk;rw[qX (hl k hk)];exact hc k hk
structure PV where
 v1:Value
 v3:Value
 v6:Value
 fvs:List Value
def vk(p:PS)(text:ByteArray)(v1 v3 v6:Value):Array Value:=#[.int .i64 p.begin_,v1,.string text,v3,.int .i64 p.stanzas,.int .i64 p.at_,v6]
def yp(it:It)(v:Value):List Value:=[.int .i64 it.kind,.string (B it.raw),v]
def jN:List It->List Value->List Value
 | it::l,v::vs=>yp it v++jN l vs
 | _,_=>[]
theorem vd:∀(l:List It) (vs:List Value) (it:It) (v:Value),vs.length=l.length->jN (l++[it]) (vs++[v])=jN l vs++yp it v
 | [],[],it,v,_=>by simp[jN]
 | [],_::_,_,_,h=>by simp at h
 | a::l,[],it,v,h=>by simp at h
 | a::l,u::vs,it,v,h=>by
  have:=vd l vs it v (by simpa using h)
  simp only[jiz,jN,this,jix]
theorem qh:∀(l:List It) (vs:List Value) (i:Nat) (it:It) (v:Value),l[i]?=some it->vs[i]?=some v->(jN l vs)[i*3]?=some (.int .i64 it.kind)/\(jN l vs)[i*3+1]?=some (.string (B it.raw))/\(jN l vs)[i*3+1+1]?=some v
 | [],_,i,it,v,h,_=>by simp at h
 | a::l,[],i,it,v,_,h=>by simp at h
 | a::l,u::vs,0,it,v,h,h'=>by simp at h h';subst h h';exact⟨rfl,rfl,rfl⟩
 | a::l,u::vs,i+1,it,v,h,h'=>by
  obtain⟨x,y,z⟩:=qh l vs i it v (by simpa using h) (by simpa using h')
  have e:jN (a::l) (u::vs)=.int .i64 a.kind :: .string (B a.raw)::u::jN l vs:=rfl
  have k:(i+1)*3=i*3+1+1+1:=by omega
  have k1:i*3+1+1+1+1=(i*3+1)+1+1+1:=by omega
  have k2:i*3+1+1+1+1+1=(i*3+1+1)+1+1+1:=by omega
  rw[e,k]
  refine⟨?_,?_,?_⟩
  ·rw[jio,jio,jio];exact x
  ·rw[k1,jio,jio,jio];exact y
  rw[k2,jio,jio,jio];exact z
theorem KK(l:List Fld)(f:Fld):js (l++[f])=js l++[.string (B f.1),.string (B f.2)]:=by unfold js;simp
def qf(l:List (List UInt8)):List Value:=l.map fun x=>.string (B x)
structure jx(w:World)(T:Nat->Nat)(R b:Nat)(text:ByteArray)(p:PS)(V:PV):Prop where
 cells:ja w b 187 (vk p text V.v1 V.v3 V.v6)
 tp:T b=1
 r1:w.ownsRow 0 9 1 V.v1 p.said.length (qf p.said)
 t1:zD T V.v1.ownBlock 2
 r3:w.ownsRow 0 111 3 V.v3 p.items.length (jN p.items V.fvs)
 t3:zD T V.v3.ownBlock 3
 r6:w.ownsRow 0 155 2 V.v6 p.fields.length (js p.fields)
 t6:zD T V.v6.ownBlock 4
 nf:V.fvs.length=p.items.length
 rf:∀(i:Nat) (it:It) (v:Value),p.items[i]?=some it->V.fvs[i]?=some v->w.ownsRow 0 155 2 v it.fields.length (js it.fields)/\zD T v.ownBlock 5
 low:∀k,T k≠0->R<=k/\k<w.heap.size
def jf(w:World)(T:Nat->Nat)(R b:Nat)(text:ByteArray)(p:PS):Prop:=∃V,jx w T R b text p V
structure jH(w:World)(T:Nat->Nat)(w':World)(T':Nat->Nat):Prop where
 only:jB (fun r=>T r≠0) w w'
 old:∀r,r<w.heap.size->(T' r=0↔T r=0)
theorem jH.refl(w:World)(T:Nat->Nat):jH w T w T:=⟨jB.refl _ _,fun _ _=>Iff.rfl⟩
theorem jH.trans{w w1 w2:World}{T T1 T2:Nat->Nat}(h:jH w T w1 T1)(g:jH w1 T1 w2 T2):jH w T w2 T2 :=
 ⟨h.only.trans g.only (fun r hr hn=>fun e=>hn ((h.old r hr).2 e)),fun r hr=>(g.old r (jiF hr h.only.size)).trans (h.old r hr)⟩
theorem jH.below{w w':World}{T:Nat->Nat}(h:Below w.heap.size w w'):jH w T w' T:=⟨jB.of_below h (jij _),fun _ _=>Iff.rfl⟩
theorem jH.drewN{w w':World}{T T':Nat->Nat}(h:jH w T w' T')(n:Nat):jH w T (w'.drewN n) T':=⟨h.only.drewN n,h.old⟩
theorem jx.same{w w':World}{T:Nat->Nat}{R b:Nat}{text:ByteArray}{p:PS}{V:PV}(h:jx w T R b text p V)(hs:∀k,T k≠0->w'.heap[k]?=w.heap[k]?)(hz:w.heap.size<=w'.heap.size):jx w' T R b text p V:=by
 have s:∀{o:Option Nat} {t:Nat},zD T o t->t≠0->∀k,o=some k->w'.heap[k]?=w.heap[k]?:=fun ht hne k hk=>hs k (by rw[ht k hk];exact hne)
 exact⟨(hs b (by rw[h.tp];decide)).trans h.cells,h.tp,jP h.r1 (s h.t1 (by decide)),h.t1,jP h.r3 (s h.t3 (by decide)),h.t3,jP h.r6 (s h.t6 (by decide)),h.t6,h.nf,
  fun i it v h1 h2=>⟨jP (h.rf i it v h1 h2).1 (s (h.rf i it v h1 h2).2 (by decide)),(h.rf i it v h1 h2).2⟩,fun k hk=>⟨(h.low k hk).1,jiF (h.low k hk).2 hz⟩⟩
theorem jx.below{w w':World}{T:Nat->Nat}{R b:Nat}{text:ByteArray}{p:PS}{V:PV}(h:jx w T R b text p V)(hb:Below w.heap.size w w'):jx w' T R b text p V :=
 h.same (fun k hk=>hb.block k (h.low k hk).2) hb.size
theorem jf.below{w w':World}{T:Nat->Nat}{R b:Nat}{text:ByteArray}{p:PS}(h:jf w T R b text p)(hb:Below w.heap.size w w'):jf w' T R b text p:=by
 obtain⟨V,h⟩:=h;exact⟨V,h.below hb⟩
theorem jx.lt{w:World}{T:Nat->Nat}{R b:Nat}{text:ByteArray}{p:PS}{V:PV}(h:jx w T R b text p V):b<w.heap.size:=h.cells.lt
theorem jx.new(w:World)(text:ByteArray)(R:Nat)(hR:R<=w.heap.size):jx (w.alloc (.cells #[.int .i64 0,.slice none 0 0,.string text,.slice none 0 0,.int .i64 0,.int .i64 0,.slice none 0 0] 187)) (fun k=>if k=w.heap.size then 1 else 0) R w.heap.size text PS.new ⟨.slice none 0 0,.slice none 0 0,.slice none 0 0,[]⟩:=by
 have tn:∀t,zD (fun k=>if k=w.heap.size then 1 else 0) (Value.slice none 0 0).ownBlock t:=fun t k h=>by cases h
 have rn:∀e size,(w.alloc (.cells #[.int .i64 0,.slice none 0 0,.string text,.slice none 0 0,.int .i64 0,.int .i64 0,.slice none 0 0] 187)).ownsRow 0 e size (.slice none 0 0) 0 []:=fun e size=>⟨by simp,.inl ⟨rfl,rfl⟩⟩
 refine⟨ja.new _ _ _,if_pos rfl,rn _ _,tn 2,rn _ _,tn 3,rn _ _,tn 4,rfl,(fun i it v h _=>by cases h),fun k hk => ?_⟩
 have:k=w.heap.size:=by
  rcases Nat.decEq k w.heap.size with h|h
  ·rw[if_neg h]at hk;exact absurd rfl hk
  exact h
 subst this
 exact⟨hR,by simp⟩
theorem je{w:World}{base:Nat}{e:TypeId}{size:Nat}{v:Value}{n:Nat}{xs:List Value}(h:w.ownsRow base e size v n xs):∃a cap,v=.slice a n cap/\n<=cap:=by
 rcases h.2 with ⟨rfl,rfl⟩|⟨g,cap,cur,rfl,_,_,hle,_⟩
 ·exact⟨none,0,rfl,jij _⟩
 exact⟨_,cap,rfl,hle⟩
theorem qe{w:World}{T:Nat->Nat}{R b:Nat}{text:ByteArray}{p:PS}{V:PV}(h:jx w T R b text p V):
  Calls Tryz.prog 162 #[.pointer (some ⟨b,0,none⟩)] w fun e w'=>e=.returned (.bool (!p.said.isEmpty))/\w=w':=by
 obtain⟨a,cap,e1,hc⟩:=je h.r1
 have c1:w.cell? ⟨b,1,none⟩=some (.slice a p.said.length cap):=by rw[<- e1];exact h.cells.cell 1
 have hl:=h.lt
 have hb:(!p.said.isEmpty)=decide (0<p.said.length):=by cases p.said<;>simp
 rw[hb]
 clear h
 go_enter Tryz.func162,Tryz.ntmps162
 go_wp2
 go_ret
 exact⟨rfl,rfl⟩
theorem jd5{w:World}{T:Nat->Nat}{R b:Nat}{text:ByteArray}{p:PS}{V:PV}(h:jx w T R b text p V):
  Calls Tryz.prog 167 #[.pointer (some ⟨b,0,none⟩)] w fun e w'=>e=.returned (.bool (xB p))/\w=w':=by
 obtain⟨a,cap,e1,hc⟩:=je h.r6
 have c1:w.cell? ⟨b,6,none⟩=some (.slice a p.fields.length cap):=by rw[<- e1];exact h.cells.cell 6
 have c2:w.cell? ⟨b,4,none⟩=some (.int .i64 p.stanzas):=h.cells.cell 4
 have hl:=h.lt
 unfold xB
 clear h
 by_cases h0:p.fields.length=0
 ·rw[if_pos h0]
  rw[h0]at c1
  have e2:(p.stanzas==400)=((p.stanzas:Int)==400):=by rw[jjm];simp;omega
  rw[e2]
  go_enter Tryz.func167,Tryz.ntmps167
  go_wp2
  go_ret
  exact⟨rfl,rfl⟩
 rw[if_neg h0]
 have e2:(p.fields.length==40)=((p.fields.length:Int)==40):=by rw[jjm];simp;omega
 have e3:((p.fields.length:Int)==0)=false:=beq_eq_false_iff_ne.2 (by omega)
 rw[e2]
 go_enter Tryz.func167,Tryz.ntmps167
 go_wp2
 go_ret
 exact⟨rfl,rfl⟩
theorem Qh(l:List (List UInt8))(x:List UInt8):qf (l++[x])=qf l++[.string (B x)]:=by unfold qf;simp
theorem jdS:(Tryz.prog.info? 9).map (fun i=>(i.zero,i.size,i.bytes))=some (some (.string ⟨#[]⟩),1,16):=by kernel_rfl
theorem xW{w w':World}{T:Nat->Nat}{R:Nat}{a o:Option Nat}{t:Nat}(low:∀k,T k≠0->R<=k/\k<w.heap.size)(hs:w.heap.size<=w'.heap.size)(hR:R<=w.heap.size)(h:vZ w.heap.size w'.heap.size a o)(ha:zD T a t)(ht:t≠0):
  ∀k,Qi T w.heap.size o t k≠0->R<=k/\k<w'.heap.size:=by
 intro k hk
 unfold Qi at hk
 split at hk
 ·rename_i hn
  rcases h with h|⟨j,h,_,h2⟩
  ·have:=low k (by rw[ha k (by rw[<- h];exact hn.2)];exact ht);omega
  have:=hn.2;rw[h]at this;cases this;omega
 have:=low k hk;omega
theorem jx.said{w w':World}{T:Nat->Nat}{R b:Nat}{text:ByteArray}{p p':PS}{V:PV}(h:jx w T R b text p V)(hR:R<=w.heap.size)(v1':Value)
  (hc:ja w' b 187 (vk p' text v1' V.v3 V.v6)) (hr:w'.ownsRow 0 9 1 v1' p'.said.length (qf p'.said)) (hk:vZ w.heap.size w'.heap.size V.v1.ownBlock v1'.ownBlock)
  (ho:jB (fun r=>r=b\/some r=V.v1.ownBlock) w w') (e1:p'.items=p.items) (e2:p'.fields=p.fields) :
  ∃T',jx w' T' R b text p' {V with v1:=v1'}/\jH w T w' T':=by
 have hs:∀k,T k≠0->T k≠1->T k≠2->w'.heap[k]?=w.heap[k]?:=fun k h0 h1 h2=>ho.same k (h.low k h0).2 (by
  rintro(e|e)
  ·exact h1 (by rw[e];exact h.tp)
  exact h2 (h.t1 k e.symm))
 have s:∀{o:Option Nat} {t:Nat},zD T o t->3<=t->∀k,o=some k->w'.heap[k]?=w.heap[k]?:=fun ht hne k hk=>hs k (by rw[ht k hk];omega) (by rw[ht k hk];omega) (by rw[ht k hk];omega)
 have lo:∀{o:Option Nat} {t:Nat},zD T o t->t≠0->∀k,o=some k->k<w.heap.size:=fun ht hne k hk=>(h.low k (by rw[ht k hk];exact hne)).2
 refine⟨Qi T w.heap.size v1'.ownBlock 2,⟨hc,by rw[qX h.lt];exact h.tp,hr,xV hk h.t1,?_,zE h.t3 (lo h.t3 (by decide)),?_,zE h.t6 (lo h.t6 (by decide)),by rw[e1];exact h.nf,fun i it v h1 h2 => ?_,xW h.low ho.size hR hk h.t1 (by decide)⟩,
  ⟨ho.mono fun r hr' e => ?_,fun r hr'=>by rw[qX hr']⟩⟩
 ·rw[e1];exact jP h.r3 (s h.t3 (by decide))
 ·rw[e2];exact jP h.r6 (s h.t6 (by decide))
 ·obtain⟨a,c⟩:=h.rf i it v (by rw[<- e1];exact h1) h2
  exact⟨jP a (s c (by decide)),zE c (lo c (by decide))⟩
 rcases e with e|e
 ·rw[e,h.tp];decide
 rw[h.t1 r e.symm];decide
def YI(p:PS)(x:Ln):PS:={p with begin_:=x.no,said:=[x.text]}
theorem ja3{w:World}{T:Nat->Nat}{R b:Nat}{text:ByteArray}{p:PS}{V:PV}(h:jx w T R b text p V)(hR:R<=w.heap.size)(x:Ln):
  Calls Tryz.prog 164 #[.pointer (some ⟨b,0,none⟩),.agg #[.int .i64 x.no,.int .i64 x.at_,.string (B x.text),.bool x.ended]] w fun e w'=>e=.returned (.tuple #[])/\∃T',jf w' T' R b text (YI p x)/\jH w T w' T':=by
 have hl:=h.lt
 have hcell:=h.cells
 have k0:w.cell? ⟨b,0,none⟩=some (.int .i64 p.begin_):=hcell.cell 0
 have k1:w.cell? ⟨b,1,none⟩=some V.v1:=hcell.cell 1
 have kf0:=hcell.frozen 0
 have kf1:=hcell.frozen 1
 have HF:=jii (fun w' v1' hc hr hk ho=>jx.said (p':=YI p x) h hR (w':=w') v1' hc hr hk ho rfl rfl)
 have HC:=jii hcell
 clear h hcell
 go_enter Tryz.func164,Tryz.ntmps164
 go_wp2
 go_region
 all_goals
  go_wp2
  go_end0
  refine⟨rfl,?_⟩
  refine Exists.elim (HF.out _ (.slice (some ⟨w.heap.size+1,0,none⟩) 1 1) ?c ?r ?k ?o) fun T' g=>⟨T',⟨_,g.1⟩,g.2⟩
  case c =>
   have hc:=((((HC.out.set 0 (.int .i64 x.no)).set 1 (.slice (some ⟨w.heap.size+1,0,none⟩) 1 1)).alloc (.cells #[.int .i64 x.no,.int .i64 x.at_,.string (B x.text),.bool x.ended] 182)).alloc (.cells #[.string (B x.text)] 9)).drew
   simpa [vk,YI]using hc
  case r =>
   have hz:(((w.setCell ⟨b,0,none⟩ (.int .i64 x.no)).setCell ⟨b,1,none⟩ (.slice (some ⟨w.heap.size+1,0,none⟩) 1 1)).alloc (.cells #[.int .i64 x.no,.int .i64 x.at_,.string (B x.text),.bool x.ended] 182)).heap.size=w.heap.size+1:=by simp[World.setCell]
   have:=World.ownsRow_lit (base:=0) (((w.setCell ⟨b,0,none⟩ (.int .i64 x.no)).setCell ⟨b,1,none⟩ (.slice (some ⟨w.heap.size+1,0,none⟩) 1 1)).alloc (.cells #[.int .i64 x.no,.int .i64 x.at_,.string (B x.text),.bool x.ended] 182)) (e:=9) (size:=1) #[.string (B x.text)] 1 (jiD _) (by decide) rfl
   rw[hz]at this
   exact jP this fun _ _=>rfl
  case k=>exact .inr ⟨w.heap.size+1,rfl,by omega,by simp[World.setCell,World.drew]⟩
  case o=>exact((((jB.refl _ w).setCell (p:=⟨b,0,none⟩) (.inl (.inl rfl)) _).setCell (p:=⟨b,1,none⟩) (.inl (.inl rfl)) _).alloc _).alloc _ |>.drew
theorem yQ{w:World}{T:Nat->Nat}{b:Nat}{v:Value}{t:Nat}(hb:T b=1)(ht:zD T v.ownBlock t)(h:t≠1):v.ownBlock≠some b:=fun e=>h (by rw[<- ht b e,hb])
def yF(p:PS)(x:Ln):PS:={p with said:=p.said++[x.text]}
theorem jd2{w:World}{T:Nat->Nat}{R b:Nat}{text:ByteArray}{p:PS}{V:PV}(h:jx w T R b text p V)(hR:R<=w.heap.size)(x:Ln)(hn:p.said.length<=1000000):
  Calls Tryz.prog 163 #[.pointer (some ⟨b,0,none⟩),.agg #[.int .i64 x.no,.int .i64 x.at_,.string (B x.text),.bool x.ended]] w fun e w'=>e=.returned (.tuple #[])/\∃T',jf w' T' R b text (yF p x)/\jH w T w' T':=by
 obtain⟨i0,hi,hz0,hz1,hz2⟩:=info_parts jdS
 have hl:=h.lt
 have k1:w.cell? ⟨b,1,none⟩=some V.v1:=h.cells.cell 1
 have HF:=jii (fun w' v1' hc hr hk ho=>jx.said (p':=yF p x) h hR (w':=w') v1' hc hr hk ho rfl rfl)
 have HC:=jii h.cells
 have HO:=jii h.r1
 have HE:=jii (yQ (w:=w) h.tp h.t1 (by decide))
 clear h
 go_enter Tryz.func163,Tryz.ntmps163
 go_wp2
 go_region_law ((refine zm rfl (.tmp 8) (.tmp 11) 183 rfl 9 i0 _ 1 16 Tryz.underlying183 hi hz0 hz1 hz2 rfl (by decide) V.v1 p.said.length (qf p.said) (by simp[Act.eval]) (by exact((HO.out.alloc _).alloc _).drew) ⟨w.heap.size+1,0,none⟩ 1 1 [.string (B x.text)] (by simp[Act.eval]) rfl (by have:=jV (w.alloc (.cells #[.int .i64 x.no,.int .i64 x.at_,.string (B x.text),.bool x.ended] 182)) 9 [.string (B x.text)];rw[jiB]at this;exact this) (by intro u hu;simp at hu;subst hu;rfl) (by unfold maxLen;omega) (by omega) ?_);intro v' w' ho hgr hbk;obtain⟨⟨g',cap',rfl⟩,hg',hbx,hk,hon⟩:=xM HC.out HO.out HE.out ((((jil _ w).alloc (jij _) _).alloc (by simp) _).drew) ho hgr hbk;have k1':w'.cell? ⟨b,1,none⟩=some V.v1:=hg'.cell 1;have kf1':=hg'.frozen 1)
 all_goals
  go_wp2
  go_end0
  have hvg:(Value.slice (some ⟨g',0,none⟩) (p.said.length+1) cap').ownBlock≠some b:=by
   intro e
   rcases hk with h|⟨k,h,h2,_⟩
   ·exact HE.out (h.symm.trans e)
   rw[h]at e;cases e;omega
  refine⟨rfl,Exists.elim (HF.out _ (.slice (some ⟨g',0,none⟩) (p.said.length+1) cap') ?k1 ?k2 ?k3 ?k4) fun T' g=>⟨T',⟨_,g.1⟩,g.2⟩⟩
  case k1 =>
   have hc:=hg'.set 1 (.slice (some ⟨g',0,none⟩) (p.said.length+1) cap')
   simpa [vk,yF]using hc
  case k2 =>
   have hr:=jv (p:=⟨b,1,none⟩) ho hvg (.slice (some ⟨g',0,none⟩) (p.said.length+1) cap')
   have e1:(yF p x).said.length=p.said.length+1:=by simp[yF]
   have e2:qf (yF p x).said=qf p.said++[.string (B x.text)]:=Qh _ _
   rw[e1,e2]
   exact hr
  case k3=>unfold vZ;simpa [World.setCell]using hk
  case k4=>exact(hon.mono (fun r _ h=>.inr h)).setCell (p:=⟨b,1,none⟩) (.inl (.inl rfl)) _
end Go.Proofs.YtimfhnfcmhmjcaaGreatDoor
