/- Texts put together:TA,FS,FL,OB,OC,PB,PC. -/
import Derived.Test.YtbapfpekklcicaaGreatDoorChecked
import Derived.WalkKit
import Derived.ProofKit
import Derived.OpenShut
import Derived.Below
import Derived.Lib.Hide
import Derived.Lib.Strings
import Derived.Deep.QuietTactic
import Derived.BigQuiet
import Derived.OwnWalk
import Derived.Laws.AppendOwn
import Derived.Laws.OwnMore
import Derived.Lib.SmallJoins
import Derived.Test.YtbapfpekklcicaaGreatDoorProg
import Derived.Maps.Own
import Derived.Maps.OwnSet
import Derived.Maps.AppendAt
import Derived.Deep.Quiet
import Derived.Deep.WholeRow
import Derived.Deep.RegionLaw
import Derived.RegionTactic
import Derived.Test.YtbapfpekklcicaaGreatDoorBtx1
set_option linter.unusedVariables false
set_option maxRecDepth 100000
set_option maxHeartbeats 16000000
namespace Go.Proofs.YtbapfpekklcicaaGreatDoor
abbrev joI:=@Go.Lib.hid
abbrev joL:=@Go.RowKit.Below.refl
abbrev joO:=@List.getElem?_cons_succ
abbrev joQ:=@List.getElem?_toArray
abbrev joS:=@List.length_take
abbrev joT:=@Nat.zero_le
abbrev joZ:=@Go.World.size_alloc
abbrev jo0:=@List.append_assoc
abbrev jo1:=@Go.World.ownsRow.cellAt
abbrev jo4:=@Nat.lt_of_lt_of_le
abbrev jpc:=@Nat.lt_or_ge
abbrev jpe:=@List.getElem?_eq_none
abbrev jpu:=@Array.getElem?_eq_getElem
abbrev jpw:=@Go.RowKit.Below.heap_setCell
abbrev jpE:=@List.drop_of_length_le
abbrev jpH:=@Go.Joins.ownsRow_forms
abbrev jpJ:=@Go.World.ownsRow.lt
abbrev jp5:=@ByteArray.ext
abbrev jqv:=@List.drop_append_of_le_length
abbrev jqz:=@Go.RowKit.Below.heap_alloc
end Go.Proofs.YtbapfpekklcicaaGreatDoor
namespace Go.Proofs.YtbapfpekklcicaaGreatDoor
def mv(b st a:Nat)(its:List It)(p:PS):PS:=⟨b,p.said,its,st,a,p.fields⟩
def ml(no c:Nat)(x:Ln):Ln:=⟨no,c,x.text,x.ended⟩
theorem jgC(b st a:Nat)(its:List It)(p:PS)(no c:Nat)(x:Ln):zx (mv b st a its p) (ml no c x)=mv b st a its (zx p x):=by unfold zx;rw[show vl (mv b st a its p) (ml no c x)=vl p x from rfl];split<;>rfl
theorem Zn(b st a:Nat)(its:List It)(p:PS):jd (mv b st a its p)=mv b st a its (jd p):=by unfold jd;rw[show(mv b st a its p).said=p.said from rfl];split<;>rfl
theorem Jl(b st a:Nat)(its:List It)(p:PS)(f:st<=399)(h:ji p=0):ji (mv b st a its p)=0:=by
 unfold ji at h ⊢;rw[show(mv b st a its p).said=p.said from rfl];split
 ·rfl
 rename_i e;rw[if_neg e]at h;split
 ·rename_i d;rw[if_pos d]at h;exact absurd h d
 rename_i d;rw[if_neg d]at h;have c:vU p=false:=by
  cases c:vU p with
  | false=>rfl
  | true=>rw[c]at h;simp at h
 have:vU (mv b st a its p)=false:=by
  unfold vU at c ⊢;rw[show(mv b st a its p).fields=p.fields from rfl,show(mv b st a its p).stanzas=st from rfl];split
  ·have:st≠400:=by omega
   simpa using this
  rename_i g;rw[if_neg g]at c;exact c
 rw[this];rfl
theorem jlw(b st a:Nat)(its:List It)(p:PS)(no c:Nat)(x:Ln):qT (mv b st a its p) (ml no c x)=mv b st a its (qT p x):=by unfold qT;rw[show ve (mv b st a its p) (ml no c x)=ve p x from rfl,jgC,Zn];split<;>rfl
theorem jmZ(t t':List UInt8)(b st a:Nat)(its:List It)(p:PS)(no c:Nat)(x:Ln)(d:jm x.text≠1):∃e,JK t' (mv b st a its p) (ml no c x)=mv e st a its (JK t p x):=by
 unfold JK;rw[show(ml no c x).text=x.text from rfl,if_neg d,if_neg d];split
 ·exact⟨no,rfl⟩
 exact⟨b,rfl⟩
theorem jlx{t t':List UInt8}{b st a:Nat}{its:List It}{p q:PS}{no c:Nat}{x:Ln}(e:st<=399)(l:jm x.text≠1)(h:zq t p x=.ok q):∃d,zq t' (mv b st a its p) (ml no c x)=.ok (mv d st a its q):=by
 obtain⟨f,g,rfl⟩:=yK h;obtain⟨d,j⟩:=jmZ t t' b st a its (qT p x) no c x l;refine⟨d,?_⟩;have i:=yB (t:=t') (p:=mv b st a its p) (x:=ml no c x) (by rw[show ve (mv b st a its p) (ml no c x)=ve p x from rfl,jgC];exact fun k=>Jl _ _ _ _ _ e (f k)) g
 rw[i,jlw,j]
def joG(ts said:List (List UInt8))(fields:List Fld):Prop :=
 ∀(t:List UInt8) (b st a no c:Nat) (its:List It),st<=399->∃b',qU t ⟨b,[],its,st,a,[]⟩ (num no c ts)=.ok ⟨b',said,its,st,a,fields⟩
structure Blk(it:It):Prop where
 kind:it.kind=if it.fields=[] then 2 else 3
 pos:it.raw≠[]
 does:∃ts said fields,it.raw=jq ts/\(∀l∈ts,(10:UInt8)∉l)/\joG ts said fields/\ji ⟨0,said,[],0,0,fields⟩=0/\(jd ⟨0,said,[],0,0,fields⟩).fields=it.fields
theorem Blk.kind1{it:It}(h:Blk it):it.kind≠1:=by rw[h.kind];split<;>decide
def qC:Bool->List It->List It
 | _,[]=>[]
 | b,x::r=>(if b=true/\x.kind≠1 then [⟨1,[10],[]⟩] else [])++x::qC (x.kind != 1) r
def ze(its:List It):List It:=qC false its
def Xp:Bool->List It->Bool
 | b,[]=>b
 | _,x::r=>Xp (x.kind != 1) r
theorem Zd:∀(b:Bool) (l r:List It),qC b (l++r)=qC b l++qC (Xp b l) r
 | b,[],r=>rfl
 | b,x::l,r=>by show _++x::qC (x.kind != 1) (l++r)=(_++x::qC (x.kind != 1) l)++_;rw[Zd _ l r];simp[Xp]
theorem VG:∀(b:Bool) (l r:List It),Xp b (l++r)=Xp (Xp b l) r
 | b,[],r=>rfl
 | b,x::l,r=>VG _ l r
theorem yz:∀(b:List (List UInt8)) (a c:Nat) (l:List UInt8),(∀x∈b,(10:UInt8)∉x)->jR a c (jq b++l)=num a c b++jR (a+b.length) (c+(jq b).length) l
 | [],a,c,l,_=>rfl
 | x::r,a,c,l,h=>by
  have e:jq (x::r)++l=x++10::(jq r++l):=by unfold jq;simp
  have g:(jq (x::r)).length=x.length+1+(jq r).length:=by unfold jq;simp;omega
  obtain⟨d,f⟩:=Xw x (jq r++l) (h x joV);have j:qK (x++10::(jq r++l))=x.length+1:=by unfold qK;rw[d,f];rfl
  rw[e,jC _ _ _ (by simp),d,f,j];have i:(x++10::(jq r++l)).drop (x.length+1)=jq r++l:=by rw[show x++10::(jq r++l)=(x++[10])++(jq r++l) by simp];exact jp9 (by simp)
  rw[i,yz r _ _ l (fun y k=>h y (joU _ k)),g,joR];rw[show a+1+r.length=a+(r.length+1) by omega,show c+(x.length+1)+(jq r).length=c+(x.length+1+(jq r).length) by omega];rfl
def jnj(t:List UInt8)(r:Res PS):Res (List It):=match r with | .error e=>.error e | .ok q=>ZS t q
theorem jgo(t:List UInt8):jD t=jnj t (qU t PS.new (jf t)):=rfl
theorem Va(t:List UInt8)(p q:PS)(a b:List Ln)(h:qU t p a=.ok q):jnj t (qU t p (a++b))=jnj t (qU t q b):=by rw[vx,h]
theorem Blk.ends{it:It}{said:List (List UInt8)}{fields:List Fld}(c:it.kind=if it.fields=[] then 2 else 3)(o:ji ⟨0,said,[],0,0,fields⟩=0)(d:(jd ⟨0,said,[],0,0,fields⟩).fields=it.fields)
  (t:List UInt8) (b st a e:Nat) (its:List It) (g:st<=399) (l:(t.take e).drop a=it.raw) (q:a<e) :
  ji ⟨b,said,its,st,a,fields⟩=0/\(jk t (jd ⟨b,said,its,st,a,fields⟩) e).items=its++[it]/\(jk t (jd ⟨b,said,its,st,a,fields⟩) e).stanzas<=st+1/\(jk t (jd ⟨b,said,its,st,a,fields⟩) e).said=[]/\(jk t (jd ⟨b,said,its,st,a,fields⟩) e).fields=[]/\(jk t (jd ⟨b,said,its,st,a,fields⟩) e).at_=e:=by
 have m:=Jl b st a its ⟨0,said,[],0,0,fields⟩ g o;have n:=Zn b st a its ⟨0,said,[],0,0,fields⟩
 refine⟨m,?_⟩;rw[show(⟨b,said,its,st,a,fields⟩:PS)=mv b st a its ⟨0,said,[],0,0,fields⟩ from rfl,n];have j:=qm ⟨0,said,[],0,0,fields⟩
 generalize jd ⟨0,said,[],0,0,fields⟩=p at *
 unfold jk;rw[show(mv b st a its p).at_=a from rfl,show(mv b st a its p).fields=p.fields from rfl,d,if_neg (by omega)];split
 ·rename_i i;rw[if_pos (List.length_eq_zero_iff.1 i)]at c;refine⟨?_,by show st<=st+1;omega,j,rfl,rfl⟩;show its++[⟨(2:Nat),(t.take e).drop a,p.fields⟩]=_
  rw[l,d];obtain⟨k,r,f⟩:=it;simp only at c ⊢;rw[c];rfl
 rename_i i;rw[if_neg (fun h=>i (by rw[h];rfl))]at c;refine⟨?_,by show st+1<=st+1;omega,j,rfl,rfl⟩;show its++[⟨(3:Nat),(t.take e).drop a,p.fields⟩]=_
 rw[l,d];obtain⟨k,r,f⟩:=it;simp only at c ⊢;rw[c];rfl
theorem jdO(t:List UInt8):∀(g:List It) (x:It) (b st no c:Nat) (d:List It),st+(x::g).length<=400->(∀V∈x::g,Blk V)->t.drop c=(ze (x::g)).flatMap It.raw->c<=t.length ->
  jnj t (qU t ⟨b,[],d,st,c,[]⟩ (jR no c (t.drop c)))=.ok (d++ze (x::g))
 | [],x,b,st,no,c,d,i,n,w,J=>by
  have k:=n x joV;have L:=k.pos
  have K:=k.kind;obtain⟨h,e,a,v,C,D,E,G⟩:=k.does;have f:t.drop c=x.raw:=by rw[w];simp[ze,qC]
  have q:c+x.raw.length=t.length:=by have:=congrArg List.length f;simp at this;omega
  have r:0<x.raw.length:=List.length_pos_iff.2 L;obtain⟨j,O⟩:=D t b st c no c d (by simp at i;omega);rw[f,v,<- jo9 (jq h),yz h no c [] C,Va _ _ _ _ _ O,jr];obtain⟨m,k2,_⟩:=Blk.ends K E G t j st c t.length d (by simp at i;omega) (by rw[jpa,f]) (by omega);show ZS t _=_
  unfold ZS;rw[m,if_neg (by simp),k2];simp[ze,qC]
 | y::g,x,b,st,no,c,d,i,n,w,J=>by
  have k:=n x joV;have A:=n y (joU _ joV)
  have L:=k.pos;have K:=k.kind
  obtain⟨h,e,a,v,C,D,E,G⟩:=k.does;have r:0<x.raw.length:=List.length_pos_iff.2 L
  have I:ze (x::y::g)=x::⟨1,[10],[]⟩::ze (y::g):=by
   have U:(x.kind != 1)=true:=by have:=k.kind1;simpa using this
   show([]:List It)++x::((if (x.kind != 1)=true/\y.kind≠1 then [(⟨1,[10],[]⟩:It)] else [])++y::qC (y.kind != 1) g)=_;rw[if_pos ⟨U,A.kind1⟩];simp[ze,qC]
  rw[I]at w ⊢;have f:t.drop c=x.raw++(10::(ze (y::g)).flatMap It.raw):=by rw[w];simp
  generalize X:(ze (y::g)).flatMap It.raw=R at *
  have q:c+x.raw.length+1+R.length=t.length:=by have:=congrArg List.length f;simp at this;omega
  simp only[joR]at i;obtain⟨j,O⟩:=D t b st c no c d (by omega);have o:t.drop (c+x.raw.length+1)=R:=by rw[jqu,<- jp7,f,show x.raw++10::R=(x.raw++[10])++R by simp];exact jp9 (by simp)
  have Q:(t.take (c+x.raw.length)).drop c=x.raw:=by rw[List.take_add,f,jqv (by rw[joS];omega),jpE (by rw[joS];omega)];simp
  have P:(t.take (c+x.raw.length+1)).drop (c+x.raw.length)=[10]:=by rw[List.take_add,jqv (by rw[joS];omega),jpE (by rw[joS];omega),<- jp7,f];simp
  have H:(10::R)=jq [[]]++R:=rfl;rw[f,H]
  conv=>lhs;rw[v]
  rw[yz h no c _ C,Va _ _ _ _ _ O,yz [[]] _ _ _ (by intro z Z;rw[List.mem_singleton.1 Z];simp),<- v];have m:jm []=1:=by decide
  obtain⟨z1,z2,z3,z4,z5,z6⟩:=Blk.ends K E G t j st c (c+x.raw.length) d (by omega) Q (by omega);have tk:=jan (t:=t) (p:=⟨j,e,d,st,c,a⟩) (no:=no+h.length) (c:=c+x.raw.length) (l:=[]) (by rw[m];decide) (by rw[m];decide) z1
  have s:JK t (jd ⟨j,e,d,st,c,a⟩) ⟨no+h.length,c+x.raw.length,[],true⟩=zl t (jk t (jd ⟨j,e,d,st,c,a⟩) (c+x.raw.length)) 1 (c+x.raw.length+1):=by unfold JK;rw[if_neg (by show ¬jm []=4;rw[m];decide),if_pos m];rfl
  rw[s]at tk;generalize jk t (jd ⟨j,e,d,st,c,a⟩) (c+x.raw.length)=p at *
  have N:zl t p 1 (c+x.raw.length+1)=⟨p.begin_,[],d++[x]++[⟨1,[10],[]⟩],p.stanzas,c+x.raw.length+1,[]⟩:=by unfold zl;rw[z2,z4,z5,z6,P];rfl
  rw[N]at tk;have u:qU t ⟨j,e,d,st,c,a⟩ (num (no+h.length) (c+x.raw.length) [[]])=.ok ⟨p.begin_,[],d++[x]++[⟨1,[10],[]⟩],p.stanzas,c+x.raw.length+1,[]⟩:=by show qU t _ (⟨no+h.length,c+x.raw.length,[],true⟩::[])=_;rw[Yk tk];rfl
  rw[Va _ _ _ _ _ u];have W:=jdO t g y p.begin_ p.stanzas (no+h.length+1) (c+x.raw.length+1) (d++[x]++[⟨1,[10],[]⟩]) (by simp only[joR];omega) (fun V Y=>n V (joU _ Y)) (by rw[o,X]) (by omega)
  rw[o]at W;show jnj t (qU t _ (jR (no+h.length+1) (c+x.raw.length+1) R))=_
  rw[W];simp
theorem UW(a:List It)(c:a.length<=400)(b:∀d∈a,Blk d):jD ((ze a).flatMap It.raw)=.ok (ze a):=by
 cases a with
 | nil=>rfl
 | cons x a =>
 rw[jgo];have:=jdO ((ze (x::a)).flatMap It.raw) a x 0 0 0 0 [] (by rw[jpl];exact c) b rfl (joT _)
 exact this
theorem jfp(fs:List Fld)(w:∀f∈fs,jF f.1=true/\f.2.length<=1000)(H:fs≠[])(hl:fs.length<=40):Blk ⟨3,jq (jE fs),fs⟩:=by
 have d:∀l∈jE fs,(10:UInt8)∉l:=by intro l hl;unfold jE at hl;obtain⟨f,k,g⟩:=List.mem_flatMap.1 hl;exact VE _ (w f k).1 l g
 have D:jq (jE fs)≠[]:=by
  cases fs with
  | nil=>exact absurd rfl H
  | cons f r =>
  obtain⟨x,r',e,_⟩:=Zo (v:=f.2) (w f joV).1;unfold jE;rw[jo5,e];unfold jq;simp
 obtain⟨q,U,V,W,X,Y,Z⟩:=KO [] fs PS.new 0 0 rfl w (by show 0+fs.length<=40;omega) (by decide);have o:∀(t:List UInt8) (b st a no c:Nat) (its:List It),st<=399->∃z,qU t ⟨b,[],its,st,a,[]⟩ (num no c (jE fs))=.ok ⟨z,q.said,its,st,a,q.fields⟩:=by
  have G:∀(s:List (List UInt8)) (p q:PS) (n m:Nat),(∀l∈s,jm l≠1)->qU [] p (num n m s)=.ok q->∀(t:List UInt8) (b st a no c:Nat) (its:List It),st<=399->∃z,qU t (mv b st a its p) (num no c s)=.ok (mv z st a its q):=by
   intro s
   induction s with
   | nil=>intro p q n m _ h t b st a no c its _;cases h;exact⟨b,rfl⟩
   | cons l r N =>
   intro p q n m I h t b st a no c its j;have u:(match zq [] p ⟨n,m,l,true⟩ with | .error e=>Except.error e | .ok R=>qU [] R (num (n+1) (m+l.length+1) r))=.ok q:=h
   cases E:zq [] p ⟨n,m,l,true⟩ with
   | error e=>rw[E]at u;cases u
   | ok Q =>
   rw[E]at u;obtain⟨J,A⟩:=jlx (t':=t) (b:=b) (st:=st) (a:=a) (its:=its) (no:=no) (c:=c) j (by exact I l joV) E;obtain⟨K,C⟩:=N Q q _ _ (fun y L=>I y (joU _ L)) u t J st a (no+1) (c+l.length+1) its j;refine⟨K,?_⟩;show qU t _ (⟨no,c,l,true⟩::num (no+1) (c+l.length+1) r)=_
   rw[Yk (by exact A)];exact C
  have i:∀l∈jE fs,jm l≠1:=by
   intro l hl;unfold jE at hl;obtain⟨f,k,g⟩:=List.mem_flatMap.1 hl;obtain⟨x,r,e,P,O⟩:=Zo (v:=f.2) (w f k).1;rw[e]at g;rcases List.mem_cons.1 g with rfl|h
   ·rw[P];decide
   rw[O l h];decide
  intro t b st a no c its j;exact G (jE fs) PS.new q 0 0 i U t b st a no c its j
 refine⟨by rw[if_neg H],D,jE fs,q.said,q.fields,rfl,d,o,Jl 0 0 0 [] q (by decide) V,?_⟩;have:=Zn 0 0 0 [] q
 rw[show(⟨0,q.said,[],0,0,q.fields⟩:PS)=mv 0 0 0 [] q from rfl,this];show(jd q).fields=fs
 rw[W];rfl
end Go.Proofs.YtbapfpekklcicaaGreatDoor
namespace Go.Proofs.YtbapfpekklcicaaGreatDoor
open Go.RowKit Go.WideShapes Go.ChangeAt Go.ChangeShapes
theorem yp{B:Nat}{a w:World}(h:Below B a w)(n:Nat):Below B a (w.drewN n):=⟨h.os,h.tape,h.output,h.size,h.block⟩
def Strs(w:World)(v:Value)(ss:List ByteArray):Prop :=
 ∃A cap,v=.slice A ss.length cap/\ss.length<=cap/\∀(i:Nat) (s:ByteArray),ss[i]?=some s->∃b off,A=some ⟨b,off,none⟩/\b<w.heap.size/\w.cell? ⟨b,off+i,none⟩=some (.string s)
theorem Strs.below{w w':World}{v:Value}{j:List ByteArray}{n:Nat}(h:Strs w v j)(g:Below n w w')(m:w.heap.size<=n):Strs w' v j:=by obtain⟨A,e,q,f,l⟩:=h;refine⟨A,e,q,f,fun i s o => ?_⟩;obtain⟨b,d,k,c,a⟩:=l i s o;exact⟨b,d,k,jo4 c g.size,(g.cell (p:=⟨b,d+i,none⟩) (jo4 c m)).trans a⟩
theorem Strs.alloc{w:World}{v:Value}{a:List ByteArray}(h:Strs w v a)(o:Obj):Strs (w.alloc o) v a :=
 h.below ((joL w.heap.size w).alloc (joJ _) o) (joJ _)
theorem Strs.none(w:World)(c:Nat):Strs w (.slice none 0 c) []:=⟨_,c,rfl,joT _,fun i s h=>by simp at h⟩
def B(l:List UInt8):ByteArray:=⟨l.toArray⟩
theorem jj(l:List UInt8):(B l).data.toList=l:=by simp[B]
theorem jfB(s:ByteArray):B s.data.toList=s:=by cases s;simp[B]
theorem jg(l:List UInt8):(B l).size=l.length:=by simp[B,ByteArray.size]
theorem jn(a b:List UInt8):B a++B b=B (a++b):=by apply jp5;simp[B]
def Zc(n:Nat):Value:=if n=0 then .nilIface else .iface 54 (.int .i64 (n:Int))
theorem qN:Zc 0=.nilIface:=rfl
theorem jbj:Zc 2=.iface 54 (.int .i64 2):=rfl
theorem jnl:Zc 5=.iface 54 (.int .i64 5):=rfl
theorem jkI:Zc 6=.iface 54 (.int .i64 6):=rfl
theorem zf(n:Nat)(h:0<n):Zc n=.iface 54 (.int .i64 (n:Int)):=by unfold Zc;rw[if_neg (by omega)]
attribute [local go_sem] qN
theorem jh9(n:Int)(w:World):(Instr.typeAssert (.iface 54 (.int .i64 n)) 32 54 true).run Tryz.prog w=.ok (.tuple #[.int .i64 n,.bool true]) w:=by kernel_rfl
attribute [local go_sem] jh9
theorem jlr(n:Nat)(f:n<=1000)(w:World):Calls Tryz.prog 12 #[Zc n] w fun e d=>e=.returned (.int .i64 n)/\w=d:=by
 by_cases a:n=0
 ·subst a;go_enter Tryz.func12,Tryz.ntmps12;go_wp2;refine wp_loop_rounds 1 ?_;rw[rounds_succ];go_wp2;go_ret;exact⟨rfl,rfl⟩
 rw[zf n (by omega)];have c:((n:Int) != 0)=true:=by simp;omega
 have b:((n:Int)==0)=false:=by simp;omega
 clear a;go_enter Tryz.func12,Tryz.ntmps12;go_wp2;refine wp_loop_rounds 1 ?_;rw[rounds_succ];go_wp2;go_ret;exact⟨rfl,rfl⟩
end Go.Proofs.YtbapfpekklcicaaGreatDoor
namespace Go.Proofs.YtbapfpekklcicaaGreatDoor
open Go.RowKit
def vP(w:World)(v:Value)(fs:List (List UInt8×List UInt8)):Prop :=
 ∃A cap,v=.slice A fs.length cap/\fs.length<=cap/\∀(i:Nat) (f:List UInt8×List UInt8),fs[i]?=some f->∃b off,A=some ⟨b,off,none⟩/\b<w.heap.size/\w.cell? ⟨b,off+i*2,none⟩=some (.string (B f.1))/\w.cell? ⟨b,off+i*2+1,none⟩=some (.string (B f.2))
theorem vP.below{w w':World}{v:Value}{fs:List (List UInt8×List UInt8)}{n:Nat}(h:vP w v fs)(e:Below n w w')(g:w.heap.size<=n):vP w' v fs:=by obtain⟨A,d,q,f,m⟩:=h;refine⟨A,d,q,f,fun i s o => ?_⟩;obtain⟨b,c,l,a,j,k⟩:=m i s o;exact⟨b,c,l,jo4 a e.size,(e.cell (p:=⟨b,c+i*2,none⟩) (jo4 a g)).trans j,(e.cell (p:=⟨b,c+i*2+1,none⟩) (jo4 a g)).trans k⟩
def ju(fs:List (List UInt8×List UInt8)):List Value:=fs.flatMap fun f=>[.string (B f.1),.string (B f.2)]
theorem JQ:∀a,(ju a).length=a.length*2
 | []=>rfl
 | f::r=>by
  have:=JQ r;show(Value.string (B f.1)::Value.string (B f.2)::ju r).length=_
  simp only[joR,this];omega
theorem XR:∀(b:List (List UInt8×List UInt8)) (i:Nat) (f:List UInt8×List UInt8),b[i]?=some f->(ju b)[i*2]?=some (.string (B f.1))/\(ju b)[i*2+1]?=some (.string (B f.2))
 | [],i,f,h=>by simp at h
 | a::r,0,f,h=>by simp at h;subst h;exact⟨rfl,rfl⟩
 | a::r,i+1,f,h=>by
  have c:=XR r i f (by simpa using h);have e:ju (a::r)=Value.string (B a.1)::Value.string (B a.2)::ju r:=rfl
  rw[e,show(i+1)*2=i*2+1+1 by omega];simpa using c
theorem Xt:(Tryz.prog.info? 148).map (fun i=>(i.zero,i.size,i.bytes))=some (some (.agg #[.string ⟨#[]⟩,.string ⟨#[]⟩]),2,32):=by kernel_rfl
theorem ym{w:World}{base:Nat}{v:Value}{fs:List (List UInt8×List UInt8)}(h:w.ownsRow base 148 2 v fs.length (ju fs)):vP w v fs:=by
 rcases jpH h with ⟨rfl,k⟩|⟨g,c,rfl⟩
 ·have:fs=[]:=by cases fs with | nil=>rfl | cons _ _=>simp at k
  subst this;exact⟨none,0,rfl,joJ _,fun i f h=>by simp at h⟩
 refine⟨_,c,rfl,(by rcases h.2 with ⟨q,_⟩ | ⟨m,e,j,q,_,_,l,_⟩;cases q;cases q;exact l),fun i f d=>⟨g,0,rfl,(jpJ h g rfl).2,?_⟩⟩;have n:i<fs.length:=by
  rcases jpc i fs.length with q|q
  ·exact q
  rw[jpe q]at d;cases d
 obtain⟨a,b⟩:=XR fs i f d;rw[jpl,jo1 h (i*2) (by omega),jo1 h (i*2+1) (by omega)];exact⟨a,b⟩
end Go.Proofs.YtbapfpekklcicaaGreatDoor
namespace Go.RowKit
end Go.RowKit
namespace Go.Proofs.YtbapfpekklcicaaGreatDoor
open Go.RowKit
structure jH(S:Nat->Prop)(W W':World):Prop where
 os:W'.os=W.os
 tape:W'.tape=W.tape
 output:W'.output=W.output
 size:W.heap.size<=W'.heap.size
 same:∀r,r<W.heap.size->¬S r->W'.heap[r]?=W.heap[r]?
section
variable {S:Nat->Prop} {X Y Z:World}
theorem jH.refl(S:Nat->Prop)(W:World):jH S W W:=⟨rfl,rfl,rfl,joJ _,fun _ _ _=>rfl⟩
theorem jH.trans{S':Nat->Prop}(h:jH S X Y)(g:jH S' Y Z)(d:∀r,r<X.heap.size->S' r->S r):jH S X Z :=
 ⟨g.os.trans h.os,g.tape.trans h.tape,g.output.trans h.output,jpg h.size g.size,fun r a b=>(g.same r (jo4 a h.size) (fun c=>b (d r a c))).trans (h.same r a b)⟩
theorem jH.alloc(h:jH S X Y)(o:Obj):jH S X (Y.alloc o) :=
 ⟨h.os,h.tape,h.output,by simp;have:=h.size;omega,fun r a b=>(jqz _ _ _ (jo4 a h.size)).trans (h.same r a b)⟩
theorem jH.setCell(h:jH S X Y){p:Addr}(c:S p.block\/X.heap.size<=p.block)(u:Value):jH S X (Y.setCell p u) :=
 ⟨h.os,h.tape,h.output,by simp only[World.setCell,Array.size_modify];exact h.size,fun r a b=>(jpw _ _ _ _ (by rintro rfl;rcases c with c | c;exact b c;omega)).trans (h.same r a b)⟩
theorem jH.cellS{p:Nat}(h:jH (· = p) X Y)(o:Nat)(u:Value):jH (· = p) X (Y.setCell ⟨p,o,none⟩ u):=h.setCell (p:=⟨p,o,none⟩) (.inl rfl) u
theorem jH.drew(h:jH S X Y):jH S X Y.drew:=⟨h.os,h.tape,h.output,h.size,h.same⟩
theorem jH.drewN(h:jH S X Y)(n:Nat):jH S X (Y.drewN n):=⟨h.os,h.tape,h.output,h.size,h.same⟩
theorem jH.grown(h:jH S X Y){d:Option Nat}(g:Y.grownBy Z d)(f:∀k,d=some k->S k\/X.heap.size<=k):jH S X Z :=
 ⟨g.os.trans h.os,g.tape.trans h.tape,g.output.trans h.output,jpg h.size g.size,fun r a b=>(g.block r (jo4 a h.size) (fun e=>by rcases f r e.symm with c | c;exact b c;omega)).trans (h.same r a b)⟩
theorem jH.below(h:jH S X Y){B:Nat}(g:Below B Y Z)(c:X.heap.size<=B):jH S X Z :=
 ⟨g.os.trans h.os,g.tape.trans h.tape,g.output.trans h.output,jpg h.size g.size,fun r a b=>(g.block r (by omega)).trans (h.same r a b)⟩
theorem jH.to_below(h:jH S X Y){B:Nat}(c:B<=X.heap.size)(b:∀r,r<B->¬S r):Below B X Y :=
 ⟨h.os,h.tape,h.output,h.size,fun r a=>h.same r (by omega) (b r a)⟩
theorem jH.of_below{B:Nat}(g:Below B X Y)(a:X.heap.size<=B):jH S X Y:=(jH.refl S X).below g a
theorem jH.mono{S':Nat->Prop}(h:jH S X Y)(d:∀r,r<X.heap.size->S r->S' r):jH S' X Y:=⟨h.os,h.tape,h.output,h.size,fun r a b=>h.same r a (fun c=>b (d r a c))⟩
end
theorem jU{W i:World}{base:Nat}{e:TypeId}{size:Nat}{v:Value}{n:Nat}{xs:List Value}(h:W.ownsRow base e size v n xs)(l:∀b,v.ownBlock=some b->i.heap[b]?=W.heap[b]?):i.ownsRow base e size v n xs:=by
 refine⟨h.1,?_⟩;rcases h.2 with k|⟨g,d,f,rfl,a,j,c⟩
 ·exact .inl k
 exact .inr ⟨g,d,f,rfl,a,(l g rfl).trans j,c⟩
theorem jG{W a:World}{S:Nat->Prop}{base:Nat}{e:TypeId}{size:Nat}{v:Value}{n:Nat}{xs:List Value}(h:W.ownsRow base e size v n xs)(g:jH S W a)(d:∀b,v.ownBlock=some b->¬S b):a.ownsRow base e size v n xs :=
 jU h fun b c=>g.same b (h.lt b c).2 (d b c)
theorem jN{W a:World}{B:Nat}{base:Nat}{e:TypeId}{size:Nat}{v:Value}{n:Nat}{xs:List Value}(h:W.ownsRow base e size v n xs)(g:Below B W a)(c:W.heap.size<=B):a.ownsRow base e size v n xs :=
 jU h fun b d=>g.block b (jo4 (h.lt b d).2 c)
theorem js{W:World}{base:Nat}{e:TypeId}{size:Nat}{v:Value}{n:Nat}{xs:List Value}(h:W.ownsRow base e size v n xs){p:Addr}(c:v.ownBlock≠some p.block)(u:Value):(W.setCell p u).ownsRow base e size v n xs :=
 jU h fun b a=>jpw _ _ _ _ (fun e=>c (by rw[a,e]))
def ja(W:World)(b:Nat)(t:TypeId)(cur:Array Value):Prop:=W.heap[b]?=some (.cells cur t (0,0))
section
variable {W W':World} {b:Nat} {t:TypeId} {cur:Array Value}
theorem ja.lt(h:ja W b t cur):b<W.heap.size:=(Array.getElem?_eq_some_iff.1 (show W.heap[b]?=_ from h)).1
theorem ja.new(W:World)(t:TypeId)(a:Array Value):ja (W.alloc (.cells a t)) W.heap.size t a:=heap_alloc_new W _
theorem ja.alloc(h:ja W b t cur)(o:Obj):ja (W.alloc o) b t cur:=(jqz _ _ _ h.lt).trans h
theorem ja.drewN(h:ja W b t cur)(n:Nat):ja (W.drewN n) b t cur:=h
theorem ja.drew(h:ja W b t cur):ja W.drew b t cur:=h
theorem ja.other(h:ja W b t cur){p:Addr}(a:b≠p.block)(u:Value):ja (W.setCell p u) b t cur:=(jpw _ _ _ _ a).trans h
theorem ja.set(h:ja W b t cur)(i:Nat)(u:Value):ja (W.setCell ⟨b,i,none⟩ u) b t (cur.setIfInBounds i u):=by
 obtain⟨a,c⟩:=Array.getElem?_eq_some_iff.1 (show W.heap[b]?=_ from h);show(W.heap.modify b _)[b]?=_
 rw[jpu (by rw[Array.size_modify];exact a),Array.getElem_modify_self,c];rfl
theorem ja.cell(h:ja W b t cur)(i:Nat):W.cell? ⟨b,i,none⟩=cur[i]?:=by simp[World.cell?,show W.heap[b]?=_ from h]
theorem ja.frozen(h:ja W b t cur)(i:Nat):W.frozen? ⟨b,i,none⟩=false:=by simp[World.frozen?,show W.heap[b]?=_ from h]
theorem ja.only{S:Nat->Prop}(h:ja W b t cur)(g:jH S W W')(a:¬S b):ja W' b t cur:=(g.same b h.lt a).trans h
theorem ja.below{B:Nat}(h:ja W b t cur)(g:Below B W W')(a:b<B):ja W' b t cur:=(g.block b a).trans h
theorem ja.grown{a:Option Nat}(h:ja W b t cur)(g:W.grownBy W' a)(c:some b≠a):ja W' b t cur:=(g.block b h.lt c).trans h
end
theorem zb{P:Program}{ops:Array Oper}{o:Oper}{a:Act}{w:World}{K:Act->World->Prop}{Q:Exit->Act->World->Prop}{E:Prop}
  (N:o.guard=none) (s x:Operand) (t:TypeId) (A:o.op=Op.call {callee:=Callee.builtin Builtin.append,args:=#[s,x],argTypes:=#[t,t]})
  (e:TypeId) (i:TypeInfo) (z:Value) (size d:Nat) (V:P.underlying t=some (.slice e)) (O:P.info? e=some i) (X:i.zero=some z)
  (h:i.size=size) (y:i.bytes=d) (D:z.cells.size=size) (C:0<size)
  (v:Value) (n:Nat) (xs:List Value) (U:a.eval s=v) (l:w.ownsRow 0 e size v n xs)
  (q:Addr) (m c:Nat) (b:List Value) (hx:a.eval x=.slice (some q) m c) (hl:b.length=m*size) (g:∀j u,b[j]?=some u->w.cell? (q.add j)=some u) (G:∀u∈b,u.oneCell'=true)
  (r:n+m<=maxLen) (f:(n+m)*d<=140737488355328)
  (L:∀k p,p.ownsRow 0 e size k (n+m) (xs++b)->w.grownBy p v.ownBlock->(k.ownBlock=v.ownBlock\/k.ownBlock=some w.heap.size)->K (a.put o.dst k) p) :
  if Region.wanted o (yielded ops a.tmps)=true then Oper.wp P o a w K Q else E:=by
 have W:Region.wanted o (yielded ops a.tmps)=true:=by simp[Region.wanted,N]
 rw[if_pos W];obtain⟨k,p,R,H,I,Y,J⟩:=run_append_own_at (P:=P) w 0 t o.type e i z size d V O X h y D C v n xs l q m c b hl g G r f (joT _);unfold Oper.wp;simp[execOp,A,resolve,invoke,builtin,U,hx,R,Result.andThen];exact L k p H I J
theorem jp(w:World)(t:TypeId)(a:List Value):∀j u,a[j]?=some u->(w.alloc (.cells a.toArray t)).cell? ((⟨w.heap.size,0,none⟩:Addr).add j)=some u:=by
 intro j u b;have:=(ja.new w t a.toArray).cell j
 have e:(⟨w.heap.size,0,none⟩:Addr).add j=⟨w.heap.size,j,none⟩:=by unfold Addr.add;split<;>simp_all
 rw[e,this,joQ,b]
theorem jat{w:World}{base:Nat}{e:TypeId}{size:Nat}{v:Value}{n:Nat}{xs:List Value}(h:w.ownsRow base e size v (n+1) xs):∃g a,v=.slice (some ⟨g,0,none⟩) (n+1) a:=by
 rcases h.2 with ⟨_,h⟩|⟨g,a,_,h,_⟩
 ·omega
 exact⟨g,a,h⟩
theorem xN{w W w':World}{g:Nat}{t:TypeId}{d:Array Value}(m:ja w g t d){c b:Value}{n:Nat}{xs A:List Value}{e:TypeId}{size:Nat}(f:w.ownsRow 0 e size c n xs)(o:c.ownBlock≠some g)
  (j:Below w.heap.size w W) (p:w'.ownsRow 0 e size b (n+1) (xs++A)) (a:W.grownBy w' c.ownBlock) (l:b.ownBlock=c.ownBlock\/b.ownBlock=some W.heap.size) :
  (∃s i,b=.slice (some ⟨s,0,none⟩) (n+1) i)/\ja w' g t d/\(∀r,w.heap.size<=r->r<W.heap.size->w'.heap[r]?=W.heap[r]?) /\
   (b.ownBlock=c.ownBlock\/∃k,b.ownBlock=some k/\w.heap.size<=k/\k<w'.heap.size)/\jH (fun r=>some r=c.ownBlock) w w':=by
 have q:=j.size;refine⟨jat p,(a.block g (jo4 m.lt q) (fun e=>o e.symm)).trans ((j.block g m.lt).trans m),fun r x u=>a.block r u (fun e => ?_),?_,?_⟩
 ·have:=(f.lt r e.symm).2;omega
 ·rcases l with h|h
  ·exact .inl h
  exact .inr ⟨_,h,q,(p.lt _ h).2⟩
 exact(jH.of_below j (joJ _)).grown a (fun k v=>.inl v.symm)
def qy(T:Nat->Nat)(o:Option Nat)(t:Nat):Prop:=∀b,o=some b->T b=t
def Kj(T:Nat->Nat)(lo:Nat)(o:Option Nat)(t:Nat):Nat->Nat:=fun b=>if lo<=b/\o=some b then t else T b
def xQ(lo hi:Nat)(a b:Option Nat):Prop:=b=a\/∃k,b=some k/\lo<=k/\k<hi
theorem yj{T:Nat->Nat}{lo:Nat}{o:Option Nat}{t b:Nat}(h:b<lo):Kj T lo o t b=T b:=by unfold Kj;rw[if_neg (by omega)]
theorem QB{T:Nat->Nat}{lo f:Nat}{a b:Option Nat}{t:Nat}(h:xQ lo f a b)(e:qy T a t):qy (Kj T lo b t) b t:=by
 intro k c;unfold Kj;split
 ·rfl
 rename_i g;rcases h with h|⟨j,h,d,_⟩
 ·exact e k (by rw[<- h];exact c)
 rw[h]at c;cases c;exact absurd ⟨d,h⟩ g
theorem qz{T:Nat->Nat}{lo:Nat}{o c:Option Nat}{t u:Nat}(b:qy T c u)(hl:∀k,c=some k->k<lo):qy (Kj T lo o t) c u:=by intro k a;rw[yj (hl k a)];exact b k a
structure PV where
 v1:Value
 v3:Value
 v6:Value
 fvs:List Value
def yx(p:PS)(text:ByteArray)(v1 v3 v6:Value):Array Value:=#[.int .i64 p.begin_,v1,.string text,v3,.int .i64 p.stanzas,.int .i64 p.at_,v6]
def Jo(it:It)(v:Value):List Value:=[.int .i64 it.kind,.string (B it.raw),v]
def jQ:List It->List Value->List Value
 | it::l,v::vs=>Jo it v++jQ l vs
 | _,_=>[]
theorem vi:∀(l:List It) (c:List Value) (b:It) (v:Value),c.length=l.length->jQ (l++[b]) (c++[v])=jQ l c++Jo b v
 | [],[],b,v,_=>by simp[jQ]
 | [],_::_,_,_,h=>by simp at h
 | a::l,[],b,v,h=>by simp at h
 | a::l,u::c,b,v,h=>by have:=vi l c b v (by simpa using h);simp only[jo6,jQ,this,jo0]
theorem qE:∀(l:List It) (b:List Value) (i:Nat) (c:It) (v:Value),l[i]?=some c->b[i]?=some v->(jQ l b)[i*3]?=some (.int .i64 c.kind)/\(jQ l b)[i*3+1]?=some (.string (B c.raw))/\(jQ l b)[i*3+1+1]?=some v
 | [],_,i,c,v,h,_=>by simp at h
 | a::l,[],i,c,v,_,h=>by simp at h
 | a::l,u::b,0,c,v,h,d=>by simp at h d;subst h d;exact⟨rfl,rfl,rfl⟩
 | a::l,u::b,i+1,c,v,h,d=>by
  obtain⟨x,y,z⟩:=qE l b i c v (by simpa using h) (by simpa using d);have e:jQ (a::l) (u::b)=.int .i64 a.kind :: .string (B a.raw)::u::jQ l b:=rfl
  have k:(i+1)*3=i*3+1+1+1:=by omega
  have f:i*3+1+1+1+1=(i*3+1)+1+1+1:=by omega
  have g:i*3+1+1+1+1+1=(i*3+1+1)+1+1+1:=by omega
  rw[e,k];refine⟨?_,?_,?_⟩
  ·rw[joO,joO,joO];exact x
  ·rw[f,joO,joO,joO];exact y
  rw[g,joO,joO,joO];exact z
theorem XQ(l:List Fld)(f:Fld):ju (l++[f])=ju l++[.string (B f.1),.string (B f.2)]:=by unfold ju;simp
def vg(l:List (List UInt8)):List Value:=l.map fun x=>.string (B x)
structure jJ(w:World)(T:Nat->Nat)(R b:Nat)(text:ByteArray)(p:PS)(V:PV):Prop where
 cells:ja w b 162 (yx p text V.v1 V.v3 V.v6)
 tp:T b=1
 r1:w.ownsRow 0 9 1 V.v1 p.said.length (vg p.said)
 t1:qy T V.v1.ownBlock 2
 r3:w.ownsRow 0 107 3 V.v3 p.items.length (jQ p.items V.fvs)
 t3:qy T V.v3.ownBlock 3
 r6:w.ownsRow 0 148 2 V.v6 p.fields.length (ju p.fields)
 t6:qy T V.v6.ownBlock 4
 nf:V.fvs.length=p.items.length
 rf:∀(i:Nat) (it:It) (v:Value),p.items[i]?=some it->V.fvs[i]?=some v->w.ownsRow 0 148 2 v it.fields.length (ju it.fields)/\qy T v.ownBlock 5
 low:∀k,T k≠0->R<=k/\k<w.heap.size
def jK(w:World)(T:Nat->Nat)(R b:Nat)(text:ByteArray)(p:PS):Prop:=∃V,jJ w T R b text p V
structure zV(w:World)(T:Nat->Nat)(w':World)(T':Nat->Nat):Prop where
 only:jH (fun r=>T r≠0) w w'
 old:∀r,r<w.heap.size->(T' r=0↔T r=0)
theorem zV.refl(w:World)(T:Nat->Nat):zV w T w T:=⟨jH.refl _ _,fun _ _=>Iff.rfl⟩
theorem zV.trans{w d w2:World}{T b c:Nat->Nat}(h:zV w T d b)(g:zV d b w2 c):zV w T w2 c :=
 ⟨h.only.trans g.only (fun r a f=>fun e=>f ((h.old r a).2 e)),fun r a=>(g.old r (jo4 a h.only.size)).trans (h.old r a)⟩
theorem zV.below{w w':World}{T:Nat->Nat}(h:Below w.heap.size w w'):zV w T w' T:=⟨jH.of_below h (joJ _),fun _ _=>Iff.rfl⟩
theorem zV.drewN{w w':World}{T T':Nat->Nat}(h:zV w T w' T')(n:Nat):zV w T (w'.drewN n) T':=⟨h.only.drewN n,h.old⟩
theorem jJ.same{w w':World}{T:Nat->Nat}{R b:Nat}{text:ByteArray}{p:PS}{V:PV}(h:jJ w T R b text p V)(g:∀k,T k≠0->w'.heap[k]?=w.heap[k]?)(l:w.heap.size<=w'.heap.size):jJ w' T R b text p V:=by
 have s:∀{o:Option Nat} {t:Nat},qy T o t->t≠0->∀k,o=some k->w'.heap[k]?=w.heap[k]?:=fun j e k a=>g k (by rw[j k a];exact e);exact⟨(g b (by rw[h.tp];decide)).trans h.cells,h.tp,jU h.r1 (s h.t1 (by decide)),h.t1,jU h.r3 (s h.t3 (by decide)),h.t3,jU h.r6 (s h.t6 (by decide)),h.t6,h.nf,
  fun i f v c d=>⟨jU (h.rf i f v c d).1 (s (h.rf i f v c d).2 (by decide)),(h.rf i f v c d).2⟩,fun k a=>⟨(h.low k a).1,jo4 (h.low k a).2 l⟩⟩
theorem jJ.below{w w':World}{T:Nat->Nat}{R b:Nat}{text:ByteArray}{p:PS}{V:PV}(h:jJ w T R b text p V)(a:Below w.heap.size w w'):jJ w' T R b text p V :=
 h.same (fun k c=>a.block k (h.low k c).2) a.size
theorem jK.below{w w':World}{T:Nat->Nat}{R b:Nat}{text:ByteArray}{p:PS}(h:jK w T R b text p)(a:Below w.heap.size w w'):jK w' T R b text p:=by obtain⟨V,h⟩:=h;exact⟨V,h.below a⟩
theorem jJ.lt{w:World}{T:Nat->Nat}{R b:Nat}{text:ByteArray}{p:PS}{V:PV}(h:jJ w T R b text p V):b<w.heap.size:=h.cells.lt
theorem jJ.new(w:World)(text:ByteArray)(R:Nat)(f:R<=w.heap.size):jJ (w.alloc (.cells #[.int .i64 0,.slice none 0 0,.string text,.slice none 0 0,.int .i64 0,.int .i64 0,.slice none 0 0] 162)) (fun k=>if k=w.heap.size then 1 else 0) R w.heap.size text PS.new ⟨.slice none 0 0,.slice none 0 0,.slice none 0 0,[]⟩:=by
 have c:∀t,qy (fun k=>if k=w.heap.size then 1 else 0) (Value.slice none 0 0).ownBlock t:=fun t k h=>by cases h
 have b:∀e a,(w.alloc (.cells #[.int .i64 0,.slice none 0 0,.string text,.slice none 0 0,.int .i64 0,.int .i64 0,.slice none 0 0] 162)).ownsRow 0 e a (.slice none 0 0) 0 []:=fun e a=>⟨by simp,.inl ⟨rfl,rfl⟩⟩
 refine⟨ja.new _ _ _,if_pos rfl,b _ _,c 2,b _ _,c 3,b _ _,c 4,rfl,(fun i g v h _=>by cases h),fun k d => ?_⟩;have:k=w.heap.size:=by
  rcases Nat.decEq k w.heap.size with h|h
  ·rw[if_neg h]at d;exact absurd rfl d
  exact h
 subst this;exact⟨f,by simp⟩
theorem je{w:World}{base:Nat}{e:TypeId}{size:Nat}{v:Value}{n:Nat}{xs:List Value}(h:w.ownsRow base e size v n xs):∃a b,v=.slice a n b/\n<=b:=by
 rcases h.2 with ⟨rfl,rfl⟩|⟨g,b,d,rfl,_,_,c,_⟩
 ·exact⟨none,0,rfl,joJ _⟩
 exact⟨_,b,rfl,c⟩
theorem yJ{w:World}{T:Nat->Nat}{R b:Nat}{text:ByteArray}{p:PS}{V:PV}(h:jJ w T R b text p V):
  Calls Tryz.prog 142 #[.pointer (some ⟨b,0,none⟩)] w fun e g=>e=.returned (.bool (!p.said.isEmpty))/\w=g:=by
 obtain⟨a,c,d,j⟩:=je h.r1;have i:w.cell? ⟨b,1,none⟩=some (.slice a p.said.length c):=by rw[<- d];exact h.cells.cell 1
 have f:(!p.said.isEmpty)=decide (0<p.said.length):=by cases p.said<;>simp
 rw[f];clear h;go_enter Tryz.func142,Tryz.ntmps142;go_wp2;go_ret;exact⟨rfl,rfl⟩
theorem jjB{w:World}{T:Nat->Nat}{R b:Nat}{text:ByteArray}{p:PS}{V:PV}(h:jJ w T R b text p V):
  Calls Tryz.prog 147 #[.pointer (some ⟨b,0,none⟩)] w fun e j=>e=.returned (.bool (vU p))/\w=j:=by
 obtain⟨a,c,i,m⟩:=je h.r6;have g:w.cell? ⟨b,6,none⟩=some (.slice a p.fields.length c):=by rw[<- i];exact h.cells.cell 6
 have k:w.cell? ⟨b,4,none⟩=some (.int .i64 p.stanzas):=h.cells.cell 4;have hl:=h.lt
 unfold vU;clear h;by_cases f:p.fields.length=0
 ·rw[if_pos f];rw[f]at g;have d:(p.stanzas==400)=((p.stanzas:Int)==400):=by rw[jpI];simp;omega
  rw[d];go_enter Tryz.func147,Tryz.ntmps147;go_wp2;go_ret;exact⟨rfl,rfl⟩
 rw[if_neg f];have d:(p.fields.length==40)=((p.fields.length:Int)==40):=by rw[jpI];simp;omega
 have l:((p.fields.length:Int)==0)=false:=beq_eq_false_iff_ne.2 (by omega);rw[d];go_enter Tryz.func147,Tryz.ntmps147;go_wp2;go_ret;exact⟨rfl,rfl⟩
theorem Ki(l:List (List UInt8))(x:List UInt8):vg (l++[x])=vg l++[.string (B x)]:=by unfold vg;simp
theorem jjl:(Tryz.prog.info? 9).map (fun i=>(i.zero,i.size,i.bytes))=some (some (.string ⟨#[]⟩),1,16):=by kernel_rfl
theorem QK{w w':World}{T:Nat->Nat}{R:Nat}{a o:Option Nat}{t:Nat}(b:∀k,T k≠0->R<=k/\k<w.heap.size)(l:w.heap.size<=w'.heap.size)(i:R<=w.heap.size)(h:xQ w.heap.size w'.heap.size a o)(e:qy T a t)(f:t≠0):
  ∀k,Kj T w.heap.size o t k≠0->R<=k/\k<w'.heap.size:=by
 intro k c;unfold Kj at c;split at c
 ·rename_i d;rcases h with h|⟨j,h,_,g⟩
  ·have:=b k (by rw[e k (by rw[<- h];exact d.2)];exact f);omega
  have:=d.2;rw[h]at this;cases this;omega
 have:=b k c;omega
theorem jJ.said{w w':World}{T:Nat->Nat}{R b:Nat}{text:ByteArray}{p p':PS}{V:PV}(h:jJ w T R b text p V)(C:R<=w.heap.size)(d:Value)
  (D:ja w' b 162 (yx p' text d V.v3 V.v6)) (E:w'.ownsRow 0 9 1 d p'.said.length (vg p'.said)) (f:xQ w.heap.size w'.heap.size V.v1.ownBlock d.ownBlock)
  (u:jH (fun r=>r=b\/some r=V.v1.ownBlock) w w') (m:p'.items=p.items) (z:p'.fields=p.fields) :
  ∃y,jJ w' y R b text p' {V with v1:=d}/\zV w T w' y:=by
 have G:∀k,T k≠0->T k≠1->T k≠2->w'.heap[k]?=w.heap[k]?:=fun k A n q=>u.same k (h.low k A).2 (by
  rintro(e|e)
  ·exact n (by rw[e];exact h.tp)
  exact q (h.t1 k e.symm))
 have s:∀{o:Option Nat} {t:Nat},qy T o t->3<=t->∀k,o=some k->w'.heap[k]?=w.heap[k]?:=fun l g k f=>G k (by rw[l k f];omega) (by rw[l k f];omega) (by rw[l k f];omega);have x:∀{o:Option Nat} {t:Nat},qy T o t->t≠0->∀k,o=some k->k<w.heap.size:=fun l g k f=>(h.low k (by rw[l k f];exact g)).2
 refine⟨Kj T w.heap.size d.ownBlock 2,⟨D,by rw[yj h.lt];exact h.tp,E,QB f h.t1,?_,qz h.t3 (x h.t3 (by decide)),?_,qz h.t6 (x h.t6 (by decide)),by rw[m];exact h.nf,fun i H v n q => ?_,QK h.low u.size C f h.t1 (by decide)⟩,
  ⟨u.mono fun r j e => ?_,fun r j=>by rw[yj j]⟩⟩
 ·rw[m];exact jU h.r3 (s h.t3 (by decide))
 ·rw[z];exact jU h.r6 (s h.t6 (by decide))
 ·obtain⟨a,c⟩:=h.rf i H v (by rw[<- m];exact n) q;exact⟨jU a (s c (by decide)),qz c (x c (by decide))⟩
 rcases e with e|e
 ·rw[e,h.tp];decide
 rw[h.t1 r e.symm];decide
def jar(p:PS)(x:Ln):PS:={p with begin_:=x.no,said:=[x.text]}
theorem jf6{w:World}{T:Nat->Nat}{R b:Nat}{text:ByteArray}{p:PS}{V:PV}(h:jJ w T R b text p V)(m:R<=w.heap.size)(x:Ln):
  Calls Tryz.prog 144 #[.pointer (some ⟨b,0,none⟩),.agg #[.int .i64 x.no,.int .i64 x.at_,.string (B x.text),.bool x.ended]] w fun e w'=>e=.returned (.tuple #[])/\∃d,jK w' d R b text (jar p x)/\zV w T w' d:=by
 have hl:=h.lt;have a:=h.cells
 have y:w.cell? ⟨b,0,none⟩=some (.int .i64 p.begin_):=a.cell 0;have z:w.cell? ⟨b,1,none⟩=some V.v1:=a.cell 1
 have u:=a.frozen 0;have v:=a.frozen 1
 have l:=joI (fun w' i f s n q=>jJ.said (p':=jar p x) h m (w':=w') i f s n q rfl rfl);have j:=joI a
 clear h a;go_enter Tryz.func144,Tryz.ntmps144;go_wp2;go_region
 all_goals
  go_wp2;go_end0;refine⟨rfl,?_⟩;refine Exists.elim (l.out _ (.slice (some ⟨w.heap.size+1,0,none⟩) 1 1) ?c ?r ?k ?o) fun d g=>⟨d,⟨_,g.1⟩,g.2⟩
  case c =>
   have f:=((((j.out.set 0 (.int .i64 x.no)).set 1 (.slice (some ⟨w.heap.size+1,0,none⟩) 1 1)).alloc (.cells #[.int .i64 x.no,.int .i64 x.at_,.string (B x.text),.bool x.ended] 157)).alloc (.cells #[.string (B x.text)] 9)).drew;simpa [yx,jar]using f
  case r =>
   have t:(((w.setCell ⟨b,0,none⟩ (.int .i64 x.no)).setCell ⟨b,1,none⟩ (.slice (some ⟨w.heap.size+1,0,none⟩) 1 1)).alloc (.cells #[.int .i64 x.no,.int .i64 x.at_,.string (B x.text),.bool x.ended] 157)).heap.size=w.heap.size+1:=by simp[World.setCell]
   have:=World.ownsRow_lit (base:=0) (((w.setCell ⟨b,0,none⟩ (.int .i64 x.no)).setCell ⟨b,1,none⟩ (.slice (some ⟨w.heap.size+1,0,none⟩) 1 1)).alloc (.cells #[.int .i64 x.no,.int .i64 x.at_,.string (B x.text),.bool x.ended] 157)) (e:=9) (size:=1) #[.string (B x.text)] 1 (joT _) (by decide) rfl;rw[t]at this;exact jU this fun _ _=>rfl
  case k=>exact .inr ⟨w.heap.size+1,rfl,by omega,by simp[World.setCell,World.drew]⟩
  case o=>exact((((jH.refl _ w).setCell (p:=⟨b,0,none⟩) (.inl (.inl rfl)) _).setCell (p:=⟨b,1,none⟩) (.inl (.inl rfl)) _).alloc _).alloc _ |>.drew
theorem Zj{w:World}{T:Nat->Nat}{b:Nat}{v:Value}{t:Nat}(a:T b=1)(c:qy T v.ownBlock t)(h:t≠1):v.ownBlock≠some b:=fun e=>h (by rw[<- c b e,a])
def JR(p:PS)(x:Ln):PS:={p with said:=p.said++[x.text]}
theorem jjy{w:World}{T:Nat->Nat}{R b:Nat}{text:ByteArray}{p:PS}{V:PV}(h:jJ w T R b text p V)(K:R<=w.heap.size)(x:Ln)(U:p.said.length<=1000000):
  Calls Tryz.prog 143 #[.pointer (some ⟨b,0,none⟩),.agg #[.int .i64 x.no,.int .i64 x.at_,.string (B x.text),.bool x.ended]] w fun e w'=>e=.returned (.tuple #[])/\∃d,jK w' d R b text (JR p x)/\zV w T w' d:=by
 obtain⟨O,N,t,v,y⟩:=info_parts jjl;have hl:=h.lt
 have k1:w.cell? ⟨b,1,none⟩=some V.v1:=h.cells.cell 1;have H:=joI (fun w' z m q i j=>jJ.said (p':=JR p x) h K (w':=w') z m q i j rfl rfl)
 have G:=joI h.cells;have C:=joI h.r1
 have A:=joI (Zj (w:=w) h.tp h.t1 (by decide));clear h;go_enter Tryz.func143,Tryz.ntmps143;go_wp2;go_region_law ((refine zb rfl (.tmp 8) (.tmp 11) 158 rfl 9 O _ 1 16 Tryz.underlying158 N t v y rfl (by decide) V.v1 p.said.length (vg p.said) (by simp[Act.eval]) (by exact((C.out.alloc _).alloc _).drew) ⟨w.heap.size+1,0,none⟩ 1 1 [.string (B x.text)] (by simp[Act.eval]) rfl (by have:=jp (w.alloc (.cells #[.int .i64 x.no,.int .i64 x.at_,.string (B x.text),.bool x.ended] 157)) 9 [.string (B x.text)];rw[joZ]at this;exact this) (by intro u D;simp at D;subst D;rfl) (by unfold maxLen;omega) (by omega) ?_);intro W w' j n l;obtain⟨⟨f,a,rfl⟩,c,L,i,o⟩:=xN G.out C.out A.out ((((joL _ w).alloc (joJ _) _).alloc (by simp) _).drew) j n l;have P:w'.cell? ⟨b,1,none⟩=some V.v1:=c.cell 1;have E:=c.frozen 1)
 all_goals
  go_wp2;go_end0;have s:(Value.slice (some ⟨f,0,none⟩) (p.said.length+1) a).ownBlock≠some b:=by
   intro e;rcases i with h|⟨k,h,Q,_⟩
   ·exact A.out (h.symm.trans e)
   rw[h]at e;cases e;omega
  refine⟨rfl,Exists.elim (H.out _ (.slice (some ⟨f,0,none⟩) (p.said.length+1) a) ?k1 ?k2 ?k3 ?k4) fun d g=>⟨d,⟨_,g.1⟩,g.2⟩⟩
  case k1 =>
   have m:=c.set 1 (.slice (some ⟨f,0,none⟩) (p.said.length+1) a);simpa [yx,JR]using m
  case k2 =>
   have q:=js (p:=⟨b,1,none⟩) j s (.slice (some ⟨f,0,none⟩) (p.said.length+1) a);have I:(JR p x).said.length=p.said.length+1:=by simp[JR]
   have J:vg (JR p x).said=vg p.said++[.string (B x.text)]:=Ki _ _;rw[I,J];exact q
  case k3=>unfold xQ;simpa [World.setCell]using i
  case k4=>exact(o.mono (fun r _ h=>.inr h)).setCell (p:=⟨b,1,none⟩) (.inl (.inl rfl)) _
end Go.Proofs.YtbapfpekklcicaaGreatDoor
