/- Texts put together:TA,FS,FL,OB,OC,PB,PC. -/
import Derived.Test.YtbapfpekklcicaaGreatDoorChecked
import Derived.WalkKit
import Derived.ProofKit
import Derived.OpenShut
import Derived.Below
import Derived.Lib.Hide
import Derived.Lib.Strings
import Derived.Deep.QuietTactic
import Derived.BigQuiet
import Derived.OwnWalk
import Derived.Laws.AppendOwn
import Derived.Laws.OwnMore
import Derived.Lib.SmallJoins
import Derived.Test.YtbapfpekklcicaaGreatDoorProg
import Derived.Maps.Own
import Derived.Maps.OwnSet
import Derived.Maps.AppendAt
import Derived.Deep.Quiet
import Derived.Deep.WholeRow
import Derived.Deep.RegionLaw
import Derived.RegionTactic
import Derived.Test.YtbapfpekklcicaaGreatDoorBbx1
set_option linter.unusedVariables false
set_option maxRecDepth 100000
set_option maxHeartbeats 16000000
namespace Go.Proofs.YtbapfpekklcicaaGreatDoor
abbrev jnS:=@Go.Lib.hid
abbrev jnV:=@Go.RowKit.Below.refl
abbrev jnX:=@List.getElem?_cons_succ
abbrev jn0:=@List.getElem?_toArray
abbrev jn2:=@List.length_take
abbrev jn3:=@Nat.zero_le
abbrev jn8:=@List.append_assoc
abbrev job:=@Go.World.ownsRow.cellAt
abbrev jod:=@Nat.lt_of_lt_of_le
abbrev joe:=@Go.World.size_alloc
abbrev jon:=@List.getElem?_eq_none
abbrev joo:=@Nat.lt_or_ge
abbrev joD:=@Array.getElem?_eq_getElem
abbrev joF:=@Go.RowKit.Below.heap_setCell
abbrev joO:=@List.drop_of_length_le
abbrev joQ:=@Go.Joins.ownsRow_forms
abbrev joV:=@Go.World.ownsRow.lt
abbrev jpf:=@ByteArray.ext
abbrev jpE:=@List.drop_append_of_le_length
abbrev jpI:=@Go.RowKit.Below.heap_alloc
end Go.Proofs.YtbapfpekklcicaaGreatDoor
namespace Go.Proofs.YtbapfpekklcicaaGreatDoor
def mv(b st a:Nat)(its:List It)(p:PS):PS:=⟨b,p.said,its,st,a,p.fields⟩
def ml(no c:Nat)(x:Ln):Ln:=⟨no,c,x.text,x.ended⟩
theorem jf3(b st a:Nat)(its:List It)(p:PS)(no c:Nat)(x:Ln):zy (mv b st a its p) (ml no c x)=mv b st a its (zy p x):=by unfold zy;rw[show vf (mv b st a its p) (ml no c x)=vf p x from rfl];split<;>rfl
theorem Zf(b st a:Nat)(its:List It)(p:PS):ja (mv b st a its p)=mv b st a its (ja p):=by unfold ja;rw[show(mv b st a its p).said=p.said from rfl];split<;>rfl
theorem Jd(b st a:Nat)(its:List It)(p:PS)(f:st<=399)(h:ji p=0):ji (mv b st a its p)=0:=by
 unfold ji at h ⊢;rw[show(mv b st a its p).said=p.said from rfl];split
 ·rfl
 rename_i e;rw[if_neg e]at h;split
 ·rename_i d;rw[if_pos d]at h;exact absurd h d
 rename_i d;rw[if_neg d]at h;have c:vO p=false:=by
  cases c:vO p with
  | false=>rfl
  | true=>rw[c]at h;simp at h
 have:vO (mv b st a its p)=false:=by
  unfold vO at c ⊢;rw[show(mv b st a its p).fields=p.fields from rfl,show(mv b st a its p).stanzas=st from rfl];split
  ·have:st≠400:=by omega
   simpa using this
  rename_i g;rw[if_neg g]at c;exact c
 rw[this];rfl
theorem jkV(b st a:Nat)(its:List It)(p:PS)(no c:Nat)(x:Ln):qN (mv b st a its p) (ml no c x)=mv b st a its (qN p x):=by unfold qN;rw[show qW (mv b st a its p) (ml no c x)=qW p x from rfl,jf3,Zf];split<;>rfl
theorem jmg(t t':List UInt8)(b st a:Nat)(its:List It)(p:PS)(no c:Nat)(x:Ln)(d:jm x.text≠1):∃e,JC t' (mv b st a its p) (ml no c x)=mv e st a its (JC t p x):=by
 unfold JC;rw[show(ml no c x).text=x.text from rfl,if_neg d,if_neg d];split
 ·exact⟨no,rfl⟩
 exact⟨b,rfl⟩
theorem jkW{t t':List UInt8}{b st a:Nat}{its:List It}{p q:PS}{no c:Nat}{x:Ln}(e:st<=399)(l:jm x.text≠1)(h:zo t p x=.ok q):∃d,zo t' (mv b st a its p) (ml no c x)=.ok (mv d st a its q):=by
 obtain⟨f,k,rfl⟩:=yE h;obtain⟨d,j⟩:=jmg t t' b st a its (qN p x) no c x l;refine⟨d,?_⟩;have i:=yx (t:=t') (p:=mv b st a its p) (x:=ml no c x) (by rw[show qW (mv b st a its p) (ml no c x)=qW p x from rfl,jf3];exact fun g=>Jd _ _ _ _ _ e (f g)) k
 rw[i,jkV,j]
def jnR(ts said:List (List UInt8))(fields:List Fld):Prop :=
 ∀(t:List UInt8) (b st a no c:Nat) (its:List It),st<=399->∃b',qO t ⟨b,[],its,st,a,[]⟩ (num no c ts)=.ok ⟨b',said,its,st,a,fields⟩
structure Blk(it:It):Prop where
 kind:it.kind=if it.fields=[] then 2 else 3
 pos:it.raw≠[]
 does:∃ts said fields,it.raw=jp ts/\(∀l∈ts,(10:UInt8)∉l)/\jnR ts said fields/\ji ⟨0,said,[],0,0,fields⟩=0/\(ja ⟨0,said,[],0,0,fields⟩).fields=it.fields
theorem Blk.kind1{it:It}(h:Blk it):it.kind≠1:=by rw[h.kind];split<;>decide
def Vf:Bool->List It->List It
 | _,[]=>[]
 | b,x::r=>(if b=true/\x.kind≠1 then [⟨1,[10],[]⟩] else [])++x::Vf (x.kind != 1) r
def yU(its:List It):List It:=Vf false its
theorem yw:∀(b:List (List UInt8)) (a c:Nat) (l:List UInt8),(∀x∈b,(10:UInt8)∉x)->jP a c (jp b++l)=num a c b++jP (a+b.length) (c+(jp b).length) l
 | [],a,c,l,_=>rfl
 | x::r,a,c,l,h=>by
  have e:jp (x::r)++l=x++10::(jp r++l):=by unfold jp;simp
  have j:(jp (x::r)).length=x.length+1+(jp r).length:=by unfold jp;simp;omega
  obtain⟨f,d⟩:=Xj x (jp r++l) (h x jn5);have g:qF (x++10::(jp r++l))=x.length+1:=by unfold qF;rw[f,d];rfl
  rw[e,jx _ _ _ (by simp),f,d,g];have k:(x++10::(jp r++l)).drop (x.length+1)=jp r++l:=by rw[show x++10::(jp r++l)=(x++[10])++(jp r++l) by simp];exact jpi (by simp)
  rw[k,yw r _ _ l (fun y i=>h y (jn4 _ i)),j,jn1];rw[show a+1+r.length=a+(r.length+1) by omega,show c+(x.length+1)+(jp r).length=c+(x.length+1+(jp r).length) by omega];rfl
def jmA(t:List UInt8)(r:Res PS):Res (List It):=match r with | .error e=>.error e | .ok q=>ZM t q
theorem jfT(t:List UInt8):jv t=jmA t (qO t PS.new (jf t)):=rfl
theorem QU(t:List UInt8)(p q:PS)(a b:List Ln)(h:qO t p a=.ok q):jmA t (qO t p (a++b))=jmA t (qO t q b):=by rw[vq,h]
theorem Blk.ends{it:It}{said:List (List UInt8)}{fields:List Fld}(c:it.kind=if it.fields=[] then 2 else 3)(m:ji ⟨0,said,[],0,0,fields⟩=0)(i:(ja ⟨0,said,[],0,0,fields⟩).fields=it.fields)
  (t:List UInt8) (b st a e:Nat) (its:List It) (d:st<=399) (l:(t.take e).drop a=it.raw) (q:a<e) :
  ji ⟨b,said,its,st,a,fields⟩=0/\(jk t (ja ⟨b,said,its,st,a,fields⟩) e).items=its++[it]/\(jk t (ja ⟨b,said,its,st,a,fields⟩) e).stanzas<=st+1/\(jk t (ja ⟨b,said,its,st,a,fields⟩) e).said=[]/\(jk t (ja ⟨b,said,its,st,a,fields⟩) e).fields=[]/\(jk t (ja ⟨b,said,its,st,a,fields⟩) e).at_=e:=by
 have o:=Jd b st a its ⟨0,said,[],0,0,fields⟩ d m;have n:=Zf b st a its ⟨0,said,[],0,0,fields⟩
 refine⟨o,?_⟩;rw[show(⟨b,said,its,st,a,fields⟩:PS)=mv b st a its ⟨0,said,[],0,0,fields⟩ from rfl,n];have j:=ql ⟨0,said,[],0,0,fields⟩
 generalize ja ⟨0,said,[],0,0,fields⟩=p at *
 unfold jk;rw[show(mv b st a its p).at_=a from rfl,show(mv b st a its p).fields=p.fields from rfl,i,if_neg (by omega)];split
 ·rename_i g;rw[if_pos (List.length_eq_zero_iff.1 g)]at c;refine⟨?_,by show st<=st+1;omega,j,rfl,rfl⟩;show its++[⟨(2:Nat),(t.take e).drop a,p.fields⟩]=_
  rw[l,i];obtain⟨k,r,f⟩:=it;simp only at c ⊢;rw[c];rfl
 rename_i g;rw[if_neg (fun h=>g (by rw[h];rfl))]at c;refine⟨?_,by show st+1<=st+1;omega,j,rfl,rfl⟩;show its++[⟨(3:Nat),(t.take e).drop a,p.fields⟩]=_
 rw[l,i];obtain⟨k,r,f⟩:=it;simp only at c ⊢;rw[c];rfl
theorem jdt(t:List UInt8):∀(g:List It) (x:It) (b st no c:Nat) (d:List It),st+(x::g).length<=400->(∀U∈x::g,Blk U)->t.drop c=(yU (x::g)).flatMap It.raw->c<=t.length ->
  jmA t (qO t ⟨b,[],d,st,c,[]⟩ (jP no c (t.drop c)))=.ok (d++yU (x::g))
 | [],x,b,st,no,c,d,i,s,v,G=>by
  have k:=s x jn5;have I:=k.pos
  have N:=k.kind;obtain⟨h,e,a,w,D,O,J,Q⟩:=k.does;have f:t.drop c=x.raw:=by rw[v];simp[yU,Vf]
  have q:c+x.raw.length=t.length:=by have:=congrArg List.length f;simp at this;omega
  have r:0<x.raw.length:=List.length_pos_iff.2 I;obtain⟨j,P⟩:=O t b st c no c d (by simp at i;omega);rw[f,w,<- jok (jp h),yw h no c [] D,QU _ _ _ _ _ P,jq];obtain⟨m,k2,_⟩:=Blk.ends N J Q t j st c t.length d (by simp at i;omega) (by rw[jom,f]) (by omega);show ZM t _=_
  unfold ZM;rw[m,if_neg (by simp),k2];simp[yU,Vf]
 | y::g,x,b,st,no,c,d,i,s,v,G=>by
  have k:=s x jn5;have E:=s y (jn4 _ jn5)
  have I:=k.pos;have N:=k.kind
  obtain⟨h,e,a,w,D,O,J,Q⟩:=k.does;have r:0<x.raw.length:=List.length_pos_iff.2 I
  have V:yU (x::y::g)=x::⟨1,[10],[]⟩::yU (y::g):=by
   have K:(x.kind != 1)=true:=by have:=k.kind1;simpa using this
   show([]:List It)++x::((if (x.kind != 1)=true/\y.kind≠1 then [(⟨1,[10],[]⟩:It)] else [])++y::Vf (y.kind != 1) g)=_;rw[if_pos ⟨K,E.kind1⟩];simp[yU,Vf]
  rw[V]at v ⊢;have f:t.drop c=x.raw++(10::(yU (y::g)).flatMap It.raw):=by rw[v];simp
  generalize X:(yU (y::g)).flatMap It.raw=R at *
  have q:c+x.raw.length+1+R.length=t.length:=by have:=congrArg List.length f;simp at this;omega
  simp only[jn1]at i;obtain⟨j,P⟩:=O t b st c no c d (by omega);have n:t.drop (c+x.raw.length+1)=R:=by rw[jpC,<- jpg,f,show x.raw++10::R=(x.raw++[10])++R by simp];exact jpi (by simp)
  have A:(t.take (c+x.raw.length)).drop c=x.raw:=by rw[List.take_add,f,jpE (by rw[jn2];omega),joO (by rw[jn2];omega)];simp
  have C:(t.take (c+x.raw.length+1)).drop (c+x.raw.length)=[10]:=by rw[List.take_add,jpE (by rw[jn2];omega),joO (by rw[jn2];omega),<- jpg,f];simp
  have H:(10::R)=jp [[]]++R:=rfl;rw[f,H]
  conv=>lhs;rw[w]
  rw[yw h no c _ D,QU _ _ _ _ _ P,yw [[]] _ _ _ (by intro z hz;rw[List.mem_singleton.1 hz];simp),<- w];have m:jm []=1:=by decide
  obtain⟨Z,Y,z3,z4,z5,z6⟩:=Blk.ends N J Q t j st c (c+x.raw.length) d (by omega) A (by omega);have tk:=jac (t:=t) (p:=⟨j,e,d,st,c,a⟩) (no:=no+h.length) (c:=c+x.raw.length) (l:=[]) (by rw[m];decide) (by rw[m];decide) Z
  have u:JC t (ja ⟨j,e,d,st,c,a⟩) ⟨no+h.length,c+x.raw.length,[],true⟩=zk t (jk t (ja ⟨j,e,d,st,c,a⟩) (c+x.raw.length)) 1 (c+x.raw.length+1):=by unfold JC;rw[if_neg (by show ¬jm []=4;rw[m];decide),if_pos m];rfl
  rw[u]at tk;generalize jk t (ja ⟨j,e,d,st,c,a⟩) (c+x.raw.length)=p at *
  have L:zk t p 1 (c+x.raw.length+1)=⟨p.begin_,[],d++[x]++[⟨1,[10],[]⟩],p.stanzas,c+x.raw.length+1,[]⟩:=by unfold zk;rw[Y,z4,z5,z6,C];rfl
  rw[L]at tk;have o:qO t ⟨j,e,d,st,c,a⟩ (num (no+h.length) (c+x.raw.length) [[]])=.ok ⟨p.begin_,[],d++[x]++[⟨1,[10],[]⟩],p.stanzas,c+x.raw.length+1,[]⟩:=by show qO t _ (⟨no+h.length,c+x.raw.length,[],true⟩::[])=_;rw[Ya tk];rfl
  rw[QU _ _ _ _ _ o];have W:=jdt t g y p.begin_ p.stanzas (no+h.length+1) (c+x.raw.length+1) (d++[x]++[⟨1,[10],[]⟩]) (by simp only[jn1];omega) (fun U hi=>s U (jn4 _ hi)) (by rw[n,X]) (by omega)
  rw[n]at W;show jmA t (qO t _ (jP (no+h.length+1) (c+x.raw.length+1) R))=_
  rw[W];simp
theorem Uk(a:List It)(b:a.length<=400)(c:∀d∈a,Blk d):jv ((yU a).flatMap It.raw)=.ok (yU a):=by
 cases a with
 | nil=>rfl
 | cons x a =>
 rw[jfT];have:=jdt ((yU (x::a)).flatMap It.raw) a x 0 0 0 0 [] (by rw[jov];exact b) c rfl (jn3 _)
 exact this
theorem jeX(fs:List Fld)(u:∀f∈fs,jF f.1=true/\f.2.length<=1000)(H:fs≠[])(hl:fs.length<=40):Blk ⟨3,jp (jD fs),fs⟩:=by
 have d:∀l∈jD fs,(10:UInt8)∉l:=by intro l hl;unfold jD at hl;obtain⟨f,k,j⟩:=List.mem_flatMap.1 hl;exact VC _ (u f k).1 l j
 have E:jp (jD fs)≠[]:=by
  cases fs with
  | nil=>exact absurd rfl H
  | cons f r =>
  obtain⟨x,Y,e,_⟩:=Zh (v:=f.2) (u f jn5).1;unfold jD;rw[joc,e];unfold jp;simp
 obtain⟨q,O,J,L,X,q5,Z⟩:=Kv [] fs PS.new 0 0 rfl u (by show 0+fs.length<=40;omega) (by decide);have o:∀(t:List UInt8) (b st a no c:Nat) (its:List It),st<=399->∃C,qO t ⟨b,[],its,st,a,[]⟩ (num no c (jD fs))=.ok ⟨C,q.said,its,st,a,q.fields⟩:=by
  have D:∀(s:List (List UInt8)) (p q:PS) (n m:Nat),(∀l∈s,jm l≠1)->qO [] p (num n m s)=.ok q->∀(t:List UInt8) (b st a no c:Nat) (its:List It),st<=399->∃C,qO t (mv b st a its p) (num no c s)=.ok (mv C st a its q):=by
   intro s
   induction s with
   | nil=>intro p q n m _ h t b st a no c its _;cases h;exact⟨b,rfl⟩
   | cons l r R =>
   intro p q n m I h t b st a no c its i;have w:(match zo [] p ⟨n,m,l,true⟩ with | .error e=>Except.error e | .ok Q=>qO [] Q (num (n+1) (m+l.length+1) r))=.ok q:=h
   cases z:zo [] p ⟨n,m,l,true⟩ with
   | error e=>rw[z]at w;cases w
   | ok V =>
   rw[z]at w;obtain⟨N,A⟩:=jkW (t':=t) (b:=b) (st:=st) (a:=a) (its:=its) (no:=no) (c:=c) i (by exact I l jn5) z;obtain⟨P,G⟩:=R V q _ _ (fun y U=>I y (jn4 _ U)) w t N st a (no+1) (c+l.length+1) its i;refine⟨P,?_⟩;show qO t _ (⟨no,c,l,true⟩::num (no+1) (c+l.length+1) r)=_
   rw[Ya (by exact A)];exact G
  have g:∀l∈jD fs,jm l≠1:=by
   intro l hl;unfold jD at hl;obtain⟨f,k,j⟩:=List.mem_flatMap.1 hl;obtain⟨x,r,e,W,K⟩:=Zh (v:=f.2) (u f k).1;rw[e]at j;rcases List.mem_cons.1 j with rfl|h
   ·rw[W];decide
   rw[K l h];decide
  intro t b st a no c its i;exact D (jD fs) PS.new q 0 0 g O t b st a no c its i
 refine⟨by rw[if_neg H],E,jD fs,q.said,q.fields,rfl,d,o,Jd 0 0 0 [] q (by decide) J,?_⟩;have:=Zf 0 0 0 [] q
 rw[show(⟨0,q.said,[],0,0,q.fields⟩:PS)=mv 0 0 0 [] q from rfl,this];show(ja q).fields=fs
 rw[L];rfl
end Go.Proofs.YtbapfpekklcicaaGreatDoor
namespace Go.Proofs.YtbapfpekklcicaaGreatDoor
open Go.RowKit Go.WideShapes Go.ChangeAt Go.ChangeShapes
theorem xB{B:Nat}{a w:World}(h:Below B a w)(n:Nat):Below B a (w.drewN n):=⟨h.os,h.tape,h.output,h.size,h.block⟩
def Strs(w:World)(v:Value)(ss:List ByteArray):Prop :=
 ∃A cap,v=.slice A ss.length cap/\ss.length<=cap/\∀(i:Nat) (s:ByteArray),ss[i]?=some s->∃b off,A=some ⟨b,off,none⟩/\b<w.heap.size/\w.cell? ⟨b,off+i,none⟩=some (.string s)
theorem Strs.below{w w':World}{v:Value}{g:List ByteArray}{n:Nat}(h:Strs w v g)(j:Below n w w')(m:w.heap.size<=n):Strs w' v g:=by obtain⟨A,f,o,e,l⟩:=h;refine⟨A,f,o,e,fun i s q => ?_⟩;obtain⟨b,d,k,c,a⟩:=l i s q;exact⟨b,d,k,jod c j.size,(j.cell (p:=⟨b,d+i,none⟩) (jod c m)).trans a⟩
theorem Strs.alloc{w:World}{v:Value}{a:List ByteArray}(h:Strs w v a)(o:Obj):Strs (w.alloc o) v a :=
 h.below ((jnV w.heap.size w).alloc (jnT _) o) (jnT _)
theorem Strs.none(w:World)(c:Nat):Strs w (.slice none 0 c) []:=⟨_,c,rfl,jn3 _,fun i s h=>by simp at h⟩
def B(l:List UInt8):ByteArray:=⟨l.toArray⟩
theorem jj(l:List UInt8):(B l).data.toList=l:=by simp[B]
theorem je8(s:ByteArray):B s.data.toList=s:=by cases s;simp[B]
theorem jg(l:List UInt8):(B l).size=l.length:=by simp[B,ByteArray.size]
theorem jn(a b:List UInt8):B a++B b=B (a++b):=by apply jpf;simp[B]
def Zv(n:Nat):Value:=if n=0 then .nilIface else .iface 54 (.int .i64 (n:Int))
theorem qS:Zv 0=.nilIface:=rfl
theorem ja6:Zv 2=.iface 54 (.int .i64 2):=rfl
theorem jmC:Zv 5=.iface 54 (.int .i64 5):=rfl
theorem jkc:Zv 6=.iface 54 (.int .i64 6):=rfl
theorem zn(n:Nat)(h:0<n):Zv n=.iface 54 (.int .i64 (n:Int)):=by unfold Zv;rw[if_neg (by omega)]
attribute [local go_sem] qS
theorem jhz(n:Int)(w:World):(Instr.typeAssert (.iface 54 (.int .i64 n)) 32 54 true).run Tryz.prog w=.ok (.tuple #[.int .i64 n,.bool true]) w:=by kernel_rfl
attribute [local go_sem] jhz
end Go.Proofs.YtbapfpekklcicaaGreatDoor
namespace Go.Proofs.YtbapfpekklcicaaGreatDoor
open Go.RowKit
def vK(w:World)(v:Value)(fs:List (List UInt8×List UInt8)):Prop :=
 ∃A cap,v=.slice A fs.length cap/\fs.length<=cap/\∀(i:Nat) (f:List UInt8×List UInt8),fs[i]?=some f->∃b off,A=some ⟨b,off,none⟩/\b<w.heap.size/\w.cell? ⟨b,off+i*2,none⟩=some (.string (B f.1))/\w.cell? ⟨b,off+i*2+1,none⟩=some (.string (B f.2))
theorem vK.below{w w':World}{v:Value}{fs:List (List UInt8×List UInt8)}{n:Nat}(h:vK w v fs)(e:Below n w w')(g:w.heap.size<=n):vK w' v fs:=by obtain⟨A,f,m,d,l⟩:=h;refine⟨A,f,m,d,fun i s o => ?_⟩;obtain⟨b,c,j,a,k,q⟩:=l i s o;exact⟨b,c,j,jod a e.size,(e.cell (p:=⟨b,c+i*2,none⟩) (jod a g)).trans k,(e.cell (p:=⟨b,c+i*2+1,none⟩) (jod a g)).trans q⟩
def jA(fs:List (List UInt8×List UInt8)):List Value:=fs.flatMap fun f=>[.string (B f.1),.string (B f.2)]
theorem JG:∀a,(jA a).length=a.length*2
 | []=>rfl
 | f::r=>by
  have:=JG r;show(Value.string (B f.1)::Value.string (B f.2)::jA r).length=_
  simp only[jn1,this];omega
theorem XE:∀(b:List (List UInt8×List UInt8)) (i:Nat) (f:List UInt8×List UInt8),b[i]?=some f->(jA b)[i*2]?=some (.string (B f.1))/\(jA b)[i*2+1]?=some (.string (B f.2))
 | [],i,f,h=>by simp at h
 | a::r,0,f,h=>by simp at h;subst h;exact⟨rfl,rfl⟩
 | a::r,i+1,f,h=>by
  have c:=XE r i f (by simpa using h);have e:jA (a::r)=Value.string (B a.1)::Value.string (B a.2)::jA r:=rfl
  rw[e,show(i+1)*2=i*2+1+1 by omega];simpa using c
theorem Xg:(Tryz.prog.info? 148).map (fun i=>(i.zero,i.size,i.bytes))=some (some (.agg #[.string ⟨#[]⟩,.string ⟨#[]⟩]),2,32):=by kernel_rfl
theorem xw{w:World}{base:Nat}{v:Value}{fs:List (List UInt8×List UInt8)}(h:w.ownsRow base 148 2 v fs.length (jA fs)):vK w v fs:=by
 rcases joQ h with ⟨rfl,l⟩|⟨g,d,rfl⟩
 ·have:fs=[]:=by cases fs with | nil=>rfl | cons _ _=>simp at l
  subst this;exact⟨none,0,rfl,jnT _,fun i f h=>by simp at h⟩
 refine⟨_,d,rfl,(by rcases h.2 with ⟨q,_⟩ | ⟨m,e,k,q,_,_,j,_⟩;cases q;cases q;exact j),fun i f c=>⟨g,0,rfl,(joV h g rfl).2,?_⟩⟩;have n:i<fs.length:=by
  rcases joo i fs.length with q|q
  ·exact q
  rw[jon q]at c;cases c
 obtain⟨a,b⟩:=XE fs i f c;rw[jov,job h (i*2) (by omega),job h (i*2+1) (by omega)];exact⟨a,b⟩
end Go.Proofs.YtbapfpekklcicaaGreatDoor
namespace Go.RowKit
end Go.RowKit
namespace Go.Proofs.YtbapfpekklcicaaGreatDoor
open Go.RowKit
structure jI(S:Nat->Prop)(W W':World):Prop where
 os:W'.os=W.os
 tape:W'.tape=W.tape
 output:W'.output=W.output
 size:W.heap.size<=W'.heap.size
 same:∀r,r<W.heap.size->¬S r->W'.heap[r]?=W.heap[r]?
section
variable {S:Nat->Prop} {X Y Z:World}
theorem jI.refl(S:Nat->Prop)(W:World):jI S W W:=⟨rfl,rfl,rfl,jnT _,fun _ _ _=>rfl⟩
theorem jI.trans{S':Nat->Prop}(h:jI S X Y)(g:jI S' Y Z)(d:∀r,r<X.heap.size->S' r->S r):jI S X Z :=
 ⟨g.os.trans h.os,g.tape.trans h.tape,g.output.trans h.output,jop h.size g.size,fun r a b=>(g.same r (jod a h.size) (fun c=>b (d r a c))).trans (h.same r a b)⟩
theorem jI.alloc(h:jI S X Y)(o:Obj):jI S X (Y.alloc o) :=
 ⟨h.os,h.tape,h.output,by simp;have:=h.size;omega,fun r a b=>(jpI _ _ _ (jod a h.size)).trans (h.same r a b)⟩
theorem jI.setCell(h:jI S X Y){p:Addr}(c:S p.block\/X.heap.size<=p.block)(u:Value):jI S X (Y.setCell p u) :=
 ⟨h.os,h.tape,h.output,by simp only[World.setCell,Array.size_modify];exact h.size,fun r a b=>(joF _ _ _ _ (by rintro rfl;rcases c with c | c;exact b c;omega)).trans (h.same r a b)⟩
theorem jI.cellS{p:Nat}(h:jI (· = p) X Y)(o:Nat)(u:Value):jI (· = p) X (Y.setCell ⟨p,o,none⟩ u):=h.setCell (p:=⟨p,o,none⟩) (.inl rfl) u
theorem jI.drew(h:jI S X Y):jI S X Y.drew:=⟨h.os,h.tape,h.output,h.size,h.same⟩
theorem jI.drewN(h:jI S X Y)(n:Nat):jI S X (Y.drewN n):=⟨h.os,h.tape,h.output,h.size,h.same⟩
theorem jI.grown(h:jI S X Y){d:Option Nat}(g:Y.grownBy Z d)(f:∀k,d=some k->S k\/X.heap.size<=k):jI S X Z :=
 ⟨g.os.trans h.os,g.tape.trans h.tape,g.output.trans h.output,jop h.size g.size,fun r a b=>(g.block r (jod a h.size) (fun e=>by rcases f r e.symm with c | c;exact b c;omega)).trans (h.same r a b)⟩
theorem jI.below(h:jI S X Y){B:Nat}(g:Below B Y Z)(c:X.heap.size<=B):jI S X Z :=
 ⟨g.os.trans h.os,g.tape.trans h.tape,g.output.trans h.output,jop h.size g.size,fun r a b=>(g.block r (by omega)).trans (h.same r a b)⟩
theorem jI.to_below(h:jI S X Y){B:Nat}(c:B<=X.heap.size)(b:∀r,r<B->¬S r):Below B X Y :=
 ⟨h.os,h.tape,h.output,h.size,fun r a=>h.same r (by omega) (b r a)⟩
theorem jI.of_below{B:Nat}(g:Below B X Y)(a:X.heap.size<=B):jI S X Y:=(jI.refl S X).below g a
theorem jI.mono{S':Nat->Prop}(h:jI S X Y)(d:∀r,r<X.heap.size->S r->S' r):jI S' X Y:=⟨h.os,h.tape,h.output,h.size,fun r a b=>h.same r a (fun c=>b (d r a c))⟩
end
theorem zc{W i:World}{base:Nat}{e:TypeId}{size:Nat}{v:Value}{n:Nat}{xs:List Value}(h:W.ownsRow base e size v n xs)(j:∀b,v.ownBlock=some b->i.heap[b]?=W.heap[b]?):i.ownsRow base e size v n xs:=by
 refine⟨h.1,?_⟩;rcases h.2 with l|⟨g,f,d,rfl,a,k,c⟩
 ·exact .inl l
 exact .inr ⟨g,f,d,rfl,a,(j g rfl).trans k,c⟩
theorem jK{W a:World}{S:Nat->Prop}{base:Nat}{e:TypeId}{size:Nat}{v:Value}{n:Nat}{xs:List Value}(h:W.ownsRow base e size v n xs)(g:jI S W a)(d:∀b,v.ownBlock=some b->¬S b):a.ownsRow base e size v n xs :=
 zc h fun b c=>g.same b (h.lt b c).2 (d b c)
theorem jO{W a:World}{B:Nat}{base:Nat}{e:TypeId}{size:Nat}{v:Value}{n:Nat}{xs:List Value}(h:W.ownsRow base e size v n xs)(g:Below B W a)(c:W.heap.size<=B):a.ownsRow base e size v n xs :=
 zc h fun b d=>g.block b (jod (h.lt b d).2 c)
theorem jy{W:World}{base:Nat}{e:TypeId}{size:Nat}{v:Value}{n:Nat}{xs:List Value}(h:W.ownsRow base e size v n xs){p:Addr}(a:v.ownBlock≠some p.block)(u:Value):(W.setCell p u).ownsRow base e size v n xs :=
 zc h fun b c=>joF _ _ _ _ (fun e=>a (by rw[c,e]))
def jd(W:World)(b:Nat)(t:TypeId)(cur:Array Value):Prop:=W.heap[b]?=some (.cells cur t (0,0))
section
variable {W W':World} {b:Nat} {t:TypeId} {cur:Array Value}
theorem jd.lt(h:jd W b t cur):b<W.heap.size:=(Array.getElem?_eq_some_iff.1 (show W.heap[b]?=_ from h)).1
theorem jd.new(W:World)(t:TypeId)(a:Array Value):jd (W.alloc (.cells a t)) W.heap.size t a:=heap_alloc_new W _
theorem jd.alloc(h:jd W b t cur)(o:Obj):jd (W.alloc o) b t cur:=(jpI _ _ _ h.lt).trans h
theorem jd.drewN(h:jd W b t cur)(n:Nat):jd (W.drewN n) b t cur:=h
theorem jd.drew(h:jd W b t cur):jd W.drew b t cur:=h
theorem jd.other(h:jd W b t cur){p:Addr}(a:b≠p.block)(u:Value):jd (W.setCell p u) b t cur:=(joF _ _ _ _ a).trans h
theorem jd.set(h:jd W b t cur)(i:Nat)(u:Value):jd (W.setCell ⟨b,i,none⟩ u) b t (cur.setIfInBounds i u):=by
 obtain⟨a,c⟩:=Array.getElem?_eq_some_iff.1 (show W.heap[b]?=_ from h);show(W.heap.modify b _)[b]?=_
 rw[joD (by rw[Array.size_modify];exact a),Array.getElem_modify_self,c];rfl
theorem jd.cell(h:jd W b t cur)(i:Nat):W.cell? ⟨b,i,none⟩=cur[i]?:=by simp[World.cell?,show W.heap[b]?=_ from h]
theorem jd.frozen(h:jd W b t cur)(i:Nat):W.frozen? ⟨b,i,none⟩=false:=by simp[World.frozen?,show W.heap[b]?=_ from h]
theorem jd.only{S:Nat->Prop}(h:jd W b t cur)(g:jI S W W')(a:¬S b):jd W' b t cur:=(g.same b h.lt a).trans h
theorem jd.below{B:Nat}(h:jd W b t cur)(g:Below B W W')(a:b<B):jd W' b t cur:=(g.block b a).trans h
theorem jd.grown{a:Option Nat}(h:jd W b t cur)(g:W.grownBy W' a)(c:some b≠a):jd W' b t cur:=(g.block b h.lt c).trans h
end
theorem jZ{P:Program}{ops:Array Oper}{o:Oper}{a:Act}{w:World}{K:Act->World->Prop}{Q:Exit->Act->World->Prop}{E:Prop}
  (R:o.guard=none) (s x:Operand) (t:TypeId) (r:o.op=Op.call {callee:=Callee.builtin Builtin.append,args:=#[s,x],argTypes:=#[t,t]})
  (e:TypeId) (i:TypeInfo) (z:Value) (size d:Nat) (I:P.underlying t=some (.slice e)) (W:P.info? e=some i) (U:i.zero=some z)
  (h:i.size=size) (C:i.bytes=d) (q:z.cells.size=size) (D:0<size)
  (v:Value) (n:Nat) (xs:List Value) (O:a.eval s=v) (p:w.ownsRow 0 e size v n xs)
  (A:Addr) (m c:Nat) (b:List Value) (hx:a.eval x=.slice (some A) m c) (hl:b.length=m*size) (g:∀j u,b[j]?=some u->w.cell? (A.add j)=some u) (N:∀u∈b,u.oneCell'=true)
  (y:n+m<=maxLen) (f:(n+m)*d<=140737488355328)
  (G:∀k l,l.ownsRow 0 e size k (n+m) (xs++b)->w.grownBy l v.ownBlock->(k.ownBlock=v.ownBlock\/k.ownBlock=some w.heap.size)->K (a.put o.dst k) l) :
  if Region.wanted o (yielded ops a.tmps)=true then Oper.wp P o a w K Q else E:=by
 have J:Region.wanted o (yielded ops a.tmps)=true:=by simp[Region.wanted,R]
 rw[if_pos J];obtain⟨k,l,X,V,H,Y,L⟩:=run_append_own_at (P:=P) w 0 t o.type e i z size d I W U h C q D v n xs p A m c b hl g N y f (jn3 _);unfold Oper.wp;simp[execOp,r,resolve,invoke,builtin,O,hx,X,Result.andThen];exact G k l V H L
theorem jC(w:World)(t:TypeId)(a:List Value):∀j u,a[j]?=some u->(w.alloc (.cells a.toArray t)).cell? ((⟨w.heap.size,0,none⟩:Addr).add j)=some u:=by
 intro j u b;have:=(jd.new w t a.toArray).cell j
 have e:(⟨w.heap.size,0,none⟩:Addr).add j=⟨w.heap.size,j,none⟩:=by unfold Addr.add;split<;>simp_all
 rw[e,this,jn0,b]
theorem jaj{w:World}{base:Nat}{e:TypeId}{size:Nat}{v:Value}{n:Nat}{xs:List Value}(h:w.ownsRow base e size v (n+1) xs):∃g a,v=.slice (some ⟨g,0,none⟩) (n+1) a:=by
 rcases h.2 with ⟨_,h⟩|⟨g,a,_,h,_⟩
 ·omega
 exact⟨g,a,h⟩
theorem xJ{w W w':World}{g:Nat}{t:TypeId}{d:Array Value}(l:jd w g t d){b c:Value}{n:Nat}{xs A:List Value}{e:TypeId}{size:Nat}(f:w.ownsRow 0 e size b n xs)(j:b.ownBlock≠some g)
  (m:Below w.heap.size w W) (q:w'.ownsRow 0 e size c (n+1) (xs++A)) (a:W.grownBy w' b.ownBlock) (i:c.ownBlock=b.ownBlock\/c.ownBlock=some W.heap.size) :
  (∃s o,c=.slice (some ⟨s,0,none⟩) (n+1) o)/\jd w' g t d/\(∀r,w.heap.size<=r->r<W.heap.size->w'.heap[r]?=W.heap[r]?) /\
   (c.ownBlock=b.ownBlock\/∃k,c.ownBlock=some k/\w.heap.size<=k/\k<w'.heap.size)/\jI (fun r=>some r=b.ownBlock) w w':=by
 have p:=m.size;refine⟨jaj q,(a.block g (jod l.lt p) (fun e=>j e.symm)).trans ((m.block g l.lt).trans l),fun r x u=>a.block r u (fun e => ?_),?_,?_⟩
 ·have:=(f.lt r e.symm).2;omega
 ·rcases i with h|h
  ·exact .inl h
  exact .inr ⟨_,h,p,(q.lt _ h).2⟩
 exact(jI.of_below m (jnT _)).grown a (fun k v=>.inl v.symm)
def qx(T:Nat->Nat)(o:Option Nat)(t:Nat):Prop:=∀b,o=some b->T b=t
def XU(T:Nat->Nat)(lo:Nat)(o:Option Nat)(t:Nat):Nat->Nat:=fun b=>if lo<=b/\o=some b then t else T b
def xM(lo hi:Nat)(a b:Option Nat):Prop:=b=a\/∃k,b=some k/\lo<=k/\k<hi
theorem yf{T:Nat->Nat}{lo:Nat}{o:Option Nat}{t b:Nat}(h:b<lo):XU T lo o t b=T b:=by unfold XU;rw[if_neg (by omega)]
theorem Qu{T:Nat->Nat}{lo d:Nat}{a b:Option Nat}{t:Nat}(h:xM lo d a b)(g:qx T a t):qx (XU T lo b t) b t:=by
 intro k c;unfold XU;split
 ·rfl
 rename_i e;rcases h with h|⟨j,h,f,_⟩
 ·exact g k (by rw[<- h];exact c)
 rw[h]at c;cases c;exact absurd ⟨f,h⟩ e
theorem qy{T:Nat->Nat}{lo:Nat}{o c:Option Nat}{t u:Nat}(b:qx T c u)(hl:∀k,c=some k->k<lo):qx (XU T lo o t) c u:=by intro k a;rw[yf (hl k a)];exact b k a
structure PV where
 v1:Value
 v3:Value
 v6:Value
 fvs:List Value
def yu(p:PS)(text:ByteArray)(v1 v3 v6:Value):Array Value:=#[.int .i64 p.begin_,v1,.string text,v3,.int .i64 p.stanzas,.int .i64 p.at_,v6]
def Jf(it:It)(v:Value):List Value:=[.int .i64 it.kind,.string (B it.raw),v]
def jV:List It->List Value->List Value
 | it::l,v::vs=>Jf it v++jV l vs
 | _,_=>[]
theorem yh:∀(l:List It) (c:List Value) (b:It) (v:Value),c.length=l.length->jV (l++[b]) (c++[v])=jV l c++Jf b v
 | [],[],b,v,_=>by simp[jV]
 | [],_::_,_,_,h=>by simp at h
 | a::l,[],b,v,h=>by simp at h
 | a::l,u::c,b,v,h=>by have:=yh l c b v (by simpa using h);simp only[jog,jV,this,jn8]
theorem vd:∀(l:List It) (b:List Value) (i:Nat) (c:It) (v:Value),l[i]?=some c->b[i]?=some v->(jV l b)[i*3]?=some (.int .i64 c.kind)/\(jV l b)[i*3+1]?=some (.string (B c.raw))/\(jV l b)[i*3+1+1]?=some v
 | [],_,i,c,v,h,_=>by simp at h
 | a::l,[],i,c,v,_,h=>by simp at h
 | a::l,u::b,0,c,v,h,d=>by simp at h d;subst h d;exact⟨rfl,rfl,rfl⟩
 | a::l,u::b,i+1,c,v,h,d=>by
  obtain⟨x,y,z⟩:=vd l b i c v (by simpa using h) (by simpa using d);have e:jV (a::l) (u::b)=.int .i64 a.kind :: .string (B a.raw)::u::jV l b:=rfl
  have k:(i+1)*3=i*3+1+1+1:=by omega
  have f:i*3+1+1+1+1=(i*3+1)+1+1+1:=by omega
  have g:i*3+1+1+1+1+1=(i*3+1+1)+1+1+1:=by omega
  rw[e,k];refine⟨?_,?_,?_⟩
  ·rw[jnX,jnX,jnX];exact x
  ·rw[f,jnX,jnX,jnX];exact y
  rw[g,jnX,jnX,jnX];exact z
theorem XD(l:List Fld)(f:Fld):jA (l++[f])=jA l++[.string (B f.1),.string (B f.2)]:=by unfold jA;simp
def qY(l:List (List UInt8)):List Value:=l.map fun x=>.string (B x)
structure jG(w:World)(T:Nat->Nat)(R b:Nat)(text:ByteArray)(p:PS)(V:PV):Prop where
 cells:jd w b 162 (yu p text V.v1 V.v3 V.v6)
 tp:T b=1
 r1:w.ownsRow 0 9 1 V.v1 p.said.length (qY p.said)
 t1:qx T V.v1.ownBlock 2
 r3:w.ownsRow 0 107 3 V.v3 p.items.length (jV p.items V.fvs)
 t3:qx T V.v3.ownBlock 3
 r6:w.ownsRow 0 148 2 V.v6 p.fields.length (jA p.fields)
 t6:qx T V.v6.ownBlock 4
 nf:V.fvs.length=p.items.length
 rf:∀(i:Nat) (it:It) (v:Value),p.items[i]?=some it->V.fvs[i]?=some v->w.ownsRow 0 148 2 v it.fields.length (jA it.fields)/\qx T v.ownBlock 5
 low:∀k,T k≠0->R<=k/\k<w.heap.size
def jH(w:World)(T:Nat->Nat)(R b:Nat)(text:ByteArray)(p:PS):Prop:=∃V,jG w T R b text p V
structure zU(w:World)(T:Nat->Nat)(w':World)(T':Nat->Nat):Prop where
 only:jI (fun r=>T r≠0) w w'
 old:∀r,r<w.heap.size->(T' r=0↔T r=0)
theorem zU.refl(w:World)(T:Nat->Nat):zU w T w T:=⟨jI.refl _ _,fun _ _=>Iff.rfl⟩
theorem zU.trans{w b w2:World}{T d c:Nat->Nat}(h:zU w T b d)(g:zU b d w2 c):zU w T w2 c :=
 ⟨h.only.trans g.only (fun r a f=>fun e=>f ((h.old r a).2 e)),fun r a=>(g.old r (jod a h.only.size)).trans (h.old r a)⟩
theorem zU.below{w w':World}{T:Nat->Nat}(h:Below w.heap.size w w'):zU w T w' T:=⟨jI.of_below h (jnT _),fun _ _=>Iff.rfl⟩
theorem zU.drewN{w w':World}{T T':Nat->Nat}(h:zU w T w' T')(n:Nat):zU w T (w'.drewN n) T':=⟨h.only.drewN n,h.old⟩
theorem jG.same{w w':World}{T:Nat->Nat}{R b:Nat}{text:ByteArray}{p:PS}{V:PV}(h:jG w T R b text p V)(g:∀k,T k≠0->w'.heap[k]?=w.heap[k]?)(l:w.heap.size<=w'.heap.size):jG w' T R b text p V:=by
 have s:∀{o:Option Nat} {t:Nat},qx T o t->t≠0->∀k,o=some k->w'.heap[k]?=w.heap[k]?:=fun j d k a=>g k (by rw[j k a];exact d);exact⟨(g b (by rw[h.tp];decide)).trans h.cells,h.tp,zc h.r1 (s h.t1 (by decide)),h.t1,zc h.r3 (s h.t3 (by decide)),h.t3,zc h.r6 (s h.t6 (by decide)),h.t6,h.nf,
  fun i f v c e=>⟨zc (h.rf i f v c e).1 (s (h.rf i f v c e).2 (by decide)),(h.rf i f v c e).2⟩,fun k a=>⟨(h.low k a).1,jod (h.low k a).2 l⟩⟩
theorem jG.below{w w':World}{T:Nat->Nat}{R b:Nat}{text:ByteArray}{p:PS}{V:PV}(h:jG w T R b text p V)(a:Below w.heap.size w w'):jG w' T R b text p V :=
 h.same (fun k c=>a.block k (h.low k c).2) a.size
theorem jH.below{w w':World}{T:Nat->Nat}{R b:Nat}{text:ByteArray}{p:PS}(h:jH w T R b text p)(a:Below w.heap.size w w'):jH w' T R b text p:=by obtain⟨V,h⟩:=h;exact⟨V,h.below a⟩
theorem jG.lt{w:World}{T:Nat->Nat}{R b:Nat}{text:ByteArray}{p:PS}{V:PV}(h:jG w T R b text p V):b<w.heap.size:=h.cells.lt
theorem jG.new(w:World)(text:ByteArray)(R:Nat)(f:R<=w.heap.size):jG (w.alloc (.cells #[.int .i64 0,.slice none 0 0,.string text,.slice none 0 0,.int .i64 0,.int .i64 0,.slice none 0 0] 162)) (fun k=>if k=w.heap.size then 1 else 0) R w.heap.size text PS.new ⟨.slice none 0 0,.slice none 0 0,.slice none 0 0,[]⟩:=by
 have b:∀t,qx (fun k=>if k=w.heap.size then 1 else 0) (Value.slice none 0 0).ownBlock t:=fun t k h=>by cases h
 have c:∀e a,(w.alloc (.cells #[.int .i64 0,.slice none 0 0,.string text,.slice none 0 0,.int .i64 0,.int .i64 0,.slice none 0 0] 162)).ownsRow 0 e a (.slice none 0 0) 0 []:=fun e a=>⟨by simp,.inl ⟨rfl,rfl⟩⟩
 refine⟨jd.new _ _ _,if_pos rfl,c _ _,b 2,c _ _,b 3,c _ _,b 4,rfl,(fun i g v h _=>by cases h),fun k d => ?_⟩;have:k=w.heap.size:=by
  rcases Nat.decEq k w.heap.size with h|h
  ·rw[if_neg h]at d;exact absurd rfl d
  exact h
 subst this;exact⟨f,by simp⟩
theorem je{w:World}{base:Nat}{e:TypeId}{size:Nat}{v:Value}{n:Nat}{xs:List Value}(h:w.ownsRow base e size v n xs):∃a b,v=.slice a n b/\n<=b:=by
 rcases h.2 with ⟨rfl,rfl⟩|⟨g,b,d,rfl,_,_,c,_⟩
 ·exact⟨none,0,rfl,jnT _⟩
 exact⟨_,b,rfl,c⟩
theorem yD{w:World}{T:Nat->Nat}{R b:Nat}{text:ByteArray}{p:PS}{V:PV}(h:jG w T R b text p V):
  Calls Tryz.prog 142 #[.pointer (some ⟨b,0,none⟩)] w fun e d=>e=.returned (.bool (!p.said.isEmpty))/\w=d:=by
 obtain⟨a,c,f,j⟩:=je h.r1;have i:w.cell? ⟨b,1,none⟩=some (.slice a p.said.length c):=by rw[<- f];exact h.cells.cell 1
 have g:(!p.said.isEmpty)=decide (0<p.said.length):=by cases p.said<;>simp
 rw[g];clear h;go_enter Tryz.func142,Tryz.ntmps142;go_wp2;go_ret;exact⟨rfl,rfl⟩
theorem ji5{w:World}{T:Nat->Nat}{R b:Nat}{text:ByteArray}{p:PS}{V:PV}(h:jG w T R b text p V):
  Calls Tryz.prog 147 #[.pointer (some ⟨b,0,none⟩)] w fun e g=>e=.returned (.bool (vO p))/\w=g:=by
 obtain⟨a,f,i,k⟩:=je h.r6;have j:w.cell? ⟨b,6,none⟩=some (.slice a p.fields.length f):=by rw[<- i];exact h.cells.cell 6
 have m:w.cell? ⟨b,4,none⟩=some (.int .i64 p.stanzas):=h.cells.cell 4;have hl:=h.lt
 unfold vO;clear h;by_cases c:p.fields.length=0
 ·rw[if_pos c];rw[c]at j;have d:(p.stanzas==400)=((p.stanzas:Int)==400):=by rw[joS];simp;omega
  rw[d];go_enter Tryz.func147,Tryz.ntmps147;go_wp2;go_ret;exact⟨rfl,rfl⟩
 rw[if_neg c];have d:(p.fields.length==40)=((p.fields.length:Int)==40):=by rw[joS];simp;omega
 have l:((p.fields.length:Int)==0)=false:=beq_eq_false_iff_ne.2 (by omega);rw[d];go_enter Tryz.func147,Tryz.ntmps147;go_wp2;go_ret;exact⟨rfl,rfl⟩
theorem XT(l:List (List UInt8))(x:List UInt8):qY (l++[x])=qY l++[.string (B x)]:=by unfold qY;simp
theorem jiL:(Tryz.prog.info? 9).map (fun i=>(i.zero,i.size,i.bytes))=some (some (.string ⟨#[]⟩),1,16):=by kernel_rfl
theorem Qv{w w':World}{T:Nat->Nat}{R:Nat}{a o:Option Nat}{t:Nat}(b:∀k,T k≠0->R<=k/\k<w.heap.size)(i:w.heap.size<=w'.heap.size)(g:R<=w.heap.size)(h:xM w.heap.size w'.heap.size a o)(f:qx T a t)(e:t≠0):
  ∀k,XU T w.heap.size o t k≠0->R<=k/\k<w'.heap.size:=by
 intro k c;unfold XU at c;split at c
 ·rename_i d;rcases h with h|⟨j,h,_,l⟩
  ·have:=b k (by rw[f k (by rw[<- h];exact d.2)];exact e);omega
  have:=d.2;rw[h]at this;cases this;omega
 have:=b k c;omega
theorem jG.said{w w':World}{T:Nat->Nat}{R b:Nat}{text:ByteArray}{p p':PS}{V:PV}(h:jG w T R b text p V)(z:R<=w.heap.size)(d:Value)
  (C:jd w' b 162 (yu p' text d V.v3 V.v6)) (G:w'.ownsRow 0 9 1 d p'.said.length (qY p'.said)) (f:xM w.heap.size w'.heap.size V.v1.ownBlock d.ownBlock)
  (x:jI (fun r=>r=b\/some r=V.v1.ownBlock) w w') (m:p'.items=p.items) (E:p'.fields=p.fields) :
  ∃y,jG w' y R b text p' {V with v1:=d}/\zU w T w' y:=by
 have D:∀k,T k≠0->T k≠1->T k≠2->w'.heap[k]?=w.heap[k]?:=fun k A n u=>x.same k (h.low k A).2 (by
  rintro(e|e)
  ·exact n (by rw[e];exact h.tp)
  exact u (h.t1 k e.symm))
 have s:∀{o:Option Nat} {t:Nat},qx T o t->3<=t->∀k,o=some k->w'.heap[k]?=w.heap[k]?:=fun g l k f=>D k (by rw[g k f];omega) (by rw[g k f];omega) (by rw[g k f];omega);have q:∀{o:Option Nat} {t:Nat},qx T o t->t≠0->∀k,o=some k->k<w.heap.size:=fun g l k f=>(h.low k (by rw[g k f];exact l)).2
 refine⟨XU T w.heap.size d.ownBlock 2,⟨C,by rw[yf h.lt];exact h.tp,G,Qu f h.t1,?_,qy h.t3 (q h.t3 (by decide)),?_,qy h.t6 (q h.t6 (by decide)),by rw[m];exact h.nf,fun i H v n u => ?_,Qv h.low x.size z f h.t1 (by decide)⟩,
  ⟨x.mono fun r j e => ?_,fun r j=>by rw[yf j]⟩⟩
 ·rw[m];exact zc h.r3 (s h.t3 (by decide))
 ·rw[E];exact zc h.r6 (s h.t6 (by decide))
 ·obtain⟨a,c⟩:=h.rf i H v (by rw[<- m];exact n) u;exact⟨zc a (s c (by decide)),qy c (q c (by decide))⟩
 rcases e with e|e
 ·rw[e,h.tp];decide
 rw[h.t1 r e.symm];decide
def jah(p:PS)(x:Ln):PS:={p with begin_:=x.no,said:=[x.text]}
theorem jfB{w:World}{T:Nat->Nat}{R b:Nat}{text:ByteArray}{p:PS}{V:PV}(h:jG w T R b text p V)(j:R<=w.heap.size)(x:Ln):
  Calls Tryz.prog 144 #[.pointer (some ⟨b,0,none⟩),.agg #[.int .i64 x.no,.int .i64 x.at_,.string (B x.text),.bool x.ended]] w fun e w'=>e=.returned (.tuple #[])/\∃d,jH w' d R b text (jah p x)/\zU w T w' d:=by
 have hl:=h.lt;have a:=h.cells
 have z:w.cell? ⟨b,0,none⟩=some (.int .i64 p.begin_):=a.cell 0;have y:w.cell? ⟨b,1,none⟩=some V.v1:=a.cell 1
 have q:=a.frozen 0;have l:=a.frozen 1
 have n:=jnS (fun w' f i v t u=>jG.said (p':=jah p x) h j (w':=w') f i v t u rfl rfl);have s:=jnS a
 clear h a;go_enter Tryz.func144,Tryz.ntmps144;go_wp2;go_region
 all_goals
  go_wp2;go_end0;refine⟨rfl,?_⟩;refine Exists.elim (n.out _ (.slice (some ⟨w.heap.size+1,0,none⟩) 1 1) ?c ?r ?k ?o) fun d g=>⟨d,⟨_,g.1⟩,g.2⟩
  case c =>
   have i:=((((s.out.set 0 (.int .i64 x.no)).set 1 (.slice (some ⟨w.heap.size+1,0,none⟩) 1 1)).alloc (.cells #[.int .i64 x.no,.int .i64 x.at_,.string (B x.text),.bool x.ended] 157)).alloc (.cells #[.string (B x.text)] 9)).drew;simpa [yu,jah]using i
  case r =>
   have m:(((w.setCell ⟨b,0,none⟩ (.int .i64 x.no)).setCell ⟨b,1,none⟩ (.slice (some ⟨w.heap.size+1,0,none⟩) 1 1)).alloc (.cells #[.int .i64 x.no,.int .i64 x.at_,.string (B x.text),.bool x.ended] 157)).heap.size=w.heap.size+1:=by simp[World.setCell]
   have:=World.ownsRow_lit (base:=0) (((w.setCell ⟨b,0,none⟩ (.int .i64 x.no)).setCell ⟨b,1,none⟩ (.slice (some ⟨w.heap.size+1,0,none⟩) 1 1)).alloc (.cells #[.int .i64 x.no,.int .i64 x.at_,.string (B x.text),.bool x.ended] 157)) (e:=9) (size:=1) #[.string (B x.text)] 1 (jn3 _) (by decide) rfl;rw[m]at this;exact zc this fun _ _=>rfl
  case k=>exact .inr ⟨w.heap.size+1,rfl,by omega,by simp[World.setCell,World.drew]⟩
  case o=>exact((((jI.refl _ w).setCell (p:=⟨b,0,none⟩) (.inl (.inl rfl)) _).setCell (p:=⟨b,1,none⟩) (.inl (.inl rfl)) _).alloc _).alloc _ |>.drew
theorem Zb{w:World}{T:Nat->Nat}{b:Nat}{v:Value}{t:Nat}(c:T b=1)(a:qx T v.ownBlock t)(h:t≠1):v.ownBlock≠some b:=fun e=>h (by rw[<- a b e,c])
def JJ(p:PS)(x:Ln):PS:={p with said:=p.said++[x.text]}
theorem ji2{w:World}{T:Nat->Nat}{R b:Nat}{text:ByteArray}{p:PS}{V:PV}(h:jG w T R b text p V)(G:R<=w.heap.size)(x:Ln)(Q:p.said.length<=1000000):
  Calls Tryz.prog 143 #[.pointer (some ⟨b,0,none⟩),.agg #[.int .i64 x.no,.int .i64 x.at_,.string (B x.text),.bool x.ended]] w fun e w'=>e=.returned (.tuple #[])/\∃d,jH w' d R b text (JJ p x)/\zU w T w' d:=by
 obtain⟨K,P,n,z,m⟩:=info_parts jiL;have hl:=h.lt
 have k1:w.cell? ⟨b,1,none⟩=some V.v1:=h.cells.cell 1;have N:=jnS (fun w' l q y i j=>jG.said (p':=JJ p x) h G (w':=w') l q y i j rfl rfl)
 have O:=jnS h.cells;have D:=jnS h.r1
 have A:=jnS (Zb (w:=w) h.tp h.t1 (by decide));clear h;go_enter Tryz.func143,Tryz.ntmps143;go_wp2;go_region_law ((refine jZ rfl (.tmp 8) (.tmp 11) 158 rfl 9 K _ 1 16 Tryz.underlying158 P n z m rfl (by decide) V.v1 p.said.length (qY p.said) (by simp[Act.eval]) (by exact((D.out.alloc _).alloc _).drew) ⟨w.heap.size+1,0,none⟩ 1 1 [.string (B x.text)] (by simp[Act.eval]) rfl (by have:=jC (w.alloc (.cells #[.int .i64 x.no,.int .i64 x.at_,.string (B x.text),.bool x.ended] 157)) 9 [.string (B x.text)];rw[joe]at this;exact this) (by intro u C;simp at C;subst C;rfl) (by unfold maxLen;omega) (by omega) ?_);intro W w' j t o;obtain⟨⟨f,a,rfl⟩,c,I,i,s⟩:=xJ O.out D.out A.out ((((jnV _ w).alloc (jnT _) _).alloc (by simp) _).drew) j t o;have J:w'.cell? ⟨b,1,none⟩=some V.v1:=c.cell 1;have E:=c.frozen 1)
 all_goals
  go_wp2;go_end0;have v:(Value.slice (some ⟨f,0,none⟩) (p.said.length+1) a).ownBlock≠some b:=by
   intro e;rcases i with h|⟨k,h,U,_⟩
   ·exact A.out (h.symm.trans e)
   rw[h]at e;cases e;omega
  refine⟨rfl,Exists.elim (N.out _ (.slice (some ⟨f,0,none⟩) (p.said.length+1) a) ?k1 ?k2 ?k3 ?k4) fun d g=>⟨d,⟨_,g.1⟩,g.2⟩⟩
  case k1 =>
   have q:=c.set 1 (.slice (some ⟨f,0,none⟩) (p.said.length+1) a);simpa [yu,JJ]using q
  case k2 =>
   have y:=jy (p:=⟨b,1,none⟩) j v (.slice (some ⟨f,0,none⟩) (p.said.length+1) a);have H:(JJ p x).said.length=p.said.length+1:=by simp[JJ]
   have L:qY (JJ p x).said=qY p.said++[.string (B x.text)]:=XT _ _;rw[H,L];exact y
  case k3=>unfold xM;simpa [World.setCell]using i
  case k4=>exact(s.mono (fun r _ h=>.inr h)).setCell (p:=⟨b,1,none⟩) (.inl (.inl rfl)) _
end Go.Proofs.YtbapfpekklcicaaGreatDoor
