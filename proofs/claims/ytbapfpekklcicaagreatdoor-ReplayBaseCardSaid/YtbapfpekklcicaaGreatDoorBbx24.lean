/- Texts put together:IM,PL,PM,PV,AC,AE,WN,WO,AF,EJ. -/
import Derived.StillTail
import Derived.Test.YtbapfpekklcicaaGreatDoorBbx23
set_option linter.unusedVariables false
set_option maxRecDepth 100000
set_option maxHeartbeats 16000000
namespace Go.Proofs.YtbapfpekklcicaaGreatDoor
open Go.RowKit Go.Shelf Tryz
def wf:List Ln->Prop
 | []=>True
 | x::xs=>(10:UInt8)∉x.text/\(x.ended=true\/(xs=[]/\x.text≠[]))/\wf xs
def WS(x:Ln):List UInt8×Bool:=(x.text,x.ended)
theorem xt(t r:List UInt8)(h:(10:UInt8)∉t):head (t++10::r)=t:=by
 unfold head
 induction t with
 | nil=>simp
 | cons c t d =>
 have a:c≠10:=fun e=>h (by rw[e];exact jn5);rw[jog,joG,if_pos (by simp[a]),d (fun b=>h (jn4 _ b))]
theorem Uy(t:List UInt8)(h:(10:UInt8)∉t):head t=t:=by
 unfold head
 induction t with
 | nil=>rfl
 | cons c t d =>
 have a:c≠10:=fun e=>h (by rw[e];exact jn5);rw[joG,if_pos (by simp[a]),d (fun b=>h (jn4 _ b))]
theorem jc7(t:List UInt8)(h:(10:UInt8)∉t):nl t=false:=by unfold nl;rw[Bool.eq_false_iff];intro a;exact h (by simpa using a)
theorem jc6(t r:List UInt8):nl (t++10::r)=true:=by unfold nl;simp
theorem KZ:∀(a:List Ln) (i d:Nat),wf a->(jP i d (a.flatMap Ln.bytes)).map WS=a.map WS
 | [],i,d,_=>by simp[jq]
 | x::a,i,d,⟨c,j,k⟩=>by
  rcases j with b|⟨rfl,h⟩
  ·have e:(x::a).flatMap Ln.bytes=x.text++10::a.flatMap Ln.bytes:=by simp[Ln.bytes,b]
   rw[e,jx _ _ _ (by simp)];rw[xt _ _ c,jc6];have f:qF (x.text++10::a.flatMap Ln.bytes)=x.text.length+1:=by unfold qF;rw[xt _ _ c,jc6];simp
   have g:(x.text++10::a.flatMap Ln.bytes).drop (x.text.length+1)=a.flatMap Ln.bytes:=by rw[show x.text++10::a.flatMap Ln.bytes=(x.text++[10])++a.flatMap Ln.bytes by simp];exact jpi (by simp)
   rw[f,g,joy,joy,KZ a _ _ k];simp[WS,b]
  have b:x.ended=false\/x.ended=true:=by cases x.ended<;>simp
  rcases b with b|b
  ·have e:[x].flatMap Ln.bytes=x.text:=by simp[Ln.bytes,b]
   rw[e,jx _ _ _ h,Uy _ c,jc7 _ c];have f:qF x.text=x.text.length:=by unfold qF;rw[Uy _ c,jc7 _ c];simp
   rw[f,jpc,jq];simp[WS,b]
  have e:[x].flatMap Ln.bytes=x.text++10::[]:=by simp[Ln.bytes,b]
  rw[e,jx _ _ _ (by simp),xt _ _ c,jc6];have f:qF (x.text++10::[])=x.text.length+1:=by unfold qF;rw[xt _ _ c,jc6];simp
  rw[f];have g:(x.text++10::[]).drop (x.text.length+1)=[]:=by rw[jpw];simp
  rw[g,jq];simp[WS,b]
theorem Kl:∀(n c a:Nat) (l:List UInt8),l.length<=n->wf (jP c a l)
 | 0,_,_,l,h=>by have:l=[]:=List.length_eq_zero_iff.1 (by omega);subst this;rw[jq];trivial
 | n+1,c,a,l,h=>by
  by_cases hl:l=[]
  ·subst hl;rw[jq];trivial
  have i:=qJ l hl;have d:=vN l.length c a l (jnT _)
  rw[jx _ _ _ hl]at d ⊢;refine⟨d _ jn5,?_,Kl n _ _ _ (by simp only[jn6];omega)⟩;cases b:nl l with
  | true=>exact .inl rfl
  | false =>
  have e:head l=l:=Uy l (fun f=>by unfold nl at b;simp at b;exact b f);have g:qF l=l.length:=by unfold qF;rw[e,b];simp
  refine .inr ⟨?_,?_⟩
  ·rw[g,jpc,jq]
  show head l≠[];rw[e];exact hl
theorem Km(l:List UInt8):wf (jf l):=Kl _ _ _ _ (jnT _)
def jct(j:List UInt8)(x:Ln):Ln:={x with text:=j++x.text}
theorem jcw(j:List UInt8)(b:(10:UInt8)∉j):∀a,wf a->wf (a.map (jct j))
 | [],_=>trivial
 | x::a,⟨c,d,f⟩=>by
  refine⟨fun g => ?_,?_,jcw j b a f⟩
  ·rcases List.mem_append.1 g with h|h
   ·exact b h
   exact c h
  rcases d with h|⟨rfl,h⟩
  ·exact .inl h
  refine .inr ⟨rfl,fun e=>h ?_⟩;exact(List.append_eq_nil_iff.1 e).2
def dd(p:List UInt8)(ys:List (List UInt8×Bool)):List UInt8×Bool :=
 if ys.all (fun y=>p.isPrefixOf y.1) then (ys.flatMap (fun y=>y.1.drop p.length++if y.2 then [10] else []),true) else ([],false)
theorem jjq(j:List UInt8)(a:(10:UInt8)∉j)(l:List UInt8):
  dd j ((jf ((jf l).flatMap fun x=>j++x.bytes)).map WS)=(l,true):=by
 have e:(jf l).flatMap (fun x=>j++x.bytes)=((jf l).map (jct j)).flatMap Ln.bytes:=by rw[List.flatMap_map];congr 1;funext x;simp only[Ln.bytes,jct,jn8];rfl
 rw[e];rw[show jf (((jf l).map (jct j)).flatMap Ln.bytes)=jP 0 0 (((jf l).map (jct j)).flatMap Ln.bytes) from rfl,KZ _ 0 0 (jcw j a _ (Km l))];unfold dd;rw[if_pos]
 ·congr 1
  conv=>rhs;rw[<- jJ l]
  rw[jp3,List.flatMap_map];congr 1;funext x;simp[WS,jct,Ln.bytes];rfl
 rw[jqa];intro y b;obtain⟨x,hx,rfl⟩:=List.mem_map.1 b;obtain⟨x,hx,rfl⟩:=List.mem_map.1 hx;simp[WS,jct]
section
set_option maxRecDepth 1000000
end
section
open Go.ChangeShapes Go.WideShapes
attribute [local go_sem] qS
theorem QS:∀(c:List Fld),foldN c=0->∀f∈c,jF f.1=true/\f.2.length<=1000
 | [],_,f,a=>by cases a
 | g::r,h,f,a=>by
  unfold foldN at h;split at h
  ·rename_i b;rcases List.mem_cons.1 a with rfl|a
   ·exact XB b
   exact QS r h f a
  rename_i b;exact absurd h b
end
def qw(k:Int):List UInt8:=if k=1 then [114,101,112,108,97,99,101] else if k=2 then [100,101,108,101,116,101] else if k=3 then [105,110,115,101,114,116] else []
def zg(k id:Int):List UInt8:=if k=1\/k=2\/k=3 then 32::(qw k++32::Lib.itoa id) else []
def yp(l:List UInt8):List UInt8:=32::32::l
def jg4(ed:Ed):List (List UInt8):=zg ed.kind ed.id::(jD ed.fields).map yp
def edT(ed:Ed):List UInt8:=jp (jg4 ed)
def zl(eds:List Ed):List (List UInt8):=eds.flatMap jg4
def jo(eds:List Ed):List UInt8:=jp (zl eds)
theorem jcv{k:Int}{c:UInt8}(h:c.toNat<97):c∉qw k:=by
 unfold qw;have a:∀l:List UInt8,(∀x∈l,97<=x.toNat)->c∉l:=fun l hl b=>by have:=hl c b;omega
 split
 ·exact a _ (by decide)
 split
 ·exact a _ (by decide)
 split
 ·exact a _ (by decide)
 simp
theorem Xb(k id:Int):(10:UInt8)∉zg k id:=by
 unfold zg;split
 ·intro h;rcases List.mem_cons.1 h with h|h
  ·exact absurd h (by decide)
  rcases List.mem_append.1 h with h|h
  ·exact jcv (by decide) h
  rcases List.mem_cons.1 h with h|h
  ·exact absurd h (by decide)
  exact jk5 (by decide) (.inl (by decide)) h
 simp
theorem jew{l:List UInt8}(h:(10:UInt8)∉l):(10:UInt8)∉yp l:=by
 unfold yp;intro a;rcases List.mem_cons.1 a with a|a
 ·exact absurd a (by decide)
 rcases List.mem_cons.1 a with a|a
 ·exact absurd a (by decide)
 exact h a
structure JM(fs:List Fld):Prop where
 each:∀f∈fs,jF f.1=true/\f.2.length<=1000
 len:fs.length<=40
theorem Zk{ed:Ed}(h:zG ed=0):JM ed.fields:=by
 unfold zG at h;split at h
 ·obtain⟨_,a,b⟩:=Jq h;exact⟨QS _ b,a⟩
 split at h
 ·rename_i q;rw[List.length_eq_zero_iff.1 q.2];exact⟨fun f c=>(by cases c),jn3 _⟩
 cases h
theorem JM.clean{fs:List Fld}(h:JM fs):∀l∈jD fs,(10:UInt8)∉l:=by intro l hl;unfold jD at hl;obtain⟨f,a,b⟩:=List.mem_flatMap.1 hl;exact VC _ (h.each f a).1 l b
theorem jeR{ed:Ed}(h:JM ed.fields):∀l∈jg4 ed,(10:UInt8)∉l:=by
 intro l hl;rcases List.mem_cons.1 hl with rfl|hl
 ·exact Xb _ _
 obtain⟨x,hx,rfl⟩:=List.mem_map.1 hl;exact jew (h.clean x hx)
theorem xG{eds:List Ed}(h:∀a∈eds,zG a=0):∀l∈zl eds,(10:UInt8)∉l:=by intro l hl;obtain⟨a,b,c⟩:=List.mem_flatMap.1 hl;exact jeR (Zk (h a b)) l c
theorem xF(ed:Ed)(r:List Ed):jo (ed::r)=edT ed++jo r:=by unfold jo zl edT;rw[joc,xS]
theorem Ww:jo []=[]:=rfl
theorem Gq(a b:List Ed):jo (a++b)=jo a++jo b:=by unfold jo zl;rw[jow,xS]
theorem XI(a:List Ed)(ed:Ed):jo (a++[ed])=jo a++edT ed:=by rw[Gq,xF,Ww,jok]
theorem jdi(ls:List (List UInt8))(h:∀l∈ls,(10:UInt8)∉l):(jf (jp ls)).flatMap (fun x=>[32,32]++x.bytes)=jp (ls.map yp):=by
 show(jP 0 0 (jp ls)).flatMap _=_;rw[xm ls 0 0 h];suffices ∀(ls:List (List UInt8)) (a c:Nat),(num a c ls).flatMap (fun x=>[32,32]++x.bytes)=jp (ls.map yp) from this ls 0 0
 intro ls
 induction ls with
 | nil=>intro a c;rfl
 | cons l r b =>
 intro a c;show([32,32]++(⟨a,c,l,true⟩:Ln).bytes)++(num (a+1) (c+l.length+1) r).flatMap _=_
 rw[b];unfold jp yp Ln.bytes;simp
theorem jeG(fs:List Fld):jM fs=jp (jD fs):=by unfold jM jp jD;rw[List.flatMap_assoc]
theorem jke{ed:Ed}(h:JM ed.fields):edT ed=zg ed.kind ed.id++10::(jf (jM ed.fields)).flatMap (fun x=>[32,32]++x.bytes):=by
 rw[jeG,jdi _ h.clean];show jp (_::_)=_
 unfold jp;simp
def JU(l:List UInt8):Int:=if l=qw 1 then 1 else if l=qw 2 then 2 else if l=qw 3 then 3 else 0
theorem jbV{k:Int}(h:k=1\/k=2\/k=3):JU (qw k)=k:=by rcases h with rfl|rfl|rfl<;>decide
def qM(t:List UInt8):List Fld:=match jv (dd [32,32] ((jf t).map WS)).1 with | .error _=>[] | .ok its=>(Yb its).flatten
def xO(t:List UInt8):List UInt8:=t.takeWhile (· != 10)
def WW(t:List UInt8):List UInt8:=t.drop ((xO t).length+1)
def YU(t:List UInt8):List UInt8:=(Lib.trimPrefix (xO t) [32]).takeWhile (· != 32)
def jjg(t:List UInt8):List UInt8:=(Lib.trimPrefix (xO t) [32]).drop ((YU t).length+1)
def vm(t:List UInt8):Ed:=⟨JU (YU t),qt (jjg t),qM (WW t)⟩
theorem jl0(c:UInt8)(a b:List UInt8)(h:c∉a):(a++c::b).takeWhile (· != c)=a:=by
 induction a with
 | nil=>simp
 | cons x r f =>
 have hx:(x != c)=true:=by have:c≠x:=fun e=>h (e▸jn5);simp;exact fun e=>this e.symm
 rw[jog,joG,if_pos hx,f (fun d=>h (jn4 _ d))]
theorem jmI(c:UInt8)(a b:List UInt8):(a++c::b).drop (a.length+1)=b:=by rw[show a++c::b=(a++[c])++b by simp];exact jpi (by simp)
theorem jbA{fs:List Fld}(h:JM fs):qM (jp ((jD fs).map yp))=fs:=by
 unfold qM;have e:=jjq [32,32] (by decide) (jp (jD fs))
 rw[jdi _ h.clean]at e;rw[e];show(match jv (jp (jD fs)) with | .error _=>[] | .ok b=>(Yb b).flatten)=fs
 by_cases c:fs=[]
 ·subst c;rfl
 have p:=Uk [⟨3,jp (jD fs),fs⟩] (by show 1<=400;decide) (fun g a=>by rw[List.mem_singleton.1 a];exact jeX fs h.each c h.len);have d:(yU [(⟨3,jp (jD fs),fs⟩:It)])=[⟨3,jp (jD fs),fs⟩]:=rfl
 rw[d]at p;have f:([(⟨3,jp (jD fs),fs⟩:It)].flatMap It.raw)=jp (jD fs):=by simp
 rw[f]at p;rw[p];show(Yb [(⟨3,jp (jD fs),fs⟩:It)]).flatten=fs
 simp[Yb]
theorem jfF{ed:Ed}(h:JM ed.fields)(d:ed.kind=1\/ed.kind=2\/ed.kind=3)(j:I64 ed.id):vm (edT ed)=ed:=by
 have e:edT ed=zg ed.kind ed.id++10::jp ((jD ed.fields).map yp):=by show jp (_::_)=_;unfold jp;simp
 have a:xO (edT ed)=zg ed.kind ed.id:=by rw[e];exact jl0 10 _ _ (Xb _ _)
 have f:WW (edT ed)=jp ((jD ed.fields).map yp):=by unfold WW;rw[a,e];exact jmI 10 _ _
 have g:zg ed.kind ed.id=32::(qw ed.kind++32::Lib.itoa ed.id):=by unfold zg;rw[if_pos d]
 have b:Lib.trimPrefix (xO (edT ed)) [32]=qw ed.kind++32::Lib.itoa ed.id:=by rw[a,g];simp[Lib.trimPrefix,Lib.hasPrefix]
 have c:YU (edT ed)=qw ed.kind:=by unfold YU;rw[b];exact jl0 32 _ _ (jcv (by decide))
 have i:jjg (edT ed)=Lib.itoa ed.id:=by unfold jjg;rw[b,c];exact jmI 32 _ _
 unfold vm;rw[c,i,f,jbV d,vy j,jbA h]
def zZ(t:List UInt8):Nat->List Ln->List (List UInt8)
 | b,[]=>[t.drop b]
 | b,x::r=>if b<x.at_/\Lib.hasPrefix x.text [32,32]=false then (t.drop b).take (x.at_-b)::zZ t x.at_ r else zZ t b r
def xg(t:List UInt8):List Ed:=(zZ t 0 (jf t)).map vm
theorem QK(t:List UInt8)(b:Nat):∀(e:List (List UInt8)) (d c:Nat) (a:List Ln),zZ t b (num d c (e.map yp)++a)=zZ t b a
 | [],_,_,_=>rfl
 | l::r,d,c,a=>by show zZ t b (⟨d,c,yp l,true⟩::(num (d+1) (c+(yp l).length+1) (r.map yp)++a))=_;rw[zZ,if_neg (by intro h;exact absurd h.2 (by simp[Lib.hasPrefix,yp]))];exact QK t b r _ _ a
theorem jaO{k id:Int}(a:k=1\/k=2\/k=3):Lib.hasPrefix (zg k id) [32,32]=false:=by unfold zg;rw[if_pos a];rcases a with rfl|rfl|rfl<;>rfl
theorem KC(t:List UInt8):∀(r:List Ed) (b a:List UInt8) (c:Nat),t=b++(a++jo r)->a≠[]->(∀d∈r,d.kind=1\/d.kind=2\/d.kind=3) ->
  zZ t b.length (num c (b.length+a.length) (zl r))=a::r.map edT
 | [],b,a,c,h,f,_=>by
  show [t.drop b.length]=[a]
  rw[h,jpi rfl,Ww,jok]
 | e::r,b,a,c,h,f,g=>by
  have i:0<a.length:=List.length_pos_iff.2 f;have k:zl (e::r)=zg e.kind e.id::((jD e.fields).map yp++zl r):=by unfold zl;rw[joc];rfl
  rw[k];show zZ t b.length (⟨c,b.length+a.length,zg e.kind e.id,true⟩::num (c+1) (b.length+a.length+(zg e.kind e.id).length+1) ((jD e.fields).map yp++zl r))=_
  rw[zZ,if_pos ⟨by show b.length<b.length+a.length;omega,jaO (g e jn5)⟩];rw[JD,QK];have j:=KC t r (b++a) (edT e) (c+1+((jD e.fields).map yp).length) (by rw[h,xF];simp) (by unfold edT jg4 jp;simp) (fun x hx=>g x (jn4 _ hx))
  have l:(edT e).length=(zg e.kind e.id).length+1+(jp ((jD e.fields).map yp)).length:=by unfold edT jg4 jp;simp;omega
  rw[jnU]at j;rw[show b.length+a.length+(zg e.kind e.id).length+1+(jp ((jD e.fields).map yp)).length=b.length+a.length+(edT e).length by omega];rw[show(⟨c,b.length+a.length,zg e.kind e.id,true⟩:Ln).at_=b.length+a.length from rfl,j,joy];congr 1;rw[h,jpi rfl,show b.length+a.length-b.length=a.length by omega,List.take_left' rfl]
theorem jd9{eds:List Ed}(i:eds≠[])(a:∀c∈eds,zG c=0)(j:∀c∈eds,I64 c.id):xg (jo eds)=eds:=by
 cases eds with
 | nil=>exact absurd rfl i
 | cons e r =>
 unfold xg;rw[show jf (jo (e::r))=num 0 0 (zl (e::r)) from xm _ 0 0 (xG a)];have d:zl (e::r)=zg e.kind e.id::((jD e.fields).map yp++zl r):=by unfold zl;rw[joc];rfl
 have f:zZ (jo (e::r)) 0 (num 0 0 (zl (e::r)))=(e::r).map edT:=by
  rw[d];show zZ _ 0 (⟨0,0,zg e.kind e.id,true⟩::num 1 (0+(zg e.kind e.id).length+1) ((jD e.fields).map yp++zl r))=_
  rw[zZ,if_neg (by intro h;exact absurd h.1 (Nat.lt_irrefl _)),JD,QK];have b:=KC (jo (e::r)) r [] (edT e) (1+((jD e.fields).map yp).length) (by rw[xF];rfl) (by unfold edT jg4 jp;simp) (fun x hx=>yO (a x (jn4 _ hx)))
  have g:(edT e).length=(zg e.kind e.id).length+1+(jp ((jD e.fields).map yp)).length:=by unfold edT jg4 jp;simp;omega
  rw[g]at b;simp only[joz]at b;rw[show 0+((zg e.kind e.id).length+1+(jp ((jD e.fields).map yp)).length)=0+(zg e.kind e.id).length+1+(jp ((jD e.fields).map yp)).length by omega]at b;exact b
 rw[f,jp3]
 conv=>rhs;rw[<- List.map_id (e::r)]
 exact jqe fun x hx=>jfF (Zk (a x hx)) (yO (a x hx)) (j x hx)
def Qd(t:List UInt8):Option (List Ed):=if t.length<=50000/\(qu (xg t)).2=0/\jo (xg t)=t then some (xg t) else none
theorem jhy(l:List UInt8):I64 (qt l):=by
 unfold qt;cases h:Lib.atoiAll l with
 | ok v =>
  show I64 v;unfold Lib.atoiAll at h;split at h
  ·cases h
  simp only at h;split at h
  ·cases h
  ·cases h
  split at h
  ·cases h
  split at h
  ·cases h
  injection h with h;subst h;split
  ·exact⟨by omega,by omega⟩
  exact⟨by omega,by omega⟩
 | range =>
  show I64 (Lib.atoiSat l);unfold Lib.atoiSat;split
  ·exact⟨by decide,by decide⟩
  exact⟨by decide,by decide⟩
 | _=>exact(⟨by decide,by decide⟩:I64 0)
theorem jcW(t:List UInt8):∀b∈xg t,I64 b.id:=by intro b a;obtain⟨p,_,rfl⟩:=List.mem_map.1 a;exact jhy _
theorem xE{t:List UInt8}{eds:List Ed}:Qd t=some eds↔t.length<=50000/\(qu eds).2=0/\(∀f∈eds,I64 f.id)/\jo eds=t:=by
 unfold Qd;constructor
 ·intro h;split at h
  ·rename_i q;injection h with h;subst h;exact⟨q.1,q.2.1,jcW t,q.2.2⟩
  cases h
 rintro⟨g,d,i,rfl⟩;obtain⟨⟨a,b⟩,c⟩:=vg d;have e:=jd9 (by intro e;rw[e]at a;simp at a) c i
 rw[if_pos ⟨g,by rw[e];exact d,by rw[e]⟩,e]
section
attribute [local go_sem] jn9
theorem ye{P:Program}{w w':World}{N:Nat}{a:String}{c:Array Value}(h:w.var? P a=some c)(e:Below N w w')(i:w.heap.size<=N):w'.var? P a=some c:=by
 unfold World.var? at *
 cases d:P.globalNamed a with
 | none=>simp[d]at h
 | some g =>
 simp only[d,Option.bind_some]at h ⊢;have f:g<w.heap.size:=by
  rcases joo g w.heap.size with b|b
  ·exact b
  rw[joM b]at h;simp at h
 rw[e.block g (by omega)];exact h
structure Tabs(w:World):Prop where
 err:ErrT w
 pow:Lib.TabIs prog w "internal/strconv.uint64pow10" .u64 Lib.pow10Tab
 syn:∃tp p,w.var? prog "strconv.ErrSyntax" = some #[.iface tp p]
 ran:∃tp p,w.var? prog "strconv.ErrRange" = some #[.iface tp p]
theorem Tabs.below{w w':World}{N:Nat}(h:Tabs w)(f:Below N w w')(e:w.heap.size<=N):Tabs w':=by obtain⟨a,b,⟨j,g,c⟩,⟨k,i,d⟩⟩:=h;exact⟨a.below f e,ye b f e,⟨j,g,ye c f e⟩,⟨k,i,ye d f e⟩⟩
theorem jkh(a b:List UInt8):((B a).toList==(B b).toList)=decide (a=b):=by rw[jot,jot,jj,jj,joS];simp
theorem VY(k:Int)(w:World):Calls prog 166 #[.int .i64 k] w fun e d=>e=.returned (.string (B (qw k)))/\d=w:=by
 unfold qw;by_cases a:k=1
 ·subst a;go_enter func166,ntmps166;go_wp2_with fail;go_ret;exact⟨rfl,rfl⟩
 have f:(k==1)=false:=by simpa using a
 rw[if_neg a];by_cases b:k=2
 ·subst b;go_enter func166,ntmps166;go_wp2_with fail;go_ret;exact⟨rfl,rfl⟩
 have g:(k==2)=false:=by simpa using b
 rw[if_neg b];by_cases c:k=3
 ·subst c;go_enter func166,ntmps166;go_wp2_with fail;go_ret;exact⟨rfl,rfl⟩
 have h:(k==3)=false:=by simpa using c
 rw[if_neg c];go_enter func166,ntmps166;go_wp2_with fail;go_ret;exact⟨rfl,rfl⟩
theorem yN{w:World}(n:Nat)(b:Array Obj):Below w.heap.size w (Go.Sort.grow (w.drewN n) b) :=
 ⟨rfl,rfl,rfl,by rw[Go.Sort.size_grow];exact Nat.le_add_right _ _,fun k a=>jqv _ _ a⟩
theorem jge(ed:Ed)(l:Value)(g:I64 ed.id)(w:World)(k:Tabs w):
  Calls prog 120 #[.agg #[.int .i64 ed.kind,.int .i64 ed.id,l]] w fun e A=>e=.returned (.string (B (zg ed.kind ed.id)))/\Below w.heap.size w A:=by
 obtain⟨c,a⟩:∃c,c=w.alloc (.cells #[.int .i64 ed.kind,.int .i64 ed.id,l] 75):=⟨_,rfl⟩
 have b:Below w.heap.size w c:=by rw[a];exact(jnV _ w).alloc (jnT _) _
 have i:=jnS b;have q:=jnS (Tryz.strconv_Itoa ed.id g.1 g.2 c (k.below b (jnT _)).pow)
 have f:=jnS (VY ed.kind c);have j:=Lib.itoa_length_le ed.id g.1 g.2
 have D:c.cell? ⟨w.heap.size,0,none⟩=some (.int .i64 ed.kind):=by rw[a];simp
 have E:c.cell? ⟨w.heap.size,1,none⟩=some (.int .i64 ed.id):=by rw[a];simp
 by_cases d:ed.kind=1\/ed.kind=2\/ed.kind=3
 ·have t:Hid (∀z:ByteArray,z=(⟨(Lib.itoa ed.id).toArray⟩:ByteArray)->(⟨#[32]⟩:ByteArray)++B (qw ed.kind) ++ ⟨#[32]⟩++z=B (zg ed.kind ed.id)):=by rintro z rfl;unfold zg;rw[if_pos d,show(⟨#[32]⟩:ByteArray)=B [32] from rfl,show(⟨(Lib.itoa ed.id).toArray⟩:ByteArray)=B (Lib.itoa ed.id) from rfl,jn,jn,jn];congr 1;simp
  have v:((B (qw ed.kind))==(⟨#[]⟩:ByteArray))=false:=by rcases d with h|h|h<;>rw[h]<;>decide
  have m:(B (qw ed.kind)).toList.isEmpty=false:=by rcases d with h|h|h<;>rw[h]<;>decide +kernel
  have x:(B (qw ed.kind)).size<=7:=by rw[jg];rcases d with h | h | h<;>rw[h]<;>decide
  have u:(⟨(Lib.itoa ed.id).toArray⟩:ByteArray).size<=21:=by show(Lib.itoa ed.id).toArray.size<=21;simpa using j
  generalize (⟨(Lib.itoa ed.id).toArray⟩:ByteArray)=z at *
  generalize B (qw ed.kind)=o at *
  have G:((⟨#[32]⟩:ByteArray)++o).size<=8:=by rw[joK];show 1+_<=_;omega
  have H:((⟨#[32]⟩:ByteArray)++o ++ ⟨#[32]⟩).size<=9:=by rw[joK];show _+1<=_;omega
  clear b k;subst a;go_enter func120,ntmps120;go_wp2_with fail;refine f.out.mono ?_;rintro e C ⟨rfl,rfl⟩;go_wp2_with fail;refine q.out.mono ?_;rintro e I ⟨rfl,n,y,rfl⟩;have p:=jnS (i.out.trans ((yN n y).mono i.out.size))
  go_wp2_with fail;go_ret;exact⟨by rw[t.out _ rfl];rfl,p.out⟩
 have r:qw ed.kind=[]:=by unfold qw;rw[if_neg (by omega),if_neg (by omega),if_neg (by omega)]
 have s:zg ed.kind ed.id=[]:=by unfold zg;rw[if_neg d]
 rw[r]at f;rw[s];rw[show B []=(⟨#[]⟩:ByteArray) from rfl]at f ⊢;clear b k;subst a;go_enter func120,ntmps120;go_wp2_with fail;refine f.out.mono ?_;rintro e C ⟨rfl,rfl⟩;go_wp2_with fail;go_ret;exact⟨rfl,i.out⟩
def Jh(j:List UInt8)(xs:List Ln):List UInt8:=xs.flatMap fun x=>j++x.bytes
theorem ZQ(j:List UInt8)(a:List Ln)(x:Ln):Jh j (a++[x])=Jh j a++j++x.text++(Xu x.ended).data.toList:=by
 have e:(Xu x.ended).data.toList=if x.ended then [10] else []:=by unfold Xu;cases x.ended<;>rfl
 rw[e];simp[Jh,Ln.bytes]
theorem Uv(j:List UInt8)(n m:Nat):∀a:List Ln,(∀x∈a,x.bytes.length<=m)->a.length<=n->j.length<=m->(Jh j a).length<=n*(2*m)
 | [],_,_,_=>by simp[Jh]
 | x::a,h,b,c=>by
  obtain⟨n,rfl⟩:∃k,n=k+1:=⟨n-1,by simp at b;omega⟩
  have g:=Uv j n m a (fun y d=>h y (jn4 _ d)) (by simpa using b) c;have f:=h x jn5
  have e:Jh j (x::a)=j++x.bytes++Jh j a:=by simp[Jh]
  rw[e,Nat.add_mul];simp only[jnU];omega
def jm6(w:World)(z R:Nat)(j:List UInt8)(pre:List Ln)(W:World):Prop :=
 Boxed W z 9 (.string ⟨j.toArray⟩)/\Bld (z+1) R (Jh j pre) W/\Below w.heap.size w W
theorem jev(s:ByteArray)(hs:s.size<=1000000)(sl:Value)(j:List UInt8)(hj:j.length<=1000000)(w:World)
  (p:Calls prog 169 #[sl,.string ⟨#[]⟩] w fun e Y=>e=.returned (.string ⟨j.toArray⟩)/\Below w.heap.size w Y) :
  Calls prog 122 #[.string s,sl] w fun e Y=>e=.returned (.string ⟨(Jh j (jf s.data.toList)).toArray⟩)/\Below w.heap.size w Y:=by
 have m:∀x∈jf s.data.toList,x.bytes.length<=1000000:=by
  intro x hx;have e:=jJ s.data.toList
  obtain⟨a,b,Q⟩:=jpY hx;rw[Q,jow,joc]at e;have:=congrArg List.length e
  rw[<- joa]at this;simp only[jnU]at this;omega
 have E:=zL s.data.toList;rw[<- joa]at E;obtain⟨xs,q⟩:∃xs,jf s.data.toList=xs:=⟨_,rfl⟩
 rw[q]at m E ⊢;have O:=jnS q
 clear q;refine callsIn_wide (n:=9).1 ?_;refine callsIn_of_wp_marks func122 rfl trivial ?_ rfl;simp only[ntmps122,joY,jn1,joz,Nat.reduceAdd,Nat.reduceSub,joZ,jo0,jo6,jo1,joL,jog];gi_wp2_with fail;refine⟨trivial,(callsIn_wide.2 p).mono ?_⟩;rintro e d ⟨rfl,C⟩;have zs:=C.size
 gi_wp2_with fail;refine⟨trivial,(callsIn_wide.2 (yF s _)).mono ?_⟩;rintro e w3 ⟨rfl,rfl⟩;gi_wp2_with fail;have k5:=jps d 9 (.string ⟨j.toArray⟩)
 have kb:=Bld.new (d.alloc (.cells #[.string ⟨j.toArray⟩] 9)) (d.heap.size+8);rw[joe]at kb;have k7:=Va d (.cells #[.string ⟨j.toArray⟩] 9) (.cells #[.pointer none,.slice none 0 0] 191) 9 (.string s)
 have Z:=vp s (d.heap.size+2) _ k7 (by omega);rw[O.out]at Z;have I:(((d.alloc (.cells #[.string ⟨j.toArray⟩] 9)).alloc (.cells #[.pointer none,.slice none 0 0] 191)).alloc (.cells #[.string s] 9)).heap.size=d.heap.size+3:=by simp
 have ab:∀k,k<=5->zT (d.heap.size+3) k (jm6 w d.heap.size (d.heap.size+8) j):=fun k hk f W W' h t =>
  ⟨t.box h.1 (.inl (by omega)),h.2.1.turned t (by omega) (by omega),h.2.2.trans (t.below (by omega) h.2.2.size)⟩
 have J:jm6 w d.heap.size (d.heap.size+8) j [] (((d.alloc (.cells #[.string ⟨j.toArray⟩] 9)).alloc (.cells #[.pointer none,.slice none 0 0] 191)).alloc (.cells #[.string s] 9)) :=
  ⟨(k5.alloc _).alloc _,kb.alloc _,((C.alloc (by omega) _).alloc (by simp;omega) _).alloc (by simp;omega) _⟩
 refine ya (gf:=139) (lb:=#[.pointer (some ⟨d.heap.size+2,0,none⟩)]) rfl (enters_of func139 (by kernel_rfl) rfl) Z (fun _=>rfl)
  (jm6 w d.heap.size (d.heap.size+8) j) (fun _ _ _=>False) (by rw[I];exact ab _ (by omega)) (fun _ _ _ _ hs _=>hs) J
  (fun a f x P W=>∃g,d.heap.size+3+5<=g/\P={tmps:=(a.tmps.setIfInBounds 12 (.agg (qg x))).setIfInBounds 7 (.pointer (some ⟨g,0,none⟩)),defers:=[]}/\jd W g 157 (qg x) /\
   jm6 w d.heap.size (d.heap.size+8) j f W)
  ?hM ?assign ?body ?done ?stop
 case hM =>
  rw[I];rintro a f x P _ W W' ⟨g,z,A,o,h4⟩ t;exact⟨g,z,A,(t.same g o.lt (.inr (by omega))).trans o,ab 2 (by omega) f W W' h4 t⟩
 case assign =>
  rw[I];intro l f x K W hx H L;clear hx;dsimp only[qg];gi_wp2;exact⟨(vX.refl _ _ W).alloc H _,W.heap.size,by omega,rfl,jd.new _ _ _,L.1.alloc _,L.2.1.alloc _,L.2.2.alloc L.2.2.size _⟩
 case body =>
  rw[I];rintro l f x K P W hx H ⟨g,hB,rfl,R,z,A,o⟩;have i:(Jh j (f++[x])).length<=1000000*(2*1000000):=by
   refine Uv j 1000000 1000000 _ (fun y hy=>m y ?_) ?_ hj
   ·rw[hx];rcases List.mem_append.1 hy with h|h
    ·exact jpz _ h
    rw[List.mem_singleton.1 h];simp
   have:=congrArg List.length hx;simp at this ⊢;omega
  rw[ZQ]at i;simp only[jnU,<- joa]at i;have HS:=jnS (ZQ j f x)
  clear hx;simp only[jof,joT,joU,qg]at R ⊢;have c5:=z.cell
  have G:g≠d.heap.size+1:=by omega
  obtain⟨v,D⟩:∃v,x.ended=v:=⟨_,rfl⟩
  rw[D]at i R ⊢;gi_wp2_with fail;refine⟨trivial,((callsIn_wide.2 (Vj (d.heap.size+1) (d.heap.size+8) _ ⟨j.toArray⟩ W A (by omega) (by omega) ?_)).inRound l).mono ?_⟩
  ·have:(⟨j.toArray⟩:ByteArray).size=j.length:=by simp[ByteArray.size]
   omega
  rintro e r ⟨rfl,b1,U⟩;have m1:jd r g 157 _:=U.other R G (by decide)
  have p2:r.cell? ⟨g,2,none⟩=some (.string ⟨x.text.toArray⟩):=m1.cell 2;have z1:=U.size
  gi_wp2_with fail;refine⟨trivial,((callsIn_wide.2 (Vj (d.heap.size+1) (d.heap.size+8) _ ⟨x.text.toArray⟩ r b1 (by omega) (by omega) ?_)).inRound l).mono ?_⟩
  ·have e1:(⟨x.text.toArray⟩:ByteArray).size=x.text.length:=by simp[ByteArray.size]
   simp only[jnU,e1];omega
  rintro e u ⟨rfl,b2,V⟩;have N:jd u g 157 _:=V.other m1 G (by decide)
  have z2:=V.size;have q0:u.cell? ⟨g,0,none⟩=some (.int .i64 x.no):=N.cell 0
  have q1:u.cell? ⟨g,1,none⟩=some (.int .i64 x.at_):=N.cell 1;have q2:u.cell? ⟨g,2,none⟩=some (.string ⟨x.text.toArray⟩):=N.cell 2
  have q3:u.cell? ⟨g,3,none⟩=some (.bool v):=N.cell 3;gi_wp2_with fail;refine⟨trivial,((callsIn_wide.2 (jch _ _ _ _ _)).inRound l).mono ?_⟩;rintro e W3 ⟨rfl,rfl⟩;gi_wp2_with fail;refine⟨trivial,((callsIn_wide.2 (Vj (d.heap.size+1) (d.heap.size+8) _ (Xu v) _ (b2.alloc _) (by omega) (by simp;omega) ?_)).inRound l).mono ?_⟩
  ·have e1:(⟨x.text.toArray⟩:ByteArray).size=x.text.length:=by simp[ByteArray.size]
   simp only[jnU];omega
  rintro e W4 ⟨rfl,b3,o3⟩;gi_wp2_with fail;have X:=((U.trans V).alloc (.cells #[.int .i64 x.no,.int .i64 x.at_,.string ⟨x.text.toArray⟩,.bool v] 157)).trans o3
  refine⟨X.stay (by omega) (by omega) (by omega),X.box z (by omega) (by omega),?_,o.trans (X.below (by omega) (by omega) (by have:=o.size;omega))⟩;rw[HS.out,D];exact b3
 case done =>
  rw[I];rintro W ⟨z,A,o⟩ hmark;have zW:d.heap.size+3<W.heap.size:=(Array.getElem?_eq_some_iff.1 hmark).1
  gi_wp2_with fail;refine⟨trivial,(callsIn_wide.2 (Tryz.Builder_String_any_k w.heap.size (d.heap.size+1) _ W (A.library (by omega) (by omega)) (by omega))).mono ?_⟩;rintro e r ⟨rfl,_,g2,g3⟩;have hK:r.heap[d.heap.size+3]?=some (.deferred (some [])):=g3 _ _ hmark (by simp) (fun c fz e=>by cases e)
  gi_wp2;refine⟨by simp,.inl ⟨_,_,rfl,run_takeDeferred hK,?_⟩⟩;refine⟨_,results_tmp rfl _ _ _,rfl,(o.trans g2).trans (belowK_b (w:=w) (jnT _) r _ _ _ (by omega) hK rfl rfl)⟩
 case stop=>exact fun _ _ _ _ h=>h.elim
theorem jeu(s a:ByteArray)(g:s.size<=1000000)(i:a.size<=100000)(b:Nat)(w:World)(f:w.cell? ⟨b,0,none⟩=some (.string a))(c:b<w.heap.size):
  Calls prog 122 #[.string s,.slice (some ⟨b,0,none⟩) 1 1] w fun e h=>e=.returned (.string ⟨(Jh a.data.toList (jf s.data.toList)).toArray⟩)/\Below w.heap.size w h:=by
 refine jev s g _ _ (by rw[<- joa];omega) w ?_;have d:Lib.join ([a].map (·.data.toList)) (⟨#[]⟩:ByteArray).data.toList=a.data.toList:=by simp[Lib.join]
 have:=Tryz.strings_Join b 0 1 [a] ⟨#[]⟩ w (fun j x hx=>by
  match j,hx with
  | 0,hx=>cases hx;exact f) c (by simp) (by simp) (by rw[d,<- Lib.size_eq];omega)
 rw[d]at this;exact this
theorem Ga{fs:List Fld}(h:JM fs):(jM fs).length<=4000*fs.length:=by
 replace h:=h.each
 induction fs with
 | nil=>exact jnT _
 | cons f r c =>
 have e:jM (f::r)=jp (jW f.1 f.2)++jM r:=by unfold jM;rw[joc]
 obtain⟨a,b⟩:=h f jn5;have:=jfq (k:=f.1) (v:=f.2) (by unfold ze;rw[if_pos a,if_pos b])
 rw[e,jnU,jn1];have:=c (fun x hx=>h x (jn4 _ hx))
 omega
theorem JM.foldN{fs:List Fld}(h:JM fs):foldN fs=0:=UZ fs fun f c=>by obtain⟨a,b⟩:=h.each f c;unfold ze;rw[if_pos a,if_pos b]
theorem JM.foldT{fs:List Fld}(h:JM fs):foldT fs=jM fs:=by unfold Proofs.YtbapfpekklcicaaGreatDoor.foldT;rw[if_pos h.foldN]
theorem Zj{k:List UInt8}(h:jF k=true):k.length<=32:=(yb h).2.1
theorem JM.small{fs:List Fld}(h:JM fs):∀f∈fs,f.1.length<=100000/\f.2.length<=100000:=fun f c=>by
 obtain⟨a,b⟩:=h.each f c;have:=Zj a
 omega
theorem jmq(ls:List Ln):(ls.flatMap (fun x=>[32,32]++x.bytes)).length=2*ls.length+(ls.flatMap Ln.bytes).length:=by
 induction ls with
 | nil=>rfl
 | cons x r a =>
 rw[joc,joc,jnU,jnU,a,jnU,jn1];simp only[jn1,joz];omega
theorem Qb{ed:Ed}(h:JM ed.fields):edT ed=(zg ed.kind ed.id++[10])++Jh [32,32] (jf (jM ed.fields)):=by rw[jke h];unfold Jh;simp
theorem jg3{ed:Ed}(h:JM ed.fields)(a:I64 ed.id):(edT ed).length<=600000:=by
 have c:=Ga h;have d:=h.len
 have f:=zL (jM ed.fields);have g:=Lib.itoa_length_le ed.id a.1 a.2
 have i:(zg ed.kind ed.id).length<=40:=by
  unfold zg;split
  ·rename_i b;have:(qw ed.kind).length<=7:=by rcases b with e | e | e<;>rw[e]<;>decide
   rw[jn1,jnU,jn1];omega
  simp
 rw[jke h,jnU,jn1,jmq,jJ];omega
def jnw(w w':World)(eds:List Ed)(e:Ending):Prop :=
 Below w.heap.size w w'/\(((qu eds).2=0/\e=.returned (.tuple #[.string (B (jo eds)),.nilIface]))\/((qu eds).2≠0/\∃u,e=.returned (.tuple #[.string ⟨#[]⟩,u])/\vZ w.heap.size w' u (qu eds).1 (qu eds).2))
theorem Wo(eds:List Ed)(v:Value)(w:World)(h:EdV w v eds)(hl:eds.length<=1000000)(hf:VQ eds)(hi:∀a∈eds,I64 a.id)(ht:Tabs w):
  Calls prog 63 #[v] w fun e w'=>jnw w w' eds e:=by
 have CK:=jnS (XC eds v w h hl hf ht.err);obtain⟨A,aS,rfl,aV,hc⟩:=h;have PC:=jnS hc
 have HT:=jnS ht;have HI:=jnS hi
 clear hc hf ht hi;go_enter func63,ntmps63;go_wp2_with fail;refine CK.out.mono ?_;rintro e c ⟨u,rfl,x,hz⟩;by_cases n:(qu eds).2=0
 ·obtain⟨⟨g1,aT⟩,GD⟩:=vg n;have U:=jnS GD
  obtain rfl:u=.nilIface:=by
   obtain⟨_,⟨rfl,_⟩|⟨_,_,_,hx⟩⟩:=hz
   ·rw[n];rfl
   exact absurd n hx
  have Z0:=jnS n;have aM:=x.size
  have NB:=Bld.new c (c.heap.size+1);have aD:Below w.heap.size w (c.alloc (.cells #[.pointer none,.slice none 0 0] 191)):=x.alloc x.size _
  clear hz GD x CK n;go_wp2_with fail;go_loopw [17] (fun i wr=>∃k:Nat,k<=eds.length/\i=.int .i64 k/\Bld c.heap.size (c.heap.size+1) (jo (eds.take k)) wr/\(jo (eds.take k)).length<=600000*k/\Below w.heap.size w wr/\c.heap.size<wr.heap.size) (fun i _=>eds.length-(intOf i).toNat)
  case atStart=>exact⟨0,jn3 _,rfl,NB,jnT _,aD,by simp⟩
  case round =>
  obtain⟨k,hk,rfl,j,aJ,K,bg⟩:=hrel;by_cases ar:k<eds.length
  ·obtain⟨a,d⟩:∃a,eds[k]?=some a:=⟨_,jnW ar⟩
   obtain⟨b,I,fv,rfl,g,c0,c1,c2,G⟩:=PC.out k a d;obtain⟨C,D,rfl,_,_⟩:=_root_.id G.1;replace c0:=(K.cell (p:=⟨b,I+k*3,none⟩) g).trans c0;replace c1:=(K.cell (p:=⟨b,I+k*3+1,none⟩) g).trans c1;replace c2:=(K.cell (p:=⟨b,I+k*3+1+1,none⟩) g).trans c2;have aq:=U.out a (jn7 d)
   have H:=HI.out a (jn7 d);have f:=Zk aq
   have TK:Hid (jo (eds.take (k+1))=jo (eds.take k)++((zg a.kind a.id++[10])++Jh [32,32] (jf (jM a.fields)))):=by show _=_;rw[take_snoc d,XI,Qb f]
   have o:=jg3 f H;rw[Qb f]at o;obtain⟨L,m⟩:∃L,L=wr.alloc (.cells #[.int .i64 a.kind,.int .i64 a.id,.slice C a.fields.length D] 75):=⟨_,rfl⟩
   have aL:=K.size;have E:Below wr.heap.size wr L:=by rw[m];exact(jnV _ wr).alloc (jnT _) _
   have av:L.heap.size=wr.heap.size+1:=by rw[m];simp
   have cx:jd L wr.heap.size 75 #[.int .i64 a.kind,.int .i64 a.id,.slice C a.fields.length D]:=by rw[m];exact jd.new _ _ _
   have d0:=cx.cell 0;have d1:=cx.cell 1
   have d2:=cx.cell 2;have hB:=K.trans (E.mono aL)
   have a8:=jnS (jge a (.slice C a.fields.length D) H L (HT.out.below hB (jnT _)));have ah:=j.kept E (jnT _)
   have P:=jnS ah;have X:=jnS hB
   have CX:=jnS cx;have R:Hid (∀W,Below w.heap.size w W->Calls prog 121 #[.slice C a.fields.length D] W fun e w'=>e=.returned (.tuple #[.string (B (jM a.fields)),.nilIface])/\Below W.heap.size W w'):=fun W hW=>by have:=jdq a.fields (.slice C a.fields.length D) W (G.1.below hW (jnT _)) (by have:=f.len;omega) f.small;rw[f.foldT,f.foldN]at this;exact this
   have aE:=Ga f;have am:=f.len
   have aO:(B (jM a.fields)).size<=160000:=by rw[jg];omega
   clear d G j ah E hB cx aq H f g aE am;have t:Hid (∀(l:List UInt8) (s:ByteArray) (W:World),Bld c.heap.size (c.heap.size+1) l W->wr.heap.size<W.heap.size->l.length+s.size<=140737488355328 ->
     Calls prog 119 #[.pointer (some ⟨c.heap.size,0,none⟩),.string s] W fun e W'=>e=.returned (.tuple #[.int .i64 s.size,.nilIface])/\Bld c.heap.size (c.heap.size+1) (l++s.data.toList) W'/\qX c.heap.size (c.heap.size+1) W W'):=fun l s W h1 h2 h3=>Vj _ _ l s W h1 (by omega) (by omega) h3
   have aP:(B (zg a.kind a.id)).size+1+(Jh [32,32] (jf (jM a.fields))).length<=600000:=by rw[jg];rw[jnU,jnU]at o;exact o
   have DL:=jnS (jj (zg a.kind a.id));have DF:=jnS (jj (jM a.fields))
   have a7:Hid (∀W,Calls prog 122 #[.string (B (jM a.fields)),.slice (some ⟨W.heap.size,0,none⟩) 1 1] (W.alloc (.cells #[.string ⟨#[32,32]⟩] 9)) fun e W'=>e=.returned (.string (B (Jh [32,32] (jf (jM a.fields)))))/\Below W.heap.size W W'):=fun W=>by refine(jeu _ ⟨#[32,32]⟩ (by omega) (by decide) W.heap.size _ (by simp) (by simp)).mono ?_;rintro e W' ⟨rfl,b⟩;refine⟨?_,((jnV _ W).alloc (jnT _) _).trans (b.mono (by simp))⟩;rw[show(⟨#[32,32]⟩:ByteArray).data.toList=[32,32] from rfl,jj];rfl
   have DI:=jnS (jj (Jh [32,32] (jf (jM a.fields))));have aQ:(B (Jh [32,32] (jf (jM a.fields)))).size=(Jh [32,32] (jf (jM a.fields))).length:=jg _
   have aR:(B (zg a.kind a.id)).size=(zg a.kind a.id).length:=jg _;clear DF;generalize ap:B (Jh [32,32] (jf (jM a.fields)))=bi at *
   generalize aG:Jh [32,32] (jf (jM a.fields))=aw at *
   generalize aH:B (zg a.kind a.id)=la at *
   generalize aI:zg a.kind a.id=aN at *
   generalize aF:B (jM a.fields)=fg at *
   generalize aU:jo (eds.take k)=bt at *
   clear ap aG aH aI aF d0 d1 d2;have D2:Hid (∀W,jd W wr.heap.size 75 #[.int .i64 a.kind,.int .i64 a.id,.slice C a.fields.length D]->W.cell? ⟨wr.heap.size,2,none⟩=some (.slice C a.fields.length D)):=fun W h=>by rw[h.cell];rfl
   subst m;go_wp2_with fail;refine a8.out.mono ?_;rintro e w2 ⟨rfl,b2⟩;have aK:=b2.size
   rw[av]at aK;have aa:=P.out.kept b2 (jnT _)
   have ay:=jnS (X.out.trans (b2.mono X.out.size));have ai:=jb CX.out b2 (by rw[av];omega)
   clear b2 a8 P;go_wp2_with fail;refine(t.out _ _ w2 aa (by omega) (by omega)).mono ?_;rintro e w3 ⟨rfl,y,o3⟩;have aW:=o3.size
   have aj:jd w3 wr.heap.size 75 _:=o3.other ai (by omega) (by decide);have aA:=jnS (ay.out.trans (o3.below (by omega) (by omega) (by omega)))
   rw[DL.out]at y;clear o3 ai aa;go_wp2_with fail;refine(t.out _ ⟨#[10]⟩ w3 y (by omega) (by rw[jnU];show _+1<=_;omega)).mono ?_;rintro e w4 ⟨rfl,ae,o4⟩;have aX:=o4.size
   have ak:jd w4 wr.heap.size 75 _:=o4.other aj (by omega) (by decide);have r:=jnS (aA.out.trans (o4.below (by omega) (by omega) (by omega)))
   have N:=jnS ae;have d2:=D2.out w4 ak
   have Q:=jnS (R.out w4 r.out);clear o4 aj y ae R ak;go_wp2_with fail;refine Q.out.mono ?_;rintro e w5 ⟨rfl,J⟩;have aY:=J.size
   have af:=N.out.kept J (jnT _);have V:=jnS (r.out.trans (J.mono r.out.size))
   have O:=jnS af;have Y:=jnS (a7.out w5)
   clear J af Q N a7;go_wp2_with fail;refine Y.out.mono ?_;rintro e w6 ⟨rfl,b6⟩;have aZ:=b6.size
   have ag:=O.out.kept b6 (jnT _);have aB:=jnS (V.out.trans (b6.mono V.out.size))
   clear b6 Y O;go_wp2_with fail;refine(t.out _ _ w6 ag (by omega) (by rw[jnU,jnU];show _+1+_<=_;omega)).mono ?_;rintro e w7 ⟨rfl,z,o7⟩;have be:=o7.size
   have aC:=jnS (aB.out.trans (o7.below (by omega) (by omega) (by omega)));rw[DI.out]at z;have ax:=jnS z
   clear o7 ag z;go_wp2_with fail;go_roundw
   case rel =>
    have eT:jo (eds.take (k+1))=bt++aN++(⟨#[10]⟩:ByteArray).data.toList++aw:=by rw[TK.out,show(⟨#[10]⟩:ByteArray).data.toList=[10] from rfl];simp
    refine⟨k+1,ar,by go_num,by rw[eT];exact ax.out,?_,aC.out,by omega⟩;rw[eT,jnU,jnU,jnU];show _+_+1+_<=_
    omega
   case measure=>simp[intOf];omega
  obtain rfl:k=eds.length:=by omega
  rw[jom]at j;have Z:=jnS Z0.out
  clear PC HT HI U aJ;go_wp2_with fail;refine(Tryz.Builder_String_any_k c.heap.size c.heap.size _ wr (j.library (jnT _) (by omega)) (by omega)).mono ?_;rintro e w5 ⟨rfl,_,J,_⟩;have B5:=jnS (K.trans (J.mono aM))
  go_wp2_with fail;go_ret2;exact⟨B5.out,.inl ⟨Z.out,rfl⟩⟩
 have Z1:=jnS hz;have B1:=jnS x
 obtain⟨_,⟨rfl,hx⟩|⟨kk,⟨q,_,rfl,_⟩,_,_⟩⟩:=hz
 ·have au:0<(qu eds).2:=jpy n;have ZR:Hid (jnw w c eds (.returned (.tuple #[.string ⟨#[]⟩,Zv (qu eds).2]))):=⟨B1.out,.inr ⟨n,_,rfl,Z1.out⟩⟩
  rw[zn _ au]at ZR ⊢;clear CK Z1 hx x PC;generalize ((qu eds).2:Int)=zz at *
  go_wp2_with fail;go_ret2;exact ZR.out
 have ZR:Hid (jnw w c eds (.returned (.tuple #[.string ⟨#[]⟩,.iface 87 (.pointer (some ⟨q,0,none⟩))]))):=⟨B1.out,.inr ⟨n,_,rfl,Z1.out⟩⟩
 clear CK Z1 x PC;go_wp2_with fail;go_ret2;exact ZR.out
end
theorem jcB{l:Array Bool}{i:Nat}(h:i<l.size)(hl:l.getD i true=false):jhN (l.setIfInBounds i true)+1=jhN l:=by
 have d:l[i]=false:=by simpa [Array.getD,h]using hl
 have g:∀(a:List Bool) (j:Nat) (c:j<a.length),a[j]=false->((a.set j true).filter (fun b => !b)).length+1=(a.filter (fun b => !b)).length:=by
  intro a
  induction a with
  | nil=>intro j c;simp at c
  | cons x a f =>
  intro j c hx;cases j with
  | zero=>simp at hx;subst hx;simp
  | succ j =>
  have:=f j (by simpa using c) (by simpa using hx);cases x<;>simp at this ⊢ <;> omega
 have k:=g l.toList i (by simpa using h) (by simpa using d);unfold jhN;have e:(l.setIfInBounds i true).toList=l.toList.set i true:=by simp
 rw[e];exact k
theorem jfp{l:Array Bool}{n g:Nat}(d:l.size=n+g)(b:∀i,i<n->l.getD i true=true)(c:∀t,n<=t->t<l.size->l.getD t true=false):l=(List.replicate n true++List.replicate g false).toArray:=by
 apply Array.ext
 ·simp[d]
 intro i a _;have e:l[i]=l.getD i true:=by simp[Array.getD,a]
 rw[e];by_cases h:i<n
 ·rw[b i h];simp[h]
 rw[c i (by omega) a];simp[List.getElem_append,h]
theorem yd{P:Program}{c:List Oper}{Q:Exit->Act->World->Prop}(n g:Nat)(au:n+g=c.length)(hg:0<g)(a0:Act)(G:World)(dst:Nat->Option Nat)(L:List (Value->World->Prop))(M:jlW L)
  (hs:Region.sinkB .any c.toArray n=true) (hc:Region.chainB .any c.toArray n=true) (hq:Region.seqB .any c.toArray g n (List.replicate n true++List.replicate g false).toArray=true)
  (hd:∀i o,i<n->c[i]?=some o->o.dst=dst i) (aq:∀i k d,i<n->k<n->dst i=some d->dst k=some d->i=k) (ag:∀i d,i<n->dst i=some d->d<a0.tmps.size)
  (Z:∀i o e,c[i]?=some o->e∈o.after->Region.binds .any e=true->e.on<i)
  (step:∀i o a w,i<n->c[i]?=some o->a.tmps.size=a0.tmps.size->(∀j,(∀k,k<n->dst k≠some j)->a.tmps[j]?=a0.tmps[j]?)->(∀e∈o.after,Region.binds .any e=true->∀d,dst e.on=some d->∃v,a.tmps[d]?=some v/\pvL L e.on v w)->Below G.heap.size G w ->
   (Region.wanted o (yielded c.toArray a.tmps)=true/\∀K:Act->World->Prop,(∀v E,Below w.heap.size w E->pvL L i v E->K (a.put (dst i) v) E)->Oper.wp P o a w K Q)\/(Region.wanted o (yielded c.toArray a.tmps)=false/\pvL L i undef w))
  (ae:∀a w,a.defers=a0.defers->a.tmps.size=a0.tmps.size->(∀j,(∀k,k<n->dst k≠some j)->a.tmps[j]?=a0.tmps[j]?)->(∀i d,i<n->dst i=some d->∃v,a.tmps[d]?=some v/\pvL L i v w)->Below G.heap.size G w->wpList P c.toArray Q (c.drop n) a w) :
  wpAny P .any c.toArray Q c.toArray.size (Array.replicate c.toArray.size false) a0 G:=by
 have ar:∀(m:Nat) (l:Array Bool) (a:Act) (w:World),HeadInv .any c.toArray n l->jnQ a0 G n dst (pvL L) (fun x y=>Below x.heap.size x y) l a w->jhN l=m->wpAny P .any c.toArray Q m l a w:=by
  intro m
  induction m with
  | zero =>
   intro l a w b I ht;exfalso;have hn:n<l.size:=by rw[b.size];simp;omega
   have p:=jcB hn (b.tail n (jnT _) (by simp;omega));omega
  | succ m ih =>
  intro l a w b I ht;by_cases hh:∃i,i<n/\l.getD i true=false
  ·obtain⟨R,aj,Y⟩:=hh;have N:=tail_waits hs hc (by simp;omega) b (n-R) R rfl aj Y
   refine⟨fun hr => ?_,fun i D => ?_⟩
   ·exfalso;have H:=jjL (ops:=c.toArray) b.size (fun i o e ho he hb=>Z i o e (by simpa using ho) he hb) hr R (by simp;omega)
    have W:R<l.size:=by rw[b.size];simp;omega
    have U:l.getD R false=l.getD R true:=by simp[Array.getD,W]
    rw[U,Y]at H;cases H
   have r:i<n:=by
    rcases joo i n with q|q
    ·exact q
    exact absurd D (N i q)
   obtain⟨o,ho,am,he⟩:=Qz D;have a7:c[i]?=some o:=by simpa using ho
   have J:i<l.size:=by rw[b.size];simp;omega
   have af:∀e∈o.after,Region.binds .any e=true->∀d,dst e.on=some d->∃v,a.tmps[d]?=some v/\pvL L e.on v w:=fun e p s d h3=>I.val e.on d (he e p s) h3;have aa:∀v E,Below w.heap.size w E->pvL L i v E->wpAny P .any c.toArray Q m (l.setIfInBounds i true) (a.put (dst i) v) E:=by
    intro v E hR hP;refine ih _ _ _ (b.set D r) ?_ (by have:=jcB J am;omega);have a8:Below G.heap.size G E:=I.wd.trans (hR.mono I.wd.size)
    cases A:dst i with
    | none =>
     refine⟨I.dfr,I.sz,I.frm,fun k d C f => ?_,a8⟩;rw[jdm l i J]at C;by_cases q:k=i
     ·rw[q,A]at f;cases f
     rw[if_neg q]at C;obtain⟨u,p,s⟩:=I.val k d C f;exact⟨u,p,Uh M hR s⟩
    | some O =>
    have ah:=ag i O r A;have T:∀j,(a.put (some O) v).tmps[j]?=if j=O then some v else a.tmps[j]?:=fun j=>by
     show(a.tmps.setIfInBounds O v)[j]?=_;rw[joE];by_cases h:O=j
     ·subst h;simp[I.sz,ah]
     rw[if_neg h,if_neg (jpN h)]
    refine⟨I.dfr,?_,fun j hj => ?_,fun k d C f => ?_,a8⟩
    ·show(a.tmps.setIfInBounds O v).size=_;simp[I.sz]
    ·rw[T,if_neg (fun e=>hj i r (by rw[A,e]))];exact I.frm j hj
    rw[T];rw[jdm l i J]at C;by_cases q:k=i
    ·subst q;rw[A]at f;rw[if_pos (jnY f).symm];exact⟨v,rfl,hP⟩
    rw[if_neg q]at C;have X:k<l.size:=by
     rcases joo k l.size with z|z
     ·exact z
     rw[joA,joM (by omega)]at C;cases C
    have ak:k<n:=by
     rcases joo k n with z|z
     ·exact z
     have p:=b.tail k z (by rw[<- b.size];exact X);have U:l.getD k false=l.getD k true:=by simp[Array.getD,X]
     rw[U,p]at C;cases C
    rw[if_neg (fun e=>q (aq k i d ak r f (by rw[A,e])))];obtain⟨u,p,s⟩:=I.val k d C f;exact⟨u,p,Uh M hR s⟩
   unfold wpOp;rw[ho];dsimp only;rcases step i o a w r a7 I.sz I.frm af I.wd with ⟨p,s⟩|⟨p,s⟩
   ·rw[if_pos p];exact .inl (s _ aa)
   rw[if_neg (by rw[p];decide),hd i o r a7];exact aa undef w (jnV _ _) s
  have p:∀i,i<n->l.getD i true=true:=fun i D=>by
   cases q:l.getD i true with
   | true=>rfl
   | false=>exact absurd ⟨i,D,q⟩ hh
  have ap:l.size=n+g:=by rw[b.size];simp;omega
  have el:=jfp ap p (fun t s h3=>b.tail t s (by rw[<- b.size];exact h3));have ai:∀i,i<n->l.getD i false=true:=fun i D=>by
   have U:l.getD i false=l.getD i true:=by
    have:i<l.size:=by omega
    simp[Array.getD,this]
   rw[U];exact p i D
  have V:(c.drop n).length=g:=by simp;omega
  have hm:m+1=g:=by rw[<- ht,el];unfold jhN;simp[List.filter_append]
  have:=wpAny_of_seq (P:=P) (md:=.any) (ops:=c.toArray) (Q':=Q) (c.drop n) n l a w (fun j=>by simp[List.getElem?_drop]) (by rw[V,el];exact hq)
   (ae a w I.dfr I.sz I.frm (fun i d D h=>I.val i d (ai i D) h) I.wd)
  rw[V]at this;rw[hm];exact this
 refine ar c.toArray.size (Array.replicate c.toArray.size false) a0 G ?_ ?_ (by unfold jhN;simp)
 ·exact⟨by simp,fun j oj _ hl=>(by rw[getD_replicate_false]at hl;cases hl),fun t _ ht=>getD_in (by simpa using ht) (getD_replicate_false _ _)⟩
 have e:∀i,(Array.replicate c.toArray.size false).getD i false=false:=fun i=>getD_replicate_false _ i;exact⟨rfl,rfl,fun _ _=>rfl,(fun i d h=>absurd ((e i).symm.trans h) (by decide)),jnV _ _⟩
end Go.Proofs.YtbapfpekklcicaaGreatDoor
