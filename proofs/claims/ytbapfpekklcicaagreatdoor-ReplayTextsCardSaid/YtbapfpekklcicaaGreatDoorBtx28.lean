/- Texts put together:IM,PL,PM,PV,AC,AE,WN,WO,AF. -/
import Derived.Test.YtbapfpekklcicaaGreatDoorBtx26
import Derived.Test.YtbapfpekklcicaaGreatDoorBtx23
set_option linter.unusedVariables false
set_option maxRecDepth 100000
set_option maxHeartbeats 16000000
namespace Go.Proofs.YtbapfpekklcicaaGreatDoor
open Go.RowKit Go.Shelf Tryz
def wf:List Ln->Prop
 | []=>True
 | x::xs=>(10:UInt8)∉x.text/\(x.ended=true\/(xs=[]/\x.text≠[]))/\wf xs
def Ui(x:Ln):List UInt8×Bool:=(x.text,x.ended)
theorem xA(t r:List UInt8)(h:(10:UInt8)∉t):head (t++10::r)=t:=by
 unfold head
 induction t with
 | nil=>simp
 | cons c t d =>
 have a:c≠10:=fun e=>h (by rw[e];exact joV);rw[jo6,jpy,if_pos (by simp[a]),d (fun b=>h (joU _ b))]
theorem Gl(t:List UInt8)(h:(10:UInt8)∉t):head t=t:=by
 unfold head
 induction t with
 | nil=>rfl
 | cons c t d =>
 have a:c≠10:=fun e=>h (by rw[e];exact joV);rw[jpy,if_pos (by simp[a]),d (fun b=>h (joU _ b))]
theorem jdu(t:List UInt8)(h:(10:UInt8)∉t):nl t=false:=by unfold nl;rw[Bool.eq_false_iff];intro a;exact h (by simpa using a)
theorem jdt(t r:List UInt8):nl (t++10::r)=true:=by unfold nl;simp
theorem Wm:∀(a:List Ln) (i d:Nat),wf a->(jR i d (a.flatMap Ln.bytes)).map Ui=a.map Ui
 | [],i,d,_=>by simp[jr]
 | x::a,i,d,⟨c,j,k⟩=>by
  rcases j with b|⟨rfl,h⟩
  ·have e:(x::a).flatMap Ln.bytes=x.text++10::a.flatMap Ln.bytes:=by simp[Ln.bytes,b]
   rw[e,jC _ _ _ (by simp)];rw[xA _ _ c,jdt];have f:qK (x.text++10::a.flatMap Ln.bytes)=x.text.length+1:=by unfold qK;rw[xA _ _ c,jdt];simp
   have g:(x.text++10::a.flatMap Ln.bytes).drop (x.text.length+1)=a.flatMap Ln.bytes:=by rw[show x.text++10::a.flatMap Ln.bytes=(x.text++[10])++a.flatMap Ln.bytes by simp];exact jp9 (by simp)
   rw[f,g,jpr,jpr,Wm a _ _ k];simp[Ui,b]
  have b:x.ended=false\/x.ended=true:=by cases x.ended<;>simp
  rcases b with b|b
  ·have e:[x].flatMap Ln.bytes=x.text:=by simp[Ln.bytes,b]
   rw[e,jC _ _ _ h,Gl _ c,jdu _ c];have f:qK x.text=x.text.length:=by unfold qK;rw[Gl _ c,jdu _ c];simp
   rw[f,jp0,jr];simp[Ui,b]
  have e:[x].flatMap Ln.bytes=x.text++10::[]:=by simp[Ln.bytes,b]
  rw[e,jC _ _ _ (by simp),xA _ _ c,jdt];have f:qK (x.text++10::[])=x.text.length+1:=by unfold qK;rw[xA _ _ c,jdt];simp
  rw[f];have g:(x.text++10::[]).drop (x.text.length+1)=[]:=by rw[jql];simp
  rw[g,jr];simp[Ui,b]
theorem KA:∀(n c a:Nat) (l:List UInt8),l.length<=n->wf (jR c a l)
 | 0,_,_,l,h=>by have:l=[]:=List.length_eq_zero_iff.1 (by omega);subst this;rw[jr];trivial
 | n+1,c,a,l,h=>by
  by_cases hl:l=[]
  ·subst hl;rw[jr];trivial
  have i:=qP l hl;have d:=vT l.length c a l (joJ _)
  rw[jC _ _ _ hl]at d ⊢;refine⟨d _ joV,?_,KA n _ _ _ (by simp only[joX];omega)⟩;cases b:nl l with
  | true=>exact .inl rfl
  | false =>
  have e:head l=l:=Gl l (fun f=>by unfold nl at b;simp at b;exact b f);have g:qK l=l.length:=by unfold qK;rw[e,b];simp
  refine .inr ⟨?_,?_⟩
  ·rw[g,jp0,jr]
  show head l≠[];rw[e];exact hl
theorem KC(l:List UInt8):wf (jf l):=KA _ _ _ _ (joJ _)
def jcP(j:List UInt8)(x:Ln):Ln:={x with text:=j++x.text}
theorem jcV(j:List UInt8)(b:(10:UInt8)∉j):∀a,wf a->wf (a.map (jcP j))
 | [],_=>trivial
 | x::a,⟨c,d,f⟩=>by
  refine⟨fun g => ?_,?_,jcV j b a f⟩
  ·rcases List.mem_append.1 g with h|h
   ·exact b h
   exact c h
  rcases d with h|⟨rfl,h⟩
  ·exact .inl h
  refine .inr ⟨rfl,fun e=>h ?_⟩;exact(List.append_eq_nil_iff.1 e).2
def dd(p:List UInt8)(ys:List (List UInt8×Bool)):List UInt8×Bool :=
 if ys.all (fun y=>p.isPrefixOf y.1) then (ys.flatMap (fun y=>y.1.drop p.length++if y.2 then [10] else []),true) else ([],false)
theorem jjW(j:List UInt8)(a:(10:UInt8)∉j)(l:List UInt8):
  dd j ((jf ((jf l).flatMap fun x=>j++x.bytes)).map Ui)=(l,true):=by
 have e:(jf l).flatMap (fun x=>j++x.bytes)=((jf l).map (jcP j)).flatMap Ln.bytes:=by rw[List.flatMap_map];congr 1;funext x;simp only[Ln.bytes,jcP,jo0];rfl
 rw[e];rw[show jf (((jf l).map (jcP j)).flatMap Ln.bytes)=jR 0 0 (((jf l).map (jcP j)).flatMap Ln.bytes) from rfl,Wm _ 0 0 (jcV j a _ (KC l))];unfold dd;rw[if_pos]
 ·congr 1
  conv=>rhs;rw[<- jL l]
  rw[jqj,List.flatMap_map];congr 1;funext x;simp[Ui,jcP,Ln.bytes];rfl
 rw[jqn];intro y b;obtain⟨x,hx,rfl⟩:=List.mem_map.1 b;obtain⟨x,hx,rfl⟩:=List.mem_map.1 hx;simp[Ui,jcP]
section
set_option maxRecDepth 1000000
end
section
open Go.ChangeShapes Go.WideShapes
attribute [local go_sem] qN
theorem QY:∀(c:List Fld),foldN c=0->∀f∈c,jF f.1=true/\f.2.length<=1000
 | [],_,f,a=>by cases a
 | g::r,h,f,a=>by
  unfold foldN at h;split at h
  ·rename_i b;rcases List.mem_cons.1 a with rfl|a
   ·exact XO b
   exact QY r h f a
  rename_i b;exact absurd h b
end
def qx(k:Int):List UInt8:=if k=1 then [114,101,112,108,97,99,101] else if k=2 then [100,101,108,101,116,101] else if k=3 then [105,110,115,101,114,116] else []
def zi(k id:Int):List UInt8:=if k=1\/k=2\/k=3 then 32::(qx k++32::Lib.itoa id) else []
def yu(l:List UInt8):List UInt8:=32::32::l
def jhE(ed:Ed):List (List UInt8):=zi ed.kind ed.id::(jE ed.fields).map yu
def edT(ed:Ed):List UInt8:=jq (jhE ed)
def zm(eds:List Ed):List (List UInt8):=eds.flatMap jhE
def jo(eds:List Ed):List UInt8:=jq (zm eds)
theorem jcU{k:Int}{c:UInt8}(h:c.toNat<97):c∉qx k:=by
 unfold qx;have a:∀l:List UInt8,(∀x∈l,97<=x.toNat)->c∉l:=fun l hl b=>by have:=hl c b;omega
 split
 ·exact a _ (by decide)
 split
 ·exact a _ (by decide)
 split
 ·exact a _ (by decide)
 simp
theorem Xn(k id:Int):(10:UInt8)∉zi k id:=by
 unfold zi;split
 ·intro h;rcases List.mem_cons.1 h with h|h
  ·exact absurd h (by decide)
  rcases List.mem_append.1 h with h|h
  ·exact jcU (by decide) h
  rcases List.mem_cons.1 h with h|h
  ·exact absurd h (by decide)
  exact jlJ (by decide) (.inl (by decide)) h
 simp
theorem jeX{l:List UInt8}(h:(10:UInt8)∉l):(10:UInt8)∉yu l:=by
 unfold yu;intro a;rcases List.mem_cons.1 a with a|a
 ·exact absurd a (by decide)
 rcases List.mem_cons.1 a with a|a
 ·exact absurd a (by decide)
 exact h a
structure JU(fs:List Fld):Prop where
 each:∀f∈fs,jF f.1=true/\f.2.length<=1000
 len:fs.length<=40
theorem Zr{ed:Ed}(h:zG ed=0):JU ed.fields:=by
 unfold zG at h;split at h
 ·obtain⟨_,a,b⟩:=JA h;exact⟨QY _ b,a⟩
 split at h
 ·rename_i q;rw[List.length_eq_zero_iff.1 q.2];exact⟨fun f c=>(by cases c),joT _⟩
 cases h
theorem JU.clean{fs:List Fld}(h:JU fs):∀l∈jE fs,(10:UInt8)∉l:=by intro l hl;unfold jE at hl;obtain⟨f,a,b⟩:=List.mem_flatMap.1 hl;exact VE _ (h.each f a).1 l b
theorem jfi{ed:Ed}(h:JU ed.fields):∀l∈jhE ed,(10:UInt8)∉l:=by
 intro l hl;rcases List.mem_cons.1 hl with rfl|hl
 ·exact Xn _ _
 obtain⟨x,hx,rfl⟩:=List.mem_map.1 hl;exact jeX (h.clean x hx)
theorem xK{eds:List Ed}(h:∀a∈eds,zG a=0):∀l∈zm eds,(10:UInt8)∉l:=by intro l hl;obtain⟨a,b,c⟩:=List.mem_flatMap.1 hl;exact jfi (Zr (h a b)) l c
theorem xJ(ed:Ed)(r:List Ed):jo (ed::r)=edT ed++jo r:=by unfold jo zm edT;rw[jo5,xZ]
theorem WW:jo []=[]:=rfl
theorem jac(a b:List Ed):jo (a++b)=jo a++jo b:=by unfold jo zm;rw[jpo,xZ]
theorem XU(a:List Ed)(ed:Ed):jo (a++[ed])=jo a++edT ed:=by rw[jac,xJ,WW,jo9]
theorem jdF(ls:List (List UInt8))(h:∀l∈ls,(10:UInt8)∉l):(jf (jq ls)).flatMap (fun x=>[32,32]++x.bytes)=jq (ls.map yu):=by
 show(jR 0 0 (jq ls)).flatMap _=_;rw[xx ls 0 0 h];suffices ∀(ls:List (List UInt8)) (a c:Nat),(num a c ls).flatMap (fun x=>[32,32]++x.bytes)=jq (ls.map yu) from this ls 0 0
 intro ls
 induction ls with
 | nil=>intro a c;rfl
 | cons l r b =>
 intro a c;show([32,32]++(⟨a,c,l,true⟩:Ln).bytes)++(num (a+1) (c+l.length+1) r).flatMap _=_
 rw[b];unfold jq yu Ln.bytes;simp
theorem je7(fs:List Fld):jO fs=jq (jE fs):=by unfold jO jq jE;rw[List.flatMap_assoc]
theorem jkL{ed:Ed}(h:JU ed.fields):edT ed=zi ed.kind ed.id++10::(jf (jO ed.fields)).flatMap (fun x=>[32,32]++x.bytes):=by
 rw[je7,jdF _ h.clean];show jq (_::_)=_
 unfold jq;simp
def Zb(l:List UInt8):Int:=if l=qx 1 then 1 else if l=qx 2 then 2 else if l=qx 3 then 3 else 0
theorem jcf{k:Int}(h:k=1\/k=2\/k=3):Zb (qx k)=k:=by rcases h with rfl|rfl|rfl<;>decide
def qS(t:List UInt8):List Fld:=match jD (dd [32,32] ((jf t).map Ui)).1 with | .error _=>[] | .ok its=>(Yl its).flatten
def xU(t:List UInt8):List UInt8:=t.takeWhile (· != 10)
def Um(t:List UInt8):List UInt8:=t.drop ((xU t).length+1)
def Xg(t:List UInt8):List UInt8:=(Lib.trimPrefix (xU t) [32]).takeWhile (· != 32)
def jjM(t:List UInt8):List UInt8:=(Lib.trimPrefix (xU t) [32]).drop ((Xg t).length+1)
def vr(t:List UInt8):Ed:=⟨Zb (Xg t),qt (jjM t),qS (Um t)⟩
theorem jmH(c:UInt8)(a b:List UInt8)(h:c∉a):(a++c::b).takeWhile (· != c)=a:=by
 induction a with
 | nil=>simp
 | cons x r f =>
 have hx:(x != c)=true:=by have:c≠x:=fun e=>h (e▸joV);simp;exact fun e=>this e.symm
 rw[jo6,jpy,if_pos hx,f (fun d=>h (joU _ d))]
theorem jnq(c:UInt8)(a b:List UInt8):(a++c::b).drop (a.length+1)=b:=by rw[show a++c::b=(a++[c])++b by simp];exact jp9 (by simp)
theorem jbS{fs:List Fld}(h:JU fs):qS (jq ((jE fs).map yu))=fs:=by
 unfold qS;have e:=jjW [32,32] (by decide) (jq (jE fs))
 rw[jdF _ h.clean]at e;rw[e];show(match jD (jq (jE fs)) with | .error _=>[] | .ok b=>(Yl b).flatten)=fs
 by_cases c:fs=[]
 ·subst c;rfl
 have p:=UW [⟨3,jq (jE fs),fs⟩] (by show 1<=400;decide) (fun g a=>by rw[List.mem_singleton.1 a];exact jfp fs h.each c h.len);have d:(ze [(⟨3,jq (jE fs),fs⟩:It)])=[⟨3,jq (jE fs),fs⟩]:=rfl
 rw[d]at p;have f:([(⟨3,jq (jE fs),fs⟩:It)].flatMap It.raw)=jq (jE fs):=by simp
 rw[f]at p;rw[p];show(Yl [(⟨3,jq (jE fs),fs⟩:It)]).flatten=fs
 simp[Yl]
theorem jga{ed:Ed}(h:JU ed.fields)(d:ed.kind=1\/ed.kind=2\/ed.kind=3)(j:I64 ed.id):vr (edT ed)=ed:=by
 have e:edT ed=zi ed.kind ed.id++10::jq ((jE ed.fields).map yu):=by show jq (_::_)=_;unfold jq;simp
 have a:xU (edT ed)=zi ed.kind ed.id:=by rw[e];exact jmH 10 _ _ (Xn _ _)
 have f:Um (edT ed)=jq ((jE ed.fields).map yu):=by unfold Um;rw[a,e];exact jnq 10 _ _
 have g:zi ed.kind ed.id=32::(qx ed.kind++32::Lib.itoa ed.id):=by unfold zi;rw[if_pos d]
 have b:Lib.trimPrefix (xU (edT ed)) [32]=qx ed.kind++32::Lib.itoa ed.id:=by rw[a,g];simp[Lib.trimPrefix,Lib.hasPrefix]
 have c:Xg (edT ed)=qx ed.kind:=by unfold Xg;rw[b];exact jmH 32 _ _ (jcU (by decide))
 have i:jjM (edT ed)=Lib.itoa ed.id:=by unfold jjM;rw[b,c];exact jnq 32 _ _
 unfold vr;rw[c,i,f,jcf d,vB j,jbS h]
def qd(t:List UInt8):Nat->List Ln->List (List UInt8)
 | b,[]=>[t.drop b]
 | b,x::r=>if b<x.at_/\Lib.hasPrefix x.text [32,32]=false then (t.drop b).take (x.at_-b)::qd t x.at_ r else qd t b r
def xo(t:List UInt8):List Ed:=(qd t 0 (jf t)).map vr
theorem QQ(t:List UInt8)(b:Nat):∀(e:List (List UInt8)) (d c:Nat) (a:List Ln),qd t b (num d c (e.map yu)++a)=qd t b a
 | [],_,_,_=>rfl
 | l::r,d,c,a=>by show qd t b (⟨d,c,yu l,true⟩::(num (d+1) (c+(yu l).length+1) (r.map yu)++a))=_;rw[qd,if_neg (by intro h;exact absurd h.2 (by simp[Lib.hasPrefix,yu]))];exact QQ t b r _ _ a
theorem ja0{k id:Int}(a:k=1\/k=2\/k=3):Lib.hasPrefix (zi k id) [32,32]=false:=by unfold zi;rw[if_pos a];rcases a with rfl|rfl|rfl<;>rfl
theorem KV(t:List UInt8):∀(r:List Ed) (b a:List UInt8) (c:Nat),t=b++(a++jo r)->a≠[]->(∀d∈r,d.kind=1\/d.kind=2\/d.kind=3) ->
  qd t b.length (num c (b.length+a.length) (zm r))=a::r.map edT
 | [],b,a,c,h,f,_=>by
  show [t.drop b.length]=[a]
  rw[h,jp9 rfl,WW,jo9]
 | e::r,b,a,c,h,f,g=>by
  have i:0<a.length:=List.length_pos_iff.2 f;have k:zm (e::r)=zi e.kind e.id::((jE e.fields).map yu++zm r):=by unfold zm;rw[jo5];rfl
  rw[k];show qd t b.length (⟨c,b.length+a.length,zi e.kind e.id,true⟩::num (c+1) (b.length+a.length+(zi e.kind e.id).length+1) ((jE e.fields).map yu++zm r))=_
  rw[qd,if_pos ⟨by show b.length<b.length+a.length;omega,ja0 (g e joV)⟩];rw[JL,QQ];have j:=KV t r (b++a) (edT e) (c+1+((jE e.fields).map yu).length) (by rw[h,xJ];simp) (by unfold edT jhE jq;simp) (fun x hx=>g x (joU _ hx))
  have l:(edT e).length=(zi e.kind e.id).length+1+(jq ((jE e.fields).map yu)).length:=by unfold edT jhE jq;simp;omega
  rw[joK]at j;rw[show b.length+a.length+(zi e.kind e.id).length+1+(jq ((jE e.fields).map yu)).length=b.length+a.length+(edT e).length by omega];rw[show(⟨c,b.length+a.length,zi e.kind e.id,true⟩:Ln).at_=b.length+a.length from rfl,j,jpr];congr 1;rw[h,jp9 rfl,show b.length+a.length-b.length=a.length by omega,List.take_left' rfl]
theorem jeC{eds:List Ed}(i:eds≠[])(a:∀c∈eds,zG c=0)(j:∀c∈eds,I64 c.id):xo (jo eds)=eds:=by
 cases eds with
 | nil=>exact absurd rfl i
 | cons e r =>
 unfold xo;rw[show jf (jo (e::r))=num 0 0 (zm (e::r)) from xx _ 0 0 (xK a)];have d:zm (e::r)=zi e.kind e.id::((jE e.fields).map yu++zm r):=by unfold zm;rw[jo5];rfl
 have f:qd (jo (e::r)) 0 (num 0 0 (zm (e::r)))=(e::r).map edT:=by
  rw[d];show qd _ 0 (⟨0,0,zi e.kind e.id,true⟩::num 1 (0+(zi e.kind e.id).length+1) ((jE e.fields).map yu++zm r))=_
  rw[qd,if_neg (by intro h;exact absurd h.1 (Nat.lt_irrefl _)),JL,QQ];have b:=KV (jo (e::r)) r [] (edT e) (1+((jE e.fields).map yu).length) (by rw[xJ];rfl) (by unfold edT jhE jq;simp) (fun x hx=>yV (a x (joU _ hx)))
  have g:(edT e).length=(zi e.kind e.id).length+1+(jq ((jE e.fields).map yu)).length:=by unfold edT jhE jq;simp;omega
  rw[g]at b;simp only[jpm]at b;rw[show 0+((zi e.kind e.id).length+1+(jq ((jE e.fields).map yu)).length)=0+(zi e.kind e.id).length+1+(jq ((jE e.fields).map yu)).length by omega]at b;exact b
 rw[f,jqj]
 conv=>rhs;rw[<- List.map_id (e::r)]
 exact jq4 fun x hx=>jga (Zr (a x hx)) (yV (a x hx)) (j x hx)
def Qf(t:List UInt8):Option (List Ed):=if t.length<=50000/\(qw (xo t)).2=0/\jo (xo t)=t then some (xo t) else none
theorem jh8(l:List UInt8):I64 (qt l):=by
 unfold qt;cases h:Lib.atoiAll l with
 | ok v =>
  show I64 v;unfold Lib.atoiAll at h;split at h
  ·cases h
  simp only at h;split at h
  ·cases h
  ·cases h
  split at h
  ·cases h
  split at h
  ·cases h
  injection h with h;subst h;split
  ·exact⟨by omega,by omega⟩
  exact⟨by omega,by omega⟩
 | range =>
  show I64 (Lib.atoiSat l);unfold Lib.atoiSat;split
  ·exact⟨by decide,by decide⟩
  exact⟨by decide,by decide⟩
 | _=>exact(⟨by decide,by decide⟩:I64 0)
theorem jdj(t:List UInt8):∀b∈xo t,I64 b.id:=by intro b a;obtain⟨p,_,rfl⟩:=List.mem_map.1 a;exact jh8 _
theorem xH{t:List UInt8}{eds:List Ed}:Qf t=some eds↔t.length<=50000/\(qw eds).2=0/\(∀f∈eds,I64 f.id)/\jo eds=t:=by
 unfold Qf;constructor
 ·intro h;split at h
  ·rename_i q;injection h with h;subst h;exact⟨q.1,q.2.1,jdj t,q.2.2⟩
  cases h
 rintro⟨g,d,i,rfl⟩;obtain⟨⟨a,b⟩,c⟩:=vm d;have e:=jeC (by intro e;rw[e]at a;simp at a) c i
 rw[if_pos ⟨g,by rw[e];exact d,by rw[e]⟩,e]
section
attribute [local go_sem] joY
theorem yi{P:Program}{w w':World}{N:Nat}{a:String}{c:Array Value}(h:w.var? P a=some c)(e:Below N w w')(i:w.heap.size<=N):w'.var? P a=some c:=by
 unfold World.var? at *
 cases d:P.globalNamed a with
 | none=>simp[d]at h
 | some g =>
 simp only[d,Option.bind_some]at h ⊢;have f:g<w.heap.size:=by
  rcases jpc g w.heap.size with b|b
  ·exact b
  rw[jpv b]at h;simp at h
 rw[e.block g (by omega)];exact h
structure Tabs(w:World):Prop where
 err:ErrT w
 pow:Lib.TabIs prog w "internal/strconv.uint64pow10" .u64 Lib.pow10Tab
 syn:∃tp p,w.var? prog "strconv.ErrSyntax" = some #[.iface tp p]
 ran:∃tp p,w.var? prog "strconv.ErrRange" = some #[.iface tp p]
theorem Tabs.below{w w':World}{N:Nat}(h:Tabs w)(f:Below N w w')(e:w.heap.size<=N):Tabs w':=by obtain⟨a,b,⟨j,g,c⟩,⟨k,i,d⟩⟩:=h;exact⟨a.below f e,yi b f e,⟨j,g,yi c f e⟩,⟨k,i,yi d f e⟩⟩
theorem jkO(a b:List UInt8):((B a).toList==(B b).toList)=decide (a=b):=by rw[jpn,jpn,jj,jj,jpI];simp
theorem Yg(k:Int)(w:World):Calls prog 166 #[.int .i64 k] w fun e d=>e=.returned (.string (B (qx k)))/\d=w:=by
 unfold qx;by_cases a:k=1
 ·subst a;go_enter func166,ntmps166;go_wp2_with fail;go_ret;exact⟨rfl,rfl⟩
 have f:(k==1)=false:=by simpa using a
 rw[if_neg a];by_cases b:k=2
 ·subst b;go_enter func166,ntmps166;go_wp2_with fail;go_ret;exact⟨rfl,rfl⟩
 have g:(k==2)=false:=by simpa using b
 rw[if_neg b];by_cases c:k=3
 ·subst c;go_enter func166,ntmps166;go_wp2_with fail;go_ret;exact⟨rfl,rfl⟩
 have h:(k==3)=false:=by simpa using c
 rw[if_neg c];go_enter func166,ntmps166;go_wp2_with fail;go_ret;exact⟨rfl,rfl⟩
theorem yU{w:World}(n:Nat)(os:Array Obj):Below w.heap.size w (Go.Sort.grow (w.drewN n) os) :=
 ⟨rfl,rfl,rfl,by rw[Go.Sort.size_grow];exact Nat.le_add_right _ _,fun k a=>jrm _ _ a⟩
theorem jgN(ed:Ed)(l:Value)(g:I64 ed.id)(w:World)(k:Tabs w):
  Calls prog 120 #[.agg #[.int .i64 ed.kind,.int .i64 ed.id,l]] w fun e A=>e=.returned (.string (B (zi ed.kind ed.id)))/\Below w.heap.size w A:=by
 obtain⟨c,a⟩:∃c,c=w.alloc (.cells #[.int .i64 ed.kind,.int .i64 ed.id,l] 75):=⟨_,rfl⟩
 have b:Below w.heap.size w c:=by rw[a];exact(joL _ w).alloc (joJ _) _
 have i:=joI b;have q:=joI (Tryz.strconv_Itoa ed.id g.1 g.2 c (k.below b (joJ _)).pow)
 have f:=joI (Yg ed.kind c);have j:=Lib.itoa_length_le ed.id g.1 g.2
 have D:c.cell? ⟨w.heap.size,0,none⟩=some (.int .i64 ed.kind):=by rw[a];simp
 have E:c.cell? ⟨w.heap.size,1,none⟩=some (.int .i64 ed.id):=by rw[a];simp
 by_cases d:ed.kind=1\/ed.kind=2\/ed.kind=3
 ·have t:Hid (∀z:ByteArray,z=(⟨(Lib.itoa ed.id).toArray⟩:ByteArray)->(⟨#[32]⟩:ByteArray)++B (qx ed.kind) ++ ⟨#[32]⟩++z=B (zi ed.kind ed.id)):=by rintro z rfl;unfold zi;rw[if_pos d,show(⟨#[32]⟩:ByteArray)=B [32] from rfl,show(⟨(Lib.itoa ed.id).toArray⟩:ByteArray)=B (Lib.itoa ed.id) from rfl,jn,jn,jn];congr 1;simp
  have v:((B (qx ed.kind))==(⟨#[]⟩:ByteArray))=false:=by rcases d with h|h|h<;>rw[h]<;>decide
  have m:(B (qx ed.kind)).toList.isEmpty=false:=by rcases d with h|h|h<;>rw[h]<;>decide +kernel
  have x:(B (qx ed.kind)).size<=7:=by rw[jg];rcases d with h | h | h<;>rw[h]<;>decide
  have u:(⟨(Lib.itoa ed.id).toArray⟩:ByteArray).size<=21:=by show(Lib.itoa ed.id).toArray.size<=21;simpa using j
  generalize (⟨(Lib.itoa ed.id).toArray⟩:ByteArray)=z at *
  generalize B (qx ed.kind)=o at *
  have G:((⟨#[32]⟩:ByteArray)++o).size<=8:=by rw[jpB];show 1+_<=_;omega
  have H:((⟨#[32]⟩:ByteArray)++o ++ ⟨#[32]⟩).size<=9:=by rw[jpB];show _+1<=_;omega
  clear b k;subst a;go_enter func120,ntmps120;go_wp2_with fail;refine f.out.mono ?_;rintro e C ⟨rfl,rfl⟩;go_wp2_with fail;refine q.out.mono ?_;rintro e I ⟨rfl,n,y,rfl⟩;have p:=joI (i.out.trans ((yU n y).mono i.out.size))
  go_wp2_with fail;go_ret;exact⟨by rw[t.out _ rfl];rfl,p.out⟩
 have r:qx ed.kind=[]:=by unfold qx;rw[if_neg (by omega),if_neg (by omega),if_neg (by omega)]
 have s:zi ed.kind ed.id=[]:=by unfold zi;rw[if_neg d]
 rw[r]at f;rw[s];rw[show B []=(⟨#[]⟩:ByteArray) from rfl]at f ⊢;clear b k;subst a;go_enter func120,ntmps120;go_wp2_with fail;refine f.out.mono ?_;rintro e C ⟨rfl,rfl⟩;go_wp2_with fail;go_ret;exact⟨rfl,i.out⟩
def Jq(j:List UInt8)(xs:List Ln):List UInt8:=xs.flatMap fun x=>j++x.bytes
theorem ZV(j:List UInt8)(a:List Ln)(x:Ln):Jq j (a++[x])=Jq j a++j++x.text++(XJ x.ended).data.toList:=by
 have e:(XJ x.ended).data.toList=if x.ended then [10] else []:=by unfold XJ;cases x.ended<;>rfl
 rw[e];simp[Jq,Ln.bytes]
theorem Gi(j:List UInt8)(n m:Nat):∀a:List Ln,(∀x∈a,x.bytes.length<=m)->a.length<=n->j.length<=m->(Jq j a).length<=n*(2*m)
 | [],_,_,_=>by simp[Jq]
 | x::a,h,b,c=>by
  obtain⟨n,rfl⟩:∃k,n=k+1:=⟨n-1,by simp at b;omega⟩
  have g:=Gi j n m a (fun y d=>h y (joU _ d)) (by simpa using b) c;have f:=h x joV
  have e:Jq j (x::a)=j++x.bytes++Jq j a:=by simp[Jq]
  rw[e,Nat.add_mul];simp only[joK];omega
def jnP(w:World)(z R:Nat)(j:List UInt8)(pre:List Ln)(W:World):Prop :=
 Boxed W z 9 (.string ⟨j.toArray⟩)/\Bld (z+1) R (Jq j pre) W/\Below w.heap.size w W
theorem jeW(s:ByteArray)(hs:s.size<=1000000)(sl:Value)(j:List UInt8)(hj:j.length<=1000000)(w:World)
  (p:Calls prog 169 #[sl,.string ⟨#[]⟩] w fun e Y=>e=.returned (.string ⟨j.toArray⟩)/\Below w.heap.size w Y) :
  Calls prog 122 #[.string s,sl] w fun e Y=>e=.returned (.string ⟨(Jq j (jf s.data.toList)).toArray⟩)/\Below w.heap.size w Y:=by
 have m:∀x∈jf s.data.toList,x.bytes.length<=1000000:=by
  intro x hx;have e:=jL s.data.toList
  obtain⟨a,b,Q⟩:=jqR hx;rw[Q,jpo,jo5]at e;have:=congrArg List.length e
  rw[<- jo2]at this;simp only[joK]at this;omega
 have E:=zO s.data.toList;rw[<- jo2]at E;obtain⟨xs,q⟩:∃xs,jf s.data.toList=xs:=⟨_,rfl⟩
 rw[q]at m E ⊢;have O:=joI q
 clear q;refine callsIn_wide (n:=9).1 ?_;refine callsIn_of_wp_marks func122 rfl trivial ?_ rfl;simp only[ntmps122,jpN,joR,jpm,Nat.reduceAdd,Nat.reduceSub,jpK,jpL,jpU,jpQ,jpC,jo6];gi_wp2_with fail;refine⟨trivial,(callsIn_wide.2 p).mono ?_⟩;rintro e d ⟨rfl,C⟩;have zs:=C.size
 gi_wp2_with fail;refine⟨trivial,(callsIn_wide.2 (yL s _)).mono ?_⟩;rintro e w3 ⟨rfl,rfl⟩;gi_wp2_with fail;have k5:=jqe d 9 (.string ⟨j.toArray⟩)
 have kb:=Bld.new (d.alloc (.cells #[.string ⟨j.toArray⟩] 9)) (d.heap.size+8);rw[joZ]at kb;have k7:=Vg d (.cells #[.string ⟨j.toArray⟩] 9) (.cells #[.pointer none,.slice none 0 0] 191) 9 (.string s)
 have Z:=vv s (d.heap.size+2) _ k7 (by omega);rw[O.out]at Z;have I:(((d.alloc (.cells #[.string ⟨j.toArray⟩] 9)).alloc (.cells #[.pointer none,.slice none 0 0] 191)).alloc (.cells #[.string s] 9)).heap.size=d.heap.size+3:=by simp
 have ab:∀k,k<=5->zU (d.heap.size+3) k (jnP w d.heap.size (d.heap.size+8) j):=fun k hk f W W' h t =>
  ⟨t.box h.1 (.inl (by omega)),h.2.1.turned t (by omega) (by omega),h.2.2.trans (t.below (by omega) h.2.2.size)⟩
 have J:jnP w d.heap.size (d.heap.size+8) j [] (((d.alloc (.cells #[.string ⟨j.toArray⟩] 9)).alloc (.cells #[.pointer none,.slice none 0 0] 191)).alloc (.cells #[.string s] 9)) :=
  ⟨(k5.alloc _).alloc _,kb.alloc _,((C.alloc (by omega) _).alloc (by simp;omega) _).alloc (by simp;omega) _⟩
 refine yd (gf:=139) (lb:=#[.pointer (some ⟨d.heap.size+2,0,none⟩)]) rfl (enters_of func139 (by kernel_rfl) rfl) Z (fun _=>rfl)
  (jnP w d.heap.size (d.heap.size+8) j) (fun _ _ _=>False) (by rw[I];exact ab _ (by omega)) (fun _ _ _ _ hs _=>hs) J
  (fun a f x P W=>∃g,d.heap.size+3+5<=g/\P={tmps:=(a.tmps.setIfInBounds 12 (.agg (qi x))).setIfInBounds 7 (.pointer (some ⟨g,0,none⟩)),defers:=[]}/\ja W g 157 (qi x) /\
   jnP w d.heap.size (d.heap.size+8) j f W)
  ?hM ?assign ?body ?done ?stop
 case hM =>
  rw[I];rintro a f x P _ W W' ⟨g,z,A,o,h4⟩ t;exact⟨g,z,A,(t.same g o.lt (.inr (by omega))).trans o,ab 2 (by omega) f W W' h4 t⟩
 case assign =>
  rw[I];intro l f x K W hx H L;clear hx;dsimp only[qi];gi_wp2;exact⟨(vO.refl _ _ W).alloc H _,W.heap.size,by omega,rfl,ja.new _ _ _,L.1.alloc _,L.2.1.alloc _,L.2.2.alloc L.2.2.size _⟩
 case body =>
  rw[I];rintro l f x K P W hx H ⟨g,hB,rfl,R,z,A,o⟩;have i:(Jq j (f++[x])).length<=1000000*(2*1000000):=by
   refine Gi j 1000000 1000000 _ (fun y hy=>m y ?_) ?_ hj
   ·rw[hx];rcases List.mem_append.1 hy with h|h
    ·exact jqq _ h
    rw[List.mem_singleton.1 h];simp
   have:=congrArg List.length hx;simp at this ⊢;omega
  rw[ZV]at i;simp only[joK,<- jo2]at i;have HS:=joI (ZV j f x)
  clear hx;simp only[jo3,jpF,jpG,qi]at R ⊢;have c5:=z.cell
  have G:g≠d.heap.size+1:=by omega
  obtain⟨v,D⟩:∃v,x.ended=v:=⟨_,rfl⟩
  rw[D]at i R ⊢;gi_wp2_with fail;refine⟨trivial,((callsIn_wide.2 (ZD (d.heap.size+1) (d.heap.size+8) _ ⟨j.toArray⟩ W A (by omega) (by omega) ?_)).inRound l).mono ?_⟩
  ·have:(⟨j.toArray⟩:ByteArray).size=j.length:=by simp[ByteArray.size]
   omega
  rintro e r ⟨rfl,b1,U⟩;have m1:ja r g 157 _:=U.other R G (by decide)
  have p2:r.cell? ⟨g,2,none⟩=some (.string ⟨x.text.toArray⟩):=m1.cell 2;have z1:=U.size
  gi_wp2_with fail;refine⟨trivial,((callsIn_wide.2 (ZD (d.heap.size+1) (d.heap.size+8) _ ⟨x.text.toArray⟩ r b1 (by omega) (by omega) ?_)).inRound l).mono ?_⟩
  ·have e1:(⟨x.text.toArray⟩:ByteArray).size=x.text.length:=by simp[ByteArray.size]
   simp only[joK,e1];omega
  rintro e u ⟨rfl,b2,V⟩;have N:ja u g 157 _:=V.other m1 G (by decide)
  have z2:=V.size;have q0:u.cell? ⟨g,0,none⟩=some (.int .i64 x.no):=N.cell 0
  have q1:u.cell? ⟨g,1,none⟩=some (.int .i64 x.at_):=N.cell 1;have q2:u.cell? ⟨g,2,none⟩=some (.string ⟨x.text.toArray⟩):=N.cell 2
  have q3:u.cell? ⟨g,3,none⟩=some (.bool v):=N.cell 3;gi_wp2_with fail;refine⟨trivial,((callsIn_wide.2 (jcD _ _ _ _ _)).inRound l).mono ?_⟩;rintro e W3 ⟨rfl,rfl⟩;gi_wp2_with fail;refine⟨trivial,((callsIn_wide.2 (ZD (d.heap.size+1) (d.heap.size+8) _ (XJ v) _ (b2.alloc _) (by omega) (by simp;omega) ?_)).inRound l).mono ?_⟩
  ·have e1:(⟨x.text.toArray⟩:ByteArray).size=x.text.length:=by simp[ByteArray.size]
   simp only[joK];omega
  rintro e W4 ⟨rfl,b3,o3⟩;gi_wp2_with fail;have X:=((U.trans V).alloc (.cells #[.int .i64 x.no,.int .i64 x.at_,.string ⟨x.text.toArray⟩,.bool v] 157)).trans o3
  refine⟨X.stay (by omega) (by omega) (by omega),X.box z (by omega) (by omega),?_,o.trans (X.below (by omega) (by omega) (by have:=o.size;omega))⟩;rw[HS.out,D];exact b3
 case done =>
  rw[I];rintro W ⟨z,A,o⟩ hmark;have zW:d.heap.size+3<W.heap.size:=(Array.getElem?_eq_some_iff.1 hmark).1
  gi_wp2_with fail;refine⟨trivial,(callsIn_wide.2 (Tryz.Builder_String_any_k w.heap.size (d.heap.size+1) _ W (A.library (by omega) (by omega)) (by omega))).mono ?_⟩;rintro e r ⟨rfl,_,g2,g3⟩;have hK:r.heap[d.heap.size+3]?=some (.deferred (some [])):=g3 _ _ hmark (by simp) (fun c fz e=>by cases e)
  gi_wp2;refine⟨by simp,.inl ⟨_,_,rfl,run_takeDeferred hK,?_⟩⟩;refine⟨_,results_tmp rfl _ _ _,rfl,(o.trans g2).trans (belowK_b (w:=w) (joJ _) r _ _ _ (by omega) hK rfl rfl)⟩
 case stop=>exact fun _ _ _ _ h=>h.elim
theorem jeV(s a:ByteArray)(g:s.size<=1000000)(i:a.size<=100000)(b:Nat)(w:World)(f:w.cell? ⟨b,0,none⟩=some (.string a))(c:b<w.heap.size):
  Calls prog 122 #[.string s,.slice (some ⟨b,0,none⟩) 1 1] w fun e h=>e=.returned (.string ⟨(Jq a.data.toList (jf s.data.toList)).toArray⟩)/\Below w.heap.size w h:=by
 refine jeW s g _ _ (by rw[<- jo2];omega) w ?_;have d:Lib.join ([a].map (·.data.toList)) (⟨#[]⟩:ByteArray).data.toList=a.data.toList:=by simp[Lib.join]
 have:=Tryz.strings_Join b 0 1 [a] ⟨#[]⟩ w (fun j x hx=>by
  match j,hx with
  | 0,hx=>cases hx;exact f) c (by simp) (by simp) (by rw[d,<- Lib.size_eq];omega)
 rw[d]at this;exact this
theorem Gu{fs:List Fld}(h:JU fs):(jO fs).length<=4000*fs.length:=by
 replace h:=h.each
 induction fs with
 | nil=>exact joJ _
 | cons f r c =>
 have e:jO (f::r)=jq (jY f.1 f.2)++jO r:=by unfold jO;rw[jo5]
 obtain⟨a,b⟩:=h f joV;have:=jfV (k:=f.1) (v:=f.2) (by unfold zh;rw[if_pos a,if_pos b])
 rw[e,joK,joR];have:=c (fun x hx=>h x (joU _ hx))
 omega
theorem JU.foldN{fs:List Fld}(h:JU fs):foldN fs=0:=Gt fs fun f c=>by obtain⟨a,b⟩:=h.each f c;unfold zh;rw[if_pos a,if_pos b]
theorem JU.foldT{fs:List Fld}(h:JU fs):foldT fs=jO fs:=by unfold Proofs.YtbapfpekklcicaaGreatDoor.foldT;rw[if_pos h.foldN]
theorem Zq{k:List UInt8}(h:jF k=true):k.length<=32:=(yf h).2.1
theorem JU.small{fs:List Fld}(h:JU fs):∀f∈fs,f.1.length<=100000/\f.2.length<=100000:=fun f c=>by
 obtain⟨a,b⟩:=h.each f c;have:=Zq a
 omega
theorem jm9(ls:List Ln):(ls.flatMap (fun x=>[32,32]++x.bytes)).length=2*ls.length+(ls.flatMap Ln.bytes).length:=by
 induction ls with
 | nil=>rfl
 | cons x r a =>
 rw[jo5,jo5,joK,joK,a,joK,joR];simp only[joR,jpm];omega
theorem Qd{ed:Ed}(h:JU ed.fields):edT ed=(zi ed.kind ed.id++[10])++Jq [32,32] (jf (jO ed.fields)):=by rw[jkL h];unfold Jq;simp
theorem jhD{ed:Ed}(h:JU ed.fields)(a:I64 ed.id):(edT ed).length<=600000:=by
 have c:=Gu h;have d:=h.len
 have f:=zO (jO ed.fields);have g:=Lib.itoa_length_le ed.id a.1 a.2
 have i:(zi ed.kind ed.id).length<=40:=by
  unfold zi;split
  ·rename_i b;have:(qx ed.kind).length<=7:=by rcases b with e | e | e<;>rw[e]<;>decide
   rw[joR,joK,joR];omega
  simp
 rw[jkL h,joK,joR,jm9,jL];omega
def joh(w w':World)(eds:List Ed)(e:Ending):Prop :=
 Below w.heap.size w w'/\(((qw eds).2=0/\e=.returned (.tuple #[.string (B (jo eds)),.nilIface]))\/((qw eds).2≠0/\∃u,e=.returned (.tuple #[.string ⟨#[]⟩,u])/\vE w.heap.size w' u (qw eds).1 (qw eds).2))
theorem WI(eds:List Ed)(v:Value)(w:World)(h:EdV w v eds)(hl:eds.length<=1000000)(hf:VY eds)(hi:∀a∈eds,I64 a.id)(ht:Tabs w):
  Calls prog 63 #[v] w fun e w'=>joh w w' eds e:=by
 have CK:=joI (XP eds v w h hl hf ht.err);obtain⟨A,aT,rfl,aW,hc⟩:=h;have PC:=joI hc
 have HT:=joI ht;have HI:=joI hi
 clear hc hf ht hi;go_enter func63,ntmps63;go_wp2_with fail;refine CK.out.mono ?_;rintro e c ⟨u,rfl,x,hz⟩;by_cases n:(qw eds).2=0
 ·obtain⟨⟨g1,aU⟩,GD⟩:=vm n;have U:=joI GD
  obtain rfl:u=.nilIface:=by
   obtain⟨_,⟨rfl,_⟩|⟨_,_,_,hx⟩⟩:=hz
   ·rw[n];rfl
   exact absurd n hx
  have Z0:=joI n;have aN:=x.size
  have NB:=Bld.new c (c.heap.size+1);have aE:Below w.heap.size w (c.alloc (.cells #[.pointer none,.slice none 0 0] 191)):=x.alloc x.size _
  clear hz GD x CK n;go_wp2_with fail;go_loopw [17] (fun i wr=>∃k:Nat,k<=eds.length/\i=.int .i64 k/\Bld c.heap.size (c.heap.size+1) (jo (eds.take k)) wr/\(jo (eds.take k)).length<=600000*k/\Below w.heap.size w wr/\c.heap.size<wr.heap.size) (fun i _=>eds.length-(intOf i).toNat)
  case atStart=>exact⟨0,joT _,rfl,NB,joJ _,aE,by simp⟩
  case round =>
  obtain⟨k,hk,rfl,j,aK,K,bi⟩:=hrel;by_cases au:k<eds.length
  ·obtain⟨a,d⟩:∃a,eds[k]?=some a:=⟨_,joM au⟩
   obtain⟨b,I,fv,rfl,g,c0,c1,c2,G⟩:=PC.out k a d;obtain⟨C,D,rfl,_,_⟩:=_root_.id G.1;replace c0:=(K.cell (p:=⟨b,I+k*3,none⟩) g).trans c0;replace c1:=(K.cell (p:=⟨b,I+k*3+1,none⟩) g).trans c1;replace c2:=(K.cell (p:=⟨b,I+k*3+1+1,none⟩) g).trans c2;have ar:=U.out a (joW d)
   have H:=HI.out a (joW d);have f:=Zr ar
   have TK:Hid (jo (eds.take (k+1))=jo (eds.take k)++((zi a.kind a.id++[10])++Jq [32,32] (jf (jO a.fields)))):=by show _=_;rw[take_snoc d,XU,Qd f]
   have o:=jhD f H;rw[Qd f]at o;obtain⟨L,m⟩:∃L,L=wr.alloc (.cells #[.int .i64 a.kind,.int .i64 a.id,.slice C a.fields.length D] 75):=⟨_,rfl⟩
   have aM:=K.size;have E:Below wr.heap.size wr L:=by rw[m];exact(joL _ wr).alloc (joJ _) _
   have aw:L.heap.size=wr.heap.size+1:=by rw[m];simp
   have cx:ja L wr.heap.size 75 #[.int .i64 a.kind,.int .i64 a.id,.slice C a.fields.length D]:=by rw[m];exact ja.new _ _ _
   have d0:=cx.cell 0;have d1:=cx.cell 1
   have d2:=cx.cell 2;have hB:=K.trans (E.mono aM)
   have a8:=joI (jgN a (.slice C a.fields.length D) H L (HT.out.below hB (joJ _)));have ah:=j.kept E (joJ _)
   have P:=joI ah;have X:=joI hB
   have CX:=joI cx;have R:Hid (∀W,Below w.heap.size w W->Calls prog 121 #[.slice C a.fields.length D] W fun e w'=>e=.returned (.tuple #[.string (B (jO a.fields)),.nilIface])/\Below W.heap.size W w'):=fun W hW=>by have:=jdL a.fields (.slice C a.fields.length D) W (G.1.below hW (joJ _)) (by have:=f.len;omega) f.small;rw[f.foldT,f.foldN]at this;exact this
   have aF:=Gu f;have am:=f.len
   have aP:(B (jO a.fields)).size<=160000:=by rw[jg];omega
   clear d G j ah E hB cx ar H f g aF am;have t:Hid (∀(l:List UInt8) (s:ByteArray) (W:World),Bld c.heap.size (c.heap.size+1) l W->wr.heap.size<W.heap.size->l.length+s.size<=140737488355328 ->
     Calls prog 119 #[.pointer (some ⟨c.heap.size,0,none⟩),.string s] W fun e W'=>e=.returned (.tuple #[.int .i64 s.size,.nilIface])/\Bld c.heap.size (c.heap.size+1) (l++s.data.toList) W'/\vf c.heap.size (c.heap.size+1) W W'):=fun l s W h1 h2 h3=>ZD _ _ l s W h1 (by omega) (by omega) h3
   have aQ:(B (zi a.kind a.id)).size+1+(Jq [32,32] (jf (jO a.fields))).length<=600000:=by rw[jg];rw[joK,joK]at o;exact o
   have DL:=joI (jj (zi a.kind a.id));have DF:=joI (jj (jO a.fields))
   have a7:Hid (∀W,Calls prog 122 #[.string (B (jO a.fields)),.slice (some ⟨W.heap.size,0,none⟩) 1 1] (W.alloc (.cells #[.string ⟨#[32,32]⟩] 9)) fun e W'=>e=.returned (.string (B (Jq [32,32] (jf (jO a.fields)))))/\Below W.heap.size W W'):=fun W=>by refine(jeV _ ⟨#[32,32]⟩ (by omega) (by decide) W.heap.size _ (by simp) (by simp)).mono ?_;rintro e W' ⟨rfl,b⟩;refine⟨?_,((joL _ W).alloc (joJ _) _).trans (b.mono (by simp))⟩;rw[show(⟨#[32,32]⟩:ByteArray).data.toList=[32,32] from rfl,jj];rfl
   have DI:=joI (jj (Jq [32,32] (jf (jO a.fields))));have aR:(B (Jq [32,32] (jf (jO a.fields)))).size=(Jq [32,32] (jf (jO a.fields))).length:=jg _
   have aS:(B (zi a.kind a.id)).size=(zi a.kind a.id).length:=jg _;clear DF;generalize aq:B (Jq [32,32] (jf (jO a.fields)))=bj at *
   generalize aH:Jq [32,32] (jf (jO a.fields))=ax at *
   generalize aI:B (zi a.kind a.id)=la at *
   generalize aJ:zi a.kind a.id=aO at *
   generalize aG:B (jO a.fields)=fg at *
   generalize aV:jo (eds.take k)=bt at *
   clear aq aH aI aJ aG d0 d1 d2;have D2:Hid (∀W,ja W wr.heap.size 75 #[.int .i64 a.kind,.int .i64 a.id,.slice C a.fields.length D]->W.cell? ⟨wr.heap.size,2,none⟩=some (.slice C a.fields.length D)):=fun W h=>by rw[h.cell];rfl
   subst m;go_wp2_with fail;refine a8.out.mono ?_;rintro e w2 ⟨rfl,b2⟩;have aL:=b2.size
   rw[aw]at aL;have aa:=P.out.kept b2 (joJ _)
   have aA:=joI (X.out.trans (b2.mono X.out.size));have ai:=jb CX.out b2 (by rw[aw];omega)
   clear b2 a8 P;go_wp2_with fail;refine(t.out _ _ w2 aa (by omega) (by omega)).mono ?_;rintro e w3 ⟨rfl,y,o3⟩;have aX:=o3.size
   have aj:ja w3 wr.heap.size 75 _:=o3.other ai (by omega) (by decide);have aB:=joI (aA.out.trans (o3.below (by omega) (by omega) (by omega)))
   rw[DL.out]at y;clear o3 ai aa;go_wp2_with fail;refine(t.out _ ⟨#[10]⟩ w3 y (by omega) (by rw[joK];show _+1<=_;omega)).mono ?_;rintro e w4 ⟨rfl,ae,o4⟩;have aY:=o4.size
   have ak:ja w4 wr.heap.size 75 _:=o4.other aj (by omega) (by decide);have r:=joI (aB.out.trans (o4.below (by omega) (by omega) (by omega)))
   have N:=joI ae;have d2:=D2.out w4 ak
   have Q:=joI (R.out w4 r.out);clear o4 aj y ae R ak;go_wp2_with fail;refine Q.out.mono ?_;rintro e w5 ⟨rfl,J⟩;have aZ:=J.size
   have af:=N.out.kept J (joJ _);have V:=joI (r.out.trans (J.mono r.out.size))
   have O:=joI af;have Y:=joI (a7.out w5)
   clear J af Q N a7;go_wp2_with fail;refine Y.out.mono ?_;rintro e w6 ⟨rfl,b6⟩;have be:=b6.size
   have ag:=O.out.kept b6 (joJ _);have aC:=joI (V.out.trans (b6.mono V.out.size))
   clear b6 Y O;go_wp2_with fail;refine(t.out _ _ w6 ag (by omega) (by rw[joK,joK];show _+1+_<=_;omega)).mono ?_;rintro e w7 ⟨rfl,z,o7⟩;have bg:=o7.size
   have aD:=joI (aC.out.trans (o7.below (by omega) (by omega) (by omega)));rw[DI.out]at z;have ay:=joI z
   clear o7 ag z;go_wp2_with fail;go_roundw
   case rel =>
    have eT:jo (eds.take (k+1))=bt++aO++(⟨#[10]⟩:ByteArray).data.toList++ax:=by rw[TK.out,show(⟨#[10]⟩:ByteArray).data.toList=[10] from rfl];simp
    refine⟨k+1,au,by go_num,by rw[eT];exact ay.out,?_,aD.out,by omega⟩;rw[eT,joK,joK,joK];show _+_+1+_<=_
    omega
   case measure=>simp[intOf];omega
  obtain rfl:k=eds.length:=by omega
  rw[jpa]at j;have Z:=joI Z0.out
  clear PC HT HI U aK;go_wp2_with fail;refine(Tryz.Builder_String_any_k c.heap.size c.heap.size _ wr (j.library (joJ _) (by omega)) (by omega)).mono ?_;rintro e w5 ⟨rfl,_,J,_⟩;have B5:=joI (K.trans (J.mono aN))
  go_wp2_with fail;go_ret2;exact⟨B5.out,.inl ⟨Z.out,rfl⟩⟩
 have Z1:=joI hz;have B1:=joI x
 obtain⟨_,⟨rfl,hx⟩|⟨kk,⟨q,_,rfl,_⟩,_,_⟩⟩:=hz
 ·have av:0<(qw eds).2:=jqp n;have ZR:Hid (joh w c eds (.returned (.tuple #[.string ⟨#[]⟩,Zc (qw eds).2]))):=⟨B1.out,.inr ⟨n,_,rfl,Z1.out⟩⟩
  rw[zf _ av]at ZR ⊢;clear CK Z1 hx x PC;generalize ((qw eds).2:Int)=zz at *
  go_wp2_with fail;go_ret2;exact ZR.out
 have ZR:Hid (joh w c eds (.returned (.tuple #[.string ⟨#[]⟩,.iface 87 (.pointer (some ⟨q,0,none⟩))]))):=⟨B1.out,.inr ⟨n,_,rfl,Z1.out⟩⟩
 clear CK Z1 x PC;go_wp2_with fail;go_ret2;exact ZR.out
end
end Go.Proofs.YtbapfpekklcicaaGreatDoor
