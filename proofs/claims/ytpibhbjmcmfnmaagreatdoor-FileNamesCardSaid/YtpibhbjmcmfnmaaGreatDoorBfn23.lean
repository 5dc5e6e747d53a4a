/- Texts put together:MF,EB,IM,PL,PM,PV,AC,AE,WN,WO,AF,JB,EM. -/
import Derived.Test.YtpibhbjmcmfnmaaGreatDoorBfn22
set_option linter.unusedVariables false
set_option maxRecDepth 100000
set_option maxHeartbeats 16000000
namespace Go.Proofs.YtpibhbjmcmfnmaaGreatDoor
open Go.RowKit Go.Shelf Tryz
namespace Hd
attribute [local go_sem] jmk
theorem jj9(n k:Nat)(hn:n<=1000)(w:World):Calls prog 17 #[qi n,.int .i64 (k:Int)] w fun e w'=>e=.returned (.bool (decide (n=k)))/\w'=w:=by
 have HN:=jl9 (jdV n hn w)
 go_enter func17,ntmps17
 go_wp2_with fail
 refine HN.out.mono ?_
 rintro e V ⟨rfl,rfl⟩
 have:((n:Int)==(k:Int))=decide (n=k):=by
  by_cases h:n=k
  ·subst h;simp
  have:¬(n:Int)=k:=by omega
  simp[h,this]
 go_wp2_with fail
 go_ret
 exact⟨rfl,rfl⟩
end Hd
theorem Ki:∀(fs:List Fld),(∀f∈fs,zl f.1 f.2=0)->foldN fs=0
 | [],_=>rfl
 | f::r,h=>by
  unfold foldN
  rw[if_pos (h f jml)]
  exact Ki r (fun x hx=>h x (jmj _ hx))
structure GkP(p:PS):Prop where
 fl:∀f∈p.fields,zl f.1 f.2=0
 each:∀it∈p.items,(∀f∈it.fields,zl f.1 f.2=0)/\(it.kind=3->it.fields.length≠0)
theorem GkP.endField{p:PS}(h:GkP p)(h0:ji p=0):GkP (jb p):=by
 unfold jb
 split
 ·exact h
 rename_i hs
 unfold ji at h0
 rw[if_neg hs]at h0
 have hu:jZ p.said=0:=by
  by_cases q:jZ p.said=0
  ·exact q
  rw[if_pos q]at h0;exact h0
 refine⟨fun f hf => ?_,h.each⟩
 rcases List.mem_append.1 hf with hf|hf
 ·exact h.fl f hf
 rw[List.mem_singleton.1 hf];exact(Ga hu).1
theorem GkP.endItem{t:List UInt8}{p:PS}(h:GkP p)(kind e:Nat)(hk:kind=3->p.fields.length≠0):GkP (zi t p kind e) :=
 ⟨fun f hf=>(by cases hf),fun it hi=>by
  rcases List.mem_append.1 hi with hi|hi
  ·exact h.each it hi
  rw[List.mem_singleton.1 hi]
  exact⟨h.fl,fun q=>hk (by have q':((kind:Nat):Int)=3:=q;omega)⟩⟩
theorem GkP.endBlock{t:List UInt8}{p:PS}(h:GkP p)(e:Nat):GkP (js t p e):=by
 unfold js
 split
 ·exact h
 split
 ·exact h.endItem 2 e (fun q=>absurd q (by decide))
 rename_i hl
 exact⟨(h.endItem (t:=t) 3 e (fun _=>hl)).fl,(h.endItem (t:=t) 3 e (fun _=>hl)).each⟩
theorem GkP.went{p:PS}(h:GkP p)(x:Ln):GkP (qv p x):=by
 unfold qv
 split
 ·exact⟨h.fl,h.each⟩
 exact h
theorem GkP.take{t:List UInt8}{p q:PS}{x:Ln}(h:GkP p)(he:zJ t p x=.ok q):GkP q:=by
 obtain⟨h1,_,rfl⟩:=xH he
 have h2:GkP (vj p x):=by
  unfold vj
  split
  ·rename_i q;exact(h.went x).endField (h1 q)
  exact h.went x
 unfold Qk
 split
 ·exact⟨h2.fl,h2.each⟩
 split
 ·exact⟨((h2.endBlock x.at_).endItem 1 _ (fun q=>absurd q (by decide))).fl,((h2.endBlock x.at_).endItem 1 _ (fun q=>absurd q (by decide))).each⟩
 exact⟨h2.fl,h2.each⟩
theorem GkP.run(t:List UInt8):∀(xs:List Ln) (p q:PS),GkP p->vK t p xs=.ok q->GkP q
 | [],p,q,h,he=>by cases he;exact h
 | x::xs,p,q,h,he=>by
  unfold vK at he
  cases ht:zJ t p x with
  | error e=>rw[ht]at he;cases he
  | ok p1 =>
  rw[ht]at he
  exact GkP.run t xs p1 q (h.take ht) he
theorem jgf{t:List UInt8}{its:List It}(h:jI t=.ok its):∀it∈its,it.kind=3->vn it.fields=0:=by
 obtain⟨p,hr,h0,rfl,g,_⟩:=Zs h
 have hs:GkP (js t (jb p) t.length):=((GkP.run t _ _ _ ⟨(fun f h=>by cases h),(fun it h=>by cases h)⟩ hr).endField h0).endBlock _
 intro it hi h3
 have h40:it.fields.length<=40:=g.each it hi
 obtain⟨h1,h2⟩:=hs.each it hi
 unfold vn
 rw[if_neg (h2 h3),if_neg (by omega)]
 exact Ki _ h1
def wf:List Ln->Prop
 | []=>True
 | x::xs=>(10:UInt8)∉x.text/\(x.ended=true\/(xs=[]/\x.text≠[]))/\wf xs
def XN(x:Ln):List UInt8×Bool:=(x.text,x.ended)
theorem yG(t r:List UInt8)(h:(10:UInt8)∉t):head (t++10::r)=t:=by
 unfold head
 induction t with
 | nil=>simp
 | cons c t ih =>
 have hc:c≠10:=fun e=>h (by rw[e];exact jml)
 rw[jmu,jnc,if_pos (by simp[hc]),ih (fun hm=>h (jmj _ hm))]
theorem Kf(t:List UInt8)(h:(10:UInt8)∉t):head t=t:=by
 unfold head
 induction t with
 | nil=>rfl
 | cons c t ih =>
 have hc:c≠10:=fun e=>h (by rw[e];exact jml)
 rw[jnc,if_pos (by simp[hc]),ih (fun hm=>h (jmj _ hm))]
theorem jaQ(t:List UInt8)(h:(10:UInt8)∉t):nl t=false:=by
 unfold nl
 rw[Bool.eq_false_iff]
 intro hc
 exact h (by simpa using hc)
theorem jaP(t r:List UInt8):nl (t++10::r)=true:=by unfold nl;simp
theorem Xg:∀(xs:List Ln) (no at_:Nat),wf xs->(za no at_ (xs.flatMap Ln.bytes)).map XN=xs.map XN
 | [],no,at_,_=>by simp[jr]
 | x::xs,no,at_,⟨h1,h2,h3⟩=>by
  rcases h2 with he|⟨rfl,hne⟩
  ·have eb:(x::xs).flatMap Ln.bytes=x.text++10::xs.flatMap Ln.bytes:=by simp[Ln.bytes,he]
   rw[eb,jA _ _ _ (by simp)]
   rw[yG _ _ h1,jaP]
   have hu:qI (x.text++10::xs.flatMap Ln.bytes)=x.text.length+1:=by
    unfold qI;rw[yG _ _ h1,jaP];simp
   have hd:(x.text++10::xs.flatMap Ln.bytes).drop (x.text.length+1)=xs.flatMap Ln.bytes:=by
    rw[show x.text++10::xs.flatMap Ln.bytes=(x.text++[10])++xs.flatMap Ln.bytes by simp]
    exact jnx (by simp)
   rw[hu,hd,jmD,jmD,Xg xs _ _ h3]
   simp[XN,he]
  have he:x.ended=false\/x.ended=true:=by cases x.ended<;>simp
  rcases he with he|he
  ·have eb:[x].flatMap Ln.bytes=x.text:=by simp[Ln.bytes,he]
   rw[eb,jA _ _ _ hne,Kf _ h1,jaQ _ h1]
   have hu:qI x.text=x.text.length:=by unfold qI;rw[Kf _ h1,jaQ _ h1];simp
   rw[hu,jnC,jr]
   simp[XN,he]
  have eb:[x].flatMap Ln.bytes=x.text++10::[]:=by simp[Ln.bytes,he]
  rw[eb,jA _ _ _ (by simp),yG _ _ h1,jaP]
  have hu:qI (x.text++10::[])=x.text.length+1:=by unfold qI;rw[yG _ _ h1,jaP];simp
  rw[hu]
  have hd:(x.text++10::[]).drop (x.text.length+1)=[]:=by rw[List.drop_eq_nil_of_le];simp
  rw[hd,jr]
  simp[XN,he]
theorem YF:∀(n no at_:Nat) (l:List UInt8),l.length<=n->wf (za no at_ l)
 | 0,_,_,l,h=>by
  have:l=[]:=List.length_eq_zero_iff.1 (by omega)
  subst this;rw[jr];trivial
 | n+1,no,at_,l,h=>by
  by_cases hl:l=[]
  ·subst hl;rw[jr];trivial
  have hp:=qz l hl
  have hc:=yE l.length no at_ l (jma _)
  rw[jA _ _ _ hl]at hc ⊢
  refine⟨hc _ jml,?_,YF n _ _ _ (by simp only[jmn];omega)⟩
  cases hn:nl l with
  | true=>exact .inl rfl
  | false =>
  have hh:head l=l:=Kf l (fun hm=>by unfold nl at hn;simp at hn;exact hn hm)
  have hu:qI l=l.length:=by unfold qI;rw[hh,hn];simp
  refine .inr ⟨?_,?_⟩
  ·rw[hu,jnC,jr]
  show head l≠[]
  rw[hh];exact hl
theorem jbD(l:List UInt8):wf (je l):=YF _ _ _ _ (jma _)
def jam(j:List UInt8)(x:Ln):Ln:={x with text:=j++x.text}
theorem jaq(j:List UInt8)(hj:(10:UInt8)∉j):∀xs,wf xs->wf (xs.map (jam j))
 | [],_=>trivial
 | x::xs,⟨h1,h2,h3⟩=>by
  refine⟨fun hm => ?_,?_,jaq j hj xs h3⟩
  ·rcases List.mem_append.1 hm with h|h
   ·exact hj h
   exact h1 h
  rcases h2 with h|⟨rfl,h⟩
  ·exact .inl h
  refine .inr ⟨rfl,fun e=>h ?_⟩
  exact(List.append_eq_nil_iff.1 e).2
def dd(p:List UInt8)(ys:List (List UInt8×Bool)):List UInt8×Bool :=
 if ys.all (fun y=>p.isPrefixOf y.1) then (ys.flatMap (fun y=>y.1.drop p.length++if y.2 then [10] else []),true) else ([],false)
theorem jhb(j:List UInt8)(hj:(10:UInt8)∉j)(l:List UInt8):
  dd j ((je ((je l).flatMap fun x=>j++x.bytes)).map XN)=(l,true):=by
 have e:(je l).flatMap (fun x=>j++x.bytes)=((je l).map (jam j)).flatMap Ln.bytes:=by
  rw[List.flatMap_map]
  congr 1
  funext x
  simp only[Ln.bytes,jam,jmA]
  rfl
 rw[e]
 rw[show je (((je l).map (jam j)).flatMap Ln.bytes)=za 0 0 (((je l).map (jam j)).flatMap Ln.bytes) from rfl,Xg _ 0 0 (jaq j hj _ (jbD l))]
 unfold dd
 rw[if_pos]
 ·congr 1
  conv=>rhs;rw[<- zg l]
  rw[jnH,List.flatMap_map]
  congr 1
  funext x
  simp[XN,jam,Ln.bytes]
  rfl
 rw[jmR]
 intro y hy
 obtain⟨x,hx,rfl⟩:=List.mem_map.1 hy
 obtain⟨x,hx,rfl⟩:=List.mem_map.1 hx
 simp[XN,jam]
section
set_option maxRecDepth 1000000
end
section
open Go.ChangeShapes Go.WideShapes
attribute [local go_sem] jW
theorem Zw:∀(fs:List Fld),foldN fs=0->∀f∈fs,jT f.1=true/\f.2.length<=1000
 | [],_,f,hf=>by cases hf
 | g::r,h,f,hf=>by
  unfold foldN at h
  split at h
  ·rename_i h0
   rcases List.mem_cons.1 hf with rfl|hf
   ·exact Yd h0
   exact Zw r h f hf
  rename_i h0;exact absurd h h0
end
def qr(k:Int):List UInt8:=if k=1 then [114,101,112,108,97,99,101] else if k=2 then [100,101,108,101,116,101] else if k=3 then [105,110,115,101,114,116] else []
def zM(k id:Int):List UInt8:=if k=1\/k=2\/k=3 then 32::(qr k++32::Lib.itoa id) else []
def Jj(l:List UInt8):List UInt8:=32::32::l
def jeR(ed:Ed):List (List UInt8):=zM ed.kind ed.id::(jz ed.fields).map Jj
def edT(ed:Ed):List UInt8:=jl (jeR ed)
def zu(eds:List Ed):List (List UInt8):=eds.flatMap jeR
def jp(eds:List Ed):List UInt8:=jl (zu eds)
theorem jap{k:Int}{c:UInt8}(h:c.toNat<97):c∉qr k:=by
 unfold qr
 have key:∀l:List UInt8,(∀x∈l,97<=x.toNat)->c∉l:=fun l hl hc=>by have:=hl c hc;omega
 split
 ·exact key _ (by decide)
 split
 ·exact key _ (by decide)
 split
 ·exact key _ (by decide)
 simp
theorem Vj(k id:Int):(10:UInt8)∉zM k id:=by
 unfold zM
 split
 ·intro h
  rcases List.mem_cons.1 h with h|h
  ·exact absurd h (by decide)
  rcases List.mem_append.1 h with h|h
  ·exact jap (by decide) h
  rcases List.mem_cons.1 h with h|h
  ·exact absurd h (by decide)
  exact jiz (by decide) (.inl (by decide)) h
 simp
theorem jcl{l:List UInt8}(h:(10:UInt8)∉l):(10:UInt8)∉Jj l:=by
 unfold Jj
 intro hm
 rcases List.mem_cons.1 hm with hm|hm
 ·exact absurd hm (by decide)
 rcases List.mem_cons.1 hm with hm|hm
 ·exact absurd hm (by decide)
 exact h hm
structure xR(fs:List Fld):Prop where
 each:∀f∈fs,jT f.1=true/\f.2.length<=1000
 len:fs.length<=40
theorem Kg{ed:Ed}(h:qh ed=0):xR ed.fields:=by
 unfold qh at h
 split at h
 ·obtain⟨_,h2,h3⟩:=xz h
  exact⟨Zw _ h3,h2⟩
 split at h
 ·rename_i q
  rw[List.length_eq_zero_iff.1 q.2]
  exact⟨fun f hf=>(by cases hf),jmo _⟩
 cases h
theorem xR.clean{fs:List Fld}(h:xR fs):∀l∈jz fs,(10:UInt8)∉l:=by
 intro l hl
 unfold jz at hl
 obtain⟨f,hf1,hf2⟩:=List.mem_flatMap.1 hl
 exact ZW _ (h.each f hf1).1 l hf2
theorem jcA{ed:Ed}(h:xR ed.fields):∀l∈jeR ed,(10:UInt8)∉l:=by
 intro l hl
 rcases List.mem_cons.1 hl with rfl|hl
 ·exact Vj _ _
 obtain⟨x,hx,rfl⟩:=List.mem_map.1 hl
 exact jcl (h.clean x hx)
theorem Zg{eds:List Ed}(h:∀ed∈eds,qh ed=0):∀l∈zu eds,(10:UInt8)∉l:=by
 intro l hl
 obtain⟨ed,h1,h2⟩:=List.mem_flatMap.1 hl
 exact jcA (Kg (h ed h1)) l h2
theorem Ju(ed:Ed)(r:List Ed):jp (ed::r)=edT ed++jp r:=by
 unfold jp zu edT;rw[jmt,yY]
theorem XB:jp []=[]:=rfl
theorem KC(a b:List Ed):jp (a++b)=jp a++jp b:=by
 unfold jp zu;rw[jmL,yY]
theorem jaf(a:List Ed)(ed:Ed):jp (a++[ed])=jp a++edT ed:=by
 rw[KC,Ju,XB,jmT]
theorem jaX(ls:List (List UInt8))(h:∀l∈ls,(10:UInt8)∉l):(je (jl ls)).flatMap (fun x=>[32,32]++x.bytes)=jl (ls.map Jj):=by
 show(za 0 0 (jl ls)).flatMap _=_
 rw[Ji ls 0 0 h]
 suffices ∀(ls:List (List UInt8)) (no c:Nat),(num no c ls).flatMap (fun x=>[32,32]++x.bytes)=jl (ls.map Jj) from this ls 0 0
 intro ls
 induction ls with
 | nil=>intro no c;rfl
 | cons l r ih =>
 intro no c
 show([32,32]++(⟨no,c,l,true⟩:Ln).bytes)++(num (no+1) (c+l.length+1) r).flatMap _=_
 rw[ih]
 unfold jl Jj Ln.bytes
 simp
theorem jcs(fs:List Fld):jU fs=jl (jz fs):=by
 unfold jU jl jz;rw[List.flatMap_assoc]
theorem jhK{ed:Ed}(h:xR ed.fields):edT ed=zM ed.kind ed.id++10::(je (jU ed.fields)).flatMap (fun x=>[32,32]++x.bytes):=by
 rw[jcs,jaX _ h.clean]
 show jl (_::_)=_
 unfold jl;simp
def xV(l:List UInt8):Int:=if l=qr 1 then 1 else if l=qr 2 then 2 else if l=qr 3 then 3 else 0
theorem Gq{k:Int}(h:k=1\/k=2\/k=3):xV (qr k)=k:=by
 rcases h with rfl|rfl|rfl<;>decide
def qt(t:List UInt8):List Fld:=match jI (dd [32,32] ((je t).map XN)).1 with | .error _=>[] | .ok its=>(Qs its).flatten
def yT(t:List UInt8):List UInt8:=t.takeWhile (· != 10)
def XS(t:List UInt8):List UInt8:=t.drop ((yT t).length+1)
def Vd(t:List UInt8):List UInt8:=(Lib.trimPrefix (yT t) [32]).takeWhile (· != 32)
def jgY(t:List UInt8):List UInt8:=(Lib.trimPrefix (yT t) [32]).drop ((Vd t).length+1)
def qJ(t:List UInt8):Ed:=⟨xV (Vd t),qH (jgY t),qt (XS t)⟩
theorem jjJ(c:UInt8)(a b:List UInt8)(h:c∉a):(a++c::b).takeWhile (· != c)=a:=by
 induction a with
 | nil=>simp
 | cons x r ih =>
 have hx:(x != c)=true:=by
  have:c≠x:=fun e=>h (e▸jml)
  simp;exact fun e=>this e.symm
 rw[jmu,jnc,if_pos hx,ih (fun hm=>h (jmj _ hm))]
theorem jks(c:UInt8)(a b:List UInt8):(a++c::b).drop (a.length+1)=b:=by
 rw[show a++c::b=(a++[c])++b by simp]
 exact jnx (by simp)
theorem Gb{fs:List Fld}(h:xR fs):qt (jl ((jz fs).map Jj))=fs:=by
 unfold qt
 have e:=jhb [32,32] (by decide) (jl (jz fs))
 rw[jaX _ h.clean]at e
 rw[e]
 show(match jI (jl (jz fs)) with | .error _=>[] | .ok its=>(Qs its).flatten)=fs
 by_cases h0:fs=[]
 ·subst h0;rfl
 have p:=XY [⟨3,jl (jz fs),fs⟩] (by show 1<=400;decide) (fun it hit=>by rw[List.mem_singleton.1 hit];exact jcU fs h.each h0 h.len)
 have e1:(yu [(⟨3,jl (jz fs),fs⟩:It)])=[⟨3,jl (jz fs),fs⟩]:=rfl
 rw[e1]at p
 have e2:([(⟨3,jl (jz fs),fs⟩:It)].flatMap It.raw)=jl (jz fs):=by simp
 rw[e2]at p
 rw[p]
 show(Qs [(⟨3,jl (jz fs),fs⟩:It)]).flatten=fs
 simp[Qs]
theorem jdy{ed:Ed}(h:xR ed.fields)(hk:ed.kind=1\/ed.kind=2\/ed.kind=3)(hi:I64 ed.id):qJ (edT ed)=ed:=by
 have e:edT ed=zM ed.kind ed.id++10::jl ((jz ed.fields).map Jj):=by
  show jl (_::_)=_
  unfold jl;simp
 have e1:yT (edT ed)=zM ed.kind ed.id:=by rw[e];exact jjJ 10 _ _ (Vj _ _)
 have e2:XS (edT ed)=jl ((jz ed.fields).map Jj):=by unfold XS;rw[e1,e];exact jks 10 _ _
 have e3:zM ed.kind ed.id=32::(qr ed.kind++32::Lib.itoa ed.id):=by unfold zM;rw[if_pos hk]
 have e4:Lib.trimPrefix (yT (edT ed)) [32]=qr ed.kind++32::Lib.itoa ed.id:=by
  rw[e1,e3];simp[Lib.trimPrefix,Lib.hasPrefix]
 have e5:Vd (edT ed)=qr ed.kind:=by unfold Vd;rw[e4];exact jjJ 32 _ _ (jap (by decide))
 have e6:jgY (edT ed)=Lib.itoa ed.id:=by unfold jgY;rw[e4,e5];exact jks 32 _ _
 unfold qJ
 rw[e5,e6,e2,Gq hk,yt hi,Gb h]
def zL(t:List UInt8):Nat->List Ln->List (List UInt8)
 | b,[]=>[t.drop b]
 | b,x::r=>if b<x.at_/\Lib.hasPrefix x.text [32,32]=false then (t.drop b).take (x.at_-b)::zL t x.at_ r else zL t b r
def yz(t:List UInt8):List Ed:=(zL t 0 (je t)).map qJ
theorem Zq(t:List UInt8)(b:Nat):∀(ls:List (List UInt8)) (no c:Nat) (ys:List Ln),zL t b (num no c (ls.map Jj)++ys)=zL t b ys
 | [],_,_,_=>rfl
 | l::r,no,c,ys=>by
  show zL t b (⟨no,c,Jj l,true⟩::(num (no+1) (c+(Jj l).length+1) (r.map Jj)++ys))=_
  rw[zL,if_neg (by intro h;exact absurd h.2 (by simp[Lib.hasPrefix,Jj]))]
  exact Zq t b r _ _ ys
theorem jea{k id:Int}(hk:k=1\/k=2\/k=3):Lib.hasPrefix (zM k id) [32,32]=false:=by
 unfold zM
 rw[if_pos hk]
 rcases hk with rfl|rfl|rfl<;>rfl
theorem YW(t:List UInt8):∀(r:List Ed) (pre cur:List UInt8) (no:Nat),t=pre++(cur++jp r)->cur≠[]->(∀ed∈r,ed.kind=1\/ed.kind=2\/ed.kind=3) ->
  zL t pre.length (num no (pre.length+cur.length) (zu r))=cur::r.map edT
 | [],pre,cur,no,h,hc,_=>by
  show [t.drop pre.length]=[cur]
  rw[h,jnx rfl,XB,jmT]
 | e::r,pre,cur,no,h,hc,hk=>by
  have hpos:0<cur.length:=List.length_pos_iff.2 hc
  have e1:zu (e::r)=zM e.kind e.id::((jz e.fields).map Jj++zu r):=by
   unfold zu;rw[jmt];rfl
  rw[e1]
  show zL t pre.length (⟨no,pre.length+cur.length,zM e.kind e.id,true⟩::num (no+1) (pre.length+cur.length+(zM e.kind e.id).length+1) ((jz e.fields).map Jj++zu r))=_
  rw[zL,if_pos ⟨by show pre.length<pre.length+cur.length;omega,jea (hk e jml)⟩]
  rw[xK,Zq]
  have ih:=YW t r (pre++cur) (edT e) (no+1+((jz e.fields).map Jj).length) (by rw[h,Ju];simp) (by unfold edT jeR jl;simp) (fun x hx=>hk x (jmj _ hx))
  have el:(edT e).length=(zM e.kind e.id).length+1+(jl ((jz e.fields).map Jj)).length:=by unfold edT jeR jl;simp;omega
  rw[jmb]at ih
  rw[show pre.length+cur.length+(zM e.kind e.id).length+1+(jl ((jz e.fields).map Jj)).length=pre.length+cur.length+(edT e).length by omega]
  rw[show(⟨no,pre.length+cur.length,zM e.kind e.id,true⟩:Ln).at_=pre.length+cur.length from rfl,ih,jmD]
  congr 1
  rw[h,jnx rfl,show pre.length+cur.length-pre.length=cur.length by omega,List.take_left' rfl]
theorem jb4{eds:List Ed}(h0:eds≠[])(hg:∀ed∈eds,qh ed=0)(hi:∀ed∈eds,I64 ed.id):yz (jp eds)=eds:=by
 cases eds with
 | nil=>exact absurd rfl h0
 | cons e r =>
 unfold yz
 rw[show je (jp (e::r))=num 0 0 (zu (e::r)) from Ji _ 0 0 (Zg hg)]
 have e1:zu (e::r)=zM e.kind e.id::((jz e.fields).map Jj++zu r):=by
  unfold zu;rw[jmt];rfl
 have e2:zL (jp (e::r)) 0 (num 0 0 (zu (e::r)))=(e::r).map edT:=by
  rw[e1]
  show zL _ 0 (⟨0,0,zM e.kind e.id,true⟩::num 1 (0+(zM e.kind e.id).length+1) ((jz e.fields).map Jj++zu r))=_
  rw[zL,if_neg (by intro h;exact absurd h.1 (Nat.lt_irrefl _)),xK,Zq]
  have ih:=YW (jp (e::r)) r [] (edT e) (1+((jz e.fields).map Jj).length) (by rw[Ju];rfl) (by unfold edT jeR jl;simp) (fun x hx=>Zu (hg x (jmj _ hx)))
  have el:(edT e).length=(zM e.kind e.id).length+1+(jl ((jz e.fields).map Jj)).length:=by unfold edT jeR jl;simp;omega
  rw[el]at ih
  simp only[jmB]at ih
  rw[show 0+((zM e.kind e.id).length+1+(jl ((jz e.fields).map Jj)).length)=0+(zM e.kind e.id).length+1+(jl ((jz e.fields).map Jj)).length by omega]at ih
  exact ih
 rw[e2,jnH]
 conv=>rhs;rw[<- List.map_id (e::r)]
 exact jn7 fun x hx=>jdy (Kg (hg x hx)) (Zu (hg x hx)) (hi x hx)
def jcK(t:List UInt8):Option (List Ed):=if t.length<=50000/\(vG (yz t)).2=0/\jp (yz t)=t then some (yz t) else none
theorem jfi(l:List UInt8):I64 (qH l):=by
 unfold qH
 cases h:Lib.atoiAll l with
 | ok v =>
  show I64 v
  unfold Lib.atoiAll at h
  split at h
  ·cases h
  simp only at h
  split at h
  ·cases h
  ·cases h
  split at h
  ·cases h
  split at h
  ·cases h
  injection h with h
  subst h
  split
  ·exact⟨by omega,by omega⟩
  exact⟨by omega,by omega⟩
 | range =>
  show I64 (Lib.atoiSat l)
  unfold Lib.atoiSat
  split
  ·exact⟨by decide,by decide⟩
  exact⟨by decide,by decide⟩
 | _=>exact(⟨by decide,by decide⟩:I64 0)
theorem jaL(t:List UInt8):∀ed∈yz t,I64 ed.id:=by
 intro ed hed
 obtain⟨p,_,rfl⟩:=List.mem_map.1 hed
 exact jfi _
theorem Ks{t:List UInt8}{eds:List Ed}:jcK t=some eds↔t.length<=50000/\(vG eds).2=0/\(∀ed∈eds,I64 ed.id)/\jp eds=t:=by
 unfold jcK
 constructor
 ·intro h
  split at h
  ·rename_i q
   injection h with h
   subst h
   exact⟨q.1,q.2.1,jaL t,q.2.2⟩
  cases h
 rintro⟨h1,h2,h3,rfl⟩
 obtain⟨⟨a,b⟩,c⟩:=yr h2
 have e:=jb4 (by intro e;rw[e]at a;simp at a) c h3
 rw[if_pos ⟨h1,by rw[e];exact h2,by rw[e]⟩,e]
section
attribute [local go_sem] jmk
theorem vI{P:Program}{w w':World}{N:Nat}{name:String}{cs:Array Value}(h:w.var? P name=some cs)(hb:Below N w w')(hN:w.heap.size<=N):w'.var? P name=some cs:=by
 unfold World.var? at *
 cases hg:P.globalNamed name with
 | none=>simp[hg]at h
 | some g =>
 simp only[hg,Option.bind_some]at h ⊢
 have hlt:g<w.heap.size:=by
  rcases jmF g w.heap.size with h'|h'
  ·exact h'
  rw[jmV h']at h;simp at h
 rw[hb.block g (by omega)]
 exact h
structure Tabs(w:World):Prop where
 err:ErrT w
 pow:Lib.TabIs prog w "internal/strconv.uint64pow10" .u64 Lib.pow10Tab
 syn:∃tp p,w.var? prog "strconv.ErrSyntax" = some #[.iface tp p]
 ran:∃tp p,w.var? prog "strconv.ErrRange" = some #[.iface tp p]
theorem Tabs.below{w w':World}{N:Nat}(h:Tabs w)(hb:Below N w w')(hN:w.heap.size<=N):Tabs w':=by
 obtain⟨a,b,⟨t1,p1,c⟩,⟨t2,p2,d⟩⟩:=h
 exact⟨a.below hb hN,vI b hb hN,⟨t1,p1,vI c hb hN⟩,⟨t2,p2,vI d hb hN⟩⟩
theorem jhN(a b:List UInt8):((B a).toList==(B b).toList)=decide (a=b):=by rw[jmY,jmY,ju,ju,jm8];simp
theorem Qp(k:Int)(w:World):Calls prog 162 #[.int .i64 k] w fun e w'=>e=.returned (.string (B (qr k)))/\w'=w:=by
 unfold qr
 by_cases h1:k=1
 ·subst h1
  go_enter func162,ntmps162
  go_wp2_with fail
  go_ret
  exact⟨rfl,rfl⟩
 have q1:(k==1)=false:=by simpa using h1
 rw[if_neg h1]
 by_cases h2:k=2
 ·subst h2
  go_enter func162,ntmps162
  go_wp2_with fail
  go_ret
  exact⟨rfl,rfl⟩
 have q2:(k==2)=false:=by simpa using h2
 rw[if_neg h2]
 by_cases h3:k=3
 ·subst h3
  go_enter func162,ntmps162
  go_wp2_with fail
  go_ret
  exact⟨rfl,rfl⟩
 have q3:(k==3)=false:=by simpa using h3
 rw[if_neg h3]
 go_enter func162,ntmps162
 go_wp2_with fail
 go_ret
 exact⟨rfl,rfl⟩
theorem ym{w:World}(n:Nat)(os:Array Obj):Below w.heap.size w (Go.Sort.grow (w.drewN n) os) :=
 ⟨rfl,rfl,rfl,by rw[Go.Sort.size_grow];exact jn3 _ _,fun k hk=>joq _ _ hk⟩
theorem jeb(ed:Ed)(fv:Value)(hi:I64 ed.id)(w:World)(ht:Tabs w):
  Calls prog 119 #[.agg #[.int .i64 ed.kind,.int .i64 ed.id,fv]] w fun e w'=>e=.returned (.string (B (zM ed.kind ed.id)))/\Below w.heap.size w w':=by
 obtain⟨wa,hwa⟩:∃wa,wa=w.alloc (.cells #[.int .i64 ed.kind,.int .i64 ed.id,fv] 63):=⟨_,rfl⟩
 have hba:Below w.heap.size w wa:=by rw[hwa];exact(jmc _ w).alloc (jma _) _
 have HB:=jl9 hba
 have IT:=jl9 (Tryz.strconv_Itoa ed.id hi.1 hi.2 wa (ht.below hba (jma _)).pow)
 have WD:=jl9 (Qp ed.kind wa)
 have hil:=Lib.itoa_length_le ed.id hi.1 hi.2
 have k0:wa.cell? ⟨w.heap.size,0,none⟩=some (.int .i64 ed.kind):=by rw[hwa];simp
 have k1:wa.cell? ⟨w.heap.size,1,none⟩=some (.int .i64 ed.id):=by rw[hwa];simp
 by_cases hk:ed.kind=1\/ed.kind=2\/ed.kind=3
 ·have e3:Hid (∀z:ByteArray,z=(⟨(Lib.itoa ed.id).toArray⟩:ByteArray)->(⟨#[32]⟩:ByteArray)++B (qr ed.kind) ++ ⟨#[32]⟩++z=B (zM ed.kind ed.id)):=by
   rintro z rfl
   unfold zM
   rw[if_pos hk,show(⟨#[32]⟩:ByteArray)=B [32] from rfl,show(⟨(Lib.itoa ed.id).toArray⟩:ByteArray)=B (Lib.itoa ed.id) from rfl,jS,jS,jS]
   congr 1;simp
  have hne:((B (qr ed.kind))==(⟨#[]⟩:ByteArray))=false:=by
   rcases hk with h|h|h<;>rw[h]<;>decide
  have hne2:(B (qr ed.kind)).toList.isEmpty=false:=by
   rcases hk with h|h|h<;>rw[h]<;>decide +kernel
  have hws:(B (qr ed.kind)).size<=7:=by rw[jq];rcases hk with h | h | h<;>rw[h]<;>decide
  have his:(⟨(Lib.itoa ed.id).toArray⟩:ByteArray).size<=21:=by show(Lib.itoa ed.id).toArray.size<=21;simpa using hil
  generalize (⟨(Lib.itoa ed.id).toArray⟩:ByteArray)=z at *
  generalize B (qr ed.kind)=wd at *
  have s1:((⟨#[32]⟩:ByteArray)++wd).size<=8:=by rw[jne];show 1+_<=_;omega
  have s2:((⟨#[32]⟩:ByteArray)++wd ++ ⟨#[32]⟩).size<=9:=by rw[jne];show _+1<=_;omega
  clear hba ht
  subst hwa
  go_enter func119,ntmps119
  go_wp2_with fail
  refine WD.out.mono ?_
  rintro e w2 ⟨rfl,rfl⟩
  go_wp2_with fail
  refine IT.out.mono ?_
  rintro e w3 ⟨rfl,n,os,rfl⟩
  have B3:=jl9 (HB.out.trans ((ym n os).mono HB.out.size))
  go_wp2_with fail
  go_ret
  exact⟨by rw[e3.out _ rfl];rfl,B3.out⟩
 have e0:qr ed.kind=[]:=by
  unfold qr
  rw[if_neg (by omega),if_neg (by omega),if_neg (by omega)]
 have e1:zM ed.kind ed.id=[]:=by unfold zM;rw[if_neg hk]
 rw[e0]at WD
 rw[e1]
 rw[show B []=(⟨#[]⟩:ByteArray) from rfl]at WD ⊢
 clear hba ht
 subst hwa
 go_enter func119,ntmps119
 go_wp2_with fail
 refine WD.out.mono ?_
 rintro e w2 ⟨rfl,rfl⟩
 go_wp2_with fail
 go_ret
 exact⟨rfl,HB.out⟩
def Yp(j:List UInt8)(xs:List Ln):List UInt8:=xs.flatMap fun x=>j++x.bytes
theorem Wz(j:List UInt8)(pre:List Ln)(x:Ln):Yp j (pre++[x])=Yp j pre++j++x.text++(Kk x.ended).data.toList:=by
 have e:(Kk x.ended).data.toList=if x.ended then [10] else []:=by unfold Kk;cases x.ended<;>rfl
 rw[e]
 simp[Yp,Ln.bytes]
theorem jaY(j:List UInt8)(n m:Nat):∀xs:List Ln,(∀x∈xs,x.bytes.length<=m)->xs.length<=n->j.length<=m->(Yp j xs).length<=n*(2*m)
 | [],_,_,_=>by simp[Yp]
 | x::xs,h,hn,hj=>by
  obtain⟨n,rfl⟩:∃k,n=k+1:=⟨n-1,by simp at hn;omega⟩
  have ih:=jaY j n m xs (fun y hy=>h y (jmj _ hy)) (by simpa using hn) hj
  have h1:=h x jml
  have e:Yp j (x::xs)=j++x.bytes++Yp j xs:=by simp[Yp]
  rw[e,Nat.add_mul]
  simp only[jmb]
  omega
def jk0(w:World)(z R:Nat)(j:List UInt8)(pre:List Ln)(W:World):Prop :=
 Boxed W z 9 (.string ⟨j.toArray⟩)/\Bld (z+1) R (Yp j pre) W/\Below w.heap.size w W
theorem jck(s:ByteArray)(hs:s.size<=1000000)(sl:Value)(j:List UInt8)(hj:j.length<=1000000)(w:World)
  (hjoin:Calls prog 165 #[sl,.string ⟨#[]⟩] w fun e w'=>e=.returned (.string ⟨j.toArray⟩)/\Below w.heap.size w w') :
  Calls prog 121 #[.string s,sl] w fun e w'=>e=.returned (.string ⟨(Yp j (je s.data.toList)).toArray⟩)/\Below w.heap.size w w':=by
 have hpos:∀x∈je s.data.toList,x.bytes.length<=1000000:=by
  intro x hx
  have e:=zg s.data.toList
  obtain⟨a,b,hab⟩:=List.append_of_mem hx
  rw[hab,jmL,jmt]at e
  have:=congrArg List.length e
  rw[<- jmq]at this
  simp only[jmb]at this
  omega
 have hll:=qU s.data.toList
 rw[<- jmq]at hll
 obtain⟨xs,hxs⟩:∃xs,je s.data.toList=xs:=⟨_,rfl⟩
 rw[hxs]at hpos hll ⊢
 have HXS:=jl9 hxs
 clear hxs
 refine callsIn_wide (n:=9).1 ?_
 refine callsIn_of_wp_marks func121 rfl trivial ?_ rfl
 simp only[ntmps121,jmN,jme,jmB,Nat.reduceAdd,Nat.reduceSub,jmW,jmX,jm5,jm0,jmS,jmu]
 gi_wp2_with fail
 refine⟨trivial,(callsIn_wide.2 hjoin).mono ?_⟩
 rintro e w1 ⟨rfl,hb1⟩
 have zs:=hb1.size
 gi_wp2_with fail
 refine⟨trivial,(callsIn_wide.2 (yj s _)).mono ?_⟩
 rintro e w3 ⟨rfl,rfl⟩
 gi_wp2_with fail
 have k5:=jnr w1 9 (.string ⟨j.toArray⟩)
 have kb:=Bld.new (w1.alloc (.cells #[.string ⟨j.toArray⟩] 9)) (w1.heap.size+8)
 rw[jmw]at kb
 have k7:=ZD w1 (.cells #[.string ⟨j.toArray⟩] 9) (.cells #[.pointer none,.slice none 0 0] 182) 9 (.string s)
 have HH:=qL s (w1.heap.size+2) _ k7 (by omega)
 rw[HXS.out]at HH
 have hz:(((w1.alloc (.cells #[.string ⟨j.toArray⟩] 9)).alloc (.cells #[.pointer none,.slice none 0 0] 182)).alloc (.cells #[.string s] 9)).heap.size=w1.heap.size+3:=by simp
 have ab:∀k,k<=5->zD (w1.heap.size+3) k (jk0 w w1.heap.size (w1.heap.size+8) j):=fun k hk pre W W' h ht =>
  ⟨ht.box h.1 (.inl (by omega)),h.2.1.turned ht (by omega) (by omega),h.2.2.trans (ht.below (by omega) h.2.2.size)⟩
 have init:jk0 w w1.heap.size (w1.heap.size+8) j [] (((w1.alloc (.cells #[.string ⟨j.toArray⟩] 9)).alloc (.cells #[.pointer none,.slice none 0 0] 182)).alloc (.cells #[.string s] 9)) :=
  ⟨(k5.alloc _).alloc _,kb.alloc _,((hb1.alloc (by omega) _).alloc (by simp;omega) _).alloc (by simp;omega) _⟩
 refine vC (gf:=139) (lb:=#[.pointer (some ⟨w1.heap.size+2,0,none⟩)]) rfl (enters_of func139 (by kernel_rfl) rfl) HH (fun _=>rfl)
  (jk0 w w1.heap.size (w1.heap.size+8) j) (fun _ _ _=>False) (by rw[hz];exact ab _ (by omega)) (fun _ _ _ _ hs _=>hs) init
  (fun a pre x a' W=>∃Bx,w1.heap.size+3+5<=Bx/\a'={tmps:=(a.tmps.setIfInBounds 12 (.agg (qP x))).setIfInBounds 7 (.pointer (some ⟨Bx,0,none⟩)),defers:=[]}/\ja W Bx 164 (qP x) /\
   jk0 w w1.heap.size (w1.heap.size+8) j pre W)
  ?hM ?assign ?body ?done ?stop
 case hM =>
  rw[hz]
  rintro a pre x a' _ W W' ⟨Bx,h1,h2,h3,h4⟩ ht
  exact⟨Bx,h1,h2,(ht.same Bx h3.lt (.inr (by omega))).trans h3,ab 2 (by omega) pre W W' h4 ht⟩
 case assign =>
  rw[hz]
  intro l pre x post W hx hsz hi
  clear hx
  dsimp only[qP]
  gi_wp2
  exact⟨(vz.refl _ _ W).alloc hsz _,W.heap.size,by omega,rfl,ja.new _ _ _,hi.1.alloc _,hi.2.1.alloc _,hi.2.2.alloc hi.2.2.size _⟩
 case body =>
  rw[hz]
  rintro l pre x post a' W hx hsz ⟨Bx,hB,rfl,hc,h1,h2,h3⟩
  have hlen:(Yp j (pre++[x])).length<=1000000*(2*1000000):=by
   refine jaY j 1000000 1000000 _ (fun y hy=>hpos y ?_) ?_ hj
   ·rw[hx]
    rcases List.mem_append.1 hy with h|h
    ·exact List.mem_append_left _ h
    rw[List.mem_singleton.1 h];simp
   have:=congrArg List.length hx
   simp at this ⊢
   omega
  rw[Wz]at hlen
  simp only[jmb,<- jmq]at hlen
  have HS:=jl9 (Wz j pre x)
  clear hx
  simp only[jms,jm2,jm3,qP]at hc ⊢
  have c5:=h1.cell
  have hne:Bx≠w1.heap.size+1:=by omega
  obtain⟨en,hen⟩:∃en,x.ended=en:=⟨_,rfl⟩
  rw[hen]at hlen hc ⊢
  gi_wp2_with fail
  refine⟨trivial,((callsIn_wide.2 (ZN (w1.heap.size+1) (w1.heap.size+8) _ ⟨j.toArray⟩ W h2 (by omega) (by omega) ?_)).inRound l).mono ?_⟩
  ·have:(⟨j.toArray⟩:ByteArray).size=j.length:=by simp[ByteArray.size]
   omega
  rintro e W1 ⟨rfl,b1,o1⟩
  have m1:ja W1 Bx 164 _:=o1.other hc hne (by decide)
  have p2:W1.cell? ⟨Bx,2,none⟩=some (.string ⟨x.text.toArray⟩):=m1.cell 2
  have z1:=o1.size
  gi_wp2_with fail
  refine⟨trivial,((callsIn_wide.2 (ZN (w1.heap.size+1) (w1.heap.size+8) _ ⟨x.text.toArray⟩ W1 b1 (by omega) (by omega) ?_)).inRound l).mono ?_⟩
  ·have e1:(⟨x.text.toArray⟩:ByteArray).size=x.text.length:=by simp[ByteArray.size]
   simp only[jmb,e1]
   omega
  rintro e W2 ⟨rfl,b2,o2⟩
  have m2:ja W2 Bx 164 _:=o2.other m1 hne (by decide)
  have z2:=o2.size
  have q0:W2.cell? ⟨Bx,0,none⟩=some (.int .i64 x.no):=m2.cell 0
  have q1:W2.cell? ⟨Bx,1,none⟩=some (.int .i64 x.at_):=m2.cell 1
  have q2:W2.cell? ⟨Bx,2,none⟩=some (.string ⟨x.text.toArray⟩):=m2.cell 2
  have q3:W2.cell? ⟨Bx,3,none⟩=some (.bool en):=m2.cell 3
  gi_wp2_with fail
  refine⟨trivial,((callsIn_wide.2 (GU _ _ _ _ _)).inRound l).mono ?_⟩
  rintro e W3 ⟨rfl,rfl⟩
  gi_wp2_with fail
  refine⟨trivial,((callsIn_wide.2 (ZN (w1.heap.size+1) (w1.heap.size+8) _ (Kk en) _ (b2.alloc _) (by omega) (by simp;omega) ?_)).inRound l).mono ?_⟩
  ·have e1:(⟨x.text.toArray⟩:ByteArray).size=x.text.length:=by simp[ByteArray.size]
   simp only[jmb]
   omega
  rintro e W4 ⟨rfl,b3,o3⟩
  gi_wp2_with fail
  have oo:=((o1.trans o2).alloc (.cells #[.int .i64 x.no,.int .i64 x.at_,.string ⟨x.text.toArray⟩,.bool en] 164)).trans o3
  refine⟨oo.stay (by omega) (by omega) (by omega),oo.box h1 (by omega) (by omega),?_,h3.trans (oo.below (by omega) (by omega) (by have:=h3.size;omega))⟩
  rw[HS.out,hen]
  exact b3
 case done =>
  rw[hz]
  rintro W ⟨h1,h2,h3⟩ hmark
  have zW:w1.heap.size+3<W.heap.size:=(Array.getElem?_eq_some_iff.1 hmark).1
  gi_wp2_with fail
  refine⟨trivial,(callsIn_wide.2 (Tryz.Builder_String_any_k w.heap.size (w1.heap.size+1) _ W (h2.library (by omega) (by omega)) (by omega))).mono ?_⟩
  rintro e W1 ⟨rfl,_,g2,g3⟩
  have hK:W1.heap[w1.heap.size+3]?=some (.deferred (some [])):=g3 _ _ hmark (by simp) (fun c fz e=>by cases e)
  gi_wp2
  refine⟨by simp,.inl ⟨_,_,rfl,run_takeDeferred hK,?_⟩⟩
  refine⟨_,results_tmp rfl _ _ _,rfl,(h3.trans g2).trans (belowK_b (w:=w) (jma _) W1 _ _ _ (by omega) hK rfl rfl)⟩
 case stop=>exact fun _ _ _ _ h=>h.elim
theorem jcj(s a:ByteArray)(hs:s.size<=1000000)(ha:a.size<=100000)(bk:Nat)(w:World)(h0:w.cell? ⟨bk,0,none⟩=some (.string a))(hbk:bk<w.heap.size):
  Calls prog 121 #[.string s,.slice (some ⟨bk,0,none⟩) 1 1] w fun e w'=>e=.returned (.string ⟨(Yp a.data.toList (je s.data.toList)).toArray⟩)/\Below w.heap.size w w':=by
 refine jck s hs _ _ (by rw[<- jmq];omega) w ?_
 have hj:Lib.join ([a].map (·.data.toList)) (⟨#[]⟩:ByteArray).data.toList=a.data.toList:=by simp[Lib.join]
 have:=Tryz.strings_Join bk 0 1 [a] ⟨#[]⟩ w (fun j x hx=>by
  match j,hx with
  | 0,hx=>cases hx;exact h0) hbk (by simp) (by simp) (by rw[hj,<- Lib.size_eq];omega)
 rw[hj]at this
 exact this
theorem ja8{fs:List Fld}(h:xR fs):(jU fs).length<=4000*fs.length:=by
 replace h:=h.each
 induction fs with
 | nil=>exact jma _
 | cons f r ih =>
 have e:jU (f::r)=jl (zm f.1 f.2)++jU r:=by unfold jU;rw[jmt]
 obtain⟨a,b⟩:=h f jml
 have:=jdn (k:=f.1) (v:=f.2) (by unfold zl;rw[if_pos a,if_pos b])
 rw[e,jmb,jme]
 have:=ih (fun x hx=>h x (jmj _ hx))
 omega
theorem xR.foldN{fs:List Fld}(h:xR fs):foldN fs=0:=Ki fs fun f hf=>by
 obtain⟨a,b⟩:=h.each f hf
 unfold zl;rw[if_pos a,if_pos b]
theorem xR.foldT{fs:List Fld}(h:xR fs):foldT fs=jU fs:=by unfold Proofs.YtpibhbjmcmfnmaaGreatDoor.foldT;rw[if_pos h.foldN]
theorem Jk{k:List UInt8}(h:jT k=true):k.length<=32:=(vE h).2.1
theorem xR.small{fs:List Fld}(h:xR fs):∀f∈fs,f.1.length<=100000/\f.2.length<=100000:=fun f hf=>by
 obtain⟨a,b⟩:=h.each f hf
 have:=Jk a
 omega
theorem jka(ls:List Ln):(ls.flatMap (fun x=>[32,32]++x.bytes)).length=2*ls.length+(ls.flatMap Ln.bytes).length:=by
 induction ls with
 | nil=>rfl
 | cons x r ih =>
 rw[jmt,jmt,jmb,jmb,ih,jmb,jme]
 simp only[jme,jmB]
 omega
theorem WY{ed:Ed}(h:xR ed.fields):edT ed=(zM ed.kind ed.id++[10])++Yp [32,32] (je (jU ed.fields)):=by
 rw[jhK h];unfold Yp;simp
theorem jkr{ed:Ed}(h:xR ed.fields)(hi:I64 ed.id):(edT ed).length<=600000:=by
 have h1:=ja8 h
 have h2:=h.len
 have h3:=qU (jU ed.fields)
 have h4:=Lib.itoa_length_le ed.id hi.1 hi.2
 have h5:(zM ed.kind ed.id).length<=40:=by
  unfold zM
  split
  ·rename_i hk
   have:(qr ed.kind).length<=7:=by rcases hk with e | e | e<;>rw[e]<;>decide
   rw[jme,jmb,jme];omega
  simp
 rw[jhK h,jmb,jme,jka,zg]
 omega
def jly(w w':World)(eds:List Ed)(e:Ending):Prop :=
 Below w.heap.size w w'/\(((vG eds).2=0/\e=.returned (.tuple #[.string (B (jp eds)),.nilIface]))\/((vG eds).2≠0/\∃u,e=.returned (.tuple #[.string ⟨#[]⟩,u])/\vB w.heap.size w' u (vG eds).1 (vG eds).2))
theorem Xt(eds:List Ed)(v:Value)(w:World)(h:EdV w v eds)(hl:eds.length<=1000000)(hf:Uy eds)(hi:∀ed∈eds,I64 ed.id)(ht:Tabs w):
  Calls prog 85 #[v] w fun e w'=>jly w w' eds e:=by
 have CK:=jl9 (Ye eds v w h hl hf ht.err)
 obtain⟨A,cap,rfl,hle,hc⟩:=h
 have PC:=jl9 hc
 have HT:=jl9 ht
 have HI:=jl9 hi
 clear hc hf ht hi
 go_enter func85,ntmps85
 go_wp2_with fail
 refine CK.out.mono ?_
 rintro e w1 ⟨u,rfl,b1,hz⟩
 by_cases h0:(vG eds).2=0
 ·obtain⟨⟨g1,g40⟩,GD⟩:=yr h0
  have GDH:=jl9 GD
  obtain rfl:u=.nilIface:=by
   obtain⟨_,⟨rfl,_⟩|⟨_,_,_,hx⟩⟩:=hz
   ·rw[h0];rfl
   exact absurd h0 hx
  have Z0:=jl9 h0
  have hz1:=b1.size
  have NB:=Bld.new w1 (w1.heap.size+1)
  have NBB:Below w.heap.size w (w1.alloc (.cells #[.pointer none,.slice none 0 0] 182)):=b1.alloc b1.size _
  clear hz GD b1 CK h0
  go_wp2_with fail
  go_loopw [17] (fun i wr=>∃k:Nat,k<=eds.length/\i=.int .i64 k/\Bld w1.heap.size (w1.heap.size+1) (jp (eds.take k)) wr/\(jp (eds.take k)).length<=600000*k/\Below w.heap.size w wr/\w1.heap.size<wr.heap.size) (fun i _=>eds.length-(intOf i).toNat)
  case atStart=>exact⟨0,jmo _,rfl,NB,jma _,NBB,by simp⟩
  case round =>
  obtain⟨k,hk,rfl,hbl,hbt,hb,hzr⟩:=hrel
  by_cases hlt:k<eds.length
  ·obtain⟨ed,hed⟩:∃ed,eds[k]?=some ed:=⟨_,jmd hlt⟩
   obtain⟨b,off,fv,rfl,hbb,c0,c1,c2,hfl⟩:=PC.out k ed hed
   obtain⟨fa,fc,rfl,_,_⟩:=_root_.id hfl.1
   replace c0:=(hb.cell (p:=⟨b,off+k*3,none⟩) hbb).trans c0
   replace c1:=(hb.cell (p:=⟨b,off+k*3+1,none⟩) hbb).trans c1
   replace c2:=(hb.cell (p:=⟨b,off+k*3+1+1,none⟩) hbb).trans c2
   have hge:=GDH.out ed (jmx hed)
   have hie:=HI.out ed (jmx hed)
   have GF:=Kg hge
   have TK:Hid (jp (eds.take (k+1))=jp (eds.take k)++((zM ed.kind ed.id++[10])++Yp [32,32] (je (jU ed.fields)))):=by
    show _=_
    rw[vJ hed,jaf,WY GF]
   have ELE:=jkr GF hie
   rw[WY GF]at ELE
   obtain⟨wa,hwa⟩:∃wa,wa=wr.alloc (.cells #[.int .i64 ed.kind,.int .i64 ed.id,.slice fa ed.fields.length fc] 63):=⟨_,rfl⟩
   have hsr:=hb.size
   have hba:Below wr.heap.size wr wa:=by rw[hwa];exact(jmc _ wr).alloc (jma _) _
   have hwz:wa.heap.size=wr.heap.size+1:=by rw[hwa];simp
   have cx:ja wa wr.heap.size 63 #[.int .i64 ed.kind,.int .i64 ed.id,.slice fa ed.fields.length fc]:=by rw[hwa];exact ja.new _ _ _
   have d0:=cx.cell 0
   have d1:=cx.cell 1
   have d2:=cx.cell 2
   have hB:=hb.trans (hba.mono hsr)
   have LNE:=jl9 (jeb ed (.slice fa ed.fields.length fc) hie wa (HT.out.below hB (jma _)))
   have blA:=hbl.kept hba (jma _)
   have BLA:=jl9 blA
   have HBA:=jl9 hB
   have CX:=jl9 cx
   have FLD:Hid (∀W,Below w.heap.size w W->Calls prog 120 #[.slice fa ed.fields.length fc] W fun e w'=>e=.returned (.tuple #[.string (B (jU ed.fields)),.nilIface])/\Below W.heap.size W w'):=fun W hW=>by
    have:=ja6 ed.fields (.slice fa ed.fields.length fc) W (hfl.1.below hW (jma _)) (by have:=GF.len;omega) GF.small
    rw[GF.foldT,GF.foldN]at this
    exact this
   have fle:=ja8 GF
   have fl40:=GF.len
   have FLE:(B (jU ed.fields)).size<=160000:=by rw[jq];omega
   clear hed hfl hbl blA hba hB cx hge hie GF hbb fle fl40
   have WRL:Hid (∀(l:List UInt8) (s:ByteArray) (W:World),Bld w1.heap.size (w1.heap.size+1) l W->wr.heap.size<W.heap.size->l.length+s.size<=140737488355328 ->
     Calls prog 118 #[.pointer (some ⟨w1.heap.size,0,none⟩),.string s] W fun e W'=>e=.returned (.tuple #[.int .i64 s.size,.nilIface])/\Bld w1.heap.size (w1.heap.size+1) (l++s.data.toList) W'/\qw w1.heap.size (w1.heap.size+1) W W'):=fun l s W h1 h2 h3=>ZN _ _ l s W h1 (by omega) (by omega) h3
   have LE1:(B (zM ed.kind ed.id)).size+1+(Yp [32,32] (je (jU ed.fields))).length<=600000:=by
    rw[jq];rw[jmb,jmb]at ELE;exact ELE
   have DL:=jl9 (ju (zM ed.kind ed.id))
   have DF:=jl9 (ju (jU ed.fields))
   have IND:Hid (∀W,Calls prog 121 #[.string (B (jU ed.fields)),.slice (some ⟨W.heap.size,0,none⟩) 1 1] (W.alloc (.cells #[.string ⟨#[32,32]⟩] 9)) fun e W'=>e=.returned (.string (B (Yp [32,32] (je (jU ed.fields)))))/\Below W.heap.size W W'):=fun W=>by
    refine(jcj _ ⟨#[32,32]⟩ (by omega) (by decide) W.heap.size _ (by simp) (by simp)).mono ?_
    rintro e W' ⟨rfl,b⟩
    refine⟨?_,((jmc _ W).alloc (jma _) _).trans (b.mono (by simp))⟩
    rw[show(⟨#[32,32]⟩:ByteArray).data.toList=[32,32] from rfl,ju];rfl
   have DI:=jl9 (ju (Yp [32,32] (je (jU ed.fields))))
   have LEI:(B (Yp [32,32] (je (jU ed.fields)))).size=(Yp [32,32] (je (jU ed.fields))).length:=jq _
   have LEL:(B (zM ed.kind ed.id)).size=(zM ed.kind ed.id).length:=jq _
   clear DF
   generalize hIND:B (Yp [32,32] (je (jU ed.fields)))=ind at *
   generalize hIL:Yp [32,32] (je (jU ed.fields))=indl at *
   generalize hLA:B (zM ed.kind ed.id)=la at *
   generalize hLL:zM ed.kind ed.id=lal at *
   generalize hFG:B (jU ed.fields)=fg at *
   generalize hBT:jp (eds.take k)=bt at *
   clear hIND hIL hLA hLL hFG d0 d1 d2
   have D2:Hid (∀W,ja W wr.heap.size 63 #[.int .i64 ed.kind,.int .i64 ed.id,.slice fa ed.fields.length fc]->W.cell? ⟨wr.heap.size,2,none⟩=some (.slice fa ed.fields.length fc)):=fun W h=>by rw[h.cell];rfl
   subst hwa
   go_wp2_with fail
   refine LNE.out.mono ?_
   rintro e w2 ⟨rfl,b2⟩
   have hs2:=b2.size
   rw[hwz]at hs2
   have bl2:=BLA.out.kept b2 (jma _)
   have HB2:=jl9 (HBA.out.trans (b2.mono HBA.out.size))
   have cx2:=jd CX.out b2 (by rw[hwz];omega)
   clear b2 LNE BLA
   go_wp2_with fail
   refine(WRL.out _ _ w2 bl2 (by omega) (by omega)).mono ?_
   rintro e w3 ⟨rfl,bl3,o3⟩
   have hs3:=o3.size
   have cx3:ja w3 wr.heap.size 63 _:=o3.other cx2 (by omega) (by decide)
   have HB3:=jl9 (HB2.out.trans (o3.below (by omega) (by omega) (by omega)))
   rw[DL.out]at bl3
   clear o3 cx2 bl2
   go_wp2_with fail
   refine(WRL.out _ ⟨#[10]⟩ w3 bl3 (by omega) (by rw[jmb];show _+1<=_;omega)).mono ?_
   rintro e w4 ⟨rfl,bl4,o4⟩
   have hs4:=o4.size
   have cx4:ja w4 wr.heap.size 63 _:=o4.other cx3 (by omega) (by decide)
   have HB4:=jl9 (HB3.out.trans (o4.below (by omega) (by omega) (by omega)))
   have BL4:=jl9 bl4
   have d2:=D2.out w4 cx4
   have FL4:=jl9 (FLD.out w4 HB4.out)
   clear o4 cx3 bl3 bl4 FLD cx4
   go_wp2_with fail
   refine FL4.out.mono ?_
   rintro e w5 ⟨rfl,b5⟩
   have hs5:=b5.size
   have bl5:=BL4.out.kept b5 (jma _)
   have HB5:=jl9 (HB4.out.trans (b5.mono HB4.out.size))
   have BL5:=jl9 bl5
   have IN5:=jl9 (IND.out w5)
   clear b5 bl5 FL4 BL4 IND
   go_wp2_with fail
   refine IN5.out.mono ?_
   rintro e w6 ⟨rfl,b6⟩
   have hs6:=b6.size
   have bl6:=BL5.out.kept b6 (jma _)
   have HB6:=jl9 (HB5.out.trans (b6.mono HB5.out.size))
   clear b6 IN5 BL5
   go_wp2_with fail
   refine(WRL.out _ _ w6 bl6 (by omega) (by rw[jmb,jmb];show _+1+_<=_;omega)).mono ?_
   rintro e w7 ⟨rfl,bl7,o7⟩
   have hs7:=o7.size
   have HB7:=jl9 (HB6.out.trans (o7.below (by omega) (by omega) (by omega)))
   rw[DI.out]at bl7
   have BL7:=jl9 bl7
   clear o7 bl6 bl7
   go_wp2_with fail
   go_roundw
   case rel =>
    have eT:jp (eds.take (k+1))=bt++lal++(⟨#[10]⟩:ByteArray).data.toList++indl:=by
     rw[TK.out,show(⟨#[10]⟩:ByteArray).data.toList=[10] from rfl];simp
    refine⟨k+1,hlt,by go_num,by rw[eT];exact BL7.out,?_,HB7.out,by omega⟩
    rw[eT,jmb,jmb,jmb]
    show _+_+1+_<=_
    omega
   case measure=>simp[intOf];omega
  obtain rfl:k=eds.length:=by omega
  rw[jmJ]at hbl
  have Z:=jl9 Z0.out
  clear PC HT HI GDH hbt
  go_wp2_with fail
  refine(Tryz.Builder_String_any_k w1.heap.size w1.heap.size _ wr (hbl.library (jma _) (by omega)) (by omega)).mono ?_
  rintro e w5 ⟨rfl,_,b5,_⟩
  have B5:=jl9 (hb.trans (b5.mono hz1))
  go_wp2_with fail
  go_ret2
  exact⟨B5.out,.inl ⟨Z.out,rfl⟩⟩
 have Z1:=jl9 hz
 have B1:=jl9 b1
 obtain⟨_,⟨rfl,hx⟩|⟨kk,⟨q,_,rfl,_⟩,_,_⟩⟩:=hz
 ·have hpos:0<(vG eds).2:=jnu h0
  have ZR:Hid (jly w w1 eds (.returned (.tuple #[.string ⟨#[]⟩,qi (vG eds).2]))):=⟨B1.out,.inr ⟨h0,_,rfl,Z1.out⟩⟩
  rw[jX _ hpos]at ZR ⊢
  clear CK Z1 hx b1 PC
  generalize ((vG eds).2:Int)=zz at *
  go_wp2_with fail
  go_ret2
  exact ZR.out
 have ZR:Hid (jly w w1 eds (.returned (.tuple #[.string ⟨#[]⟩,.iface 133 (.pointer (some ⟨q,0,none⟩))]))):=⟨B1.out,.inr ⟨h0,_,rfl,Z1.out⟩⟩
 clear CK Z1 b1 PC
 go_wp2_with fail
 go_ret2
 exact ZR.out
section
variable {o:Oper} {a:Act} {w:World} {K:Act->World->Prop} {Q:Exit->Act->World->Prop}
end
section
variable {o:Oper} {a:Act} {w:World} {K:Act->World->Prop} {Q:Exit->Act->World->Prop}
theorem Gn{v:Value}{w':World}(e:(execOp a.eval o).run prog w=.ok (.value v) w')(hK:K (a.put o.dst v) w'):Oper.wp prog o a w K Q:=by
 unfold Oper.wp
 rw[e];exact hK
theorem jd4{x:Operand}{k i:Int}{fa:Option Addr}{fn fc:Nat}(ho:o.op=Op.buildSlice 22 1 #[(0,x)])(hx:a.eval x=.agg #[.int .i64 k,.int .i64 i,.slice fa fn fc])
  (hK:K (a.put o.dst (.slice (some ⟨w.heap.size,0,none⟩) 1 1)) (w.alloc (.cells #[.int .i64 k,.int .i64 i,.slice fa fn fc] 63))):Oper.wp prog o a w K Q:=by
 refine Gn ?_ hK
 simp only[execOp,ho]
 rw[show(Array.map (fun(p:Nat×Operand)=>match p with | (i,x)=>(i,a.eval x)) #[((0:Nat),x)])=#[((0:Nat),Value.agg #[.int .i64 k,.int .i64 i,.slice fa fn fc])] from by rw[<- hx];simp]
 kernel_rfl
end
end
end Go.Proofs.YtpibhbjmcmfnmaaGreatDoor
