/- Texts put together:TO,NB,NC,RT,NR,ND,NE,NG,EA,NH,NF,NI,NJ,EB,IM,PL,PM,PV,AC,ED,EE,EF. -/
import Derived.LaidEql
import Derived.Stop.Asserts
import Derived.RowKitTokens
import Derived.Test.YtmdhainabeljpaaGreatDoorBxr14
set_option linter.unusedVariables false
set_option maxRecDepth 100000
set_option maxHeartbeats 16000000
namespace Go.Proofs.YtmdhainabeljpaaGreatDoor
abbrev jjY:=@List.drop_eq_nil_of_le
abbrev jj3:=@Go.Sem.run_bind
abbrev jkr:=@Go.World.cell?_alloc_lt
end Go.Proofs.YtmdhainabeljpaaGreatDoor
namespace Go.Proofs.YtmdhainabeljpaaGreatDoor
open Go.RowKit Go.Shelf
def Wm(w:World)(P:Nat->Prop)(v:Value)(n:Nat):Prop :=
 n=0/\(∃A c,v=.slice A 0 c)\/∃g cap cur,v=.slice (some ⟨g,0,none⟩) n cap/\n<=cap/\P g/\w.heap[g]?=some (.cells cur 71 (0,0))/\n*2<=cur.size
structure zn(P:Nat->Prop)(w w':World):Prop where
 os:w'.os=w.os
 tape:w'.tape=w.tape
 output:w'.output=w.output
 size:w.heap.size<=w'.heap.size
 same:∀(r:Nat) o,w.heap[r]?=some o->w'.heap[r]?=some o\/(P r/\∃cur cur',o=.cells cur 71 (0,0)/\w'.heap[r]?=some (.cells cur' 71 (0,0))/\cur'.size=cur.size)
theorem zn.refl(P:Nat->Prop)(w:World):zn P w w:=⟨rfl,rfl,rfl,jh6 _,fun _ _ h=>.inl h⟩
theorem zn.trans{P:Nat->Prop}{a b c:World}(h:zn P a b)(g:zn P b c):zn P a c:=by
 refine⟨g.os.trans h.os,g.tape.trans h.tape,g.output.trans h.output,jiv h.size g.size,fun r o ho => ?_⟩
 rcases h.same r o ho with h1|⟨h1,cur,cur',rfl,h2,h3⟩
 ·exact g.same r o h1
 rcases g.same r _ h2 with g1|⟨_,c1,c2,g1,g2,g3⟩
 ·exact .inr ⟨h1,cur,cur',rfl,g1,h3⟩
 injection g1 with g1
 subst g1
 exact .inr ⟨h1,cur,c2,rfl,g2,g3.trans h3⟩
theorem zn.set{P:Nat->Prop}{g:Nat}{w:World}{cur:Array Value}(h:w.heap[g]?=some (.cells cur 71 (0,0)))(hg:P g)(i:Nat)(u:Value):zn P w (w.setCell ⟨g,i,none⟩ u):=by
 refine⟨rfl,rfl,rfl,by simp[World.setCell],fun r o ho => ?_⟩
 by_cases e:r=g
 ·subst e
  rw[h]at ho
  cases ho
  exact .inr ⟨hg,cur,cur.setIfInBounds i u,rfl,jd.set (t:=71) h i u,by simp⟩
 exact .inl ((jiJ _ _ _ _ e).trans ho)
theorem zn.block{P:Nat->Prop}{w w':World}(h:zn P w w'){r:Nat}(hr:r<w.heap.size)(hP:¬P r):w'.heap[r]?=w.heap[r]?:=by
 rcases h.same r _ (jiQ hr) with e|⟨e,_⟩
 ·rw[e];exact(jiQ hr).symm
 exact absurd e hP
theorem zn.below{P:Nat->Prop}{lo:Nat}{w w':World}(h:zn P w w')(hP:∀r,P r->lo<=r)(hl:lo<=w.heap.size):Below lo w w' :=
 ⟨h.os,h.tape,h.output,h.size,fun r hr=>h.block (by omega) (fun q=>by have:=hP r q;omega)⟩
theorem Wm.spoils{P:Nat->Prop}{n:Nat}{w w':World}{v:Value}(h:Wm w P v n)(hs:zn P w w'):Wm w' P v n:=by
 rcases h with h|⟨g,cap,cur,e,h0,h1,h2,h3⟩
 ·exact .inl h
 rcases hs.same g _ h2 with k|⟨_,c1,c2,k1,k2,k3⟩
 ·exact .inr ⟨g,cap,cur,e,h0,h1,k,h3⟩
 injection k1 with k1
 subst k1
 exact .inr ⟨g,cap,c2,e,h0,h1,k2,by omega⟩
theorem Wm.below{P:Nat->Prop}{n N:Nat}{w w':World}{v:Value}(h:Wm w P v n)(hb:Below N w w')(hN:w.heap.size<=N):Wm w' P v n:=by
 rcases h with h|⟨g,cap,cur,e,h0,h1,h2,h3⟩
 ·exact .inl h
 have hg:g<w.heap.size:=(Array.getElem?_eq_some_iff.1 h2).1
 exact .inr ⟨g,cap,cur,e,h0,h1,(hb.block g (by omega)).trans h2,h3⟩
theorem zn.alloc{P:Nat->Prop}{w w':World}(h:zn P w w')(o:Obj):zn P w (w'.alloc o):=by
 have hb:=(jh8 w'.heap.size w').alloc (jh6 _) o
 refine⟨h.os,h.tape,h.output,jiv h.size hb.size,fun r o ho => ?_⟩
 have hr:r<w'.heap.size:=jih (Array.getElem?_eq_some_iff.1 ho).1 h.size
 rw[hb.block r hr]
 exact h.same r o ho
theorem zn.kept{P:Nat->Prop}{w w':World}{b:Nat}{t:TypeId}{cs:Array Value}(h:zn P w w')(hc:jd w b t cs)(ht:t≠71):jd w' b t cs:=by
 rcases h.same b _ hc with e|⟨_,c1,c2,e,_⟩
 ·exact e
 injection e with _ e _
 exact absurd e ht
theorem jal(n:Nat)(P:Nat->Prop)(v:Value)(w:World)(h:Wm w P v n)(hn:n<=1000000):
  Calls Tryz.prog 12 #[v] w fun e w'=>e=.returned (.tuple #[])/\zn P w w':=by
 have HM:=jh5 h
 rcases h with ⟨rfl,A,c,rfl⟩|⟨g,cap,cur,rfl,hle,_,_,_⟩
 ·go_enter Tryz.func12,Tryz.ntmps12
  go_wp2_with fail
  refine wp_loop_rounds 1 ?_
  rw[rounds_succ]
  go_wp2_with fail
  go_end0
  exact⟨rfl,zn.refl _ _⟩
 go_enter Tryz.func12,Tryz.ntmps12
 go_wp2_with fail
 go_loopw [5] (fun i wr=>∃k:Nat,k<=n/\i=.int .i64 k/\zn P w wr) (fun i _=>n-(intOf i).toNat)
 case atStart=>exact⟨0,jii _,rfl,zn.refl _ _⟩
 case round =>
 obtain⟨k,hk,rfl,hs⟩:=hrel
 by_cases hlt:k<n
 ·rcases HM.out.spoils hs with ⟨h0,_⟩|⟨g',cap',cur',e,h0,h1,h2,h3⟩
  ·omega
  cases e
  have hC:jd wr g 71 cur':=h2
  obtain⟨x0,hx0⟩:∃x,cur'[k*2]?=some x:=⟨_,jiQ (by omega)⟩
  obtain⟨x1,hx1⟩:∃x,cur'[k*2+1]?=some x:=⟨_,jiQ (by omega)⟩
  have c0:wr.cell? ⟨g,k*2,none⟩=some x0:=(hC.cell _).trans hx0
  have c1:wr.cell? ⟨g,k*2+1,none⟩=some x1:=(hC.cell _).trans hx1
  have f0:=hC.frozen (k*2)
  have f1:=hC.frozen (k*2+1)
  have HC:=jh5 hC
  have HS:=jh5 hs
  have H1:=jh5 h1
  clear HM hs h2 hC hx0 hx1 h1
  go_wp2_with fail
  go_roundw
  case rel =>
   refine⟨k+1,hlt,by go_num,HS.out.trans ((zn.set HC.out H1.out (k*2) _).trans (zn.set (HC.out.set (k*2) _) H1.out (k*2+1) _))⟩
  case measure=>simp[intOf];omega
 obtain rfl:k=n:=by omega
 clear HM
 go_wp2_with fail
 go_end0
 exact⟨rfl,hs⟩
end Go.Proofs.YtmdhainabeljpaaGreatDoor
namespace Go.Proofs.YtmdhainabeljpaaGreatDoor
open Go.RowKit Go.Shelf
attribute [local go_sem] jil
end Go.Proofs.YtmdhainabeljpaaGreatDoor
namespace Go.Proofs.YtmdhainabeljpaaGreatDoor
open Go.RowKit
structure Tab(a0:Act)(n:Nat)(dst:Nat->Option Nat)(val:Nat->Value)(s:Nat)(W:Bool->World)(l:Array Bool)(a:Act)(w:World):Prop where
 dfr:a.defers=a0.defers
 sz:a.tmps.size=a0.tmps.size
 frm:∀j,(∀k,k<n->dst k≠some j)->a.tmps[j]?=a0.tmps[j]?
 val:∀i d,l.getD i false=true->dst i=some d->a.tmps[d]?=some (val i)
 wd:w=W (l.getD s false)
theorem Qp(l:Array Bool)(i:Nat)(hi:i<l.size)(j:Nat):(l.setIfInBounds i true).getD j false=if j=i then true else l.getD j false:=by
 rw[jit,jit,jiM]
 by_cases h:i=j
 ·subst h;simp[hi]
 rw[if_neg h,if_neg (jjB h)]
theorem jaD{l:Array Bool}{i:Nat}(h:l.getD i true=false):i<l.size:=by
 rcases jir i l.size with q|q
 ·exact q
 simp[Array.getD,Nat.not_lt.2 q]at h
theorem jaf{ops:Array Oper}{l:Array Bool}(hs:l.size=ops.size)(hlow:∀i o e,ops[i]?=some o->e∈o.after->Region.binds .any e=true->e.on<i)(hr:Region.ready .any ops l=[]):∀i,i<ops.size->l.getD i false=true:=by
 intro i
 induction i using Nat.strongRecOn with
 | _ i ih =>
 intro hi
 cases hl:l.getD i false with
 | true=>rfl
 | false =>
 exfalso
 have ho:ops[i]?=some ops[i]:=jiQ hi
 have:i∈Region.ready .any ops l:=by
  unfold Region.ready
  rw[List.mem_filter]
  refine⟨List.mem_range.2 hi,?_⟩
  have hl2:l.getD i true=false:=by
   have hil:i<l.size:=by omega
   simp[Array.getD,hil]at hl ⊢;exact hl
  simp only[ho,Option.map_some,Option.getD_some,jiL,jkh]
  refine⟨hl2,Array.all_eq_true_iff_forall_mem.2 fun e he => ?_⟩
  cases hb:Region.binds .any e with
  | false=>simp
  | true =>
  have h1:=hlow i _ e ho he hb
  simp[ih e.on h1 (by omega)]
 rw[hr]at this
 cases this
end Go.Proofs.YtmdhainabeljpaaGreatDoor
namespace Go.Proofs.YtmdhainabeljpaaGreatDoor
open Go.RowKit Go.Shelf
attribute [local go_sem] jil
section
variable {o:Oper} {a:Act} {w:World} {K:Act->World->Prop} {Q:Exit->Act->World->Prop}
end
end Go.Proofs.YtmdhainabeljpaaGreatDoor
namespace Go.Proofs.YtmdhainabeljpaaGreatDoor
open Go.RowKit Go.Shelf Go.Maps Go.ChangeShapes Go.Joins Go.WideShapes
attribute [local go_sem] jil
structure Ed where
 kind:Int
 id:Int
 fields:List Fld
end Go.Proofs.YtmdhainabeljpaaGreatDoor
namespace Go.Proofs.YtmdhainabeljpaaGreatDoor
def nums(es:List En):List Int:=(es.map Prod.snd).filter fun n=>decide (0<n)
def zw(ed:Ed):Nat:=if ed.kind=1\/ed.kind=3 then Ju ed.fields else if ed.kind=2/\ed.fields.length=0 then 0 else 2
theorem jd9(ed:Ed):zw ed<=11:=by
 unfold zw
 split
 ·exact jc1 _
 split<;>decide
def ye:Nat->List Ed->Int×Nat
 | _,[]=>(-9,0)
 | k,ed::r=>if zw ed=0 then ye (k+1) r else ((k:Nat),zw ed)
def yx(eds:List Ed):Int×Nat:=if eds.length<1\/40<eds.length then (-9,1) else ye 0 eds
theorem XH:∀(eds:List Ed) (q k:Nat) (ed:Ed),(∀x∈eds.take k,zw x=0)->eds[k]?=some ed->zw ed≠0->ye q eds=(((q+k:Nat):Int),zw ed)
 | [],q,k,ed,_,h,_=>by simp at h
 | a::r,q,0,ed,_,h,h0=>by
  simp at h;subst h
  unfold ye
  rw[if_neg h0];rfl
 | a::r,q,k+1,ed,hg,h,h0=>by
  have ih:=XH r (q+1) k ed (fun x hx=>hg x (by rw[jj9];exact jif _ hx)) (by simpa using h) h0
  unfold ye
  rw[if_pos (hg a (by rw[jj9];exact jig)),ih,show q+1+k=q+(k+1) by omega]
theorem Vn:∀(eds:List Ed) (q:Nat),(∀x∈eds,zw x=0)->ye q eds=(-9,0)
 | [],_,_=>rfl
 | a::r,q,h=>by
  unfold ye
  rw[if_pos (h a jig)]
  exact Vn r (q+1) (fun x hx=>h x (jif _ hx))
theorem YK:∀(eds:List Ed) (q:Nat),(ye q eds).2=0->∀x∈eds,zw x=0
 | [],_,_,x,hx=>by cases hx
 | a::r,q,h,x,hx=>by
  unfold ye at h
  split at h
  ·rename_i h0
   rcases List.mem_cons.1 hx with rfl|hx
   ·exact h0
   exact YK r (q+1) h x hx
  rename_i h0;exact absurd h h0
theorem xy{eds:List Ed}(h:(yx eds).2=0):(1<=eds.length/\eds.length<=40)/\∀x∈eds,zw x=0:=by
 unfold yx at h
 split at h
 ·cases h
 exact⟨by omega,YK eds 0 h⟩
theorem Zu{ed:Ed}(h:zw ed=0):ed.kind=1\/ed.kind=2\/ed.kind=3:=by
 unfold zw at h
 split at h
 ·rename_i q;omega
 split at h
 ·rename_i q;exact .inr (.inl q.1)
 cases h
theorem take_snoc{eds:List Ed}{k:Nat}{ed:Ed}(h:eds[k]?=some ed):eds.take (k+1)=eds.take k++[ed]:=by rw[jiK,h];rfl
def jdn(its:List It):Nat:=(its.filter fun it=>decide (it.kind=3)).length
theorem Wc(its:List It)(it:It):jdn (its++[it])=jdn its+if it.kind=3 then 1 else 0:=by
 unfold jdn
 rw[List.filter_append,jh7]
 congr 1
 by_cases h:it.kind=3
 ·rw[if_pos h,List.filter_cons,if_pos (by simpa using h)];rfl
 rw[if_neg h,List.filter_cons,if_neg (by simpa using h)];rfl
def ZE(p:PS):Prop:=jdn p.items=p.stanzas
theorem ZE.endField{p:PS}(h:ZE p):ZE (ja p):=by
 unfold ja
 split
 ·exact h
 exact h
theorem ZE.endItem{t:List UInt8}{p:PS}(h:ZE p)(kind e:Nat)(hk:kind≠3):ZE (jX t p kind e):=by
 show jdn (p.items++[_])=p.stanzas
 rw[Wc,if_neg (by show((kind:Nat):Int)≠3;omega),h];rfl
theorem ZE.endBlock{t:List UInt8}{p:PS}(h:ZE p)(e:Nat):ZE (jm t p e):=by
 unfold jm
 split
 ·exact h
 split
 ·exact h.endItem 2 e (by decide)
 show jdn (p.items++[_])=p.stanzas+1
 rw[Wc,if_pos (by rfl),h]
theorem ZE.went{p:PS}(h:ZE p)(x:Ln):ZE (zb p x):=by
 unfold zb
 split<;>exact h
theorem ZE.then_{p:PS}(h:ZE p)(x:Ln):ZE (zK p x):=by
 unfold zK
 split
 ·exact(h.went x).endField
 exact h.went x
theorem ZE.put{t:List UInt8}{p:PS}(h:ZE p)(x:Ln):ZE (yT t p x):=by
 unfold yT
 split
 ·exact h
 split
 ·exact(h.endBlock x.at_).endItem 1 _ (by decide)
 exact h
theorem ZE.take{t:List UInt8}{p q:PS}{x:Ln}(h:ZE p)(he:jL t p x=.ok q):ZE q:=by
 obtain⟨_,_,rfl⟩:=xE he
 exact(h.then_ x).put x
theorem ZE.run(t:List UInt8):∀(xs:List Ln) (p q:PS),ZE p->qF t p xs=.ok q->ZE q
 | [],p,q,h,he=>by cases he;exact h
 | x::xs,p,q,h,he=>by
  unfold qF at he
  cases ht:jL t p x with
  | error e=>rw[ht]at he;cases he
  | ok p1 =>
  rw[ht]at he
  exact ZE.run t xs p1 q (h.take ht) he
theorem Ks{t:List UInt8}{its:List It}(h:za t=.ok its):jdn its<=400:=by
 obtain⟨p,hr,h0,rfl,g,_⟩:=Zp h
 have hc:ZE (jm t (ja p) t.length):=((ZE.run t _ _ _ (by rfl) hr).endField).endBlock _
 rw[show jdn _=_ from hc]
 exact g.st
end Go.Proofs.YtmdhainabeljpaaGreatDoor
namespace Go.Proofs.YtmdhainabeljpaaGreatDoor
open Go.RowKit Go.Shelf
attribute [local go_sem] jil
end Go.Proofs.YtmdhainabeljpaaGreatDoor
namespace Go.Proofs.YtmdhainabeljpaaGreatDoor
end Go.Proofs.YtmdhainabeljpaaGreatDoor
namespace Go.Proofs.YtmdhainabeljpaaGreatDoor
open Go.RowKit Go.Shelf
end Go.Proofs.YtmdhainabeljpaaGreatDoor
namespace Go.Proofs.YtmdhainabeljpaaGreatDoor
theorem Xy:∀(fs:List Fld),(∀f∈fs,jR f.1 f.2=0)->foldN fs=0
 | [],_=>rfl
 | f::r,h=>by
  unfold foldN
  rw[if_pos (h f jig)]
  exact Xy r (fun x hx=>h x (jif _ hx))
structure GkP(p:PS):Prop where
 fl:∀f∈p.fields,jR f.1 f.2=0
 each:∀it∈p.items,(∀f∈it.fields,jR f.1 f.2=0)/\(it.kind=3->it.fields.length≠0)
theorem GkP.endField{p:PS}(h:GkP p)(h0:jh p=0):GkP (ja p):=by
 unfold ja
 split
 ·exact h
 rename_i hs
 unfold jh at h0
 rw[if_neg hs]at h0
 have hu:jo p.said=0:=by
  by_cases q:jo p.said=0
  ·exact q
  rw[if_pos q]at h0;exact h0
 refine⟨fun f hf => ?_,h.each⟩
 rcases List.mem_append.1 hf with hf|hf
 ·exact h.fl f hf
 rw[List.mem_singleton.1 hf];exact(Qu hu).1
theorem GkP.endItem{t:List UInt8}{p:PS}(h:GkP p)(kind e:Nat)(hk:kind=3->p.fields.length≠0):GkP (jX t p kind e) :=
 ⟨fun f hf=>(by cases hf),fun it hi=>by
  rcases List.mem_append.1 hi with hi|hi
  ·exact h.each it hi
  rw[List.mem_singleton.1 hi]
  exact⟨h.fl,fun q=>hk (by have q':((kind:Nat):Int)=3:=q;omega)⟩⟩
theorem GkP.endBlock{t:List UInt8}{p:PS}(h:GkP p)(e:Nat):GkP (jm t p e):=by
 unfold jm
 split
 ·exact h
 split
 ·exact h.endItem 2 e (fun q=>absurd q (by decide))
 rename_i hl
 exact⟨(h.endItem (t:=t) 3 e (fun _=>hl)).fl,(h.endItem (t:=t) 3 e (fun _=>hl)).each⟩
theorem GkP.went{p:PS}(h:GkP p)(x:Ln):GkP (zb p x):=by
 unfold zb
 split
 ·exact⟨h.fl,h.each⟩
 exact h
theorem GkP.take{t:List UInt8}{p q:PS}{x:Ln}(h:GkP p)(he:jL t p x=.ok q):GkP q:=by
 obtain⟨h1,_,rfl⟩:=xE he
 have h2:GkP (zK p x):=by
  unfold zK
  split
  ·rename_i q;exact(h.went x).endField (h1 q)
  exact h.went x
 unfold yT
 split
 ·exact⟨h2.fl,h2.each⟩
 split
 ·exact⟨((h2.endBlock x.at_).endItem 1 _ (fun q=>absurd q (by decide))).fl,((h2.endBlock x.at_).endItem 1 _ (fun q=>absurd q (by decide))).each⟩
 exact⟨h2.fl,h2.each⟩
theorem GkP.run(t:List UInt8):∀(xs:List Ln) (p q:PS),GkP p->qF t p xs=.ok q->GkP q
 | [],p,q,h,he=>by cases he;exact h
 | x::xs,p,q,h,he=>by
  unfold qF at he
  cases ht:jL t p x with
  | error e=>rw[ht]at he;cases he
  | ok p1 =>
  rw[ht]at he
  exact GkP.run t xs p1 q (h.take ht) he
theorem jdI{t:List UInt8}{its:List It}(h:za t=.ok its):∀it∈its,it.kind=3->Ju it.fields=0:=by
 obtain⟨p,hr,h0,rfl,g,_⟩:=Zp h
 have hs:GkP (jm t (ja p) t.length):=((GkP.run t _ _ _ ⟨(fun f h=>by cases h),(fun it h=>by cases h)⟩ hr).endField h0).endBlock _
 intro it hi h3
 have h40:it.fields.length<=40:=g.each it hi
 obtain⟨h1,h2⟩:=hs.each it hi
 unfold Ju
 rw[if_neg (h2 h3),if_neg (by omega)]
 exact Xy _ h1
def wf:List Ln->Prop
 | []=>True
 | x::xs=>(10:UInt8)∉x.text/\(x.ended=true\/(xs=[]/\x.text≠[]))/\wf xs
def YU(x:Ln):List UInt8×Bool:=(x.text,x.ended)
theorem yH(t r:List UInt8)(h:(10:UInt8)∉t):zY (t++10::r)=t:=by
 unfold zY
 induction t with
 | nil=>simp
 | cons c t ih =>
 have hc:c≠10:=fun e=>h (by rw[e];exact jig)
 rw[jiq,jiR,if_pos (by simp[hc]),ih (fun hm=>h (jif _ hm))]
theorem Xs(t:List UInt8)(h:(10:UInt8)∉t):zY t=t:=by
 unfold zY
 induction t with
 | nil=>rfl
 | cons c t ih =>
 have hc:c≠10:=fun e=>h (by rw[e];exact jig)
 rw[jiR,if_pos (by simp[hc]),ih (fun hm=>h (jif _ hm))]
theorem Gt(t:List UInt8)(h:(10:UInt8)∉t):nl t=false:=by
 unfold nl
 rw[Bool.eq_false_iff]
 intro hc
 exact h (by simpa using hc)
theorem Gs(t r:List UInt8):nl (t++10::r)=true:=by unfold nl;simp
theorem Yw:∀(xs:List Ln) (no at_:Nat),wf xs->(jS no at_ (xs.flatMap Ln.bytes)).map YU=xs.map YU
 | [],no,at_,_=>by simp[jq]
 | x::xs,no,at_,⟨h1,h2,h3⟩=>by
  rcases h2 with he|⟨rfl,hne⟩
  ·have eb:(x::xs).flatMap Ln.bytes=x.text++10::xs.flatMap Ln.bytes:=by simp[Ln.bytes,he]
   rw[eb,js _ _ _ (by simp)]
   rw[yH _ _ h1,Gs]
   have hu:qy (x.text++10::xs.flatMap Ln.bytes)=x.text.length+1:=by
    unfold qy;rw[yH _ _ h1,Gs];simp
   have hd:(x.text++10::xs.flatMap Ln.bytes).drop (x.text.length+1)=xs.flatMap Ln.bytes:=by
    rw[show x.text++10::xs.flatMap Ln.bytes=(x.text++[10])++xs.flatMap Ln.bytes by simp]
    exact jjs (by simp)
   rw[hu,hd,jiP,jiP,Yw xs _ _ h3]
   simp[YU,he]
  have he:x.ended=false\/x.ended=true:=by cases x.ended<;>simp
  rcases he with he|he
  ·have eb:[x].flatMap Ln.bytes=x.text:=by simp[Ln.bytes,he]
   rw[eb,js _ _ _ hne,Xs _ h1,Gt _ h1]
   have hu:qy x.text=x.text.length:=by unfold qy;rw[Xs _ h1,Gt _ h1];simp
   rw[hu,ji6,jq]
   simp[YU,he]
  have eb:[x].flatMap Ln.bytes=x.text++10::[]:=by simp[Ln.bytes,he]
  rw[eb,js _ _ _ (by simp),yH _ _ h1,Gs]
  have hu:qy (x.text++10::[])=x.text.length+1:=by unfold qy;rw[yH _ _ h1,Gs];simp
  rw[hu]
  have hd:(x.text++10::[]).drop (x.text.length+1)=[]:=by rw[jjY];simp
  rw[hd,jq]
  simp[YU,he]
theorem VU:∀(n no at_:Nat) (l:List UInt8),l.length<=n->wf (jS no at_ l)
 | 0,_,_,l,h=>by
  have:l=[]:=List.length_eq_zero_iff.1 (by omega)
  subst this;rw[jq];trivial
 | n+1,no,at_,l,h=>by
  by_cases hl:l=[]
  ·subst hl;rw[jq];trivial
  have hp:=qu l hl
  have hc:=vo l.length no at_ l (jh6 _)
  rw[js _ _ _ hl]at hc ⊢
  refine⟨hc _ jig,?_,VU n _ _ _ (by simp only[jik];omega)⟩
  cases hn:nl l with
  | true=>exact .inl rfl
  | false =>
  have hh:zY l=l:=Xs l (fun hm=>by unfold nl at hn;simp at hn;exact hn hm)
  have hu:qy l=l.length:=by unfold qy;rw[hh,hn];simp
  refine .inr ⟨?_,?_⟩
  ·rw[hu,ji6,jq]
  show zY l≠[]
  rw[hh];exact hl
theorem VW(l:List UInt8):wf (jf l):=VU _ _ _ _ (jh6 _)
def Uw(j:List UInt8)(x:Ln):Ln:={x with text:=j++x.text}
theorem Uz(j:List UInt8)(hj:(10:UInt8)∉j):∀xs,wf xs->wf (xs.map (Uw j))
 | [],_=>trivial
 | x::xs,⟨h1,h2,h3⟩=>by
  refine⟨fun hm => ?_,?_,Uz j hj xs h3⟩
  ·rcases List.mem_append.1 hm with h|h
   ·exact hj h
   exact h1 h
  rcases h2 with h|⟨rfl,h⟩
  ·exact .inl h
  refine .inr ⟨rfl,fun e=>h ?_⟩
  exact(List.append_eq_nil_iff.1 e).2
def dd(p:List UInt8)(ys:List (List UInt8×Bool)):List UInt8×Bool :=
 if ys.all (fun y=>p.isPrefixOf y.1) then (ys.flatMap (fun y=>y.1.drop p.length++if y.2 then [10] else []),true) else ([],false)
theorem jet(j:List UInt8)(hj:(10:UInt8)∉j)(l:List UInt8):
  dd j ((jf ((jf l).flatMap fun x=>j++x.bytes)).map YU)=(l,true):=by
 have e:(jf l).flatMap (fun x=>j++x.bytes)=((jf l).map (Uw j)).flatMap Ln.bytes:=by
  rw[List.flatMap_map]
  congr 1
  funext x
  simp only[Ln.bytes,Uw,jip]
  rfl
 rw[e]
 rw[show jf (((jf l).map (Uw j)).flatMap Ln.bytes)=jS 0 0 (((jf l).map (Uw j)).flatMap Ln.bytes) from rfl,Yw _ 0 0 (Uz j hj _ (VW l))]
 unfold dd
 rw[if_pos]
 ·congr 1
  conv=>rhs;rw[<- jB l]
  rw[jjO,List.flatMap_map]
  congr 1
  funext x
  simp[YU,Uw,Ln.bytes]
  rfl
 rw[jj6]
 intro y hy
 obtain⟨x,hx,rfl⟩:=List.mem_map.1 hy
 obtain⟨x,hx,rfl⟩:=List.mem_map.1 hx
 simp[YU,Uw]
end Go.Proofs.YtmdhainabeljpaaGreatDoor
namespace Go.Proofs.YtmdhainabeljpaaGreatDoor
open Go.RowKit Go.Shelf
set_option maxRecDepth 1000000
end Go.Proofs.YtmdhainabeljpaaGreatDoor
namespace Go.Proofs.YtmdhainabeljpaaGreatDoor
open Go.RowKit Go.Shelf Go.ChangeShapes Go.WideShapes
attribute [local go_sem] qL
theorem Zw:∀(fs:List Fld),foldN fs=0->∀f∈fs,ju f.1=true/\f.2.length<=1000
 | [],_,f,hf=>by cases hf
 | g::r,h,f,hf=>by
  unfold foldN at h
  split at h
  ·rename_i h0
   rcases List.mem_cons.1 hf with rfl|hf
   ·exact Vo h0
   exact Zw r h f hf
  rename_i h0;exact absurd h h0
end Go.Proofs.YtmdhainabeljpaaGreatDoor
namespace Go.Proofs.YtmdhainabeljpaaGreatDoor
def zZ(k:Int):List UInt8:=if k=1 then [114,101,112,108,97,99,101] else if k=2 then [100,101,108,101,116,101] else if k=3 then [105,110,115,101,114,116] else []
def jV(k id:Int):List UInt8:=if k=1\/k=2\/k=3 then 32::(zZ k++32::Lib.itoa id) else []
def yG(l:List UInt8):List UInt8:=32::32::l
def jfb(ed:Ed):List (List UInt8):=jV ed.kind ed.id::(jy ed.fields).map yG
def edT(ed:Ed):List UInt8:=jr (jfb ed)
def zp(eds:List Ed):List (List UInt8):=eds.flatMap jfb
def jC(eds:List Ed):List UInt8:=jr (zp eds)
theorem Uy{k:Int}{c:UInt8}(h:c.toNat<97):c∉zZ k:=by
 unfold zZ
 have key:∀l:List UInt8,(∀x∈l,97<=x.toNat)->c∉l:=fun l hl hc=>by have:=hl c hc;omega
 split
 ·exact key _ (by decide)
 split
 ·exact key _ (by decide)
 split
 ·exact key _ (by decide)
 simp
theorem QW(k id:Int):(10:UInt8)∉jV k id:=by
 unfold jV
 split
 ·intro h
  rcases List.mem_cons.1 h with h|h
  ·exact absurd h (by decide)
  rcases List.mem_append.1 h with h|h
  ·exact Uy (by decide) h
  rcases List.mem_cons.1 h with h|h
  ·exact absurd h (by decide)
  exact jfW (by decide) (.inl (by decide)) h
 simp
theorem jaP{l:List UInt8}(h:(10:UInt8)∉l):(10:UInt8)∉yG l:=by
 unfold yG
 intro hm
 rcases List.mem_cons.1 hm with hm|hm
 ·exact absurd hm (by decide)
 rcases List.mem_cons.1 hm with hm|hm
 ·exact absurd hm (by decide)
 exact h hm
structure xQ(fs:List Fld):Prop where
 each:∀f∈fs,ju f.1=true/\f.2.length<=1000
 len:fs.length<=40
theorem Jd{ed:Ed}(h:zw ed=0):xQ ed.fields:=by
 unfold zw at h
 split at h
 ·obtain⟨_,h2,h3⟩:=Wd h
  exact⟨Zw _ h3,h2⟩
 split at h
 ·rename_i q
  rw[List.length_eq_zero_iff.1 q.2]
  exact⟨fun f hf=>(by cases hf),jii _⟩
 cases h
theorem xQ.clean{fs:List Fld}(h:xQ fs):∀l∈jy fs,(10:UInt8)∉l:=by
 intro l hl
 unfold jy at hl
 obtain⟨f,hf1,hf2⟩:=List.mem_flatMap.1 hl
 exact ZQ _ (h.each f hf1).1 l hf2
theorem ja4{ed:Ed}(h:xQ ed.fields):∀l∈jfb ed,(10:UInt8)∉l:=by
 intro l hl
 rcases List.mem_cons.1 hl with rfl|hl
 ·exact QW _ _
 obtain⟨x,hx,rfl⟩:=List.mem_map.1 hl
 exact jaP (h.clean x hx)
theorem JY{eds:List Ed}(h:∀ed∈eds,zw ed=0):∀l∈zp eds,(10:UInt8)∉l:=by
 intro l hl
 obtain⟨ed,h1,h2⟩:=List.mem_flatMap.1 hl
 exact ja4 (Jd (h ed h1)) l h2
theorem yO(ed:Ed)(r:List Ed):jC (ed::r)=edT ed++jC r:=by
 unfold jC zp edT;rw[jio,yX]
theorem YN:jC []=[]:=rfl
theorem XK(a b:List Ed):jC (a++b)=jC a++jC b:=by
 unfold jC zp;rw[jiG,yX]
theorem Vt(a:List Ed)(ed:Ed):jC (a++[ed])=jC a++edT ed:=by
 rw[XK,yO,YN,jix]
theorem GA(ls:List (List UInt8))(h:∀l∈ls,(10:UInt8)∉l):(jf (jr ls)).flatMap (fun x=>[32,32]++x.bytes)=jr (ls.map yG):=by
 show(jS 0 0 (jr ls)).flatMap _=_
 rw[yE ls 0 0 h]
 suffices ∀(ls:List (List UInt8)) (no c:Nat),(num no c ls).flatMap (fun x=>[32,32]++x.bytes)=jr (ls.map yG) from this ls 0 0
 intro ls
 induction ls with
 | nil=>intro no c;rfl
 | cons l r ih =>
 intro no c
 show([32,32]++(⟨no,c,l,true⟩:Ln).bytes)++(num (no+1) (c+l.length+1) r).flatMap _=_
 rw[ih]
 unfold jr yG Ln.bytes
 simp
theorem jaX(fs:List Fld):zo fs=jr (jy fs):=by
 unfold zo jr jy;rw[List.flatMap_assoc]
theorem jfa{ed:Ed}(h:xQ ed.fields):edT ed=jV ed.kind ed.id++10::(jf (zo ed.fields)).flatMap (fun x=>[32,32]++x.bytes):=by
 rw[jaX,GA _ h.clean]
 show jr (_::_)=_
 unfold jr;simp
def xV(l:List UInt8):Int:=if l=zZ 1 then 1 else if l=zZ 2 then 2 else if l=zZ 3 then 3 else 0
theorem WW{k:Int}(h:k=1\/k=2\/k=3):xV (zZ k)=k:=by
 rcases h with rfl|rfl|rfl<;>decide
def qw(t:List UInt8):List Fld:=match za (dd [32,32] ((jf t).map YU)).1 with | .error _=>[] | .ok its=>(Qj its).flatten
def yV(t:List UInt8):List UInt8:=t.takeWhile (· != 10)
def YZ(t:List UInt8):List UInt8:=t.drop ((yV t).length+1)
def QR(t:List UInt8):List UInt8:=(Lib.trimPrefix (yV t) [32]).takeWhile (· != 32)
def jem(t:List UInt8):List UInt8:=(Lib.trimPrefix (yV t) [32]).drop ((QR t).length+1)
def qO(t:List UInt8):Ed:=⟨xV (QR t),zX (jem t),qw (YZ t)⟩
theorem jgC(c:UInt8)(a b:List UInt8)(h:c∉a):(a++c::b).takeWhile (· != c)=a:=by
 induction a with
 | nil=>simp
 | cons x r ih =>
 have hx:(x != c)=true:=by
  have:c≠x:=fun e=>h (e▸jig)
  simp;exact fun e=>this e.symm
 rw[jiq,jiR,if_pos hx,ih (fun hm=>h (jif _ hm))]
theorem jhd(c:UInt8)(a b:List UInt8):(a++c::b).drop (a.length+1)=b:=by
 rw[show a++c::b=(a++[c])++b by simp]
 exact jjs (by simp)
theorem Wr{fs:List Fld}(h:xQ fs):qw (jr ((jy fs).map yG))=fs:=by
 unfold qw
 have e:=jet [32,32] (by decide) (jr (jy fs))
 rw[GA _ h.clean]at e
 rw[e]
 show(match za (jr (jy fs)) with | .error _=>[] | .ok its=>(Qj its).flatten)=fs
 by_cases h0:fs=[]
 ·subst h0;rfl
 have p:=Xg [⟨3,jr (jy fs),fs⟩] (by show 1<=400;decide) (fun it hit=>by rw[List.mem_singleton.1 hit];exact ja8 fs h.each h0 h.len)
 have e1:(yw [(⟨3,jr (jy fs),fs⟩:It)])=[⟨3,jr (jy fs),fs⟩]:=rfl
 rw[e1]at p
 have e2:([(⟨3,jr (jy fs),fs⟩:It)].flatMap It.raw)=jr (jy fs):=by simp
 rw[e2]at p
 rw[p]
 show(Qj [(⟨3,jr (jy fs),fs⟩:It)]).flatten=fs
 simp[Qj]
theorem jbO{ed:Ed}(h:xQ ed.fields)(hk:ed.kind=1\/ed.kind=2\/ed.kind=3)(hi:I64 ed.id):qO (edT ed)=ed:=by
 have e:edT ed=jV ed.kind ed.id++10::jr ((jy ed.fields).map yG):=by
  show jr (_::_)=_
  unfold jr;simp
 have e1:yV (edT ed)=jV ed.kind ed.id:=by rw[e];exact jgC 10 _ _ (QW _ _)
 have e2:YZ (edT ed)=jr ((jy ed.fields).map yG):=by unfold YZ;rw[e1,e];exact jhd 10 _ _
 have e3:jV ed.kind ed.id=32::(zZ ed.kind++32::Lib.itoa ed.id):=by unfold jV;rw[if_pos hk]
 have e4:Lib.trimPrefix (yV (edT ed)) [32]=zZ ed.kind++32::Lib.itoa ed.id:=by
  rw[e1,e3];simp[Lib.trimPrefix,Lib.hasPrefix]
 have e5:QR (edT ed)=zZ ed.kind:=by unfold QR;rw[e4];exact jgC 32 _ _ (Uy (by decide))
 have e6:jem (edT ed)=Lib.itoa ed.id:=by unfold jem;rw[e4,e5];exact jhd 32 _ _
 unfold qO
 rw[e5,e6,e2,WW hk,qW hi,Wr h]
def zM(t:List UInt8):Nat->List Ln->List (List UInt8)
 | b,[]=>[t.drop b]
 | b,x::r=>if b<x.at_/\Lib.hasPrefix x.text [32,32]=false then (t.drop b).take (x.at_-b)::zM t x.at_ r else zM t b r
def yA(t:List UInt8):List Ed:=(zM t 0 (jf t)).map qO
theorem Zn(t:List UInt8)(b:Nat):∀(ls:List (List UInt8)) (no c:Nat) (ys:List Ln),zM t b (num no c (ls.map yG)++ys)=zM t b ys
 | [],_,_,_=>rfl
 | l::r,no,c,ys=>by
  show zM t b (⟨no,c,yG l,true⟩::(num (no+1) (c+(yG l).length+1) (r.map yG)++ys))=_
  rw[zM,if_neg (by intro h;exact absurd h.2 (by simp[Lib.hasPrefix,yG]))]
  exact Zn t b r _ _ ys
theorem KE{k id:Int}(hk:k=1\/k=2\/k=3):Lib.hasPrefix (jV k id) [32,32]=false:=by
 unfold jV
 rw[if_pos hk]
 rcases hk with rfl|rfl|rfl<;>rfl
theorem Yh(t:List UInt8):∀(r:List Ed) (pre cur:List UInt8) (no:Nat),t=pre++(cur++jC r)->cur≠[]->(∀ed∈r,ed.kind=1\/ed.kind=2\/ed.kind=3) ->
  zM t pre.length (num no (pre.length+cur.length) (zp r))=cur::r.map edT
 | [],pre,cur,no,h,hc,_=>by
  show [t.drop pre.length]=[cur]
  rw[h,jjs rfl,YN,jix]
 | e::r,pre,cur,no,h,hc,hk=>by
  have hpos:0<cur.length:=List.length_pos_iff.2 hc
  have e1:zp (e::r)=jV e.kind e.id::((jy e.fields).map yG++zp r):=by
   unfold zp;rw[jio];rfl
  rw[e1]
  show zM t pre.length (⟨no,pre.length+cur.length,jV e.kind e.id,true⟩::num (no+1) (pre.length+cur.length+(jV e.kind e.id).length+1) ((jy e.fields).map yG++zp r))=_
  rw[zM,if_pos ⟨by show pre.length<pre.length+cur.length;omega,KE (hk e jig)⟩]
  rw[xI,Zn]
  have ih:=Yh t r (pre++cur) (edT e) (no+1+((jy e.fields).map yG).length) (by rw[h,yO];simp) (by unfold edT jfb jr;simp) (fun x hx=>hk x (jif _ hx))
  have el:(edT e).length=(jV e.kind e.id).length+1+(jr ((jy e.fields).map yG)).length:=by unfold edT jfb jr;simp;omega
  rw[jh7]at ih
  rw[show pre.length+cur.length+(jV e.kind e.id).length+1+(jr ((jy e.fields).map yG)).length=pre.length+cur.length+(edT e).length by omega]
  rw[show(⟨no,pre.length+cur.length,jV e.kind e.id,true⟩:Ln).at_=pre.length+cur.length from rfl,ih,jiP]
  congr 1
  rw[h,jjs rfl,show pre.length+cur.length-pre.length=cur.length by omega,List.take_left' rfl]
theorem jaz{eds:List Ed}(h0:eds≠[])(hg:∀ed∈eds,zw ed=0)(hi:∀ed∈eds,I64 ed.id):yA (jC eds)=eds:=by
 cases eds with
 | nil=>exact absurd rfl h0
 | cons e r =>
 unfold yA
 rw[show jf (jC (e::r))=num 0 0 (zp (e::r)) from yE _ 0 0 (JY hg)]
 have e1:zp (e::r)=jV e.kind e.id::((jy e.fields).map yG++zp r):=by
  unfold zp;rw[jio];rfl
 have e2:zM (jC (e::r)) 0 (num 0 0 (zp (e::r)))=(e::r).map edT:=by
  rw[e1]
  show zM _ 0 (⟨0,0,jV e.kind e.id,true⟩::num 1 (0+(jV e.kind e.id).length+1) ((jy e.fields).map yG++zp r))=_
  rw[zM,if_neg (by intro h;exact absurd h.1 (Nat.lt_irrefl _)),xI,Zn]
  have ih:=Yh (jC (e::r)) r [] (edT e) (1+((jy e.fields).map yG).length) (by rw[yO];rfl) (by unfold edT jfb jr;simp) (fun x hx=>Zu (hg x (jif _ hx)))
  have el:(edT e).length=(jV e.kind e.id).length+1+(jr ((jy e.fields).map yG)).length:=by unfold edT jfb jr;simp;omega
  rw[el]at ih
  simp only[jiW]at ih
  rw[show 0+((jV e.kind e.id).length+1+(jr ((jy e.fields).map yG)).length)=0+(jV e.kind e.id).length+1+(jr ((jy e.fields).map yG)).length by omega]at ih
  exact ih
 rw[e2,jjO]
 conv=>rhs;rw[<- List.map_id (e::r)]
 exact jj8 fun x hx=>jbO (Jd (hg x hx)) (Zu (hg x hx)) (hi x hx)
def Jt(t:List UInt8):Option (List Ed):=if t.length<=50000/\(yx (yA t)).2=0/\jC (yA t)=t then some (yA t) else none
theorem jda(l:List UInt8):I64 (zX l):=by
 unfold zX
 cases h:Lib.atoiAll l with
 | ok v =>
  show I64 v
  unfold Lib.atoiAll at h
  split at h
  ·cases h
  simp only at h
  split at h
  ·cases h
  ·cases h
  split at h
  ·cases h
  split at h
  ·cases h
  injection h with h
  subst h
  split
  ·exact⟨by omega,by omega⟩
  exact⟨by omega,by omega⟩
 | range =>
  show I64 (Lib.atoiSat l)
  unfold Lib.atoiSat
  split
  ·exact⟨by decide,by decide⟩
  exact⟨by decide,by decide⟩
 | _=>exact(⟨by decide,by decide⟩:I64 0)
theorem Gl(t:List UInt8):∀ed∈yA t,I64 ed.id:=by
 intro ed hed
 obtain⟨p,_,rfl⟩:=List.mem_map.1 hed
 exact jda _
theorem JU{t:List UInt8}{eds:List Ed}:Jt t=some eds↔t.length<=50000/\(yx eds).2=0/\(∀ed∈eds,I64 ed.id)/\jC eds=t:=by
 unfold Jt
 constructor
 ·intro h
  split at h
  ·rename_i q
   injection h with h
   subst h
   exact⟨q.1,q.2.1,Gl t,q.2.2⟩
  cases h
 rintro⟨h1,h2,h3,rfl⟩
 obtain⟨⟨a,b⟩,c⟩:=xy h2
 have e:=jaz (by intro e;rw[e]at a;simp at a) c h3
 rw[if_pos ⟨h1,by rw[e];exact h2,by rw[e]⟩,e]
end Go.Proofs.YtmdhainabeljpaaGreatDoor
namespace Go.Proofs.YtmdhainabeljpaaGreatDoor
open Go.RowKit Go.Extern.Stop Go.Stop Go.Extern
theorem XS(t:Addr)(w:World):(ReflectliteValue.unpack (.iface 197 (.pointer (some t)))).run Tryz.prog w
  = .ok (.agg #[.pointer (some ⟨9,197,none⟩),.pointer (some ⟨w.heap.size,0,none⟩),.int .u64 150]) (w.alloc (.cells #[.pointer (some t)] 197)):=by kernel_rfl
theorem jeS(a:Addr)(w:World):(ReflectliteValue.methodAny (ReflectliteValue.valueError "reflectlite.Value.Type" 0) (fun t _ _ _=>ReflectliteType.toType t) #[.agg #[.pointer (some ⟨9,197,none⟩),.pointer (some a),.int .u64 150]]).run Tryz.prog w
  = .ok (.iface 239 (.agg #[.pointer (some ⟨9,197,none⟩)])) w:=by kernel_rfl
theorem Yq(h:Value)(w:World):(Go.method 390 239 (.agg #[h]) "Kind").run Tryz.prog w=.ok (224,h) w:=by kernel_rfl
theorem je5(w:World):((ReflectliteType.abiMethod fun t=>(fun a:Nat=>Value.int IntKind.u8 (a:Int)) <$> Rtype.kind t) #[.pointer (some ⟨9,197,none⟩)]).run Tryz.prog w=.ok (.int .u8 22) w:=by kernel_rfl
theorem jgX(w:World):((ReflectliteType.abiMethod fun t=>(fun a:Nat=>Value.int IntKind.u8 (a:Int)) <$> Rtype.kind t) #[.pointer (some ⟨9,54,none⟩)]).run Tryz.prog w=.ok (.int .u8 22) w:=by kernel_rfl
theorem jhS(z:Sem Value)(f:TypeId->Addr->Nat->Nat->Sem Value)(v:Value):
  ReflectliteValue.method z f #[v]=(do match <- ReflectliteValue.parts v with | none=>z | some (t,a,fl)=>f t a fl (fl % 32)):=rfl
theorem jbX(a:Addr)(w:World):(ReflectliteValue.parts (.agg #[.pointer (some ⟨9,197,none⟩),.pointer (some a),.int .u64 150])).run Tryz.prog w=.ok (some (197,a,150)) w:=by kernel_rfl
theorem jcq(a p:Addr)(W:World)(ha:W.cell? a=some (.pointer (some p))):
  (ReflectliteValue.method (ReflectliteValue.valueError "reflectlite.Value.IsNil" 0) ReflectliteValue.isNil #[.agg #[.pointer (some ⟨9,197,none⟩),.pointer (some a),.int .u64 150]]).run Tryz.prog W=.ok (.bool false) W:=by
 rw[jhS]
 simp only[jj3,jbX,Result.andThen]
 simp[ReflectliteValue.isNil,loadVar,isAgg,underlying,Tryz.underlying197,ha,Result.andThen]
theorem Yr(h:Value)(w:World):(Go.method 390 239 (.agg #[h]) "Elem").run Tryz.prog w=.ok (241,.agg #[h]) w:=by kernel_rfl
theorem yU(h:Value)(w:World):(Go.method 390 239 (.agg #[h]) "Implements").run Tryz.prog w=.ok (242,.agg #[h]) w:=by kernel_rfl
theorem vU(h:Value)(w:World):(Go.method 390 239 (.agg #[h]) "AssignableTo").run Tryz.prog w=.ok (239,.agg #[h]) w:=by kernel_rfl
theorem je9(w:World):(ReflectliteType.method ReflectliteType.elem #[.agg #[.pointer (some ⟨9,197,none⟩)]]).run Tryz.prog w=.ok (.iface 239 (.agg #[.pointer (some ⟨9,54,none⟩)])) w:=by kernel_rfl
theorem Vb(w:World):(ReflectliteType.relation "Implements" ReflectliteType.implements_ #[.agg #[.pointer (some ⟨9,54,none⟩)],.iface 239 (.agg #[.pointer (some ⟨9,28,none⟩)])]).run Tryz.prog w=.ok (.bool true) w:=by kernel_rfl
theorem jfg(v:Value)(w:World):(ReflectliteType.typeOf #[.iface 54 v]).run Tryz.prog w=.ok (.iface 239 (.agg #[.pointer (some ⟨9,54,none⟩)])) w:=by kernel_rfl
theorem jfh(v:Value)(w:World):(ReflectliteType.typeOf #[.iface 43 v]).run Tryz.prog w=.ok (.iface 239 (.agg #[.pointer (some ⟨9,43,none⟩)])) w:=by kernel_rfl
theorem Ut(w:World):(ReflectliteType.relation "AssignableTo" ReflectliteType.assignableTo #[.agg #[.pointer (some ⟨9,54,none⟩)],.iface 239 (.agg #[.pointer (some ⟨9,54,none⟩)])]).run Tryz.prog w=.ok (.bool true) w:=by kernel_rfl
theorem Uu(w:World):(ReflectliteType.relation "AssignableTo" ReflectliteType.assignableTo #[.agg #[.pointer (some ⟨9,43,none⟩)],.iface 239 (.agg #[.pointer (some ⟨9,54,none⟩)])]).run Tryz.prog w=.ok (.bool false) w:=by kernel_rfl
theorem jdo(e:Addr)(w:World):(ReflectliteValue.unpack (.iface 54 (.pointer (some e)))).run Tryz.prog w
  = .ok (.agg #[.pointer (some ⟨9,54,none⟩),.pointer (some ⟨w.heap.size,0,none⟩),.int .u64 150]) (w.alloc (.cells #[.pointer (some e)] 54)):=by kernel_rfl
theorem jeq(w:World):(Rtype.elem? 197).run Tryz.prog w=.ok (some 54) w:=by kernel_rfl
theorem mkP(p:Addr)(w:World):(ReflectliteValue.mk 54 p ReflectliteValue.flagAddr).run Tryz.prog w=.ok (.agg #[.pointer (some ⟨9,54,none⟩),.pointer (some p),.int .u64 406]) w:=by kernel_rfl
theorem jgh(a p:Addr)(W:World)(ha:W.cell? a=some (.pointer (some p))):
  (ReflectliteValue.method (ReflectliteValue.valueError "reflectlite.Value.Elem" 0) ReflectliteValue.elem #[.agg #[.pointer (some ⟨9,197,none⟩),.pointer (some a),.int .u64 150]]).run Tryz.prog W
   = .ok (.agg #[.pointer (some ⟨9,54,none⟩),.pointer (some p),.int .u64 406]) W:=by
 rw[jhS]
 simp only[jj3,jbX,Result.andThen]
 simp[ReflectliteValue.elem,loadVar,isAgg,underlying,Tryz.underlying197,ha,Result.andThen,jeq,mkP]
theorem jhZ(v x:Value):ReflectliteValue.set #[v,x]=(do
  let (some (dst,a,fl),some (src,b,_)):=(<- ReflectliteValue.parts v,<- ReflectliteValue.parts x)
   | unsupported (.noEntry "extern/(internal/reflectlite.Value).Set.zeroValue")
  if fl / ReflectliteValue.flagAddr % 2==0 then unsupported (.noEntry "extern/(internal/reflectlite.Value).Set.unaddressable")
  let val <- loadVar src b
  if <- Rtype.directlyAssignable dst src then storeVar dst a val
  else if <- Rtype.implements dst src then
   if (<- Rtype.kind src)==20 then
    match val with
    | .nilIface=>unsupported (.noEntry "extern/reflectlite: a nil value of one interface type handed on as a value of another")
    | _=>storeVar dst a val
   else storeVar dst a (.iface src val)
  else panicString ("reflectlite.Set: value of type " ++ (<- Rtype.spelt src) ++ " is not assignable to type " ++ (<- Rtype.spelt dst))
  pure (.tuple #[])):=rfl
theorem jfC(a:Addr)(w:World):(ReflectliteValue.parts (.agg #[.pointer (some ⟨9,54,none⟩),.pointer (some a),.int .u64 406])).run Tryz.prog w=.ok (some (54,a,406)) w:=by kernel_rfl
theorem jgL(a:Addr)(w:World):(ReflectliteValue.parts (.agg #[.pointer (some ⟨9,54,none⟩),.pointer (some a),.int .u64 150])).run Tryz.prog w=.ok (some (54,a,150)) w:=by kernel_rfl
theorem jgj(w:World):(Rtype.directlyAssignable 54 54).run Tryz.prog w=.ok true w:=by kernel_rfl
theorem jhY(ta b e:Addr)(old:Value)(W:World)(hb:W.cell? b=some (.pointer (some e)))(ht:W.cell? ta=some old)(hf:W.frozen? ta=false):
  (ReflectliteValue.set #[.agg #[.pointer (some ⟨9,54,none⟩),.pointer (some ta),.int .u64 406],.agg #[.pointer (some ⟨9,54,none⟩),.pointer (some b),.int .u64 150]]).run Tryz.prog W
   = .ok (.tuple #[]) (W.setCell ta (.pointer (some e))):=by
 rw[jhZ]
 simp only[jj3,jfC,jgL,Result.andThen]
 simp[ReflectliteValue.flagAddr,loadVar,isAgg,underlying,Tryz.underlying54,hb,Result.andThen,jgj,storeVar,Value.cells,storeCells,Addr.add]
 rw[run_store Tryz.prog W ta _ _ (by rfl)]
 simp[ht,hf]
def ErrT(w:World):Prop:=w.cell? ⟨3,0,none⟩=some (.iface 239 (.agg #[.pointer (some ⟨9,28,none⟩)]))
abbrev hPP:Value:=.pointer (some ⟨9,197,none⟩)
abbrev hP:Value:=.pointer (some ⟨9,54,none⟩)
theorem jeK(e t a:Addr)(old:Value)(w:World)(ha:w.cell? a=some (.pointer (some t)))(ht0:w.cell? t=some old)(hf0:w.frozen? t=false):
  Calls Tryz.prog 183 #[.iface 54 (.pointer (some e)),.iface 197 (.pointer (some t)),.agg #[.pointer (some ⟨9,197,none⟩),.pointer (some a),.int .u64 150],.iface 239 (.agg #[.pointer (some ⟨9,54,none⟩)])] w
   fun ev w'=>ev=.returned (.bool true)/\w'=((w.alloc (.cells #[.pointer (some ⟨9,197,none⟩),.pointer (some a),.int .u64 150] 218)).alloc (.cells #[.pointer (some e)] 54)).setCell t (.pointer (some e)):=by
 have h10:=@run_callFunc_extern Tryz.prog 195 _ ReflectliteType.typeOf Tryz.func195 (by kernel_rfl) (by kernel_rfl) (by kernel_rfl) (by kernel_rfl)
 have h35:=@run_callFunc_extern Tryz.prog 239 _ (ReflectliteType.relation "AssignableTo" ReflectliteType.assignableTo) Tryz.func239 (by kernel_rfl) (by kernel_rfl) (by kernel_rfl) (by kernel_rfl)
 have h6:=@run_callFunc_extern Tryz.prog 180 _ (fun args=>ReflectliteValue.unpack (args.getD 0 (.tuple #[]))) Tryz.func180 (by kernel_rfl) (by kernel_rfl) (by kernel_rfl) (by kernel_rfl)
 have h11:=@run_callFunc_extern Tryz.prog 196 _ (ReflectliteValue.method (ReflectliteValue.valueError "reflectlite.Value.Elem" 0) ReflectliteValue.elem) Tryz.func196 (by kernel_rfl) (by kernel_rfl) (by kernel_rfl) (by kernel_rfl)
 have h12:=@run_callFunc_extern Tryz.prog 197 _ ReflectliteValue.set Tryz.func197 (by kernel_rfl) (by kernel_rfl) (by kernel_rfl) (by kernel_rfl)
 have tO:=jfg
 have mA:=vU
 have a25:=Ut
 have v25:=jdo
 have htl:t.block<w.heap.size:=by
  rcases jir t.block w.heap.size with h|h
  ·exact h
  simp[World.cell?,Array.getElem?_eq_none h]at ht0
 have hal:a.block<w.heap.size:=by
  rcases jir a.block w.heap.size with h|h
  ·exact h
  simp[World.cell?,Array.getElem?_eq_none h]at ha
 have el:=jgh a t (w.alloc (.cells #[.pointer (some ⟨9,197,none⟩),.pointer (some a),.int .u64 150] 218)) (by rw[jkr _ _ a hal];exact ha)
 have st:=jhY t ⟨w.heap.size+1,0,none⟩ e old ((w.alloc (.cells #[.pointer (some ⟨9,197,none⟩),.pointer (some a),.int .u64 150] 218)).alloc (.cells #[.pointer (some e)] 54))
  (by rw[jjk _ _ _ _ (by simp)];rfl)
  (by rw[jkr _ _ t (by simp;omega),jkr _ _ t htl];exact ht0)
  (by rw[World.frozen?_alloc_old _ _ t (by simp;omega),World.frozen?_alloc_old _ _ t (jj2 htl)];exact hf0)
 go_enter Tryz.func183,Tryz.ntmps183
 go_wp2
 refine wp_loop_rounds 1 ?_
 rw[rounds_succ]
 go_wp2
 go_ret
 exact⟨rfl,rfl⟩
theorem jhD(v:Value)(xT:TypeId)(w:World):(Instr.typeAssert (.iface 43 v) xT 244 true).run Tryz.prog w=.ok (.tuple #[.nilIface,.bool false]) w:=run_typeAssert_lacksB Tryz.underlying244 (by kernel_rfl) (by kernel_rfl) v xT w
theorem jhC(v:Value)(xT:TypeId)(w:World):(Instr.typeAssert (.iface 43 v) xT 247 true).run Tryz.prog w=.ok (.tuple #[.nilIface,.bool false]) w:=run_typeAssert_lacksB Tryz.underlying247 (by kernel_rfl) (by kernel_rfl) v xT w
theorem jgP(v:Value)(xT:TypeId)(w:World):(Instr.typeAssert (.iface 43 v) xT 248 true).run Tryz.prog w=.ok (.tuple #[.nilIface,.bool false]) w:=run_typeAssert_lacksB Tryz.underlying248 (by kernel_rfl) (by kernel_rfl) v xT w
theorem jdd(n:Int)(t a:Addr)(w:World):
  Calls Tryz.prog 183 #[.iface 43 (.int .i64 n),.iface 197 (.pointer (some t)),.agg #[.pointer (some ⟨9,197,none⟩),.pointer (some a),.int .u64 150],.iface 239 (.agg #[.pointer (some ⟨9,54,none⟩)])] w
   fun ev w'=>ev=.returned (.bool false)/\Below w.heap.size w w':=by
 have h10:=@run_callFunc_extern Tryz.prog 195 _ ReflectliteType.typeOf Tryz.func195 (by kernel_rfl) (by kernel_rfl) (by kernel_rfl) (by kernel_rfl)
 have h35:=@run_callFunc_extern Tryz.prog 239 _ (ReflectliteType.relation "AssignableTo" ReflectliteType.assignableTo) Tryz.func239 (by kernel_rfl) (by kernel_rfl) (by kernel_rfl) (by kernel_rfl)
 have tO:=jfh
 have mA:=vU
 have a25:=Uu
 have n1:=jhD
 have n2:=jhC
 have n3:=jgP
 go_enter Tryz.func183,Tryz.ntmps183
 go_wp2
 refine wp_loop_rounds 1 ?_
 rw[rounds_succ]
 go_wp2
 go_ret
 exact⟨rfl,(jh8 _ _).alloc (jh6 _) _⟩
theorem ErrT.below{w w':World}{N:Nat}(h:ErrT w)(hb:Below N w w')(hN:w.heap.size<=N):ErrT w':=by
 have hlt:3<w.heap.size:=World.block_lt_of_cell? w _ h
 exact(hb.cell (p:=⟨3,0,none⟩) (jih hlt hN)).trans h
theorem jhl(e t:Addr)(old:Value)(w:World)(hg:ErrT w)(ht0:w.cell? t=some old)(hf0:w.frozen? t=false):
  Calls Tryz.prog 159 #[.iface 54 (.pointer (some e)),.iface 197 (.pointer (some t))] w
   fun ev w'=>ev=.returned (.bool true)/\∃w1,Below w.heap.size w w1/\w'=w1.setCell t (.pointer (some e)):=by
 have h6:=@run_callFunc_extern Tryz.prog 180 _ (fun args=>ReflectliteValue.unpack (args.getD 0 (.tuple #[]))) Tryz.func180 (by kernel_rfl) (by kernel_rfl) (by kernel_rfl) (by kernel_rfl)
 have h7:=@run_callFunc_extern Tryz.prog 181 _ (ReflectliteValue.methodAny (ReflectliteValue.valueError "reflectlite.Value.Type" 0) (fun t _ _ _=>ReflectliteType.toType t)) Tryz.func181 (by kernel_rfl) (by kernel_rfl) (by kernel_rfl) (by kernel_rfl)
 have h8:=@run_callFunc_extern Tryz.prog 182 _ (ReflectliteValue.method (ReflectliteValue.valueError "reflectlite.Value.IsNil" 0) ReflectliteValue.isNil) Tryz.func182 (by kernel_rfl) (by kernel_rfl) (by kernel_rfl) (by kernel_rfl)
 have h27:=@run_callFunc_extern Tryz.prog 224 _ (ReflectliteType.abiMethod fun t=>do pure (.int .u8 (<- Rtype.kind t))) Tryz.func224 (by kernel_rfl) (by kernel_rfl) (by kernel_rfl) (by kernel_rfl)
 have h37:=@run_callFunc_extern Tryz.prog 241 _ (ReflectliteType.method ReflectliteType.elem) Tryz.func241 (by kernel_rfl) (by kernel_rfl) (by kernel_rfl) (by kernel_rfl)
 have h38:=@run_callFunc_extern Tryz.prog 242 _ (ReflectliteType.relation "Implements" ReflectliteType.implements_) Tryz.func242 (by kernel_rfl) (by kernel_rfl) (by kernel_rfl) (by kernel_rfl)
 have f6:=XS
 have f7:=jeS
 have mK:=Yq
 have mE:=Yr
 have mI:=yU
 have k27:=je5
 have k25:=jgX
 have e27:=je9
 have i25:=Vb
 have htl:t.block<w.heap.size:=by
  rcases jir t.block w.heap.size with h|h
  ·exact h
  simp[World.cell?,Array.getElem?_eq_none h]at ht0
 obtain⟨wa,hwa⟩:∃wa,wa=(w.alloc (.cells #[.pointer (some t)] 197)).alloc (.cells #[.pointer (some ⟨9,197,none⟩),.pointer (some ⟨w.heap.size,0,none⟩),.int .u64 150] 218):=⟨_,rfl⟩
 have hba:Below w.heap.size w wa:=by rw[hwa];exact((jh8 _ w).alloc (jh6 _) _).alloc (by simp) _
 have n8:=jcq ⟨w.heap.size,0,none⟩ t wa (by rw[hwa];simp)
 have hg2:wa.cell? ⟨3,0,none⟩=some (.iface 239 (.agg #[.pointer (some ⟨9,28,none⟩)])):=hg.below hba (jh6 _)
 have HI:=jh5 (jeK e t ⟨w.heap.size,0,none⟩ old wa (by rw[hwa];simp) ((hba.cell htl).trans ht0) ((hba.frozen htl).trans hf0))
 have HB:=jh5 hba
 subst hwa
 clear hba
 go_enter Tryz.func159,Tryz.ntmps159
 go_wp2_with fail
 refine HI.out.mono ?_
 rintro ev w2 ⟨rfl,rfl⟩
 go_wp2_with fail
 go_ret
 exact⟨rfl,_,(HB.out.alloc HB.out.size _).alloc (HB.out.alloc HB.out.size _).size _,rfl⟩
theorem jgt(n:Int)(t:Addr)(w:World)(hg:ErrT w):
  Calls Tryz.prog 159 #[.iface 43 (.int .i64 n),.iface 197 (.pointer (some t))] w
   fun ev w'=>ev=.returned (.bool false)/\Below w.heap.size w w':=by
 have h6:=@run_callFunc_extern Tryz.prog 180 _ (fun args=>ReflectliteValue.unpack (args.getD 0 (.tuple #[]))) Tryz.func180 (by kernel_rfl) (by kernel_rfl) (by kernel_rfl) (by kernel_rfl)
 have h7:=@run_callFunc_extern Tryz.prog 181 _ (ReflectliteValue.methodAny (ReflectliteValue.valueError "reflectlite.Value.Type" 0) (fun t _ _ _=>ReflectliteType.toType t)) Tryz.func181 (by kernel_rfl) (by kernel_rfl) (by kernel_rfl) (by kernel_rfl)
 have h8:=@run_callFunc_extern Tryz.prog 182 _ (ReflectliteValue.method (ReflectliteValue.valueError "reflectlite.Value.IsNil" 0) ReflectliteValue.isNil) Tryz.func182 (by kernel_rfl) (by kernel_rfl) (by kernel_rfl) (by kernel_rfl)
 have h27:=@run_callFunc_extern Tryz.prog 224 _ (ReflectliteType.abiMethod fun t=>do pure (.int .u8 (<- Rtype.kind t))) Tryz.func224 (by kernel_rfl) (by kernel_rfl) (by kernel_rfl) (by kernel_rfl)
 have h37:=@run_callFunc_extern Tryz.prog 241 _ (ReflectliteType.method ReflectliteType.elem) Tryz.func241 (by kernel_rfl) (by kernel_rfl) (by kernel_rfl) (by kernel_rfl)
 have h38:=@run_callFunc_extern Tryz.prog 242 _ (ReflectliteType.relation "Implements" ReflectliteType.implements_) Tryz.func242 (by kernel_rfl) (by kernel_rfl) (by kernel_rfl) (by kernel_rfl)
 have f6:=XS
 have f7:=jeS
 have mK:=Yq
 have mE:=Yr
 have mI:=yU
 have k27:=je5
 have k25:=jgX
 have e27:=je9
 have i25:=Vb
 obtain⟨wa,hwa⟩:∃wa,wa=(w.alloc (.cells #[.pointer (some t)] 197)).alloc (.cells #[.pointer (some ⟨9,197,none⟩),.pointer (some ⟨w.heap.size,0,none⟩),.int .u64 150] 218):=⟨_,rfl⟩
 have hba:Below w.heap.size w wa:=by rw[hwa];exact((jh8 _ w).alloc (jh6 _) _).alloc (by simp) _
 have n8:=jcq ⟨w.heap.size,0,none⟩ t wa (by rw[hwa];simp)
 have hg2:wa.cell? ⟨3,0,none⟩=some (.iface 239 (.agg #[.pointer (some ⟨9,28,none⟩)])):=hg.below hba (jh6 _)
 have HI:=jh5 (jdd n t ⟨w.heap.size,0,none⟩ wa)
 have HB:=jh5 hba
 subst hwa
 clear hba
 go_enter Tryz.func159,Tryz.ntmps159
 go_wp2_with fail
 refine HI.out.mono ?_
 rintro ev w2 ⟨rfl,b2⟩
 go_wp2_with fail
 go_ret
 exact⟨rfl,HB.out.trans (b2.mono HB.out.size)⟩
end Go.Proofs.YtmdhainabeljpaaGreatDoor
