/- Texts put together:RM,EJ,RO,JB,EM,AI,AG. -/
import Derived.StillTail
import Derived.Lib.AppendZeros
import Derived.Test.YtmdhainabeljpaaGreatDoorBxr16
set_option linter.unusedVariables false
set_option maxRecDepth 100000
set_option maxHeartbeats 16000000
namespace Go.Proofs.YtmdhainabeljpaaGreatDoor
abbrev jj7:=@List.not_mem_nil
abbrev jkl:=@List.mem_cons
end Go.Proofs.YtmdhainabeljpaaGreatDoor
namespace Go.Proofs.YtmdhainabeljpaaGreatDoor
open Go.RowKit
structure jhM(a0:Act)(w0:World)(n:Nat)(dst:Nat->Option Nat)(Pv:Nat->Value->World->Prop)(R:World->World->Prop)(l:Array Bool)(a:Act)(w:World):Prop where
 dfr:a.defers=a0.defers
 sz:a.tmps.size=a0.tmps.size
 frm:∀j,(∀k,k<n->dst k≠some j)->a.tmps[j]?=a0.tmps[j]?
 val:∀i d,l.getD i false=true->dst i=some d->∃v,a.tmps[d]?=some v/\Pv i v w
 wd:R w0 w
theorem VT{P:Program}{ops:Array Oper}{Q:Exit->Act->World->Prop}(a0:Act)(w0:World)(dst:Nat->Option Nat)(Pv:Nat->Value->World->Prop)(R:World->World->Prop)
  (R0:R w0 w0) (RT:∀x y,R w0 x->R x y->R w0 y) (PM:∀i v x y,R w0 x->R x y->Pv i v x->Pv i v y)
  (hd:∀i o,ops[i]?=some o->o.dst=dst i) (inj:∀i k d,i<ops.size->k<ops.size->dst i=some d->dst k=some d->i=k) (dlt:∀i d,i<ops.size->dst i=some d->d<a0.tmps.size)
  (hlow:∀i o e,ops[i]?=some o->e∈o.after->Region.binds .any e=true->e.on<i)
  (step:∀i o a w,ops[i]?=some o->a.tmps.size=a0.tmps.size->(∀j,(∀k,k<ops.size->dst k≠some j)->a.tmps[j]?=a0.tmps[j]?)->(∀e∈o.after,Region.binds .any e=true->∀d,dst e.on=some d->∃v,a.tmps[d]?=some v/\Pv e.on v w)->R w0 w ->
   (Region.wanted o (yielded ops a.tmps)=true/\∀K:Act->World->Prop,(∀v w',R w w'->Pv i v w'->K (a.put (dst i) v) w')->Oper.wp P o a w K Q)\/(Region.wanted o (yielded ops a.tmps)=false/\Pv i undef w))
  (RR:∀w,R w0 w->R w w)
  (hQ:∀a w,a.defers=a0.defers->a.tmps.size=a0.tmps.size->(∀j,(∀k,k<ops.size->dst k≠some j)->a.tmps[j]?=a0.tmps[j]?)->(∀i d,i<ops.size->dst i=some d->∃v,a.tmps[d]?=some v/\Pv i v w)->R w0 w->Q .normal a w) :
  wpAny P .any ops Q ops.size (Array.replicate ops.size false) a0 w0:=by
 refine XQ (jhM a0 w0 ops.size dst Pv R) ?step ?done ops.size _ a0 _ ?start (by simp) (by unfold jby;simp)
 case start =>
  have e:∀i,(Array.replicate ops.size false).getD i false=false:=fun i=>by
   rw[jit,jke];split<;>rfl
  exact⟨rfl,rfl,fun _ _=>rfl,(fun i d h=>absurd ((e i).symm.trans h) (by decide)),R0⟩
 case done =>
  intro l a w I hl hr
  have A:=jaf hl hlow hr
  exact hQ a w I.dfr I.sz I.frm (fun i d hi h=>I.val i d (A i hi) h) I.wd
 case step =>
 intro l i o a w I hl ho hli he
 have hil:=jaD hli
 have hi:i<ops.size:=by omega
 have dep:∀e∈o.after,Region.binds .any e=true->∀d,dst e.on=some d->∃v,a.tmps[d]?=some v/\Pv e.on v w:=fun e h1 h2 d h3=>I.val e.on d (he e h1 h2) h3
 have key:∀v w',R w w'->Pv i v w'->jhM a0 w0 ops.size dst Pv R (l.setIfInBounds i true) (a.put (dst i) v) w':=by
  intro v w' hR hP
  have hwd:=RT w w' I.wd hR
  cases hdi:dst i with
  | none =>
   refine⟨I.dfr,I.sz,I.frm,fun k d hk hkd => ?_,hwd⟩
   rw[Qp l i hil]at hk
   by_cases q:k=i
   ·rw[q,hdi]at hkd;cases hkd
   rw[if_neg q]at hk
   obtain⟨u,h1,h2⟩:=I.val k d hk hkd
   exact⟨u,h1,PM k u w w' I.wd hR h2⟩
  | some d0 =>
  have hd0:=dlt i d0 hi hdi
  have T:∀j,(a.put (some d0) v).tmps[j]?=if j=d0 then some v else a.tmps[j]?:=fun j=>by
   show(a.tmps.setIfInBounds d0 v)[j]?=_
   rw[jiM]
   by_cases h:d0=j
   ·subst h;simp[I.sz,hd0]
   rw[if_neg h,if_neg (jjB h)]
  refine⟨I.dfr,?_,fun j hj => ?_,fun k d hk hkd => ?_,hwd⟩
  ·show(a.tmps.setIfInBounds d0 v).size=_
   simp[I.sz]
  ·rw[T,if_neg (fun e=>hj i hi (by rw[hdi,e]))];exact I.frm j hj
  rw[T]
  rw[Qp l i hil]at hk
  by_cases q:k=i
  ·subst q
   rw[hdi]at hkd
   rw[if_pos (jh9 hkd).symm]
   exact⟨v,rfl,hP⟩
  rw[if_neg q]at hk
  have hkl:k<ops.size:=by
   rcases jir k ops.size with z|z
   ·exact z
   rw[jit,jiI (by omega)]at hk;cases hk
  rw[if_neg (fun e=>q (inj k i d hkl hi hkd (by rw[hdi,e])))]
  obtain⟨u,h1,h2⟩:=I.val k d hk hkd
  exact⟨u,h1,PM k u w w' I.wd hR h2⟩
 unfold wpOp
 rw[ho]
 dsimp only
 rcases step i o a w ho I.sz I.frm dep I.wd with ⟨h1,h2⟩|⟨h1,h2⟩
 ·rw[if_pos h1]
  exact .inl (h2 _ key)
 rw[if_neg (by rw[h1];decide),hd i o ho]
 exact key undef w (RR w I.wd) h2
def pvL(L:List (Value->World->Prop))(i:Nat)(v:Value)(w:World):Prop:=match L[i]? with | some P=>P v w | none=>True
def jff:List (Value->World->Prop)->Prop
 | []=>True
 | P::r=>(∀v x y,Below x.heap.size x y->P v x->P v y)/\jff r
theorem JF:∀{L:List (Value->World->Prop)} (_:jff L) {i:Nat} {v:Value} {x y:World},Below x.heap.size x y->pvL L i v x->pvL L i v y
 | [],_,i,v,x,y,_,_=>trivial
 | P::r,h,0,v,x,y,hb,hp=>h.1 v x y hb hp
 | P::r,h,i+1,v,x,y,hb,hp=>JF (L:=r) h.2 (i:=i) hb hp
theorem UY{l:Array Bool}{i:Nat}(hi:i<l.size)(hl:l.getD i true=false):jby (l.setIfInBounds i true)+1=jby l:=by
 have hlf:l[i]=false:=by simpa [Array.getD,hi]using hl
 have key:∀(xs:List Bool) (j:Nat) (hj:j<xs.length),xs[j]=false->((xs.set j true).filter (fun b => !b)).length+1=(xs.filter (fun b => !b)).length:=by
  intro xs
  induction xs with
  | nil=>intro j hj;simp at hj
  | cons x xs ih2 =>
  intro j hj hx
  cases j with
  | zero=>simp at hx;subst hx;simp
  | succ j =>
  have:=ih2 j (by simpa using hj) (by simpa using hx)
  cases x<;>simp at this ⊢ <;> omega
 have h2:=key l.toList i (by simpa using hi) (by simpa using hlf)
 unfold jby
 have e:(l.setIfInBounds i true).toList=l.toList.set i true:=by simp
 rw[e];exact h2
theorem jbx{l:Array Bool}{n g:Nat}(hs:l.size=n+g)(h1:∀i,i<n->l.getD i true=true)(h2:∀t,n<=t->t<l.size->l.getD t true=false):l=(List.replicate n true++List.replicate g false).toArray:=by
 apply Array.ext
 ·simp[hs]
 intro i hi _
 have e:l[i]=l.getD i true:=by simp[Array.getD,hi]
 rw[e]
 by_cases h:i<n
 ·rw[h1 i h];simp[h]
 rw[h2 i (by omega) hi];simp[List.getElem_append,h]
theorem vC{P:Program}{l0:List Oper}{Q:Exit->Act->World->Prop}(n g:Nat)(hng:n+g=l0.length)(hg:0<g)(a0:Act)(w0:World)(dst:Nat->Option Nat)(L:List (Value->World->Prop))(M:jff L)
  (hs:Region.sinkB .any l0.toArray n=true) (hc:Region.chainB .any l0.toArray n=true) (hq:Region.seqB .any l0.toArray g n (List.replicate n true++List.replicate g false).toArray=true)
  (hd:∀i o,i<n->l0[i]?=some o->o.dst=dst i) (inj:∀i k d,i<n->k<n->dst i=some d->dst k=some d->i=k) (dlt:∀i d,i<n->dst i=some d->d<a0.tmps.size)
  (hlow:∀i o e,l0[i]?=some o->e∈o.after->Region.binds .any e=true->e.on<i)
  (step:∀i o a w,i<n->l0[i]?=some o->a.tmps.size=a0.tmps.size->(∀j,(∀k,k<n->dst k≠some j)->a.tmps[j]?=a0.tmps[j]?)->(∀e∈o.after,Region.binds .any e=true->∀d,dst e.on=some d->∃v,a.tmps[d]?=some v/\pvL L e.on v w)->Below w0.heap.size w0 w ->
   (Region.wanted o (yielded l0.toArray a.tmps)=true/\∀K:Act->World->Prop,(∀v w',Below w.heap.size w w'->pvL L i v w'->K (a.put (dst i) v) w')->Oper.wp P o a w K Q)\/(Region.wanted o (yielded l0.toArray a.tmps)=false/\pvL L i undef w))
  (tail:∀a w,a.defers=a0.defers->a.tmps.size=a0.tmps.size->(∀j,(∀k,k<n->dst k≠some j)->a.tmps[j]?=a0.tmps[j]?)->(∀i d,i<n->dst i=some d->∃v,a.tmps[d]?=some v/\pvL L i v w)->Below w0.heap.size w0 w->wpList P l0.toArray Q (l0.drop n) a w) :
  wpAny P .any l0.toArray Q l0.toArray.size (Array.replicate l0.toArray.size false) a0 w0:=by
 have key:∀(m:Nat) (l:Array Bool) (a:Act) (w:World),HeadInv .any l0.toArray n l->jhM a0 w0 n dst (pvL L) (fun x y=>Below x.heap.size x y) l a w->jby l=m->wpAny P .any l0.toArray Q m l a w:=by
  intro m
  induction m with
  | zero =>
   intro l a w inv I ht
   exfalso
   have hn:n<l.size:=by rw[inv.size];simp;omega
   have h1:=UY hn (inv.tail n (jh6 _) (by simp;omega))
   omega
  | succ m ih =>
  intro l a w inv I ht
  by_cases hh:∃i,i<n/\l.getD i true=false
  ·obtain⟨i0,hi0,hl0⟩:=hh
   have hwait:=tail_waits hs hc (by simp;omega) inv (n-i0) i0 rfl hi0 hl0
   refine⟨fun hr => ?_,fun i hi => ?_⟩
   ·exfalso
    have hall:=jaf (ops:=l0.toArray) inv.size (fun i o e ho he hb=>hlow i o e (by simpa using ho) he hb) hr i0 (by simp;omega)
    have hi0':i0<l.size:=by rw[inv.size];simp;omega
    have e1:l.getD i0 false=l.getD i0 true:=by simp[Array.getD,hi0']
    rw[e1,hl0]at hall;cases hall
   have hin:i<n:=by
    rcases jir i n with q|q
    ·exact q
    exact absurd hi (hwait i q)
   obtain⟨o,ho,hli,he⟩:=Zm hi
   have ho':l0[i]?=some o:=by simpa using ho
   have hil:i<l.size:=by rw[inv.size];simp;omega
   have dep:∀e∈o.after,Region.binds .any e=true->∀d,dst e.on=some d->∃v,a.tmps[d]?=some v/\pvL L e.on v w:=fun e h1 h2 d h3=>I.val e.on d (he e h1 h2) h3
   have nxt:∀v w',Below w.heap.size w w'->pvL L i v w'->wpAny P .any l0.toArray Q m (l.setIfInBounds i true) (a.put (dst i) v) w':=by
    intro v w' hR hP
    refine ih _ _ _ (inv.set hi hin) ?_ (by have:=UY hil hli;omega)
    have hwd:Below w0.heap.size w0 w':=I.wd.trans (hR.mono I.wd.size)
    cases hdi:dst i with
    | none =>
     refine⟨I.dfr,I.sz,I.frm,fun k d hk hkd => ?_,hwd⟩
     rw[Qp l i hil]at hk
     by_cases q:k=i
     ·rw[q,hdi]at hkd;cases hkd
     rw[if_neg q]at hk
     obtain⟨u,h1,h2⟩:=I.val k d hk hkd
     exact⟨u,h1,JF M hR h2⟩
    | some d0 =>
    have hd0:=dlt i d0 hin hdi
    have T:∀j,(a.put (some d0) v).tmps[j]?=if j=d0 then some v else a.tmps[j]?:=fun j=>by
     show(a.tmps.setIfInBounds d0 v)[j]?=_
     rw[jiM]
     by_cases h:d0=j
     ·subst h;simp[I.sz,hd0]
     rw[if_neg h,if_neg (jjB h)]
    refine⟨I.dfr,?_,fun j hj => ?_,fun k d hk hkd => ?_,hwd⟩
    ·show(a.tmps.setIfInBounds d0 v).size=_
     simp[I.sz]
    ·rw[T,if_neg (fun e=>hj i hin (by rw[hdi,e]))];exact I.frm j hj
    rw[T]
    rw[Qp l i hil]at hk
    by_cases q:k=i
    ·subst q
     rw[hdi]at hkd
     rw[if_pos (jh9 hkd).symm]
     exact⟨v,rfl,hP⟩
    rw[if_neg q]at hk
    have hkl:k<l.size:=by
     rcases jir k l.size with z|z
     ·exact z
     rw[jit,jiI (by omega)]at hk;cases hk
    have hkn:k<n:=by
     rcases jir k n with z|z
     ·exact z
     have h1:=inv.tail k z (by rw[<- inv.size];exact hkl)
     have e1:l.getD k false=l.getD k true:=by simp[Array.getD,hkl]
     rw[e1,h1]at hk;cases hk
    rw[if_neg (fun e=>q (inj k i d hkn hin hkd (by rw[hdi,e])))]
    obtain⟨u,h1,h2⟩:=I.val k d hk hkd
    exact⟨u,h1,JF M hR h2⟩
   unfold wpOp
   rw[ho]
   dsimp only
   rcases step i o a w hin ho' I.sz I.frm dep I.wd with ⟨h1,h2⟩|⟨h1,h2⟩
   ·rw[if_pos h1]
    exact .inl (h2 _ nxt)
   rw[if_neg (by rw[h1];decide),hd i o hin ho']
   exact nxt undef w (jh8 _ _) h2
  have h1:∀i,i<n->l.getD i true=true:=fun i hi=>by
   cases q:l.getD i true with
   | true=>rfl
   | false=>exact absurd ⟨i,hi,q⟩ hh
  have hls:l.size=n+g:=by rw[inv.size];simp;omega
  have el:=jbx hls h1 (fun t h2 h3=>inv.tail t h2 (by rw[<- inv.size];exact h3))
  have hd1:∀i,i<n->l.getD i false=true:=fun i hi=>by
   have e1:l.getD i false=l.getD i true:=by
    have:i<l.size:=by omega
    simp[Array.getD,this]
   rw[e1];exact h1 i hi
  have hgl:(l0.drop n).length=g:=by simp;omega
  have hm:m+1=g:=by
   rw[<- ht,el]
   unfold jby
   simp[List.filter_append]
  have:=wpAny_of_seq (P:=P) (md:=.any) (ops:=l0.toArray) (Q':=Q) (l0.drop n) n l a w (fun j=>by simp[List.getElem?_drop]) (by rw[hgl,el];exact hq)
   (tail a w I.dfr I.sz I.frm (fun i d hi h=>I.val i d (hd1 i hi) h) I.wd)
  rw[hgl]at this
  rw[hm];exact this
 refine key l0.toArray.size (Array.replicate l0.toArray.size false) a0 w0 ?_ ?_ (by unfold jby;simp)
 ·exact⟨by simp,fun j oj _ hl=>(by rw[getD_replicate_false]at hl;cases hl),fun t _ ht=>getD_in (by simpa using ht) (getD_replicate_false _ _)⟩
 have e:∀i,(Array.replicate l0.toArray.size false).getD i false=false:=fun i=>getD_replicate_false _ i
 exact⟨rfl,rfl,fun _ _=>rfl,(fun i d h=>absurd ((e i).symm.trans h) (by decide)),jh8 _ _⟩
end Go.Proofs.YtmdhainabeljpaaGreatDoor
namespace Go.Proofs.YtmdhainabeljpaaGreatDoor
open Go.RowKit Go.Shelf
attribute [local go_sem] jil
theorem evT{a:Act}{i:Nat}{v:Value}(h:a.tmps[i]?=some v):a.eval (.tmp i)=v:=by
 show a.tmps.getD i undef=v
 rw[jit,h];rfl
theorem zj{ops:Array Oper}{o:Oper}{a:Act}(h:o.guard=none):Region.wanted o (yielded ops a.tmps)=true:=by
 unfold Region.wanted;rw[h]
theorem YP{ops:Array Oper}{o:Oper}{a:Act}{i d:Nat}{b:Bool}(hg:o.guard=some (i,b))(hd:((ops[i]?).bind (·.dst))=some d)(h:a.tmps[d]?=some (.bool b)):Region.wanted o (yielded ops a.tmps)=true:=by
 have y:yielded ops a.tmps i=some b:=by
  unfold yielded
  rw[hd]
  show(match a.tmps[d]? with | some (.bool b)=>some b | _=>none)=_
  rw[h]
 unfold Region.wanted
 rw[hg]
 show(yielded ops a.tmps i==some b)=true
 rw[y];simp
theorem jdh:∀(L:List (Nat×Value)) (s t:Array Value),s.size=t.size->(∀p∈L,s[p.1]?=some p.2)->(∀j,j∉L.map Prod.fst->s[j]?=t[j]?)->s=L.foldl (fun u p=>u.setIfInBounds p.1 p.2) t
 | [],s,t,_,_,h=>jjU (fun j=>h j (by simp))
 | p::L,s,t,hs,h1,h2=>by
  rw[List.foldl_cons]
  refine jdh L s _ (by simpa using hs) (fun q hq=>h1 q (jif _ hq)) (fun j hj => ?_)
  rw[jiM]
  have hp:=h1 p jig
  by_cases q:p.1=j
  ·have:p.1<t.size:=by rw[<- hs];exact(Array.getElem?_eq_some_iff.1 hp).1
   rw[if_pos q,if_pos this,<- q];exact hp
  rw[if_neg q]
  exact h2 j (by rw[jiP];intro hm;rcases List.mem_cons.1 hm with e | e;exact q e.symm;exact hj e)
theorem Zc{a a0:Act}(L:List (Nat×Value))(hd:a.defers=a0.defers)(hs:a.tmps.size=a0.tmps.size)(h1:∀p∈L,a.tmps[p.1]?=some p.2)(h2:∀j,j∉L.map Prod.fst->a.tmps[j]?=a0.tmps[j]?):a={a0 with tmps:=L.foldl (fun u p=>u.setIfInBounds p.1 p.2) a0.tmps}:=by
 have:=jdh L a.tmps a0.tmps hs h1 h2
 obtain⟨t,d⟩:=a
 obtain⟨t0,d0⟩:=a0
 simp only at this hd ⊢
 subst this hd
 rfl
section
variable {o:Oper} {a:Act} {w:World} {K:Act->World->Prop} {Q:Exit->Act->World->Prop}
theorem xl{v:Value}(e:(execOp a.eval o).run Tryz.prog w=.ok (.value v) w)(hK:K (a.put o.dst v) w):Oper.wp Tryz.prog o a w K Q:=by
 unfold Oper.wp
 rw[e];exact hK
theorem yd{x:Operand}{v:Value}(ho:o.op=Op.move x)(hx:a.eval x=v)(hK:K (a.put o.dst v) w):Oper.wp Tryz.prog o a w K Q :=
 xl (by simp only[execOp,ho,hx];simp[go_sem]) hK
theorem jgR{x:Operand}{b:Bool}(ho:o.op=Op.unOp UnOp.not 4 x)(hx:a.eval x=.bool b)(hK:K (a.put o.dst (.bool (!b))) w):Oper.wp Tryz.prog o a w K Q :=
 xl (by simp only[execOp,ho,hx];simp[go_sem]) hK
theorem jfL{c x y:Operand}{b:Bool}{v u z:Value}(ho:o.op=Op.pick c x y)(hc:a.eval c=.bool b)(hx:a.eval x=v)(hy:a.eval y=u)(hz:z=if b=true then v else u)(hK:K (a.put o.dst z) w):Oper.wp Tryz.prog o a w K Q:=by
 subst hz
 exact xl (by simp only[execOp,ho,hc,hx,hy];cases b<;>simp[go_sem]) hK
theorem jca{x y:Operand}{m n:Int}(ho:o.op=Op.binOp BinOp.neq 3 x y 3)(hx:a.eval x=.int .i64 m)(hy:a.eval y=.int .i64 n)(hK:K (a.put o.dst (.bool (m != n))) w):Oper.wp Tryz.prog o a w K Q :=
 xl (by simp only[execOp,ho,hx,hy];simp[go_sem]) hK
theorem JJ{x:Operand}{T:TypeId}{k b i j:Nat}(hf:(Instr.fieldAt T (.pointer (some ⟨b,i,none⟩)) k).run Tryz.prog w=.ok (.pointer (some ⟨b,j,none⟩)) w)(ho:o.op=Op.fieldAddr T x k)(hx:a.eval x=.pointer (some ⟨b,i,none⟩))(hK:K (a.put o.dst (.pointer (some ⟨b,j,none⟩))) w):Oper.wp Tryz.prog o a w K Q :=
 xl (by simp only[execOp,ho,hx];simp[hf]) hK
theorem qI{x:Operand}{T:TypeId}{b i:Nat}{u:Value}(hl:(Instr.loadAt T (.pointer (some ⟨b,i,none⟩))).run Tryz.prog w=.ok u w)(ho:o.op=Op.load T x)(hx:a.eval x=.pointer (some ⟨b,i,none⟩))(hK:K (a.put o.dst u) w):Oper.wp Tryz.prog o a w K Q :=
 xl (by simp only[execOp,ho,hx];simp[hl]) hK
end
section
variable {o:Oper} {a:Act} {w:World} {K:Act->World->Prop} {Q:Exit->Act->World->Prop} {T:Value->World->Prop}
theorem xK{x:Operand}{u:Value}(F:Nat){T1:TypeId}(ho:o.op=Op.call {callee:=Callee.value (Operand.func F),args:=#[x],argTypes:=#[T1]})(hx:a.eval x=u)
  (en:∀args w,(callFunc F args).run Tryz.prog w=.ok (.enter F args) w) (hC:Calls Tryz.prog F #[u] w fun e w'=>∃v,e=.returned v/\T v w') (hK:∀v w',T v w'->K (a.put o.dst v) w'):Oper.wp Tryz.prog o a w K Q:=by
 unfold Oper.wp
 have e:(execOp a.eval o).run Tryz.prog w=.ok (.enter F #[u]) w:=by
  have hf:a.eval (.func F)=.func (.func F) #[] #[]:=rfl
  generalize a.eval=ρ at hx hf ⊢
  simp only[execOp,ho]
  simp[go_sem,resolve,invoke,hx,hf,en]
 rw[e]
 refine hC.mono ?_
 rintro e w' ⟨v,rfl,h⟩
 exact hK v w' h
theorem Gv{x y:Operand}{u z:Value}(F:Nat){T1 T2:TypeId}(ho:o.op=Op.call {callee:=Callee.value (Operand.func F),args:=#[x,y],argTypes:=#[T1,T2]})(hx:a.eval x=u)(hy:a.eval y=z)
  (en:∀args w,(callFunc F args).run Tryz.prog w=.ok (.enter F args) w) (hC:Calls Tryz.prog F #[u,z] w fun e w'=>∃v,e=.returned v/\T v w') (hK:∀v w',T v w'->K (a.put o.dst v) w'):Oper.wp Tryz.prog o a w K Q:=by
 unfold Oper.wp
 have e:(execOp a.eval o).run Tryz.prog w=.ok (.enter F #[u,z]) w:=by
  have hf:a.eval (.func F)=.func (.func F) #[] #[]:=rfl
  generalize a.eval=ρ at hx hy hf ⊢
  simp only[execOp,ho]
  simp[go_sem,resolve,invoke,hx,hy,hf,en]
 rw[e]
 refine hC.mono ?_
 rintro e w' ⟨v,rfl,h⟩
 exact hK v w' h
end
section
variable {o:Oper} {a:Act} {w:World} {K:Act->World->Prop} {Q:Exit->Act->World->Prop}
theorem jfK{x y:Operand}{m n:Int}(hw:IntKind.i64.wrap (m-n)=m-n)(ho:o.op=Op.binOp BinOp.sub 3 x y 3)(hx:a.eval x=.int .i64 m)(hy:a.eval y=.int .i64 n)(hK:K (a.put o.dst (.int .i64 (m-n))) w):Oper.wp Tryz.prog o a w K Q :=
 xl (by simp only[execOp,ho,hx,hy];simp[go_sem,hw]) hK
theorem Qm{x y:Operand}{T:TypeId}{u z p:Value}(hr:(Instr.indexAt T u z).run Tryz.prog w=.ok p w)(ho:o.op=Op.indexAddr T x y)(hx:a.eval x=u)(hy:a.eval y=z)(hK:K (a.put o.dst p) w):Oper.wp Tryz.prog o a w K Q :=
 xl (by simp only[execOp,ho,hx,hy];simp[hr]) hK
theorem Gu{x:Operand}{T:TypeId}{p u:Value}(hl:(Instr.loadAt T p).run Tryz.prog w=.ok u w)(ho:o.op=Op.load T x)(hx:a.eval x=p)(hK:K (a.put o.dst u) w):Oper.wp Tryz.prog o a w K Q :=
 xl (by simp only[execOp,ho,hx];simp[hl]) hK
end
section
variable {o:Oper} {a:Act} {w:World} {K:Act->World->Prop} {Q:Exit->Act->World->Prop}
theorem WT{v:Value}{w':World}(e:(execOp a.eval o).run Tryz.prog w=.ok (.value v) w')(hK:K (a.put o.dst v) w'):Oper.wp Tryz.prog o a w K Q:=by
 unfold Oper.wp
 rw[e];exact hK
theorem jcb{x:Operand}{k i:Int}{fa:Option Addr}{fn fc:Nat}(ho:o.op=Op.buildSlice 37 1 #[(0,x)])(hx:a.eval x=.agg #[.int .i64 k,.int .i64 i,.slice fa fn fc])
  (hK:K (a.put o.dst (.slice (some ⟨w.heap.size,0,none⟩) 1 1)) (w.alloc (.cells #[.int .i64 k,.int .i64 i,.slice fa fn fc] 40))):Oper.wp Tryz.prog o a w K Q:=by
 refine WT ?_ hK
 simp only[execOp,ho]
 rw[show(Array.map (fun(p:Nat×Operand)=>match p with | (i,x)=>(i,a.eval x)) #[((0:Nat),x)])=#[((0:Nat),Value.agg #[.int .i64 k,.int .i64 i,.slice fa fn fc])] from by rw[<- hx];simp]
 kernel_rfl
end
end Go.Proofs.YtmdhainabeljpaaGreatDoor
namespace Go.Proofs.YtmdhainabeljpaaGreatDoor
open Go.RowKit Go.Shelf
section
variable {K:Act->World->Prop} {Q:Exit->Act->World->Prop} {o:Oper} {a:Act} {w:World}
theorem jb8{x y z:Operand}{s:ByteArray}{i j:Nat}(ho:o.op=Op.slice 9 x (some y) (some z) none)(hx:a.eval x=.string s)(hy:a.eval y=.int .i64 (i:Nat))(hz:a.eval z=.int .i64 (j:Nat))(hij:i<=j)(hj:j<=s.size)(hK:K (a.put o.dst (.string (s.extract i j))) w):Oper.wp Tryz.prog o a w K Q:=by
 refine WT ?_ hK
 have h2:(i:Int)<=(j:Int):=by omega
 have h3:(j:Int)<=(s.size:Int):=by omega
 generalize a.eval=ρ at hx hy hz ⊢
 simp only[execOp,ho]
 simp[go_sem,hx,hy,hz,Result.andThen,h2,h3]
theorem jb9{x y:Operand}{s:ByteArray}{i:Nat}(ho:o.op=Op.slice 9 x (some y) none none)(hx:a.eval x=.string s)(hy:a.eval y=.int .i64 (i:Nat))(hij:i<=s.size)(hK:K (a.put o.dst (.string (s.extract i s.size))) w):Oper.wp Tryz.prog o a w K Q:=by
 refine WT ?_ hK
 have h2:(i:Int)<=(s.size:Int):=by omega
 generalize a.eval=ρ at hx hy ⊢
 simp only[execOp,ho]
 simp[go_sem,hx,hy,Result.andThen,h2]
end
def vi:List Oper:=[
 {dst:=some 19,op:=Op.load 37 (Operand.tmp 3),type:=37,pos := "amend.go:74",after:=#[],guard:=none},
 {dst:=some 20,op:=Op.load 9 (Operand.tmp 1),type:=9,pos := "amend.go:74",after:=#[],guard:=none},
 {dst:=some 21,op:=Op.load 3 (Operand.tmp 4),type:=3,pos := "amend.go:74",after:=#[],guard:=none},
 {dst:=some 22,op:=Op.fieldAddr 76 (Operand.tmp 5) 1,type:=0,pos := "amend.go:74",after:=#[],guard:=none},
 {dst:=some 23,op:=Op.load 3 (Operand.tmp 22),type:=3,pos := "amend.go:74",after:=#[{on:=3,ground:=Ground.data}],guard:=none},
 {dst:=some 24,op:=Op.slice 9 (Operand.tmp 20) (some (Operand.tmp 21)) (some (Operand.tmp 23)) none,type:=9,pos := "amend.go:74",after:=#[{on:=1,ground:=Ground.data},{on:=2,ground:=Ground.data},{on:=4,ground:=Ground.data}],guard:=none},
 {dst:=some 25,op:=Op.call {callee:=Callee.value (Operand.func 86),args:=#[Operand.tmp 24],argTypes:=#[9]},type:=40,pos := "amend.go:74",after:=#[{on:=5,ground:=Ground.data}],guard:=none},
 {dst:=some 26,op:=Op.buildSlice 37 1 #[(0,Operand.tmp 25)],type:=37,pos := "amend.go:74",after:=#[{on:=6,ground:=Ground.data}],guard:=none},
 {dst:=some 27,op:=Op.call {callee:=Callee.builtin Builtin.append,args:=#[Operand.tmp 19,Operand.tmp 26],argTypes:=#[37,37]},type:=37,pos := "amend.go:74",after:=#[{on:=0,ground:=Ground.data},{on:=7,ground:=Ground.data},{on:=6,ground:=Ground.chain}],guard:=none},
 {dst:=none,op:=Op.store 37 (Operand.tmp 3) (Operand.tmp 27),type:=0,pos := "amend.go:74",after:=#[{on:=8,ground:=Ground.data},{on:=8,ground:=Ground.chain},{on:=0,ground:=Ground.phase},{on:=1,ground:=Ground.phase},{on:=2,ground:=Ground.phase},{on:=3,ground:=Ground.phase},{on:=4,ground:=Ground.phase},{on:=5,ground:=Ground.phase},{on:=6,ground:=Ground.phase},{on:=7,ground:=Ground.phase},{on:=8,ground:=Ground.phase}],guard:=none}]
def Jn(i:Nat):Option Nat:=(vi[i]?).bind (·.dst)
theorem jf0:∀i,i<8->∀k,k<8->Jn i≠none->Jn i=Jn k->i=k:=by decide +kernel
theorem jgW:∀i,i<8->(Jn i).getD 0<37:=by decide +kernel
theorem jfQ:∀i:Fin 10,∀e∈(vi[i.1]'(by exact i.2)).after,Region.binds .any e=true->e.on<i.1:=by decide +kernel
def je3(bb tb nb eb lo:Nat)(bv:Value)(s:ByteArray)(beg at_:Nat)(PL:Value->World->Prop):List (Value->World->Prop):=[
 fun v w=>v=bv,
 fun v w=>v=.string s,
 fun v w=>v=.int .i64 (beg:Nat),
 fun v w=>v=.pointer (some ⟨eb,1,none⟩),
 fun v w=>v=.int .i64 (at_:Nat),
 fun v w=>v=.string (s.extract beg at_),
 fun v w=>PL v w,
 fun v w=>∃b u cs,v=.slice (some ⟨b,0,none⟩) 1 1/\PL u w/\lo<=b/\u=.agg cs/\jd w b 40 cs]
theorem jas(a0:Act)(w0:World)(bb tb nb eb lo:Nat)(bv:Value)(s:ByteArray)(beg at_:Nat)(PL:Value->World->Prop)(Q:Exit->Act->World->Prop)
  (hsz:a0.tmps.size=37) (h3:a0.tmps[3]?=some (.pointer (some ⟨bb,0,none⟩))) (h1:a0.tmps[1]?=some (.pointer (some ⟨tb,0,none⟩))) (h4:a0.tmps[4]?=some (.pointer (some ⟨nb,0,none⟩))) (h5:a0.tmps[5]?=some (.pointer (some ⟨eb,0,none⟩)))
  (hS:∀W,Below w0.heap.size w0 W->W.cell? ⟨bb,0,none⟩=some bv/\W.cell? ⟨tb,0,none⟩=some (.string s)/\W.cell? ⟨nb,0,none⟩=some (.int .i64 (beg:Nat))/\W.cell? ⟨eb,1,none⟩=some (.int .i64 (at_:Nat))) (hlo:lo<=w0.heap.size)
  (hle:beg<=at_/\at_<=s.size)
  (hPM:∀v x y,Below x.heap.size x y->PL v x->PL v y) (hPF:∀v w,PL v w->∃k i fa fn fc,v=.agg #[.int .i64 k,.int .i64 i,.slice fa fn fc])
  (hC6:∀(W:World) (_:Below w0.heap.size w0 W),Calls Tryz.prog 86 #[.string (s.extract beg at_)] W fun e w=>∃v,e=.returned v/\(PL v w)/\Below W.heap.size W w)
  (hQ:∀(y0 y1 y2 y3 y4 y5 y6 y7:Value) (w:World),Below w0.heap.size w0 w->((fun(v:Value) (w:World)=>v=bv) y0 w)->((fun(v:Value) (w:World)=>∃b u cs,v=.slice (some ⟨b,0,none⟩) 1 1/\PL u w/\lo<=b/\u=.agg cs/\jd w b 40 cs) y7 w)->wpList Tryz.prog vi.toArray Q [{dst:=some 27,op:=Op.call {callee:=Callee.builtin Builtin.append,args:=#[Operand.tmp 19,Operand.tmp 26],argTypes:=#[37,37]},type:=37,pos := "amend.go:74",after:=#[{on:=0,ground:=Ground.data},{on:=7,ground:=Ground.data},{on:=6,ground:=Ground.chain}],guard:=none},{dst:=none,op:=Op.store 37 (Operand.tmp 3) (Operand.tmp 27),type:=0,pos := "amend.go:74",after:=#[{on:=8,ground:=Ground.data},{on:=8,ground:=Ground.chain},{on:=0,ground:=Ground.phase},{on:=1,ground:=Ground.phase},{on:=2,ground:=Ground.phase},{on:=3,ground:=Ground.phase},{on:=4,ground:=Ground.phase},{on:=5,ground:=Ground.phase},{on:=6,ground:=Ground.phase},{on:=7,ground:=Ground.phase},{on:=8,ground:=Ground.phase}],guard:=none}] {a0 with tmps:=[(19,y0),(20,y1),(21,y2),(22,y3),(23,y4),(24,y5),(25,y6),(26,y7)].foldl (fun u p=>u.setIfInBounds p.1 p.2) a0.tmps} w) :
  wpAny Tryz.prog .any vi.toArray Q vi.toArray.size (Array.replicate vi.toArray.size false) a0 w0:=by
 have M:jff (je3 bb tb nb eb lo bv s beg at_ PL):=⟨fun v x y hb h=>h,fun v x y hb h=>h,fun v x y hb h=>h,fun v x y hb h=>h,fun v x y hb h=>h,fun v x y hb h=>h,fun v x y hb h=>hPM v x y hb h,fun v x y hb h=>by obtain⟨b,u,cs,e,h1,h2,h3,h4⟩:=h;exact⟨b,u,cs,e,hPM u x y hb h1,h2,h3,jb h4 hb h4.lt⟩,trivial⟩
 refine vC 8 2 (by kernel_rfl) (by decide) a0 w0 Jn (je3 bb tb nb eb lo bv s beg at_ PL) M (by kernel_rfl) (by kernel_rfl) (by kernel_rfl)
  (fun i o _ ho=>by unfold Jn;rw[ho];rfl)
  (fun i k d hi hk h1 h2=>jf0 i hi k hk (by rw[h1];intro q;cases q) (by rw[h1,h2]))
  (fun i d hi h=>by have:=jgW i hi;rw[h]at this;rw[hsz];exact this)
  (fun i o e ho he hb=>by
   obtain⟨hi,rfl⟩:=List.getElem?_eq_some_iff.1 ho
   exact jfQ ⟨i,hi⟩ e he hb)
  ?step ?fin
 case fin =>
  intro a w hd hs hf hv hR
  obtain⟨y0,hy0,pv0⟩:=hv 0 19 (by decide) rfl
  obtain⟨y1,hy1,pv1⟩:=hv 1 20 (by decide) rfl
  obtain⟨y2,hy2,pv2⟩:=hv 2 21 (by decide) rfl
  obtain⟨y3,hy3,pv3⟩:=hv 3 22 (by decide) rfl
  obtain⟨y4,hy4,pv4⟩:=hv 4 23 (by decide) rfl
  obtain⟨y5,hy5,pv5⟩:=hv 5 24 (by decide) rfl
  obtain⟨y6,hy6,pv6⟩:=hv 6 25 (by decide) rfl
  obtain⟨y7,hy7,pv7⟩:=hv 7 26 (by decide) rfl
  rw[Zc (a:=a) (a0:=a0) [(19,y0),(20,y1),(21,y2),(22,y3),(23,y4),(24,y5),(25,y6),(26,y7)] hd hs (by
   intro p hp
   simp only[jkl,jj7,or_false]at hp
   rcases hp with rfl|rfl|rfl|rfl|rfl|rfl|rfl|rfl
   ·exact hy0
   ·exact hy1
   ·exact hy2
   ·exact hy3
   ·exact hy4
   ·exact hy5
   ·exact hy6
   ·exact hy7
   ) (fun j hj=>hf j (fun k hk q=>hj (by
    have:∀k,k<8->(Jn k).all (fun d=>[19,20,21,22,23,24,25,26].contains d)=true:=by decide +kernel
    have h1:=this k hk
    rw[q]at h1
    simpa using h1)))]
  exact hQ y0 y1 y2 y3 y4 y5 y6 y7 w hR pv0 pv7
 case step =>
 intro i o a w hi ho hs hf dep hR
 have e3:=evT ((hf 3 (by decide +kernel)).trans h3)
 have e1:=evT ((hf 1 (by decide +kernel)).trans h1)
 have e4:=evT ((hf 4 (by decide +kernel)).trans h4)
 have e5:=evT ((hf 5 (by decide +kernel)).trans h5)
 rcases(by omega:i=0\/i=1\/i=2\/i=3\/i=4\/i=5\/i=6\/i=7) with rfl|rfl|rfl|rfl|rfl|rfl|rfl|rfl
 ·have ho2:some _=some o:=ho
  obtain rfl:=jh9 ho2
  exact .inl ⟨zj rfl,fun K hK=>qI (by simp[go_sem,(hS w hR).1]) rfl e3 (hK _ _ (jh8 _ _) rfl)⟩
 ·have ho2:some _=some o:=ho
  obtain rfl:=jh9 ho2
  exact .inl ⟨zj rfl,fun K hK=>qI (by simp[go_sem,(hS w hR).2.1]) rfl e1 (hK _ _ (jh8 _ _) rfl)⟩
 ·have ho2:some _=some o:=ho
  obtain rfl:=jh9 ho2
  exact .inl ⟨zj rfl,fun K hK=>qI (by simp[go_sem,(hS w hR).2.2.1]) rfl e4 (hK _ _ (jh8 _ _) rfl)⟩
 ·have ho2:some _=some o:=ho
  obtain rfl:=jh9 ho2
  exact .inl ⟨zj rfl,fun K hK=>JJ (by simp[go_sem]) rfl e5 (hK _ _ (jh8 _ _) rfl)⟩
 ·have ho2:some _=some o:=ho
  obtain rfl:=jh9 ho2
  obtain⟨_,hv3,rfl⟩:∃v,a.tmps[22]?=some v/\(fun(v:Value) (w:World)=>v=.pointer (some ⟨eb,1,none⟩)) v w:=dep ⟨3,Ground.data⟩ (by first|simp|simp[vi]) rfl 22 rfl
  exact .inl ⟨zj rfl,fun K hK=>qI (by simp[go_sem,(hS w hR).2.2.2]) rfl (evT hv3) (hK _ _ (jh8 _ _) rfl)⟩
 ·have ho2:some _=some o:=ho
  obtain rfl:=jh9 ho2
  obtain⟨_,hv1,rfl⟩:∃v,a.tmps[20]?=some v/\(fun(v:Value) (w:World)=>v=.string s) v w:=dep ⟨1,Ground.data⟩ (by first|simp|simp[vi]) rfl 20 rfl
  obtain⟨_,hv2,rfl⟩:∃v,a.tmps[21]?=some v/\(fun(v:Value) (w:World)=>v=.int .i64 (beg:Nat)) v w:=dep ⟨2,Ground.data⟩ (by first|simp|simp[vi]) rfl 21 rfl
  obtain⟨_,hv4,rfl⟩:∃v,a.tmps[23]?=some v/\(fun(v:Value) (w:World)=>v=.int .i64 (at_:Nat)) v w:=dep ⟨4,Ground.data⟩ (by first|simp|simp[vi]) rfl 23 rfl
  exact .inl ⟨zj rfl,fun K hK=>jb8 rfl (evT hv1) (evT hv2) (evT hv4) hle.1 hle.2 (hK _ _ (jh8 _ _) rfl)⟩
 ·have ho2:some _=some o:=ho
  obtain rfl:=jh9 ho2
  obtain⟨_,hv5,rfl⟩:∃v,a.tmps[24]?=some v/\(fun(v:Value) (w:World)=>v=.string (s.extract beg at_)) v w:=dep ⟨5,Ground.data⟩ (by first|simp|simp[vi]) rfl 24 rfl
  exact .inl ⟨zj rfl,fun K hK=>xK 86 rfl (evT hv5) (enters_of (P:=Tryz.prog) Tryz.func86 (by kernel_rfl) rfl) (hC6 w hR) (fun v w' h=>hK v w' h.2 h.1)⟩
 have ho2:some _=some o:=ho
 obtain rfl:=jh9 ho2
 obtain⟨z6,hv6,pv6⟩:∃v,a.tmps[25]?=some v/\(fun(v:Value) (w:World)=>PL v w) v w:=dep ⟨6,Ground.data⟩ (by first|simp|simp[vi]) rfl 25 rfl
 exact .inl ⟨zj rfl,fun K hK=>by obtain⟨k1,i1,fa1,fn1,fc1,rfl⟩:=hPF _ _ pv6;exact jcb rfl (evT hv6) (hK _ _ ((jh8 _ _).alloc (jh6 _) _) ⟨w.heap.size,_,_,rfl,hPM _ _ _ ((jh8 _ _).alloc (jh6 _) _) pv6,jiv hlo hR.size,rfl,jd.new _ _ _⟩)⟩
def yc:List Oper:=[
 {dst:=some 30,op:=Op.load 37 (Operand.tmp 3),type:=37,pos := "amend.go:78",after:=#[],guard:=none},
 {dst:=some 31,op:=Op.load 9 (Operand.tmp 1),type:=9,pos := "amend.go:78",after:=#[],guard:=none},
 {dst:=some 32,op:=Op.load 3 (Operand.tmp 4),type:=3,pos := "amend.go:78",after:=#[],guard:=none},
 {dst:=some 33,op:=Op.slice 9 (Operand.tmp 31) (some (Operand.tmp 32)) none none,type:=9,pos := "amend.go:78",after:=#[{on:=1,ground:=Ground.data},{on:=2,ground:=Ground.data}],guard:=none},
 {dst:=some 34,op:=Op.call {callee:=Callee.value (Operand.func 86),args:=#[Operand.tmp 33],argTypes:=#[9]},type:=40,pos := "amend.go:78",after:=#[{on:=3,ground:=Ground.data}],guard:=none},
 {dst:=some 35,op:=Op.buildSlice 37 1 #[(0,Operand.tmp 34)],type:=37,pos := "amend.go:78",after:=#[{on:=4,ground:=Ground.data}],guard:=none},
 {dst:=some 36,op:=Op.call {callee:=Callee.builtin Builtin.append,args:=#[Operand.tmp 30,Operand.tmp 35],argTypes:=#[37,37]},type:=37,pos := "amend.go:78",after:=#[{on:=0,ground:=Ground.data},{on:=5,ground:=Ground.data},{on:=4,ground:=Ground.chain}],guard:=none},
 {dst:=some 2,op:=Op.assign (Operand.tmp 36),type:=37,pos := "amend.go:78",after:=#[{on:=6,ground:=Ground.data},{on:=6,ground:=Ground.chain},{on:=0,ground:=Ground.phase},{on:=1,ground:=Ground.phase},{on:=2,ground:=Ground.phase},{on:=3,ground:=Ground.phase},{on:=4,ground:=Ground.phase},{on:=5,ground:=Ground.phase},{on:=6,ground:=Ground.phase}],guard:=none}]
def Jm(i:Nat):Option Nat:=(yc[i]?).bind (·.dst)
theorem jfZ:∀i,i<6->∀k,k<6->Jm i≠none->Jm i=Jm k->i=k:=by decide +kernel
theorem jgV:∀i,i<6->(Jm i).getD 0<37:=by decide +kernel
theorem jfP:∀i:Fin 8,∀e∈(yc[i.1]'(by exact i.2)).after,Region.binds .any e=true->e.on<i.1:=by decide +kernel
def je2(bb tb nb lo:Nat)(bv:Value)(s:ByteArray)(beg:Nat)(PL:Value->World->Prop):List (Value->World->Prop):=[
 fun v w=>v=bv,
 fun v w=>v=.string s,
 fun v w=>v=.int .i64 (beg:Nat),
 fun v w=>v=.string (s.extract beg s.size),
 fun v w=>PL v w,
 fun v w=>∃b u cs,v=.slice (some ⟨b,0,none⟩) 1 1/\PL u w/\lo<=b/\u=.agg cs/\jd w b 40 cs]
theorem jar(a0:Act)(w0:World)(bb tb nb lo:Nat)(bv:Value)(s:ByteArray)(beg:Nat)(PL:Value->World->Prop)(Q:Exit->Act->World->Prop)
  (hsz:a0.tmps.size=37) (h3:a0.tmps[3]?=some (.pointer (some ⟨bb,0,none⟩))) (h1:a0.tmps[1]?=some (.pointer (some ⟨tb,0,none⟩))) (h4:a0.tmps[4]?=some (.pointer (some ⟨nb,0,none⟩)))
  (hS:∀W,Below w0.heap.size w0 W->W.cell? ⟨bb,0,none⟩=some bv/\W.cell? ⟨tb,0,none⟩=some (.string s)/\W.cell? ⟨nb,0,none⟩=some (.int .i64 (beg:Nat))/\True) (hlo:lo<=w0.heap.size)
  (hle:beg<=s.size)
  (hPM:∀v x y,Below x.heap.size x y->PL v x->PL v y) (hPF:∀v w,PL v w->∃k i fa fn fc,v=.agg #[.int .i64 k,.int .i64 i,.slice fa fn fc])
  (hC4:∀(W:World) (_:Below w0.heap.size w0 W),Calls Tryz.prog 86 #[.string (s.extract beg s.size)] W fun e w=>∃v,e=.returned v/\(PL v w)/\Below W.heap.size W w)
  (hQ:∀(y0 y1 y2 y3 y4 y5:Value) (w:World),Below w0.heap.size w0 w->((fun(v:Value) (w:World)=>v=bv) y0 w)->((fun(v:Value) (w:World)=>∃b u cs,v=.slice (some ⟨b,0,none⟩) 1 1/\PL u w/\lo<=b/\u=.agg cs/\jd w b 40 cs) y5 w)->wpList Tryz.prog yc.toArray Q [{dst:=some 36,op:=Op.call {callee:=Callee.builtin Builtin.append,args:=#[Operand.tmp 30,Operand.tmp 35],argTypes:=#[37,37]},type:=37,pos := "amend.go:78",after:=#[{on:=0,ground:=Ground.data},{on:=5,ground:=Ground.data},{on:=4,ground:=Ground.chain}],guard:=none},{dst:=some 2,op:=Op.assign (Operand.tmp 36),type:=37,pos := "amend.go:78",after:=#[{on:=6,ground:=Ground.data},{on:=6,ground:=Ground.chain},{on:=0,ground:=Ground.phase},{on:=1,ground:=Ground.phase},{on:=2,ground:=Ground.phase},{on:=3,ground:=Ground.phase},{on:=4,ground:=Ground.phase},{on:=5,ground:=Ground.phase},{on:=6,ground:=Ground.phase}],guard:=none}] {a0 with tmps:=[(30,y0),(31,y1),(32,y2),(33,y3),(34,y4),(35,y5)].foldl (fun u p=>u.setIfInBounds p.1 p.2) a0.tmps} w) :
  wpAny Tryz.prog .any yc.toArray Q yc.toArray.size (Array.replicate yc.toArray.size false) a0 w0:=by
 have M:jff (je2 bb tb nb lo bv s beg PL):=⟨fun v x y hb h=>h,fun v x y hb h=>h,fun v x y hb h=>h,fun v x y hb h=>h,fun v x y hb h=>hPM v x y hb h,fun v x y hb h=>by obtain⟨b,u,cs,e,h1,h2,h3,h4⟩:=h;exact⟨b,u,cs,e,hPM u x y hb h1,h2,h3,jb h4 hb h4.lt⟩,trivial⟩
 refine vC 6 2 (by kernel_rfl) (by decide) a0 w0 Jm (je2 bb tb nb lo bv s beg PL) M (by kernel_rfl) (by kernel_rfl) (by kernel_rfl)
  (fun i o _ ho=>by unfold Jm;rw[ho];rfl)
  (fun i k d hi hk h1 h2=>jfZ i hi k hk (by rw[h1];intro q;cases q) (by rw[h1,h2]))
  (fun i d hi h=>by have:=jgV i hi;rw[h]at this;rw[hsz];exact this)
  (fun i o e ho he hb=>by
   obtain⟨hi,rfl⟩:=List.getElem?_eq_some_iff.1 ho
   exact jfP ⟨i,hi⟩ e he hb)
  ?step ?fin
 case fin =>
  intro a w hd hs hf hv hR
  obtain⟨y0,hy0,pv0⟩:=hv 0 30 (by decide) rfl
  obtain⟨y1,hy1,pv1⟩:=hv 1 31 (by decide) rfl
  obtain⟨y2,hy2,pv2⟩:=hv 2 32 (by decide) rfl
  obtain⟨y3,hy3,pv3⟩:=hv 3 33 (by decide) rfl
  obtain⟨y4,hy4,pv4⟩:=hv 4 34 (by decide) rfl
  obtain⟨y5,hy5,pv5⟩:=hv 5 35 (by decide) rfl
  rw[Zc (a:=a) (a0:=a0) [(30,y0),(31,y1),(32,y2),(33,y3),(34,y4),(35,y5)] hd hs (by
   intro p hp
   simp only[jkl,jj7,or_false]at hp
   rcases hp with rfl|rfl|rfl|rfl|rfl|rfl
   ·exact hy0
   ·exact hy1
   ·exact hy2
   ·exact hy3
   ·exact hy4
   ·exact hy5
   ) (fun j hj=>hf j (fun k hk q=>hj (by
    have:∀k,k<6->(Jm k).all (fun d=>[30,31,32,33,34,35].contains d)=true:=by decide +kernel
    have h1:=this k hk
    rw[q]at h1
    simpa using h1)))]
  exact hQ y0 y1 y2 y3 y4 y5 w hR pv0 pv5
 case step =>
 intro i o a w hi ho hs hf dep hR
 have e3:=evT ((hf 3 (by decide +kernel)).trans h3)
 have e1:=evT ((hf 1 (by decide +kernel)).trans h1)
 have e4:=evT ((hf 4 (by decide +kernel)).trans h4)
 rcases(by omega:i=0\/i=1\/i=2\/i=3\/i=4\/i=5) with rfl|rfl|rfl|rfl|rfl|rfl
 ·have ho2:some _=some o:=ho
  obtain rfl:=jh9 ho2
  exact .inl ⟨zj rfl,fun K hK=>qI (by simp[go_sem,(hS w hR).1]) rfl e3 (hK _ _ (jh8 _ _) rfl)⟩
 ·have ho2:some _=some o:=ho
  obtain rfl:=jh9 ho2
  exact .inl ⟨zj rfl,fun K hK=>qI (by simp[go_sem,(hS w hR).2.1]) rfl e1 (hK _ _ (jh8 _ _) rfl)⟩
 ·have ho2:some _=some o:=ho
  obtain rfl:=jh9 ho2
  exact .inl ⟨zj rfl,fun K hK=>qI (by simp[go_sem,(hS w hR).2.2.1]) rfl e4 (hK _ _ (jh8 _ _) rfl)⟩
 ·have ho2:some _=some o:=ho
  obtain rfl:=jh9 ho2
  obtain⟨_,hv1,rfl⟩:∃v,a.tmps[31]?=some v/\(fun(v:Value) (w:World)=>v=.string s) v w:=dep ⟨1,Ground.data⟩ (by first|simp|simp[yc]) rfl 31 rfl
  obtain⟨_,hv2,rfl⟩:∃v,a.tmps[32]?=some v/\(fun(v:Value) (w:World)=>v=.int .i64 (beg:Nat)) v w:=dep ⟨2,Ground.data⟩ (by first|simp|simp[yc]) rfl 32 rfl
  exact .inl ⟨zj rfl,fun K hK=>jb9 rfl (evT hv1) (evT hv2) hle (hK _ _ (jh8 _ _) rfl)⟩
 ·have ho2:some _=some o:=ho
  obtain rfl:=jh9 ho2
  obtain⟨_,hv3,rfl⟩:∃v,a.tmps[33]?=some v/\(fun(v:Value) (w:World)=>v=.string (s.extract beg s.size)) v w:=dep ⟨3,Ground.data⟩ (by first|simp|simp[yc]) rfl 33 rfl
  exact .inl ⟨zj rfl,fun K hK=>xK 86 rfl (evT hv3) (enters_of (P:=Tryz.prog) Tryz.func86 (by kernel_rfl) rfl) (hC4 w hR) (fun v w' h=>hK v w' h.2 h.1)⟩
 have ho2:some _=some o:=ho
 obtain rfl:=jh9 ho2
 obtain⟨z4,hv4,pv4⟩:∃v,a.tmps[34]?=some v/\(fun(v:Value) (w:World)=>PL v w) v w:=dep ⟨4,Ground.data⟩ (by first|simp|simp[yc]) rfl 34 rfl
 exact .inl ⟨zj rfl,fun K hK=>by obtain⟨k1,i1,fa1,fn1,fc1,rfl⟩:=hPF _ _ pv4;exact jcb rfl (evT hv4) (hK _ _ ((jh8 _ _).alloc (jh6 _) _) ⟨w.heap.size,_,_,rfl,hPM _ _ _ ((jh8 _ _).alloc (jh6 _) _) pv4,jiv hlo hR.size,rfl,jd.new _ _ _⟩)⟩
end Go.Proofs.YtmdhainabeljpaaGreatDoor
namespace Go.Proofs.YtmdhainabeljpaaGreatDoor
open Go.RowKit Go.Shelf
attribute [local go_sem] jil
theorem jbZ{w:World}{lo g cap:Nat}{cur:Array Value}{t:TypeId}{size:Nat}(hlo:lo<=g)(hc:w.heap[g]?=some (.cells cur t (0,0)))(hm:cap<=maxLen)(hs:cur.size=cap*size):w.ownsRow lo t size (.slice (some ⟨g,0,none⟩) 0 cap) 0 [] :=
 ⟨by simp,.inr ⟨g,cap,cur,rfl,hlo,hc,jii _,hm,hs,by simp⟩⟩
theorem jd7(n:Nat)(hn:n<=1000000)(w:World):
  Calls Tryz.prog 178 #[.slice none 0 0,.int .i64 n] w fun e w'=>∃v,e=.returned v/\w'.ownsRow w.heap.size 71 2 v 0 []/\Below w.heap.size w w':=by
 obtain⟨i0,hi,hz0,hz1,hz2⟩:=info_parts Va
 have hw0:IntKind.i64.wrap ((n:Int)-0)=(n:Int):=by rw[Int.sub_zero];exact jiz _ (by omega)
 have hw1:IntKind.i64.wrap (n:Int)=(n:Int):=jiz _ (by omega)
 by_cases h0:n=0
 ·subst h0
  go_enter Tryz.func178,Tryz.ntmps178
  go_wp2_with fail
  go_ret
  exact⟨_,rfl,⟨rfl,.inl ⟨rfl,rfl⟩⟩,jh8 _ _⟩
 have hp:(0:Int)<(n:Int):=by omega
 have hr:=Lib.run_append_nil_zeros (P:=Tryz.prog) w 38 3 38 71 i0 (.agg #[.string ⟨#[]⟩,.string ⟨#[]⟩]) .i64 .i64 Tryz.underlying38 Tryz.underlying3 hi hz0 n (by omega) (by rw[hz1];decide) (by omega) (by rw[hz2];omega)
 have hge:=grownCap_ge w n 0 71
 have hcm:grownCap w n 0 71<=maxLen:=grownCap_le_maxLen w n 0 71 (by unfold maxLen;omega)
 generalize grownCap w n 0 71=cap at *
 have hZ:(Builtin.zeroCells (Value.agg #[.string ⟨#[]⟩,.string ⟨#[]⟩]).cells n++Builtin.zeroCells (Value.agg #[.string ⟨#[]⟩,.string ⟨#[]⟩]).cells (cap-n)).size=cap*2:=by
  rw[Array.size_append,xR,xR]
  show n*2+(cap-n)*2=cap*2
  omega
 generalize Builtin.zeroCells (Value.agg #[.string ⟨#[]⟩,.string ⟨#[]⟩]).cells n++Builtin.zeroCells (Value.agg #[.string ⟨#[]⟩,.string ⟨#[]⟩]).cells (cap-n)=Z at *
 have FIN:Hid ((w.drew.alloc (.cells Z 71)).ownsRow w.heap.size 71 2 (.slice (some ⟨w.heap.size,0,none⟩) 0 cap) 0 []/\Below w.heap.size w (w.drew.alloc (.cells Z 71))) :=
  ⟨jbZ (jh6 _) (by show(w.drew.heap.push _)[w.drew.heap.size]?=_;exact Array.getElem?_push_size) hcm hZ,(jh8 _ w).drew.alloc (jh6 _) _⟩
 clear hZ
 unfold maxLen at hcm
 go_enter Tryz.func178,Tryz.ntmps178
 go_wp2_with (at_builtin;refine Lib.wpList_append_run _ rfl _ _ _ _ rfl _ _ rfl rfl _ _ hr ?_)
 go_wp2_with fail
 go_ret
 exact⟨_,rfl,FIN.out.1,FIN.out.2⟩
def XO(rs:List (List Fld)):Nat:=(rs.map List.length).sum
theorem jcj{rs:List (List Fld)}{k:Nat}{r:List Fld}(h:rs[k]?=some r):XO (rs.take (k+1))=XO (rs.take k)+r.length:=by
 unfold XO
 rw[jiK,h,ji1,List.sum_append];simp
theorem QX(rs:List (List Fld))(k:Nat):XO (rs.take k)<=XO rs:=by
 unfold XO
 conv=>rhs;rw[<- jiy k rs,ji1,List.sum_append]
 omega
theorem Vh(rs:List (List Fld)):rs.flatten.length=XO rs:=by unfold XO;rw[List.length_flatten]
theorem KQ{rs:List (List Fld)}{k:Nat}{r:List Fld}(h:rs[k]?=some r):(rs.take (k+1)).flatten=(rs.take k).flatten++r:=by
 rw[jiK,h];simp
theorem XI(a b:List Fld):jt (a++b)=jt a++jt b:=by unfold jt;rw[jiG]
theorem YJ{w0 w:World}{v:Value}{vs:List Value}{rs:List (List Fld)}(h:jbo w0 w v vs rs)(hl:XO rs<=1000000)(hn:rs.length<=1000000):
  Calls Tryz.prog 156 #[v] w fun e w'=>∃u,e=.returned u/\w'.ownsRow w.heap.size 71 2 u rs.flatten.length (jt rs.flatten)/\Below w.heap.size w w':=by
 obtain⟨i0,hi,hz0,hz1,hz2⟩:=info_parts Va
 have hvl:=h.len
 have hrow:=h.row
 obtain⟨va,vc,rfl,hvc⟩:=jg hrow
 have EACH:=jh5 (fun(k:Nat) (r:List Fld) (hr:rs[k]?=some r)=>show ∃b fv,va=some ⟨b,0,none⟩/\b<w.heap.size/\w.cell? ⟨b,k,none⟩=some fv/\w.ownsRow w0.heap.size 71 2 fv r.length (jt r) from by
  have hk:=(List.getElem?_eq_some_iff.1 hr).1
  obtain⟨x,hx⟩:∃x,vs[k]?=some x:=⟨_,jia (by omega)⟩
  rcases jiY hrow with ⟨_,hn⟩|⟨g,cap,hg⟩
  ·omega
  injection hg with hg1 _ _
  subst hg1
  refine⟨g,x,rfl,(jje hrow g rfl).2,by rw[jin hrow k (by omega)];exact hx,h.each k x r hx hr⟩)
 have h0s:=h.below.size
 clear h hrow
 rw[hvl]at hvc ⊢
 have HL:=jh5 hl
 go_enter Tryz.func156,Tryz.ntmps156
 go_wp2_with fail
 go_loopw [3,11] (fun sv i wr=>∃k:Nat,k<=rs.length/\i=.int .i64 k/\sv=.int .i64 (XO (rs.take k):Nat)/\wr=w) (fun _ i _=>rs.length-(intOf i).toNat)
 case atStart=>exact⟨0,jii _,rfl,rfl,rfl⟩
 case round =>
 obtain⟨k,hk,rfl,rfl,hwr⟩:=hrel
 subst wr
 have hsum:=QX rs k
 by_cases hlt:k<rs.length
 ·obtain⟨r,hr⟩:∃r,rs[k]?=some r:=⟨_,jia hlt⟩
  obtain⟨b,fv,rfl,hbb,c0,hf⟩:=EACH.out k r hr
  obtain⟨fa,fc,rfl,_⟩:=jg hf
  have hsum1:=QX rs (k+1)
  have S1:Hid (XO (rs.take (k+1))=XO (rs.take k)+r.length):=jcj hr
  rw[S1.out]at hsum1
  clear hr hf
  generalize hLK:XO (rs.take k)=LK at *
  have hw:IntKind.i64.wrap ((LK:Int)+(r.length:Int))=(LK:Int)+(r.length:Int):=jiz _ (by omega)
  have hge:¬((LK:Int)+(r.length:Int)<0):=by omega
  go_wp2_with fail
  go_roundw
  case rel=>exact⟨k+1,hlt,by go_num,by rw[S1.out];go_num,by first | trivial | rfl⟩
  case measure=>simp[intOf];omega
 obtain rfl:k=rs.length:=by omega
 rw[jiF]at *
 have GW:=jh5 (jd7 (XO rs) hl w)
 go_wp2_with fail
 refine GW.out.mono ?_
 rintro e w2 ⟨u,rfl,hu,b2⟩
 have HB2:=jh5 b2
 have hu':w2.ownsRow w.heap.size 71 2 u (rs.take 0).flatten.length (jt (rs.take 0).flatten):=hu
 clear GW b2 hu
 go_wp2_with fail
 go_loopw [6,27] (fun ux i wr=>∃(j:Nat) (uv:Value),uv=ux/\j<=rs.length/\i=.int .i64 j/\wr.ownsRow w.heap.size 71 2 uv (rs.take j).flatten.length (jt (rs.take j).flatten)/\Below w.heap.size w wr) (fun _ i _=>rs.length-(intOf i).toNat)
 case atStart=>exact⟨0,u,rfl,jii _,rfl,hu',HB2.out⟩
 case round =>
 obtain⟨j,uv,rfl,hj,rfl,hrow,hb⟩:=hrel
 obtain⟨ua,uc,rfl,huc⟩:=jg hrow
 by_cases hjl:j<rs.length
 ·obtain⟨r,hr⟩:∃r,rs[j]?=some r:=⟨_,jia hjl⟩
  obtain⟨b,fv,rfl,hbb,c0,hf⟩:=EACH.out j r hr
  have hfq:=zu hf hb (jh6 _)
  replace c0:=(hb.cell (p:=⟨b,j,none⟩) hbb).trans c0
  have e1:=KQ hr
  have s1:=QX rs (j+1)
  rw[<- Vh,e1,jh7]at s1
  have E1:Hid ((rs.take (j+1)).flatten=(rs.take j).flatten++r):=e1
  have hsz:=hb.size
  have HROW:=jh5 hrow
  have HB:=jh5 hb
  have fle:(rs.take j).flatten.length+r.length<=1000000:=by have:=HL.out;omega
  have hone:∀u∈jt r,u.oneCell'=true:=fun u hu=>by
   obtain⟨f,_,h2⟩:=List.mem_flatMap.1 hu
   simp at h2
   rcases h2 with rfl|rfl<;>rfl
  have hcl:=xL r
  rcases jiY hfq with ⟨rfl,hr0⟩|⟨g,cap,rfl⟩
  ·clear hf hfq hr e1 hrow hb s1
   generalize hFL:(rs.take j).flatten.length=fl at *
   go_wp2_with (at_builtin;refine wpList_append_own_none rfl _ _ 38 rfl w.heap.size 71 i0 2 Tryz.underlying38 hi _ _ _ rfl HROW.out rfl ?_)
   go_wp2_with fail
   go_roundw
   case rel =>
    have er:r=[]:=List.length_eq_zero_iff.1 hr0
    exact⟨j+1,_,rfl,hjl,by go_num,by rw[E1.out,er,jix,hFL];exact HROW.out,HB.out⟩
   case measure=>simp[intOf];omega
  have HC:∀(q:Nat) u,(jt r)[q]?=some u->wr.cell? ((⟨g,0,none⟩:Addr).add q)=some u:=fun q u hq=>by
   have hql:=(List.getElem?_eq_some_iff.1 hq).1
   rw[Addr.add_lit,jiH,jin hfq q (by omega)];exact hq
  have HCH:=jh5 HC
  clear hf hfq hr e1 hrow hb HC s1
  generalize hFL:(rs.take j).flatten.length=fl at *
  go_wp2_with (at_builtin;refine jP rfl _ _ 38 rfl w.heap.size 71 i0 _ 2 32 Tryz.underlying38 hi hz0 hz1 hz2 rfl (by decide) _ _ _ rfl HROW.out ⟨g,0,none⟩ r.length cap _ rfl hcl HCH.out hone ?c3 ?c4 ?c5 ?_)
  case c3=>unfold maxLen;omega
  case c4=>omega
  case c5=>exact hsz
  intro v' w3 hown' hgrow hbk
  have HB3:=jh5 (HB.out.grown hgrow hsz (fun k hk=>(HROW.out.lt k hk).1))
  have HO3:=jh5 hown'
  obtain⟨xa,xc,rfl,_⟩:=jg hown'
  clear hown' hgrow hbk
  go_wp2_with fail
  go_roundw
  case rel=>exact⟨j+1,_,rfl,hjl,by go_num,by rw[E1.out,jh7,XI,hFL];exact HO3.out,HB3.out⟩
  case measure=>simp[intOf];omega
 obtain rfl:j=rs.length:=by omega
 rw[jiF]at hrow ⊢
 have FIN:Hid (wr.ownsRow w.heap.size 71 2 (.slice ua rs.flatten.length uc) rs.flatten.length (jt rs.flatten)/\Below w.heap.size w wr):=⟨hrow,hb⟩
 clear hrow hb
 generalize hFL:rs.flatten.length=fl at *
 go_wp2_with fail
 go_ret
 obtain⟨f1,f2⟩:=FIN.out
 refine⟨_,rfl,?_,f2⟩
 first | exact f1 | (rw[hFL];exact f1)
end Go.Proofs.YtmdhainabeljpaaGreatDoor
