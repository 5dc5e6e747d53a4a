/- Texts put together:RL,EJ,RLT,FLF,ND,NE,NG. -/
import Derived.StillTail
import Derived.Test.YtpibhbjmcmfnmaaGreatDoorBag16
set_option linter.unusedVariables false
set_option maxRecDepth 100000
set_option maxHeartbeats 16000000
namespace Go.Proofs.YtpibhbjmcmfnmaaGreatDoor
open Go.RowKit Go.Shelf Tryz
abbrev joH:=@List.mem_map_of_mem
namespace Kn
def qe(ops:Array Oper)(i:Nat):Option Nat:=(ops[i]?).bind (·.dst)
def bV:Value->Option Bool
 | .bool b=>some b
 | _=>none
def qw(ops:Array Oper)(V:List Value)(a0:Act)(o:Oper):Operand->Option Value
 | .const v=>some v
 | .tmp j=>match o.after.toList.find? (fun e=>Region.binds .any e&&qe ops e.on==some j) with
  | some e=>V[e.on]?
  | none=>if (List.range ops.size).any (fun k=>qe ops k==some j) then none else a0.tmps[j]?
 | _=>none
def jiV(ops:Array Oper)(V:List Value)(a0:Act)(o:Oper):Option Value:=match o.op with
 | .move x=>qw ops V a0 o x
 | .assign x=>qw ops V a0 o x
 | .pick c x y=>match qw ops V a0 o c,qw ops V a0 o x,qw ops V a0 o y with
  | some (.bool b),some u,some v=>some (if b=true then u else v)
  | _,_,_=>none
 | _=>none
def yj(ops:Array Oper)(V:List Value)(o:Oper):Option Bool:=match o.guard with
 | none=>some true
 | some (g,b)=>if o.after.toList.any (fun e=>Region.binds .any e&&e.on==g)&&(qe ops g).isSome then (match V[g]? with | some (.bool c)=>some (c==b) | some _=>some false | none=>none) else none
def yA(P:Program)(Q:Exit->Act->World->Prop)(ops:Array Oper)(V:List Value)(a0:Act)(w0:World)(o:Oper)(v:Value):Prop :=
 (yj ops V o=some false/\v=undef)\/(yj ops V o=some true/\(jiV ops V a0 o=some v\/∀(a:Act) (w:World) (K:Act->World->Prop),Below w0.heap.size w0 w->(∀x u,qw ops V a0 o x=some u->a.eval x=u)->(∀w',Below w.heap.size w w'->K (a.put o.dst v) w')->Oper.wp P o a w K Q))
def jaz(P:Program)(Q:Exit->Act->World->Prop)(ops:Array Oper)(V:List Value)(a0:Act)(w0:World):List Oper->List Value->Prop
 | [],[]=>True
 | o::os,v::vs=>yA P Q ops V a0 w0 o v/\jaz P Q ops V a0 w0 os vs
 | _,_=>False
theorem jaz.at{P:Program}{Q:Exit->Act->World->Prop}{ops:Array Oper}{V:List Value}{a0:Act}{w0:World}:∀{os:List Oper} {vs:List Value},jaz P Q ops V a0 w0 os vs->∀{i:Nat} {o:Oper},os[i]?=some o->∃v,vs[i]?=some v/\yA P Q ops V a0 w0 o v
 | [],[],_,i,o,h=>by simp at h
 | o::os,v::vs,hs,0,o',h=>by
  obtain rfl:o=o':=jng h
  exact⟨v,rfl,hs.1⟩
 | o::os,v::vs,hs,i+1,o',h=>jaz.at (os:=os) (vs:=vs) hs.2 h
 | [],_::_,hs,_,_,_=>hs.elim
 | _::_,[],hs,_,_,_=>hs.elim
def jli(ops:Array Oper)(n:Nat):Bool:=(List.range ops.size).all fun i =>
 (match qe ops i with | some d=>decide (d<n)&&(List.range ops.size).all (fun k=>k==i || !(qe ops k==some d)) | none=>true) &&
 (match ops[i]? with | some o=>o.after.toList.all (fun e => !(Region.binds .any e) || decide (e.on<i)) | none=>true)
theorem yC{ops:Array Oper}{V:List Value}{o:Oper}{a:Act}{b:Bool}(h:yj ops V o=some b)(dep:∀e∈o.after,Region.binds .any e=true->∀d,qe ops e.on=some d->∃v,a.tmps[d]?=some v/\V[e.on]?=some v):Region.wanted o (yielded ops a.tmps)=b:=by
 unfold yj at h
 unfold Region.wanted
 cases hg:o.guard with
 | none=>rw[hg]at h;exact jng h
 | some p =>
 obtain⟨g,c⟩:=p
 rw[hg]at h
 dsimp only at h ⊢
 split at h
 ·rename_i hq
  rw[jnv,jpy]at hq
  obtain⟨⟨e,he,hb⟩,hs⟩:=hq
  rw[jnv]at hb
  obtain rfl:e.on=g:=by simpa using hb.2
  obtain⟨d,hd⟩:=Option.isSome_iff_exists.1 hs
  obtain⟨v,h1,h2⟩:=dep e (by simpa using he) hb.1 d hd
  have hy:yielded ops a.tmps e.on=bV v:=by
   unfold yielded
   unfold qe at hd
   rw[hd]
   show(match a.tmps[d]? with | some (.bool b)=>some b | _=>none)=_
   rw[h1]
   cases v<;>rfl
  rw[hy]
  rw[h2]at h
  cases v<;>simp_all [bV]
 cases h
theorem jbe{ops:Array Oper}{V:List Value}{a0 a:Act}{o:Oper}(dep:∀e∈o.after,Region.binds .any e=true->∀d,qe ops e.on=some d->∃v,a.tmps[d]?=some v/\V[e.on]?=some v)(hf:∀j,(∀k,k<ops.size->qe ops k≠some j)->a.tmps[j]?=a0.tmps[j]?):∀x u,qw ops V a0 o x=some u->a.eval x=u:=by
 intro x u h
 cases x with
 | const v=>exact jng h
 | tmp j =>
  unfold qw at h
  dsimp only at h
  split at h
  ·rename_i e he
   have h1:=List.find?_some he
   have h2:=jpi he
   rw[jnv]at h1
   obtain⟨v,h3,h4⟩:=dep e (by simpa using h2) h1.1 j (by simpa using h1.2)
   rw[h]at h4
   obtain rfl:=jng h4
   exact evT h3
  split at h
  ·cases h
  rename_i hq
  refine evT ((hf j fun k hk q=>hq ?_).trans h)
  rw[jpy]
  exact⟨k,List.mem_range.2 hk,by simp[q]⟩
 | global g=>cases h
 | func f=>cases h
theorem jbq{P:Program}{Q:Exit->Act->World->Prop}{ops:Array Oper}{V:List Value}{a0 a:Act}{o:Oper}{v:Value}{w:World}{K:Act->World->Prop}(h:jiV ops V a0 o=some v)(ev:∀x u,qw ops V a0 o x=some u->a.eval x=u)(hK:K (a.put o.dst v) w):Oper.wp P o a w K Q:=by
 have key:(execOp a.eval o).run P w=.ok (.value v) w->Oper.wp P o a w K Q:=fun e=>by
  unfold Oper.wp;rw[e];exact hK
 unfold jiV at h
 split at h
 ·rename_i x ho
  have e:=ev x v h
  exact key (by simp only[execOp,ho,e];simp[go_sem])
 ·rename_i x ho
  have e:=ev x v h
  exact key (by simp only[execOp,ho,e];simp[go_sem])
 ·rename_i c x y ho
  split at h
  ·rename_i b u z h1 h2 h3
   have e1:=ev c _ h1
   have e2:=ev x _ h2
   have e3:=ev y _ h3
   obtain rfl:=jng h
   exact key (by simp only[execOp,ho,e1,e2,e3];cases b<;>simp[go_sem])
  cases h
 cases h
theorem wpAny_known{P:Program}{ops:Array Oper}{Q:Exit->Act->World->Prop}(L:List (Nat×Value)){a0:Act}{w0:World}(hc:jli ops a0.tmps.size=true)(hd:((List.range ops.size).map (qe ops)==L.map fun p=>some p.1)=true)
  (hs:jaz P Q ops (L.map (·.2)) a0 w0 ops.toList (L.map (·.2))) (hQ:∀w,Below w0.heap.size w0 w->Q .normal {a0 with tmps:=L.foldl (fun u p=>u.setIfInBounds p.1 p.2) a0.tmps} w) :
  wpAny P .any ops Q ops.size (Array.replicate ops.size false) a0 w0:=by
 have hd':(List.range ops.size).map (qe ops)=L.map fun p=>some p.1:=by simpa using hd
 have hlen:ops.size=L.length:=by
  have:=congrArg List.length hd'
  simpa using this
 have dat:∀i p,L[i]?=some p->qe ops i=some p.1:=fun i p h=>by
  have hi:i<ops.size:=by rw[hlen];exact(List.getElem?_eq_some_iff.1 h).1
  have h1:=congrArg (fun l=>l[i]?) hd'
  simp only[jnF,List.getElem?_range hi,h,joP]at h1
  exact jng h1
 unfold jli at hc
 rw[jnZ]at hc
 refine jcN a0 w0 (qe ops) (fun i v _=>(L.map (·.2))[i]?=some v) (fun x y=>Below x.heap.size x y) (jne _ _) (fun x y h g=>h.trans (g.mono h.size)) (fun i v x y _ _ h=>h)
  (fun i o ho=>by unfold qe;rw[ho];rfl) ?inj ?dlt ?low ?step (fun w _=>jne _ _) ?fin
 case inj =>
  intro i k d hi hk h1 h2
  have h:=hc i (List.mem_range.2 hi)
  rw[jnv,h1]at h
  have h3:=h.1
  simp only[jnv,jnZ,List.mem_range]at h3
  have h4:=h3.2 k hk
  rw[h2]at h4
  have h5:k=i:=by simpa using h4
  exact h5.symm
 case dlt =>
  intro i d hi h1
  have h:=hc i (List.mem_range.2 hi)
  rw[jnv,h1]at h
  have h3:=h.1
  simp only[jnv,decide_eq_true_eq]at h3
  exact h3.1
 case low =>
  intro i o e ho he hb
  have hi:i<ops.size:=(Array.getElem?_eq_some_iff.1 ho).1
  have h:=hc i (List.mem_range.2 hi)
  rw[jnv,ho]at h
  have h3:=h.2
  simp only[jnZ]at h3
  have h4:=h3 e (by simpa using he)
  rw[hb]at h4
  simpa using h4
 case step =>
  intro i o a w ho hz hf dep hR
  have ho':ops.toList[i]?=some o:=by rw[joQ];exact ho
  obtain⟨v,h1,h2⟩:=jaz.at hs ho'
  have ev:=jbe (V:=L.map (·.2)) (a0:=a0) (o:=o) dep hf
  have hdo:qe ops i=o.dst:=by unfold qe;rw[ho];rfl
  rcases h2 with ⟨h3,rfl⟩|⟨h3,h4⟩
  ·exact .inr ⟨yC h3 dep,h1⟩
  refine .inl ⟨yC h3 dep,fun K hK => ?_⟩
  rw[hdo]at hK
  rcases h4 with h4|h4
  ·exact jbq h4 ev (hK v w (jne _ _) h1)
  exact h4 a w K hR ev (fun w' hb=>hK v w' hb h1)
 case fin =>
 intro a w hdf hz hf hv hR
 rw[ZI (a:=a) (a0:=a0) L hdf hz (fun p hp=>by
  obtain⟨i,hi,e⟩:=jpf hp
  have hi':L[i]?=some p:=by rw[jnh hi,e]
  obtain⟨v,h1,h2⟩:=hv i p.1 (by omega) (dat i p hi')
  rw[jnF,hi']at h2
  obtain rfl:p.2=v:=jng h2
  exact h1) (fun j hj=>hf j fun k hk q=>hj (by
   obtain⟨p,hp⟩:∃p,L[k]?=some p:=⟨_,jnh (by omega)⟩
   have:=dat k p hp
   rw[q]at this
   obtain rfl:=jng this
   exact joH (jnC hp)))]
 exact hQ w hR
theorem stepA{P:Program}{Q:Exit->Act->World->Prop}{ops:Array Oper}{V:List Value}{a0:Act}{w0:World}{o:Oper}{v:Value}(h:yj ops V o=some true)(ha:jiV ops V a0 o=some v):yA P Q ops V a0 w0 o v:=.inr ⟨h,.inl ha⟩
theorem Uw{P:Program}{Q:Exit->Act->World->Prop}{ops:Array Oper}{V:List Value}{a0:Act}{w0:World}{o:Oper}{v:Value}(h:yj ops V o=some true)(hm:∀(a:Act) (w:World) (K:Act->World->Prop),Below w0.heap.size w0 w->(∀x u,qw ops V a0 o x=some u->a.eval x=u)->(∀w',Below w.heap.size w w'->K (a.put o.dst v) w')->Oper.wp P o a w K Q):yA P Q ops V a0 w0 o v:=.inr ⟨h,.inr hm⟩
section
variable {Q:Exit->Act->World->Prop} {ops:Array Oper} {V:List Value} {a0:Act} {w0:World} {o:Oper} {v:Value}
theorem callK{F:Nat}{x:Operand}{u:Value}{T1:TypeId}(h:yj ops V o=some true)(ho:o.op=Op.call {callee:=Callee.value (Operand.func F),args:=#[x],argTypes:=#[T1]})(hx:qw ops V a0 o x=some u)
  (en:∀args w,(callFunc F args).run prog w=.ok (.enter F args) w) (hC:∀W,Below w0.heap.size w0 W->Calls prog F #[u] W fun e w'=>e=.returned v/\Below W.heap.size W w'):yA prog Q ops V a0 w0 o v :=
 Uw h fun a w K hR ev hK=>Vk (T:=fun z w'=>z=v/\Below w.heap.size w w') F ho (ev _ _ hx) en ((hC w hR).mono fun e w' ⟨he,hb⟩=>⟨v,he,rfl,hb⟩) (fun z w' hz=>by obtain⟨rfl,hb⟩:=hz;exact hK w' hb)
theorem loadK{x:Operand}{T:TypeId}{b i:Nat}(h:yj ops V o=some true)(ho:o.op=Op.load T x)(hx:qw ops V a0 o x=some (.pointer (some ⟨b,i,none⟩)))
  (hl:∀w,Below w0.heap.size w0 w->(Instr.loadAt T (.pointer (some ⟨b,i,none⟩))).run prog w=.ok v w):yA prog Q ops V a0 w0 o v :=
 Uw h fun a w K hR ev hK=>xF (hl w hR) ho (ev _ _ hx) (hK w (jne _ _))
theorem fieldK{x:Operand}{T:TypeId}{k b i j:Nat}(h:yj ops V o=some true)(ho:o.op=Op.fieldAddr T x k)(hx:qw ops V a0 o x=some (.pointer (some ⟨b,i,none⟩)))(hv:v=.pointer (some ⟨b,j,none⟩))
  (hf:∀w:World,(Instr.fieldAt T (.pointer (some ⟨b,i,none⟩)) k).run prog w=.ok (.pointer (some ⟨b,j,none⟩)) w):yA prog Q ops V a0 w0 o v:=by
 subst hv
 exact Uw h fun a w K hR ev hK=>jb1 (hf w) ho (ev _ _ hx) (hK w (jne _ _))
theorem eqlIK{x y:Operand}{m n:Int}{b:Bool}(h:yj ops V o=some true)(ho:o.op=Op.binOp BinOp.eql 3 x y 3)(hx:qw ops V a0 o x=some (.int .i64 m))(hy:qw ops V a0 o y=some (.int .i64 n))(hb:(m==n)=b):yA prog Q ops V a0 w0 o (.bool b) :=
 Uw h fun a w K hR ev hK=>jj8 ho (ev _ _ hx) (ev _ _ hy) (by rw[hb];exact hK w (jne _ _))
theorem eqlSK{x y:Operand}{m n:ByteArray}{b:Bool}(h:yj ops V o=some true)(ho:o.op=Op.binOp BinOp.eql 9 x y 9)(hx:qw ops V a0 o x=some (.string m))(hy:qw ops V a0 o y=some (.string n))(hb:(m.toList==n.toList)=b):yA prog Q ops V a0 w0 o (.bool b) :=
 Uw h fun a w K hR ev hK=>jj7 ho (ev _ _ hx) (ev _ _ hy) (by rw[hb];exact hK w (jne _ _))
theorem binK{x y:Operand}{p:BinOp}{T U:TypeId}{u z:Value}(h:yj ops V o=some true)(ho:o.op=Op.binOp p T x y U)(hx:qw ops V a0 o x=some u)(hy:qw ops V a0 o y=some z)
  (hr:∀(ρ:Operand->Value) (w:World),ρ x=u->ρ y=z->(execOp ρ o).run prog w=.ok (.value v) w):yA prog Q ops V a0 w0 o v :=
 Uw h fun a w K hR ev hK=>QL (hr a.eval w (ev _ _ hx) (ev _ _ hy)) (hK w (jne _ _))
end
end Kn
theorem jbG{l:Array Bool}{i:Nat}(hi:i<l.size)(hl:l.getD i true=false):jgU (l.setIfInBounds i true)+1=jgU l:=by
 have hlf:l[i]=false:=by simpa [Array.getD,hi]using hl
 have key:∀(xs:List Bool) (j:Nat) (hj:j<xs.length),xs[j]=false->((xs.set j true).filter (fun b => !b)).length+1=(xs.filter (fun b => !b)).length:=by
  intro xs
  induction xs with
  | nil=>intro j hj;simp at hj
  | cons x xs ih2 =>
  intro j hj hx
  cases j with
  | zero=>simp at hx;subst hx;simp
  | succ j =>
  have:=ih2 j (by simpa using hj) (by simpa using hx)
  cases x<;>simp at this ⊢ <;> omega
 have h2:=key l.toList i (by simpa using hi) (by simpa using hlf)
 unfold jgU
 have e:(l.setIfInBounds i true).toList=l.toList.set i true:=by simp
 rw[e];exact h2
theorem jew{l:Array Bool}{n g:Nat}(hs:l.size=n+g)(h1:∀i,i<n->l.getD i true=true)(h2:∀t,n<=t->t<l.size->l.getD t true=false):l=(List.replicate n true++List.replicate g false).toArray:=by
 apply Array.ext
 ·simp[hs]
 intro i hi _
 have e:l[i]=l.getD i true:=by simp[Array.getD,hi]
 rw[e]
 by_cases h:i<n
 ·rw[h1 i h];simp[h]
 rw[h2 i (by omega) hi];simp[List.getElem_append,h]
theorem qN{P:Program}{l0:List Oper}{Q:Exit->Act->World->Prop}(n g:Nat)(hng:n+g=l0.length)(hg:0<g)(a0:Act)(w0:World)(dst:Nat->Option Nat)(L:List (Value->World->Prop))(M:jld L)
  (hs:Region.sinkB .any l0.toArray n=true) (hc:Region.chainB .any l0.toArray n=true) (hq:Region.seqB .any l0.toArray g n (List.replicate n true++List.replicate g false).toArray=true)
  (hd:∀i o,i<n->l0[i]?=some o->o.dst=dst i) (inj:∀i k d,i<n->k<n->dst i=some d->dst k=some d->i=k) (dlt:∀i d,i<n->dst i=some d->d<a0.tmps.size)
  (hlow:∀i o e,l0[i]?=some o->e∈o.after->Region.binds .any e=true->e.on<i)
  (step:∀i o a w,i<n->l0[i]?=some o->a.tmps.size=a0.tmps.size->(∀j,(∀k,k<n->dst k≠some j)->a.tmps[j]?=a0.tmps[j]?)->(∀e∈o.after,Region.binds .any e=true->∀d,dst e.on=some d->∃v,a.tmps[d]?=some v/\pvL L e.on v w)->Below w0.heap.size w0 w ->
   (Region.wanted o (yielded l0.toArray a.tmps)=true/\∀K:Act->World->Prop,(∀v w',Below w.heap.size w w'->pvL L i v w'->K (a.put (dst i) v) w')->Oper.wp P o a w K Q)\/(Region.wanted o (yielded l0.toArray a.tmps)=false/\pvL L i undef w))
  (tail:∀a w,a.defers=a0.defers->a.tmps.size=a0.tmps.size->(∀j,(∀k,k<n->dst k≠some j)->a.tmps[j]?=a0.tmps[j]?)->(∀i d,i<n->dst i=some d->∃v,a.tmps[d]?=some v/\pvL L i v w)->Below w0.heap.size w0 w->wpList P l0.toArray Q (l0.drop n) a w) :
  wpAny P .any l0.toArray Q l0.toArray.size (Array.replicate l0.toArray.size false) a0 w0:=by
 have key:∀(m:Nat) (l:Array Bool) (a:Act) (w:World),HeadInv .any l0.toArray n l->jmL a0 w0 n dst (pvL L) (fun x y=>Below x.heap.size x y) l a w->jgU l=m->wpAny P .any l0.toArray Q m l a w:=by
  intro m
  induction m with
  | zero =>
   intro l a w inv I ht
   exfalso
   have hn:n<l.size:=by rw[inv.size];simp;omega
   have h1:=jbG hn (inv.tail n (jnd _) (by simp;omega))
   omega
  | succ m ih =>
  intro l a w inv I ht
  by_cases hh:∃i,i<n/\l.getD i true=false
  ·obtain⟨i0,hi0,hl0⟩:=hh
   have hwait:=tail_waits hs hc (by simp;omega) inv (n-i0) i0 rfl hi0 hl0
   refine⟨fun hr => ?_,fun i hi => ?_⟩
   ·exfalso
    have hall:=jcF (ops:=l0.toArray) inv.size (fun i o e ho he hb=>hlow i o e (by simpa using ho) he hb) hr i0 (by simp;omega)
    have hi0':i0<l.size:=by rw[inv.size];simp;omega
    have e1:l.getD i0 false=l.getD i0 true:=by simp[Array.getD,hi0']
    rw[e1,hl0]at hall;cases hall
   have hin:i<n:=by
    rcases jnK i n with q|q
    ·exact q
    exact absurd hi (hwait i q)
   obtain⟨o,ho,hli,he⟩:=ZS hi
   have ho':l0[i]?=some o:=by simpa using ho
   have hil:i<l.size:=by rw[inv.size];simp;omega
   have dep:∀e∈o.after,Region.binds .any e=true->∀d,dst e.on=some d->∃v,a.tmps[d]?=some v/\pvL L e.on v w:=fun e h1 h2 d h3=>I.val e.on d (he e h1 h2) h3
   have nxt:∀v w',Below w.heap.size w w'->pvL L i v w'->wpAny P .any l0.toArray Q m (l.setIfInBounds i true) (a.put (dst i) v) w':=by
    intro v w' hR hP
    refine ih _ _ _ (inv.set hi hin) ?_ (by have:=jbG hil hli;omega)
    have hwd:Below w0.heap.size w0 w':=I.wd.trans (hR.mono I.wd.size)
    cases hdi:dst i with
    | none =>
     refine⟨I.dfr,I.sz,I.frm,fun k d hk hkd => ?_,hwd⟩
     rw[Vm l i hil]at hk
     by_cases q:k=i
     ·rw[q,hdi]at hkd;cases hkd
     rw[if_neg q]at hk
     obtain⟨u,h1,h2⟩:=I.val k d hk hkd
     exact⟨u,h1,Wf M hR h2⟩
    | some d0 =>
    have hd0:=dlt i d0 hin hdi
    have T:∀j,(a.put (some d0) v).tmps[j]?=if j=d0 then some v else a.tmps[j]?:=fun j=>by
     show(a.tmps.setIfInBounds d0 v)[j]?=_
     rw[jn9]
     by_cases h:d0=j
     ·subst h;simp[I.sz,hd0]
     rw[if_neg h,if_neg (jpo h)]
    refine⟨I.dfr,?_,fun j hj => ?_,fun k d hk hkd => ?_,hwd⟩
    ·show(a.tmps.setIfInBounds d0 v).size=_
     simp[I.sz]
    ·rw[T,if_neg (fun e=>hj i hin (by rw[hdi,e]))];exact I.frm j hj
    rw[T]
    rw[Vm l i hil]at hk
    by_cases q:k=i
    ·subst q
     rw[hdi]at hkd
     rw[if_pos (jng hkd).symm]
     exact⟨v,rfl,hP⟩
    rw[if_neg q]at hk
    have hkl:k<l.size:=by
     rcases jnK k l.size with z|z
     ·exact z
     rw[jon,jn2 (by omega)]at hk;cases hk
    have hkn:k<n:=by
     rcases jnK k n with z|z
     ·exact z
     have h1:=inv.tail k z (by rw[<- inv.size];exact hkl)
     have e1:l.getD k false=l.getD k true:=by simp[Array.getD,hkl]
     rw[e1,h1]at hk;cases hk
    rw[if_neg (fun e=>q (inj k i d hkn hin hkd (by rw[hdi,e])))]
    obtain⟨u,h1,h2⟩:=I.val k d hk hkd
    exact⟨u,h1,Wf M hR h2⟩
   unfold wpOp
   rw[ho]
   dsimp only
   rcases step i o a w hin ho' I.sz I.frm dep I.wd with ⟨h1,h2⟩|⟨h1,h2⟩
   ·rw[if_pos h1]
    exact .inl (h2 _ nxt)
   rw[if_neg (by rw[h1];decide),hd i o hin ho']
   exact nxt undef w (jne _ _) h2
  have h1:∀i,i<n->l.getD i true=true:=fun i hi=>by
   cases q:l.getD i true with
   | true=>rfl
   | false=>exact absurd ⟨i,hi,q⟩ hh
  have hls:l.size=n+g:=by rw[inv.size];simp;omega
  have el:=jew hls h1 (fun t h2 h3=>inv.tail t h2 (by rw[<- inv.size];exact h3))
  have hd1:∀i,i<n->l.getD i false=true:=fun i hi=>by
   have e1:l.getD i false=l.getD i true:=by
    have:i<l.size:=by omega
    simp[Array.getD,this]
   rw[e1];exact h1 i hi
  have hgl:(l0.drop n).length=g:=by simp;omega
  have hm:m+1=g:=by
   rw[<- ht,el]
   unfold jgU
   simp[List.filter_append]
  have:=wpAny_of_seq (P:=P) (md:=.any) (ops:=l0.toArray) (Q':=Q) (l0.drop n) n l a w (fun j=>by simp[List.getElem?_drop]) (by rw[hgl,el];exact hq)
   (tail a w I.dfr I.sz I.frm (fun i d hi h=>I.val i d (hd1 i hi) h) I.wd)
  rw[hgl]at this
  rw[hm];exact this
 refine key l0.toArray.size (Array.replicate l0.toArray.size false) a0 w0 ?_ ?_ (by unfold jgU;simp)
 ·exact⟨by simp,fun j oj _ hl=>(by rw[getD_replicate_false]at hl;cases hl),fun t _ ht=>getD_in (by simpa using ht) (getD_replicate_false _ _)⟩
 have e:∀i,(Array.replicate l0.toArray.size false).getD i false=false:=fun i=>getD_replicate_false _ i
 exact⟨rfl,rfl,fun _ _=>rfl,(fun i d h=>absurd ((e i).symm.trans h) (by decide)),jne _ _⟩
namespace Kn
theorem wpAny_known_tail{P:Program}{l0:List Oper}{Q:Exit->Act->World->Prop}(n g:Nat)(L:List (Nat×Value)){a0:Act}{w0:World}(hng:n+g=l0.length)(hg:0<g)(hln:L.length=n)
  (hsk:Region.sinkB .any l0.toArray n=true) (hch:Region.chainB .any l0.toArray n=true) (hsq:Region.seqB .any l0.toArray g n (List.replicate n true++List.replicate g false).toArray=true)
  (hc:jli l0.toArray a0.tmps.size=true) (hd:((List.range n).map (qe l0.toArray)==L.map fun p=>some p.1)=true)
  (hs:jaz P Q l0.toArray (L.map (·.2)) a0 w0 (l0.take n) (L.map (·.2)))
  (hQ:∀w,Below w0.heap.size w0 w->wpList P l0.toArray Q (l0.drop n) {a0 with tmps:=L.foldl (fun u p=>u.setIfInBounds p.1 p.2) a0.tmps} w) :
  wpAny P .any l0.toArray Q l0.toArray.size (Array.replicate l0.toArray.size false) a0 w0:=by
 have hd':(List.range n).map (qe l0.toArray)=L.map fun p=>some p.1:=by simpa using hd
 have dat:∀i p,L[i]?=some p->qe l0.toArray i=some p.1:=fun i p h=>by
  have hi:i<n:=by rw[<- hln];exact(List.getElem?_eq_some_iff.1 h).1
  have h1:=congrArg (fun l=>l[i]?) hd'
  simp only[jnF,List.getElem?_range hi,h,joP]at h1
  exact jng h1
 unfold jli at hc
 rw[jnZ]at hc
 have pv:∀i v w,i<n->(pvL (L.map fun p=>fun x (_:World)=>x=p.2) i v w↔(L.map (·.2))[i]?=some v):=by
  intro i v w hi
  obtain⟨p,hp⟩:∃p,L[i]?=some p:=⟨_,jnh (by omega)⟩
  unfold pvL
  rw[jnF,jnF,hp]
  exact⟨fun h=>congrArg some h.symm,fun h=>(jng h).symm⟩
 have am:∀L:List (Nat×Value),jld (L.map fun p=>fun x (_:World)=>x=p.2):=by
  intro L
  induction L with
  | nil=>trivial
  | cons p r ih=>exact⟨fun v x y _ h=>h,ih⟩
 refine qN n g hng hg a0 w0 (qe l0.toArray) (L.map fun p=>fun x _=>x=p.2) ?M hsk hch hsq (fun i o hi ho=>by unfold qe;rw[jnl,ho];rfl) ?inj ?dlt ?low ?step ?tail
 case M=>exact am L
 case inj =>
  intro i k d hi hk h1 h2
  have h:=hc i (List.mem_range.2 (by simp;omega))
  rw[jnv,h1]at h
  have h3:=h.1
  simp only[jnv,jnZ,List.mem_range]at h3
  have h4:=h3.2 k (by simp;omega)
  rw[h2]at h4
  have h5:k=i:=by simpa using h4
  exact h5.symm
 case dlt =>
  intro i d hi h1
  have h:=hc i (List.mem_range.2 (by simp;omega))
  rw[jnv,h1]at h
  have h3:=h.1
  simp only[jnv,decide_eq_true_eq]at h3
  exact h3.1
 case low =>
  intro i o e ho he hb
  have hi:i<l0.length:=(List.getElem?_eq_some_iff.1 ho).1
  have h:=hc i (List.mem_range.2 (by simpa using hi))
  rw[jnv,jnl,ho]at h
  have h3:=h.2
  simp only[jnZ]at h3
  have h4:=h3 e (by simpa using he)
  rw[hb]at h4
  simpa using h4
 case step =>
  intro i o a w hi ho hz hf dep hR
  have ho':(l0.take n)[i]?=some o:=by rw[jnS,if_pos hi];exact ho
  obtain⟨v,h1,h2⟩:=jaz.at hs ho'
  have low:∀e∈o.after,Region.binds .any e=true->e.on<i:=fun e he hb=>by
   have h:=hc i (List.mem_range.2 (by simp;omega))
   rw[jnv,jnl,ho]at h
   have h3:=h.2
   simp only[jnZ]at h3
   have h4:=h3 e (by simpa using he)
   rw[hb]at h4
   simpa using h4
  replace dep:∀e∈o.after,Region.binds .any e=true->∀d,qe l0.toArray e.on=some d->∃v,a.tmps[d]?=some v/\(L.map (·.2))[e.on]?=some v:=fun e he hb d hd=>by
   obtain⟨v,e1,e2⟩:=dep e he hb d hd
   exact⟨v,e1,(pv e.on v w (by have:=low e he hb;omega)).1 e2⟩
  have ev:=jbe (V:=L.map (·.2)) (a0:=a0) (o:=o) dep (fun j h=>hf j fun k hk=>h k (by simp;omega))
  have hdo:qe l0.toArray i=o.dst:=by unfold qe;rw[jnl,ho];rfl
  rcases h2 with ⟨h3,rfl⟩|⟨h3,h4⟩
  ·exact .inr ⟨yC h3 dep,(pv i _ w hi).2 h1⟩
  refine .inl ⟨yC h3 dep,fun K hK => ?_⟩
  rw[hdo]at hK
  rcases h4 with h4|h4
  ·exact jbq h4 ev (hK v w (jne _ _) ((pv i _ w hi).2 h1))
  exact h4 a w K hR ev (fun w' hb=>hK v w' hb ((pv i _ w' hi).2 h1))
 case tail =>
 intro a w hdf hz hf hv hR
 rw[ZI (a:=a) (a0:=a0) L hdf hz (fun p hp=>by
  obtain⟨i,hi,e⟩:=jpf hp
  have hi':L[i]?=some p:=by rw[jnh hi,e]
  obtain⟨v,h1,h2⟩:=hv i p.1 (by omega) (dat i p hi')
  rw[pv i _ _ (by have:=(List.getElem?_eq_some_iff.1 hi').1;omega),jnF,hi']at h2
  obtain rfl:p.2=v:=jng h2
  exact h1) (fun j hj=>hf j fun k hk q=>hj (by
   obtain⟨p,hp⟩:∃p,L[k]?=some p:=⟨_,jnh (by omega)⟩
   have:=dat k p hp
   rw[q]at this
   obtain rfl:=jng this
   exact joH (jnC hp)))]
 exact hQ w hR
inductive Kv where
 | val (v:Value)
 | pr (R:Value->World->Prop)
 | kn (v:Value)
def Kv.ok:Kv->Value->World->Prop
 | .val v,x,_=>x=v
 | .pr R,x,w=>R x w
 | .kn v,x,_=>x=v
def Kv.get:Kv->Value
 | .val v=>v
 | .pr _=>undef
 | .kn v=>v
def Kv.isV:Kv->Bool
 | .pr _=>false
 | _=>true
def fin(f:Nat->Value):Nat->List (Nat×Kv)->List (Nat×Value)
 | _,[]=>[]
 | i,(d,.val v)::r=>(d,v)::fin f (i+1) r
 | i,(d,.kn v)::r=>(d,v)::fin f (i+1) r
 | i,(d,.pr _)::r=>(d,f i)::fin f (i+1) r
def prs(f:Nat->Value)(w:World):Nat->List (Nat×Kv)->Prop
 | _,[]=>True
 | i,(_,.val _)::r=>prs f w (i+1) r
 | i,(_,.kn _)::r=>prs f w (i+1) r
 | i,(_,.pr R)::r=>R (f i) w/\prs f w (i+1) r
def monos:List (Nat×Kv)->Prop
 | []=>True
 | (_,.val _)::r=>monos r
 | (_,.kn _)::r=>monos r
 | (_,.pr R)::r=>(∀v x y,Below x.heap.size x y->R v x->R v y)/\monos r
theorem Kr(f:Nat->Value):∀(L:List (Nat×Kv)) (j i:Nat),(fin f j L)[i]?=(L[i]?).map fun p=>(p.1,match p.2 with | .val v=>v | .kn v=>v | .pr _=>f (j+i))
 | [],j,i=>by simp[fin]
 | (d,.val v)::r,j,0=>by simp[fin]
 | (d,.kn v)::r,j,0=>by simp[fin]
 | (d,.pr R)::r,j,0=>by simp[fin]
 | (d,.val v)::r,j,i+1=>by
  simp only[fin,jnj,Kr f r (j+1) i]
  rw[show j+1+i=j+(i+1) by omega]
 | (d,.kn v)::r,j,i+1=>by
  simp only[fin,jnj,Kr f r (j+1) i]
  rw[show j+1+i=j+(i+1) by omega]
 | (d,.pr R)::r,j,i+1=>by
  simp only[fin,jnj,Kr f r (j+1) i]
  rw[show j+1+i=j+(i+1) by omega]
theorem jbW(f:Nat->Value)(w:World):∀(L:List (Nat×Kv)) (j:Nat),(∀(i:Nat) (p:Nat×Kv),L[i]?=some p->p.2.ok (f (j+i)) w)->prs f w j L
 | [],_,_=>trivial
 | (d,.val v)::r,j,h=>jbW f w r (j+1) fun i p hp=>by have:=h (i+1) p hp;rwa [show j+(i+1)=j+1+i by omega]at this
 | (d,.kn v)::r,j,h=>jbW f w r (j+1) fun i p hp=>by have:=h (i+1) p hp;rwa [show j+(i+1)=j+1+i by omega]at this
 | (d,.pr R)::r,j,h=>⟨h 0 _ rfl,jbW f w r (j+1) fun i p hp=>by have:=h (i+1) p hp;rwa [show j+(i+1)=j+1+i by omega]at this⟩
theorem Ue:∀L:List (Nat×Kv),monos L->jld (L.map fun p=>p.2.ok)
 | [],_=>trivial
 | (_,.val v)::r,h=>⟨fun _ _ _ _ h=>h,Ue r h⟩
 | (_,.kn v)::r,h=>⟨fun _ _ _ _ h=>h,Ue r h⟩
 | (_,.pr R)::r,h=>⟨h.1,Ue r h.2⟩
def jg2(l0:List Oper)(L:List (Nat×Kv))(o:Oper):Bool:=match o.guard with
 | none=>true
 | some (g,c)=>o.after.toList.any (fun e=>Region.binds .any e&&e.on==g)&&(qe l0.toArray g).isSome&&(match L[g]? with | some (_,.val (.bool b))=>b==c | _=>false)
def jgN(P:Program)(Q:Exit->Act->World->Prop)(l0:List Oper)(L:List (Nat×Kv))(a0:Act)(w0:World)(o:Oper)(R:Value->World->Prop):Prop :=
 jg2 l0 L o=true/\∀(a:Act) (w:World) (K:Act->World->Prop),Below w0.heap.size w0 w ->
   (∀e∈o.after,Region.binds .any e=true->∀d,qe l0.toArray e.on=some d->∃v,a.tmps[d]?=some v/\pvL (L.map fun p=>p.2.ok) e.on v w)->(∀j,(∀k,k<l0.length->qe l0.toArray k≠some j)->a.tmps[j]?=a0.tmps[j]?) ->
   (∀v w',Below w.heap.size w w'->R v w'->K (a.put o.dst v) w')->Oper.wp P o a w K Q
def jma(P:Program)(Q:Exit->Act->World->Prop)(l0:List Oper)(L:List (Nat×Kv))(a0:Act)(w0:World)(o:Oper):Kv->Prop
 | .val v=>yA P Q l0.toArray (L.map fun p=>p.2.get) a0 w0 o v/\(o.after.toList.all fun e => !Region.binds .any e || ((L[e.on]?).any fun p=>p.2.isV))=true
 | .pr R=>jgN P Q l0 L a0 w0 o R
 | .kn v=>jgN P Q l0 L a0 w0 o (fun x _=>x=v)
theorem Xz{l0:List Oper}{L:List (Nat×Kv)}{o:Oper}{a:Act}{w:World}(h:jg2 l0 L o=true)(dep:∀e∈o.after,Region.binds .any e=true->∀d,qe l0.toArray e.on=some d->∃v,a.tmps[d]?=some v/\pvL (L.map fun p=>p.2.ok) e.on v w):
  Region.wanted o (yielded l0.toArray a.tmps)=true:=by
 unfold jg2 at h
 unfold Region.wanted
 cases hg:o.guard with
 | none=>rfl
 | some p =>
 obtain⟨g,c⟩:=p
 rw[hg]at h
 dsimp only at h ⊢
 rw[jnv,jnv,jpy]at h
 obtain⟨⟨⟨e,he,hb⟩,hs⟩,hm⟩:=h
 rw[jnv]at hb
 obtain rfl:e.on=g:=by simpa using hb.2
 obtain⟨d,hd⟩:=Option.isSome_iff_exists.1 hs
 obtain⟨v,h1,h2⟩:=dep e (by simpa using he) hb.1 d hd
 have hy:yielded l0.toArray a.tmps e.on=bV v:=by
  unfold yielded
  unfold qe at hd
  rw[hd]
  show(match a.tmps[d]? with | some (.bool b)=>some b | _=>none)=_
  rw[h1]
  cases v<;>rfl
 rw[hy]
 unfold pvL at h2
 rw[jnF]at h2
 split at hm
 ·rename_i d' b hq
  rw[hq]at h2
  have e2:v=.bool b:=h2
  subst e2
  obtain rfl:b=c:=by simpa using hm
  simp[bV]
 cases hm
def KH(P:Program)(Q:Exit->Act->World->Prop)(l0:List Oper)(L:List (Nat×Kv))(a0:Act)(w0:World):List Oper->List (Nat×Kv)->Prop
 | o::os,p::ps=>jma P Q l0 L a0 w0 o p.2/\KH P Q l0 L a0 w0 os ps
 | [],[]=>True
 | _,_=>False
theorem KH.at{P:Program}{Q:Exit->Act->World->Prop}{l0:List Oper}{L:List (Nat×Kv)}{a0:Act}{w0:World}:∀{os:List Oper} {ps:List (Nat×Kv)},KH P Q l0 L a0 w0 os ps->∀{i:Nat} {o:Oper},os[i]?=some o->∃p,ps[i]?=some p/\jma P Q l0 L a0 w0 o p.2
 | [],[],_,i,o,h=>by simp at h
 | o::os,p::ps,hs,0,o',h=>by
  obtain rfl:o=o':=jng h
  exact⟨p,rfl,hs.1⟩
 | o::os,p::ps,hs,i+1,o',h=>KH.at (os:=os) (ps:=ps) hs.2 h
 | [],_::_,hs,_,_,_=>hs.elim
 | _::_,[],hs,_,_,_=>hs.elim
theorem wpAny_some_tail{P:Program}{l0:List Oper}{Q:Exit->Act->World->Prop}(n g:Nat)(L:List (Nat×Kv)){a0:Act}{w0:World}(hng:n+g=l0.length)(hg:0<g)(hln:L.length=n)
  (hsk:Region.sinkB .any l0.toArray n=true) (hch:Region.chainB .any l0.toArray n=true) (hsq:Region.seqB .any l0.toArray g n (List.replicate n true++List.replicate g false).toArray=true)
  (hc:jli l0.toArray a0.tmps.size=true) (hd:((List.range n).map (qe l0.toArray)==L.map fun p=>some p.1)=true) (hm:monos L)
  (hs:KH P Q l0 L a0 w0 (l0.take n) L)
  (hQ:∀(f:Nat->Value) w,prs f w 0 L->Below w0.heap.size w0 w->wpList P l0.toArray Q (l0.drop n) {a0 with tmps:=(fin f 0 L).foldl (fun u p=>u.setIfInBounds p.1 p.2) a0.tmps} w) :
  wpAny P .any l0.toArray Q l0.toArray.size (Array.replicate l0.toArray.size false) a0 w0:=by
 have hd':(List.range n).map (qe l0.toArray)=L.map fun p=>some p.1:=by simpa using hd
 have dat:∀i p,L[i]?=some p->qe l0.toArray i=some p.1:=fun i p h=>by
  have hi:i<n:=by rw[<- hln];exact(List.getElem?_eq_some_iff.1 h).1
  have h1:=congrArg (fun l=>l[i]?) hd'
  simp only[jnF,List.getElem?_range hi,h,joP]at h1
  exact jng h1
 unfold jli at hc
 rw[jnZ]at hc
 have pv:∀(i:Nat) (p:Nat×Kv) v w,L[i]?=some p->(pvL (L.map fun p=>p.2.ok) i v w↔p.2.ok v w):=by
  intro i p v w hp
  unfold pvL
  rw[jnF,hp]
  exact Iff.rfl
 refine qN n g hng hg a0 w0 (qe l0.toArray) (L.map fun p=>p.2.ok) (Ue L hm) hsk hch hsq (fun i o hi ho=>by unfold qe;rw[jnl,ho];rfl) ?inj ?dlt ?low ?step ?tail
 case inj =>
  intro i k d hi hk h1 h2
  have h:=hc i (List.mem_range.2 (by simp;omega))
  rw[jnv,h1]at h
  have h3:=h.1
  simp only[jnv,jnZ,List.mem_range]at h3
  have h4:=h3.2 k (by simp;omega)
  rw[h2]at h4
  have h5:k=i:=by simpa using h4
  exact h5.symm
 case dlt =>
  intro i d hi h1
  have h:=hc i (List.mem_range.2 (by simp;omega))
  rw[jnv,h1]at h
  have h3:=h.1
  simp only[jnv,decide_eq_true_eq]at h3
  exact h3.1
 case low =>
  intro i o e ho he hb
  have hi:i<l0.length:=(List.getElem?_eq_some_iff.1 ho).1
  have h:=hc i (List.mem_range.2 (by simpa using hi))
  rw[jnv,jnl,ho]at h
  have h3:=h.2
  simp only[jnZ]at h3
  have h4:=h3 e (by simpa using he)
  rw[hb]at h4
  simpa using h4
 case step =>
  intro i o a w hi ho hz hf dep hR
  have ho':(l0.take n)[i]?=some o:=by rw[jnS,if_pos hi];exact ho
  obtain⟨p,h1,h2⟩:=KH.at hs ho'
  have hdo:qe l0.toArray i=o.dst:=by unfold qe;rw[jnl,ho];rfl
  have hf':∀j,(∀k,k<l0.toArray.size->qe l0.toArray k≠some j)->a.tmps[j]?=a0.tmps[j]?:=fun j h=>hf j fun k hk=>h k (by simp;omega)
  obtain⟨d,kv⟩:=p
  cases kv with
  | val v =>
   obtain⟨h2,h9⟩:=h2
   rw[jnZ]at h9
   replace dep:∀e∈o.after,Region.binds .any e=true->∀d,qe l0.toArray e.on=some d->∃v,a.tmps[d]?=some v/\(L.map fun p=>p.2.get)[e.on]?=some v:=fun e he hb d hd=>by
    obtain⟨v,e1,e2⟩:=dep e he hb d hd
    have h8:=h9 e (by simpa using he)
    rw[hb]at h8
    refine⟨v,e1,?_⟩
    cases hq:L[e.on]? with
    | none=>rw[hq]at h8;simp at h8
    | some q =>
    rw[hq]at h8
    rw[pv _ q _ _ hq]at e2
    rw[jnF,hq]
    obtain⟨d',kv'⟩:=q
    cases kv' with
    | val x=>exact congrArg some e2.symm
    | kn x=>exact congrArg some e2.symm
    | pr R=>simp[Kv.isV]at h8
   have ev:=jbe (V:=L.map fun p=>p.2.get) (a0:=a0) (o:=o) dep hf'
   rcases h2 with ⟨h3,rfl⟩|⟨h3,h4⟩
   ·exact .inr ⟨yC h3 dep,(pv i _ _ w h1).2 rfl⟩
   refine .inl ⟨yC h3 dep,fun K hK => ?_⟩
   rw[hdo]at hK
   rcases h4 with h4|h4
   ·exact jbq h4 ev (hK v w (jne _ _) ((pv i _ _ w h1).2 rfl))
   exact h4 a w K hR ev (fun w' hb=>hK v w' hb ((pv i _ _ w' h1).2 rfl))
  | pr R =>
   obtain⟨h3,h4⟩:=h2
   refine .inl ⟨Xz h3 dep,fun K hK => ?_⟩
   rw[hdo]at hK
   exact h4 a w K hR dep (fun j h=>hf' j (fun k hk=>h k (by simpa using hk))) (fun v w' hb hr=>hK v w' hb ((pv i _ _ w' h1).2 hr))
  | kn x =>
  obtain⟨h3,h4⟩:=h2
  refine .inl ⟨Xz h3 dep,fun K hK => ?_⟩
  rw[hdo]at hK
  exact h4 a w K hR dep (fun j h=>hf' j (fun k hk=>h k (by simpa using hk))) (fun v w' hb hr=>hK v w' hb ((pv i _ _ w' h1).2 hr))
 case tail =>
 intro a w hdf hz hf hv hR
 have hval:∀i:Nat,∃v:Value,∀p:Nat×Kv,L[i]?=some p->a.tmps[p.1]?=some v/\p.2.ok v w:=fun i=>by
  cases hp:L[i]? with
  | none=>exact⟨undef,fun p h=>by cases h⟩
  | some p =>
  obtain⟨v,h1,h2⟩:=hv i p.1 (by have:=(List.getElem?_eq_some_iff.1 hp).1;omega) (dat i p hp)
  exact⟨v,fun q hq=>by obtain rfl:=jng hq;exact⟨h1,(pv i _ _ w hp).1 h2⟩⟩
 obtain⟨f,hfv⟩:=Classical.axiomOfChoice hval
 have hfin:∀(i:Nat) (p:Nat×Kv),L[i]?=some p->(fin f 0 L)[i]?=some (p.1,f i):=fun i p hp=>by
  rw[Kr,hp]
  have:=(hfv i p hp).2
  obtain⟨d,kv⟩:=p
  cases kv with
  | val v=>rw[show f i=v from this];rfl
  | kn v=>rw[show f i=v from this];rfl
  | pr R=>simp
 have hlen:(fin f 0 L).map Prod.fst=L.map Prod.fst:=by
  apply joG
  intro i
  rw[jnF,jnF,Kr]
  cases L[i]?<;>rfl
 rw[ZI (a:=a) (a0:=a0) (fin f 0 L) hdf hz (fun p hp=>by
  obtain⟨i,hi,e⟩:=jpf hp
  have hi':(fin f 0 L)[i]?=some p:=by rw[jnh hi,e]
  obtain⟨q,hq⟩:∃q,L[i]?=some q:=by
   rw[Kr]at hi'
   cases hq:L[i]? with
   | none=>rw[hq]at hi';cases hi'
   | some q=>exact⟨q,rfl⟩
  rw[hfin i q hq]at hi'
  obtain rfl:=jng hi'
  exact(hfv i q hq).1) (fun j hj=>hf j fun k hk q=>hj (by
   obtain⟨p,hp⟩:∃p,L[k]?=some p:=⟨_,jnh (by omega)⟩
   have:=dat k p hp
   rw[q]at this
   obtain rfl:=jng this
   rw[hlen]
   exact joH (jnC hp)))]
 exact hQ f w (jbW f w L 0 fun i p hp=>by rw[jnX];exact(hfv i p hp).2) hR
theorem ji6{Q:Exit->Act->World->Prop}{ops:Array Oper}{V:List Value}{a0:Act}{w0:World}{o:Oper}{v:Value}(h:yj ops V o=some true)
  (hr:∀(ρ:Operand->Value) (w:World),Below w0.heap.size w0 w->(∀x u,qw ops V a0 o x=some u->ρ x=u)->(execOp ρ o).run prog w=.ok (.value v) w):yA prog Q ops V a0 w0 o v :=
 Uw h fun a w K hR ev hK=>QL (hr a.eval w hR ev) (hK w (jne _ _))
theorem nilK{Q:Exit->Act->World->Prop}{ops:Array Oper}{V:List Value}{a0:Act}{w0:World}{o:Oper}{x:Operand}{p:Addr}(h:yj ops V o=some true)(ho:o.op=Op.nilCheck x)(hx:qw ops V a0 o x=some (.pointer (some p))):yA prog Q ops V a0 w0 o (.pointer (some p)) :=
 ji6 h fun ρ w _ ev=>by simp only[execOp,ho,ev _ _ hx];simp[go_sem]
theorem extK{Q:Exit->Act->World->Prop}{ops:Array Oper}{V:List Value}{a0:Act}{w0:World}{o:Oper}{x:Operand}{vs:Array Value}{n:Nat}{v:Value}(h:yj ops V o=some true)(ho:o.op=Op.extract x n)(hx:qw ops V a0 o x=some (.tuple vs))(hv:vs[n]?=some v):yA prog Q ops V a0 w0 o v :=
 ji6 h fun ρ w _ ev=>by simp only[execOp,ho,ev _ _ hx];simp[go_sem,hv]
theorem call2K{Q:Exit->Act->World->Prop}{ops:Array Oper}{V:List Value}{a0:Act}{w0:World}{o:Oper}{v:Value}{F:Nat}{x y:Operand}{u z:Value}{T1 T2:TypeId}(h:yj ops V o=some true)(ho:o.op=Op.call {callee:=Callee.value (Operand.func F),args:=#[x,y],argTypes:=#[T1,T2]})(hx:qw ops V a0 o x=some u)(hy:qw ops V a0 o y=some z)
  (en:∀args w,(callFunc F args).run prog w=.ok (.enter F args) w) (hC:∀W,Below w0.heap.size w0 W->Calls prog F #[u,z] W fun e w'=>e=.returned v/\Below W.heap.size W w'):yA prog Q ops V a0 w0 o v :=
 Uw h fun a w K hR ev hK=>jhO (T:=fun z w'=>z=v/\Below w.heap.size w w') F ho (ev _ _ hx) (ev _ _ hy) en ((hC w hR).mono fun e w' ⟨he,hb⟩=>⟨v,he,rfl,hb⟩) (fun z w' hz=>by obtain⟨rfl,hb⟩:=hz;exact hK w' hb)
end Kn
namespace Vf
open Go.Maps
theorem yk{w W:World}(h:Below w.drew.heap.size w.drew W):Below w.heap.size w W:=(jne _ _).drew.trans h
def jmA(p:Nat)(z t:ByteArray):Array Value:=#[.pointer (some ⟨p,0,none⟩),.string z,.string t]
abbrev vB(w:World)(q p:Nat)(z t:ByteArray):Prop:=ja w q 69 (jmA p z t)
attribute [local go_sem] jT
theorem qA(q p:Nat)(z t:ByteArray)(w:World)(h:vB w q p z t):Calls prog 13 #[.pointer (some ⟨q,0,none⟩)] w fun e w'=>e=.returned (.string t)/\w=w':=by
 have c2:w.cell? ⟨q,2,none⟩=some (.string t):=h.cell 2
 clear h
 go_enter func13,ntmps13
 go_wp2_with fail
 go_ret
 exact⟨rfl,rfl⟩
theorem jfR(q p:Nat)(z t:ByteArray)(w:World)(h:vB w q p z t):Calls prog 23 #[.pointer (some ⟨q,0,none⟩)] w fun e w'=>e=.returned (.string z)/\w=w':=by
 have c1:w.cell? ⟨q,1,none⟩=some (.string z):=h.cell 1
 clear h
 go_enter func23,ntmps23
 go_wp2_with fail
 go_ret
 exact⟨rfl,rfl⟩
theorem jki(u:Value)(w:World)(hu:∃t d,u=.iface t d):Calls prog 53 #[.nilIface,u] w fun e w'=>e=.returned (.bool false)/\w=w':=by
 obtain⟨t,d,rfl⟩:=hu
 have e1:(binOp BinOp.eql 35 .nilIface (.iface t d)).run prog w=.ok (.bool false) w:=by
  first
   | (simp[binOp,go_sem,Op.equal];done)
   | (simp[binOp,go_sem,Op.equal,Op.equalAt];done)
   | kernel_rfl
 go_enter func53,ntmps53
 go_wp2_with fail
 go_ret
 exact⟨rfl,rfl⟩
theorem Qi{L n q p:Nat}{D:ji}{z t:ByteArray}{w:World}(h:vB w q p z t)(hd:jD L w p D)(hf:zJ n D)(hn:n<=300000)(hz:z.size<=1000000)(hr:yx D z=(t,0)):
  Calls prog 19 #[.pointer (some ⟨q,0,none⟩)] w fun e w'=>e=.returned .nilIface/\Below w.heap.size w w':=by
 have K:=fun W (hW:Below w.heap.size w W)=>jjT (hd.below hW) hf hn z hz
 rw[hr]at K
 replace K:=jnc K
 have C0:Hid (∀W,Below w.heap.size w W->W.cell? ⟨q,0,none⟩=some (.pointer (some ⟨p,0,none⟩))):=fun W hW=>(jd h hW h.lt).cell 0
 have C1:Hid (∀W,Below w.heap.size w W->W.cell? ⟨q,1,none⟩=some (.string z)):=fun W hW=>(jd h hW h.lt).cell 1
 have C2:Hid (∀W,Below w.heap.size w W->W.cell? ⟨q,2,none⟩=some (.string t)):=fun W hW=>(jd h hW h.lt).cell 2
 clear h hd hf hr
 go_enter func19,ntmps19
 go_upto_region 3 with fail
 refine wp_region_any (by kernel_rfl) ?_
 refine Kn.wpAny_known [(9,.pointer (some ⟨q,0,none⟩)),(10,.pointer (some ⟨q,0,none⟩)),(11,.pointer (some ⟨q,0,none⟩)),(12,.pointer (some ⟨q,0,none⟩)),(13,.pointer (some ⟨p,0,none⟩)),(14,.pointer (some ⟨q,0,none⟩)),(15,.pointer (some ⟨q,0,none⟩)),(16,.pointer (some ⟨q,0,none⟩)),(17,.pointer (some ⟨q,1,none⟩)),(18,.string z),(19,.tuple #[.string t,.nilIface]),(8,.tuple #[.string t,.nilIface]),(20,.string t),(21,.nilIface),(3,.string t),(4,.nilIface)] (by kernel_rfl) (by kernel_rfl) ?st ?hQ
 case st =>
  repeat (refine And.intro (by first
   | exact Kn.fieldK (b:=q) (i:=0) (j:=0) (by kernel_rfl) rfl (by kernel_rfl) rfl (fun w=>by simp[go_sem])
   | exact Kn.fieldK (b:=q) (i:=0) (j:=1) (by kernel_rfl) rfl (by kernel_rfl) rfl (fun w=>by simp[go_sem])
   | exact Kn.nilK (by kernel_rfl) rfl (by kernel_rfl)
   | exact Kn.loadK (T:=31) (b:=q) (i:=0) (by kernel_rfl) rfl (by kernel_rfl) (fun w hw=>by simp[go_sem,C0.out w (yk hw)])
   | exact Kn.loadK (T:=9) (b:=q) (i:=1) (by kernel_rfl) rfl (by kernel_rfl) (fun w hw=>by simp[go_sem,C1.out w (yk hw)])
   | exact Kn.call2K (u:=.pointer (some ⟨p,0,none⟩)) (z:=.string z) (by kernel_rfl) rfl (by kernel_rfl) (by kernel_rfl) (enters_of func26 (by kernel_rfl) rfl) (fun W hW=>K.out W (yk hW))
   | exact Kn.extK (vs:=#[.string t,.nilIface]) (by kernel_rfl) rfl (by kernel_rfl) rfl
   | exact Kn.stepA (by kernel_rfl) (by kernel_rfl)) ?_)
  exact trivial
 case hQ =>
 intro w1 b1
 simp only[List.foldl,jnq,jnM,jnN]
 have B1:=jnc (yk b1)
 have c2:=C2.out w1 (yk b1)
 have IS:=jnc (jki (.iface 46 (.int .i64 3)) w1 ⟨_,_,rfl⟩)
 clear b1 K C0 C1 C2
 go_wp2_with fail
 refine IS.out.mono ?_
 rintro e w2 ⟨rfl,rfl⟩
 have xx:(t.toList != t.toList)=false:=by simp
 go_wp2_with fail
 go_ret
 exact⟨rfl,B1.out⟩
theorem Qm{q:Nat}{t:ByteArray}{acts:Value}{cur:Array Value}{w:World}{R:World->Prop}(hc:cur.size=3)
  (hK:Calls prog 32 #[acts] w fun e w'=>e=.returned .nilIface/\ja w' q 69 cur/\R w') :
  Calls prog 39 #[.pointer (some ⟨q,0,none⟩),.string t,acts] w fun e w'=>e=.returned .nilIface/\∃w1,R w1/\ja w1 q 69 cur/\w'=w1.setCell ⟨q,2,none⟩ (.string t):=by
 have K:=jnc hK
 clear hK
 go_enter func39,ntmps39
 go_wp2_with fail
 refine K.out.mono ?_
 rintro e w1 ⟨rfl,h1,h2⟩
 have f2:=h1.frozen 2
 have H:=jnc (And.intro h1 h2)
 obtain⟨c2,hc2⟩:∃u,w1.cell? ⟨q,2,none⟩=some u:=by
  rw[h1.cell]
  exact⟨_,jnT (by omega)⟩
 clear h1 h2 K
 go_wp2_with fail
 go_ret
 exact⟨rfl,_,H.out.2,H.out.1,rfl⟩
theorem jkN(w:World):Calls prog 32 #[.slice none 0 0] w fun e w'=>e=.returned .nilIface/\w=w':=by
 go_enter func32,ntmps32
 go_wp2_with fail
 refine wp_loop_rounds 1 ?_
 rw[rounds_succ]
 go_wp2
 go_ret
 exact⟨rfl,rfl⟩
end Vf
section
attribute [local go_sem] jnn
end
section
open Go.Maps Go.ChangeShapes Go.Joins Go.WideShapes
attribute [local go_sem] jnn
structure Ed where
 kind:Int
 id:Int
 fields:List Fld
end
def nums(es:List En):List Int:=(es.map Prod.snd).filter fun n=>decide (0<n)
theorem Yo(a b:List En):nums (a++b)=nums a++nums b:=by unfold nums;rw[jol,jpn]
theorem yX(es:List En):(nums es).length=jaE es:=by
 unfold nums jaE
 rw[List.filter_map,jnI];rfl
theorem jhg(es:List En)(k:Nat)(it:It):(KV es k it).map Prod.snd=es.map Prod.snd:=by
 unfold KV
 apply joG
 intro j
 rw[jnF,jpd,jnF]
 cases es[j]? with
 | none=>rfl
 | some e =>
 by_cases h:k=j
 ·simp[h]
 simp[h]
structure OkL(l:LS):Prop where
 wf:WF l.es
 pos:0<l.next
 lt:∀n∈nums l.es,n<l.next
 nd:(nums l.es).Nodup
 len:jaE l.es<=400
theorem OkL.replace{l:LS}(h:OkL l){k:Nat}{e:En}(he:l.es[k]?=some e)(h3:e.1.kind=3)(fs:List Fld):OkL ⟨KV l.es k (zS fs),l.next⟩:=by
 have hn:nums (KV l.es k (zS fs))=nums l.es:=by unfold nums;rw[jhg]
 refine⟨h.wf.set k (zS fs) rfl e he h3,h.pos,?_,?_,?_⟩
 ·show ∀n∈nums (KV l.es k (zS fs)),n<l.next
  rw[hn];exact h.lt
 ·show(nums (KV l.es k (zS fs))).Nodup
  rw[hn];exact h.nd
 show jaE (KV l.es k (zS fs))<=400
 rw[<- yX,hn,yX];exact h.len
theorem jkW(es:List En)(k:Nat):(nums (jdX es k)).Sublist (nums es):=by
 unfold nums jdX
 refine List.Sublist.filter _ (List.Sublist.map _ ?_)
 conv=>rhs;rw[<- jnQ k es]
 exact(List.Sublist.refl _).append (by rw[<- joJ];exact List.drop_sublist _ _)
theorem OkL.delete{l:LS}(h:OkL l)(k:Nat):OkL ⟨jdX l.es k,l.next⟩:=by
 have hs:=jkW l.es k
 refine⟨h.wf.cut k,h.pos,fun n hn=>h.lt n (hs.subset hn),hs.nodup h.nd,?_⟩
 show jaE (jdX l.es k)<=400
 have:=hs.length_le
 rw[yX,yX]at this
 have:=h.len
 omega
theorem jhr(es:List En)(k:Nat)(it:It){n:Int}(hn:0<n):(nums (jaS es k (it,n))).Perm (n::nums es):=by
 have e1:nums (jaS es k (it,n))=nums (es.take k)++n::nums (es.drop k):=by
  unfold jaS
  rw[Yo]
  congr 1
  unfold nums
  rw[jnH,joB,if_pos (by simpa using hn)]
 have e2:nums es=nums (es.take k)++nums (es.drop k):=by rw[<- Yo,jnQ]
 rw[e1,e2]
 exact List.perm_middle
theorem OkL.insert{l:LS}(h:OkL l)(k:Nat)(fs:List Fld)(hf:¬400<=jaE l.es):OkL ⟨jaS l.es k (zS fs,l.next),l.next+1⟩:=by
 have hp:=jhr l.es k (zS fs) h.pos
 have hpos:=h.pos
 refine⟨h.wf.put k ⟨rfl,h.pos⟩,by show 0<l.next+1;omega,fun n hn => ?_,hp.nodup_iff.2 (List.nodup_cons.2 ⟨fun q => ?_,h.nd⟩),?_⟩
 ·show n<l.next+1
  rcases List.mem_cons.1 (hp.subset hn) with q|q
  ·omega
  have:=h.lt n q;omega
 ·have:=h.lt _ q;omega
 show jaE (jaS l.es k (zS fs,l.next))<=400
 have:=hp.length_eq
 rw[yX,jni,yX]at this
 omega
theorem jf0{es:List En}(h:WF es){id:Int}{k:Nat}(hf:vy es id=some k):∃e,es[k]?=some e/\e.1.kind=3/\e.2=id:=by
 obtain⟨_,e,he,h2,h3⟩:=jik hf
 rcases h e (jnC he) with ⟨q,_⟩|⟨_,q⟩
 ·exact⟨e,he,q,h2⟩
 omega
theorem OkL.edit{l:LS}(h:OkL l)(kind id:Int)(fs:List Fld):OkL (xU l kind id fs).ls:=by
 unfold xU
 split
 ·unfold qo
  split
  ·exact h
  rename_i k hk
  obtain⟨e,he,h3,_⟩:=jf0 h.wf hk
  split
  ·exact h.replace he h3 fs
  exact h
 split
 ·unfold vm
  split
  ·exact h
  exact h.delete _
 unfold qT
 split
 ·exact h
 split
 ·split
  ·exact h
  rename_i hf;exact h.insert _ fs hf
 exact h
theorem jiA(l:LS)(kind id:Int)(fs:List Fld):(xU l kind id fs).ls.es.length<=l.es.length+1/\l.next<=(xU l kind id fs).ls.next/\(xU l kind id fs).ls.next<=l.next+1:=by
 unfold xU
 split
 ·unfold qo
  split
  ·exact⟨jow _,joq _,by show l.next<=l.next+1;omega⟩
  split
  ·exact⟨by show(KV _ _ _).length<=_;rw[jhi];omega,joq _,by show l.next<=l.next+1;omega⟩
  exact⟨jow _,joq _,by show l.next<=l.next+1;omega⟩
 split
 ·unfold vm
  split
  ·exact⟨jow _,joq _,by show l.next<=l.next+1;omega⟩
  exact⟨by show(jdX _ _).length<=_;unfold jdX;rw[jnf,jnk,jnr];omega,joq _,by show l.next<=l.next+1;omega⟩
 unfold qT
 split
 ·exact⟨jow _,joq _,by show l.next<=l.next+1;omega⟩
 split
 ·split
  ·exact⟨jow _,joq _,by show l.next<=l.next+1;omega⟩
  exact⟨by show(jaS _ _ _).length<=_;unfold jaS;rw[jnf,jni,jnk,jnr];omega,by show l.next<=l.next+1;omega,joq _⟩
 exact⟨jow _,joq _,by show l.next<=l.next+1;omega⟩
end Go.Proofs.YtpibhbjmcmfnmaaGreatDoor
