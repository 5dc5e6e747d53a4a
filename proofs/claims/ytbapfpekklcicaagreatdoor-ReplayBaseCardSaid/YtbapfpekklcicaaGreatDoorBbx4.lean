/- Texts put together:RF,WB,WC,WD,WE,WF,FA. -/
import Derived.RangeFuncNested
import Derived.RangeFuncBound
import Derived.RangeFuncCalls
import Derived.RangeFuncLeaves
import Derived.Deep.RegionWith
import Derived.Deep.AppendLies
import Derived.Deep.RegionHeld3
import Derived.Shelf.Abstract
import Derived.Shelf.RegionOpen
import Derived.OwnWalkIn
import Derived.TacticsInMore
import Derived.LoopNIn
import Derived.LoopIn
import Derived.Shelf.Strings.SlTrimAscii
import Derived.Test.YtbapfpekklcicaaGreatDoorBbx3
set_option linter.unusedVariables false
set_option maxRecDepth 100000
set_option maxHeartbeats 16000000
namespace Go.Proofs.YtbapfpekklcicaaGreatDoor
open Go.RowKit Go.Shelf Tryz
abbrev jn9:=@Go.Oper.semAt_some
abbrev jot:=@Go.Lib.toList_data
abbrev joz:=@List.length_nil
abbrev joY:=@List.size_toArray
abbrev joZ:=@Array.replicate_succ
abbrev jo0:=@Array.replicate_zero
abbrev jo1:=@List.append_toArray
abbrev jo4:=@Go.World.putObj_heap_other
abbrev jo5:=@Go.Boxed.set
abbrev jo6:=@List.push_toArray
abbrev jpe:=@List.drop_zero
abbrev jps:=@Go.Boxed.new
abbrev jpt:=@List.all_append
abbrev jpL:=@Go.Lib.extract_to_end
abbrev jp0:=@Go.Lib.mk_data
abbrev jp4:=@List.singleton_append
abbrev jqj:=@Array.size_setIfInBounds
abbrev jqp:=@Go.Boxed.alloc
abbrev jqx:=@Go.World.alloc_heap_new
section
structure vX(B k:Nat)(W W':World):Prop where
 size:W.heap.size<=W'.heap.size
 same:∀r,B<=r->r<B+k->W'.heap[r]?=W.heap[r]?
theorem vX.refl(B k:Nat)(W:World):vX B k W W:=⟨jnT _,fun _ _ _=>rfl⟩
theorem vX.trans{B k:Nat}{X Y Z:World}(h:vX B k X Y)(g:vX B k Y Z):vX B k X Z :=
 ⟨jop h.size g.size,fun r a b=>(g.same r a b).trans (h.same r a b)⟩
theorem vX.alloc{B k:Nat}{X Y:World}(h:vX B k X Y)(a:B+k<=Y.heap.size)(o:Obj):vX B k X (Y.alloc o) :=
 h.trans ⟨by simp,fun r _ b=>jpI _ _ _ (by omega)⟩
theorem vX.setCell{B k:Nat}{X Y:World}(h:vX B k X Y){p:Addr}(c:p.block<B\/B+k<=p.block)(u:Value):vX B k X (Y.setCell p u) :=
 h.trans ⟨by simp[World.setCell],fun r a b=>joF _ _ _ _ (by omega)⟩
theorem vX.grown{B k:Nat}{X Y Z:World}(h:vX B k X Y){c:Option Nat}(d:Y.grownBy Z c)(g:B+k<=Y.heap.size)(f:∀r,c=some r->r<B\/B+k<=r):vX B k X Z :=
 h.trans ⟨d.size,fun r a b=>d.block r (by omega) (fun e=>by have:=f r e.symm;omega)⟩
theorem vX.below{B k n:Nat}{X Y Z:World}(h:vX B k X Y)(a:Below n Y Z)(c:B+k<=n):vX B k X Z :=
 h.trans ⟨a.size,fun r _ b=>a.block r (by omega)⟩
structure zm(B k:Nat)(W W':World):Prop where
 os:W'.os=W.os
 tape:W'.tape=W.tape
 output:W'.output=W.output
 size:W.heap.size<=W'.heap.size
 same:∀r,r<W.heap.size->r<B\/B+k<=r->W'.heap[r]?=W.heap[r]?
theorem zm.refl(B k:Nat)(W:World):zm B k W W:=⟨rfl,rfl,rfl,jnT _,fun _ _ _=>rfl⟩
theorem zm.trans{B k:Nat}{X Y Z:World}(h:zm B k X Y)(g:zm B k Y Z):zm B k X Z :=
 ⟨g.os.trans h.os,g.tape.trans h.tape,g.output.trans h.output,jop h.size g.size,fun r a b=>(g.same r (jod a h.size) b).trans (h.same r a b)⟩
theorem zm.grown{B k:Nat}{X Y Z:World}(h:zm B k X Y){d:Option Nat}(c:Y.grownBy Z d)(f:∀r,d=some r->B<=r/\r<B+k):zm B k X Z :=
 h.trans ⟨c.os,c.tape,c.output,c.size,fun r a b=>c.block r a (fun e=>by have:=f r e.symm;omega)⟩
theorem zm.alloc{B k:Nat}{X Y:World}(h:zm B k X Y)(o:Obj):zm B k X (Y.alloc o) :=
 h.grown (World.grownBy_alloc Y o none) (fun r e=>by cases e)
theorem zm.putObj{B k:Nat}{X Y:World}(h:zm B k X Y){l:Nat}(o:Obj)(a:B<=l)(b:l<B+k):zm B k X (Y.putObj l o) :=
 h.grown (grownBy_putObj' Y l o) (fun r e=>by cases e;exact⟨a,b⟩)
theorem zm.sub{B k e f:Nat}{X Y:World}(h:zm e f X Y)(a:B<=e)(b:e+f<=B+k):zm B k X Y :=
 ⟨h.os,h.tape,h.output,h.size,fun r c d=>h.same r c (by omega)⟩
theorem zm.below{B k n:Nat}{X Y:World}(h:zm B k X Y)(c:n<=B)(b:n<=X.heap.size):Below n X Y :=
 ⟨h.os,h.tape,h.output,h.size,fun r a=>h.same r (by omega) (by omega)⟩
theorem zm.box{B k b:Nat}{X Y:World}{t:TypeId}{v:Value}(h:zm B k X Y)(a:Boxed X b t v)(c:b<B\/B+k<=b):Boxed Y b t v :=
 (h.same b (Array.getElem?_eq_some_iff.1 (show X.heap[b]?=_ from a)).1 c).trans a
theorem zm.row{B k:Nat}{X Y:World}{base:Nat}{e:TypeId}{size:Nat}{v:Value}{n:Nat}{xs:List Value}(h:zm B k X Y)(j:X.ownsRow base e size v n xs)
  (m:∀b,v.ownBlock=some b->b<B\/B+k<=b):Y.ownsRow base e size v n xs:=by
 refine⟨j.1,?_⟩;rcases j.2 with l|⟨g,f,d,rfl,a,i,c⟩
 ·exact .inl l
 exact .inr ⟨g,f,d,rfl,a,(h.same g (Array.getElem?_eq_some_iff.1 i).1 (m g rfl)).trans i,c⟩
def zT{β:Type}(B k:Nat)(J:β->World->Prop):Prop:=∀s W W',J s W->zm B k W W'->J s W'
theorem zT.alloc{a:Type}{B k:Nat}{J:a->World->Prop}(h:zT B k J){s:a}{W:World}(o:Obj)(b:J s W):J s (W.alloc o) :=
 h s W _ b ((zm.refl _ _ _).alloc o)
theorem zT.putObj{c:Type}{B k:Nat}{J:c->World->Prop}(h:zT B k J){s:c}{W:World}{l:Nat}(o:Obj)(d:J s W)(a:B<=l)(b:l<B+k):J s (W.putObj l o) :=
 h s W _ d ((zm.refl _ _ _).putObj o a b)
theorem zT.and{d:Type}{B k:Nat}{I J:d->World->Prop}(h:zT B k I)(g:zT B k J):zT B k (fun s W=>I s W/\J s W) :=
 fun s W b a c=>⟨h s W b a.1 c,g s W b a.2 c⟩
theorem zT.pure{b:Type}(B k:Nat)(p:b->Prop):zT B k (fun s (_:World)=>p s):=fun _ _ _ a _=>a
theorem zT.below{e:Type}{B k n:Nat}{w:World}(c:n<=w.heap.size)(b:n<=B):zT B k (fun(_:e) W=>Below n w W) :=
 fun _ _ _ a d=>a.trans (d.below b (jop c a.size))
theorem zT.box{e:Type}{B k b:Nat}{t:TypeId}(d:b<B\/B+k<=b)(f:e->Value):zT B k (fun s W=>Boxed W b t (f s)) :=
 fun _ _ _ a c=>c.box a d
def jlR{α:Type}(P:Program)(g:Nat)(lb:Array Value)(encs:α->Array Value)(k:Nat)(xs:List α)(w:World):Prop :=
 ∀(l:Nat) (J Jx:List α->World->Prop) (W:World),Below w.heap.size w W->zT W.heap.size k J ->
  (∀pre x post W1,xs=pre++x::post->W.heap.size+k<=W1.heap.size->J pre W1->YieldAt Fence.wide 7 P l (encs x) W1 fun e W' =>
   (e=.returned (.bool true)/\J (pre++[x]) W'/\vX W.heap.size k W1 W')\/(e=.returned (.bool false)/\Jx (pre++[x]) W')) ->
  J [] W ->
  CallsIn Fence.wide 8 P g (#[.func (.yield l) #[] #[]]++lb) W fun e W'=>(∃v,e=.returned v)/\(J xs W'\/∃pre,pre <+: xs/\Jx pre W')
def left{α:Type}(B k:Nat)(I:List α->World->Prop)(Ix:Code->List α->World->Prop)(xs:List α)(W:World):Exit->Act->World->Prop
 | .normal,_,W'=>vX B k W W'/\I xs W'
 | .ret,_,W'=>vX B k W W'/\Ix .ret xs W'
 | .exit id,_,W'=>vX B k W W'/\Ix (.exit id) xs W'
 | .goto t,_,W'=>vX B k W W'/\Ix (.goto t) xs W'
 | .panic _,_,_=>False
 | .outgrown,_,_=>False
def Yn(B k:Nat)(M:Act->World->Prop)(W:World):Exit->Act->World->Prop :=
 Exit.then (fun a' W'=>vX B k W W'/\M a' W') (fun _ _ _=>False)
variable {P:Program}
def jhI{α:Type}(P:Program)(g:Nat)(lb:Array Value)(encs:α->Array Value)(k:Nat)(xs:List α)(K:World->Prop)(w:World):Prop :=
 ∀(l:Nat) (J Jx:List α->World->Prop) (W:World),Below w.heap.size w W->zT W.heap.size k J->(∀pre W,J pre W->K W) ->
  (∀pre x post W1,xs=pre++x::post->W.heap.size+k<=W1.heap.size->J pre W1->YieldAt Fence.wide 7 P l (encs x) W1 fun e W' =>
   (e=.returned (.bool true)/\J (pre++[x]) W'/\vX W.heap.size k W1 W')\/(e=.returned (.bool false)/\Jx (pre++[x]) W')) ->
  J [] W ->
  CallsIn Fence.wide 8 P g (#[.func (.yield l) #[] #[]]++lb) W fun e W'=>(∃v,e=.returned v)/\(J xs W'\/∃pre,pre <+: xs/\Jx pre W')
theorem Kk{G:Type}{g:Operand}{ps:Array Tmp}{assign body:Code}{Q:Exit->Act->World->Prop}{a:Act}{w:World}
  {gf:Nat} {lb:Array Value} (hg:a.eval g=.func (.func gf) #[] lb) (eg:∀args w,(callFunc gf args).run P w=.ok (.enter gf args) w)
  {E:G->Array Value} {k:Nat} {xs:List G} {K:World->Prop} (a8:jhI P gf lb E k xs K w) (am:∀x,(E x).size=ps.size)
  (I:List G->World->Prop) (Ix:Code->List G->World->Prop) (hI:zT w.heap.size (k+2) I) (R:∀c,zT w.heap.size 2 (Ix c)) (h0:I [] w) (hK:∀i W,I i W->K W)
  (M:List G->G->Act->World->Prop) (hM:∀i x X,zT w.heap.size 2 (fun(_:Unit) W=>M i x X W))
  (O:∀(l:Nat) (i:List G) (x:G) (y:List G) (W:World),xs=i++x::y->w.heap.size+(k+2)<=W.heap.size->I i W ->
   assign.wpIn (Fence.wide.inRound l) 7 P (Yn w.heap.size (k+2) (M i x) W) {tmps:=(ps.zip (E x)).foldl (fun t (p,v)=>t.setIfInBounds p v) a.tmps,defers:=[]} W)
  (Y:∀(l:Nat) (i:List G) (x:G) (y:List G) (X:Act) (W:World),xs=i++x::y->w.heap.size+(k+2)<=W.heap.size->M i x X W ->
   body.wpIn (Fence.wide.inRound l) 7 P (left w.heap.size (k+2) I Ix (i++[x]) W) X W)
  (a7:∀(W:World),I xs W->W.heap[w.heap.size]?=some (.deferred (some []))->Q .normal {a with defers:={target:=.collected w.heap.size,args:=#[]}::a.defers} W)
  (Z:∀(c:Code) (i:List G) (W:World),i <+: xs->Ix c i W->W.heap[w.heap.size]?=some (.deferred (some []))->c.wpIn Fence.wide 9 P Q {a with defers:={target:=.collected w.heap.size,args:=#[]}::a.defers} W) :
  (Code.rangeFunc g ps assign body).wpIn Fence.wide 9 P Q a w:=by
 refine wpIn_rangeFunc fun fn _ => ?_;show ∃l af ai d aD f args aF,(Instr.enterLoop fn a.tmps ps assign body none).run P w=.ok (l,af) ai/\_
 obtain⟨m,n⟩:∃m:LoopState->Option Code->Loop,m=fun st pe=>{state:=st,pending:=pe,fn,tmps:=a.tmps,params:=ps,assign,body,defers:=w.heap.size}:=⟨_,rfl⟩
 obtain⟨L,J⟩:∃L,(w.alloc (.deferred (some []))).alloc (.loop (m .ready none))=L:=⟨_,rfl⟩
 have aj:L.heap.size=w.heap.size+2:=by rw[<- J];simp
 have ap:L.heap[w.heap.size+1]?=some (.loop (m .ready none)):=by rw[<- J];have:=jqx (w.alloc (.deferred (some []))) (.loop (m .ready none));rwa [joe]at this
 have ar:L.heap[w.heap.size]?=some (.deferred (some [])):=by rw[<- J];exact(jpI _ _ _ (by simp)).trans (jqx w _)
 have av:I [] L:=by rw[<- J];exact hI.alloc _ (hI.alloc _ h0)
 have aC:Below w.heap.size w L:=by rw[<- J];exact((jnV _ w).alloc (jnT _) _).alloc (by simp) _
 have two:∀{A B:World},zm L.heap.size k A B->∀q o,q<w.heap.size+2->A.heap[q]?=some o->B.heap[q]?=some o :=
  fun ht q o hq ho=>(ht.same q (Array.getElem?_eq_some_iff.1 ho).1 (by omega)).trans ho
 refine⟨w.heap.size+1,[{target:=.collected w.heap.size,args:=#[]}],L,{target:=.fn (.func gf) lb,args:=#[.func (.yield (w.heap.size+1)) #[] #[]]},L,gf,
  #[.func (.yield (w.heap.size+1)) #[] #[]]++lb,L,?_,?_,fun _ _=>trivial,?_,(fun h=>by cases h),?_⟩
 ·rw[<- J,n];exact run_enterLoop_outer _ _ _ _ _
 ·simp only[resolve,hg];simp[go_sem]
 ·simp[invoke,go_sem,eg]
 refine(a8 (w.heap.size+1)
  (fun i W=>I i W/\W.heap[w.heap.size+1]?=some (.loop (m .ready none))/\W.heap[w.heap.size]?=some (.deferred (some [])))
  (fun i W=>∃c,Ix c i W/\W.heap[w.heap.size+1]?=some (.loop (m .done (some c)))/\W.heap[w.heap.size]?=some (.deferred (some [])))
  L aC
  (fun s A B hs ht=>⟨hI s A B hs.1 (ht.sub (by omega) (by omega)),two ht _ _ (by omega) hs.2.1,two ht _ _ (by omega) hs.2.2⟩)
  (fun s A hs=>hK s A hs.1)
  ?_ ⟨av,ap,ar⟩).mono ?_
 ·
  rintro i x y W hx aB ⟨hi,hl,hk⟩;rw[aj]at aB;have hy:=run_yield (P:=P) (args:=E x) hl (by rw[n];exact am x)
  rw[n]at hy;refine⟨fn,_,assign,body,hy,roundIn_of_wpIn trivial (wpIn_mono (O _ i x y W hx (by omega) hi) ?_)⟩;intro e X Wa H;cases e with
  | normal =>
   obtain⟨U,hm⟩:=H;have aa:=(U.same (w.heap.size+1) (by omega) (by omega)).trans hl
   have aq:=(U.same w.heap.size (by omega) (by omega)).trans hk;have au:=(Array.getElem?_eq_some_iff.1 aa).1
   refine⟨_,run_beginRound aa (by rw[n]),?_⟩;have aA:(Wa.putObj (w.heap.size+1) (.loop {m .ready none with state:=.busy})).heap[w.heap.size+1]?=some (.loop {m .ready none with state:=.busy}):=World.putObj_heap_same au
   have aw:(Wa.putObj (w.heap.size+1) (.loop {m .ready none with state:=.busy})).heap[w.heap.size]?=some (.deferred (some [])):=(jo4 (by omega)).trans aq;have ay:∀r,w.heap.size+2<=r->(Wa.putObj (w.heap.size+1) (.loop {m .ready none with state:=.busy})).heap[r]?=Wa.heap[r]?:=fun r V=>jo4 (by omega)
   have ak:∀o,(Wa.putObj (w.heap.size+1) o).heap.size=Wa.heap.size:=fun o=>by simp
   have aE:=(hM i x X).putObj (s:=()) (.loop {m .ready none with state:=.busy}) hm (l:=w.heap.size+1) (by omega) (by omega);have aG:=U.size
   refine wpIn_mono (Y _ i x y X _ hx (by rw[ak];omega) aE) ?_;have fin:∀(j:Option Code) (N:World),vX w.heap.size (k+2) (Wa.putObj (w.heap.size+1) (.loop {m .ready none with state:=.busy})) N ->
     (Instr.endRound (w.heap.size+1) j).run P N=.ok (.bool j.isNone) (N.putObj (w.heap.size+1) (.loop (m (if j.isNone then .ready else .done) j))) /\
     (N.putObj (w.heap.size+1) (.loop (m (if j.isNone then .ready else .done) j))).heap[w.heap.size+1]?=some (.loop (m (if j.isNone then .ready else .done) j)) /\
     (N.putObj (w.heap.size+1) (.loop (m (if j.isNone then .ready else .done) j))).heap[w.heap.size]?=some (.deferred (some [])):=fun j N u=>by
    have ah:=(u.same (w.heap.size+1) (by omega) (by omega)).trans aA;have ax:=(u.same w.heap.size (by omega) (by omega)).trans aw
    have:=run_endRound (P:=P) j ah;rw[n]at this ⊢;exact⟨this,World.putObj_heap_same (Array.getElem?_eq_some_iff.1 ah).1,(jo4 (by omega)).trans ax⟩
   intro e a3 N H;cases e with
   | normal =>
    obtain⟨u,z⟩:=H;obtain⟨V,D,C⟩:=fin none N u;refine⟨_,_,V,.inl ⟨rfl,⟨hI.putObj _ z (by omega) (by omega),D,C⟩,?_⟩⟩;have ag:=u.size
    refine⟨by simp only[World.putObj,jqj]at ag ⊢;omega,fun r a b => ?_⟩;rw[aj]at a b;rw[jo4 (by omega),u.same r (by omega) (by omega),ay r a,U.same r (by omega) (by omega)]
   | ret =>
    obtain⟨u,z⟩:=H;obtain⟨V,D,C⟩:=fin (some .ret) N u;exact⟨_,_,V,.inr ⟨rfl,.ret,(R _).putObj _ z (by omega) (by omega),D,C⟩⟩
   | exit id =>
    obtain⟨u,z⟩:=H;obtain⟨V,D,C⟩:=fin (some (.exit id)) N u;exact⟨_,_,V,.inr ⟨rfl,.exit id,(R _).putObj _ z (by omega) (by omega),D,C⟩⟩
   | goto t =>
    obtain⟨u,z⟩:=H;obtain⟨V,D,C⟩:=fin (some (.goto t)) N u;exact⟨_,_,V,.inr ⟨rfl,.goto t,(R _).putObj _ z (by omega) (by omega),D,C⟩⟩
   | panic ch=>exact H.elim
   | outgrown=>exact H.elim
  | ret=>exact H.elim
  | exit id=>exact H.elim
  | goto t=>exact H.elim
  | panic ch=>exact H.elim
  | outgrown=>exact H.elim
 ·
  rintro e W2 ⟨⟨v,rfl⟩,(⟨hi,hl,hk⟩|⟨i,ae,c,hi,hl,hk⟩)⟩
  ·exact⟨none,_,by have:=run_endLoop (P:=P) hl (by rw[n];simp);rw[n]at this;exact this,a7 _ (hI.putObj _ hi (by omega) (by omega)) ((jo4 (by omega)).trans hk)⟩
  exact⟨some c,_,by have:=run_endLoop (P:=P) hl (by rw[n];simp);rw[n]at this;exact this,Z c i _ ae ((R c).putObj _ hi (by omega) (by omega)) ((jo4 (by omega)).trans hk)⟩
theorem jfi{d:Type}{g:Operand}{u:Array Tmp}{assign body:Code}{Q:Exit->Act->World->Prop}{a:Act}{w:World}
  {gf:Nat} {lb:Array Value} (D:a.eval g=.func (.func gf) #[] lb) (z:∀args w,(callFunc gf args).run P w=.ok (.enter gf args) w)
  {f:d->Array Value} {k:Nat} {xs:List d} (n:jlR P gf lb f k xs w) (r:∀x,(f x).size=u.size)
  (I:List d->World->Prop) (q:Code->List d->World->Prop) (C:zT w.heap.size (k+2) I) (s:∀c,zT w.heap.size 2 (q c)) (y:I [] w)
  (M:List d->d->Act->World->Prop) (hM:∀b x o,zT w.heap.size 2 (fun(_:Unit) W=>M b x o W))
  (h:∀(l:Nat) (b:List d) (x:d) (e:List d) (W:World),xs=b++x::e->w.heap.size+(k+2)<=W.heap.size->I b W ->
   assign.wpIn (Fence.wide.inRound l) 7 P (Yn w.heap.size (k+2) (M b x) W) {tmps:=(u.zip (f x)).foldl (fun t (p,v)=>t.setIfInBounds p v) a.tmps,defers:=[]} W)
  (m:∀(l:Nat) (b:List d) (x:d) (e:List d) (o:Act) (W:World),xs=b++x::e->w.heap.size+(k+2)<=W.heap.size->M b x o W ->
   body.wpIn (Fence.wide.inRound l) 7 P (left w.heap.size (k+2) I q (b++[x]) W) o W)
  (j:∀(W:World),I xs W->W.heap[w.heap.size]?=some (.deferred (some []))->Q .normal {a with defers:={target:=.collected w.heap.size,args:=#[]}::a.defers} W)
  (i:∀(c:Code) (b:List d) (W:World),b <+: xs->q c b W->W.heap[w.heap.size]?=some (.deferred (some []))->c.wpIn Fence.wide 9 P Q {a with defers:={target:=.collected w.heap.size,args:=#[]}::a.defers} W) :
  (Code.rangeFunc g u assign body).wpIn Fence.wide 9 P Q a w :=
 Kk (K:=fun _=>True) D z (fun l J A W E G _=>n l J A W E G) r I q C s y (fun _ _ _=>trivial) M hM h m j i
def jic(s:ByteArray):ByteArray:=if nl s.data.toList then s.extract ((head s.data.toList).length+1) s.size else ⟨#[]⟩
theorem vM{p:UInt8->Bool}:∀{l:List UInt8},(∀x∈l,p x=true)->l.takeWhile p=l
 | [],_=>rfl
 | a::l,h=>by rw[joG,h a (by simp),if_pos rfl,vM fun x hx=>h x (by simp[hx])]
theorem jjt(s:ByteArray)(w:World)(d:s.size<=maxLen):
  Calls prog 86 #[.string s,.string ⟨#[10]⟩] w fun e b=>e=.returned (.tuple #[.string ⟨(head s.data.toList).toArray⟩,.string (jic s),.bool (nl s.data.toList)])/\∃n,b=w.drewN n:=by
 by_cases h:(10:UInt8)∈s.data.toList
 ·have a:nl s.data.toList=true:=by unfold nl;simpa using h
  have c:s.extract 0 (s.data.toList.takeWhile (· != 10)).length=⟨(head s.data.toList).toArray⟩:=by
   have f:=jo3 s 0 (s.data.toList.takeWhile (· != 10)).length;rw[<- jp0 (s.extract 0 _),f];have:List.take ((s.data.toList.takeWhile (· != 10)).length-0) (List.drop 0 s.data.toList)=head s.data.toList:=by rw[jpe,Nat.sub_zero];exact(List.prefix_iff_eq_take.1 (jpj _)).symm
   rw[this]
  refine(Gl s 10 w d h).mono ?_;rintro e b ⟨rfl,n,rfl⟩;refine⟨?_,n,rfl⟩;rw[a,c];unfold jic;rw[if_pos a];rfl
 have a:nl s.data.toList=false:=by unfold nl;simpa using h
 have c:head s.data.toList=s.data.toList:=by exact vM fun x hx=>by simp;rintro rfl;exact h hx
 refine(jdw s 10 w h).mono ?_;rintro e b ⟨rfl,n,rfl⟩;refine⟨?_,n,rfl⟩;rw[a,c,jp0];unfold jic;rw[a];rfl
structure Two(b c:Nat)(W W':World):Prop where
 os:W'.os=W.os
 tape:W'.tape=W.tape
 output:W'.output=W.output
 size:W.heap.size<=W'.heap.size
 same:∀r,r<W.heap.size->r≠b->r≠c->W'.heap[r]?=W.heap[r]?
theorem Two.refl(b c:Nat)(W:World):Two b c W W:=⟨rfl,rfl,rfl,jnT _,fun _ _ _ _=>rfl⟩
theorem Two.alloc{b c:Nat}{X Y:World}(h:Two b c X Y)(o:Obj):Two b c X (Y.alloc o) :=
 ⟨h.os,h.tape,h.output,by simp;have:=h.size;omega,fun r a x y=>(jpI _ _ _ (jod a h.size)).trans (h.same r a x y)⟩
theorem Two.setCell{b c:Nat}{X Y:World}(h:Two b c X Y){p:Addr}(d:p.block=b\/p.block=c\/X.heap.size<=p.block)(u:Value):Two b c X (Y.setCell p u) :=
 ⟨h.os,h.tape,h.output,by simp only[World.setCell,Array.size_modify];exact h.size,fun r a x y=>(joF _ _ _ _ (by omega)).trans (h.same r a x y)⟩
theorem Two.drew{b c:Nat}{X Y:World}(h:Two b c X Y):Two b c X Y.drew:=⟨h.os,h.tape,h.output,h.size,h.same⟩
theorem Two.drewN{b c:Nat}{X Y:World}(h:Two b c X Y)(n:Nat):Two b c X (Y.drewN n):=⟨h.os,h.tape,h.output,h.size,h.same⟩
theorem Two.box{b c d:Nat}{X Y:World}{t:TypeId}{v:Value}(h:Two b c X Y)(a:Boxed X d t v)(x:d≠b)(y:d≠c):Boxed Y d t v :=
 (h.same d a.lt x y).trans a
theorem Two.turned{b c B k:Nat}{X Y:World}(h:Two b c X Y)(e:B<=b/\b<B+k)(d:B<=c/\c<B+k):zm B k X Y :=
 ⟨h.os,h.tape,h.output,h.size,fun r a x=>h.same r a (by omega) (by omega)⟩
theorem jkT(s:ByteArray)(at_:Nat)(a f d:Nat)(w:World)(c:Boxed w a 3 (.int .i64 at_))(b:Boxed w f 9 (.string s))(g:at_=s.size):
  Calls prog 182 #[.pointer (some ⟨a,0,none⟩),.pointer (some ⟨f,0,none⟩),.pointer (some ⟨d,0,none⟩)] w fun e h =>
   e=.returned (.tuple #[.agg #[.int .i64 0,.int .i64 0,.string ⟨#[]⟩,.bool false],.bool false])/\Two d a w h:=by
 have i:=c.cell;have k:=b.cell
 have j:=c.lt;have l:=b.lt
 have m:((at_:Int)==(s.size:Int))=true:=by rw[g];simp
 go_enter func182,ntmps182;go_wp2;refine bodyPost_ret (v:=.tuple #[.agg #[.int .i64 0,.int .i64 0,.string ⟨#[]⟩,.bool false],.bool false]) (by simp[results,results182,go_sem]) rfl ⟨rfl,?_⟩;exact(Two.refl _ _ _).alloc _
theorem jiv(s:ByteArray)(at_ no:Nat)(a j b:Nat)(w:World)(l:Boxed w a 3 (.int .i64 at_))(u:Boxed w j 9 (.string s))(h:Boxed w b 3 (.int .i64 no))
  (h1:at_<s.size) (h2:no<s.size) (hs:s.size<=4294967295) (d1:a≠j) (N:a≠b) (d3:j≠b) :
  Calls prog 182 #[.pointer (some ⟨a,0,none⟩),.pointer (some ⟨j,0,none⟩),.pointer (some ⟨b,0,none⟩)] w fun e D =>
   e=.returned (.tuple #[.agg (qg ⟨no,at_,head (s.data.toList.drop at_),nl (s.data.toList.drop at_)⟩),.bool true])/\Two b a w D/\Boxed D b 3 (.int .i64 (no+1:Nat))/\Boxed D a 3 (.int .i64 (at_+qF (s.data.toList.drop at_):Nat)):=by
 have c1:=l.cell;have c2:=u.cell
 have c3:=h.cell;have f3:=h.frozen
 have z1:=l.lt;have z2:=u.lt
 have z3:=h.lt;have e1:((at_:Int)==(s.size:Int))=false:=by rw[beq_eq_false_iff_ne];omega
 go_enter func182,ntmps182;go_wp2_with fail;have hx:(s.extract at_ s.size).data.toList=s.data.toList.drop at_:=jpL s at_
 have P:(s.extract at_ s.size).size<=maxLen:=by rw[joa,hx];unfold maxLen;simp only[jn6,<- joa];omega
 refine(jjt (s.extract at_ s.size) _ P).mono ?_;rw[hx];rintro e z ⟨rfl,p,rfl⟩;have O:(head (s.data.toList.drop at_)).length+(Xu (nl (s.data.toList.drop at_))).size=qF (s.data.toList.drop at_):=by unfold qF Xu;cases nl (s.data.toList.drop at_)<;>rfl
 have G:=Wy (s.data.toList.drop at_);rw[jn6,<- joa]at G;have r:(⟨(head (s.data.toList.drop at_)).toArray⟩:ByteArray).size=(head (s.data.toList.drop at_)).length:=by simp[Lib.size_eq]
 generalize x:head (s.data.toList.drop at_)=d at *
 generalize t:nl (s.data.toList.drop at_)=c at *
 generalize q:qF (s.data.toList.drop at_)=H at *
 have H1:=jnS x;have W:=jnS t
 have Y:=jnS q;clear x t q;generalize jic (s.extract at_ s.size)=rs at *
 have E:=jnS O;have V:=jnS r
 clear O r hx P;go_upto_region 5 with fail;go_cut [] (fun g=>Two b a w g/\g.heap.size=w.heap.size+1+1/\Boxed g b 3 (.int .i64 (no+1:Nat))/\Boxed g a 3 (.int .i64 at_) /\
  jd g w.heap.size 157 #[.int .i64 0,.int .i64 0,.string ⟨#[]⟩,.bool false]/\jd g (w.heap.size+1) 157 #[.int .i64 no,.int .i64 at_,.string ⟨d.toArray⟩,.bool c])
 case first =>
  go_wp2_with fail;go_meet;refine⟨?_,?_,?_,?_,?_,?_⟩
  ·exact(((((((Two.refl b a w).alloc _).alloc _).drewN p).setCell (.inr (.inr (by simp))) _).setCell (.inr (.inr (by simp))) _).setCell (.inl rfl) _)
  ·simp[World.setCell]
  ·exact jo5 _ (jd.other (jd.other (((jd.alloc (jd.alloc h _) _).drewN p)) (by simp;omega) _) (by simp;omega) _)
  ·exact jd.other (jd.other (jd.other (((jd.alloc (jd.alloc l _) _).drewN p)) (by simp;omega) _) (by simp;omega) _) N _
  ·exact jd.other (jd.other (jd.other (((jd.alloc (jd.new w _ _) _).drewN p)) (by simp) _) (by simp) _) (by simp;omega) _
  have J:=jd.new (w.alloc (.cells #[.int .i64 0,.int .i64 0,.string ⟨#[]⟩,.bool false] 157)) 157 #[.int .i64 no,.int .i64 at_,.string ⟨#[]⟩,.bool false];rw[joe]at J;exact jd.other (((J.drewN p).set 2 (.string ⟨d.toArray⟩)).set 3 (.bool c)) (by simp;omega) _
 case rest =>
 obtain⟨U,t2,t3,t4,t5,f⟩:=hcut;have Z:=jnS t3
 have q0:=t4.cell;have q2:wc.cell? ⟨w.heap.size+1,2,none⟩=some (.string ⟨d.toArray⟩):=f.cell 2
 have q3:wc.cell? ⟨w.heap.size+1,0,none⟩=some (.int .i64 no):=f.cell 0;have q4:wc.cell? ⟨w.heap.size+1,1,none⟩=some (.int .i64 at_):=f.cell 1
 have g1:(wc.alloc (.cells #[.int .i64 no,.int .i64 at_,.string ⟨d.toArray⟩,.bool c] 157)).cell? ⟨a,0,none⟩=some (.int .i64 at_):=(jqp t4 _).cell;have g2:(wc.alloc (.cells #[.int .i64 no,.int .i64 at_,.string ⟨d.toArray⟩,.bool c] 157)).frozen? ⟨a,0,none⟩=false:=(jqp t4 _).frozen
 have m:∀o,((wc.alloc o).cell? ⟨w.heap.size+1,0,none⟩=some (.int .i64 no)/\(wc.alloc o).cell? ⟨w.heap.size+1,1,none⟩=some (.int .i64 at_)/\(wc.alloc o).cell? ⟨w.heap.size+1,2,none⟩=some (.string ⟨d.toArray⟩)/\(wc.alloc o).cell? ⟨w.heap.size+1,3,none⟩=some (.bool c)) :=
  fun o=>⟨(jd.alloc f o).cell 0,(jd.alloc f o).cell 1,(jd.alloc f o).cell 2,(jd.alloc f o).cell 3⟩
 have n:∀o v,(((wc.alloc o).setCell ⟨a,0,none⟩ v).cell? ⟨w.heap.size+1,0,none⟩=some (.int .i64 no)/\((wc.alloc o).setCell ⟨a,0,none⟩ v).cell? ⟨w.heap.size+1,1,none⟩=some (.int .i64 at_)/\((wc.alloc o).setCell ⟨a,0,none⟩ v).cell? ⟨w.heap.size+1,2,none⟩=some (.string ⟨d.toArray⟩)/\((wc.alloc o).setCell ⟨a,0,none⟩ v).cell? ⟨w.heap.size+1,3,none⟩=some (.bool c)) :=
  fun o v=>by
   have i:w.heap.size+1≠a:=by omega
   exact⟨((jd.alloc f o).other i v).cell 0,((jd.alloc f o).other i v).cell 1,((jd.alloc f o).other i v).cell 2,((jd.alloc f o).other i v).cell 3⟩
 have g3:(wc.alloc (.cells #[.int .i64 no,.int .i64 at_,.string ⟨d.toArray⟩,.bool c] 157)).cell? ⟨w.heap.size+1,2,none⟩=some (.string ⟨d.toArray⟩):=(jd.alloc f _).cell 2;clear m n;have n0:(Xu c).size<=1:=by unfold Xu;cases c<;>decide
 have p:d.length<=4294967295:=by have:=E.out;omega
 have n2:d.length+(Xu c).size<=s.size-at_:=by have:=E.out;omega
 have n3:IntKind.i64.wrap ((d.length:Int)+((Xu c).size:Int))=(d.length:Int)+((Xu c).size:Int):=jos _ (by omega);have n4:IntKind.i64.wrap ((at_:Int)+((d.length:Int)+((Xu c).size:Int)))=(at_:Int)+((d.length:Int)+((Xu c).size:Int)):=jos _ (by omega)
 have q5:wc.cell? ⟨w.heap.size+1,3,none⟩=some (.bool c):=f.cell 3;go_upto_region 6 with fail;go_cut [] (fun g=>Two b a w g/\Boxed g b 3 (.int .i64 (no+1:Nat))/\Boxed g a 3 (.int .i64 (at_+H:Nat)) /\
  jd g w.heap.size 157 #[.int .i64 0,.int .i64 0,.string ⟨#[]⟩,.bool false]/\jd g (w.heap.size+1) 157 #[.int .i64 no,.int .i64 at_,.string ⟨d.toArray⟩,.bool c])
 case first =>
  go_region_with (go_at_call 170;refine(jch _ _ _ _ _).mono ?_;rintro e z ⟨rfl,rfl⟩)
  all_goals
   go_wp2_with fail;go_meet;have X:Value.int .i64 ((at_:Int)+((d.length:Int)+((Xu c).size:Int)))=Value.int .i64 ((at_+H:Nat):Int):=by have:=E.out;congr 1;omega
   rw[X];exact⟨((U.alloc _).setCell (.inr (.inl rfl)) _).drew,jd.other (jd.alloc t3 _) (fun e=>N e.symm) _,jo5 _ (jqp t4 _),jd.other (jd.alloc t5 _) (by simp;omega) _,jd.other (jd.alloc f _) (by simp;omega) _⟩
 case rest =>
 obtain⟨r1,Q,R,k,y⟩:=hcut;have s0:wc.cell? ⟨w.heap.size+1,0,none⟩=some (.int .i64 no):=y.cell 0
 have s1:wc.cell? ⟨w.heap.size+1,1,none⟩=some (.int .i64 at_):=y.cell 1;have s2:wc.cell? ⟨w.heap.size+1,2,none⟩=some (.string ⟨d.toArray⟩):=y.cell 2
 have s3:wc.cell? ⟨w.heap.size+1,3,none⟩=some (.bool c):=y.cell 3;have s4:wc.cell? ⟨w.heap.size,0,none⟩=some (.int .i64 0):=k.cell 0
 have s5:wc.cell? ⟨w.heap.size,1,none⟩=some (.int .i64 0):=k.cell 1;have s6:wc.cell? ⟨w.heap.size,2,none⟩=some (.string ⟨#[]⟩):=k.cell 2
 have s7:wc.cell? ⟨w.heap.size,3,none⟩=some (.bool false):=k.cell 3;have y0:=k.frozen 0
 have y1:=k.frozen 1;have y2:=k.frozen 2
 have y3:=k.frozen 3;go_wp2_with fail;have A:=(((k.set 0 (.int .i64 no)).set 1 (.int .i64 at_)).set 2 (.string ⟨d.toArray⟩)).set 3 (.bool c)
 have I:=A.cell 0;have z:=A.cell 1
 have L:=A.cell 2;have K:=A.cell 3
 simp at I z L K;refine bodyPost_ret (v:=.tuple #[.agg #[.int .i64 no,.int .i64 at_,.string ⟨d.toArray⟩,.bool c],.bool true]) (by simp[results,results182,go_sem,I,z,L,K]) rfl ?_;have z5:a≠w.heap.size:=by omega
 have C:b≠w.heap.size:=by omega
 refine⟨by rw[H1.out,W.out];rfl,?_,?_,?_⟩
 ·exact(((r1.setCell (.inr (.inr (jnT _))) _).setCell (.inr (.inr (jnT _))) _).setCell (.inr (.inr (jnT _))) _).setCell (.inr (.inr (jnT _))) _
 ·exact jd.other (jd.other (jd.other (jd.other Q C _) C _) C _) C _
 rw[Y.out];exact jd.other (jd.other (jd.other (jd.other R z5 _) z5 _) z5 _) z5 _
end
section
attribute [local go_sem] jn9
theorem ji7(s:ByteArray)(w:World):
  Calls prog 140 #[.string s] w fun e a=>e=.returned (.func (.func 182) #[] #[.pointer (some ⟨w.heap.size+1+1,0,none⟩),.pointer (some ⟨w.heap.size,0,none⟩),.pointer (some ⟨w.heap.size+1,0,none⟩)]) /\
   a=((w.alloc (.cells #[.string s] 9)).alloc (.cells #[.int .i64 0] 3)).alloc (.cells #[.int .i64 0] 3):=by
 go_enter func140,ntmps140;go_wp2;go_ret;exact⟨rfl,rfl⟩
theorem jf0(s:ByteArray)(at_ no:Nat)(a c b:Nat)(w:World)(g:Boxed w a 3 (.int .i64 at_))(h:Boxed w c 9 (.string s))(f:Boxed w b 3 (.int .i64 no))
  (o:at_<s.size) (t:no<s.size) (q:s.size<=4294967295) (n:a≠c) (m:a≠b) (u:c≠b) (i:List UInt8) (k:Bool) (j:Nat)
  (r:head (s.data.toList.drop at_)=i) (p:nl (s.data.toList.drop at_)=k) (l:qF (s.data.toList.drop at_)=j) :
  Calls prog 182 #[.pointer (some ⟨a,0,none⟩),.pointer (some ⟨c,0,none⟩),.pointer (some ⟨b,0,none⟩)] w fun e d =>
   e=.returned (.tuple #[.agg #[.int .i64 no,.int .i64 at_,.string ⟨i.toArray⟩,.bool k],.bool true])/\Two b a w d/\Boxed d b 3 (.int .i64 (no+1:Nat))/\Boxed d a 3 (.int .i64 (at_+j:Nat)):=by
 subst r p l;exact jiv s at_ no a c b w g h f o t q n m u
def jmP(B:Nat)(w:World):Nat:=match w.cell? ⟨B,0,none⟩ with | some (.int _ n)=>n.toNat | _=>0
theorem Ve{B:Nat}{w:World}{t:TypeId}{n:Nat}(h:Boxed w B t (.int .i64 n)):jmP B w=n:=by unfold jmP;rw[h.cell];simp
theorem vp(s:ByteArray)(t:Nat)(w:World)(d:Boxed w t 9 (.string s))(U:s.size<=4294967295):
  jlR prog 139 #[.pointer (some ⟨t,0,none⟩)] (fun x=>#[.agg (qg x)]) 3 (jf s.data.toList) w:=by
 intro l J Jx W hW f Z O;have X:Boxed W t 9 (.string s):=(hW.block t d.lt).trans d
 have c0:=X.cell;refine callsIn_of_wp func139 rfl trivial ?_ rfl;simp only[ntmps139,joY,jn1,joz,Nat.reduceAdd,Nat.reduceSub,joZ,jo0,jo6,jo1,joL,jog];gi_wp2_with (refine⟨trivial,?_⟩;gi_at_call 140;refine(callsIn_wide.2 (ji7 s _)).mono ?_;rintro e r ⟨rfl,rfl⟩);gi_loopw [4] (fun _ i=>∃b a,jf s.data.toList=b++jP b.length a (s.data.toList.drop a)/\a<=s.size/\b.length<=a/\Boxed i W.heap.size 9 (.string s) /\
   Boxed i (W.heap.size+1) 3 (.int .i64 (b.length:Nat))/\Boxed i (W.heap.size+1+1) 3 (.int .i64 a)/\J b i)
  (fun _ i=>s.size-jmP (W.heap.size+1+1) i)
 case atStart =>
  refine⟨[],0,rfl,jn3 _,jnT _,?_,?_,?_,f.alloc _ (f.alloc _ (f.alloc _ O))⟩
  ·exact((jps W _ _).alloc _).alloc _
  ·have:=(jps (W.alloc (.cells #[.string s] 9)) 3 (.int .i64 0)).alloc (.cells #[.int .i64 0] 3);rw[joe]at this;exact this
  have:=jps ((W.alloc (.cells #[.string s] 9)).alloc (.cells #[.int .i64 0] 3)) 3 (.int .i64 0);rw[joe,joe]at this;exact this
 case round =>
 obtain⟨b,a,hx,ha,hn,z,R,b3,L⟩:=hrel;by_cases C:a=s.size
 ·gi_wp2_with (refine⟨trivial,?_⟩;gi_at_call 182;refine(callsIn_wide.2 (jkT s a _ _ _ _ b3 z C)).mono ?_;rintro e r ⟨rfl,q⟩);refine⟨fun _ h=>(by cases h),?_⟩;gi_wp2;refine bodyPost_ret (results_none rfl _ _ _) rfl ⟨⟨_,rfl⟩,.inl ?_⟩;rw[C,joO (by rw[<- joa];exact jnT _),jq,jok]at hx;rw[hx];exact f.alloc _ (f _ _ _ L (q.turned (by omega) (by omega)))
 have G:a<s.size:=by omega
 have g:s.data.toList.drop a≠[]:=by intro e;have:=congrArg List.length e;rw[jn6,<- joa]at this;simp at this;omega
 rw[jx _ _ _ g,jpg]at hx;have hu:=qJ _ g
 have A:=Wy (s.data.toList.drop a);rw[jn6,<- joa]at A;generalize o:head (s.data.toList.drop a)=u at *
 generalize m:nl (s.data.toList.drop a)=v at *
 generalize k:qF (s.data.toList.drop a)=p at *
 have N:=callsIn_wide (n:=7).2 (jf0 s a b.length _ _ _ _ b3 z R G (by omega) U (by omega) (by omega) (by omega) u v p o m k);have y:=jnS hx
 clear o m k hx g C;gi_wp2_with (refine⟨trivial,?_⟩;gi_at_call 182;refine N.mono ?_;clear N;rintro e r ⟨rfl,q,P,K⟩);have hz:=q.size
 have Q:=b3.lt;have Y:J b r:=f _ _ _ L (q.turned (by omega) (by omega))
 obtain⟨fn,I,assign,body,D,H⟩:=Z b ⟨b.length,a,u,v⟩ _ (r.alloc (.cells #[.int .i64 b.length,.int .i64 a,.string ⟨u.toArray⟩,.bool v] 157)) y.out (by simp;omega) (f.alloc _ Y);dsimp only[qg]at D;rw[D,Oper.uponIn_round];refine⟨fun h=>(by cases h),H.mono ?_⟩;clear H D;rintro e V (⟨rfl,E,c⟩|⟨rfl,j⟩)
 ·gi_wp2;go_roundw
  case rel =>
   refine⟨b++[⟨b.length,a,u,v⟩],a+p,?_,by omega,by simp;omega,?_,?_,?_,E⟩
   ·rw[jn8,jp4,jnU];exact y.out
   ·exact(c.same _ (by omega) (by omega)).trans ((q.box z (by omega) (by omega)).alloc _)
   ·rw[jnU];exact(c.same _ (by omega) (by omega)).trans (jqp P _)
   exact(c.same _ (by omega) (by omega)).trans (jqp K _)
  case measure =>
  rw[Ve b3,Ve (B:=W.heap.size+1+1) (w:=V) (n:=a+p) ((c.same _ (by omega) (by omega)).trans (jqp K _))];omega
 gi_wp2;refine bodyPost_ret (results_none rfl _ _ _) rfl ⟨⟨_,rfl⟩,.inr ⟨_,⟨jP (b.length+1) (a+p) (List.drop (a+p) s.data.toList),?_⟩,j⟩⟩;rw[y.out,jn8,jp4]
theorem yF(s:ByteArray)(w:World):
  Calls prog 81 #[.string s] w fun e a=>e=.returned (.func (.func 139) #[] #[.pointer (some ⟨w.heap.size,0,none⟩)])/\a=w.alloc (.cells #[.string s] 9):=by
 go_enter func81,ntmps81;go_wp2;go_ret;exact⟨rfl,rfl⟩
theorem Jr(w:World)(o:Obj)(t:TypeId)(v:Value):Boxed ((w.alloc o).alloc (.cells #[v] t)) (w.heap.size+1) t v:=by have:=jps (w.alloc o) t v;rwa [joe]at this
end
theorem KO{s:ByteArray}{c:UInt8}{t:List UInt8}(h:s.data.toList=c::t):s.toList.isEmpty=false/\¬s.toList=[]/\1<=s.size:=by rw[jot,h];exact⟨rfl,by simp,by rw[Lib.size_eq,h];simp⟩
theorem Gh{s:ByteArray}(h:s.data.toList=[]):s=⟨#[]⟩:=by rw[<- jp0 s,h]
theorem jgv(c:UInt8):decide (0<=Lib.indexByte [32,9] c)=zY c:=by
 unfold zY;by_cases e:c=32
 ·subst e;decide
 by_cases d:c=9
 ·subst d;decide
 have a:((32:UInt8)==c)=false:=by simp[Ne.symm e]
 have b:((9:UInt8)==c)=false:=by simp[Ne.symm d]
 simp[Lib.indexByte,a,b,e,d]
theorem jlb(l:List UInt8)(c:UInt8):decide (0<=Lib.indexByte l c)=l.contains c:=by
 rcases ve l c with ⟨b,a⟩|⟨b,a⟩
 ·rw[b];simp[a]
 rw[b];simp[a]
theorem jij(l:List UInt8):Lib.hasPrefix l [35]=Zi l:=by
 unfold Lib.hasPrefix Zi;cases l with
 | nil=>rfl
 | cons a t=>simp[List.isPrefixOf,Bool.beq_comm]
theorem jhp(w:World):
  Calls prog 185 #[.string ⟨#[]⟩] w fun e a=>e=.returned (.bool false)/\w=a:=by
 go_enter func185,ntmps185;go_wp2;go_ret;exact⟨rfl,rfl⟩
theorem jeY(s:ByteArray)(c:UInt8)(t:List UInt8)(h:s.data.toList=c::t)(b:s.size<=maxLen)(w:World):
  Calls prog 185 #[.string s] w fun e a=>e=.returned (.bool (zY c))/\w=a:=by
 have g:1<=s.size:=by rw[joa,h];simp
 have i:s.extract 0 1=⟨#[c]⟩:=by have:=jo3 s 0 1;rw[h]at this;rw[<- jp0 (s.extract 0 1),this];rfl
 obtain⟨j,d,f⟩:=KO h;clear h;unfold maxLen at b;go_enter func185,ntmps185;go_wp2_with fail;refine(Tryz.strings_Contains_one ⟨#[32,9]⟩ c _).mono ?_;rw[show(⟨#[32,9]⟩:ByteArray).data.toList=[32,9] from rfl,jgv];rintro e a ⟨rfl,rfl⟩;go_wp2;go_ret;exact⟨rfl,rfl⟩
theorem Wv(s:ByteArray)(a:s.size<=maxLen)(w:World):
  Calls prog 185 #[.string s] w fun e b=>e=.returned (.bool (vh s.data.toList))/\w=b:=by
 cases h:s.data.toList with
 | nil=>rw[Gh h];exact jhp w
 | cons c t=>exact jeY s c t h a w
theorem Jj(s:ByteArray)(c:UInt8)(w:World):
  Calls prog 183 #[.string s,.string ⟨#[c]⟩] w fun e a=>e=.returned (.bool (qH s.data.toList c))/\w=a:=by
 refine(Tryz.strings_Contains_one s c _).mono ?_;rw[jlb];rintro e a ⟨rfl,rfl⟩;exact⟨rfl,rfl⟩
theorem xu(s:ByteArray)(w:World):
  Calls prog 91 #[.string s,.string ⟨#[35]⟩] w fun e a=>e=.returned (.bool (Zi s.data.toList))/\w=a:=by
 refine(Tryz.strings_HasPrefix s ⟨#[35]⟩ _).mono ?_;rw[show(⟨#[35]⟩:ByteArray).data.toList=[35] from rfl,jij];rintro e a ⟨rfl,rfl⟩;exact⟨rfl,rfl⟩
theorem jcA(s:ByteArray)(a:s.size<=9223372036854775807)(w:World):
  Calls prog 184 #[.string s,.string ⟨#[32,9]⟩] w fun e b=>e=.returned (.string ⟨(Lib.trimS s.data.toList [32,9]).toArray⟩)/\Below w.heap.size w b :=
 Any.strings_Trim_laid Tryz.lays160 (by kernel_rfl) s ⟨#[32,9]⟩ w a (by decide) (ascii_of_all (by decide))
theorem jgn(s:ByteArray)(l:s.size<=maxLen)(w:World):
  Calls prog 186 #[.string s] w fun e n=>e=.returned (.bool (jF s.data.toList))/\w=n:=by
 cases h:s.data.toList with
 | nil =>
  rw[Gh h];go_enter func186,ntmps186;go_wp2;go_ret;exact⟨rfl,rfl⟩
 | cons c t =>
 rw[<- h];obtain⟨u,r,p⟩:=KO h;clear h;have k:1<=s.data.toList.length:=by rw[<- joa];exact p
 have d:=joa s;have i:=Wv s l
 unfold maxLen at l;by_cases f:s.size<=32
 ·rw[d]at f;have b:jF s.data.toList=(!vh s.data.toList && !Zi s.data.toList && !qH s.data.toList 58 && !qH s.data.toList 10):=by unfold jF;rw[decide_eq_true k,decide_eq_true f];simp
  rw[b];rw[<- d]at f;clear d k b;cases g:vh s.data.toList with
  | true =>
   go_enter func186,ntmps186;go_wp2_with (go_at_call 185;refine(i _).mono ?_;rw[g];rintro e a ⟨rfl,rfl⟩);go_ret;exact⟨rfl,rfl⟩
  | false =>
  cases j:Zi s.data.toList with
  | true =>
   go_enter func186,ntmps186;go_wp2_with (first | (go_at_call 185;refine(i _).mono ?_;rw[g];rintro e a ⟨rfl,rfl⟩) | (go_at_call 91;refine(xu _ _).mono ?_;rw[j];rintro e a ⟨rfl,rfl⟩));go_ret;exact⟨rfl,rfl⟩
  | false =>
  cases m:qH s.data.toList 58 with
  | true =>
   go_enter func186,ntmps186;go_wp2_with (first | (go_at_call 185;refine(i _).mono ?_;rw[g];rintro e a ⟨rfl,rfl⟩) | (go_at_call 91;refine(xu _ _).mono ?_;rw[j];rintro e a ⟨rfl,rfl⟩) | (go_at_call 183;refine(Jj _ _ _).mono ?_;rw[m];rintro e a ⟨rfl,rfl⟩));go_ret;exact⟨rfl,rfl⟩
  | false =>
  cases q:qH s.data.toList 10
  all_goals
   go_enter func186,ntmps186;go_wp2_with (first | (go_at_call 185;refine(i _).mono ?_;rw[g];rintro e a ⟨rfl,rfl⟩) | (go_at_call 91;refine(xu _ _).mono ?_;rw[j];rintro e a ⟨rfl,rfl⟩) | (go_at_call 183;refine(Jj _ _ _).mono ?_;(first | rw[m] | rw[q]);rintro e a ⟨rfl,rfl⟩));go_ret;exact⟨rfl,rfl⟩
 have b:jF s.data.toList=false:=by unfold jF;rw[<- d,decide_eq_false f];simp
 rw[b];have o:32<s.size:=by omega
 clear d k b;go_enter func186,ntmps186;go_wp2;go_ret;exact⟨rfl,rfl⟩
theorem Below.drewN{B:Nat}{a w:World}(h:Below B a w)(n:Nat):Below B a (w.drewN n):=⟨h.os,h.tape,h.output,h.size,h.block⟩
def Yu(s:ByteArray):ByteArray:=⟨(Lib.trimS s.data.toList [32,9]).toArray⟩
def jbN(s:ByteArray):ByteArray:=s.extract 0 (before s.data.toList).length
def jbO(s:ByteArray):ByteArray:=s.extract ((before s.data.toList).length+1) s.size
theorem Ke(c:UInt8):([32,9]:List UInt8).contains c=zY c:=by
 unfold zY;by_cases b:c=32
 ·subst b;rfl
 by_cases a:c=9
 ·subst a;rfl
 simp[b,a]
theorem xA{p:UInt8->Bool}:∀{l:List UInt8},l.dropWhile p=[]↔l.all p=true
 | []=>by simp
 | a::l=>by rw[List.dropWhile_cons];cases h:p a<;>simp[h,xA]
theorem jcz(l:List UInt8):Lib.trimS l [32,9]=[]↔jR l=true:=by
 have e:(fun c=>([32,9]:List UInt8).contains c)=zY:=funext Ke;unfold Lib.trimS Lib.trimLeftS Lib.trimRightS jR;rw[e,xA,List.all_reverse];constructor
 ·intro h;have a:(l.reverse.takeWhile zY++l.reverse.dropWhile zY).all zY=true:=by rw[jpt,h,jpm];rfl
  rw[List.takeWhile_append_dropWhile,List.all_reverse]at a;exact a
 intro h;have:l.reverse.dropWhile zY=[]:=xA.2 (by rw[List.all_reverse];exact h)
 rw[this];rfl
theorem jcy(s:ByteArray)(a:s.size<=9223372036854775807)(h:jR s.data.toList=true)(w:World):
  Calls prog 184 #[.string s,.string ⟨#[32,9]⟩] w fun e b=>e=.returned (.string ⟨#[]⟩)/\Below w.heap.size w b:=by
 have:=jcA s a w;rwa [(jcz _).2 h]at this
theorem Yv(s:ByteArray)(a:s.size<=9223372036854775807)(w:World):
  Calls prog 184 #[.string s,.string ⟨#[32,9]⟩] w fun e b=>e=.returned (.string (Yu s))/\Below w.heap.size w b:=jcA s a w
theorem Kn(s:ByteArray)(h:jR s.data.toList=false):(Yu s).toList.isEmpty=false/\¬(Yu s).toList=[]:=by
 have:Lib.trimS s.data.toList [32,9]≠[]:=fun e=>by rw[(jcz _).1 e]at h;cases h
 have e:(Yu s).toList=Lib.trimS s.data.toList [32,9]:=by rw[jot];rfl
 rw[e];exact⟨by simpa using this,this⟩
theorem xY(s:ByteArray):(jbN s).data.toList=before s.data.toList:=by unfold jbN;rw[jo3,jpe,Nat.sub_zero];exact(List.prefix_iff_eq_take.1 (jpj _)).symm
theorem YI(s:ByteArray):(jbN s).size<=s.size:=by rw[joa,xY,joa];exact(jpj _).length_le
theorem jbg(s:ByteArray)(w:World)(a:s.size<=maxLen)(h:qH s.data.toList 58=true):
  Calls prog 86 #[.string s,.string ⟨#[58]⟩] w fun e b=>e=.returned (.tuple #[.string (jbN s),.string (jbO s),.bool true])/\∃n,b=w.drewN n :=
 Gl s 58 w a (by unfold qH at h;simpa using h)
theorem jjB(s:ByteArray)(w:World)(h:qH s.data.toList 58=false):
  Calls prog 86 #[.string s,.string ⟨#[58]⟩] w fun e a=>e=.returned (.tuple #[.string s,.string ⟨#[]⟩,.bool false])/\∃n,a=w.drewN n :=
 jdw s 58 w (by unfold qH at h;simpa using h)
theorem jem(s:ByteArray)(a:s.size<=maxLen)(w:World):
  Calls prog 186 #[.string (jbN s)] w fun e b=>e=.returned (.bool (jF (before s.data.toList)))/\w=b:=by
 have:=jgn (jbN s) (jop (YI s) a) w;rwa [xY]at this
theorem ZN(s:ByteArray)(l:s.size<=maxLen)(w:World):
  Calls prog 141 #[.string s] w fun e p=>e=.returned (.int .i64 (jm s.data.toList:Nat))/\Below w.heap.size w p:=by
 have c:s.size<=9223372036854775807:=by unfold maxLen at l;omega
 cases b:qH s.data.toList 10 with
 | true =>
  have a:jm s.data.toList=5:=by unfold jm;rw[if_pos b]
  rw[a];clear a;go_enter func141,ntmps141;go_wp2_with (first | (go_at_call 183;refine(Jj _ _ _).mono ?_;rw[b];rintro e d ⟨rfl,rfl⟩));go_ret;exact⟨rfl,jnV _ _⟩
 | false =>
 cases i:jR s.data.toList with
 | true =>
  have a:jm s.data.toList=1:=by unfold jm;rw[b,if_neg (by decide),if_pos i]
  rw[a];clear a;go_enter func141,ntmps141;go_wp2_with (first | (go_at_call 183;refine(Jj _ _ _).mono ?_;rw[b];rintro e d ⟨rfl,rfl⟩) | (go_at_call 184;refine(jcy s c i _).mono ?_;rintro e d ⟨rfl,f⟩));go_ret;exact⟨rfl,f⟩
 | false =>
 obtain⟨t,q⟩:=Kn s i;have m:=Wv s l
 cases g:Zi s.data.toList with
 | true =>
  have a:jm s.data.toList=2:=by unfold jm;rw[b,if_neg (by decide),i,if_neg (by decide),if_pos g]
  rw[a];clear a;go_enter func141,ntmps141;go_wp2_with (first | (go_at_call 183;refine(Jj _ _ _).mono ?_;rw[b];rintro e d ⟨rfl,rfl⟩) | (go_at_call 184;refine(Yv s c _).mono ?_;rintro e d ⟨rfl,f⟩) | (go_at_call 91;refine(xu _ _).mono ?_;rw[g];rintro e h ⟨rfl,rfl⟩));go_ret;exact⟨rfl,f⟩
 | false =>
 cases j:vh s.data.toList with
 | true =>
  have a:jm s.data.toList=3:=by unfold jm;rw[b,if_neg (by decide),i,if_neg (by decide),g,if_neg (by decide),if_pos j]
  rw[a];clear a;go_enter func141,ntmps141;go_wp2_with (first | (go_at_call 183;refine(Jj _ _ _).mono ?_;rw[b];rintro e d ⟨rfl,rfl⟩) | (go_at_call 184;refine(Yv s c _).mono ?_;rintro e d ⟨rfl,f⟩) | (go_at_call 91;refine(xu _ _).mono ?_;rw[g];rintro e h ⟨rfl,rfl⟩) | (go_at_call 185;refine(m _).mono ?_;rw[j];rintro e h ⟨rfl,rfl⟩));go_ret;exact⟨rfl,f⟩
 | false =>
 cases k:qH s.data.toList 58 with
 | false =>
  have a:jm s.data.toList=5:=by unfold jm;rw[b,if_neg (by decide),i,if_neg (by decide),g,if_neg (by decide),j,if_neg (by decide),if_neg (by rw[k];simp)]
  rw[a];clear a;have C:=fun w=>jjB s w k
  go_enter func141,ntmps141;go_wp2_with (first | (go_at_call 183;refine(Jj _ _ _).mono ?_;rw[b];rintro e d ⟨rfl,rfl⟩) | (go_at_call 184;refine(Yv s c _).mono ?_;rintro e d ⟨rfl,f⟩) | (go_at_call 91;refine(xu _ _).mono ?_;rw[g];rintro e h ⟨rfl,rfl⟩) | (go_at_call 185;refine(m _).mono ?_;rw[j];rintro e h ⟨rfl,rfl⟩) | (go_at_call 86;refine(C _).mono ?_;rintro e h ⟨rfl,n,rfl⟩));go_ret;exact⟨rfl,Below.drewN f n⟩
 | true =>
 have C:=fun w=>jbg s w l k;have K:=jem s l
 have a:jm s.data.toList=if jF (before s.data.toList)=true then 4 else 5:=by unfold jm;rw[b,if_neg (by decide),i,if_neg (by decide),g,if_neg (by decide),j,if_neg (by decide),k];simp
 cases o:jF (before s.data.toList)
 all_goals
  rw[o]at a;rw[a];clear a;go_enter func141,ntmps141;go_wp2_with (first | (go_at_call 183;refine(Jj _ _ _).mono ?_;rw[b];rintro e d ⟨rfl,rfl⟩) | (go_at_call 184;refine(Yv s c _).mono ?_;rintro e d ⟨rfl,f⟩) | (go_at_call 91;refine(xu _ _).mono ?_;rw[g];rintro e h ⟨rfl,rfl⟩) | (go_at_call 185;refine(m _).mono ?_;rw[j];rintro e h ⟨rfl,rfl⟩) | (go_at_call 86;refine(C _).mono ?_;rintro e h ⟨rfl,n,rfl⟩) | (go_at_call 186;refine(K _).mono ?_;rw[o];rintro e r ⟨rfl,rfl⟩));go_ret;exact⟨rfl,Below.drewN f n⟩
theorem jjs(s:ByteArray)(hs:s.size<=maxLen)(h:jm s.data.toList=4)(w:World):
  Calls prog 223 #[.string s] w fun e w'=>e=.returned (.tuple #[.string (jbN s),.string (jbO s),.bool true])/\Below w.heap.size w w':=by
 have h5:qH s.data.toList 58=true:=by
  unfold jm at h
  split at h;· cases h
  split at h;· cases h
  split at h;· cases h
  split at h;· cases h
  split at h
  ·rename_i q;exact q.1
  cases h
 have C:=fun w=>jbg s w hs h5
 have K:=ZN s hs
 rw[h]at K
 go_enter func223,ntmps223
 go_wp2_with (first | (go_at_call 141;refine(K _).mono ?_;rintro e w1 ⟨rfl,b1⟩) | (go_at_call 86;refine(C _).mono ?_;rintro e w2 ⟨rfl,n,rfl⟩))
 go_ret3
 exact⟨rfl,Below.drewN b1 n⟩
end Go.Proofs.YtbapfpekklcicaaGreatDoor
