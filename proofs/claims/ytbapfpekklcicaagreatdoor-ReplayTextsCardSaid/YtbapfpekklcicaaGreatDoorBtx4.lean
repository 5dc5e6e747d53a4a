/- Texts put together:RF,WB,WC,WD,WE,WF,FA. -/
import Derived.RangeFuncNested
import Derived.RangeFuncBound
import Derived.RangeFuncCalls
import Derived.RangeFuncLeaves
import Derived.Deep.RegionWith
import Derived.Deep.AppendLies
import Derived.Deep.RegionHeld3
import Derived.Shelf.Abstract
import Derived.Shelf.RegionOpen
import Derived.OwnWalkIn
import Derived.TacticsInMore
import Derived.LoopNIn
import Derived.LoopIn
import Derived.Shelf.Strings.SlTrimAscii
import Derived.Test.YtbapfpekklcicaaGreatDoorBtx3
set_option linter.unusedVariables false
set_option maxRecDepth 100000
set_option maxHeartbeats 16000000
namespace Go.Proofs.YtbapfpekklcicaaGreatDoor
open Go.RowKit Go.Shelf Tryz
abbrev joY:=@Go.Oper.semAt_some
abbrev jpm:=@List.length_nil
abbrev jpn:=@Go.Lib.toList_data
abbrev jpK:=@Array.replicate_succ
abbrev jpL:=@Array.replicate_zero
abbrev jpN:=@List.size_toArray
abbrev jpQ:=@List.append_toArray
abbrev jpT:=@Go.World.putObj_heap_other
abbrev jpU:=@List.push_toArray
abbrev jpV:=@Go.Boxed.set
abbrev jp2:=@List.drop_zero
abbrev jqe:=@Go.Boxed.new
abbrev jqi:=@List.all_append
abbrev jqB:=@Go.Lib.extract_to_end
abbrev jqU:=@Go.Lib.mk_data
abbrev jqW:=@List.singleton_append
abbrev jra:=@Array.size_setIfInBounds
abbrev jri:=@Go.Boxed.alloc
abbrev jro:=@Go.World.alloc_heap_new
section
structure vO(B k:Nat)(W W':World):Prop where
 size:W.heap.size<=W'.heap.size
 same:∀r,B<=r->r<B+k->W'.heap[r]?=W.heap[r]?
theorem vO.refl(B k:Nat)(W:World):vO B k W W:=⟨joJ _,fun _ _ _=>rfl⟩
theorem vO.trans{B k:Nat}{X Y Z:World}(h:vO B k X Y)(g:vO B k Y Z):vO B k X Z :=
 ⟨jpg h.size g.size,fun r a b=>(g.same r a b).trans (h.same r a b)⟩
theorem vO.alloc{B k:Nat}{X Y:World}(h:vO B k X Y)(a:B+k<=Y.heap.size)(o:Obj):vO B k X (Y.alloc o) :=
 h.trans ⟨by simp,fun r _ b=>jqz _ _ _ (by omega)⟩
theorem vO.setCell{B k:Nat}{X Y:World}(h:vO B k X Y){p:Addr}(c:p.block<B\/B+k<=p.block)(u:Value):vO B k X (Y.setCell p u) :=
 h.trans ⟨by simp[World.setCell],fun r a b=>jpw _ _ _ _ (by omega)⟩
theorem vO.grown{B k:Nat}{X Y Z:World}(h:vO B k X Y){c:Option Nat}(d:Y.grownBy Z c)(g:B+k<=Y.heap.size)(f:∀r,c=some r->r<B\/B+k<=r):vO B k X Z :=
 h.trans ⟨d.size,fun r a b=>d.block r (by omega) (fun e=>by have:=f r e.symm;omega)⟩
theorem vO.below{B k n:Nat}{X Y Z:World}(h:vO B k X Y)(a:Below n Y Z)(c:B+k<=n):vO B k X Z :=
 h.trans ⟨a.size,fun r _ b=>a.block r (by omega)⟩
structure zn(B k:Nat)(W W':World):Prop where
 os:W'.os=W.os
 tape:W'.tape=W.tape
 output:W'.output=W.output
 size:W.heap.size<=W'.heap.size
 same:∀r,r<W.heap.size->r<B\/B+k<=r->W'.heap[r]?=W.heap[r]?
theorem zn.refl(B k:Nat)(W:World):zn B k W W:=⟨rfl,rfl,rfl,joJ _,fun _ _ _=>rfl⟩
theorem zn.trans{B k:Nat}{X Y Z:World}(h:zn B k X Y)(g:zn B k Y Z):zn B k X Z :=
 ⟨g.os.trans h.os,g.tape.trans h.tape,g.output.trans h.output,jpg h.size g.size,fun r a b=>(g.same r (jo4 a h.size) b).trans (h.same r a b)⟩
theorem zn.grown{B k:Nat}{X Y Z:World}(h:zn B k X Y){d:Option Nat}(c:Y.grownBy Z d)(f:∀r,d=some r->B<=r/\r<B+k):zn B k X Z :=
 h.trans ⟨c.os,c.tape,c.output,c.size,fun r a b=>c.block r a (fun e=>by have:=f r e.symm;omega)⟩
theorem zn.alloc{B k:Nat}{X Y:World}(h:zn B k X Y)(o:Obj):zn B k X (Y.alloc o) :=
 h.grown (World.grownBy_alloc Y o none) (fun r e=>by cases e)
theorem zn.putObj{B k:Nat}{X Y:World}(h:zn B k X Y){l:Nat}(o:Obj)(a:B<=l)(b:l<B+k):zn B k X (Y.putObj l o) :=
 h.grown (grownBy_putObj' Y l o) (fun r e=>by cases e;exact⟨a,b⟩)
theorem zn.sub{B k e f:Nat}{X Y:World}(h:zn e f X Y)(a:B<=e)(b:e+f<=B+k):zn B k X Y :=
 ⟨h.os,h.tape,h.output,h.size,fun r c d=>h.same r c (by omega)⟩
theorem zn.below{B k n:Nat}{X Y:World}(h:zn B k X Y)(b:n<=B)(c:n<=X.heap.size):Below n X Y :=
 ⟨h.os,h.tape,h.output,h.size,fun r a=>h.same r (by omega) (by omega)⟩
theorem zn.box{B k b:Nat}{X Y:World}{t:TypeId}{v:Value}(h:zn B k X Y)(a:Boxed X b t v)(c:b<B\/B+k<=b):Boxed Y b t v :=
 (h.same b (Array.getElem?_eq_some_iff.1 (show X.heap[b]?=_ from a)).1 c).trans a
theorem zn.row{B k:Nat}{X Y:World}{base:Nat}{e:TypeId}{size:Nat}{v:Value}{n:Nat}{xs:List Value}(h:zn B k X Y)(j:X.ownsRow base e size v n xs)
  (l:∀b,v.ownBlock=some b->b<B\/B+k<=b):Y.ownsRow base e size v n xs:=by
 refine⟨j.1,?_⟩;rcases j.2 with m|⟨g,d,f,rfl,a,i,c⟩
 ·exact .inl m
 exact .inr ⟨g,d,f,rfl,a,(h.same g (Array.getElem?_eq_some_iff.1 i).1 (l g rfl)).trans i,c⟩
def zU{β:Type}(B k:Nat)(J:β->World->Prop):Prop:=∀s W W',J s W->zn B k W W'->J s W'
theorem zU.alloc{a:Type}{B k:Nat}{J:a->World->Prop}(h:zU B k J){s:a}{W:World}(o:Obj)(b:J s W):J s (W.alloc o) :=
 h s W _ b ((zn.refl _ _ _).alloc o)
theorem zU.putObj{c:Type}{B k:Nat}{J:c->World->Prop}(h:zU B k J){s:c}{W:World}{l:Nat}(o:Obj)(d:J s W)(a:B<=l)(b:l<B+k):J s (W.putObj l o) :=
 h s W _ d ((zn.refl _ _ _).putObj o a b)
theorem zU.and{d:Type}{B k:Nat}{I J:d->World->Prop}(h:zU B k I)(g:zU B k J):zU B k (fun s W=>I s W/\J s W) :=
 fun s W a b c=>⟨h s W a b.1 c,g s W a b.2 c⟩
theorem zU.pure{b:Type}(B k:Nat)(p:b->Prop):zU B k (fun s (_:World)=>p s):=fun _ _ _ a _=>a
theorem zU.below{e:Type}{B k n:Nat}{w:World}(c:n<=w.heap.size)(b:n<=B):zU B k (fun(_:e) W=>Below n w W) :=
 fun _ _ _ a d=>a.trans (d.below b (jpg c a.size))
theorem zU.box{e:Type}{B k b:Nat}{t:TypeId}(a:b<B\/B+k<=b)(f:e->Value):zU B k (fun s W=>Boxed W b t (f s)) :=
 fun _ _ _ c d=>d.box c a
def jmx{α:Type}(P:Program)(g:Nat)(lb:Array Value)(encs:α->Array Value)(k:Nat)(xs:List α)(w:World):Prop :=
 ∀(l:Nat) (J Jx:List α->World->Prop) (W:World),Below w.heap.size w W->zU W.heap.size k J ->
  (∀pre x post W1,xs=pre++x::post->W.heap.size+k<=W1.heap.size->J pre W1->YieldAt Fence.wide 7 P l (encs x) W1 fun e W' =>
   (e=.returned (.bool true)/\J (pre++[x]) W'/\vO W.heap.size k W1 W')\/(e=.returned (.bool false)/\Jx (pre++[x]) W')) ->
  J [] W ->
  CallsIn Fence.wide 8 P g (#[.func (.yield l) #[] #[]]++lb) W fun e W'=>(∃v,e=.returned v)/\(J xs W'\/∃pre,pre <+: xs/\Jx pre W')
def left{α:Type}(B k:Nat)(I:List α->World->Prop)(Ix:Code->List α->World->Prop)(xs:List α)(W:World):Exit->Act->World->Prop
 | .normal,_,W'=>vO B k W W'/\I xs W'
 | .ret,_,W'=>vO B k W W'/\Ix .ret xs W'
 | .exit id,_,W'=>vO B k W W'/\Ix (.exit id) xs W'
 | .goto t,_,W'=>vO B k W W'/\Ix (.goto t) xs W'
 | .panic _,_,_=>False
 | .outgrown,_,_=>False
def Yy(B k:Nat)(M:Act->World->Prop)(W:World):Exit->Act->World->Prop :=
 Exit.then (fun a' W'=>vO B k W W'/\M a' W') (fun _ _ _=>False)
variable {P:Program}
def jik{α:Type}(P:Program)(g:Nat)(lb:Array Value)(encs:α->Array Value)(k:Nat)(xs:List α)(K:World->Prop)(w:World):Prop :=
 ∀(l:Nat) (J Jx:List α->World->Prop) (W:World),Below w.heap.size w W->zU W.heap.size k J->(∀pre W,J pre W->K W) ->
  (∀pre x post W1,xs=pre++x::post->W.heap.size+k<=W1.heap.size->J pre W1->YieldAt Fence.wide 7 P l (encs x) W1 fun e W' =>
   (e=.returned (.bool true)/\J (pre++[x]) W'/\vO W.heap.size k W1 W')\/(e=.returned (.bool false)/\Jx (pre++[x]) W')) ->
  J [] W ->
  CallsIn Fence.wide 8 P g (#[.func (.yield l) #[] #[]]++lb) W fun e W'=>(∃v,e=.returned v)/\(J xs W'\/∃pre,pre <+: xs/\Jx pre W')
theorem Kz{J:Type}{g:Operand}{ps:Array Tmp}{assign body:Code}{Q:Exit->Act->World->Prop}{a:Act}{w:World}
  {gf:Nat} {lb:Array Value} (hg:a.eval g=.func (.func gf) #[] lb) (eg:∀args w,(callFunc gf args).run P w=.ok (.enter gf args) w)
  {E:J->Array Value} {k:Nat} {xs:List J} {K:World->Prop} (ag:jik P gf lb E k xs K w) (aD:∀x,(E x).size=ps.size)
  (I:List J->World->Prop) (Ix:Code->List J->World->Prop) (hI:zU w.heap.size (k+2) I) (R:∀c,zU w.heap.size 2 (Ix c)) (h0:I [] w) (hK:∀i W,I i W->K W)
  (M:List J->J->Act->World->Prop) (hM:∀i x Y,zU w.heap.size 2 (fun(_:Unit) W=>M i x Y W))
  (O:∀(l:Nat) (i:List J) (x:J) (y:List J) (W:World),xs=i++x::y->w.heap.size+(k+2)<=W.heap.size->I i W ->
   assign.wpIn (Fence.wide.inRound l) 7 P (Yy w.heap.size (k+2) (M i x) W) {tmps:=(ps.zip (E x)).foldl (fun t (p,v)=>t.setIfInBounds p v) a.tmps,defers:=[]} W)
  (Z:∀(l:Nat) (i:List J) (x:J) (y:List J) (Y:Act) (W:World),xs=i++x::y->w.heap.size+(k+2)<=W.heap.size->M i x Y W ->
   body.wpIn (Fence.wide.inRound l) 7 P (left w.heap.size (k+2) I Ix (i++[x]) W) Y W)
  (a7:∀(W:World),I xs W->W.heap[w.heap.size]?=some (.deferred (some []))->Q .normal {a with defers:={target:=.collected w.heap.size,args:=#[]}::a.defers} W)
  (a8:∀(c:Code) (i:List J) (W:World),i <+: xs->Ix c i W->W.heap[w.heap.size]?=some (.deferred (some []))->c.wpIn Fence.wide 9 P Q {a with defers:={target:=.collected w.heap.size,args:=#[]}::a.defers} W) :
  (Code.rangeFunc g ps assign body).wpIn Fence.wide 9 P Q a w:=by
 refine wpIn_rangeFunc fun fn _ => ?_;show ∃l aj ak d aG f args aH,(Instr.enterLoop fn a.tmps ps assign body none).run P w=.ok (l,aj) ak/\_
 obtain⟨m,n⟩:∃m:LoopState->Option Code->Loop,m=fun st pe=>{state:=st,pending:=pe,fn,tmps:=a.tmps,params:=ps,assign,body,defers:=w.heap.size}:=⟨_,rfl⟩
 obtain⟨L,G⟩:∃L,(w.alloc (.deferred (some []))).alloc (.loop (m .ready none))=L:=⟨_,rfl⟩
 have ai:L.heap.size=w.heap.size+2:=by rw[<- G];simp
 have ar:L.heap[w.heap.size+1]?=some (.loop (m .ready none)):=by rw[<- G];have:=jro (w.alloc (.deferred (some []))) (.loop (m .ready none));rwa [joZ]at this
 have aq:L.heap[w.heap.size]?=some (.deferred (some [])):=by rw[<- G];exact(jqz _ _ _ (by simp)).trans (jro w _)
 have am:I [] L:=by rw[<- G];exact hI.alloc _ (hI.alloc _ h0)
 have au:Below w.heap.size w L:=by rw[<- G];exact((joL _ w).alloc (joJ _) _).alloc (by simp) _
 have two:∀{A B:World},zn L.heap.size k A B->∀q o,q<w.heap.size+2->A.heap[q]?=some o->B.heap[q]?=some o :=
  fun ht q o hq ho=>(ht.same q (Array.getElem?_eq_some_iff.1 ho).1 (by omega)).trans ho
 refine⟨w.heap.size+1,[{target:=.collected w.heap.size,args:=#[]}],L,{target:=.fn (.func gf) lb,args:=#[.func (.yield (w.heap.size+1)) #[] #[]]},L,gf,
  #[.func (.yield (w.heap.size+1)) #[] #[]]++lb,L,?_,?_,fun _ _=>trivial,?_,(fun h=>by cases h),?_⟩
 ·rw[<- G,n];exact run_enterLoop_outer _ _ _ _ _
 ·simp only[resolve,hg];simp[go_sem]
 ·simp[invoke,go_sem,eg]
 refine(ag (w.heap.size+1)
  (fun i W=>I i W/\W.heap[w.heap.size+1]?=some (.loop (m .ready none))/\W.heap[w.heap.size]?=some (.deferred (some [])))
  (fun i W=>∃c,Ix c i W/\W.heap[w.heap.size+1]?=some (.loop (m .done (some c)))/\W.heap[w.heap.size]?=some (.deferred (some [])))
  L au
  (fun s A B hs ht=>⟨hI s A B hs.1 (ht.sub (by omega) (by omega)),two ht _ _ (by omega) hs.2.1,two ht _ _ (by omega) hs.2.2⟩)
  (fun s A hs=>hK s A hs.1)
  ?_ ⟨am,ar,aq⟩).mono ?_
 ·
  rintro i x y W hx aE ⟨hi,hl,hk⟩;rw[ai]at aE;have hy:=run_yield (P:=P) (args:=E x) hl (by rw[n];exact aD x)
  rw[n]at hy;refine⟨fn,_,assign,body,hy,roundIn_of_wpIn trivial (wpIn_mono (O _ i x y W hx (by omega) hi) ?_)⟩;intro e Y X H;cases e with
  | normal =>
   obtain⟨U,hm⟩:=H;have ae:=(U.same (w.heap.size+1) (by omega) (by omega)).trans hl
   have ax:=(U.same w.heap.size (by omega) (by omega)).trans hk;have aA:=(Array.getElem?_eq_some_iff.1 ae).1
   refine⟨_,run_beginRound ae (by rw[n]),?_⟩;have ay:(X.putObj (w.heap.size+1) (.loop {m .ready none with state:=.busy})).heap[w.heap.size+1]?=some (.loop {m .ready none with state:=.busy}):=World.putObj_heap_same aA
   have av:(X.putObj (w.heap.size+1) (.loop {m .ready none with state:=.busy})).heap[w.heap.size]?=some (.deferred (some [])):=(jpT (by omega)).trans ax;have aC:∀r,w.heap.size+2<=r->(X.putObj (w.heap.size+1) (.loop {m .ready none with state:=.busy})).heap[r]?=X.heap[r]?:=fun r V=>jpT (by omega)
   have aF:∀o,(X.putObj (w.heap.size+1) o).heap.size=X.heap.size:=fun o=>by simp
   have aB:=(hM i x Y).putObj (s:=()) (.loop {m .ready none with state:=.busy}) hm (l:=w.heap.size+1) (by omega) (by omega);have aI:=U.size
   refine wpIn_mono (Z _ i x y Y _ hx (by rw[aF];omega) aB) ?_;have fin:∀(j:Option Code) (N:World),vO w.heap.size (k+2) (X.putObj (w.heap.size+1) (.loop {m .ready none with state:=.busy})) N ->
     (Instr.endRound (w.heap.size+1) j).run P N=.ok (.bool j.isNone) (N.putObj (w.heap.size+1) (.loop (m (if j.isNone then .ready else .done) j))) /\
     (N.putObj (w.heap.size+1) (.loop (m (if j.isNone then .ready else .done) j))).heap[w.heap.size+1]?=some (.loop (m (if j.isNone then .ready else .done) j)) /\
     (N.putObj (w.heap.size+1) (.loop (m (if j.isNone then .ready else .done) j))).heap[w.heap.size]?=some (.deferred (some [])):=fun j N u=>by
    have aa:=(u.same (w.heap.size+1) (by omega) (by omega)).trans ay;have aw:=(u.same w.heap.size (by omega) (by omega)).trans av
    have:=run_endRound (P:=P) j aa;rw[n]at this ⊢;exact⟨this,World.putObj_heap_same (Array.getElem?_eq_some_iff.1 aa).1,(jpT (by omega)).trans aw⟩
   intro e a3 N H;cases e with
   | normal =>
    obtain⟨u,z⟩:=H;obtain⟨V,D,C⟩:=fin none N u;refine⟨_,_,V,.inl ⟨rfl,⟨hI.putObj _ z (by omega) (by omega),D,C⟩,?_⟩⟩;have ah:=u.size
    refine⟨by simp only[World.putObj,jra]at ah ⊢;omega,fun r a b => ?_⟩;rw[ai]at a b;rw[jpT (by omega),u.same r (by omega) (by omega),aC r a,U.same r (by omega) (by omega)]
   | ret =>
    obtain⟨u,z⟩:=H;obtain⟨V,D,C⟩:=fin (some .ret) N u;exact⟨_,_,V,.inr ⟨rfl,.ret,(R _).putObj _ z (by omega) (by omega),D,C⟩⟩
   | exit id =>
    obtain⟨u,z⟩:=H;obtain⟨V,D,C⟩:=fin (some (.exit id)) N u;exact⟨_,_,V,.inr ⟨rfl,.exit id,(R _).putObj _ z (by omega) (by omega),D,C⟩⟩
   | goto t =>
    obtain⟨u,z⟩:=H;obtain⟨V,D,C⟩:=fin (some (.goto t)) N u;exact⟨_,_,V,.inr ⟨rfl,.goto t,(R _).putObj _ z (by omega) (by omega),D,C⟩⟩
   | panic ch=>exact H.elim
   | outgrown=>exact H.elim
  | ret=>exact H.elim
  | exit id=>exact H.elim
  | goto t=>exact H.elim
  | panic ch=>exact H.elim
  | outgrown=>exact H.elim
 ·
  rintro e W2 ⟨⟨v,rfl⟩,(⟨hi,hl,hk⟩|⟨i,af,c,hi,hl,hk⟩)⟩
  ·exact⟨none,_,by have:=run_endLoop (P:=P) hl (by rw[n];simp);rw[n]at this;exact this,a7 _ (hI.putObj _ hi (by omega) (by omega)) ((jpT (by omega)).trans hk)⟩
  exact⟨some c,_,by have:=run_endLoop (P:=P) hl (by rw[n];simp);rw[n]at this;exact this,a8 c i _ af ((R c).putObj _ hi (by omega) (by omega)) ((jpT (by omega)).trans hk)⟩
theorem jfN{d:Type}{g:Operand}{u:Array Tmp}{assign body:Code}{Q:Exit->Act->World->Prop}{a:Act}{w:World}
  {gf:Nat} {lb:Array Value} (G:a.eval g=.func (.func gf) #[] lb) (z:∀args w,(callFunc gf args).run P w=.ok (.enter gf args) w)
  {e:d->Array Value} {k:Nat} {xs:List d} (n:jmx P gf lb e k xs w) (s:∀x,(e x).size=u.size)
  (I:List d->World->Prop) (o:Code->List d->World->Prop) (C:zU w.heap.size (k+2) I) (r:∀c,zU w.heap.size 2 (o c)) (A:I [] w)
  (M:List d->d->Act->World->Prop) (hM:∀b x q,zU w.heap.size 2 (fun(_:Unit) W=>M b x q W))
  (f:∀(l:Nat) (b:List d) (x:d) (h:List d) (W:World),xs=b++x::h->w.heap.size+(k+2)<=W.heap.size->I b W ->
   assign.wpIn (Fence.wide.inRound l) 7 P (Yy w.heap.size (k+2) (M b x) W) {tmps:=(u.zip (e x)).foldl (fun t (p,v)=>t.setIfInBounds p v) a.tmps,defers:=[]} W)
  (i:∀(l:Nat) (b:List d) (x:d) (h:List d) (q:Act) (W:World),xs=b++x::h->w.heap.size+(k+2)<=W.heap.size->M b x q W ->
   body.wpIn (Fence.wide.inRound l) 7 P (left w.heap.size (k+2) I o (b++[x]) W) q W)
  (j:∀(W:World),I xs W->W.heap[w.heap.size]?=some (.deferred (some []))->Q .normal {a with defers:={target:=.collected w.heap.size,args:=#[]}::a.defers} W)
  (m:∀(c:Code) (b:List d) (W:World),b <+: xs->o c b W->W.heap[w.heap.size]?=some (.deferred (some []))->c.wpIn Fence.wide 9 P Q {a with defers:={target:=.collected w.heap.size,args:=#[]}::a.defers} W) :
  (Code.rangeFunc g u assign body).wpIn Fence.wide 9 P Q a w :=
 Kz (K:=fun _=>True) G z (fun l J y W E D _=>n l J y W E D) s I o C r A (fun _ _ _=>trivial) M hM f i j m
def jiK(s:ByteArray):ByteArray:=if nl s.data.toList then s.extract ((head s.data.toList).length+1) s.size else ⟨#[]⟩
theorem vR{p:UInt8->Bool}:∀{l:List UInt8},(∀x∈l,p x=true)->l.takeWhile p=l
 | [],_=>rfl
 | a::l,h=>by rw[jpy,h a (by simp),if_pos rfl,vR fun x hx=>h x (by simp[hx])]
theorem jjZ(s:ByteArray)(w:World)(f:s.size<=maxLen):
  Calls prog 86 #[.string s,.string ⟨#[10]⟩] w fun e c=>e=.returned (.tuple #[.string ⟨(head s.data.toList).toArray⟩,.string (jiK s),.bool (nl s.data.toList)])/\∃n,c=w.drewN n:=by
 by_cases h:(10:UInt8)∈s.data.toList
 ·have a:nl s.data.toList=true:=by unfold nl;simpa using h
  have b:s.extract 0 (s.data.toList.takeWhile (· != 10)).length=⟨(head s.data.toList).toArray⟩:=by
   have d:=jpS s 0 (s.data.toList.takeWhile (· != 10)).length;rw[<- jqU (s.extract 0 _),d];have:List.take ((s.data.toList.takeWhile (· != 10)).length-0) (List.drop 0 s.data.toList)=head s.data.toList:=by rw[jp2,Nat.sub_zero];exact(List.prefix_iff_eq_take.1 (jqa _)).symm
   rw[this]
  refine(GV s 10 w f h).mono ?_;rintro e c ⟨rfl,n,rfl⟩;refine⟨?_,n,rfl⟩;rw[a,b];unfold jiK;rw[if_pos a];rfl
 have a:nl s.data.toList=false:=by unfold nl;simpa using h
 have b:head s.data.toList=s.data.toList:=by exact vR fun x hx=>by simp;rintro rfl;exact h hx
 refine(jdS s 10 w h).mono ?_;rintro e c ⟨rfl,n,rfl⟩;refine⟨?_,n,rfl⟩;rw[a,b,jqU];unfold jiK;rw[a];rfl
structure Two(b c:Nat)(W W':World):Prop where
 os:W'.os=W.os
 tape:W'.tape=W.tape
 output:W'.output=W.output
 size:W.heap.size<=W'.heap.size
 same:∀r,r<W.heap.size->r≠b->r≠c->W'.heap[r]?=W.heap[r]?
theorem Two.refl(b c:Nat)(W:World):Two b c W W:=⟨rfl,rfl,rfl,joJ _,fun _ _ _ _=>rfl⟩
theorem Two.alloc{b c:Nat}{X Y:World}(h:Two b c X Y)(o:Obj):Two b c X (Y.alloc o) :=
 ⟨h.os,h.tape,h.output,by simp;have:=h.size;omega,fun r a x y=>(jqz _ _ _ (jo4 a h.size)).trans (h.same r a x y)⟩
theorem Two.setCell{b c:Nat}{X Y:World}(h:Two b c X Y){p:Addr}(d:p.block=b\/p.block=c\/X.heap.size<=p.block)(u:Value):Two b c X (Y.setCell p u) :=
 ⟨h.os,h.tape,h.output,by simp only[World.setCell,Array.size_modify];exact h.size,fun r a x y=>(jpw _ _ _ _ (by omega)).trans (h.same r a x y)⟩
theorem Two.drew{b c:Nat}{X Y:World}(h:Two b c X Y):Two b c X Y.drew:=⟨h.os,h.tape,h.output,h.size,h.same⟩
theorem Two.drewN{b c:Nat}{X Y:World}(h:Two b c X Y)(n:Nat):Two b c X (Y.drewN n):=⟨h.os,h.tape,h.output,h.size,h.same⟩
theorem Two.box{b c d:Nat}{X Y:World}{t:TypeId}{v:Value}(h:Two b c X Y)(a:Boxed X d t v)(x:d≠b)(y:d≠c):Boxed Y d t v :=
 (h.same d a.lt x y).trans a
theorem Two.turned{b c B k:Nat}{X Y:World}(h:Two b c X Y)(d:B<=b/\b<B+k)(e:B<=c/\c<B+k):zn B k X Y :=
 ⟨h.os,h.tape,h.output,h.size,fun r a x=>h.same r a (by omega) (by omega)⟩
theorem jlu(s:ByteArray)(at_:Nat)(a c b:Nat)(w:World)(d:Boxed w a 3 (.int .i64 at_))(f:Boxed w c 9 (.string s))(g:at_=s.size):
  Calls prog 182 #[.pointer (some ⟨a,0,none⟩),.pointer (some ⟨c,0,none⟩),.pointer (some ⟨b,0,none⟩)] w fun e h =>
   e=.returned (.tuple #[.agg #[.int .i64 0,.int .i64 0,.string ⟨#[]⟩,.bool false],.bool false])/\Two b a w h:=by
 have i:=d.cell;have j:=f.cell
 have l:=d.lt;have m:=f.lt
 have k:((at_:Int)==(s.size:Int))=true:=by rw[g];simp
 go_enter func182,ntmps182;go_wp2;refine bodyPost_ret (v:=.tuple #[.agg #[.int .i64 0,.int .i64 0,.string ⟨#[]⟩,.bool false],.bool false]) (by simp[results,results182,go_sem]) rfl ⟨rfl,?_⟩;exact(Two.refl _ _ _).alloc _
theorem ji6(s:ByteArray)(at_ no:Nat)(a h b:Nat)(w:World)(l:Boxed w a 3 (.int .i64 at_))(t:Boxed w h 9 (.string s))(j:Boxed w b 3 (.int .i64 no))
  (h1:at_<s.size) (h2:no<s.size) (hs:s.size<=4294967295) (d1:a≠h) (H:a≠b) (d3:h≠b) :
  Calls prog 182 #[.pointer (some ⟨a,0,none⟩),.pointer (some ⟨h,0,none⟩),.pointer (some ⟨b,0,none⟩)] w fun e G =>
   e=.returned (.tuple #[.agg (qi ⟨no,at_,head (s.data.toList.drop at_),nl (s.data.toList.drop at_)⟩),.bool true])/\Two b a w G/\Boxed G b 3 (.int .i64 (no+1:Nat))/\Boxed G a 3 (.int .i64 (at_+qK (s.data.toList.drop at_):Nat)):=by
 have c1:=l.cell;have c2:=t.cell
 have c3:=j.cell;have f3:=j.frozen
 have z1:=l.lt;have z2:=t.lt
 have z3:=j.lt;have e1:((at_:Int)==(s.size:Int))=false:=by rw[beq_eq_false_iff_ne];omega
 go_enter func182,ntmps182;go_wp2_with fail;have hx:(s.extract at_ s.size).data.toList=s.data.toList.drop at_:=jqB s at_
 have K:(s.extract at_ s.size).size<=maxLen:=by rw[jo2,hx];unfold maxLen;simp only[joX,<- jo2];omega
 refine(jjZ (s.extract at_ s.size) _ K).mono ?_;rw[hx];rintro e A ⟨rfl,p,rfl⟩;have J:(head (s.data.toList.drop at_)).length+(XJ (nl (s.data.toList.drop at_))).size=qK (s.data.toList.drop at_):=by unfold qK XJ;cases nl (s.data.toList.drop at_)<;>rfl
 have E:=Ua (s.data.toList.drop at_);rw[joX,<- jo2]at E;have u:(⟨(head (s.data.toList.drop at_)).toArray⟩:ByteArray).size=(head (s.data.toList.drop at_)).length:=by simp[Lib.size_eq]
 generalize r:head (s.data.toList.drop at_)=d at *
 generalize q:nl (s.data.toList.drop at_)=c at *
 generalize x:qK (s.data.toList.drop at_)=L at *
 have Q:=joI r;have R:=joI q
 have U:=joI x;clear r q x;generalize jiK (s.extract at_ s.size)=rs at *
 have D:=joI J;have V:=joI u
 clear J u hx K;go_upto_region 5 with fail;go_cut [] (fun g=>Two b a w g/\g.heap.size=w.heap.size+1+1/\Boxed g b 3 (.int .i64 (no+1:Nat))/\Boxed g a 3 (.int .i64 at_) /\
  ja g w.heap.size 157 #[.int .i64 0,.int .i64 0,.string ⟨#[]⟩,.bool false]/\ja g (w.heap.size+1) 157 #[.int .i64 no,.int .i64 at_,.string ⟨d.toArray⟩,.bool c])
 case first =>
  go_wp2_with fail;go_meet;refine⟨?_,?_,?_,?_,?_,?_⟩
  ·exact(((((((Two.refl b a w).alloc _).alloc _).drewN p).setCell (.inr (.inr (by simp))) _).setCell (.inr (.inr (by simp))) _).setCell (.inl rfl) _)
  ·simp[World.setCell]
  ·exact jpV _ (ja.other (ja.other (((ja.alloc (ja.alloc j _) _).drewN p)) (by simp;omega) _) (by simp;omega) _)
  ·exact ja.other (ja.other (ja.other (((ja.alloc (ja.alloc l _) _).drewN p)) (by simp;omega) _) (by simp;omega) _) H _
  ·exact ja.other (ja.other (ja.other (((ja.alloc (ja.new w _ _) _).drewN p)) (by simp) _) (by simp) _) (by simp;omega) _
  have I:=ja.new (w.alloc (.cells #[.int .i64 0,.int .i64 0,.string ⟨#[]⟩,.bool false] 157)) 157 #[.int .i64 no,.int .i64 at_,.string ⟨#[]⟩,.bool false];rw[joZ]at I;exact ja.other (((I.drewN p).set 2 (.string ⟨d.toArray⟩)).set 3 (.bool c)) (by simp;omega) _
 case rest =>
 obtain⟨t1,t2,t3,t4,t5,f⟩:=hcut;have a7:=joI t3
 have q0:=t4.cell;have q2:wc.cell? ⟨w.heap.size+1,2,none⟩=some (.string ⟨d.toArray⟩):=f.cell 2
 have q3:wc.cell? ⟨w.heap.size+1,0,none⟩=some (.int .i64 no):=f.cell 0;have q4:wc.cell? ⟨w.heap.size+1,1,none⟩=some (.int .i64 at_):=f.cell 1
 have g1:(wc.alloc (.cells #[.int .i64 no,.int .i64 at_,.string ⟨d.toArray⟩,.bool c] 157)).cell? ⟨a,0,none⟩=some (.int .i64 at_):=(jri t4 _).cell;have g2:(wc.alloc (.cells #[.int .i64 no,.int .i64 at_,.string ⟨d.toArray⟩,.bool c] 157)).frozen? ⟨a,0,none⟩=false:=(jri t4 _).frozen
 have m:∀o,((wc.alloc o).cell? ⟨w.heap.size+1,0,none⟩=some (.int .i64 no)/\(wc.alloc o).cell? ⟨w.heap.size+1,1,none⟩=some (.int .i64 at_)/\(wc.alloc o).cell? ⟨w.heap.size+1,2,none⟩=some (.string ⟨d.toArray⟩)/\(wc.alloc o).cell? ⟨w.heap.size+1,3,none⟩=some (.bool c)) :=
  fun o=>⟨(ja.alloc f o).cell 0,(ja.alloc f o).cell 1,(ja.alloc f o).cell 2,(ja.alloc f o).cell 3⟩
 have n:∀o v,(((wc.alloc o).setCell ⟨a,0,none⟩ v).cell? ⟨w.heap.size+1,0,none⟩=some (.int .i64 no)/\((wc.alloc o).setCell ⟨a,0,none⟩ v).cell? ⟨w.heap.size+1,1,none⟩=some (.int .i64 at_)/\((wc.alloc o).setCell ⟨a,0,none⟩ v).cell? ⟨w.heap.size+1,2,none⟩=some (.string ⟨d.toArray⟩)/\((wc.alloc o).setCell ⟨a,0,none⟩ v).cell? ⟨w.heap.size+1,3,none⟩=some (.bool c)) :=
  fun o v=>by
   have i:w.heap.size+1≠a:=by omega
   exact⟨((ja.alloc f o).other i v).cell 0,((ja.alloc f o).other i v).cell 1,((ja.alloc f o).other i v).cell 2,((ja.alloc f o).other i v).cell 3⟩
 have g3:(wc.alloc (.cells #[.int .i64 no,.int .i64 at_,.string ⟨d.toArray⟩,.bool c] 157)).cell? ⟨w.heap.size+1,2,none⟩=some (.string ⟨d.toArray⟩):=(ja.alloc f _).cell 2;clear m n;have n0:(XJ c).size<=1:=by unfold XJ;cases c<;>decide
 have p:d.length<=4294967295:=by have:=D.out;omega
 have n2:d.length+(XJ c).size<=s.size-at_:=by have:=D.out;omega
 have n3:IntKind.i64.wrap ((d.length:Int)+((XJ c).size:Int))=(d.length:Int)+((XJ c).size:Int):=jph _ (by omega);have n4:IntKind.i64.wrap ((at_:Int)+((d.length:Int)+((XJ c).size:Int)))=(at_:Int)+((d.length:Int)+((XJ c).size:Int)):=jph _ (by omega)
 have q5:wc.cell? ⟨w.heap.size+1,3,none⟩=some (.bool c):=f.cell 3;go_upto_region 6 with fail;go_cut [] (fun g=>Two b a w g/\Boxed g b 3 (.int .i64 (no+1:Nat))/\Boxed g a 3 (.int .i64 (at_+L:Nat)) /\
  ja g w.heap.size 157 #[.int .i64 0,.int .i64 0,.string ⟨#[]⟩,.bool false]/\ja g (w.heap.size+1) 157 #[.int .i64 no,.int .i64 at_,.string ⟨d.toArray⟩,.bool c])
 case first =>
  go_region_with (go_at_call 170;refine(jcD _ _ _ _ _).mono ?_;rintro e A ⟨rfl,rfl⟩)
  all_goals
   go_wp2_with fail;go_meet;have W:Value.int .i64 ((at_:Int)+((d.length:Int)+((XJ c).size:Int)))=Value.int .i64 ((at_+L:Nat):Int):=by have:=D.out;congr 1;omega
   rw[W];exact⟨((t1.alloc _).setCell (.inr (.inl rfl)) _).drew,ja.other (ja.alloc t3 _) (fun e=>H e.symm) _,jpV _ (jri t4 _),ja.other (ja.alloc t5 _) (by simp;omega) _,ja.other (ja.alloc f _) (by simp;omega) _⟩
 case rest =>
 obtain⟨X,Y,Z,k,z⟩:=hcut;have s0:wc.cell? ⟨w.heap.size+1,0,none⟩=some (.int .i64 no):=z.cell 0
 have s1:wc.cell? ⟨w.heap.size+1,1,none⟩=some (.int .i64 at_):=z.cell 1;have s2:wc.cell? ⟨w.heap.size+1,2,none⟩=some (.string ⟨d.toArray⟩):=z.cell 2
 have s3:wc.cell? ⟨w.heap.size+1,3,none⟩=some (.bool c):=z.cell 3;have s4:wc.cell? ⟨w.heap.size,0,none⟩=some (.int .i64 0):=k.cell 0
 have s5:wc.cell? ⟨w.heap.size,1,none⟩=some (.int .i64 0):=k.cell 1;have s6:wc.cell? ⟨w.heap.size,2,none⟩=some (.string ⟨#[]⟩):=k.cell 2
 have s7:wc.cell? ⟨w.heap.size,3,none⟩=some (.bool false):=k.cell 3;have y0:=k.frozen 0
 have y1:=k.frozen 1;have y2:=k.frozen 2
 have y3:=k.frozen 3;go_wp2_with fail;have y:=(((k.set 0 (.int .i64 no)).set 1 (.int .i64 at_)).set 2 (.string ⟨d.toArray⟩)).set 3 (.bool c)
 have N:=y.cell 0;have A:=y.cell 1
 have O:=y.cell 2;have P:=y.cell 3
 simp at N A O P;refine bodyPost_ret (v:=.tuple #[.agg #[.int .i64 no,.int .i64 at_,.string ⟨d.toArray⟩,.bool c],.bool true]) (by simp[results,results182,go_sem,N,A,O,P]) rfl ?_;have z5:a≠w.heap.size:=by omega
 have C:b≠w.heap.size:=by omega
 refine⟨by rw[Q.out,R.out];rfl,?_,?_,?_⟩
 ·exact(((X.setCell (.inr (.inr (joJ _))) _).setCell (.inr (.inr (joJ _))) _).setCell (.inr (.inr (joJ _))) _).setCell (.inr (.inr (joJ _))) _
 ·exact ja.other (ja.other (ja.other (ja.other Y C _) C _) C _) C _
 rw[U.out];exact ja.other (ja.other (ja.other (ja.other Z z5 _) z5 _) z5 _) z5 _
end
section
attribute [local go_sem] joY
theorem jjD(s:ByteArray)(w:World):
  Calls prog 140 #[.string s] w fun e a=>e=.returned (.func (.func 182) #[] #[.pointer (some ⟨w.heap.size+1+1,0,none⟩),.pointer (some ⟨w.heap.size,0,none⟩),.pointer (some ⟨w.heap.size+1,0,none⟩)]) /\
   a=((w.alloc (.cells #[.string s] 9)).alloc (.cells #[.int .i64 0] 3)).alloc (.cells #[.int .i64 0] 3):=by
 go_enter func140,ntmps140;go_wp2;go_ret;exact⟨rfl,rfl⟩
theorem jgz(s:ByteArray)(at_ no:Nat)(a c b:Nat)(w:World)(d:Boxed w a 3 (.int .i64 at_))(g:Boxed w c 9 (.string s))(f:Boxed w b 3 (.int .i64 no))
  (r:at_<s.size) (t:no<s.size) (u:s.size<=4294967295) (o:a≠c) (p:a≠b) (q:c≠b) (j:List UInt8) (i:Bool) (k:Nat)
  (l:head (s.data.toList.drop at_)=j) (m:nl (s.data.toList.drop at_)=i) (n:qK (s.data.toList.drop at_)=k) :
  Calls prog 182 #[.pointer (some ⟨a,0,none⟩),.pointer (some ⟨c,0,none⟩),.pointer (some ⟨b,0,none⟩)] w fun e h =>
   e=.returned (.tuple #[.agg #[.int .i64 no,.int .i64 at_,.string ⟨j.toArray⟩,.bool i],.bool true])/\Two b a w h/\Boxed h b 3 (.int .i64 (no+1:Nat))/\Boxed h a 3 (.int .i64 (at_+k:Nat)):=by
 subst l m n;exact ji6 s at_ no a c b w d g f r t u o p q
def jnz(B:Nat)(w:World):Nat:=match w.cell? ⟨B,0,none⟩ with | some (.int _ n)=>n.toNat | _=>0
theorem Vk{B:Nat}{w:World}{t:TypeId}{n:Nat}(h:Boxed w B t (.int .i64 n)):jnz B w=n:=by unfold jnz;rw[h.cell];simp
theorem vv(s:ByteArray)(q:Nat)(w:World)(d:Boxed w q 9 (.string s))(X:s.size<=4294967295):
  jmx prog 139 #[.pointer (some ⟨q,0,none⟩)] (fun x=>#[.agg (qi x)]) 3 (jf s.data.toList) w:=by
 intro l J Jx W R f U P;have V:Boxed W q 9 (.string s):=(R.block q d.lt).trans d
 have c0:=V.cell;refine callsIn_of_wp func139 rfl trivial ?_ rfl;simp only[ntmps139,jpN,joR,jpm,Nat.reduceAdd,Nat.reduceSub,jpK,jpL,jpU,jpQ,jpC,jo6];gi_wp2_with (refine⟨trivial,?_⟩;gi_at_call 140;refine(callsIn_wide.2 (jjD s _)).mono ?_;rintro e u ⟨rfl,rfl⟩);gi_loopw [4] (fun _ wr=>∃b a,jf s.data.toList=b++jR b.length a (s.data.toList.drop a)/\a<=s.size/\b.length<=a/\Boxed wr W.heap.size 9 (.string s) /\
   Boxed wr (W.heap.size+1) 3 (.int .i64 (b.length:Nat))/\Boxed wr (W.heap.size+1+1) 3 (.int .i64 a)/\J b wr)
  (fun _ wr=>s.size-jnz (W.heap.size+1+1) wr)
 case atStart =>
  refine⟨[],0,rfl,joT _,joJ _,?_,?_,?_,f.alloc _ (f.alloc _ (f.alloc _ P))⟩
  ·exact((jqe W _ _).alloc _).alloc _
  ·have:=(jqe (W.alloc (.cells #[.string s] 9)) 3 (.int .i64 0)).alloc (.cells #[.int .i64 0] 3);rw[joZ]at this;exact this
  have:=jqe ((W.alloc (.cells #[.string s] 9)).alloc (.cells #[.int .i64 0] 3)) 3 (.int .i64 0);rw[joZ,joZ]at this;exact this
 case round =>
 obtain⟨b,a,hx,ha,hn,y,O,b3,I⟩:=hrel;by_cases A:a=s.size
 ·gi_wp2_with (refine⟨trivial,?_⟩;gi_at_call 182;refine(callsIn_wide.2 (jlu s a _ _ _ _ b3 y A)).mono ?_;rintro e u ⟨rfl,i⟩);refine⟨fun _ h=>(by cases h),?_⟩;gi_wp2;refine bodyPost_ret (results_none rfl _ _ _) rfl ⟨⟨_,rfl⟩,.inl ?_⟩;rw[A,jpE (by rw[<- jo2];exact joJ _),jr,jo9]at hx;rw[hx];exact f.alloc _ (f _ _ _ I (i.turned (by omega) (by omega)))
 have C:a<s.size:=by omega
 have g:s.data.toList.drop a≠[]:=by intro e;have:=congrArg List.length e;rw[joX,<- jo2]at this;simp at this;omega
 rw[jC _ _ _ g,jp7]at hx;have hu:=qP _ g
 have D:=Ua (s.data.toList.drop a);rw[joX,<- jo2]at D;generalize m:head (s.data.toList.drop a)=t at *
 generalize k:nl (s.data.toList.drop a)=r at *
 generalize o:qK (s.data.toList.drop a)=p at *
 have N:=callsIn_wide (n:=7).2 (jgz s a b.length _ _ _ _ b3 y O C (by omega) X (by omega) (by omega) (by omega) t r p m k o);have v:=joI hx
 clear m k o hx g A;gi_wp2_with (refine⟨trivial,?_⟩;gi_at_call 182;refine N.mono ?_;clear N;rintro e u ⟨rfl,i,Q,G⟩);have hz:=i.size
 have Y:=b3.lt;have Z:J b u:=f _ _ _ I (i.turned (by omega) (by omega))
 obtain⟨fn,K,assign,body,E,H⟩:=U b ⟨b.length,a,t,r⟩ _ (u.alloc (.cells #[.int .i64 b.length,.int .i64 a,.string ⟨t.toArray⟩,.bool r] 157)) v.out (by simp;omega) (f.alloc _ Z);dsimp only[qi]at E;rw[E,Oper.uponIn_round];refine⟨fun h=>(by cases h),H.mono ?_⟩;clear H E;rintro e L (⟨rfl,z,c⟩|⟨rfl,j⟩)
 ·gi_wp2;go_roundw
  case rel =>
   refine⟨b++[⟨b.length,a,t,r⟩],a+p,?_,by omega,by simp;omega,?_,?_,?_,z⟩
   ·rw[jo0,jqW,joK];exact v.out
   ·exact(c.same _ (by omega) (by omega)).trans ((i.box y (by omega) (by omega)).alloc _)
   ·rw[joK];exact(c.same _ (by omega) (by omega)).trans (jri Q _)
   exact(c.same _ (by omega) (by omega)).trans (jri G _)
  case measure =>
  rw[Vk b3,Vk (B:=W.heap.size+1+1) (w:=L) (n:=a+p) ((c.same _ (by omega) (by omega)).trans (jri G _))];omega
 gi_wp2;refine bodyPost_ret (results_none rfl _ _ _) rfl ⟨⟨_,rfl⟩,.inr ⟨_,⟨jR (b.length+1) (a+p) (List.drop (a+p) s.data.toList),?_⟩,j⟩⟩;rw[v.out,jo0,jqW]
theorem yL(s:ByteArray)(w:World):
  Calls prog 81 #[.string s] w fun e a=>e=.returned (.func (.func 139) #[] #[.pointer (some ⟨w.heap.size,0,none⟩)])/\a=w.alloc (.cells #[.string s] 9):=by
 go_enter func81,ntmps81;go_wp2;go_ret;exact⟨rfl,rfl⟩
theorem xI(w:World)(o:Obj)(t:TypeId)(v:Value):Boxed ((w.alloc o).alloc (.cells #[v] t)) (w.heap.size+1) t v:=by have:=jqe (w.alloc o) t v;rwa [joZ]at this
end
theorem We{s:ByteArray}{c:UInt8}{t:List UInt8}(h:s.data.toList=c::t):s.toList.isEmpty=false/\¬s.toList=[]/\1<=s.size:=by rw[jpn,h];exact⟨rfl,by simp,by rw[Lib.size_eq,h];simp⟩
theorem GC{s:ByteArray}(h:s.data.toList=[]):s=⟨#[]⟩:=by rw[<- jqU s,h]
theorem jg3(c:UInt8):decide (0<=Lib.indexByte [32,9] c)=zZ c:=by
 unfold zZ;by_cases d:c=32
 ·subst d;decide
 by_cases e:c=9
 ·subst e;decide
 have a:((32:UInt8)==c)=false:=by simp[Ne.symm d]
 have b:((9:UInt8)==c)=false:=by simp[Ne.symm e]
 simp[Lib.indexByte,a,b,d,e]
theorem jlP(l:List UInt8)(c:UInt8):decide (0<=Lib.indexByte l c)=l.contains c:=by
 rcases vj l c with ⟨a,b⟩|⟨a,b⟩
 ·rw[a];simp[b]
 rw[a];simp[b]
theorem jiT(l:List UInt8):Lib.hasPrefix l [35]=Zp l:=by
 unfold Lib.hasPrefix Zp;cases l with
 | nil=>rfl
 | cons a t=>simp[List.isPrefixOf,Bool.beq_comm]
theorem jhZ(w:World):
  Calls prog 185 #[.string ⟨#[]⟩] w fun e a=>e=.returned (.bool false)/\w=a:=by
 go_enter func185,ntmps185;go_wp2;go_ret;exact⟨rfl,rfl⟩
theorem jfq(s:ByteArray)(c:UInt8)(t:List UInt8)(h:s.data.toList=c::t)(b:s.size<=maxLen)(w:World):
  Calls prog 185 #[.string s] w fun e a=>e=.returned (.bool (zZ c))/\w=a:=by
 have f:1<=s.size:=by rw[jo2,h];simp
 have d:s.extract 0 1=⟨#[c]⟩:=by have:=jpS s 0 1;rw[h]at this;rw[<- jqU (s.extract 0 1),this];rfl
 obtain⟨g,i,j⟩:=We h;clear h;unfold maxLen at b;go_enter func185,ntmps185;go_wp2_with fail;refine(Tryz.strings_Contains_one ⟨#[32,9]⟩ c _).mono ?_;rw[show(⟨#[32,9]⟩:ByteArray).data.toList=[32,9] from rfl,jg3];rintro e a ⟨rfl,rfl⟩;go_wp2;go_ret;exact⟨rfl,rfl⟩
theorem WV(s:ByteArray)(a:s.size<=maxLen)(w:World):
  Calls prog 185 #[.string s] w fun e b=>e=.returned (.bool (vn s.data.toList))/\w=b:=by
 cases h:s.data.toList with
 | nil=>rw[GC h];exact jhZ w
 | cons c t=>exact jfq s c t h a w
theorem Js(s:ByteArray)(c:UInt8)(w:World):
  Calls prog 183 #[.string s,.string ⟨#[c]⟩] w fun e a=>e=.returned (.bool (qM s.data.toList c))/\w=a:=by
 refine(Tryz.strings_Contains_one s c _).mono ?_;rw[jlP];rintro e a ⟨rfl,rfl⟩;exact⟨rfl,rfl⟩
theorem xB(s:ByteArray)(w:World):
  Calls prog 91 #[.string s,.string ⟨#[35]⟩] w fun e a=>e=.returned (.bool (Zp s.data.toList))/\w=a:=by
 refine(Tryz.strings_HasPrefix s ⟨#[35]⟩ _).mono ?_;rw[show(⟨#[35]⟩:ByteArray).data.toList=[35] from rfl,jiT];rintro e a ⟨rfl,rfl⟩;exact⟨rfl,rfl⟩
theorem jcZ(s:ByteArray)(a:s.size<=9223372036854775807)(w:World):
  Calls prog 184 #[.string s,.string ⟨#[32,9]⟩] w fun e b=>e=.returned (.string ⟨(Lib.trimS s.data.toList [32,9]).toArray⟩)/\Below w.heap.size w b :=
 Any.strings_Trim_laid Tryz.lays160 (by kernel_rfl) s ⟨#[32,9]⟩ w a (by decide) (ascii_of_all (by decide))
theorem jgW(s:ByteArray)(m:s.size<=maxLen)(w:World):
  Calls prog 186 #[.string s] w fun e q=>e=.returned (.bool (jF s.data.toList))/\w=q:=by
 cases h:s.data.toList with
 | nil =>
  rw[GC h];go_enter func186,ntmps186;go_wp2;go_ret;exact⟨rfl,rfl⟩
 | cons c t =>
 rw[<- h];obtain⟨r,u,p⟩:=We h;clear h;have k:1<=s.data.toList.length:=by rw[<- jo2];exact p
 have d:=jo2 s;have f:=WV s m
 unfold maxLen at m;by_cases g:s.size<=32
 ·rw[d]at g;have b:jF s.data.toList=(!vn s.data.toList && !Zp s.data.toList && !qM s.data.toList 58 && !qM s.data.toList 10):=by unfold jF;rw[decide_eq_true k,decide_eq_true g];simp
  rw[b];rw[<- d]at g;clear d k b;cases i:vn s.data.toList with
  | true =>
   go_enter func186,ntmps186;go_wp2_with (go_at_call 185;refine(f _).mono ?_;rw[i];rintro e a ⟨rfl,rfl⟩);go_ret;exact⟨rfl,rfl⟩
  | false =>
  cases j:Zp s.data.toList with
  | true =>
   go_enter func186,ntmps186;go_wp2_with (first | (go_at_call 185;refine(f _).mono ?_;rw[i];rintro e a ⟨rfl,rfl⟩) | (go_at_call 91;refine(xB _ _).mono ?_;rw[j];rintro e a ⟨rfl,rfl⟩));go_ret;exact⟨rfl,rfl⟩
  | false =>
  cases l:qM s.data.toList 58 with
  | true =>
   go_enter func186,ntmps186;go_wp2_with (first | (go_at_call 185;refine(f _).mono ?_;rw[i];rintro e a ⟨rfl,rfl⟩) | (go_at_call 91;refine(xB _ _).mono ?_;rw[j];rintro e a ⟨rfl,rfl⟩) | (go_at_call 183;refine(Js _ _ _).mono ?_;rw[l];rintro e a ⟨rfl,rfl⟩));go_ret;exact⟨rfl,rfl⟩
  | false =>
  cases o:qM s.data.toList 10
  all_goals
   go_enter func186,ntmps186;go_wp2_with (first | (go_at_call 185;refine(f _).mono ?_;rw[i];rintro e a ⟨rfl,rfl⟩) | (go_at_call 91;refine(xB _ _).mono ?_;rw[j];rintro e a ⟨rfl,rfl⟩) | (go_at_call 183;refine(Js _ _ _).mono ?_;(first | rw[l] | rw[o]);rintro e a ⟨rfl,rfl⟩));go_ret;exact⟨rfl,rfl⟩
 have b:jF s.data.toList=false:=by unfold jF;rw[<- d,decide_eq_false g];simp
 rw[b];have n:32<s.size:=by omega
 clear d k b;go_enter func186,ntmps186;go_wp2;go_ret;exact⟨rfl,rfl⟩
theorem Below.drewN{B:Nat}{a w:World}(h:Below B a w)(n:Nat):Below B a (w.drewN n):=⟨h.os,h.tape,h.output,h.size,h.block⟩
def YE(s:ByteArray):ByteArray:=⟨(Lib.trimS s.data.toList [32,9]).toArray⟩
def jb7(s:ByteArray):ByteArray:=s.extract 0 (before s.data.toList).length
def jb8(s:ByteArray):ByteArray:=s.extract ((before s.data.toList).length+1) s.size
theorem Ku(c:UInt8):([32,9]:List UInt8).contains c=zZ c:=by
 unfold zZ;by_cases a:c=32
 ·subst a;rfl
 by_cases b:c=9
 ·subst b;rfl
 simp[a,b]
theorem xE{p:UInt8->Bool}:∀{l:List UInt8},l.dropWhile p=[]↔l.all p=true
 | []=>by simp
 | a::l=>by rw[List.dropWhile_cons];cases h:p a<;>simp[h,xE]
theorem jcY(l:List UInt8):Lib.trimS l [32,9]=[]↔jS l=true:=by
 have e:(fun c=>([32,9]:List UInt8).contains c)=zZ:=funext Ku;unfold Lib.trimS Lib.trimLeftS Lib.trimRightS jS;rw[e,xE,List.all_reverse];constructor
 ·intro h;have a:(l.reverse.takeWhile zZ++l.reverse.dropWhile zZ).all zZ=true:=by rw[jqi,h,jqd];rfl
  rw[List.takeWhile_append_dropWhile,List.all_reverse]at a;exact a
 intro h;have:l.reverse.dropWhile zZ=[]:=xE.2 (by rw[List.all_reverse];exact h)
 rw[this];rfl
theorem jcX(s:ByteArray)(a:s.size<=9223372036854775807)(h:jS s.data.toList=true)(w:World):
  Calls prog 184 #[.string s,.string ⟨#[32,9]⟩] w fun e b=>e=.returned (.string ⟨#[]⟩)/\Below w.heap.size w b:=by
 have:=jcZ s a w;rwa [(jcY _).2 h]at this
theorem YF(s:ByteArray)(a:s.size<=9223372036854775807)(w:World):
  Calls prog 184 #[.string s,.string ⟨#[32,9]⟩] w fun e b=>e=.returned (.string (YE s))/\Below w.heap.size w b:=jcZ s a w
theorem KF(s:ByteArray)(h:jS s.data.toList=false):(YE s).toList.isEmpty=false/\¬(YE s).toList=[]:=by
 have:Lib.trimS s.data.toList [32,9]≠[]:=fun e=>by rw[(jcY _).1 e]at h;cases h
 have e:(YE s).toList=Lib.trimS s.data.toList [32,9]:=by rw[jpn];rfl
 rw[e];exact⟨by simpa using this,this⟩
theorem Jg(s:ByteArray):(jb7 s).data.toList=before s.data.toList:=by unfold jb7;rw[jpS,jp2,Nat.sub_zero];exact(List.prefix_iff_eq_take.1 (jqa _)).symm
theorem YT(s:ByteArray):(jb7 s).size<=s.size:=by rw[jo2,Jg,jo2];exact(jqa _).length_le
theorem jbu(s:ByteArray)(w:World)(a:s.size<=maxLen)(h:qM s.data.toList 58=true):
  Calls prog 86 #[.string s,.string ⟨#[58]⟩] w fun e b=>e=.returned (.tuple #[.string (jb7 s),.string (jb8 s),.bool true])/\∃n,b=w.drewN n :=
 GV s 58 w a (by unfold qM at h;simpa using h)
theorem jj7(s:ByteArray)(w:World)(h:qM s.data.toList 58=false):
  Calls prog 86 #[.string s,.string ⟨#[58]⟩] w fun e a=>e=.returned (.tuple #[.string s,.string ⟨#[]⟩,.bool false])/\∃n,a=w.drewN n :=
 jdS s 58 w (by unfold qM at h;simpa using h)
theorem jeP(s:ByteArray)(a:s.size<=maxLen)(w:World):
  Calls prog 186 #[.string (jb7 s)] w fun e b=>e=.returned (.bool (jF (before s.data.toList)))/\w=b:=by
 have:=jgW (jb7 s) (jpg (YT s) a) w;rwa [Jg]at this
theorem ZT(s:ByteArray)(l:s.size<=maxLen)(w:World):
  Calls prog 141 #[.string s] w fun e p=>e=.returned (.int .i64 (jm s.data.toList:Nat))/\Below w.heap.size w p:=by
 have c:s.size<=9223372036854775807:=by unfold maxLen at l;omega
 cases b:qM s.data.toList 10 with
 | true =>
  have a:jm s.data.toList=5:=by unfold jm;rw[if_pos b]
  rw[a];clear a;go_enter func141,ntmps141;go_wp2_with (first | (go_at_call 183;refine(Js _ _ _).mono ?_;rw[b];rintro e d ⟨rfl,rfl⟩));go_ret;exact⟨rfl,joL _ _⟩
 | false =>
 cases i:jS s.data.toList with
 | true =>
  have a:jm s.data.toList=1:=by unfold jm;rw[b,if_neg (by decide),if_pos i]
  rw[a];clear a;go_enter func141,ntmps141;go_wp2_with (first | (go_at_call 183;refine(Js _ _ _).mono ?_;rw[b];rintro e d ⟨rfl,rfl⟩) | (go_at_call 184;refine(jcX s c i _).mono ?_;rintro e d ⟨rfl,f⟩));go_ret;exact⟨rfl,f⟩
 | false =>
 obtain⟨q,r⟩:=KF s i;have m:=WV s l
 cases g:Zp s.data.toList with
 | true =>
  have a:jm s.data.toList=2:=by unfold jm;rw[b,if_neg (by decide),i,if_neg (by decide),if_pos g]
  rw[a];clear a;go_enter func141,ntmps141;go_wp2_with (first | (go_at_call 183;refine(Js _ _ _).mono ?_;rw[b];rintro e d ⟨rfl,rfl⟩) | (go_at_call 184;refine(YF s c _).mono ?_;rintro e d ⟨rfl,f⟩) | (go_at_call 91;refine(xB _ _).mono ?_;rw[g];rintro e h ⟨rfl,rfl⟩));go_ret;exact⟨rfl,f⟩
 | false =>
 cases j:vn s.data.toList with
 | true =>
  have a:jm s.data.toList=3:=by unfold jm;rw[b,if_neg (by decide),i,if_neg (by decide),g,if_neg (by decide),if_pos j]
  rw[a];clear a;go_enter func141,ntmps141;go_wp2_with (first | (go_at_call 183;refine(Js _ _ _).mono ?_;rw[b];rintro e d ⟨rfl,rfl⟩) | (go_at_call 184;refine(YF s c _).mono ?_;rintro e d ⟨rfl,f⟩) | (go_at_call 91;refine(xB _ _).mono ?_;rw[g];rintro e h ⟨rfl,rfl⟩) | (go_at_call 185;refine(m _).mono ?_;rw[j];rintro e h ⟨rfl,rfl⟩));go_ret;exact⟨rfl,f⟩
 | false =>
 cases k:qM s.data.toList 58 with
 | false =>
  have a:jm s.data.toList=5:=by unfold jm;rw[b,if_neg (by decide),i,if_neg (by decide),g,if_neg (by decide),j,if_neg (by decide),if_neg (by rw[k];simp)]
  rw[a];clear a;have C:=fun w=>jj7 s w k
  go_enter func141,ntmps141;go_wp2_with (first | (go_at_call 183;refine(Js _ _ _).mono ?_;rw[b];rintro e d ⟨rfl,rfl⟩) | (go_at_call 184;refine(YF s c _).mono ?_;rintro e d ⟨rfl,f⟩) | (go_at_call 91;refine(xB _ _).mono ?_;rw[g];rintro e h ⟨rfl,rfl⟩) | (go_at_call 185;refine(m _).mono ?_;rw[j];rintro e h ⟨rfl,rfl⟩) | (go_at_call 86;refine(C _).mono ?_;rintro e h ⟨rfl,n,rfl⟩));go_ret;exact⟨rfl,Below.drewN f n⟩
 | true =>
 have C:=fun w=>jbu s w l k;have K:=jeP s l
 have a:jm s.data.toList=if jF (before s.data.toList)=true then 4 else 5:=by unfold jm;rw[b,if_neg (by decide),i,if_neg (by decide),g,if_neg (by decide),j,if_neg (by decide),k];simp
 cases o:jF (before s.data.toList)
 all_goals
  rw[o]at a;rw[a];clear a;go_enter func141,ntmps141;go_wp2_with (first | (go_at_call 183;refine(Js _ _ _).mono ?_;rw[b];rintro e d ⟨rfl,rfl⟩) | (go_at_call 184;refine(YF s c _).mono ?_;rintro e d ⟨rfl,f⟩) | (go_at_call 91;refine(xB _ _).mono ?_;rw[g];rintro e h ⟨rfl,rfl⟩) | (go_at_call 185;refine(m _).mono ?_;rw[j];rintro e h ⟨rfl,rfl⟩) | (go_at_call 86;refine(C _).mono ?_;rintro e h ⟨rfl,n,rfl⟩) | (go_at_call 186;refine(K _).mono ?_;rw[o];rintro e t ⟨rfl,rfl⟩));go_ret;exact⟨rfl,Below.drewN f n⟩
theorem jjY(s:ByteArray)(a:s.size<=maxLen)(h:jm s.data.toList=4)(w:World):
  Calls prog 223 #[.string s] w fun e d=>e=.returned (.tuple #[.string (jb7 s),.string (jb8 s),.bool true])/\Below w.heap.size w d:=by
 have c:qM s.data.toList 58=true:=by
  unfold jm at h;split at h;· cases h
  split at h;· cases h
  split at h;· cases h
  split at h;· cases h
  split at h
  ·rename_i q;exact q.1
  cases h
 have C:=fun w=>jbu s w a c;have K:=ZT s a
 rw[h]at K;go_enter func223,ntmps223;go_wp2_with (first | (go_at_call 141;refine(K _).mono ?_;rintro e f ⟨rfl,b⟩) | (go_at_call 86;refine(C _).mono ?_;rintro e g ⟨rfl,n,rfl⟩));go_ret3;exact⟨rfl,Below.drewN b n⟩
end Go.Proofs.YtbapfpekklcicaaGreatDoor
