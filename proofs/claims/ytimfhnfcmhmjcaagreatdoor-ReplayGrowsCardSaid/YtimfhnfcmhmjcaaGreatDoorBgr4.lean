/- Texts put together:RF,WB,WC,WD,WE,WF,FA,FB,FC,FD. -/
import Derived.RangeFuncNested
import Derived.RangeFuncBound
import Derived.RangeFuncCalls
import Derived.RangeFuncLeaves
import Derived.Deep.RegionWith
import Derived.Deep.AppendLies
import Derived.Deep.RegionHeld3
import Derived.Shelf.Abstract
import Derived.Shelf.RegionOpen
import Derived.OwnWalkIn
import Derived.TacticsInMore
import Derived.LoopNIn
import Derived.LoopIn
import Derived.Shelf.Strings.SlTrimAscii
import Derived.Test.YtimfhnfcmhmjcaaGreatDoorBgr3
set_option linter.unusedVariables false
set_option maxRecDepth 100000
set_option maxHeartbeats 16000000
namespace Go.Proofs.YtimfhnfcmhmjcaaGreatDoor
abbrev jit:=@Go.Oper.semAt_some
abbrev jiJ:=@List.length_nil
abbrev jiR:=@Go.World.putObj_heap_other
abbrev ji3:=@Array.replicate_succ
abbrev ji4:=@Array.replicate_zero
abbrev ji5:=@List.size_toArray
abbrev ji6:=@List.append_toArray
abbrev jje:=@List.push_toArray
abbrev jjg:=@Go.Boxed.set
abbrev jjs:=@Go.Boxed.new
abbrev jjt:=@Go.Lib.toList_data
abbrev jjI:=@Go.World.alloc_heap_new
abbrev jjT:=@Go.World.putObj_heap_same
abbrev jjY:=@List.singleton_append
abbrev jkf:=@List.all_append
abbrev jkk:=@Go.Lib.extract_to_end
abbrev jku:=@Go.Boxed.alloc
end Go.Proofs.YtimfhnfcmhmjcaaGreatDoor
namespace Go.Proofs.YtimfhnfcmhmjcaaGreatDoor
open Go.RowKit
structure qC(B k:Nat)(W W':World):Prop where
 size:W.heap.size<=W'.heap.size
 same:∀r,B<=r->r<B+k->W'.heap[r]?=W.heap[r]?
theorem qC.refl(B k:Nat)(W:World):qC B k W W:=⟨jij _,fun _ _ _=>rfl⟩
theorem qC.trans{B k:Nat}{X Y Z:World}(h:qC B k X Y)(g:qC B k Y Z):qC B k X Z :=
 ⟨jiI h.size g.size,fun r a b=>(g.same r a b).trans (h.same r a b)⟩
theorem qC.alloc{B k:Nat}{X Y:World}(h:qC B k X Y)(hs:B+k<=Y.heap.size)(o:Obj):qC B k X (Y.alloc o) :=
 h.trans ⟨by simp,fun r _ b=>jjv _ _ _ (by omega)⟩
theorem qC.setCell{B k:Nat}{X Y:World}(h:qC B k X Y){p:Addr}(hp:p.block<B\/B+k<=p.block)(u:Value):qC B k X (Y.setCell p u) :=
 h.trans ⟨by simp[World.setCell],fun r a b=>jiS _ _ _ _ (by omega)⟩
theorem qC.grown{B k:Nat}{X Y Z:World}(h:qC B k X Y){row:Option Nat}(hg:Y.grownBy Z row)(hs:B+k<=Y.heap.size)(hr:∀r,row=some r->r<B\/B+k<=r):qC B k X Z :=
 h.trans ⟨hg.size,fun r a b=>hg.block r (by omega) (fun e=>by have:=hr r e.symm;omega)⟩
theorem qC.below{B k n:Nat}{X Y Z:World}(h:qC B k X Y)(hb:Below n Y Z)(hn:B+k<=n):qC B k X Z :=
 h.trans ⟨hb.size,fun r _ b=>hb.block r (by omega)⟩
structure jS(B k:Nat)(W W':World):Prop where
 os:W'.os=W.os
 tape:W'.tape=W.tape
 output:W'.output=W.output
 size:W.heap.size<=W'.heap.size
 same:∀r,r<W.heap.size->r<B\/B+k<=r->W'.heap[r]?=W.heap[r]?
theorem jS.refl(B k:Nat)(W:World):jS B k W W:=⟨rfl,rfl,rfl,jij _,fun _ _ _=>rfl⟩
theorem jS.trans{B k:Nat}{X Y Z:World}(h:jS B k X Y)(g:jS B k Y Z):jS B k X Z :=
 ⟨g.os.trans h.os,g.tape.trans h.tape,g.output.trans h.output,jiI h.size g.size,fun r a b=>(g.same r (jiF a h.size) b).trans (h.same r a b)⟩
theorem jS.grown{B k:Nat}{X Y Z:World}(h:jS B k X Y){row:Option Nat}(hg:Y.grownBy Z row)(hr:∀r,row=some r->B<=r/\r<B+k):jS B k X Z :=
 h.trans ⟨hg.os,hg.tape,hg.output,hg.size,fun r a b=>hg.block r a (fun e=>by have:=hr r e.symm;omega)⟩
theorem jS.alloc{B k:Nat}{X Y:World}(h:jS B k X Y)(o:Obj):jS B k X (Y.alloc o) :=
 h.grown (World.grownBy_alloc Y o none) (fun r e=>by cases e)
theorem jS.putObj{B k:Nat}{X Y:World}(h:jS B k X Y){l:Nat}(o:Obj)(a:B<=l)(b:l<B+k):jS B k X (Y.putObj l o) :=
 h.grown (grownBy_putObj' Y l o) (fun r e=>by cases e;exact⟨a,b⟩)
theorem jS.sub{B k B' k':Nat}{X Y:World}(h:jS B' k' X Y)(a:B<=B')(b:B'+k'<=B+k):jS B k X Y :=
 ⟨h.os,h.tape,h.output,h.size,fun r c d=>h.same r c (by omega)⟩
theorem jS.below{B k n:Nat}{X Y:World}(h:jS B k X Y)(hn:n<=B)(hs:n<=X.heap.size):Below n X Y :=
 ⟨h.os,h.tape,h.output,h.size,fun r a=>h.same r (by omega) (by omega)⟩
theorem jS.box{B k b:Nat}{X Y:World}{t:TypeId}{v:Value}(h:jS B k X Y)(hv:Boxed X b t v)(hb:b<B\/B+k<=b):Boxed Y b t v :=
 (h.same b (Array.getElem?_eq_some_iff.1 (show X.heap[b]?=_ from hv)).1 hb).trans hv
theorem jS.row{B k:Nat}{X Y:World}{base:Nat}{e:TypeId}{size:Nat}{v:Value}{n:Nat}{xs:List Value}(h:jS B k X Y)(hr:X.ownsRow base e size v n xs)
  (hb:∀b,v.ownBlock=some b->b<B\/B+k<=b):Y.ownsRow base e size v n xs:=by
 refine⟨hr.1,?_⟩
 rcases hr.2 with hn|⟨g,cap,cur,rfl,hbase,hg,rest⟩
 ·exact .inl hn
 exact .inr ⟨g,cap,cur,rfl,hbase,(h.same g (Array.getElem?_eq_some_iff.1 hg).1 (hb g rfl)).trans hg,rest⟩
def zo{β:Type}(B k:Nat)(J:β->World->Prop):Prop:=∀s W W',J s W->jS B k W W'->J s W'
theorem zo.alloc{β:Type}{B k:Nat}{J:β->World->Prop}(h:zo B k J){s:β}{W:World}(o:Obj)(hs:J s W):J s (W.alloc o) :=
 h s W _ hs ((jS.refl _ _ _).alloc o)
theorem zo.putObj{β:Type}{B k:Nat}{J:β->World->Prop}(h:zo B k J){s:β}{W:World}{l:Nat}(o:Obj)(hs:J s W)(a:B<=l)(b:l<B+k):J s (W.putObj l o) :=
 h s W _ hs ((jS.refl _ _ _).putObj o a b)
theorem zo.and{β:Type}{B k:Nat}{I J:β->World->Prop}(h:zo B k I)(g:zo B k J):zo B k (fun s W=>I s W/\J s W) :=
 fun s W W' hs ht=>⟨h s W W' hs.1 ht,g s W W' hs.2 ht⟩
theorem zo.pure{β:Type}(B k:Nat)(p:β->Prop):zo B k (fun s (_:World)=>p s):=fun _ _ _ hs _=>hs
theorem zo.below{β:Type}{B k n:Nat}{w:World}(hn:n<=w.heap.size)(hB:n<=B):zo B k (fun(_:β) W=>Below n w W) :=
 fun _ _ _ hs ht=>hs.trans (ht.below hB (jiI hn hs.size))
theorem zo.box{β:Type}{B k b:Nat}{t:TypeId}(hb:b<B\/B+k<=b)(f:β->Value):zo B k (fun s W=>Boxed W b t (f s)) :=
 fun _ _ _ hs ht=>ht.box hs hb
def jgr{α:Type}(P:Program)(g:Nat)(lb:Array Value)(encs:α->Array Value)(k:Nat)(xs:List α)(w:World):Prop :=
 ∀(l:Nat) (J Jx:List α->World->Prop) (W:World),Below w.heap.size w W->zo W.heap.size k J ->
  (∀pre x post W1,xs=pre++x::post->W.heap.size+k<=W1.heap.size->J pre W1->YieldAt Fence.wide 7 P l (encs x) W1 fun e W' =>
   (e=.returned (.bool true)/\J (pre++[x]) W'/\qC W.heap.size k W1 W')\/(e=.returned (.bool false)/\Jx (pre++[x]) W')) ->
  J [] W ->
  CallsIn Fence.wide 8 P g (#[.func (.yield l) #[] #[]]++lb) W fun e W'=>(∃v,e=.returned v)/\(J xs W'\/∃pre,pre <+: xs/\Jx pre W')
def left{α:Type}(B k:Nat)(I:List α->World->Prop)(Ix:Code->List α->World->Prop)(xs:List α)(W:World):Exit->Act->World->Prop
 | .normal,_,W'=>qC B k W W'/\I xs W'
 | .ret,_,W'=>qC B k W W'/\Ix .ret xs W'
 | .exit id,_,W'=>qC B k W W'/\Ix (.exit id) xs W'
 | .goto t,_,W'=>qC B k W W'/\Ix (.goto t) xs W'
 | .panic _,_,_=>False
 | .outgrown,_,_=>False
def Ze(B k:Nat)(M:Act->World->Prop)(W:World):Exit->Act->World->Prop :=
 Exit.then (fun a' W'=>qC B k W W'/\M a' W') (fun _ _ _=>False)
variable {P:Program}
theorem jaM{α:Type}{g:Operand}{ps:Array Tmp}{assign body:Code}{Q:Exit->Act->World->Prop}{a:Act}{w:World}
  {gf:Nat} {lb:Array Value} (hg:a.eval g=.func (.func gf) #[] lb) (eg:∀args w,(callFunc gf args).run P w=.ok (.enter gf args) w)
  {encs:α->Array Value} {k:Nat} {xs:List α} (hseq:jgr P gf lb encs k xs w) (hps:∀x,(encs x).size=ps.size)
  (I:List α->World->Prop) (Ix:Code->List α->World->Prop) (hI:zo w.heap.size (k+2) I) (hIx:∀c,zo w.heap.size 2 (Ix c)) (h0:I [] w)
  (M:List α->α->Act->World->Prop) (hM:∀pre x a',zo w.heap.size 2 (fun(_:Unit) W=>M pre x a' W))
  (hassign:∀(l:Nat) (pre:List α) (x:α) (post:List α) (W:World),xs=pre++x::post->w.heap.size+(k+2)<=W.heap.size->I pre W ->
   assign.wpIn (Fence.wide.inRound l) 7 P (Ze w.heap.size (k+2) (M pre x) W) {tmps:=(ps.zip (encs x)).foldl (fun t (p,v)=>t.setIfInBounds p v) a.tmps,defers:=[]} W)
  (hbody:∀(l:Nat) (pre:List α) (x:α) (post:List α) (a':Act) (W:World),xs=pre++x::post->w.heap.size+(k+2)<=W.heap.size->M pre x a' W ->
   body.wpIn (Fence.wide.inRound l) 7 P (left w.heap.size (k+2) I Ix (pre++[x]) W) a' W)
  (hdone:∀(W:World),I xs W->W.heap[w.heap.size]?=some (.deferred (some []))->Q .normal {a with defers:={target:=.collected w.heap.size,args:=#[]}::a.defers} W)
  (hstop:∀(c:Code) (pre:List α) (W:World),pre <+: xs->Ix c pre W->W.heap[w.heap.size]?=some (.deferred (some []))->c.wpIn Fence.wide 9 P Q {a with defers:={target:=.collected w.heap.size,args:=#[]}::a.defers} W) :
  (Code.rangeFunc g ps assign body).wpIn Fence.wide 9 P Q a w:=by
 refine wpIn_rangeFunc fun fn _ => ?_
 show ∃l mark w₁ d w₁' f args w₂,(Instr.enterLoop fn a.tmps ps assign body none).run P w=.ok (l,mark) w₁/\_
 obtain⟨rec,hrec⟩:∃rec:LoopState->Option Code->Loop,rec=fun st pe=>{state:=st,pending:=pe,fn,tmps:=a.tmps,params:=ps,assign,body,defers:=w.heap.size}:=⟨_,rfl⟩
 obtain⟨W1,hW1⟩:∃W1,(w.alloc (.deferred (some []))).alloc (.loop (rec .ready none))=W1:=⟨_,rfl⟩
 have hz1:W1.heap.size=w.heap.size+2:=by rw[<- hW1];simp
 have hL1:W1.heap[w.heap.size+1]?=some (.loop (rec .ready none)):=by
  rw[<- hW1];have:=jjI (w.alloc (.deferred (some []))) (.loop (rec .ready none));rwa [jiB]at this
 have hK1:W1.heap[w.heap.size]?=some (.deferred (some [])):=by
  rw[<- hW1];exact(jjv _ _ _ (by simp)).trans (jjI w _)
 have hI1:I [] W1:=by rw[<- hW1];exact hI.alloc _ (hI.alloc _ h0)
 have hb1:Below w.heap.size w W1:=by rw[<- hW1];exact((jil _ w).alloc (jij _) _).alloc (by simp) _
 have two:∀{A B:World},jS W1.heap.size k A B->∀q o,q<w.heap.size+2->A.heap[q]?=some o->B.heap[q]?=some o :=
  fun ht q o hq ho=>(ht.same q (Array.getElem?_eq_some_iff.1 ho).1 (by omega)).trans ho
 refine⟨w.heap.size+1,[{target:=.collected w.heap.size,args:=#[]}],W1,{target:=.fn (.func gf) lb,args:=#[.func (.yield (w.heap.size+1)) #[] #[]]},W1,gf,
  #[.func (.yield (w.heap.size+1)) #[] #[]]++lb,W1,?_,?_,fun _ _=>trivial,?_,(fun h=>by cases h),?_⟩
 ·rw[<- hW1,hrec];exact run_enterLoop_outer _ _ _ _ _
 ·simp only[resolve,hg]
  simp[go_sem]
 ·simp[invoke,go_sem,eg]
 refine(hseq (w.heap.size+1)
  (fun pre W=>I pre W/\W.heap[w.heap.size+1]?=some (.loop (rec .ready none))/\W.heap[w.heap.size]?=some (.deferred (some [])))
  (fun pre W=>∃c,Ix c pre W/\W.heap[w.heap.size+1]?=some (.loop (rec .done (some c)))/\W.heap[w.heap.size]?=some (.deferred (some [])))
  W1 hb1
  (fun s A B hs ht=>⟨hI s A B hs.1 (ht.sub (by omega) (by omega)),two ht _ _ (by omega) hs.2.1,two ht _ _ (by omega) hs.2.2⟩)
  ?_ ⟨hI1,hL1,hK1⟩).mono ?_
 ·
  rintro pre x post W hx hsz ⟨hi,hl,hk⟩
  rw[hz1]at hsz
  have hy:=run_yield (P:=P) (args:=encs x) hl (by rw[hrec];exact hps x)
  rw[hrec]at hy
  refine⟨fn,_,assign,body,hy,roundIn_of_wpIn trivial (wpIn_mono (hassign _ pre x post W hx (by omega) hi) ?_)⟩
  intro e a' Wa hp
  cases e with
  | normal =>
   obtain⟨hs1,hm⟩:=hp
   have hla:=(hs1.same (w.heap.size+1) (by omega) (by omega)).trans hl
   have hka:=(hs1.same w.heap.size (by omega) (by omega)).trans hk
   have hlt:=(Array.getElem?_eq_some_iff.1 hla).1
   refine⟨_,run_beginRound hla (by rw[hrec]),?_⟩
   have hl2:(Wa.putObj (w.heap.size+1) (.loop {rec .ready none with state:=.busy})).heap[w.heap.size+1]?=some (.loop {rec .ready none with state:=.busy}):=jjT hlt
   have hk2:(Wa.putObj (w.heap.size+1) (.loop {rec .ready none with state:=.busy})).heap[w.heap.size]?=some (.deferred (some [])):=(jiR (by omega)).trans hka
   have hn2:∀r,w.heap.size+2<=r->(Wa.putObj (w.heap.size+1) (.loop {rec .ready none with state:=.busy})).heap[r]?=Wa.heap[r]?:=fun r hr=>jiR (by omega)
   have hz2:∀o,(Wa.putObj (w.heap.size+1) o).heap.size=Wa.heap.size:=fun o=>by simp
   have hm2:=(hM pre x a').putObj (s:=()) (.loop {rec .ready none with state:=.busy}) hm (l:=w.heap.size+1) (by omega) (by omega)
   have hsa:=hs1.size
   refine wpIn_mono (hbody _ pre x post a' _ hx (by rw[hz2];omega) hm2) ?_
   have fin:∀(jump:Option Code) (W3:World),qC w.heap.size (k+2) (Wa.putObj (w.heap.size+1) (.loop {rec .ready none with state:=.busy})) W3 ->
     (Instr.endRound (w.heap.size+1) jump).run P W3=.ok (.bool jump.isNone) (W3.putObj (w.heap.size+1) (.loop (rec (if jump.isNone then .ready else .done) jump))) /\
     (W3.putObj (w.heap.size+1) (.loop (rec (if jump.isNone then .ready else .done) jump))).heap[w.heap.size+1]?=some (.loop (rec (if jump.isNone then .ready else .done) jump)) /\
     (W3.putObj (w.heap.size+1) (.loop (rec (if jump.isNone then .ready else .done) jump))).heap[w.heap.size]?=some (.deferred (some [])):=fun jump W3 hs3=>by
    have hl3:=(hs3.same (w.heap.size+1) (by omega) (by omega)).trans hl2
    have hk3:=(hs3.same w.heap.size (by omega) (by omega)).trans hk2
    have:=run_endRound (P:=P) jump hl3
    rw[hrec]at this ⊢
    exact⟨this,jjT (Array.getElem?_eq_some_iff.1 hl3).1,(jiR (by omega)).trans hk3⟩
   intro e a3 W3 hp
   cases e with
   | normal =>
    obtain⟨hs3,hi3⟩:=hp
    obtain⟨hr,hl4,hk4⟩:=fin none W3 hs3
    refine⟨_,_,hr,.inl ⟨rfl,⟨hI.putObj _ hi3 (by omega) (by omega),hl4,hk4⟩,?_⟩⟩
    have hsz3:=hs3.size
    refine⟨by simp only[World.putObj,Array.size_setIfInBounds]at hsz3 ⊢;omega,fun r a b => ?_⟩
    rw[hz1]at a b
    rw[jiR (by omega),hs3.same r (by omega) (by omega),hn2 r a,hs1.same r (by omega) (by omega)]
   | ret =>
    obtain⟨hs3,hi3⟩:=hp
    obtain⟨hr,hl4,hk4⟩:=fin (some .ret) W3 hs3
    exact⟨_,_,hr,.inr ⟨rfl,.ret,(hIx _).putObj _ hi3 (by omega) (by omega),hl4,hk4⟩⟩
   | exit id =>
    obtain⟨hs3,hi3⟩:=hp
    obtain⟨hr,hl4,hk4⟩:=fin (some (.exit id)) W3 hs3
    exact⟨_,_,hr,.inr ⟨rfl,.exit id,(hIx _).putObj _ hi3 (by omega) (by omega),hl4,hk4⟩⟩
   | goto t =>
    obtain⟨hs3,hi3⟩:=hp
    obtain⟨hr,hl4,hk4⟩:=fin (some (.goto t)) W3 hs3
    exact⟨_,_,hr,.inr ⟨rfl,.goto t,(hIx _).putObj _ hi3 (by omega) (by omega),hl4,hk4⟩⟩
   | panic ch=>exact hp.elim
   | outgrown=>exact hp.elim
  | ret=>exact hp.elim
  | exit id=>exact hp.elim
  | goto t=>exact hp.elim
  | panic ch=>exact hp.elim
  | outgrown=>exact hp.elim
 -- behind the iterator
 rintro e W2 ⟨⟨v,rfl⟩,(⟨hi,hl,hk⟩|⟨pre,hpre,c,hi,hl,hk⟩)⟩
 ·exact⟨none,_,by have:=run_endLoop (P:=P) hl (by rw[hrec];simp);rw[hrec]at this;exact this,hdone _ (hI.putObj _ hi (by omega) (by omega)) ((jiR (by omega)).trans hk)⟩
 exact⟨some c,_,by have:=run_endLoop (P:=P) hl (by rw[hrec];simp);rw[hrec]at this;exact this,hstop c pre _ hpre ((hIx c).putObj _ hi (by omega) (by omega)) ((jiR (by omega)).trans hk)⟩
def jdl(s:ByteArray):ByteArray:=if nl s.data.toList then s.extract ((head s.data.toList).length+1) s.size else ⟨#[]⟩
theorem qK{p:UInt8->Bool}:∀{l:List UInt8},(∀x∈l,p x=true)->l.takeWhile p=l
 | [],_=>rfl
 | a::l,h=>by rw[jjc,h a (by simp),if_pos rfl,qK fun x hx=>h x (by simp[hx])]
theorem jev(s:ByteArray)(w:World)(hs:s.size<=maxLen):
  Calls Tryz.prog 105 #[.string s,.string ⟨#[10]⟩] w fun e w'=>e=.returned (.tuple #[.string ⟨(head s.data.toList).toArray⟩,.string (jdl s),.bool (nl s.data.toList)])/\∃n,w'=w.drewN n:=by
 by_cases h:(10:UInt8)∈s.data.toList
 ·have e1:nl s.data.toList=true:=by unfold nl;simpa using h
  have e2:s.extract 0 (s.data.toList.takeWhile (· != 10)).length=⟨(head s.data.toList).toArray⟩:=by
   have h0:=jj7 s 0 (s.data.toList.takeWhile (· != 10)).length
   rw[<- Lib.mk_data (s.extract 0 _),h0]
   have:List.take ((s.data.toList.takeWhile (· != 10)).length-0) (List.drop 0 s.data.toList)=head s.data.toList:=by
    rw[List.drop_zero,Nat.sub_zero]
    exact(List.prefix_iff_eq_take.1 (jjq _)).symm
   rw[this]
  refine(Ym s 10 w hs h).mono ?_
  rintro e w' ⟨rfl,n,rfl⟩
  refine⟨?_,n,rfl⟩
  rw[e1,e2];unfold jdl;rw[if_pos e1];rfl
 have e1:nl s.data.toList=false:=by unfold nl;simpa using h
 have e2:head s.data.toList=s.data.toList:=by
  exact qK fun x hx=>by simp;rintro rfl;exact h hx
 refine(Ui s 10 w h).mono ?_
 rintro e w' ⟨rfl,n,rfl⟩
 refine⟨?_,n,rfl⟩
 rw[e1,e2,Lib.mk_data];unfold jdl;rw[e1];rfl
structure Two(b c:Nat)(W W':World):Prop where
 os:W'.os=W.os
 tape:W'.tape=W.tape
 output:W'.output=W.output
 size:W.heap.size<=W'.heap.size
 same:∀r,r<W.heap.size->r≠b->r≠c->W'.heap[r]?=W.heap[r]?
theorem Two.refl(b c:Nat)(W:World):Two b c W W:=⟨rfl,rfl,rfl,jij _,fun _ _ _ _=>rfl⟩
theorem Two.alloc{b c:Nat}{X Y:World}(h:Two b c X Y)(o:Obj):Two b c X (Y.alloc o) :=
 ⟨h.os,h.tape,h.output,by simp;have:=h.size;omega,fun r a x y=>(jjv _ _ _ (jiF a h.size)).trans (h.same r a x y)⟩
theorem Two.setCell{b c:Nat}{X Y:World}(h:Two b c X Y){p:Addr}(hp:p.block=b\/p.block=c\/X.heap.size<=p.block)(u:Value):Two b c X (Y.setCell p u) :=
 ⟨h.os,h.tape,h.output,by simp only[World.setCell,Array.size_modify];exact h.size,fun r a x y=>(jiS _ _ _ _ (by omega)).trans (h.same r a x y)⟩
theorem Two.drew{b c:Nat}{X Y:World}(h:Two b c X Y):Two b c X Y.drew:=⟨h.os,h.tape,h.output,h.size,h.same⟩
theorem Two.drewN{b c:Nat}{X Y:World}(h:Two b c X Y)(n:Nat):Two b c X (Y.drewN n):=⟨h.os,h.tape,h.output,h.size,h.same⟩
theorem Two.box{b c d:Nat}{X Y:World}{t:TypeId}{v:Value}(h:Two b c X Y)(hv:Boxed X d t v)(x:d≠b)(y:d≠c):Boxed Y d t v :=
 (h.same d hv.lt x y).trans hv
theorem Two.turned{b c B k:Nat}{X Y:World}(h:Two b c X Y)(hb:B<=b/\b<B+k)(hc:B<=c/\c<B+k):jS B k X Y :=
 ⟨h.os,h.tape,h.output,h.size,fun r a x=>h.same r a (by omega) (by omega)⟩
theorem jfw(s:ByteArray)(at_:Nat)(Bat Btx Bno:Nat)(w:World)(hat:Boxed w Bat 3 (.int .i64 at_))(htx:Boxed w Btx 9 (.string s))(he:at_=s.size):
  Calls Tryz.prog 205 #[.pointer (some ⟨Bat,0,none⟩),.pointer (some ⟨Btx,0,none⟩),.pointer (some ⟨Bno,0,none⟩)] w fun e w' =>
   e=.returned (.tuple #[.agg #[.int .i64 0,.int .i64 0,.string ⟨#[]⟩,.bool false],.bool false])/\Two Bno Bat w w':=by
 have c1:=hat.cell
 have c2:=htx.cell
 have z1:=hat.lt
 have z2:=htx.lt
 have e1:((at_:Int)==(s.size:Int))=true:=by rw[he];simp
 go_enter Tryz.func205,Tryz.ntmps205
 go_wp2
 refine bodyPost_ret (v:=.tuple #[.agg #[.int .i64 0,.int .i64 0,.string ⟨#[]⟩,.bool false],.bool false]) (by simp[results,Tryz.results205,go_sem]) rfl ⟨rfl,?_⟩
 exact(Two.refl _ _ _).alloc _
theorem jdE(s:ByteArray)(at_ no:Nat)(Bat Btx Bno:Nat)(w:World)(hat:Boxed w Bat 3 (.int .i64 at_))(htx:Boxed w Btx 9 (.string s))(hno:Boxed w Bno 3 (.int .i64 no))
  (h1:at_<s.size) (h2:no<s.size) (hs:s.size<=4294967295) (d1:Bat≠Btx) (d2:Bat≠Bno) (d3:Btx≠Bno) :
  Calls Tryz.prog 205 #[.pointer (some ⟨Bat,0,none⟩),.pointer (some ⟨Btx,0,none⟩),.pointer (some ⟨Bno,0,none⟩)] w fun e w' =>
   e=.returned (.tuple #[.agg (qu ⟨no,at_,head (s.data.toList.drop at_),nl (s.data.toList.drop at_)⟩),.bool true])/\Two Bno Bat w w'/\Boxed w' Bno 3 (.int .i64 (no+1:Nat))/\Boxed w' Bat 3 (.int .i64 (at_+zY (s.data.toList.drop at_):Nat)):=by
 have c1:=hat.cell
 have c2:=htx.cell
 have c3:=hno.cell
 have f1:=hat.frozen
 have f3:=hno.frozen
 have z1:=hat.lt
 have z2:=htx.lt
 have z3:=hno.lt
 have e1:((at_:Int)==(s.size:Int))=false:=by rw[beq_eq_false_iff_ne];omega
 go_enter Tryz.func205,Tryz.ntmps205
 go_wp2_with fail
 have hx:(s.extract at_ s.size).data.toList=s.data.toList.drop at_:=jkk s at_
 have hz:(s.extract at_ s.size).size<=maxLen:=by rw[jiV,hx];unfold maxLen;simp only[jiw,<- jiV];omega
 refine(jev (s.extract at_ s.size) _ hz).mono ?_
 rw[hx]
 rintro e w1 ⟨rfl,n1,rfl⟩
 have hu:(head (s.data.toList.drop at_)).length+(Yh (nl (s.data.toList.drop at_))).size=zY (s.data.toList.drop at_):=by
  unfold zY Yh;cases nl (s.data.toList.drop at_)<;>rfl
 have hul:=Vy (s.data.toList.drop at_)
 rw[jiw,<- jiV]at hul
 have hu':(⟨(head (s.data.toList.drop at_)).toArray⟩:ByteArray).size=(head (s.data.toList.drop at_)).length:=by simp[Lib.size_eq]
 generalize hhd:head (s.data.toList.drop at_)=hd at *
 generalize hen:nl (s.data.toList.drop at_)=en at *
 generalize hus:zY (s.data.toList.drop at_)=us at *
 have H1:=jii hhd
 have H2:=jii hen
 have H3:=jii hus
 clear hhd hen hus
 generalize jdl (s.extract at_ s.size)=rs at *
 have HU:=jii hu
 have HU':=jii hu'
 clear hu hu' hx hz
 have hat2:Boxed (w.alloc (.cells #[.int .i64 0,.int .i64 0,.string ⟨#[]⟩,.bool false] 182)) Bat 3 (.int .i64 at_):=hat.alloc _
 go_upto_region 5 with fail
 go_cut [] (fun wx=>Two Bno Bat w wx/\wx.heap.size=w.heap.size+1+1/\Boxed wx Bno 3 (.int .i64 (no+1:Nat))/\Boxed wx Bat 3 (.int .i64 at_) /\
  ja wx w.heap.size 182 #[.int .i64 0,.int .i64 0,.string ⟨#[]⟩,.bool false]/\ja wx (w.heap.size+1) 182 #[.int .i64 no,.int .i64 at_,.string ⟨hd.toArray⟩,.bool en])
 case first =>
  go_wp2_with fail
  go_meet
  refine⟨?_,?_,?_,?_,?_,?_⟩
  ·exact(((((((Two.refl Bno Bat w).alloc _).alloc _).drewN n1).setCell (.inr (.inr (by simp))) _).setCell (.inr (.inr (by simp))) _).setCell (.inl rfl) _)
  ·simp[World.setCell]
  ·exact jjg _ (ja.other (ja.other (((ja.alloc (ja.alloc hno _) _).drewN n1)) (by simp;omega) _) (by simp;omega) _)
  ·exact ja.other (ja.other (ja.other (((ja.alloc (ja.alloc hat _) _).drewN n1)) (by simp;omega) _) (by simp;omega) _) d2 _
  ·exact ja.other (ja.other (ja.other (((ja.alloc (ja.new w _ _) _).drewN n1)) (by simp) _) (by simp) _) (by simp;omega) _
  have h0:=ja.new (w.alloc (.cells #[.int .i64 0,.int .i64 0,.string ⟨#[]⟩,.bool false] 182)) 182 #[.int .i64 no,.int .i64 at_,.string ⟨#[]⟩,.bool false]
  rw[jiB]at h0
  exact ja.other (((h0.drewN n1).set 2 (.string ⟨hd.toArray⟩)).set 3 (.bool en)) (by simp;omega) _
 case rest =>
 obtain⟨t1,t2,t3,t4,t5,t6⟩:=hcut
 have t3':=jii t3
 have q0:=t4.cell
 have q1:=t4.frozen
 have q2:wc.cell? ⟨w.heap.size+1,2,none⟩=some (.string ⟨hd.toArray⟩):=t6.cell 2
 have q3:wc.cell? ⟨w.heap.size+1,0,none⟩=some (.int .i64 no):=t6.cell 0
 have q4:wc.cell? ⟨w.heap.size+1,1,none⟩=some (.int .i64 at_):=t6.cell 1
 have g1:(wc.alloc (.cells #[.int .i64 no,.int .i64 at_,.string ⟨hd.toArray⟩,.bool en] 182)).cell? ⟨Bat,0,none⟩=some (.int .i64 at_):=(jku t4 _).cell
 have g2:(wc.alloc (.cells #[.int .i64 no,.int .i64 at_,.string ⟨hd.toArray⟩,.bool en] 182)).frozen? ⟨Bat,0,none⟩=false:=(jku t4 _).frozen
 have keepA:∀o,((wc.alloc o).cell? ⟨w.heap.size+1,0,none⟩=some (.int .i64 no)/\(wc.alloc o).cell? ⟨w.heap.size+1,1,none⟩=some (.int .i64 at_)/\(wc.alloc o).cell? ⟨w.heap.size+1,2,none⟩=some (.string ⟨hd.toArray⟩)/\(wc.alloc o).cell? ⟨w.heap.size+1,3,none⟩=some (.bool en)) :=
  fun o=>⟨(ja.alloc t6 o).cell 0,(ja.alloc t6 o).cell 1,(ja.alloc t6 o).cell 2,(ja.alloc t6 o).cell 3⟩
 have keepB:∀o v,(((wc.alloc o).setCell ⟨Bat,0,none⟩ v).cell? ⟨w.heap.size+1,0,none⟩=some (.int .i64 no)/\((wc.alloc o).setCell ⟨Bat,0,none⟩ v).cell? ⟨w.heap.size+1,1,none⟩=some (.int .i64 at_)/\((wc.alloc o).setCell ⟨Bat,0,none⟩ v).cell? ⟨w.heap.size+1,2,none⟩=some (.string ⟨hd.toArray⟩)/\((wc.alloc o).setCell ⟨Bat,0,none⟩ v).cell? ⟨w.heap.size+1,3,none⟩=some (.bool en)) :=
  fun o v=>by
   have hne:w.heap.size+1≠Bat:=by omega
   exact⟨((ja.alloc t6 o).other hne v).cell 0,((ja.alloc t6 o).other hne v).cell 1,((ja.alloc t6 o).other hne v).cell 2,((ja.alloc t6 o).other hne v).cell 3⟩
 have g3:(wc.alloc (.cells #[.int .i64 no,.int .i64 at_,.string ⟨hd.toArray⟩,.bool en] 182)).cell? ⟨w.heap.size+1,2,none⟩=some (.string ⟨hd.toArray⟩):=(ja.alloc t6 _).cell 2
 clear keepA keepB
 have n0:(Yh en).size<=1:=by unfold Yh;cases en<;>decide
 have n1:hd.length<=4294967295:=by have:=HU.out;omega
 have n2:hd.length+(Yh en).size<=s.size-at_:=by have:=HU.out;omega
 have n3:IntKind.i64.wrap ((hd.length:Int)+((Yh en).size:Int))=(hd.length:Int)+((Yh en).size:Int):=jiM _ (by omega)
 have n4:IntKind.i64.wrap ((at_:Int)+((hd.length:Int)+((Yh en).size:Int)))=(at_:Int)+((hd.length:Int)+((Yh en).size:Int)):=jiM _ (by omega)
 have q5:wc.cell? ⟨w.heap.size+1,3,none⟩=some (.bool en):=t6.cell 3
 go_upto_region 6 with fail
 go_cut [] (fun wx=>Two Bno Bat w wx/\Boxed wx Bno 3 (.int .i64 (no+1:Nat))/\Boxed wx Bat 3 (.int .i64 (at_+us:Nat)) /\
  ja wx w.heap.size 182 #[.int .i64 0,.int .i64 0,.string ⟨#[]⟩,.bool false]/\ja wx (w.heap.size+1) 182 #[.int .i64 no,.int .i64 at_,.string ⟨hd.toArray⟩,.bool en])
 case first =>
  go_region_with (go_at_call 153;refine(KC _ _ _ _ _).mono ?_;rintro e w1 ⟨rfl,rfl⟩)
  all_goals
   go_wp2_with fail
   go_meet
   have e9:Value.int .i64 ((at_:Int)+((hd.length:Int)+((Yh en).size:Int)))=Value.int .i64 ((at_+us:Nat):Int):=by have:=HU.out;congr 1;omega
   rw[e9]
   exact⟨((t1.alloc _).setCell (.inr (.inl rfl)) _).drew,ja.other (ja.alloc t3 _) (fun e=>d2 e.symm) _,jjg _ (jku t4 _),ja.other (ja.alloc t5 _) (by simp;omega) _,ja.other (ja.alloc t6 _) (by simp;omega) _⟩
 case rest =>
 obtain⟨r1,r2,r3,r4,r5⟩:=hcut
 have s0:wc.cell? ⟨w.heap.size+1,0,none⟩=some (.int .i64 no):=r5.cell 0
 have s1:wc.cell? ⟨w.heap.size+1,1,none⟩=some (.int .i64 at_):=r5.cell 1
 have s2:wc.cell? ⟨w.heap.size+1,2,none⟩=some (.string ⟨hd.toArray⟩):=r5.cell 2
 have s3:wc.cell? ⟨w.heap.size+1,3,none⟩=some (.bool en):=r5.cell 3
 have s4:wc.cell? ⟨w.heap.size,0,none⟩=some (.int .i64 0):=r4.cell 0
 have s5:wc.cell? ⟨w.heap.size,1,none⟩=some (.int .i64 0):=r4.cell 1
 have s6:wc.cell? ⟨w.heap.size,2,none⟩=some (.string ⟨#[]⟩):=r4.cell 2
 have s7:wc.cell? ⟨w.heap.size,3,none⟩=some (.bool false):=r4.cell 3
 have y0:=r4.frozen 0
 have y1:=r4.frozen 1
 have y2:=r4.frozen 2
 have y3:=r4.frozen 3
 go_wp2_with fail
 have k4:=(((r4.set 0 (.int .i64 no)).set 1 (.int .i64 at_)).set 2 (.string ⟨hd.toArray⟩)).set 3 (.bool en)
 have w0:=k4.cell 0
 have w1:=k4.cell 1
 have w2:=k4.cell 2
 have w3:=k4.cell 3
 simp at w0 w1 w2 w3
 refine bodyPost_ret (v:=.tuple #[.agg #[.int .i64 no,.int .i64 at_,.string ⟨hd.toArray⟩,.bool en],.bool true]) (by simp[results,Tryz.results205,go_sem,w0,w1,w2,w3]) rfl ?_
 have z5:Bat≠w.heap.size:=by omega
 have z6:Bno≠w.heap.size:=by omega
 refine⟨by rw[H1.out,H2.out];rfl,?_,?_,?_⟩
 ·exact(((r1.setCell (.inr (.inr (jij _))) _).setCell (.inr (.inr (jij _))) _).setCell (.inr (.inr (jij _))) _).setCell (.inr (.inr (jij _))) _
 ·exact ja.other (ja.other (ja.other (ja.other r2 z6 _) z6 _) z6 _) z6 _
 rw[H3.out];exact ja.other (ja.other (ja.other (ja.other r3 z5 _) z5 _) z5 _) z5 _
end Go.Proofs.YtimfhnfcmhmjcaaGreatDoor
namespace Go.Proofs.YtimfhnfcmhmjcaaGreatDoor
open Go.RowKit Go.Shelf
attribute [local go_sem] jit
theorem jd7(s:ByteArray)(w:World):
  Calls Tryz.prog 160 #[.string s] w fun e w'=>e=.returned (.func (.func 205) #[] #[.pointer (some ⟨w.heap.size+1+1,0,none⟩),.pointer (some ⟨w.heap.size,0,none⟩),.pointer (some ⟨w.heap.size+1,0,none⟩)]) /\
   w'=((w.alloc (.cells #[.string s] 9)).alloc (.cells #[.int .i64 0] 3)).alloc (.cells #[.int .i64 0] 3):=by
 go_enter Tryz.func160,Tryz.ntmps160
 go_wp2
 go_ret
 exact⟨rfl,rfl⟩
theorem jbx(s:ByteArray)(at_ no:Nat)(Bat Btx Bno:Nat)(w:World)(hat:Boxed w Bat 3 (.int .i64 at_))(htx:Boxed w Btx 9 (.string s))(hno:Boxed w Bno 3 (.int .i64 no))
  (h1:at_<s.size) (h2:no<s.size) (hs:s.size<=4294967295) (d1:Bat≠Btx) (d2:Bat≠Bno) (d3:Btx≠Bno) (hd:List UInt8) (en:Bool) (us:Nat)
  (H1:head (s.data.toList.drop at_)=hd) (H2:nl (s.data.toList.drop at_)=en) (H3:zY (s.data.toList.drop at_)=us) :
  Calls Tryz.prog 205 #[.pointer (some ⟨Bat,0,none⟩),.pointer (some ⟨Btx,0,none⟩),.pointer (some ⟨Bno,0,none⟩)] w fun e w' =>
   e=.returned (.tuple #[.agg #[.int .i64 no,.int .i64 at_,.string ⟨hd.toArray⟩,.bool en],.bool true])/\Two Bno Bat w w'/\Boxed w' Bno 3 (.int .i64 (no+1:Nat))/\Boxed w' Bat 3 (.int .i64 (at_+us:Nat)):=by
 subst H1 H2 H3
 exact jdE s at_ no Bat Btx Bno w hat htx hno h1 h2 hs d1 d2 d3
def jhk(B:Nat)(w:World):Nat:=match w.cell? ⟨B,0,none⟩ with | some (.int _ n)=>n.toNat | _=>0
theorem Jm{B:Nat}{w:World}{t:TypeId}{n:Nat}(h:Boxed w B t (.int .i64 n)):jhk B w=n:=by unfold jhk;rw[h.cell];simp
theorem qq(s:ByteArray)(Bs:Nat)(w:World)(hbox:Boxed w Bs 9 (.string s))(hs:s.size<=4294967295):
  jgr Tryz.prog 159 #[.pointer (some ⟨Bs,0,none⟩)] (fun x=>#[.agg (qu x)]) 3 (jg s.data.toList) w:=by
 intro l J Jx W hW hJ hY h0
 have hb:Boxed W Bs 9 (.string s):=(hW.block Bs hbox.lt).trans hbox
 have c0:=hb.cell
 refine callsIn_of_wp Tryz.func159 rfl trivial ?_ rfl
 simp only[Tryz.ntmps159,ji5,jin,jiJ,Nat.reduceAdd,Nat.reduceSub,ji3,ji4,jje,ji6,jiZ,jiz]
 gi_wp2_with (refine⟨trivial,?_⟩;gi_at_call 160;refine(callsIn_wide.2 (jd7 s _)).mono ?_;rintro e w' ⟨rfl,rfl⟩)
 gi_loopw [4] (fun _ wr=>∃pre at_,jg s.data.toList=pre++jF pre.length at_ (s.data.toList.drop at_)/\at_<=s.size/\pre.length<=at_/\Boxed wr W.heap.size 9 (.string s) /\
   Boxed wr (W.heap.size+1) 3 (.int .i64 (pre.length:Nat))/\Boxed wr (W.heap.size+1+1) 3 (.int .i64 at_)/\J pre wr)
  (fun _ wr=>s.size-jhk (W.heap.size+1+1) wr)
 case atStart =>
  refine⟨[],0,rfl,jiD _,jij _,?_,?_,?_,hJ.alloc _ (hJ.alloc _ (hJ.alloc _ h0))⟩
  ·exact((jjs W _ _).alloc _).alloc _
  ·have:=(jjs (W.alloc (.cells #[.string s] 9)) 3 (.int .i64 0)).alloc (.cells #[.int .i64 0] 3)
   rw[jiB]at this;exact this
  have:=jjs ((W.alloc (.cells #[.string s] 9)).alloc (.cells #[.int .i64 0] 3)) 3 (.int .i64 0)
  rw[jiB,jiB]at this;exact this
 case round =>
 obtain⟨pre,at_,hx,ha,hn,b1,b2,b3,hj⟩:=hrel
 by_cases he:at_=s.size
 ·gi_wp2_with (refine⟨trivial,?_⟩;gi_at_call 205;refine(callsIn_wide.2 (jfw s at_ _ _ _ _ b3 b1 he)).mono ?_;rintro e w' ⟨rfl,h2⟩)
  refine⟨fun _ h=>(by cases h),?_⟩
  gi_wp2
  refine bodyPost_ret (results_none rfl _ _ _) rfl ⟨⟨_,rfl⟩,.inl ?_⟩
  rw[he,jjf (by rw[<- jiV];exact jij _),jn,jiO]at hx
  rw[hx]
  exact hJ.alloc _ (hJ _ _ _ hj (h2.turned (by omega) (by omega)))
 have hlt:at_<s.size:=by omega
 have hne:s.data.toList.drop at_≠[]:=by
  intro e;have:=congrArg List.length e;rw[jiw,<- jiV]at this;simp at this;omega
 rw[jq _ _ _ hne,jjC]at hx
 have hu:=qd _ hne
 have hul:=Vy (s.data.toList.drop at_)
 rw[jiw,<- jiV]at hul
 generalize hhd:head (s.data.toList.drop at_)=hd at *
 generalize hen:nl (s.data.toList.drop at_)=en at *
 generalize hus:zY (s.data.toList.drop at_)=us at *
 have N:=callsIn_wide (n:=7).2 (jbx s at_ pre.length _ _ _ _ b3 b1 b2 hlt (by omega) hs (by omega) (by omega) (by omega) hd en us hhd hen hus)
 have HX:=jii hx
 clear hhd hen hus hx hne he
 gi_wp2_with (refine⟨trivial,?_⟩;gi_at_call 205;refine N.mono ?_;clear N;rintro e w' ⟨rfl,h2,h3,h4⟩)
 have hz:=h2.size
 have hz3:=b3.lt
 have jw:J pre w':=hJ _ _ _ hj (h2.turned (by omega) (by omega))
 obtain⟨fn,tmps,assign,body,hy,hR⟩:=hY pre ⟨pre.length,at_,hd,en⟩ _ (w'.alloc (.cells #[.int .i64 pre.length,.int .i64 at_,.string ⟨hd.toArray⟩,.bool en] 182)) HX.out (by simp;omega) (hJ.alloc _ jw)
 dsimp only[qu]at hy
 rw[hy,Oper.uponIn_round]
 refine⟨fun h=>(by cases h),hR.mono ?_⟩
 clear hR hy
 rintro e W3 (⟨rfl,hJ3,hk3⟩|⟨rfl,hJx3⟩)
 ·gi_wp2
  go_roundw
  case rel =>
   refine⟨pre++[⟨pre.length,at_,hd,en⟩],at_+us,?_,by omega,by simp;omega,?_,?_,?_,hJ3⟩
   ·rw[jix,jjY,jik];exact HX.out
   ·exact(hk3.same _ (by omega) (by omega)).trans ((h2.box b1 (by omega) (by omega)).alloc _)
   ·rw[jik];exact(hk3.same _ (by omega) (by omega)).trans (jku h3 _)
   exact(hk3.same _ (by omega) (by omega)).trans (jku h4 _)
  case measure =>
  rw[Jm b3,Jm (B:=W.heap.size+1+1) (w:=W3) (n:=at_+us) ((hk3.same _ (by omega) (by omega)).trans (jku h4 _))]
  omega
 gi_wp2
 refine bodyPost_ret (results_none rfl _ _ _) rfl ⟨⟨_,rfl⟩,.inr ⟨_,⟨jF (pre.length+1) (at_+us) (List.drop (at_+us) s.data.toList),?_⟩,hJx3⟩⟩
 rw[HX.out,jix,jjY]
theorem vx(s:ByteArray)(w:World):
  Calls Tryz.prog 100 #[.string s] w fun e w'=>e=.returned (.func (.func 159) #[] #[.pointer (some ⟨w.heap.size,0,none⟩)])/\w'=w.alloc (.cells #[.string s] 9):=by
 go_enter Tryz.func100,Tryz.ntmps100
 go_wp2
 go_ret
 exact⟨rfl,rfl⟩
theorem vX(w:World)(o:Obj)(t:TypeId)(v:Value):Boxed ((w.alloc o).alloc (.cells #[v] t)) (w.heap.size+1) t v:=by
 have:=jjs (w.alloc o) t v
 rwa [jiB]at this
end Go.Proofs.YtimfhnfcmhmjcaaGreatDoor
namespace Go.Proofs.YtimfhnfcmhmjcaaGreatDoor
open Go.RowKit Go.Shelf
theorem QP{s:ByteArray}{c:UInt8}{t:List UInt8}(h:s.data.toList=c::t):s.toList.isEmpty=false/\¬s.toList=[]/\1<=s.size:=by
 rw[jjt,h]
 exact⟨rfl,by simp,by rw[Lib.size_eq,h];simp⟩
theorem Ue{s:ByteArray}(h:s.data.toList=[]):s=⟨#[]⟩:=by
 rw[<- Lib.mk_data s,h]
theorem jbV(c:UInt8):decide (0<=Lib.indexByte [32,9] c)=qI c:=by
 unfold qI
 by_cases h1:c=32
 ·subst h1;decide
 by_cases h2:c=9
 ·subst h2;decide
 have a:((32:UInt8)==c)=false:=by simp[Ne.symm h1]
 have b:((9:UInt8)==c)=false:=by simp[Ne.symm h2]
 simp[Lib.indexByte,a,b,h1,h2]
theorem jfM(l:List UInt8)(c:UInt8):decide (0<=Lib.indexByte l c)=l.contains c:=by
 rcases qj l c with ⟨h1,h2⟩|⟨h1,h2⟩
 ·rw[h1];simp[h2]
 rw[h1];simp[h2]
theorem jds(l:List UInt8):Lib.hasPrefix l [35]=Jc l:=by
 unfold Lib.hasPrefix Jc
 cases l with
 | nil=>rfl
 | cons a t=>simp[List.isPrefixOf,Bool.beq_comm]
theorem jcG(w:World):
  Calls Tryz.prog 208 #[.string ⟨#[]⟩] w fun e w'=>e=.returned (.bool false)/\w=w':=by
 go_enter Tryz.func208,Tryz.ntmps208
 go_wp2
 go_ret
 exact⟨rfl,rfl⟩
theorem jax(s:ByteArray)(c:UInt8)(t:List UInt8)(h:s.data.toList=c::t)(hs:s.size<=maxLen)(w:World):
  Calls Tryz.prog 208 #[.string s] w fun e w'=>e=.returned (.bool (qI c))/\w=w':=by
 have hz:1<=s.size:=by rw[jiV,h];simp
 have e1:s.extract 0 1=⟨#[c]⟩:=by
  have:=jj7 s 0 1
  rw[h]at this
  rw[<- Lib.mk_data (s.extract 0 1),this];rfl
 obtain⟨n1,n2,n3⟩:=QP h
 clear h
 unfold maxLen at hs
 go_enter Tryz.func208,Tryz.ntmps208
 go_wp2_with fail
 refine(Tryz.strings_Contains_one ⟨#[32,9]⟩ c _).mono ?_
 rw[show(⟨#[32,9]⟩:ByteArray).data.toList=[32,9] from rfl,jbV]
 rintro e w' ⟨rfl,rfl⟩
 go_wp2
 go_ret
 exact⟨rfl,rfl⟩
theorem Vq(s:ByteArray)(hs:s.size<=maxLen)(w:World):
  Calls Tryz.prog 208 #[.string s] w fun e w'=>e=.returned (.bool (vg s.data.toList))/\w=w':=by
 cases h:s.data.toList with
 | nil=>rw[Ue h];exact jcG w
 | cons c t=>exact jax s c t h hs w
theorem yt(s:ByteArray)(c:UInt8)(w:World):
  Calls Tryz.prog 206 #[.string s,.string ⟨#[c]⟩] w fun e w'=>e=.returned (.bool (vu s.data.toList c))/\w=w':=by
 refine(Tryz.strings_Contains_one s c _).mono ?_
 rw[jfM]
 rintro e w' ⟨rfl,rfl⟩
 exact⟨rfl,rfl⟩
theorem vP(s:ByteArray)(w:World):
  Calls Tryz.prog 110 #[.string s,.string ⟨#[35]⟩] w fun e w'=>e=.returned (.bool (Jc s.data.toList))/\w=w':=by
 refine(Tryz.strings_HasPrefix s ⟨#[35]⟩ _).mono ?_
 rw[show(⟨#[35]⟩:ByteArray).data.toList=[35] from rfl,jds]
 rintro e w' ⟨rfl,rfl⟩
 exact⟨rfl,rfl⟩
theorem Wd(s:ByteArray)(hs:s.size<=9223372036854775807)(w:World):
  Calls Tryz.prog 207 #[.string s,.string ⟨#[32,9]⟩] w fun e w'=>e=.returned (.string ⟨(Lib.trimS s.data.toList [32,9]).toArray⟩)/\Below w.heap.size w w' :=
 Any.strings_Trim_laid Tryz.lays160 (by kernel_rfl) s ⟨#[32,9]⟩ w hs (by decide) (ascii_of_all (by decide))
theorem jbO(s:ByteArray)(hs:s.size<=maxLen)(w:World):
  Calls Tryz.prog 209 #[.string s] w fun e w'=>e=.returned (.bool (jR s.data.toList))/\w=w':=by
 cases h:s.data.toList with
 | nil =>
  rw[Ue h]
  go_enter Tryz.func209,Tryz.ntmps209
  go_wp2
  go_ret
  exact⟨rfl,rfl⟩
 | cons c t =>
 rw[<- h]
 obtain⟨n1,n2,n3⟩:=QP h
 clear h
 have n4:1<=s.data.toList.length:=by rw[<- jiV];exact n3
 have n5:=jiV s
 have g1:=Vq s hs
 unfold maxLen at hs
 by_cases h1:s.size<=32
 ·rw[n5]at h1
  have e1:jR s.data.toList=(!vg s.data.toList && !Jc s.data.toList && !vu s.data.toList 58 && !vu s.data.toList 10):=by
   unfold jR;rw[decide_eq_true n4,decide_eq_true h1];simp
  rw[e1]
  rw[<- n5]at h1
  clear n5 n4 e1
  cases h2:vg s.data.toList with
  | true =>
   go_enter Tryz.func209,Tryz.ntmps209
   go_wp2_with (go_at_call 208;refine(g1 _).mono ?_;rw[h2];rintro e w1 ⟨rfl,rfl⟩)
   go_ret
   exact⟨rfl,rfl⟩
  | false =>
  cases h3:Jc s.data.toList with
  | true =>
   go_enter Tryz.func209,Tryz.ntmps209
   go_wp2_with (first | (go_at_call 208;refine(g1 _).mono ?_;rw[h2];rintro e w1 ⟨rfl,rfl⟩) | (go_at_call 110;refine(vP _ _).mono ?_;rw[h3];rintro e w1 ⟨rfl,rfl⟩))
   go_ret
   exact⟨rfl,rfl⟩
  | false =>
  cases h4:vu s.data.toList 58 with
  | true =>
   go_enter Tryz.func209,Tryz.ntmps209
   go_wp2_with (first | (go_at_call 208;refine(g1 _).mono ?_;rw[h2];rintro e w1 ⟨rfl,rfl⟩) | (go_at_call 110;refine(vP _ _).mono ?_;rw[h3];rintro e w1 ⟨rfl,rfl⟩) | (go_at_call 206;refine(yt _ _ _).mono ?_;rw[h4];rintro e w1 ⟨rfl,rfl⟩))
   go_ret
   exact⟨rfl,rfl⟩
  | false =>
  cases h5:vu s.data.toList 10
  all_goals
   go_enter Tryz.func209,Tryz.ntmps209
   go_wp2_with (first | (go_at_call 208;refine(g1 _).mono ?_;rw[h2];rintro e w1 ⟨rfl,rfl⟩) | (go_at_call 110;refine(vP _ _).mono ?_;rw[h3];rintro e w1 ⟨rfl,rfl⟩) | (go_at_call 206;refine(yt _ _ _).mono ?_;(first | rw[h4] | rw[h5]);rintro e w1 ⟨rfl,rfl⟩))
   go_ret
   exact⟨rfl,rfl⟩
 have e1:jR s.data.toList=false:=by
  unfold jR;rw[<- n5,decide_eq_false h1];simp
 rw[e1]
 have h1':32<s.size:=by omega
 clear n5 n4 e1
 go_enter Tryz.func209,Tryz.ntmps209
 go_wp2
 go_ret
 exact⟨rfl,rfl⟩
theorem Below.drewN{B:Nat}{a w:World}(h:Below B a w)(n:Nat):Below B a (w.drewN n):=⟨h.os,h.tape,h.output,h.size,h.block⟩
def Zh(s:ByteArray):ByteArray:=⟨(Lib.trimS s.data.toList [32,9]).toArray⟩
def jdu(s:ByteArray):ByteArray:=s.extract 0 (before s.data.toList).length
def jbl(s:ByteArray):ByteArray:=s.extract ((before s.data.toList).length+1) s.size
theorem Ql(c:UInt8):([32,9]:List UInt8).contains c=qI c:=by
 unfold qI
 by_cases h1:c=32
 ·subst h1;rfl
 by_cases h2:c=9
 ·subst h2;rfl
 simp[h1,h2]
theorem vV{p:UInt8->Bool}:∀{l:List UInt8},l.dropWhile p=[]↔l.all p=true
 | []=>by simp
 | a::l=>by
  rw[List.dropWhile_cons]
  cases h:p a<;>simp[h,vV]
theorem Wc(l:List UInt8):Lib.trimS l [32,9]=[]↔zh l=true:=by
 have e:(fun c=>([32,9]:List UInt8).contains c)=qI:=funext Ql
 unfold Lib.trimS Lib.trimLeftS Lib.trimRightS zh
 rw[e,vV,List.all_reverse]
 constructor
 ·intro h
  have h2:(l.reverse.takeWhile qI++l.reverse.dropWhile qI).all qI=true:=by rw[jkf,h,jjR];rfl
  rw[List.takeWhile_append_dropWhile,List.all_reverse]at h2
  exact h2
 intro h
 have:l.reverse.dropWhile qI=[]:=vV.2 (by rw[List.all_reverse];exact h)
 rw[this];rfl
theorem Wb(s:ByteArray)(hs:s.size<=9223372036854775807)(h:zh s.data.toList=true)(w:World):
  Calls Tryz.prog 207 #[.string s,.string ⟨#[32,9]⟩] w fun e w'=>e=.returned (.string ⟨#[]⟩)/\Below w.heap.size w w':=by
 have:=Wd s hs w
 rwa [(Wc _).2 h]at this
theorem Zi(s:ByteArray)(hs:s.size<=9223372036854775807)(w:World):
  Calls Tryz.prog 207 #[.string s,.string ⟨#[32,9]⟩] w fun e w'=>e=.returned (.string (Zh s))/\Below w.heap.size w w':=Wd s hs w
theorem Qu(s:ByteArray)(h:zh s.data.toList=false):(Zh s).toList.isEmpty=false/\¬(Zh s).toList=[]:=by
 have:Lib.trimS s.data.toList [32,9]≠[]:=fun e=>by rw[(Wc _).1 e]at h;cases h
 have e:(Zh s).toList=Lib.trimS s.data.toList [32,9]:=by rw[jjt];rfl
 rw[e]
 exact⟨by simpa using this,this⟩
theorem Zm(s:ByteArray):(jdu s).data.toList=before s.data.toList:=by
 unfold jdu
 rw[jj7,List.drop_zero,Nat.sub_zero]
 exact(List.prefix_iff_eq_take.1 (jjq _)).symm
theorem jbk(s:ByteArray):(jdu s).size<=s.size:=by
 rw[jiV,Zm,jiV]
 exact(jjq _).length_le
theorem XC(s:ByteArray)(w:World)(hs:s.size<=maxLen)(h:vu s.data.toList 58=true):
  Calls Tryz.prog 105 #[.string s,.string ⟨#[58]⟩] w fun e w'=>e=.returned (.tuple #[.string (jdu s),.string (jbl s),.bool true])/\∃n,w'=w.drewN n :=
 Ym s 58 w hs (by unfold vu at h;simpa using h)
theorem jey(s:ByteArray)(w:World)(h:vu s.data.toList 58=false):
  Calls Tryz.prog 105 #[.string s,.string ⟨#[58]⟩] w fun e w'=>e=.returned (.tuple #[.string s,.string ⟨#[]⟩,.bool false])/\∃n,w'=w.drewN n :=
 Ui s 58 w (by unfold vu at h;simpa using h)
theorem GQ(s:ByteArray)(hs:s.size<=maxLen)(w:World):
  Calls Tryz.prog 209 #[.string (jdu s)] w fun e w'=>e=.returned (.bool (jR (before s.data.toList)))/\w=w':=by
 have:=jbO (jdu s) (jiI (jbk s) hs) w
 rwa [Zm]at this
theorem qM(s:ByteArray)(hs:s.size<=maxLen)(w:World):
  Calls Tryz.prog 161 #[.string s] w fun e w'=>e=.returned (.int .i64 (jz s.data.toList:Nat))/\Below w.heap.size w w':=by
 have hs2:s.size<=9223372036854775807:=by unfold maxLen at hs;omega
 cases h1:vu s.data.toList 10 with
 | true =>
  have hk:jz s.data.toList=5:=by unfold jz;rw[if_pos h1]
  rw[hk];clear hk
  go_enter Tryz.func161,Tryz.ntmps161
  go_wp2_with (first | (go_at_call 206;refine(yt _ _ _).mono ?_;rw[h1];rintro e w1 ⟨rfl,rfl⟩))
  go_ret
  exact⟨rfl,jil _ _⟩
 | false =>
 cases h2:zh s.data.toList with
 | true =>
  have hk:jz s.data.toList=1:=by unfold jz;rw[h1,if_neg (by decide),if_pos h2]
  rw[hk];clear hk
  go_enter Tryz.func161,Tryz.ntmps161
  go_wp2_with (first | (go_at_call 206;refine(yt _ _ _).mono ?_;rw[h1];rintro e w1 ⟨rfl,rfl⟩) | (go_at_call 207;refine(Wb s hs2 h2 _).mono ?_;rintro e w1 ⟨rfl,b1⟩))
  go_ret
  exact⟨rfl,b1⟩
 | false =>
 obtain⟨t1,t2⟩:=Qu s h2
 have B1:=Vq s hs
 cases h3:Jc s.data.toList with
 | true =>
  have hk:jz s.data.toList=2:=by unfold jz;rw[h1,if_neg (by decide),h2,if_neg (by decide),if_pos h3]
  rw[hk];clear hk
  go_enter Tryz.func161,Tryz.ntmps161
  go_wp2_with (first | (go_at_call 206;refine(yt _ _ _).mono ?_;rw[h1];rintro e w1 ⟨rfl,rfl⟩) | (go_at_call 207;refine(Zi s hs2 _).mono ?_;rintro e w1 ⟨rfl,b1⟩) | (go_at_call 110;refine(vP _ _).mono ?_;rw[h3];rintro e w2 ⟨rfl,rfl⟩))
  go_ret
  exact⟨rfl,b1⟩
 | false =>
 cases h4:vg s.data.toList with
 | true =>
  have hk:jz s.data.toList=3:=by unfold jz;rw[h1,if_neg (by decide),h2,if_neg (by decide),h3,if_neg (by decide),if_pos h4]
  rw[hk];clear hk
  go_enter Tryz.func161,Tryz.ntmps161
  go_wp2_with (first | (go_at_call 206;refine(yt _ _ _).mono ?_;rw[h1];rintro e w1 ⟨rfl,rfl⟩) | (go_at_call 207;refine(Zi s hs2 _).mono ?_;rintro e w1 ⟨rfl,b1⟩) | (go_at_call 110;refine(vP _ _).mono ?_;rw[h3];rintro e w2 ⟨rfl,rfl⟩) | (go_at_call 208;refine(B1 _).mono ?_;rw[h4];rintro e w2 ⟨rfl,rfl⟩))
  go_ret
  exact⟨rfl,b1⟩
 | false =>
 cases h5:vu s.data.toList 58 with
 | false =>
  have hk:jz s.data.toList=5:=by unfold jz;rw[h1,if_neg (by decide),h2,if_neg (by decide),h3,if_neg (by decide),h4,if_neg (by decide),if_neg (by rw[h5];simp)]
  rw[hk];clear hk
  have C:=fun w=>jey s w h5
  go_enter Tryz.func161,Tryz.ntmps161
  go_wp2_with (first | (go_at_call 206;refine(yt _ _ _).mono ?_;rw[h1];rintro e w1 ⟨rfl,rfl⟩) | (go_at_call 207;refine(Zi s hs2 _).mono ?_;rintro e w1 ⟨rfl,b1⟩) | (go_at_call 110;refine(vP _ _).mono ?_;rw[h3];rintro e w2 ⟨rfl,rfl⟩) | (go_at_call 208;refine(B1 _).mono ?_;rw[h4];rintro e w2 ⟨rfl,rfl⟩) | (go_at_call 105;refine(C _).mono ?_;rintro e w2 ⟨rfl,n,rfl⟩))
  go_ret
  exact⟨rfl,Below.drewN b1 n⟩
 | true =>
 have C:=fun w=>XC s w hs h5
 have K:=GQ s hs
 have hk:jz s.data.toList=if jR (before s.data.toList)=true then 4 else 5:=by
  unfold jz;rw[h1,if_neg (by decide),h2,if_neg (by decide),h3,if_neg (by decide),h4,if_neg (by decide),h5];simp
 cases h6:jR (before s.data.toList)
 all_goals
  rw[h6]at hk
  rw[hk];clear hk
  go_enter Tryz.func161,Tryz.ntmps161
  go_wp2_with (first | (go_at_call 206;refine(yt _ _ _).mono ?_;rw[h1];rintro e w1 ⟨rfl,rfl⟩) | (go_at_call 207;refine(Zi s hs2 _).mono ?_;rintro e w1 ⟨rfl,b1⟩) | (go_at_call 110;refine(vP _ _).mono ?_;rw[h3];rintro e w2 ⟨rfl,rfl⟩) | (go_at_call 208;refine(B1 _).mono ?_;rw[h4];rintro e w2 ⟨rfl,rfl⟩) | (go_at_call 105;refine(C _).mono ?_;rintro e w2 ⟨rfl,n,rfl⟩) | (go_at_call 209;refine(K _).mono ?_;rw[h6];rintro e w3 ⟨rfl,rfl⟩))
  go_ret
  exact⟨rfl,Below.drewN b1 n⟩
theorem jeu(s:ByteArray)(hs:s.size<=maxLen)(h:jz s.data.toList=4)(w:World):
  Calls Tryz.prog 244 #[.string s] w fun e w'=>e=.returned (.tuple #[.string (jdu s),.string (jbl s),.bool true])/\Below w.heap.size w w':=by
 have h5:vu s.data.toList 58=true:=by
  unfold jz at h
  split at h;· cases h
  split at h;· cases h
  split at h;· cases h
  split at h;· cases h
  split at h
  ·rename_i q;exact q.1
  cases h
 have C:=fun w=>XC s w hs h5
 have K:=qM s hs
 rw[h]at K
 go_enter Tryz.func244,Tryz.ntmps244
 go_wp2_with (first | (go_at_call 161;refine(K _).mono ?_;rintro e w1 ⟨rfl,b1⟩) | (go_at_call 105;refine(C _).mono ?_;rintro e w2 ⟨rfl,n,rfl⟩))
 go_ret3
 exact⟨rfl,Below.drewN b1 n⟩
theorem jgY{l:List UInt8}(h:jz l=4):vu l 10=false/\vu l 58=true/\jR (before l)=true:=by
 unfold jz at h
 split at h;· cases h
 rename_i h10
 split at h;· cases h
 split at h;· cases h
 split at h;· cases h
 split at h
 ·rename_i q;exact⟨by simpa using h10,q.1,q.2⟩
 cases h
end Go.Proofs.YtimfhnfcmhmjcaaGreatDoor
