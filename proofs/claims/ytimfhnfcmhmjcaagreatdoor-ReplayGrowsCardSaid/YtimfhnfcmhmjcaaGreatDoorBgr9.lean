/- Texts put together:UA,UK,UB,UC,UD,UE. -/
import Derived.Test.YtimfhnfcmhmjcaaGreatDoorBgr8
set_option linter.unusedVariables false
set_option maxRecDepth 100000
set_option maxHeartbeats 16000000
namespace Go.Proofs.YtimfhnfcmhmjcaaGreatDoor
abbrev jja:=@List.mem_of_mem_drop
abbrev jjb:=@List.getElem?_drop
abbrev jjl:=@List.mem_of_mem_take
abbrev jjn:=@Go.World.cell?_of_block
abbrev jjw:=@List.filter_cons
abbrev jj8:=@List.getElem?_modify
abbrev jkt:=@List.find?_append
abbrev jkD:=@List.find?_cons
end Go.Proofs.YtimfhnfcmhmjcaaGreatDoor
namespace Go.Proofs.YtimfhnfcmhmjcaaGreatDoor
abbrev En:=It×Int
structure LS where
 es:List En
 next:Int
def xP{α:Type}(κ:α->Int):Nat->List α->List (Nat×α)
 | _,[]=>[]
 | k,e::r=>if κ e=3 then (k,e)::xP κ (k+1) r else xP κ (k+1) r
section
variable {α:Type} {κ:α->Int}
theorem JU:∀(k:Nat) (es:List α),(xP κ k es).length<=es.length
 | k,[]=>jij _
 | k,e::r=>by
  have ih:=JU (k+1) r
  show(if κ e=3 then (k,e)::xP κ (k+1) r else xP κ (k+1) r).length<=_
  split
  ·simp only[jin];omega
  simp only[jin];omega
theorem vG:∀(k:Nat) (es:List α) (x:Nat×α),x∈xP κ k es->k<=x.1/\es[x.1-k]?=some x.2/\κ x.2=3
 | k,[],x,h=>by cases h
 | k,e::r,x,h=>by
  have ih:=vG (k+1) r x
  have go:x∈xP κ (k+1) r->k<=x.1/\(e::r)[x.1-k]?=some x.2/\κ x.2=3:=fun q=>by
   obtain⟨a,b,c⟩:=ih q
   refine⟨by omega,?_,c⟩
   rw[show x.1-k=(x.1-(k+1))+1 by omega,jio];exact b
  unfold xP at h
  split at h
  ·rename_i hk
   rcases List.mem_cons.1 h with rfl|h
   ·exact⟨jij _,by simp,hk⟩
   exact go h
  exact go h
theorem YH:∀(es:List α) (k j:Nat) (e:α),es[j]?=some e->xP κ (k+j) (es.drop j)=if κ e=3 then (k+j,e)::xP κ (k+(j+1)) (es.drop (j+1)) else xP κ (k+(j+1)) (es.drop (j+1))
 | [],k,j,e,h=>by simp at h
 | a::r,k,0,e,h=>by simp at h;subst h;rfl
 | a::r,k,j+1,e,h=>by
  have ih:=YH r (k+1) j e (by simpa using h)
  rw[show k+1+j=k+(j+1) by omega,show k+1+(j+1)=k+(j+1+1) by omega]at ih
  exact ih
theorem JT{β:Type}(f:β->α):∀(k:Nat) (es:List β),(xP (fun b=>κ (f b)) k es).map (fun x=>(x.1,f x.2))=xP κ k (es.map f)
 | k,[]=>rfl
 | k,e::r=>by
  have ih:=JT f (k+1) r
  show((if κ (f e)=3 then (k,e)::xP _ (k+1) r else xP _ (k+1) r).map _)=if κ (f e)=3 then (k,f e)::xP κ (k+1) (r.map f) else xP κ (k+1) (r.map f)
  split
  ·rw[jiX,ih]
  exact ih
end
abbrev XZ:Nat->List En->List (Nat×En):=xP fun e=>e.1.kind
abbrev jhs(es:List En):List (Nat×En):=XZ 0 es
def jeb(es:List En)(id:Int):Option Nat:=((jhs es).find? fun x=>x.2.2==id).map Prod.fst
def Jg(es:List En)(id:Int):Option Nat:=if 0<id then es.findIdx? fun e=>e.2==id else none
def WF(es:List En):Prop:=∀e∈es,(e.1.kind=3/\0<e.2)\/(e.1.kind≠3/\e.2=0)
theorem jca:∀(k:Nat) (es:List En) (id:Int),WF es->0<id->((XZ k es).find? fun x=>x.2.2==id).map Prod.fst=(es.findIdx? fun e=>e.2==id).map (· + k)
 | k,[],id,_,_=>rfl
 | k,e::r,id,h,hid=>by
  have ih:=jca (k+1) r id (fun y hy=>h y (jir _ hy)) hid
  have he:=h e jis
  unfold xP
  rw[List.findIdx?_cons]
  by_cases hk:e.1.kind=3
  ·rw[if_pos hk,jkD]
   cases hq:e.2==id with
   | true=>simp
   | false =>
   simp only
   rw[ih]
   cases List.findIdx? (fun e=>e.2==id) r with
   | none=>rfl
   | some q=>simp;omega
  rw[if_neg hk]
  have h0:e.2=0:=by
   rcases he with he|he
   ·exact absurd he.1 hk
   exact he.2
  have hq:(e.2==id)=false:=by rw[h0];exact beq_eq_false_iff_ne.2 (by omega)
  rw[ih,hq]
  cases List.findIdx? (fun e=>e.2==id) r with
  | none=>rfl
  | some q=>simp;omega
theorem ZN:∀(k:Nat) (es:List En) (id:Int),WF es->id<=0->((XZ k es).find? fun x=>x.2.2==id)=none
 | k,[],id,_,_=>rfl
 | k,e::r,id,h,hid=>by
  have ih:=ZN (k+1) r id (fun y hy=>h y (jir _ hy)) hid
  have he:=h e jis
  unfold xP
  split
  ·rename_i hk
   have h0:0<e.2:=by
    rcases he with he|he
    ·exact he.2
    exact absurd hk he.1
   have hq:(e.2==id)=false:=beq_eq_false_iff_ne.2 (by omega)
   rw[jkD]
   simp only[hq]
   exact ih
  exact ih
theorem jcc{es:List En}(h:WF es)(id:Int):jeb es id=Jg es id:=by
 unfold jeb Jg
 split
 ·rename_i hid
  have:=jca 0 es id h hid
  rw[this]
  cases List.findIdx? (fun e=>e.2==id) es with
  | none=>rfl
  | some q=>rfl
 rename_i hid
 show Option.map _ ((XZ 0 es).find? _)=none
 rw[ZN 0 es id h (by omega)];rfl
def QZ(es:List En):Nat:=(es.filter fun e=>decide (0<e.2)).length
theorem xS:∀(k:Nat) (es:List En),WF es->(XZ k es).map Prod.snd=es.filter fun e=>decide (0<e.2)
 | k,[],_=>rfl
 | k,e::r,h=>by
  have ih:=xS (k+1) r (fun y hy=>h y (jir _ hy))
  unfold xP
  rw[jjw]
  rcases h e jis with ⟨a,b⟩|⟨a,b⟩
  ·rw[if_pos a,if_pos (by simpa using b),jiX,ih]
  rw[if_neg a,if_neg (by simp;omega),ih]
theorem jdJ{es:List En}(h:WF es):(jhs es).length=QZ es:=by
 have:=congrArg List.length (xS 0 es h)
 rw[jiQ]at this
 exact this
def VE(es:List En)(k:Nat)(it:It):List En:=es.modify k fun e=>(it,e.2)
def jar(es:List En)(k:Nat):List En:=es.take k++es.drop (k+1)
def Ke(es:List En)(k:Nat)(e:En):List En:=es.take k++e::es.drop k
theorem WF.set{es:List En}(h:WF es)(k:Nat)(it:It)(hk:it.kind=3)(e:En)(he:es[k]?=some e)(hn:e.1.kind=3):WF (VE es k it):=by
 intro x hx
 obtain⟨j,hj⟩:=List.mem_iff_getElem?.1 hx
 unfold VE at hj
 rw[jj8]at hj
 rcases hjj:es[j]? with _|y
 ·rw[hjj]at hj;simp at hj
 rw[hjj]at hj
 simp only[Option.map_eq_map,jkC,Option.some.injEq]at hj
 have hy:=h y (jiA hjj)
 by_cases e1:k=j
 ·rw[if_pos e1]at hj
  subst hj
  subst e1
  rw[he]at hjj
  cases hjj
  rcases h e (jiA he) with q|q
  ·exact .inl ⟨hk,q.2⟩
  exact absurd hn q.1
 rw[if_neg e1]at hj
 subst hj;exact hy
theorem WF.cut{es:List En}(h:WF es)(k:Nat):WF (jar es k):=by
 intro x hx
 rcases List.mem_append.1 hx with q|q
 ·exact h x (jjl q)
 exact h x (jja q)
theorem WF.put{es:List En}(h:WF es)(k:Nat){e:En}(he:(e.1.kind=3/\0<e.2)):WF (Ke es k e):=by
 intro x hx
 rcases List.mem_append.1 hx with q|q
 ·exact h x (jjl q)
 rcases List.mem_cons.1 q with rfl|q
 ·exact .inl he
 exact h x (jja q)
theorem jdg(es:List En)(k:Nat)(it:It):(VE es k it).length=es.length:=by unfold VE;simp
structure Did where
 ls:LS
 at_:Int
 bad:Nat
 id:Int
def zH(l:LS)(id:Int)(fs:List Fld):Did :=
 match Jg l.es id with
 | none=>⟨l,-9,7,0⟩
 | some k=>if qF fs=0 then ⟨⟨VE l.es k (zp fs),l.next⟩,-9,0,0⟩ else ⟨l,ZT fs,qF fs,0⟩
def qw(l:LS)(id:Int):Did :=
 match Jg l.es id with
 | none=>⟨l,-9,7,0⟩
 | some k=>⟨⟨jar l.es k,l.next⟩,-9,0,0⟩
def jgu(es:List En)(behind:Int):Option Nat:=if behind=0 then some 0 else (Jg es behind).map (· + 1)
def qi(l:LS)(behind:Int)(fs:List Fld):Did :=
 match jgu l.es behind with
 | none=>⟨l,-9,7,0⟩
 | some k=>if qF fs=0 then (if 400<=QZ l.es then ⟨l,-9,11,0⟩ else ⟨⟨Ke l.es k (zp fs,l.next),l.next+1⟩,-9,0,l.next⟩) else ⟨l,ZT fs,qF fs,0⟩
def yx(l:LS)(kind id:Int)(fs:List Fld):Did :=
 if kind=1 then zH l id fs else if kind=2 then qw l id else qi l id fs
theorem jea{es:List En}{id:Int}{k:Nat}(h:Jg es id=some k):k<es.length/\∃e,es[k]?=some e/\e.2=id/\0<id:=by
 unfold Jg at h
 split at h
 ·rename_i hid
  obtain⟨a,b,_⟩:=List.findIdx?_eq_some_iff_getElem.1 h
  exact⟨a,_,jim a,by simpa using b,hid⟩
 cases h
def zx:Int->List It->List En
 | _,[]=>[]
 | n,it::r=>if it.kind=3 then (it,n)::zx (n+1) r else (it,0)::zx n r
def jK:Int->List It->Int
 | n,[]=>n
 | n,it::r=>if it.kind=3 then jK (n+1) r else jK n r
def zP(its:List It):LS:=⟨zx 1 its,jK 1 its⟩
theorem ZK:∀(n:Int) (l:List It) (it:It),zx n (l++[it])=zx n l++[(it,if it.kind=3 then jK n l else 0)]/\jK n (l++[it])=if it.kind=3 then jK n l+1 else jK n l
 | n,[],it=>by
  simp only[jiZ,zx,jK]
  split<;>simp
 | n,a::l,it=>by
  obtain⟨h1,h2⟩:=ZK (n+1) l it
  obtain⟨g1,g2⟩:=ZK n l it
  simp only[jiz,zx,jK]
  split
  ·rw[h1,h2];exact⟨rfl,rfl⟩
  rw[g1,g2];exact⟨rfl,rfl⟩
theorem Zb:∀(n:Int) (l:List It),(zx n l).length=l.length
 | n,[]=>rfl
 | n,a::l=>by
  unfold zx
  split
  ·rw[jin,Zb];rfl
  rw[jin,Zb];rfl
theorem Je:∀(n:Int) (l:List It),(zx n l).map Prod.fst=l
 | n,[]=>rfl
 | n,a::l=>by
  unfold zx
  split
  ·rw[jiX,Je]
  rw[jiX,Je]
theorem xC:∀(n:Int) (l:List It),n<=jK n l/\jK n l<=n+l.length
 | n,[]=>by simp[jK]
 | n,a::l=>by
  have h1:=xC (n+1) l
  have h2:=xC n l
  unfold jK
  rw[jin]
  split<;>omega
theorem Kv:∀(n:Int) (l:List It),0<n->WF (zx n l)
 | n,[],_=>fun e h=>by cases h
 | n,a::l,hn=>by
  unfold zx
  split
  ·rename_i hk
   intro e he
   rcases List.mem_cons.1 he with rfl|he
   ·exact .inl ⟨hk,hn⟩
   exact Kv (n+1) l (by omega) e he
  rename_i hk
  intro e he
  rcases List.mem_cons.1 he with rfl|he
  ·exact .inr ⟨hk,rfl⟩
  exact Kv n l hn e he
end Go.Proofs.YtimfhnfcmhmjcaaGreatDoor
namespace Go.Proofs.YtimfhnfcmhmjcaaGreatDoor
open Go.RowKit Go.Shelf
def jcX{α:Type}(P:Program)(g:Nat)(lb:Array Value)(encs:α->Array Value)(k:Nat)(xs:List α)(K:World->Prop)(w:World):Prop :=
 ∀(l:Nat) (J Jx:List α->World->Prop) (W:World),Below w.heap.size w W->zo W.heap.size k J->(∀pre W,J pre W->K W) ->
  (∀pre x post W1,xs=pre++x::post->W.heap.size+k<=W1.heap.size->J pre W1->YieldAt Fence.wide 7 P l (encs x) W1 fun e W' =>
   (e=.returned (.bool true)/\J (pre++[x]) W'/\qC W.heap.size k W1 W')\/(e=.returned (.bool false)/\Jx (pre++[x]) W')) ->
  J [] W ->
  CallsIn Fence.wide 8 P g (#[.func (.yield l) #[] #[]]++lb) W fun e W'=>(∃v,e=.returned v)/\(J xs W'\/∃pre,pre <+: xs/\Jx pre W')
variable {P:Program}
theorem Uy{α:Type}{g:Operand}{ps:Array Tmp}{assign body:Code}{Q:Exit->Act->World->Prop}{a:Act}{w:World}
  {gf:Nat} {lb:Array Value} (hg:a.eval g=.func (.func gf) #[] lb) (eg:∀args w,(callFunc gf args).run P w=.ok (.enter gf args) w)
  {encs:α->Array Value} {k:Nat} {xs:List α} {K:World->Prop} (hseq:jcX P gf lb encs k xs K w) (hps:∀x,(encs x).size=ps.size)
  (I:List α->World->Prop) (Ix:Code->List α->World->Prop) (hI:zo w.heap.size (k+2) I) (hIx:∀c,zo w.heap.size 2 (Ix c)) (h0:I [] w) (hK:∀pre W,I pre W->K W)
  (M:List α->α->Act->World->Prop) (hM:∀pre x a',zo w.heap.size 2 (fun(_:Unit) W=>M pre x a' W))
  (hassign:∀(l:Nat) (pre:List α) (x:α) (post:List α) (W:World),xs=pre++x::post->w.heap.size+(k+2)<=W.heap.size->I pre W ->
   assign.wpIn (Fence.wide.inRound l) 7 P (Ze w.heap.size (k+2) (M pre x) W) {tmps:=(ps.zip (encs x)).foldl (fun t (p,v)=>t.setIfInBounds p v) a.tmps,defers:=[]} W)
  (hbody:∀(l:Nat) (pre:List α) (x:α) (post:List α) (a':Act) (W:World),xs=pre++x::post->w.heap.size+(k+2)<=W.heap.size->M pre x a' W ->
   body.wpIn (Fence.wide.inRound l) 7 P (left w.heap.size (k+2) I Ix (pre++[x]) W) a' W)
  (hdone:∀(W:World),I xs W->W.heap[w.heap.size]?=some (.deferred (some []))->Q .normal {a with defers:={target:=.collected w.heap.size,args:=#[]}::a.defers} W)
  (hstop:∀(c:Code) (pre:List α) (W:World),pre <+: xs->Ix c pre W->W.heap[w.heap.size]?=some (.deferred (some []))->c.wpIn Fence.wide 9 P Q {a with defers:={target:=.collected w.heap.size,args:=#[]}::a.defers} W) :
  (Code.rangeFunc g ps assign body).wpIn Fence.wide 9 P Q a w:=by
 refine wpIn_rangeFunc fun fn _ => ?_
 show ∃l mark w₁ d w₁' f args w₂,(Instr.enterLoop fn a.tmps ps assign body none).run P w=.ok (l,mark) w₁/\_
 obtain⟨rec,hrec⟩:∃rec:LoopState->Option Code->Loop,rec=fun st pe=>{state:=st,pending:=pe,fn,tmps:=a.tmps,params:=ps,assign,body,defers:=w.heap.size}:=⟨_,rfl⟩
 obtain⟨W1,hW1⟩:∃W1,(w.alloc (.deferred (some []))).alloc (.loop (rec .ready none))=W1:=⟨_,rfl⟩
 have hz1:W1.heap.size=w.heap.size+2:=by rw[<- hW1];simp
 have hL1:W1.heap[w.heap.size+1]?=some (.loop (rec .ready none)):=by
  rw[<- hW1];have:=jjI (w.alloc (.deferred (some []))) (.loop (rec .ready none));rwa [jiB]at this
 have hK1:W1.heap[w.heap.size]?=some (.deferred (some [])):=by
  rw[<- hW1];exact(jjv _ _ _ (by simp)).trans (jjI w _)
 have hI1:I [] W1:=by rw[<- hW1];exact hI.alloc _ (hI.alloc _ h0)
 have hb1:Below w.heap.size w W1:=by rw[<- hW1];exact((jil _ w).alloc (jij _) _).alloc (by simp) _
 have two:∀{A B:World},jS W1.heap.size k A B->∀q o,q<w.heap.size+2->A.heap[q]?=some o->B.heap[q]?=some o :=
  fun ht q o hq ho=>(ht.same q (Array.getElem?_eq_some_iff.1 ho).1 (by omega)).trans ho
 refine⟨w.heap.size+1,[{target:=.collected w.heap.size,args:=#[]}],W1,{target:=.fn (.func gf) lb,args:=#[.func (.yield (w.heap.size+1)) #[] #[]]},W1,gf,
  #[.func (.yield (w.heap.size+1)) #[] #[]]++lb,W1,?_,?_,fun _ _=>trivial,?_,(fun h=>by cases h),?_⟩
 ·rw[<- hW1,hrec];exact run_enterLoop_outer _ _ _ _ _
 ·simp only[resolve,hg]
  simp[go_sem]
 ·simp[invoke,go_sem,eg]
 refine(hseq (w.heap.size+1)
  (fun pre W=>I pre W/\W.heap[w.heap.size+1]?=some (.loop (rec .ready none))/\W.heap[w.heap.size]?=some (.deferred (some [])))
  (fun pre W=>∃c,Ix c pre W/\W.heap[w.heap.size+1]?=some (.loop (rec .done (some c)))/\W.heap[w.heap.size]?=some (.deferred (some [])))
  W1 hb1
  (fun s A B hs ht=>⟨hI s A B hs.1 (ht.sub (by omega) (by omega)),two ht _ _ (by omega) hs.2.1,two ht _ _ (by omega) hs.2.2⟩)
  (fun s A hs=>hK s A hs.1)
  ?_ ⟨hI1,hL1,hK1⟩).mono ?_
 ·
  rintro pre x post W hx hsz ⟨hi,hl,hk⟩
  rw[hz1]at hsz
  have hy:=run_yield (P:=P) (args:=encs x) hl (by rw[hrec];exact hps x)
  rw[hrec]at hy
  refine⟨fn,_,assign,body,hy,roundIn_of_wpIn trivial (wpIn_mono (hassign _ pre x post W hx (by omega) hi) ?_)⟩
  intro e a' Wa hp
  cases e with
  | normal =>
   obtain⟨hs1,hm⟩:=hp
   have hla:=(hs1.same (w.heap.size+1) (by omega) (by omega)).trans hl
   have hka:=(hs1.same w.heap.size (by omega) (by omega)).trans hk
   have hlt:=(Array.getElem?_eq_some_iff.1 hla).1
   refine⟨_,run_beginRound hla (by rw[hrec]),?_⟩
   have hl2:(Wa.putObj (w.heap.size+1) (.loop {rec .ready none with state:=.busy})).heap[w.heap.size+1]?=some (.loop {rec .ready none with state:=.busy}):=jjT hlt
   have hk2:(Wa.putObj (w.heap.size+1) (.loop {rec .ready none with state:=.busy})).heap[w.heap.size]?=some (.deferred (some [])):=(jiR (by omega)).trans hka
   have hn2:∀r,w.heap.size+2<=r->(Wa.putObj (w.heap.size+1) (.loop {rec .ready none with state:=.busy})).heap[r]?=Wa.heap[r]?:=fun r hr=>jiR (by omega)
   have hz2:∀o,(Wa.putObj (w.heap.size+1) o).heap.size=Wa.heap.size:=fun o=>by simp
   have hm2:=(hM pre x a').putObj (s:=()) (.loop {rec .ready none with state:=.busy}) hm (l:=w.heap.size+1) (by omega) (by omega)
   have hsa:=hs1.size
   refine wpIn_mono (hbody _ pre x post a' _ hx (by rw[hz2];omega) hm2) ?_
   have fin:∀(jump:Option Code) (W3:World),qC w.heap.size (k+2) (Wa.putObj (w.heap.size+1) (.loop {rec .ready none with state:=.busy})) W3 ->
     (Instr.endRound (w.heap.size+1) jump).run P W3=.ok (.bool jump.isNone) (W3.putObj (w.heap.size+1) (.loop (rec (if jump.isNone then .ready else .done) jump))) /\
     (W3.putObj (w.heap.size+1) (.loop (rec (if jump.isNone then .ready else .done) jump))).heap[w.heap.size+1]?=some (.loop (rec (if jump.isNone then .ready else .done) jump)) /\
     (W3.putObj (w.heap.size+1) (.loop (rec (if jump.isNone then .ready else .done) jump))).heap[w.heap.size]?=some (.deferred (some [])):=fun jump W3 hs3=>by
    have hl3:=(hs3.same (w.heap.size+1) (by omega) (by omega)).trans hl2
    have hk3:=(hs3.same w.heap.size (by omega) (by omega)).trans hk2
    have:=run_endRound (P:=P) jump hl3
    rw[hrec]at this ⊢
    exact⟨this,jjT (Array.getElem?_eq_some_iff.1 hl3).1,(jiR (by omega)).trans hk3⟩
   intro e a3 W3 hp
   cases e with
   | normal =>
    obtain⟨hs3,hi3⟩:=hp
    obtain⟨hr,hl4,hk4⟩:=fin none W3 hs3
    refine⟨_,_,hr,.inl ⟨rfl,⟨hI.putObj _ hi3 (by omega) (by omega),hl4,hk4⟩,?_⟩⟩
    have hsz3:=hs3.size
    refine⟨by simp only[World.putObj,Array.size_setIfInBounds]at hsz3 ⊢;omega,fun r a b => ?_⟩
    rw[hz1]at a b
    rw[jiR (by omega),hs3.same r (by omega) (by omega),hn2 r a,hs1.same r (by omega) (by omega)]
   | ret =>
    obtain⟨hs3,hi3⟩:=hp
    obtain⟨hr,hl4,hk4⟩:=fin (some .ret) W3 hs3
    exact⟨_,_,hr,.inr ⟨rfl,.ret,(hIx _).putObj _ hi3 (by omega) (by omega),hl4,hk4⟩⟩
   | exit id =>
    obtain⟨hs3,hi3⟩:=hp
    obtain⟨hr,hl4,hk4⟩:=fin (some (.exit id)) W3 hs3
    exact⟨_,_,hr,.inr ⟨rfl,.exit id,(hIx _).putObj _ hi3 (by omega) (by omega),hl4,hk4⟩⟩
   | goto t =>
    obtain⟨hs3,hi3⟩:=hp
    obtain⟨hr,hl4,hk4⟩:=fin (some (.goto t)) W3 hs3
    exact⟨_,_,hr,.inr ⟨rfl,.goto t,(hIx _).putObj _ hi3 (by omega) (by omega),hl4,hk4⟩⟩
   | panic ch=>exact hp.elim
   | outgrown=>exact hp.elim
  | ret=>exact hp.elim
  | exit id=>exact hp.elim
  | goto t=>exact hp.elim
  | panic ch=>exact hp.elim
  | outgrown=>exact hp.elim
 -- behind the iterator
 rintro e W2 ⟨⟨v,rfl⟩,(⟨hi,hl,hk⟩|⟨pre,hpre,c,hi,hl,hk⟩)⟩
 ·exact⟨none,_,by have:=run_endLoop (P:=P) hl (by rw[hrec];simp);rw[hrec]at this;exact this,hdone _ (hI.putObj _ hi (by omega) (by omega)) ((jiR (by omega)).trans hk)⟩
 exact⟨some c,_,by have:=run_endLoop (P:=P) hl (by rw[hrec];simp);rw[hrec]at this;exact this,hstop c pre _ hpre ((hIx c).putObj _ hi (by omega) (by omega)) ((jiR (by omega)).trans hk)⟩
theorem yO{α:Type}{g:Operand}{ps:Array Tmp}{assign body:Code}{Q:Exit->Act->World->Prop}{a:Act}{w:World}
  {gf:Nat} {lb:Array Value} (hg:a.eval g=.func (.func gf) #[] lb) (eg:∀args w,(callFunc gf args).run P w=.ok (.enter gf args) w)
  {encs:α->Array Value} {k:Nat} {xs:List α} {K:World->Prop} (hseq:jcX P gf lb encs k xs K w) (hps:∀x,(encs x).size=ps.size)
  (I:List α->World->Prop) (Ix:Code->List α->World->Prop) (hI:zo w.heap.size (k+2) I) (hIx:∀c,zo w.heap.size 2 (Ix c)) (h0:I [] w) (hK:∀pre W,I pre W->K W)
  (M:Act->List α->α->Act->World->Prop) (hM:∀a pre x a',zo w.heap.size 2 (fun(_:Unit) W=>M a pre x a' W))
  (hassign:∀(l:Nat) (pre:List α) (x:α) (post:List α) (W:World),xs=pre++x::post->w.heap.size+(k+2)<=W.heap.size->I pre W ->
   assign.wpIn (Fence.wide.inRound l) 7 P (Ze w.heap.size (k+2) (M a pre x) W) {tmps:=(ps.zip (encs x)).foldl (fun t (p,v)=>t.setIfInBounds p v) a.tmps,defers:=[]} W)
  (hbody:∀(l:Nat) (pre:List α) (x:α) (post:List α) (a':Act) (W:World),xs=pre++x::post->w.heap.size+(k+2)<=W.heap.size->M a pre x a' W ->
   body.wpIn (Fence.wide.inRound l) 7 P (left w.heap.size (k+2) I Ix (pre++[x]) W) a' W)
  (hdone:∀(W:World),I xs W->W.heap[w.heap.size]?=some (.deferred (some []))->Q .normal {a with defers:={target:=.collected w.heap.size,args:=#[]}::a.defers} W)
  (hstop:∀(c:Code) (pre:List α) (W:World),pre <+: xs->Ix c pre W->W.heap[w.heap.size]?=some (.deferred (some []))->c.wpIn Fence.wide 9 P Q {a with defers:={target:=.collected w.heap.size,args:=#[]}::a.defers} W) :
  (Code.rangeFunc g ps assign body).wpIn Fence.wide 9 P Q a w :=
 Uy hg eg hseq hps I Ix hI hIx h0 hK (M a) (hM a) hassign hbody hdone hstop
abbrev Pr:=En×Value
def zf(p:Pr):List Value:=[.int .i64 p.1.1.kind,.string (B p.1.1.raw),p.2,.int .i64 p.1.2]
def jj(ps:List Pr):List Value:=ps.flatMap zf
theorem xE(ps:List Pr)(p:Pr):jj (ps++[p])=jj ps++zf p:=by unfold jj;simp
theorem ve(ps qs:List Pr):jj (ps++qs)=jj ps++jj qs:=by unfold jj;simp
theorem qN:∀(ps:List Pr) (k:Nat),jj (ps.take k)=(jj ps).take (k*4)
 | [],k=>by simp[jj]
 | p::r,0=>by simp[jj]
 | p::r,k+1=>by
  have ih:=qN r k
  have e:jj (p::r)=zf p++jj r:=rfl
  rw[jke,e,show jj (p::r.take k)=zf p++jj (r.take k) from rfl,ih,jj6]
  have hl:(zf p).length=4:=rfl
  rw[hl,ji2 (l:=zf p) (by rw[hl];omega),show(k+1)*4-4=k*4 by omega]
theorem qO:∀(ps:List Pr) (k:Nat),jj (ps.drop k)=(jj ps).drop (k*4)
 | [],k=>by simp[jj]
 | p::r,0=>by simp
 | p::r,k+1=>by
  have ih:=qO r k
  have e:jj (p::r)=zf p++jj r:=rfl
  have hl:(zf p).length=4:=rfl
  rw[List.drop_succ_cons,e,ih,List.drop_append,hl,jjf (l:=zf p) (by rw[hl];omega),show(k+1)*4-4=k*4 by omega,jiZ]
theorem yZ:∀(ps:List Pr) (i:Nat) (p:Pr),ps[i]?=some p->∀j u,(zf p)[j]?=some u->(jj ps)[i*4+j]?=some u
 | [],i,p,h=>by simp at h
 | q::r,0,p,h=>by
  simp at h;subst h
  intro j u hj
  have e:jj (q::r)=zf q++jj r:=rfl
  rw[e,Nat.zero_mul,jiP,jiH (by have:=(List.getElem?_eq_some_iff.1 hj).1;exact this)]
  exact hj
 | q::r,i+1,p,h=>by
  intro j u hj
  have ih:=yZ r i p (by simpa using h) j u hj
  have e:jj (q::r)=zf q++jj r:=rfl
  have hl:(zf q).length=4:=rfl
  rw[e,jiE (by rw[hl];omega),hl,show(i+1)*4+j-4=i*4+j by omega]
  exact ih
theorem Xv{ps:List Pr}(h:∀p∈ps,p.2.oneCell'=true):∀u∈jj ps,u.oneCell'=true:=by
 intro u hu
 obtain⟨p,hp,hu⟩:=List.mem_flatMap.1 hu
 unfold zf at hu
 simp at hu
 rcases hu with rfl|rfl|rfl|rfl
 ·rfl
 ·rfl
 ·exact h p hp
 rfl
def xk(w:World)(v:Value)(fs:List Fld):Prop:=yH w v fs/\∀n c,v=.slice none n c->c=0
theorem xk.below{w w':World}{v:Value}{fs:List Fld}{n:Nat}(h:xk w v fs)(hb:Below n w w')(hn:w.heap.size<=n):xk w' v fs:=⟨h.1.below hb hn,h.2⟩
theorem xk.form{w:World}{v:Value}{fs:List Fld}(h:xk w v fs):∃A c,v=.slice A fs.length c:=by
 obtain⟨A,c,e,_⟩:=h.1
 exact⟨A,c,e⟩
theorem xk.own{w:World}{base:Nat}{v:Value}{fs:List Fld}(h:w.ownsRow base 155 2 v fs.length (js fs)):xk w v fs :=
 ⟨vR h,fun n c e=>by
  rcases h.2 with ⟨q,_⟩|⟨g,cap,cur,q,_⟩
  ·rw[q]at e;cases e;rfl
  rw[q]at e;cases e⟩
structure Jq(w:World)(v:Value)(ps:List Pr):Prop where
 row:w.ownsRow 0 113 4 v ps.length (jj ps)
 each:∀p∈ps,xk w p.2 p.1.1.fields
theorem Jq.below{w w':World}{v:Value}{ps:List Pr}{n:Nat}(h:Jq w v ps)(hb:Below n w w')(hn:w.heap.size<=n):Jq w' v ps :=
 ⟨zl h.row hb hn,fun p hp=>(h.each p hp).below hb hn⟩
theorem Jq.here{w:World}{v:Value}{ps:List Pr}(h:Jq w v ps){i:Nat}{p:Pr}(hi:ps[i]?=some p):∃g cap A c,v=.slice (some ⟨g,0,none⟩) ps.length cap/\ps.length<=cap/\g<w.heap.size/\p.2=.slice A p.1.1.fields.length c /\
  w.cell? ⟨g,i*4,none⟩=some (.int .i64 p.1.1.kind)/\w.cell? ⟨g,i*4+1,none⟩=some (.string (B p.1.1.raw))/\w.cell? ⟨g,i*4+1+1,none⟩=some p.2/\w.cell? ⟨g,i*4+1+1+1,none⟩=some (.int .i64 p.1.2):=by
 have hlt:i<ps.length:=(List.getElem?_eq_some_iff.1 hi).1
 obtain⟨A,c,hA⟩:=(h.each p (jiA hi)).form
 have hr:=h.row
 rcases h.row.2 with ⟨_,hn⟩|⟨g,cap,cur,e,_,hg,hle,_⟩
 ·omega
 rw[e]at hr
 have at_:=yZ ps i p hi
 refine⟨g,cap,A,c,e,hle,(jjr hr g rfl).2,hA,?_,?_,?_,?_⟩
 ·rw[jiG hr (i*4) (by omega)];exact at_ 0 _ rfl
 ·rw[jiG hr (i*4+1) (by omega)];exact at_ 1 _ rfl
 ·rw[jiG hr (i*4+1+1) (by omega)];exact at_ 2 _ rfl
 rw[jiG hr (i*4+1+1+1) (by omega)];exact at_ 3 _ rfl
theorem Jq.empty{w:World}{v:Value}{ps:List Pr}(h:Jq w v ps):∃A cap,v=.slice A ps.length cap/\ps.length<=cap:=by
 rcases h.row.2 with ⟨e,hn⟩|⟨g,cap,cur,e,_,hg,hle,_⟩
 ·exact⟨none,0,by rw[e,hn],by omega⟩
 exact⟨_,cap,e,hle⟩
def Xt(p:Pr):Value:=.agg #[.int .i64 p.1.1.kind,.string (B p.1.1.raw),p.2,.int .i64 p.1.2]
abbrev yJ:Nat->List Pr->List (Nat×Pr):=xP fun p=>p.1.1.kind
theorem jb2(v:Value)(w:World)(A:Option Addr)(n c:Nat)(hv:v=.slice A n c):
  Calls Tryz.prog 82 #[v] w fun e w'=>e=.returned (.func (.func 142) #[] #[.pointer (some ⟨w.heap.size+1,0,none⟩),.pointer (some ⟨w.heap.size,0,none⟩)]) /\
   w'=(w.alloc (.cells #[v] 100)).alloc (.cells #[.int .i64 0] 3):=by
 subst hv
 go_enter Tryz.func82,Tryz.ntmps82
 go_wp2
 go_ret
 exact⟨rfl,rfl⟩
def jhS(ps:List Pr)(n:Nat)(Bn:Nat)(w:World)(e:Ending)(w':World):Prop :=
 ∃n',Boxed w' Bn 3 (.int .i64 (n':Nat))/\jB (· = Bn) w w'/\n'<=ps.length /\
  ((e=.returned (.tuple #[.int .i64 0,.bool false])/\yJ n (ps.drop n)=[]) \/
   ∃k p,n<=k/\n'=k+1/\e=.returned (.tuple #[.int .i64 (k:Nat),.bool true])/\ps[k]?=some p/\yJ n (ps.drop n)=(k,p)::yJ n' (ps.drop n'))
theorem jby(ps:List Pr)(v:Value)(n Bn Be:Nat)(w:World)(hn:n<=ps.length)(hps:ps.length<=1000000)(hbn:Boxed w Bn 3 (.int .i64 (n:Nat)))(hbe:Boxed w Be 100 v)(hne:Be≠Bn)(hE:Jq w v ps)(hg:∀g,v.ownBlock=some g->g≠Bn):
  Calls Tryz.prog 142 #[.pointer (some ⟨Bn,0,none⟩),.pointer (some ⟨Be,0,none⟩)] w fun e w'=>jhS ps n Bn w e w':=by
 obtain⟨A,cap,rfl,hle⟩:=hE.empty
 have HE:=jii hE
 have HG:=jii hg
 have HBE:=jii hbe
 have HN:=jii hne
 have HBN:=jii hbn
 clear hE hg hbe hbn
 go_enter Tryz.func142,Tryz.ntmps142
 go_wp2_with fail
 go_loopw [4] (fun _ wr=>∃k:Nat,n<=k/\k<=ps.length/\Boxed wr Bn 3 (.int .i64 (k:Nat))/\jB (· = Bn) w wr/\yJ n (ps.drop n)=yJ k (ps.drop k)) (fun _ wr=>ps.length-jhk Bn wr)
 case atStart=>exact⟨n,jij _,hn,HBN.out,jB.refl _ _,rfl⟩
 case round =>
 obtain⟨k,hk1,hk2,hb,ho,hs⟩:=hrel
 have c0:=hb.cell
 have f0:=hb.frozen
 have c1:wr.cell? ⟨Be,0,none⟩=some (.slice A ps.length cap):=Boxed.cell (show Boxed wr Be _ _ from(ho.same Be HBE.out.lt HN.out).trans HBE.out)
 have HB:=jii hb
 have HO:=jii ho
 have HS:=jii hs
 have hk3:k<=1000000:=by omega
 clear hb ho hs
 by_cases hlt:k<ps.length
 ·obtain⟨p,hp⟩:∃p,ps[k]?=some p:=⟨_,jim hlt⟩
  obtain⟨g,cap',pa,pc,e,_,hgl,_,d0,_⟩:=HE.out.here hp
  cases e
  have hgn:g≠Bn:=HG.out g rfl
  replace d0:wr.cell? ⟨g,k*4,none⟩=some (.int .i64 p.1.1.kind):=(jjn (w:=w) (a:=⟨g,k*4,none⟩) (HO.out.same g hgl hgn)).trans d0
  have hbe2:Be≠Bn:=HN.out
  have SD:=jii (YH (κ:=fun p:Pr=>p.1.1.kind) ps 0 k p hp)
  have HP:=jii hp
  clear hp
  by_cases hk:p.1.1.kind=3
  ·rw[hk]at d0
   go_wp2_with fail
   go_ret2
   refine⟨k+1,?_,HO.out.cellS 0 _,hlt,.inr ⟨k,p,hk1,rfl,rfl,HP.out,?_⟩⟩
   ·exact jjg _ HB.out
   rw[HS.out]
   have:=SD.out
   rw[if_pos hk,jiP,jiP]at this
   exact this
  have hk':((p.1.1.kind:Int)==3)=false:=beq_eq_false_iff_ne.2 hk
  go_wp2_with fail
  go_roundw
  case rel =>
   refine⟨k+1,by omega,hlt,jjg _ HB.out,HO.out.cellS 0 _,?_⟩
   rw[HS.out]
   have:=SD.out
   rw[if_neg hk,jiP,jiP]at this
   exact this
  case measure =>
  rw[Jm HB.out,Jm (B:=Bn) (n:=k+1) (w:=wr.setCell ⟨Bn,0,none⟩ (.int .i64 ((k:Int)+1))) (jjg (.int .i64 ((k:Int)+1)) HB.out)]
  omega
 obtain rfl:k=ps.length:=by omega
 go_wp2_with fail
 go_ret2
 refine⟨ps.length,HB.out,HO.out,jij _,.inl ⟨rfl,?_⟩⟩
 rw[HS.out,jjf (jij _)];rfl
end Go.Proofs.YtimfhnfcmhmjcaaGreatDoor
namespace Go.Proofs.YtimfhnfcmhmjcaaGreatDoor
open Go.RowKit Go.Shelf
attribute [local go_sem] jit
theorem VB(v:Value)(w:World)(A:Option Addr)(n c:Nat)(hv:v=.slice A n c):
  Calls Tryz.prog 46 #[v] w fun e w'=>e=.returned (.func (.func 81) #[] #[.pointer (some ⟨w.heap.size,0,none⟩)])/\w'=w.alloc (.cells #[v] 100):=by
 subst hv
 go_enter Tryz.func46,Tryz.ntmps46
 go_wp2
 go_ret
 exact⟨rfl,rfl⟩
theorem Zj(ps:List Pr)(v:Value)(Be:Nat)(w:World)(hbox:Boxed w Be 100 v)(hps:ps.length<=1000000)(hE:Jq w v ps):
  jcX Tryz.prog 81 #[.pointer (some ⟨Be,0,none⟩)] (fun x=>#[.int .i64 (x.1:Nat),Xt x.2]) 2 (yJ 0 ps) (fun W=>Jq W v ps/\Boxed W Be 100 v) w:=by
 intro l J Jx W hW hJ hK hY h0
 have hb:Boxed W Be 100 v:=(hW.block Be hbox.lt).trans hbox
 have hEW:=hE.below hW (jij _)
 have hgw:∀g,v.ownBlock=some g->g<W.heap.size:=fun g e=>(hEW.row.lt g e).2
 obtain⟨A,cap,hv,hle⟩:=hE.empty
 have c0:=hb.cell
 have hbw:=hb.lt
 have FR:=callsIn_wide (n:=7).2 (jb2 v W A ps.length cap hv)
 have HV:=jii hv
 have HE0:=jii hEW
 clear hE hEW hv
 refine callsIn_of_wp Tryz.func81 rfl trivial ?_ rfl
 simp only[Tryz.ntmps81,ji5,jin,jiJ,Nat.reduceAdd,Nat.reduceSub,ji3,ji4,jje,ji6,jiZ,jiz]
 gi_wp2_with (refine⟨trivial,?_⟩;gi_at_call 82;refine FR.mono ?_;rintro e w' ⟨rfl,rfl⟩)
 gi_loopw [4,5] (fun _ _ wr=>∃(pre:List (Nat×Pr)) (n:Nat),n<=ps.length/\yJ 0 ps=pre++yJ n (ps.drop n)/\Boxed wr W.heap.size 100 v/\Boxed wr (W.heap.size+1) 3 (.int .i64 (n:Nat))/\J pre wr)
  (fun _ _ wr=>ps.length-jhk (W.heap.size+1) wr)
 case atStart =>
  refine⟨[],0,jiD _,rfl,?_,?_,hJ.alloc _ (hJ.alloc _ h0)⟩
  ·exact(jjs W _ _).alloc _
  have:=jjs (W.alloc (.cells #[v] 100)) 3 (.int .i64 0)
  rw[jiB]at this;exact this
 case round =>
 obtain⟨pre,n,hn,hx,b1,b2,hj⟩:=hrel
 obtain⟨hE1,hb1⟩:=hK _ _ hj
 have NX0:=jby ps v n (W.heap.size+1) W.heap.size wr hn hps b2 b1 (by omega) hE1 (fun g e=>by have:=hgw g e;omega)
 have HX:=jii hx
 have HE1:=jii hE1
 have HB1:=jii hb1
 have B1:=jii b1
 have B2:=jii b2
 clear hE1 hb1 hx b1 b2
 have turn:∀(w':World),jB (· = W.heap.size+1) wr w'->jS W.heap.size 2 wr w':=fun w' ho=>⟨ho.os,ho.tape,ho.output,ho.size,fun r a b=>ho.same r a (by omega)⟩
 cases hq:yJ n (ps.drop n) with
 | nil =>
  have NX:=callsIn_wide (n:=7).2 (NX0.mono (R':=fun e w'=>e=.returned (.tuple #[.int .i64 0,.bool false])/\jB (· = W.heap.size+1) wr w') (by
   rintro e w' ⟨n',b2',ho,hn',(⟨rfl,hs⟩|⟨k,p,hk,hk2,rfl,hp,hs⟩)⟩
   ·exact⟨rfl,ho⟩
   rw[hs]at hq;cases hq))
  have HQ:=jii hq
  clear NX0 hq
  gi_wp2_with (refine⟨trivial,?_⟩;gi_at_call 142;refine NX.mono ?_;clear NX;rintro e w' ⟨rfl,ho⟩)
  refine⟨fun _ h=>(by cases h),?_⟩
  gi_wp2
  refine bodyPost_ret (results_none rfl _ _ _) rfl ⟨⟨_,rfl⟩,.inl ?_⟩
  have e0:yJ 0 ps=pre:=by rw[HX.out,HQ.out,jiO]
  rw[e0]
  exact hJ _ _ _ hj (turn _ ho)
 | cons x post =>
 obtain⟨k,p⟩:=x
 have NX:=callsIn_wide (n:=7).2 (NX0.mono (R':=fun e w'=>e=.returned (.tuple #[.int .i64 (k:Nat),.bool true])/\jB (· = W.heap.size+1) wr w'/\n<=k/\k<ps.length/\Boxed w' (W.heap.size+1) 3 (.int .i64 (k+1:Nat))/\ps[k]?=some p/\post=yJ (k+1) (ps.drop (k+1))) (by
  rintro e w' ⟨n',b2',ho,hn',(⟨rfl,hs⟩|⟨k',p',hk,hk2,rfl,hp,hs⟩)⟩
  ·rw[hs]at hq;cases hq
  rw[hs]at hq
  cases hq
  subst hk2
  exact⟨rfl,ho,hk,hn',b2',hp,rfl⟩))
 have HQ:=jii hq
 have hpk:ps[k]?=some p:=by
  have:=(vG n (ps.drop n) (k,p) (by rw[show xP (fun p:Pr=>p.1.1.kind) n (ps.drop n)=_ from hq];exact jis)).2.1
  have h2:=(vG n (ps.drop n) (k,p) (by rw[show xP (fun p:Pr=>p.1.1.kind) n (ps.drop n)=_ from hq];exact jis)).1
  rw[jjb,show n+((k,p).1-n)=k by simp only at h2 ⊢;omega]at this
  exact this
 have hkl0:=(List.getElem?_eq_some_iff.1 hpk).1
 obtain⟨g,cap',pa,pc,e1,_,hg,e2,d0,d1,d2,d3⟩:=HE1.out.here hpk
 have q0:wr.cell? ⟨Be,0,none⟩=some v:=HB1.out.cell
 have hgw':=hgw g (by rw[e1];rfl)
 rw[e2]at d2
 rw[e1]at q0
 have JO:∀(w':World),jB (· = W.heap.size+1) wr w'->w'.cell? ⟨Be,0,none⟩=some (.slice (some ⟨g,0,none⟩) ps.length cap')/\w'.cell? ⟨g,k*4,none⟩=some (.int .i64 p.1.1.kind)/\w'.cell? ⟨g,k*4+1,none⟩=some (.string (B p.1.1.raw))/\w'.cell? ⟨g,k*4+1+1,none⟩=some (.slice pa p.1.1.fields.length pc)/\w'.cell? ⟨g,k*4+1+1+1,none⟩=some (.int .i64 p.1.2):=fun w' ho =>
  ⟨(jjn (w:=wr) (a:=⟨Be,0,none⟩) (ho.same Be HB1.out.lt (by omega))).trans q0,(jjn (w:=wr) (a:=⟨g,k*4,none⟩) (ho.same g hg (by omega))).trans d0,(jjn (w:=wr) (a:=⟨g,k*4+1,none⟩) (ho.same g hg (by omega))).trans d1,(jjn (w:=wr) (a:=⟨g,k*4+1+1,none⟩) (ho.same g hg (by omega))).trans d2,(jjn (w:=wr) (a:=⟨g,k*4+1+1+1,none⟩) (ho.same g hg (by omega))).trans d3⟩
 have MV:=jii JO
 have T:=jii turn
 have E1:=jii e1
 have E2:=jii e2
 have HPK:=jii hpk
 clear NX0 hq JO d0 d1 d2 d3 e1 e2 q0 hpk turn
 gi_wp2_with (refine⟨trivial,?_⟩;gi_at_call 142;refine NX.mono ?_;clear NX;rintro e w' ⟨rfl,ho,hk,hkl,b2',hp,hpost⟩;obtain⟨m0,m1,m2,m3,m4⟩:=MV.out _ ho;clear hp;have HPO:=jii hpost;clear hpost)
 have jw:J pre w':=hJ _ _ _ hj (T.out _ ho)
 have hz:=ho.size
 have hz1:=B1.out.lt
 have hz2:=B2.out.lt
 have hxp:yJ 0 ps=pre++(k,p)::post:=by rw[HX.out,HQ.out]
 obtain⟨fn,tmps,assign,body,hy,hR⟩:=hY pre (k,p) post w' hxp (by omega) jw
 dsimp only[Xt]at hy
 rw[E2.out]at hy
 rw[hy,Oper.uponIn_round]
 refine⟨fun h=>(by cases h),hR.mono ?_⟩
 clear hR hy
 rintro e W3 (⟨rfl,hJ3,hk3⟩|⟨rfl,hJx3⟩)
 ·gi_wp2
  go_roundw
  case rel =>
   refine⟨pre++[(k,p)],k+1,hkl,?_,?_,?_,hJ3⟩
   ·rw[hxp,HPO.out,jix,jjY]
   ·exact(hk3.same _ (by omega) (by omega)).trans ((ho.same _ hz1 (by omega)).trans B1.out)
   exact(hk3.same _ (by omega) (by omega)).trans b2'
  case measure =>
  rw[Jm B2.out,Jm (B:=W.heap.size+1) (w:=W3) (n:=k+1) ((hk3.same _ (by omega) (by omega)).trans b2')]
  omega
 gi_wp2
 refine bodyPost_ret (results_none rfl _ _ _) rfl ⟨⟨_,rfl⟩,.inr ⟨_,⟨post,?_⟩,hJx3⟩⟩
 rw[hxp,jix,jjY]
structure LR(w:World)(lb:Nat)(ev:Value)(ps:List Pr)(nx:Int):Prop where
 head:ja w lb 102 #[ev,.int .i64 (nx-1)]
 ents:Jq w ev ps
theorem LR.below{w w':World}{lb:Nat}{ev:Value}{ps:List Pr}{nx:Int}{n:Nat}(h:LR w lb ev ps nx)(hb:Below n w w')(hn:w.heap.size<=n):LR w' lb ev ps nx :=
 ⟨h.head.below hb (jiF h.head.lt hn),h.ents.below hb hn⟩
abbrev ptr(b:Nat):Value:=.pointer (some ⟨b,0,none⟩)
theorem jgn(lb:Nat)(ev:Value)(ps:List Pr)(nx:Int)(w:World)(h:LR w lb ev ps nx):
  Calls Tryz.prog 47 #[ptr lb] w fun e w'=>e=.returned ev/\w=w':=by
 obtain⟨A,cap,rfl,hle⟩:=h.ents.empty
 have c0:w.cell? ⟨lb,0,none⟩=some (.slice A ps.length cap):=h.head.cell 0
 clear h
 unfold ptr
 go_enter Tryz.func47,Tryz.ntmps47
 go_wp2_with fail
 go_ret
 exact⟨rfl,rfl⟩
def yc(ps:List Pr)(id:Int):Option Nat:=((yJ 0 ps).find? fun x=>x.2.1.2==id).map Prod.fst
def JE(o:Option Nat):Value:=match o with | none=>.tuple #[.int .i64 0,.bool false] | some k=>.tuple #[.int .i64 (k:Nat),.bool true]
def jcZ(w:World)(l v:Value)(ps:List Pr):Prop:=Jq w v ps/\Calls Tryz.prog 47 #[l] w fun e w'=>e=.returned v/\w=w'
theorem jcZ.of{w:World}{lb:Nat}{ev:Value}{ps:List Pr}{nx:Int}(h:LR w lb ev ps nx):jcZ w (ptr lb) ev ps:=⟨h.ents,jgn lb ev ps nx w h⟩
theorem jcb{ps:List Pr}{id:Int}(h:∀y∈yJ 0 ps,y.2.1.2≠id):yc ps id=none:=by
 unfold yc
 rw[List.find?_eq_none.2 (fun x hx=>by simpa using h x hx)];rfl
theorem jb9{ps:List Pr}{id:Int}{pre post:List (Nat×Pr)}{x:Nat×Pr}(h:yJ 0 ps=pre++x::post)(h1:∀y∈pre,y.2.1.2≠id)(h2:x.2.1.2=id):yc ps id=some x.1:=by
 unfold yc
 rw[h,jkt,List.find?_eq_none.2 (fun y hy=>by simpa using h1 y hy),List.find?_cons_of_pos (by simpa using h2)];rfl
theorem jeT{W:World}{Bx:Nat}{p:Pr}(h:ja W Bx 113 #[.int .i64 p.1.1.kind,.string (B p.1.1.raw),p.2,.int .i64 p.1.2]):W.cell? ⟨Bx,0,none⟩=some (.int .i64 p.1.1.kind)/\W.cell? ⟨Bx,1,none⟩=some (.string (B p.1.1.raw))/\W.cell? ⟨Bx,2,none⟩=some p.2/\W.cell? ⟨Bx,3,none⟩=some (.int .i64 p.1.2) :=
 ⟨h.cell 0,h.cell 1,h.cell 2,h.cell 3⟩
theorem jce{Q:Ending->World->Prop}(w W:World)(v e:Value)(tmps:Array Value)(hv1:v.oneCell'=true)(he1:e.oneCell'=true)(h4:Boxed W (w.heap.size+1) 3 v)(h5:Boxed W (w.heap.size+1+1) 4 e)(hB:Below w.heap.size w W)
  (hK:W.heap[w.heap.size+4]?=some (.deferred (some []))) (t4:tmps[4]?=some (.pointer (some ⟨w.heap.size+1,0,none⟩))) (t5:tmps[5]?=some (.pointer (some ⟨w.heap.size+1+1,0,none⟩)))
  (hQ:∀W',Below w.heap.size w W'->Q (.returned (.tuple #[v,e])) W') :
  bodyPostM Fence.wide 9 Tryz.prog Tryz.f70 Q .ret {tmps:=tmps,defers:=[{target:=.collected (w.heap.size+4),args:=#[]}]} W:=by
 have p1:=grownBy_putObj' W (w.heap.size+4) (.deferred none)
 have r4:Boxed (W.putObj (w.heap.size+4) (.deferred none)) (w.heap.size+1) 3 v:=(p1.block _ h4.lt (fun e=>by have:=jip e;omega)).trans h4
 have r5:Boxed (W.putObj (w.heap.size+4) (.deferred none)) (w.heap.size+1+1) 4 e:=(p1.block _ h5.lt (fun e=>by have:=jip e;omega)).trans h5
 have c4:=r4.cell
 have c5:=r5.cell
 refine⟨by simp,.inl ⟨_,_,rfl,run_takeDeferred hK,?_⟩⟩
 exact⟨.tuple #[v,e],by simp[results,Tryz.f70,go_sem,t4,t5,c4,c5],hQ _ (hB.trans (belowK_b (w:=w) (jij _) W _ _ _ (by omega) hK rfl rfl))⟩
theorem jd9(ps:List Pr)(v:Value)(q:Option Addr)(id:Int)(w:World)(hl:∀W,Below w.heap.size w W->jcZ W (.pointer q) v ps)(hps:ps.length<=1000000):
  Calls Tryz.prog 70 #[.pointer q,.int .i64 id] w fun e w'=>e=.returned (JE (yc ps id))/\Below w.heap.size w w':=by
 obtain⟨A,cap,hv,hle⟩:=(hl w (jil _ _)).1.empty
 have ALL:=jii (fun W hB=>callsIn_wide (n:=8).2 (hl W hB).2)
 have HE:=jii (fun W hB=>(hl W hB).1)
 have ST:=jii (fun W=>callsIn_wide (n:=8).2 (VB v W A ps.length cap hv))
 have HV:=jii hv
 clear hl hv
 refine callsIn_wide (n:=9).1 ?_
 refine callsIn_of_wp_marks Tryz.func70 rfl trivial ?_ rfl
 simp only[Tryz.ntmps70,ji5,jin,jiJ,Nat.reduceAdd,Nat.reduceSub,ji3,ji4,jje,ji6,jiZ,jiz]
 gi_wp2_with fail
 have hb0:Below w.heap.size w (((w.alloc (.cells #[.int .i64 id] 3)).alloc (.cells #[.int .i64 0] 3)).alloc (.cells #[.bool false] 4)):=(((jil _ w).alloc (jij _) _).alloc (by simp) _).alloc (by simp;omega) _
 refine⟨trivial,(ALL.out _ hb0).mono ?_⟩
 rintro e w1 ⟨rfl,rfl⟩
 gi_wp2_with fail
 refine⟨trivial,(ST.out _).mono ?_⟩
 rintro e w1 ⟨rfl,rfl⟩
 gi_wp2_with fail
 obtain⟨w1,hw1⟩:∃w1,w1=((((w.alloc (.cells #[.int .i64 id] 3)).alloc (.cells #[.int .i64 0] 3)).alloc (.cells #[.bool false] 4)).alloc (.cells #[v] 100)):=⟨_,rfl⟩
 have hz:w1.heap.size=w.heap.size+4:=by rw[hw1];simp
 have B0:Boxed w1 w.heap.size 3 (.int .i64 id):=by rw[hw1];exact(((jjs w _ _).alloc _).alloc _).alloc _
 have B1:Boxed w1 (w.heap.size+1) 3 (.int .i64 0):=by rw[hw1];exact((vX w _ _ _).alloc _).alloc _
 have B2:Boxed w1 (w.heap.size+1+1) 4 (.bool false):=by rw[hw1];exact(Jj w _ _ _ _).alloc _
 have B3:Boxed w1 (w.heap.size+1+1+1) 100 v:=by rw[hw1];exact jcE w _ _ _ _ _
 have hb1:Below w.heap.size w w1:=by rw[hw1];exact hb0.alloc (by simp;omega) _
 rw[<- hw1]
 clear hw1 hb0
 have HH:=Zj ps v _ w1 B3 hps (HE.out _ hb1)
 refine yO (gf:=81) (lb:=#[.pointer (some ⟨w.heap.size+1+1+1,0,none⟩)]) rfl (enters_of Tryz.func81 (by kernel_rfl) rfl) HH (fun _=>rfl)
  (fun pre W=>(∀y∈pre,y.2.1.2≠id)/\Boxed W w.heap.size 3 (.int .i64 id)/\Boxed W (w.heap.size+1) 3 (.int .i64 0)/\Boxed W (w.heap.size+1+1) 4 (.bool false)/\Boxed W (w.heap.size+1+1+1) 100 v/\Below w.heap.size w W)
  (fun c pre W=>c=.ret/\(∃k,yc ps id=some k/\Boxed W (w.heap.size+1) 3 (.int .i64 (k:Nat))/\Boxed W (w.heap.size+1+1) 4 (.bool true)/\Below w.heap.size w W))
  (by
   rw[hz]
   exact(zo.pure _ _ _).and ((zo.box (.inl (by omega)) _).and ((zo.box (.inl (by omega)) _).and ((zo.box (.inl (by omega)) _).and ((zo.box (.inl (by omega)) _).and (zo.below (jij _) (by omega)))))))
  (by
   rw[hz]
   rintro c s W W' ⟨h0,k,h1,h2,h3,h4⟩ ht
   exact⟨h0,k,h1,ht.box h2 (.inl (by omega)),ht.box h3 (.inl (by omega)),h4.trans (ht.below (by omega) (by have:=h4.size;omega))⟩)
  ⟨(fun y h=>by cases h),B0,B1,B2,B3,hb1⟩
  (fun pre W h=>⟨HE.out _ h.2.2.2.2.2,h.2.2.2.2.1⟩)
  (fun a pre x a' W=>∃Bx,w.heap.size+8<=Bx/\a'={tmps:=(((a.tmps.setIfInBounds 11 (.int .i64 (x.1:Nat))).setIfInBounds 12 (Xt x.2)).setIfInBounds 6 (.int .i64 (x.1:Nat))).setIfInBounds 7 (ptr Bx),defers:=[]}/\ja W Bx 113 #[.int .i64 x.2.1.1.kind,.string (B x.2.1.1.raw),x.2.2,.int .i64 x.2.1.2] /\
   (∀y∈pre,y.2.1.2≠id)/\Boxed W w.heap.size 3 (.int .i64 id)/\Boxed W (w.heap.size+1) 3 (.int .i64 0)/\Boxed W (w.heap.size+1+1) 4 (.bool false)/\Boxed W (w.heap.size+1+1+1) 100 v/\Below w.heap.size w W)
  ?hM ?assign ?body ?done ?stop
 case hM =>
  rw[hz]
  rintro a pre x a' _ W W' ⟨Bx,h1,h2,h3,h4,h5,h6,h7,h8,h9⟩ ht
  exact⟨Bx,h1,h2,(ht.same Bx h3.lt (.inr (by omega))).trans h3,h4,ht.box h5 (.inl (by omega)),ht.box h6 (.inl (by omega)),ht.box h7 (.inl (by omega)),ht.box h8 (.inl (by omega)),h9.trans (ht.below (by omega) (by have:=h9.size;omega))⟩
 case assign =>
  rw[hz]
  intro l pre x post W hx hsz hi
  have hfr:∃fa fc,x.2.2=.slice fa x.2.1.1.fields.length fc:=by
   have hm:=vG 0 ps x (by rw[show xP (fun p:Pr=>p.1.1.kind) 0 ps=_ from hx];simp)
   exact((HE.out _ hi.2.2.2.2.2).each x.2 (jiA hm.2.1)).form
  obtain⟨k,⟨⟨⟨kd,raw,fs⟩,num⟩,fv⟩⟩:=x
  obtain⟨fa,fc,e⟩:=hfr
  dsimp only at e
  subst e
  clear hx
  dsimp only[Xt]
  gi_wp2
  exact⟨(qC.refl _ _ W).alloc hsz _,W.heap.size,by omega,rfl,ja.new _ _ _,hi.1,hi.2.1.alloc _,hi.2.2.1.alloc _,hi.2.2.2.1.alloc _,hi.2.2.2.2.1.alloc _,hi.2.2.2.2.2.alloc hi.2.2.2.2.2.size _⟩
 case body =>
  rw[hz]
  rintro l pre x post a' W hx hsz ⟨Bx,hB,rfl,hc,hpre,b0,b1,b2,b3,hb⟩
  simp only[jiC,jjj,jjk,Xt]
  have q3:=(jeT hc).2.2.2
  have c0:=b0.cell
  have c1:=b1.cell
  have c2:=b2.cell
  have f1:=b1.frozen
  have f2:=b2.frozen
  have FS:=jii (fun h=>jb9 hx hpre h)
  have HPRE:=jii hpre
  clear hpre hx
  by_cases hq:x.2.1.2=id
  ·rw[hq]at q3
   gi_wp2_with fail
   have hst:qC (w.heap.size+4) 4 W ((W.setCell ⟨w.heap.size+1,0,none⟩ (.int .i64 (x.1:Nat))).setCell ⟨w.heap.size+1+1,0,none⟩ (.bool true)):=((qC.refl _ _ W).setCell (.inl (by show w.heap.size+1<_;omega)) _).setCell (.inl (by show w.heap.size+1+1<_;omega)) _
   refine⟨hst,rfl,x.1,FS.out hq,(jjg _ b1).other (by show w.heap.size+1≠w.heap.size+1+1;omega) _,jjg _ (b2.other (by show w.heap.size+1+1≠w.heap.size+1;omega) _),?_⟩
   exact(hb.setCell (p:=⟨w.heap.size+1,0,none⟩) (by show w.heap.size<=w.heap.size+1;omega) _).setCell (p:=⟨w.heap.size+1+1,0,none⟩) (by show w.heap.size<=w.heap.size+1+1;omega) _
  have hq':((x.2.1.2:Int)==id)=false:=beq_eq_false_iff_ne.2 hq
  gi_wp2_with fail
  refine⟨qC.refl _ _ _,?_,b0,b1,b2,b3,hb⟩
  intro y hy
  rcases List.mem_append.1 hy with h|h
  ·exact HPRE.out y h
  rw[List.mem_singleton.1 h];exact hq
 case done =>
  rw[hz]
  rintro W ⟨hpre,b0,b1,b2,b3,hb⟩ hK
  have c1:=b1.cell
  have c2:=b2.cell
  have f1:=b1.frozen
  have f2:=b2.frozen
  have FN:=jii (jcb hpre)
  have zK:=(Array.getElem?_eq_some_iff.1 hK).1
  clear hpre
  gi_wp2_with fail
  refine jce w _ (.int .i64 0) (.bool false) _ rfl rfl ((jjg _ b1).other (by show w.heap.size+1≠w.heap.size+1+1;omega) _) (jjg _ (b2.other (by show w.heap.size+1+1≠w.heap.size+1;omega) _))
   ((hb.setCell (p:=⟨w.heap.size+1,0,none⟩) (by show w.heap.size<=w.heap.size+1;omega) _).setCell (p:=⟨w.heap.size+1+1,0,none⟩) (by show w.heap.size<=w.heap.size+1+1;omega) _)
   (((jiS _ _ _ _ (by show w.heap.size+4≠w.heap.size+1+1;omega)).trans (jiS _ _ _ _ (by show w.heap.size+4≠w.heap.size+1;omega))).trans hK) rfl rfl (fun W' h=>⟨?_,h⟩)
  rw[FN.out];rfl
 case stop =>
 rw[hz]
 rintro c pre W _ ⟨rfl,k,hk,b1,b2,hb⟩ hK
 gi_wp2_with fail
 refine jce w _ (.int .i64 (k:Nat)) (.bool true) _ rfl rfl b1 b2 hb hK rfl rfl (fun W' h=>⟨?_,h⟩)
 rw[hk];rfl
theorem jfD(ps:List Pr)(v:Value)(q:Option Addr)(w:World)(hl:∀W,Below w.heap.size w W->jcZ W (.pointer q) v ps)(hps:ps.length<=1000000):
  Calls Tryz.prog 36 #[.pointer q] w fun e w'=>e=.returned (.int .i64 ((yJ 0 ps).length:Nat))/\Below w.heap.size w w':=by
 obtain⟨A,cap,hv,hle⟩:=(hl w (jil _ _)).1.empty
 have ALL:=jii (fun W hB=>callsIn_wide (n:=8).2 (hl W hB).2)
 have HE:=jii (fun W hB=>(hl W hB).1)
 have ST:=jii (fun W=>callsIn_wide (n:=8).2 (VB v W A ps.length cap hv))
 have HSL:=jii (jiI (JU (κ:=fun p:Pr=>p.1.1.kind) 0 ps) hps)
 clear hl hv
 refine callsIn_wide (n:=9).1 ?_
 refine callsIn_of_wp_marks Tryz.func36 rfl trivial ?_ rfl
 simp only[Tryz.ntmps36,ji5,jin,jiJ,Nat.reduceAdd,Nat.reduceSub,ji3,ji4,jje,ji6,jiZ,jiz]
 gi_wp2_with fail
 have hb0:Below w.heap.size w (w.alloc (.cells #[.int .i64 0] 3)):=(jil _ w).alloc (jij _) _
 refine⟨trivial,(ALL.out _ hb0).mono ?_⟩
 rintro e w1 ⟨rfl,rfl⟩
 gi_wp2_with fail
 refine⟨trivial,(ST.out _).mono ?_⟩
 rintro e w1 ⟨rfl,rfl⟩
 gi_wp2_with fail
 obtain⟨w1,hw1⟩:∃w1,w1=((w.alloc (.cells #[.int .i64 0] 3)).alloc (.cells #[v] 100)):=⟨_,rfl⟩
 have hz:w1.heap.size=w.heap.size+2:=by rw[hw1];simp
 have B0:Boxed w1 w.heap.size 3 (.int .i64 0):=by rw[hw1];exact(jjs w _ _).alloc _
 have B1:Boxed w1 (w.heap.size+1) 100 v:=by rw[hw1];exact vX w _ _ _
 have hb1:Below w.heap.size w w1:=by rw[hw1];exact hb0.alloc (by simp) _
 rw[<- hw1]
 clear hw1 hb0
 have HH:=Zj ps v _ w1 B1 hps (HE.out _ hb1)
 refine yO (gf:=81) (lb:=#[.pointer (some ⟨w.heap.size+1,0,none⟩)]) rfl (enters_of Tryz.func81 (by kernel_rfl) rfl) HH (fun _=>rfl)
  (fun pre W=>Boxed W w.heap.size 3 (.int .i64 (pre.length:Nat))/\Boxed W (w.heap.size+1) 100 v/\Below w.heap.size w W)
  (fun _ _ _=>False)
  (by
   rw[hz]
   exact(zo.box (.inl (by omega)) (fun pre:List (Nat×Pr)=>.int .i64 (pre.length:Nat))).and ((zo.box (.inl (by omega)) _).and (zo.below (jij _) (by omega))))
  (fun _ _ _ _ hs _=>hs)
  ⟨B0,B1,hb1⟩
  (fun pre W h=>⟨HE.out _ h.2.2,h.2.1⟩)
  (fun a pre x a' W=>a'={tmps:=(a.tmps.setIfInBounds 7 (.int .i64 (x.1:Nat))).setIfInBounds 8 (Xt x.2),defers:=[]} /\
   Boxed W w.heap.size 3 (.int .i64 (pre.length:Nat))/\Boxed W (w.heap.size+1) 100 v/\Below w.heap.size w W)
  ?hM ?assign ?body ?done ?stop
 case hM =>
  rw[hz]
  rintro a pre x a' _ W W' ⟨h1,h2,h3,h4⟩ ht
  exact⟨h1,ht.box h2 (.inl (by omega)),ht.box h3 (.inl (by omega)),h4.trans (ht.below (by omega) (by have:=h4.size;omega))⟩
 case assign =>
  rw[hz]
  intro l pre x post W hx hsz hi
  clear hx
  gi_wp2
  exact⟨qC.refl _ _ _,rfl,hi⟩
 case body =>
  rw[hz]
  rintro l pre x post a' W hx hsz ⟨rfl,b0,b1,hb⟩
  have hn:pre.length<=1000000:=by have:=congrArg List.length hx;have h2:=HSL.out;rw[this]at h2;simp at h2;omega
  simp only[jiC,jjj,jjk,Xt]
  have c0:=b0.cell
  have f0:=b0.frozen
  clear hx
  gi_wp2_with fail
  have hwr:(((pre++[x]).length:Nat):Int)=(pre.length:Int)+1:=by simp
  refine⟨(qC.refl _ _ W).setCell (.inl (by show w.heap.size<_;omega)) _,?_,b1.other (by show w.heap.size+1≠w.heap.size;omega) _,hb.setCell (p:=⟨w.heap.size,0,none⟩) (jij _) _⟩
  rw[hwr];exact jjg _ b0
 case done =>
  rw[hz]
  rintro W ⟨b0,b1,hb⟩ hK
  have c:=b0.cell
  gi_wp2
  refine⟨by simp,.inl ⟨_,_,rfl,run_takeDeferred hK,?_⟩⟩
  exact⟨_,results_tmp rfl _ _ _,rfl,hb.trans (belowK_b (w:=w) (jij _) W _ _ _ (by omega) hK rfl rfl)⟩
 case stop =>
 intro c pre W _ h _
 exact h.elim
theorem VS(lb:Nat)(ev:Value)(ps:List Pr)(nx:Int)(w:World)(h:LR w lb ev ps nx)(hn : -1000000<=nx/\nx<=1000000):
  Calls Tryz.prog 17 #[ptr lb] w fun e w'=>e=.returned (.int .i64 nx)/\w=w':=by
 have c1:w.cell? ⟨lb,1,none⟩=some (.int .i64 (nx-1)):=h.head.cell 1
 clear h
 have hw:IntKind.i64.wrap (nx-1+1)=nx:=by rw[show nx-1+1=nx by omega];exact jiM _ (by omega)
 unfold ptr
 go_enter Tryz.func17,Tryz.ntmps17
 go_wp2_with fail
 go_ret
 exact⟨by rw[<- hw];rfl,rfl⟩
end Go.Proofs.YtimfhnfcmhmjcaaGreatDoor
